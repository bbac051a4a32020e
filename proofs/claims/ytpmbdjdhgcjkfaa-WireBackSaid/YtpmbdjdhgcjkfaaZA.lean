/- Bytes lent, bytes as strings, and the sum of none; by-name template (gen_wlent.py). -/
import Derived.Test.YtpmbdjdhgcjkfaaWRTot
import Derived.Test.YtpmbdjdhgcjkfaaWFrame
import Derived.Laws.BytesString
import Derived.Laws.AppendOwnNone
import Derived.Test.YtpmbdjdhgcjkfaaWRBytes
import Derived.Laws.CopyOwn
import Derived.Laws.MakeOwn
import Derived.Lib.SliceRun
namespace Go.Proofs.Ytpmbdjdhgcjkfaa
open Go.ChangeShapes Go.WideShapes Go.ChangeAt Go.RowKit Go.Sort
set_option linter.unusedVariables false
set_option linter.unusedSimpArgs false

/-- Bytes that came in; without an address there are none, and no room. -/
def BytA (w : World) (A : Option Addr) (n c : Nat) (l : List UInt8) : Prop := BytArg w A n c l ∧ (A = none → n = 0 ∧ c = 0)
theorem BytA.below {w w' : World} {A : Option Addr} {n c : Nat} {l : List UInt8} (h : BytA w A n c l) (hb : Below w.heap.size w w') : BytA w' A n c l := ⟨h.1.below hb, h.2⟩

section
variable {H : Type} {enc : TypeId × Value → H} {w : World} {base : Nat} {spare : Nat → Bool} {held : Bool}
theorem open_bytesA {fuel : Nat} {A : Option Addr} {n c : Nat} {x : DataW H × List MemPlace} (h : DataW.trod enc Try.prog w base spare held fuel 22 [.slice A n c] = some x) :
    ∃ l : List UInt8, BytA w A n c l := by
  obtain ⟨l, hl⟩ := open_bytes h
  refine ⟨l, hl, fun e => ?_⟩
  subst e
  rcases open_ints Try.underlying22 Try.underlying5 byte_cells h with ⟨hcs, _⟩ | ⟨p, len, cap, zs, hcs, _⟩
  · simp only [List.cons.injEq, Value.slice.injEq, and_true] at hcs
    exact ⟨hcs.2.1, hcs.2.2⟩
  · simp at hcs
end

/-- Bytes as a string. -/
def strB (l : List UInt8) : ByteArray := (l.map fun x => ((x.toNat : Nat) : Int)).foldl (fun r n => r.push (UInt8.ofNat n.toNat)) ByteArray.empty

theorem news_arg {w : World} {a : Addr} {n c : Nat} {l : List UInt8} (h : BytArg w (some a) n c l) (j : Nat) (u : Value) (hj : (bc l)[j]? = some u) : w.cell? (a.add j) = some u := by
  by_cases h0 : n = 0
  · have : l = [] := List.length_eq_zero_iff.1 (by rw [h.1, h0])
    subst this
    simp [bc] at hj
  · obtain ⟨g, o, e, hb⟩ := h.2.2.2 (by omega)
    cases e
    exact hb.newsO j u hj

theorem conv_bytes {w : World} {A : Option Addr} {n c : Nat} {l : List UInt8} (h : BytArg w A n c l) :
    (convert 22 9 (.slice A n c)).run Try.prog w = .ok (.string (strB l)) w := by
  rw [run_convert_bytes_string w 22 9 5 A n c Try.underlying22 Try.underlying5 Try.underlying9]
  cases A with
  | none =>
    have h0 : n = 0 := by
      by_cases h0 : n = 0
      · exact h0
      · obtain ⟨g, o, e, _⟩ := h.2.2.2 (by omega); cases e
    have : l = [] := List.length_eq_zero_iff.1 (by rw [h.1, h0])
    subst this
    rfl
  | some a =>
    have hl : (loadCells a n).run Try.prog w = .ok ((l.map fun x => ((x.toNat : Nat) : Int)).map (Value.int .u8)).toArray w := by
      have := run_loadCells_list (P := Try.prog) w a (bc l) (news_arg h)
      rw [bc_len, h.1] at this
      rw [this]
      simp [bc, Function.comp_def]
    exact run_bytesToString w a n c _ hl

set_option maxHeartbeats 1000000 in
/-- The document's sum of no bytes. -/
theorem rsum_none (A : Option Addr) (c : Nat) (w : World) :
    Calls Try.prog 16 #[.slice A 0 c] w fun e w' => e = .returned (.int .i64 65535) ∧ w = w' := by
  go_enter Try.func16, Try.ntmps16
  go_wp2
  go_loopw [3, 4] (fun v3 v4 wr => v3 = .int .i64 0 ∧ v4 = .int .i64 0 ∧ wr = w) (fun _ v4 _ => 0)
  case atStart => exact ⟨rfl, rfl, rfl⟩
  case round =>
    obtain ⟨rfl, rfl, hw⟩ := hrel
    subst hw
    go_wp2
    go_loopw [3] (fun v3 wq => v3 = .int .i64 0 ∧ wq = wr) (fun v3 _ => 0)
    case atStart => exact ⟨rfl, rfl⟩
    case round =>
      obtain ⟨rfl, hw⟩ := hrel
      subst hw
      go_wp2
      go_ret
      exact ⟨rfl, rfl⟩
theorem sumP_nil : sumP [] = 65535 := by unfold sumP; simp [w16, f16]
theorem rsum_arg (A : Option Addr) (n c : Nat) (l : List UInt8) (hm : n ≤ 70000) {w : World} (h : BytArg w A n c l) :
    Calls Try.prog 16 #[.slice A n c] w fun e w' => e = .returned (.int .i64 (sumP l : Nat)) ∧ w = w' := by
  by_cases h0 : n = 0
  · have hl : l = [] := List.length_eq_zero_iff.1 (by rw [h.1, h0])
    subst h0; subst hl
    rw [sumP_nil]
    exact rsum_none A c w
  · obtain ⟨g, o, rfl, hb⟩ := h.2.2.2 (by omega)
    exact rsum_big g o c n l h.1 hm hb

set_option maxHeartbeats 2000000 in
set_option maxRecDepth 100000 in
theorem lent_some (a : Addr) (n c : Nat) (l : List UInt8) (hm : n ≤ 65536) {w : World} (h : BytArg w (some a) n c l) :
    Calls Try.prog 14 #[.slice (some a) n c] w fun e w' => ∃ g cx, e = .returned (.slice (some ⟨g, 0, none⟩) (n + 1 : Nat) cx) ∧ n + 1 ≤ cx ∧ cx ≤ maxLen ∧ Byt w' g 0 (l ++ [77]) ∧ w.heap.size ≤ g ∧ Below w.heap.size w w' := by
  have hl : (bc l).length = n * 1 := by rw [bc_len, h.1, Nat.mul_one]
  have hnews := fun (W : World) (hW : Below w.heap.size w W) => news_arg (h.below hW)
  clear h
  obtain ⟨i0, hi, hz0, hz1, hz2⟩ := info_parts info8
  have h77 : bc [77] = [.int .u8 77] := rfl
  go_enter Try.func14, Try.ntmps14
  go_wp2_with (at_builtin; go_loud (refine wpList_append_own _ rfl _ _ 22 rfl w.heap.size 5 i0 (.int .u8 0) 1 1 Try.underlying22 hi hz0 hz1 hz2 rfl (by decide) _ _ _ rfl (World.ownsRow_made w #[] 0 (Nat.le_refl _) (by unfold maxLen; omega) rfl) a n c (bc l) rfl hl (hnews _ (Below.al (Below.refl _ _) _)) (bc_one _) (by unfold maxLen; omega) (by omega) (by simp) ?m3))
  case m3 =>
    intro v3 w3 hown3 hgrow _
    have bw3 : Below w.heap.size w w3 := (Below.al (Below.refl _ _) _).grown hgrow (by simp) (fun k hk => by simp [Value.ownBlock] at hk; omega)
    have hown3 : w3.ownsRow w.heap.size 5 1 v3 n (bc l) := by first | exact hown3 | simpa using hown3
    clear hgrow hnews
    go_wp2_with (at_builtin; go_loud (refine wpList_append_own _ rfl _ _ 22 rfl w.heap.size 5 i0 (.int .u8 0) 1 1 Try.underlying22 hi hz0 hz1 hz2 rfl (by decide) _ _ _ rfl (hown3.alloc _) ⟨w3.heap.size, 0, none⟩ 1 1 [.int .u8 77] rfl rfl ?n1 ?n2 (by unfold maxLen; omega) (by omega) (by have := bw3.size; simp; omega) ?n3))
    case n1 =>
      intro j u hj
      have hb : (w3.alloc (.cells #[.int .u8 77] 5)).heap[w3.heap.size]? = some (.cells #[.int .u8 77] 5 (0, 0)) := al_neww rfl _
      rw [show (⟨w3.heap.size, 0, none⟩ : Addr).add j = ⟨w3.heap.size, j, none⟩ by unfold Addr.add; split <;> simp_all]
      simp only [World.cell?, hb]
      simpa using hj
    case n2 =>
      intro u hu
      simp only [List.mem_cons, List.mem_nil_iff, or_false] at hu
      rcases hu with rfl; rfl
    case n3 =>
      intro v7 w7 hown7 hgrow7 _
      have bw7 : Below w.heap.size w w7 := (bw3.alloc bw3.size _).grown hgrow7 (by have := bw3.size; simp; omega) (fun k hk => own_lt' hown3 hk)
      rw [← h77, ← bc_app] at hown7
      obtain ⟨g3, c3, rfl, hg3, hgl3, hcap3, hcm3, _⟩ := own_form hown7 (by omega)
      go_wp2
      go_ret
      exact ⟨g3, c3, rfl, hcap3, hcm3, Byt.own hown7, hg3, bw7⟩

set_option maxHeartbeats 2000000 in
set_option maxRecDepth 100000 in
theorem lent_none  (n c : Nat) (l : List UInt8) (hm : n ≤ 65536) {w : World} (h : n = 0 ∧ c = 0 ∧ l = []) :
    Calls Try.prog 14 #[.slice none n c] w fun e w' => ∃ g cx, e = .returned (.slice (some ⟨g, 0, none⟩) (n + 1 : Nat) cx) ∧ n + 1 ≤ cx ∧ cx ≤ maxLen ∧ Byt w' g 0 (l ++ [77]) ∧ w.heap.size ≤ g ∧ Below w.heap.size w w' := by
  obtain ⟨rfl, rfl, rfl⟩ := h
  obtain ⟨i0, hi, hz0, hz1, hz2⟩ := info_parts info8
  have h77 : bc [77] = [.int .u8 77] := rfl
  go_enter Try.func14, Try.ntmps14
  go_wp2_with (first | (with_reducible refine stop_op (o := ⟨some 9, _, _, _, _, _⟩) ?_) | (at_builtin; refine wpList_append_own_none rfl _ _ 22 rfl w.heap.size 5 i0 1 Try.underlying22 hi _ _ _ rfl (World.ownsRow_made w #[] 0 (Nat.le_refl _) (by unfold maxLen; omega) rfl) rfl ?_))
  obtain ⟨w3, hw3⟩ : ∃ x, x = w.alloc (.cells #[] 5) := ⟨_, rfl⟩
  have hown3 : w3.ownsRow w.heap.size 5 1 (.slice (some ⟨w.heap.size, 0, none⟩) 0 0) 0 (bc []) := by rw [hw3]; exact World.ownsRow_made w #[] 0 (Nat.le_refl _) (by unfold maxLen; omega) rfl
  have bw3 : Below w.heap.size w w3 := by rw [hw3]; exact Below.al (Below.refl _ _) _
  rw [← hw3]
  clear hw3
  generalize Value.slice (some ⟨w.heap.size, 0, none⟩) 0 0 = v3 at *
  refine Lib.hid ?_
  go_wp2_with (at_builtin; go_loud (refine wpList_append_own _ rfl _ _ 22 rfl w.heap.size 5 i0 (.int .u8 0) 1 1 Try.underlying22 hi hz0 hz1 hz2 rfl (by decide) _ _ _ rfl (hown3.alloc _) ⟨w3.heap.size, 0, none⟩ 1 1 [.int .u8 77] rfl rfl ?n1 ?n2 (by unfold maxLen; omega) (by omega) (by have := bw3.size; simp; omega) ?n3))
  case n1 =>
    intro j u hj
    have hb : (w3.alloc (.cells #[.int .u8 77] 5)).heap[w3.heap.size]? = some (.cells #[.int .u8 77] 5 (0, 0)) := al_neww rfl _
    rw [show (⟨w3.heap.size, 0, none⟩ : Addr).add j = ⟨w3.heap.size, j, none⟩ by unfold Addr.add; split <;> simp_all]
    simp only [World.cell?, hb]
    simpa using hj
  case n2 =>
    intro u hu
    simp only [List.mem_cons, List.mem_nil_iff, or_false] at hu
    rcases hu with rfl; rfl
  case n3 =>
    intro v7 w7 hown7 hgrow7 _
    have bw7 : Below w.heap.size w w7 := (bw3.alloc bw3.size _).grown hgrow7 (by have := bw3.size; simp; omega) (fun k hk => own_lt' hown3 hk)
    rw [← h77, ← bc_app] at hown7
    obtain ⟨g3, c3, rfl, hg3, hgl3, hcap3, hcm3, _⟩ := own_form hown7 (by omega)
    go_wp2
    go_ret
    exact ⟨g3, c3, rfl, hcap3, hcm3, Byt.own hown7, hg3, bw7⟩

/-- lent. -/
theorem lent_any (A : Option Addr) (n c : Nat) (l : List UInt8) (hm : n ≤ 65536) {w : World} (h : BytA w A n c l) :
    Calls Try.prog 14 #[.slice A n c] w fun e w' => ∃ g cx, e = .returned (.slice (some ⟨g, 0, none⟩) (n + 1 : Nat) cx) ∧ n + 1 ≤ cx ∧ cx ≤ maxLen ∧ Byt w' g 0 (l ++ [77]) ∧ w.heap.size ≤ g ∧ Below w.heap.size w w' := by
  cases A with
  | none =>
    obtain ⟨h0, hc⟩ := h.2 rfl
    exact lent_none n c l hm ⟨h0, hc, List.length_eq_zero_iff.1 (by rw [h.1.1, h0])⟩
  | some a => exact lent_some a n c l hm h.1
end Go.Proofs.Ytpmbdjdhgcjkfaa

namespace Go.Proofs.Ytpmbdjdhgcjkfaa
open Go.RowKit Go.Sort
set_option linter.unusedVariables false
set_option linter.unusedSimpArgs false

/-- Block B is these bytes, and no more. -/
def Row (w : World) (B : Nat) (L : List UInt8) : Prop := w.heap[B]? = some (.cells (bc L).toArray 5 (0, 0))
theorem bc_getE (L : List UInt8) (k : Nat) : (bc L)[k]? = (L[k]?).map fun x => .int .u8 (x.toNat : Nat) := by
  unfold bc; rw [List.getElem?_map]
theorem Row.cell {w : World} {B : Nat} {L : List UInt8} (h : Row w B L) (k : Nat) : w.cell? ⟨B, k, none⟩ = (L[k]?).map fun x => .int .u8 (x.toNat : Nat) := by
  unfold Row at h
  simp [World.cell?, h, bc_getE]
theorem Row.byt {w : World} {B : Nat} {L : List UInt8} (h : Row w B L) : Byt w B 0 L := fun k x hx => by
  rw [Nat.zero_add, h.cell, hx]; rfl
theorem Row.lt {w : World} {B : Nat} {L : List UInt8} (h : Row w B L) : B < w.heap.size := (Array.getElem?_eq_some_iff.1 h).1
theorem Row.below {w w' : World} {B : Nat} {L : List UInt8} (h : Row w B L) (hb : Below w.heap.size w w') : Row w' B L := (hb.block B h.lt).trans h
theorem Row.frozen {w : World} {B : Nat} {L : List UInt8} (h : Row w B L) (k : Nat) : w.frozen? ⟨B, k, none⟩ = false := by
  unfold Row at h
  simp [World.frozen?, h]
theorem Row.room {w : World} {B : Nat} {L : List UInt8} (h : Row w B L) {o m : Nat} (hm : o + m ≤ L.length) : Room w B o m := fun j hj =>
  ⟨⟨_, by rw [h.cell, List.getElem?_eq_getElem (show o + j < L.length by omega)]; rfl⟩, h.frozen _⟩
theorem Row.own {w : World} {B : Nat} {L : List UInt8} (h : Row w B L) {base n : Nat} (hb : base ≤ B) (hn : L.length = n) (hm : n ≤ maxLen) :
    w.ownsRow base 5 1 (.slice (some ⟨B, 0, none⟩) n n) n (bc L) :=
  ⟨by rw [bc_len, hn, Nat.mul_one], .inr ⟨B, n, (bc L).toArray, rfl, hb, h, Nat.le_refl _, hm, by simp [bc_len, hn], by simp only [List.toList_toArray]; rw [List.take_of_length_le (by rw [bc_len]; omega)]⟩⟩
/-- Part of it is written anew. -/
theorem Row.wr {w w' : World} {B o : Nat} {L L' a b c bs : List UInt8} (h : Row w B L) (hw : Wr w B o bs w') (hL : L = a ++ b ++ c) (ho : a.length = o) (hb : bs.length = b.length) (hL' : L' = a ++ bs ++ c) : Row w' B L' := by
  subst hL; subst ho; subst hL'
  obtain ⟨cs, hs, hk⟩ := hw.kind _ _ _ h
  unfold Row
  rw [hk]
  congr 2
  have hlen : cs.size = (a ++ bs ++ c).length := by rw [hs]; simp [bc_len, hb]
  apply Array.ext_getElem?
  intro k
  rw [show (bc (a ++ bs ++ c)).toArray[k]? = (bc (a ++ bs ++ c))[k]? by simp, bc_getE]
  have hc : w'.cell? ⟨B, k, none⟩ = cs[k]? := by simp [World.cell?, hk]
  rw [← hc]
  by_cases h1 : k < a.length
  · rw [hw.out k (by omega), h.cell, List.append_assoc, List.append_assoc, List.getElem?_append_left h1, List.getElem?_append_left h1]
  · by_cases h2 : k < a.length + bs.length
    · rw [List.append_assoc, List.getElem?_append_right (by omega), List.getElem?_append_left (by omega)]
      have hx : bs[k - a.length]? = some (bs[k - a.length]'(by omega)) := List.getElem?_eq_getElem _
      have := hw.inn _ _ hx
      rw [show a.length + (k - a.length) = k by omega] at this
      rw [this, hx]; rfl
    · rw [hw.out k (by omega), h.cell, List.getElem?_append_right (by rw [List.length_append]; omega), List.getElem?_append_right (by rw [List.length_append]; omega), List.length_append, List.length_append, hb]
theorem Row.set {w : World} {B o : Nat} {L L' a c : List UInt8} {y : UInt8} (h : Row w B L) (x : UInt8) (hL : L = a ++ [y] ++ c) (ho : a.length = o) (hL' : L' = a ++ [x] ++ c) : Row (w.setCell ⟨B, o, none⟩ (.int .u8 (x.toNat : Nat))) B L' := by
  have hc : ∃ v, w.cell? ⟨B, o, none⟩ = some v := ⟨_, by
    rw [h.cell, hL, ← ho, List.append_assoc, List.getElem?_append_right (Nat.le_refl _)]; simp; rfl⟩
  exact h.wr ((Wrote.nil w B (o + 1)).cons x hc).wr hL ho rfl hL'
theorem Row.new (w : World) (L : List UInt8) : Row (w.alloc (.cells (bc L).toArray 5)) w.heap.size L := al_neww rfl _

/-- Noughts that are not written yet. -/
def Zs (n : Nat) : List UInt8 := List.replicate n 0
theorem Zs_len (n : Nat) : (Zs n).length = n := by simp [Zs]
theorem Zs_add (k m : Nat) : Zs (k + m) = Zs k ++ Zs m := by unfold Zs; rw [List.replicate_append_replicate]
theorem Row.wz {w w' : World} {B o q k m : Nat} {p bs : List UInt8} (h : Row w B (p ++ Zs q)) (hw : Wr w B o bs w') (hq : q = k + m) (ho : p.length = o) (hb : bs.length = k) : Row w' B (p ++ bs ++ Zs m) := by
  refine h.wr hw (a := p) (b := Zs k) (c := Zs m) (by rw [hq, Zs_add, List.append_assoc]) ho (by rw [hb, Zs_len]) rfl
theorem Row.sz {w : World} {B o q m : Nat} {p : List UInt8} (h : Row w B (p ++ Zs q)) (x : UInt8) (hq : q = 1 + m) (ho : p.length = o) : Row (w.setCell ⟨B, o, none⟩ (.int .u8 (x.toNat : Nat))) B (p ++ [x] ++ Zs m) := by
  refine h.set x (a := p) (y := 0) (c := Zs m) (by rw [hq, Zs_add, List.append_assoc]; rfl) ho rfl
theorem splice_bc (p b d : List UInt8) (o : Nat) (ho : p.length = o) (hb : b.length = d.length) : splice (bc (p ++ b)) o (bc d) = bc (p ++ d) := by
  subst ho
  unfold splice
  rw [bc_app, bc_app, bc_len]
  have e1 : (bc p ++ bc b).take p.length = bc p := by rw [← bc_len p]; exact List.take_left
  have e2 : (bc p ++ bc b).drop (p.length + d.length) = [] := List.drop_eq_nil_of_le (by rw [List.length_append, bc_len, bc_len]; omega)
  rw [e1, e2, List.append_nil]

theorem made_bytes (n : Nat) : madeCells (Value.cells (.int .u8 0)) (n * 1) = (bc (List.replicate n 0)).toArray := by
  rw [Nat.mul_one]
  apply Array.toList_inj.1
  rw [show Value.cells (.int .u8 0) = #[.int .u8 0] from rfl, toList_madeCells_one]
  simp [bc]
/-- make([]byte, n). -/
theorem make_run (n : Nat) (hn : n ≤ 281474976710656) (w : World) :
    (Instr.makeSlice 22 (.int .i64 (n : Int)) (.int .i64 (n : Int))).run Try.prog w = .ok (.slice (some ⟨w.heap.size, 0, none⟩) n n) (w.alloc (.cells (bc (List.replicate n 0)).toArray 5)) := by
  obtain ⟨i0, hi, hz0, hz1, hz2⟩ := info_parts info8
  have := run_make (P := Try.prog) w 22 5 i0 (.int .u8 0) Try.underlying22 hi hz0 .i64 .i64 (n : Int) (n : Int) (by omega) (Int.le_refl _) (by rw [hz2]; omega) (by omega)
  rw [this, hz1, Int.toNat_natCast, made_bytes]
end Go.Proofs.Ytpmbdjdhgcjkfaa

namespace Go.Proofs.Ytpmbdjdhgcjkfaa
open Go.RowKit Go.Sort
set_option linter.unusedVariables false
set_option linter.unusedSimpArgs false

/-- The lowest byte of a number. -/
def loB (n : Int) : UInt8 := UInt8.ofNat (n % 256).toNat
theorem loB_val (n : Int) : ((loB n).toNat : Int) = n % 256 := by
  unfold loB
  rw [UInt8.toNat_ofNat', show (2 : Nat) ^ 8 = 256 from rfl]
  omega
/-- A TCP header, with its data. -/
def tcpB (sp dp : Int) (sq ak : Nat) (fl wn : Int) (l : List UInt8) : List UInt8 :=
  beB 2 (lowN sp) ++ beB 2 (lowN dp) ++ (beB 4 sq ++ beB 4 ak) ++ [80] ++ [loB fl] ++ beB 2 (lowN wn) ++ Zs 4 ++ l
/-- A UDP header, with its data. -/
def udpB (sp dp : Int) (l : List UInt8) : List UInt8 :=
  beB 2 (lowN sp) ++ beB 2 (lowN dp) ++ beB 2 (8 + l.length) ++ Zs 2 ++ l
theorem low_wrap (x : Int) : IntKind.u64.wrap x = ((lowN x : Nat) : Int) := by rw [IntKind.wrap_u64]; unfold lowN; omega
theorem low_lt (x : Int) : lowN x < 18446744073709551616 := by unfold lowN; omega
theorem elem8 : (Try.prog.info? 5).map (·.size) = some 1 := by kernel_rfl
theorem cut_end (g n k : Nat) (h : k ≤ n) (hn : n ≤ 9223372036854775807) : ∃ dp : Option Addr, (∀ W, (Instr.slice 22 (.slice (some ⟨g, 0, none⟩) n n) (some (.int .i64 (k : Nat))) none none).run Try.prog W = .ok (.slice dp (n - k) (n - k)) W) ∧ (0 < n - k → dp = some ⟨g, k, none⟩) := by
  by_cases hk : k < n
  · refine ⟨some ⟨g, k, none⟩, fun W => ?_, fun _ => rfl⟩
    have := cut_l g 0 n n k (by omega) hk hn (Nat.le_refl _) W
    rw [Nat.zero_add] at this
    exact this
  · obtain rfl : k = n := by omega
    refine ⟨some ⟨g, 0, none⟩, fun W => ?_, fun h => absurd h (by omega)⟩
    have hz : (sizeOf (Try.prog.elem 22)).run Try.prog W = .ok 1 W := by kernel_rfl
    rw [run_slice_l W 22 (some ⟨g, 0, none⟩) k k (by kernel_rfl) .i64 (k : Nat) (by omega) (by omega), hz]
    simp [Result.andThen, sliced]

set_option maxHeartbeats 2000000 in
set_option maxRecDepth 100000 in
theorem ptcp_any (A : Option Addr) (n c : Nat) (l : List UInt8) (sp dp : Int) (sq ak : Nat) (fl wn : Int) (hsq : sq < 4294967296) (hak : ak < 4294967296) {w : World} (h : BytArg w A n c l) (hm : n ≤ 65536) :
    Calls Try.prog 23 #[.int .i64 sp, .int .i64 dp, .int .u32 (sq : Nat), .int .u32 (ak : Nat), .int .i64 fl, .int .i64 wn, .slice A n c] w fun e w' => ∃ B, e = .returned (.slice (some ⟨B, 0, none⟩) (20 + n : Nat) (20 + n : Nat)) ∧ Row w' B (tcpB sp dp sq ak fl wn l) ∧ w.heap.size ≤ B ∧ Below w.heap.size w w' := by
  have e1 := low_wrap sp
  have e2 := low_wrap dp
  have e3 := low_wrap wn
  have hs := low_lt sp
  have hd := low_lt dp
  have hw := low_lt wn
  have eb : IntKind.u8.wrap fl = ((loB fl).toNat : Int) := by rw [IntKind.wrap_u8, loB_val]
  have eq : IntKind.u64.wrap (sq : Int) = (sq : Int) := by rw [IntKind.wrap_u64]; omega
  have ea : IntKind.u64.wrap (ak : Int) = (ak : Int) := by rw [IntKind.wrap_u64]; omega
  unfold tcpB
  generalize lowN sp = SP at *
  generalize lowN dp = DP at *
  generalize lowN wn = WN at *
  generalize loB fl = FL at *
  obtain ⟨N, hN⟩ : ∃ N, N = 20 + n := ⟨_, rfl⟩
  have wN : IntKind.i64.wrap (20 + (n : Int)) = (N : Int) := by rw [IntKind.wrap_i64]; omega
  have NB : N < 70000 := by omega
  have N20 : 20 ≤ N := by omega
  have Ni : (N : Int) < 70000 := by omega
  have nI : (n : Int) ≤ 65536 := by omega
  rw [← hN]
  have mk := make_run N (by omega)
  have j12 : (12 : Int) < (N : Int) := by omega
  have k12 : 12 < N := by omega
  have j13 : (13 : Int) < (N : Int) := by omega
  have k13 : 13 < N := by omega
  have HN := Lib.hid hN
  have HA := Lib.hid h
  clear h hN
  go_enter Try.func23, Try.ntmps23
  go_wp2_with (with_reducible refine stop_op (o := ⟨some 22, _, _, _, _, _⟩) ?_)
  obtain ⟨w1, hw1⟩ : ∃ x, x = w.alloc (.cells (bc (List.replicate N 0)).toArray 5) := ⟨_, rfl⟩
  have R1 : Row w1 w.heap.size ([] ++ Zs N) := by rw [hw1]; exact Row.new w _
  have b1 : Below w.heap.size w w1 := by rw [hw1]; exact Below.al (Below.refl _ _) _
  first | rw [← hw1] | (simp only [List.replicate] at hw1; rw [← hw1])
  clear hw1 mk
  obtain ⟨B, hB⟩ : ∃ B, B = w.heap.size := ⟨_, rfl⟩
  rw [← hB] at R1 ⊢
  have hBl : w.heap.size ≤ B := by omega
  clear hB
  have cA := ppair2 B 0 N N SP DP (by omega) (Nat.le_refl _) (by omega) hs hd (R1.room (by simp only [List.nil_append, Zs_len]; omega))
  refine Lib.hid ?_
  go_wp2_with (go_at_call 64; refine cA.mono ?_; rintro e w2 ⟨rfl, hW⟩; refine Hid.out ?_)
  have R2 := R1.wz hW (k := 4) (m := N - 4) (by omega) rfl (by simp [beB_len])
  have b2 := hW.bel b1 hBl R1.lt
  clear cA hW R1 b1
  have s4 : ∀ W, (Instr.slice 22 (.slice (some ⟨B, 0, none⟩) N N) (some (.int .i64 4)) none none).run Try.prog W = .ok (.slice (some ⟨B, 4, none⟩) (N - 4) (N - 4)) W := by have := cut_l B 0 N N 4 (by omega) (by omega) (by omega) (Nat.le_refl _); simpa using this
  have cA := ppair4 B 4 (N - 4) (N - 4) sq ak (by omega) (Nat.le_refl _) (by omega) (by omega) (by omega) (R2.room (by simp only [List.nil_append, List.length_append, beB_len, Zs_len]; omega))
  refine Lib.hid ?_
  go_wp2_with (go_at_call 64; refine cA.mono ?_; rintro e w3 ⟨rfl, hW⟩; refine Hid.out ?_)
  have R3 := R2.wz hW (k := 8) (m := N - 12) (by omega) (by simp [beB_len]) (by simp [beB_len])
  have b3 := hW.bel b2 hBl R2.lt
  clear cA hW R2 b2 s4
  have f3 := R3.frozen 12
  have c3 := R3.room (o := 12) (m := 1) (by simp only [List.nil_append, List.length_append, beB_len, Zs_len]; omega) 0 (by omega)
  obtain ⟨⟨u3, c3⟩, _⟩ := c3
  refine Lib.hid ?_
  go_wp2_with (with_reducible refine stop_op (o := ⟨some 39, _, _, _, _, _⟩) ?_)
  obtain ⟨w4, hw4⟩ : ∃ x, x = w3.setCell ⟨B, 12, none⟩ (.int .u8 80) := ⟨_, rfl⟩
  have R4 := R3.sz (80 : UInt8) (o := 12) (m := N - 13) (by omega) (by simp [beB_len])
  rw [show (((80 : UInt8).toNat : Nat) : Int) = 80 from rfl, ← hw4] at R4
  have b4 : Below w.heap.size w w4 := by rw [hw4]; exact below_set b3 hBl 12 _
  rw [← hw4]
  clear hw4 R3 b3 f3 c3
  have f4 := R4.frozen 13
  have c4 := R4.room (o := 13) (m := 1) (by simp only [List.nil_append, List.length_append, beB_len, Zs_len, List.length_singleton]; omega) 0 (by omega)
  obtain ⟨⟨u4, c4⟩, _⟩ := c4
  refine Lib.hid ?_
  go_wp2_with (with_reducible refine stop_op (o := ⟨some 42, _, _, _, _, _⟩) ?_)
  obtain ⟨w5, hw5⟩ : ∃ x, x = w4.setCell ⟨B, 13, none⟩ (.int .u8 (FL.toNat : Nat)) := ⟨_, rfl⟩
  have R5 := R4.sz FL (o := 13) (m := N - 14) (by omega) (by simp [beB_len])
  rw [← hw5] at R5
  have b5 : Below w.heap.size w w5 := by rw [hw5]; exact below_set b4 hBl 13 _
  rw [← hw5]
  clear hw5 R4 b4 f4 c4
  have s14 : ∀ W, (Instr.slice 22 (.slice (some ⟨B, 0, none⟩) N N) (some (.int .i64 14)) (some (.int .i64 16)) none).run Try.prog W = .ok (.slice (some ⟨B, 14, none⟩) 2 (N - 14)) W := by have := cut_lh B 0 N N 14 16 (by omega) (by omega) (by omega) (by omega); simpa using this
  have cA := put_any B 14 (N - 14) 2 WN (by omega) (by omega) (by omega) hw (R5.room (by simp only [List.nil_append, List.length_append, beB_len, Zs_len, List.length_singleton]; omega))
  refine Lib.hid ?_
  go_wp2_with (go_at_call 60; refine cA.mono ?_; rintro e w6 ⟨rfl, hW⟩; refine Hid.out ?_)
  have R6 := R5.wz hW.wr (k := 2) (m := 4 + n) (by have := HN.out; omega) (by simp [beB_len]) (by simp [beB_len])
  have b6 := hW.wr.bel b5 hBl R5.lt
  clear cA hW R5 b5 s14
  obtain ⟨D, s20', hD⟩ := cut_end B N 20 (by have := HN.out; omega) (by omega)
  rw [show N - 20 = n by have := HN.out; omega] at s20' hD
  have s20 : ∀ W, (Instr.slice 22 (.slice (some ⟨B, 0, none⟩) N N) (some (.int .i64 20)) none none).run Try.prog W = .ok (.slice D n n) W := s20'
  have HD := Lib.hid hD
  clear s20' hD
  have hA6 := HA.out.below b6
  rw [Zs_add, ← List.append_assoc] at R6
  have H6 := Lib.hid R6
  clear R6
  refine Lib.hid ?_
  go_wp2_with (with_reducible refine stop_op (o := ⟨some 49, _, _, _, _, _⟩) ?_)
  refine Lib.hid ?_
  refine wpList_copy_splice rfl _ _ 22 22 rfl 5 Try.underlying22 elem8 D A n n n c rfl rfl B 20 _ 5 H6.out (bc l) (by rw [bc_len, hA6.1]; simp) ?k1 ?k2 (bc_one _) w.heap.size w b6 hBl ?k3
  case k1 =>
    intro h0
    rw [bc_len, hA6.1] at h0
    obtain ⟨g, o, rfl, hb⟩ := hA6.2.2.2 h0
    exact ⟨HD.out h0, _, rfl, fun j u hj => hb.newsO j u hj⟩
  case k2 =>
    rw [bc_len, bc_len, hA6.1]
    simp only [List.nil_append, List.length_append, beB_len, Zs_len, List.length_singleton]
    omega
  case k3 =>
    intro w7 HG b7
    have G := HG.out
    rw [splice_bc _ _ _ _ (by simp only [List.nil_append, List.length_append, beB_len, Zs_len, List.length_singleton]) (by rw [Zs_len, hA6.1])] at G
    clear HG H6
    go_wp2
    go_ret
    exact ⟨B, rfl, G, hBl, b7⟩

set_option maxHeartbeats 2000000 in
set_option maxRecDepth 100000 in
theorem pudp_any (A : Option Addr) (n c : Nat) (l : List UInt8) (sp dp : Int) {w : World} (h : BytArg w A n c l) (hm : n ≤ 65536) :
    Calls Try.prog 24 #[.int .i64 sp, .int .i64 dp, .slice A n c] w fun e w' => ∃ B, e = .returned (.slice (some ⟨B, 0, none⟩) (8 + n : Nat) (8 + n : Nat)) ∧ Row w' B (udpB sp dp l) ∧ w.heap.size ≤ B ∧ Below w.heap.size w w' := by
  have e1 := low_wrap sp
  have e2 := low_wrap dp
  have hs := low_lt sp
  have hd := low_lt dp
  unfold udpB
  rw [h.1]
  generalize lowN sp = SP at *
  generalize lowN dp = DP at *
  obtain ⟨N, hN⟩ : ∃ N, N = 8 + n := ⟨_, rfl⟩
  have wN : IntKind.i64.wrap (8 + (n : Int)) = (N : Int) := by rw [IntKind.wrap_i64]; omega
  have wU : IntKind.u64.wrap (N : Int) = (N : Int) := by rw [IntKind.wrap_u64]; omega
  have NB : N < 70000 := by omega
  have N20 : 8 ≤ N := by omega
  have Ni : (N : Int) < 70000 := by omega
  have nI : (n : Int) ≤ 65536 := by omega
  rw [← hN]
  have mk := make_run N (by omega)
  have HN := Lib.hid hN
  have HA := Lib.hid h
  clear h hN
  go_enter Try.func24, Try.ntmps24
  go_wp2_with (with_reducible refine stop_op (o := ⟨some 14, _, _, _, _, _⟩) ?_)
  obtain ⟨w1, hw1⟩ : ∃ x, x = w.alloc (.cells (bc (List.replicate N 0)).toArray 5) := ⟨_, rfl⟩
  have R1 : Row w1 w.heap.size ([] ++ Zs N) := by rw [hw1]; exact Row.new w _
  have b1 : Below w.heap.size w w1 := by rw [hw1]; exact Below.al (Below.refl _ _) _
  first | rw [← hw1] | (simp only [List.replicate] at hw1; rw [← hw1])
  clear hw1 mk
  obtain ⟨B, hB⟩ : ∃ B, B = w.heap.size := ⟨_, rfl⟩
  rw [← hB] at R1 ⊢
  have hBl : w.heap.size ≤ B := by omega
  clear hB
  have cA := ppair2 B 0 N N SP DP (by omega) (Nat.le_refl _) (by omega) hs hd (R1.room (by simp only [List.nil_append, Zs_len]; omega))
  refine Lib.hid ?_
  go_wp2_with (go_at_call 64; refine cA.mono ?_; rintro e w2 ⟨rfl, hW⟩; refine Hid.out ?_)
  have R2 := R1.wz hW (k := 4) (m := N - 4) (by omega) rfl (by simp [beB_len])
  have b2 := hW.bel b1 hBl R1.lt
  clear cA hW R1 b1
  have s4 : ∀ W, (Instr.slice 22 (.slice (some ⟨B, 0, none⟩) N N) (some (.int .i64 4)) (some (.int .i64 6)) none).run Try.prog W = .ok (.slice (some ⟨B, 4, none⟩) 2 (N - 4)) W := by have := cut_lh B 0 N N 4 6 (by omega) (by omega) (by omega) (by omega); simpa using this
  have cA := put_any B 4 (N - 4) 2 N (by omega) (by omega) (by omega) (by omega) (R2.room (by simp only [List.nil_append, List.length_append, beB_len, Zs_len]; omega))
  refine Lib.hid ?_
  go_wp2_with (go_at_call 60; refine cA.mono ?_; rintro e w6 ⟨rfl, hW⟩; refine Hid.out ?_)
  have R6 := R2.wz hW.wr (k := 2) (m := 2 + n) (by have := HN.out; omega) (by simp [beB_len]) (by simp [beB_len])
  have b6 := hW.wr.bel b2 hBl R2.lt
  clear cA hW R2 b2 s4
  obtain ⟨D, s20', hD⟩ := cut_end B N 8 (by have := HN.out; omega) (by omega)
  rw [show N - 8 = n by have := HN.out; omega] at s20' hD
  have s20 : ∀ W, (Instr.slice 22 (.slice (some ⟨B, 0, none⟩) N N) (some (.int .i64 8)) none none).run Try.prog W = .ok (.slice D n n) W := s20'
  have HD := Lib.hid hD
  clear s20' hD
  have hA6 := HA.out.below b6
  rw [Zs_add, ← List.append_assoc] at R6
  have H6 := Lib.hid R6
  clear R6
  refine Lib.hid ?_
  go_wp2_with (with_reducible refine stop_op (o := ⟨some 28, _, _, _, _, _⟩) ?_)
  refine Lib.hid ?_
  refine wpList_copy_splice rfl _ _ 22 22 rfl 5 Try.underlying22 elem8 D A n n n c rfl rfl B 8 _ 5 H6.out (bc l) (by rw [bc_len, hA6.1]; simp) ?k1 ?k2 (bc_one _) w.heap.size w b6 hBl ?k3
  case k1 =>
    intro h0
    rw [bc_len, hA6.1] at h0
    obtain ⟨g, o, rfl, hb⟩ := hA6.2.2.2 h0
    exact ⟨HD.out h0, _, rfl, fun j u hj => hb.newsO j u hj⟩
  case k2 =>
    rw [bc_len, bc_len, hA6.1]
    simp only [List.nil_append, List.length_append, beB_len, Zs_len]
    omega
  case k3 =>
    intro w7 HG b7
    have G := HG.out
    rw [splice_bc _ _ _ _ (by simp only [List.nil_append, List.length_append, beB_len, Zs_len]) (by rw [Zs_len, hA6.1])] at G
    clear HG H6
    go_wp2
    go_ret
    exact ⟨B, rfl, G, hBl, b7⟩
end Go.Proofs.Ytpmbdjdhgcjkfaa

namespace Go.Proofs.Ytpmbdjdhgcjkfaa
open Go.RowKit Go.Sort
set_option linter.unusedVariables false
set_option linter.unusedSimpArgs false

/-- append of bytes that came in, nil or not, to a row of our own. -/
theorem append_bytes {w : World} {ops : Array Oper} {rest : List Oper} {o : Oper} {a : Act} {Q : Exit → Act → World → Prop} (hgd : o.guard = none) (s x : Operand)
    (ho : o.op = .call { callee := .builtin .append, args := #[s, x], argTypes := #[22, 22] })
    (base : Nat) (v : Value) (n : Nat) (xs : List Value) (hs : a.eval s = v) (hown : w.ownsRow base 5 1 v n xs)
    (A : Option Addr) (m c : Nat) (l : List UInt8) (hx : a.eval x = .slice A m c) (hA : BytA w A m c l) (hm : n + m ≤ 1000000) (hbase : base ≤ w.heap.size)
    (h : ∀ v' w', w'.ownsRow base 5 1 v' (n + m) (xs ++ bc l) → w.grownBy w' v.ownBlock → wpList Try.prog ops Q rest (a.put o.dst v') w') : wpList Try.prog ops Q (o :: rest) a w := by
  obtain ⟨i0, hi, hz0, hz1, hz2⟩ := info_parts info8
  cases A with
  | none =>
    obtain ⟨rfl, rfl⟩ := hA.2 rfl
    have hl : l = [] := List.length_eq_zero_iff.1 hA.1.1
    subst hl
    refine wpList_append_own_none hgd s x 22 ho base 5 i0 1 Try.underlying22 hi v n xs hs hown hx ?_
    refine h v w ?_ ⟨rfl, rfl, rfl, Nat.le_refl _, fun _ _ _ => rfl⟩
    show w.ownsRow base 5 1 v n (xs ++ [])
    rw [List.append_nil]; exact hown
  | some ad =>
    refine wpList_append_own w hgd s x 22 ho base 5 i0 (.int .u8 0) 1 1 Try.underlying22 hi hz0 hz1 hz2 rfl (by decide) v n xs hs hown ad m c (bc l) hx (by rw [bc_len, hA.1.1, Nat.mul_one]) (news_arg hA.1) (bc_one _) (by unfold maxLen; omega) (by omega) hbase ?_
    intro v' w' h1 h2 _
    exact h v' w' h1 h2

set_option maxHeartbeats 2000000 in
set_option maxRecDepth 100000 in
theorem rtcpB_any (A : Option Addr) (n c : Nat) (l : List UInt8) (sp dp : Int) (sq ak : Nat) (fl wn : Int) (hsp : -9223372036854775808 ≤ sp ∧ sp < 9223372036854775808) (hdp : -9223372036854775808 ≤ dp ∧ dp < 9223372036854775808) (hwn : -9223372036854775808 ≤ wn ∧ wn < 9223372036854775808) (hsq : sq < 4294967296) (hak : ak < 4294967296) {w : World} (h : BytA w A n c l) (hm : n ≤ 65536) :
    Calls Try.prog 25 #[.int .i64 sp, .int .i64 dp, .int .u32 (sq : Nat), .int .u32 (ak : Nat), .int .i64 fl, .int .i64 wn, .slice A n c] w fun e w' => ∃ B cx, e = .returned (.slice (some ⟨B, 0, none⟩) (20 + n : Nat) cx) ∧ BytArg w' (some ⟨B, 0, none⟩) (20 + n) cx (tcpB sp dp sq ak fl wn l) ∧ w.heap.size ≤ B ∧ Below w.heap.size w w' := by
  have eb : IntKind.u8.wrap fl = ((loB fl).toNat : Int) := by rw [IntKind.wrap_u8, loB_val]
  have eq : IntKind.i64.wrap (sq : Int) = (sq : Int) := by rw [IntKind.wrap_i64]; omega
  have ea : IntKind.i64.wrap (ak : Int) = (ak : Int) := by rw [IntKind.wrap_i64]; omega
  have lq := low_small sq (by omega)
  have la := low_small ak (by omega)
  unfold tcpB
  generalize loB fl = FL at *
  have mk : ∀ W, (Instr.makeSlice 22 (.int .i64 20) (.int .i64 20)).run Try.prog W = .ok (.slice (some ⟨W.heap.size, 0, none⟩) 20 20) (W.alloc (.cells (bc (List.replicate 20 0)).toArray 5)) := make_run 20 (by omega)
  have HA := Lib.hid h
  have HSP := Lib.hid hsp
  have HDP := Lib.hid hdp
  have HWN := Lib.hid hwn
  clear h hsp hdp hwn
  go_enter Try.func25, Try.ntmps25
  go_wp2_with (with_reducible refine stop_op (o := ⟨some 18, _, _, _, _, _⟩) ?_)
  obtain ⟨w1, hw1⟩ : ∃ x, x = w.alloc (.cells (bc (List.replicate 20 0)).toArray 5) := ⟨_, rfl⟩
  have R1 : Row w1 w.heap.size ([] ++ Zs 20) := by rw [hw1]; exact Row.new w _
  have b1 : Below w.heap.size w w1 := by rw [hw1]; exact Below.al (Below.refl _ _) _
  first | rw [← hw1] | (simp only [List.replicate] at hw1; rw [← hw1])
  clear hw1 mk
  obtain ⟨B, hB⟩ : ∃ B, B = w.heap.size := ⟨_, rfl⟩
  rw [← hB] at R1 ⊢
  have hBl : w.heap.size ≤ B := by omega
  clear hB
  refine Lib.hid ?_
  have s1 : ∀ W, (Instr.slice 22 (.slice (some ⟨B, 0, none⟩) 20 20) none (some (.int .i64 2)) none).run Try.prog W = .ok (.slice (some ⟨B, 0, none⟩) 2 20) W := by have := cut_h B 0 20 20 2 (by omega) (by omega); simpa using this
  have cA := rput_any B 0 20 2 sp (by omega) (by omega) (by omega) HSP.out (R1.room (by simp only [List.nil_append, List.length_append, beB_len, Zs_len, List.length_singleton]; omega))
  go_wp2_with (go_at_call 42; refine cA.mono ?_; rintro e w2 ⟨rfl, hW⟩; refine Hid.out ?_)
  have R2 := R1.wz hW.wr (k := 2) (m := 18) (by omega) (by simp [beB_len]) (by simp [beB_len])
  have b2 := hW.wr.bel b1 hBl R1.lt
  clear cA hW R1 b1 s1
  refine Lib.hid ?_
  have s2 : ∀ W, (Instr.slice 22 (.slice (some ⟨B, 0, none⟩) 20 20) (some (.int .i64 2)) (some (.int .i64 4)) none).run Try.prog W = .ok (.slice (some ⟨B, 2, none⟩) 2 18) W := by have := cut_lh B 0 20 20 2 4 (by omega) (by omega) (by omega) (by omega); simpa using this
  have cA := rput_any B 2 18 2 dp (by omega) (by omega) (by omega) HDP.out (R2.room (by simp only [List.nil_append, List.length_append, beB_len, Zs_len, List.length_singleton]; omega))
  go_wp2_with (go_at_call 42; refine cA.mono ?_; rintro e w3 ⟨rfl, hW⟩; refine Hid.out ?_)
  have R3 := R2.wz hW.wr (k := 2) (m := 16) (by omega) (by simp [beB_len]) (by simp [beB_len])
  have b3 := hW.wr.bel b2 hBl R2.lt
  clear cA hW R2 b2 s2
  refine Lib.hid ?_
  have s3 : ∀ W, (Instr.slice 22 (.slice (some ⟨B, 0, none⟩) 20 20) (some (.int .i64 4)) (some (.int .i64 8)) none).run Try.prog W = .ok (.slice (some ⟨B, 4, none⟩) 4 16) W := by have := cut_lh B 0 20 20 4 8 (by omega) (by omega) (by omega) (by omega); simpa using this
  have cA := rput_any B 4 16 4 (sq : Int) (by omega) (by omega) (by omega) ⟨by omega, by omega⟩ (R3.room (by simp only [List.nil_append, List.length_append, beB_len, Zs_len, List.length_singleton]; omega))
  rw [lq] at cA
  go_wp2_with (go_at_call 42; refine cA.mono ?_; rintro e w4 ⟨rfl, hW⟩; refine Hid.out ?_)
  have R4 := R3.wz hW.wr (k := 4) (m := 12) (by omega) (by simp [beB_len]) (by simp [beB_len])
  have b4 := hW.wr.bel b3 hBl R3.lt
  clear cA hW R3 b3 s3
  refine Lib.hid ?_
  have s4 : ∀ W, (Instr.slice 22 (.slice (some ⟨B, 0, none⟩) 20 20) (some (.int .i64 8)) (some (.int .i64 12)) none).run Try.prog W = .ok (.slice (some ⟨B, 8, none⟩) 4 12) W := by have := cut_lh B 0 20 20 8 12 (by omega) (by omega) (by omega) (by omega); simpa using this
  have cA := rput_any B 8 12 4 (ak : Int) (by omega) (by omega) (by omega) ⟨by omega, by omega⟩ (R4.room (by simp only [List.nil_append, List.length_append, beB_len, Zs_len, List.length_singleton]; omega))
  rw [la] at cA
  go_wp2_with (go_at_call 42; refine cA.mono ?_; rintro e w5 ⟨rfl, hW⟩; refine Hid.out ?_)
  have R5 := R4.wz hW.wr (k := 4) (m := 8) (by omega) (by simp [beB_len]) (by simp [beB_len])
  have b5 := hW.wr.bel b4 hBl R4.lt
  clear cA hW R4 b4 s4
  refine Lib.hid ?_
  have f5 := R5.frozen 12
  have c5 := R5.room (o := 12) (m := 1) (by simp only [List.nil_append, List.length_append, beB_len, Zs_len, List.length_singleton]; omega) 0 (by omega)
  obtain ⟨⟨u5, c5⟩, _⟩ := c5
  go_wp2_with (with_reducible refine stop_op (o := ⟨some 39, _, _, _, _, _⟩) ?_)
  obtain ⟨w6, hwn⟩ : ∃ x, x = w5.setCell ⟨B, 12, none⟩ (.int .u8 80) := ⟨_, rfl⟩
  have R6 := R5.sz 80 (o := 12) (m := 7) (by omega) (by simp [beB_len])
  first | rw [← hwn] at R6 | rw [show (((80 : UInt8).toNat : Nat) : Int) = 80 from rfl, ← hwn] at R6
  have b6 : Below w.heap.size w w6 := by rw [hwn]; exact below_set b5 hBl 12 _
  rw [← hwn]
  clear hwn R5 b5 f5 c5
  refine Lib.hid ?_
  have f6 := R6.frozen 13
  have c6 := R6.room (o := 13) (m := 1) (by simp only [List.nil_append, List.length_append, beB_len, Zs_len, List.length_singleton]; omega) 0 (by omega)
  obtain ⟨⟨u6, c6⟩, _⟩ := c6
  go_wp2_with (with_reducible refine stop_op (o := ⟨some 42, _, _, _, _, _⟩) ?_)
  obtain ⟨w7, hwn⟩ : ∃ x, x = w6.setCell ⟨B, 13, none⟩ (.int .u8 (FL.toNat : Nat)) := ⟨_, rfl⟩
  have R7 := R6.sz FL (o := 13) (m := 6) (by omega) (by simp [beB_len])
  first | rw [← hwn] at R7 | rw [show (((FL : UInt8).toNat : Nat) : Int) = FL from rfl, ← hwn] at R7
  have b7 : Below w.heap.size w w7 := by rw [hwn]; exact below_set b6 hBl 13 _
  rw [← hwn]
  clear hwn R6 b6 f6 c6
  refine Lib.hid ?_
  have s7 : ∀ W, (Instr.slice 22 (.slice (some ⟨B, 0, none⟩) 20 20) (some (.int .i64 14)) (some (.int .i64 16)) none).run Try.prog W = .ok (.slice (some ⟨B, 14, none⟩) 2 6) W := by have := cut_lh B 0 20 20 14 16 (by omega) (by omega) (by omega) (by omega); simpa using this
  have cA := rput_any B 14 6 2 wn (by omega) (by omega) (by omega) HWN.out (R7.room (by simp only [List.nil_append, List.length_append, beB_len, Zs_len, List.length_singleton]; omega))
  go_wp2_with (go_at_call 42; refine cA.mono ?_; rintro e w8 ⟨rfl, hW⟩; refine Hid.out ?_)
  have R8 := R7.wz hW.wr (k := 2) (m := 4) (by omega) (by simp [beB_len]) (by simp [beB_len])
  have b8 := hW.wr.bel b7 hBl R7.lt
  clear cA hW R7 b7 s7
  refine Lib.hid ?_
  have ho := R8.own (base := w.heap.size) hBl (n := 20) (by simp only [List.nil_append, List.length_append, beB_len, Zs_len, List.length_singleton]) (by unfold maxLen; omega)
  have hA := HA.out.below b8
  have H8 := Lib.hid R8
  clear R8 HA
  have HO := Lib.hid ho
  have HA := Lib.hid hA
  clear ho hA
  go_wp2_with (at_builtin; go_loud (refine append_bytes rfl _ _ rfl w.heap.size _ 20 _ rfl HO.out A n c l rfl HA.out (by omega) b8.size ?m3))
  case m3 =>
    intro v7 w7 hown7 hgrow7
    have bw7 : Below w.heap.size w w7 := b8.grown hgrow7 b8.size (fun k hk => own_lt' HO.out hk)
    rw [← bc_app] at hown7
    obtain ⟨g3, c3, rfl, hg3, hgl3, hcap3, hcm3, _⟩ := own_form hown7 (by omega)
    have hb := Byt.own hown7
    clear hown7 hgrow7 HO H8
    go_wp2
    go_ret
    refine ⟨g3, c3, rfl, ⟨?_, hcap3, hcm3, fun _ => ⟨g3, 0, rfl, ?_⟩⟩, hg3, bw7⟩
    · simp only [List.length_append, beB_len, Zs_len, List.length_singleton, HA.out.1.1]; try omega
    · simpa [List.append_assoc] using hb

set_option maxHeartbeats 2000000 in
set_option maxRecDepth 100000 in
theorem rudpB_any (A : Option Addr) (n c : Nat) (l : List UInt8) (sp dp : Int) (hsp : -9223372036854775808 ≤ sp ∧ sp < 9223372036854775808) (hdp : -9223372036854775808 ≤ dp ∧ dp < 9223372036854775808) {w : World} (h : BytA w A n c l) (hm : n ≤ 65536) :
    Calls Try.prog 26 #[.int .i64 sp, .int .i64 dp, .slice A n c] w fun e w' => ∃ B cx, e = .returned (.slice (some ⟨B, 0, none⟩) (8 + n : Nat) cx) ∧ BytArg w' (some ⟨B, 0, none⟩) (8 + n) cx (udpB sp dp l) ∧ w.heap.size ≤ B ∧ Below w.heap.size w w' := by
  unfold udpB
  rw [h.1.1]
  obtain ⟨N, hN⟩ : ∃ N, N = 8 + n := ⟨_, rfl⟩
  have wN : IntKind.i64.wrap (8 + (n : Int)) = (N : Int) := by rw [IntKind.wrap_i64]; omega
  have NB : N < 70000 := by omega
  have nI : (n : Int) ≤ 65536 := by omega
  have lN := low_small N (by omega)
  have mk : ∀ W, (Instr.makeSlice 22 (.int .i64 8) (.int .i64 8)).run Try.prog W = .ok (.slice (some ⟨W.heap.size, 0, none⟩) 8 8) (W.alloc (.cells (bc (List.replicate 8 0)).toArray 5)) := make_run 8 (by omega)
  have HA := Lib.hid h
  have HSP := Lib.hid hsp
  have HDP := Lib.hid hdp
  have HN := Lib.hid hN
  clear h hsp hdp
  rw [← hN]
  clear hN
  go_enter Try.func26, Try.ntmps26
  go_wp2_with (with_reducible refine stop_op (o := ⟨some 10, _, _, _, _, _⟩) ?_)
  obtain ⟨w1, hw1⟩ : ∃ x, x = w.alloc (.cells (bc (List.replicate 8 0)).toArray 5) := ⟨_, rfl⟩
  have R1 : Row w1 w.heap.size ([] ++ Zs 8) := by rw [hw1]; exact Row.new w _
  have b1 : Below w.heap.size w w1 := by rw [hw1]; exact Below.al (Below.refl _ _) _
  first | rw [← hw1] | (simp only [List.replicate] at hw1; rw [← hw1])
  clear hw1 mk
  obtain ⟨B, hB⟩ : ∃ B, B = w.heap.size := ⟨_, rfl⟩
  rw [← hB] at R1 ⊢
  have hBl : w.heap.size ≤ B := by omega
  clear hB
  refine Lib.hid ?_
  have s1 : ∀ W, (Instr.slice 22 (.slice (some ⟨B, 0, none⟩) 8 8) none (some (.int .i64 2)) none).run Try.prog W = .ok (.slice (some ⟨B, 0, none⟩) 2 8) W := by have := cut_h B 0 8 8 2 (by omega) (by omega); simpa using this
  have cA := rput_any B 0 8 2 sp (by omega) (by omega) (by omega) HSP.out (R1.room (by simp only [List.nil_append, List.length_append, beB_len, Zs_len, List.length_singleton]; omega))
  go_wp2_with (go_at_call 42; refine cA.mono ?_; rintro e w2 ⟨rfl, hW⟩; refine Hid.out ?_)
  have R2 := R1.wz hW.wr (k := 2) (m := 6) (by omega) (by simp [beB_len]) (by simp [beB_len])
  have b2 := hW.wr.bel b1 hBl R1.lt
  clear cA hW R1 b1 s1
  refine Lib.hid ?_
  have s2 : ∀ W, (Instr.slice 22 (.slice (some ⟨B, 0, none⟩) 8 8) (some (.int .i64 2)) (some (.int .i64 4)) none).run Try.prog W = .ok (.slice (some ⟨B, 2, none⟩) 2 6) W := by have := cut_lh B 0 8 8 2 4 (by omega) (by omega) (by omega) (by omega); simpa using this
  have cA := rput_any B 2 6 2 dp (by omega) (by omega) (by omega) HDP.out (R2.room (by simp only [List.nil_append, List.length_append, beB_len, Zs_len, List.length_singleton]; omega))
  go_wp2_with (go_at_call 42; refine cA.mono ?_; rintro e w3 ⟨rfl, hW⟩; refine Hid.out ?_)
  have R3 := R2.wz hW.wr (k := 2) (m := 4) (by omega) (by simp [beB_len]) (by simp [beB_len])
  have b3 := hW.wr.bel b2 hBl R2.lt
  clear cA hW R2 b2 s2
  refine Lib.hid ?_
  have s3 : ∀ W, (Instr.slice 22 (.slice (some ⟨B, 0, none⟩) 8 8) (some (.int .i64 4)) (some (.int .i64 6)) none).run Try.prog W = .ok (.slice (some ⟨B, 4, none⟩) 2 4) W := by have := cut_lh B 0 8 8 4 6 (by omega) (by omega) (by omega) (by omega); simpa using this
  have cA := rput_any B 4 4 2 (N : Int) (by omega) (by omega) (by omega) ⟨by omega, by omega⟩ (R3.room (by simp only [List.nil_append, List.length_append, beB_len, Zs_len, List.length_singleton]; omega))
  rw [lN] at cA
  go_wp2_with (go_at_call 42; refine cA.mono ?_; rintro e w4 ⟨rfl, hW⟩; refine Hid.out ?_)
  have R4 := R3.wz hW.wr (k := 2) (m := 2) (by omega) (by simp [beB_len]) (by simp [beB_len])
  have b4 := hW.wr.bel b3 hBl R3.lt
  clear cA hW R3 b3 s3
  refine Lib.hid ?_
  have ho := R4.own (base := w.heap.size) hBl (n := 8) (by simp only [List.nil_append, List.length_append, beB_len, Zs_len, List.length_singleton]) (by unfold maxLen; omega)
  have hA := HA.out.below b4
  have H4 := Lib.hid R4
  clear R4 HA
  have HO := Lib.hid ho
  have HA := Lib.hid hA
  clear ho hA
  go_wp2_with (at_builtin; go_loud (refine append_bytes rfl _ _ rfl w.heap.size _ 8 _ rfl HO.out A n c l rfl HA.out (by omega) b4.size ?m3))
  case m3 =>
    intro v7 w7 hown7 hgrow7
    have bw7 : Below w.heap.size w w7 := b4.grown hgrow7 b4.size (fun k hk => own_lt' HO.out hk)
    rw [← bc_app] at hown7
    obtain ⟨g3, c3, rfl, hg3, hgl3, hcap3, hcm3, _⟩ := own_form hown7 (by omega)
    have hb := Byt.own hown7
    clear hown7 hgrow7 HO H4
    go_wp2
    go_ret
    have hn8 := HN.out
    rw [← hn8] at hcap3 ⊢
    refine ⟨g3, c3, rfl, ⟨?_, hcap3, hcm3, fun _ => ⟨g3, 0, rfl, ?_⟩⟩, hg3, bw7⟩
    · simp only [List.length_append, beB_len, Zs_len, List.length_singleton, HA.out.1.1]; try omega
    · simpa [List.append_assoc] using hb
end Go.Proofs.Ytpmbdjdhgcjkfaa
