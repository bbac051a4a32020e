/- Bytes lent, bytes as strings, and the sum of none; by-name template (gen_wlent.py). -/
import Derived.Test.YtpmbdjdhgcjkfaaWRTot
import Derived.Test.YtpmbdjdhgcjkfaaWFrame
import Derived.Laws.BytesString
import Derived.Laws.AppendOwnNone
namespace Go.Proofs.Ytpmbdjdhgcjkfaa
open Go.ChangeShapes Go.WideShapes Go.ChangeAt Go.RowKit Go.Sort
set_option linter.unusedVariables false
set_option linter.unusedSimpArgs false

/-- Bytes that came in; without an address there are none, and no room. -/
def BytA (w : World) (A : Option Addr) (n c : Nat) (l : List UInt8) : Prop := BytArg w A n c l ∧ (A = none → n = 0 ∧ c = 0)
theorem BytA.below {w w' : World} {A : Option Addr} {n c : Nat} {l : List UInt8} (h : BytA w A n c l) (hb : Below w.heap.size w w') : BytA w' A n c l := ⟨h.1.below hb, h.2⟩

section
variable {H : Type} {enc : TypeId × Value → H} {w : World} {base : Nat} {spare : Nat → Bool} {held : Bool}
theorem open_bytesA {fuel : Nat} {A : Option Addr} {n c : Nat} {x : DataW H × List MemPlace} (h : DataW.trod enc Try.prog w base spare held fuel 22 [.slice A n c] = some x) :
    ∃ l : List UInt8, BytA w A n c l := by
  obtain ⟨l, hl⟩ := open_bytes h
  refine ⟨l, hl, fun e => ?_⟩
  subst e
  rcases open_ints Try.underlying22 Try.underlying5 byte_cells h with ⟨hcs, _⟩ | ⟨p, len, cap, zs, hcs, _⟩
  · simp only [List.cons.injEq, Value.slice.injEq, and_true] at hcs
    exact ⟨hcs.2.1, hcs.2.2⟩
  · simp at hcs
end

/-- Bytes as a string. -/
def strB (l : List UInt8) : ByteArray := (l.map fun x => ((x.toNat : Nat) : Int)).foldl (fun r n => r.push (UInt8.ofNat n.toNat)) ByteArray.empty

theorem news_arg {w : World} {a : Addr} {n c : Nat} {l : List UInt8} (h : BytArg w (some a) n c l) (j : Nat) (u : Value) (hj : (bc l)[j]? = some u) : w.cell? (a.add j) = some u := by
  by_cases h0 : n = 0
  · have : l = [] := List.length_eq_zero_iff.1 (by rw [h.1, h0])
    subst this
    simp [bc] at hj
  · obtain ⟨g, o, e, hb⟩ := h.2.2.2 (by omega)
    cases e
    exact hb.newsO j u hj

theorem conv_bytes {w : World} {A : Option Addr} {n c : Nat} {l : List UInt8} (h : BytArg w A n c l) :
    (convert 22 9 (.slice A n c)).run Try.prog w = .ok (.string (strB l)) w := by
  rw [run_convert_bytes_string w 22 9 5 A n c Try.underlying22 Try.underlying5 Try.underlying9]
  cases A with
  | none =>
    have h0 : n = 0 := by
      by_cases h0 : n = 0
      · exact h0
      · obtain ⟨g, o, e, _⟩ := h.2.2.2 (by omega); cases e
    have : l = [] := List.length_eq_zero_iff.1 (by rw [h.1, h0])
    subst this
    rfl
  | some a =>
    have hl : (loadCells a n).run Try.prog w = .ok ((l.map fun x => ((x.toNat : Nat) : Int)).map (Value.int .u8)).toArray w := by
      have := run_loadCells_list (P := Try.prog) w a (bc l) (news_arg h)
      rw [bc_len, h.1] at this
      rw [this]
      simp [bc, Function.comp_def]
    exact run_bytesToString w a n c _ hl

set_option maxHeartbeats 1000000 in
/-- The document's sum of no bytes. -/
theorem rsum_none (A : Option Addr) (c : Nat) (w : World) :
    Calls Try.prog 16 #[.slice A 0 c] w fun e w' => e = .returned (.int .i64 65535) ∧ w = w' := by
  go_enter Try.func16, Try.ntmps16
  go_wp2
  go_loopw [3, 4] (fun v3 v4 wr => v3 = .int .i64 0 ∧ v4 = .int .i64 0 ∧ wr = w) (fun _ v4 _ => 0)
  case atStart => exact ⟨rfl, rfl, rfl⟩
  case round =>
    obtain ⟨rfl, rfl, hw⟩ := hrel
    subst hw
    go_wp2
    go_loopw [3] (fun v3 wq => v3 = .int .i64 0 ∧ wq = wr) (fun v3 _ => 0)
    case atStart => exact ⟨rfl, rfl⟩
    case round =>
      obtain ⟨rfl, hw⟩ := hrel
      subst hw
      go_wp2
      go_ret
      exact ⟨rfl, rfl⟩
theorem sumP_nil : sumP [] = 65535 := by unfold sumP; simp [w16, f16]
theorem rsum_arg (A : Option Addr) (n c : Nat) (l : List UInt8) (hm : n ≤ 70000) {w : World} (h : BytArg w A n c l) :
    Calls Try.prog 16 #[.slice A n c] w fun e w' => e = .returned (.int .i64 (sumP l : Nat)) ∧ w = w' := by
  by_cases h0 : n = 0
  · have hl : l = [] := List.length_eq_zero_iff.1 (by rw [h.1, h0])
    subst h0; subst hl
    rw [sumP_nil]
    exact rsum_none A c w
  · obtain ⟨g, o, rfl, hb⟩ := h.2.2.2 (by omega)
    exact rsum_big g o c n l h.1 hm hb

set_option maxHeartbeats 2000000 in
set_option maxRecDepth 100000 in
theorem lent_some (a : Addr) (n c : Nat) (l : List UInt8) (hm : n ≤ 65536) {w : World} (h : BytArg w (some a) n c l) :
    Calls Try.prog 14 #[.slice (some a) n c] w fun e w' => ∃ g cx, e = .returned (.slice (some ⟨g, 0, none⟩) (n + 1 : Nat) cx) ∧ n + 1 ≤ cx ∧ cx ≤ maxLen ∧ Byt w' g 0 (l ++ [77]) ∧ w.heap.size ≤ g ∧ Below w.heap.size w w' := by
  have hl : (bc l).length = n * 1 := by rw [bc_len, h.1, Nat.mul_one]
  have hnews := fun (W : World) (hW : Below w.heap.size w W) => news_arg (h.below hW)
  clear h
  obtain ⟨i0, hi, hz0, hz1, hz2⟩ := info_parts info8
  have h77 : bc [77] = [.int .u8 77] := rfl
  go_enter Try.func14, Try.ntmps14
  go_wp2_with (at_builtin; go_loud (refine wpList_append_own _ rfl _ _ 22 rfl w.heap.size 5 i0 (.int .u8 0) 1 1 Try.underlying22 hi hz0 hz1 hz2 rfl (by decide) _ _ _ rfl (World.ownsRow_made w #[] 0 (Nat.le_refl _) (by unfold maxLen; omega) rfl) a n c (bc l) rfl hl (hnews _ (Below.al (Below.refl _ _) _)) (bc_one _) (by unfold maxLen; omega) (by omega) (by simp) ?m3))
  case m3 =>
    intro v3 w3 hown3 hgrow _
    have bw3 : Below w.heap.size w w3 := (Below.al (Below.refl _ _) _).grown hgrow (by simp) (fun k hk => by simp [Value.ownBlock] at hk; omega)
    have hown3 : w3.ownsRow w.heap.size 5 1 v3 n (bc l) := by first | exact hown3 | simpa using hown3
    clear hgrow hnews
    go_wp2_with (at_builtin; go_loud (refine wpList_append_own _ rfl _ _ 22 rfl w.heap.size 5 i0 (.int .u8 0) 1 1 Try.underlying22 hi hz0 hz1 hz2 rfl (by decide) _ _ _ rfl (hown3.alloc _) ⟨w3.heap.size, 0, none⟩ 1 1 [.int .u8 77] rfl rfl ?n1 ?n2 (by unfold maxLen; omega) (by omega) (by have := bw3.size; simp; omega) ?n3))
    case n1 =>
      intro j u hj
      have hb : (w3.alloc (.cells #[.int .u8 77] 5)).heap[w3.heap.size]? = some (.cells #[.int .u8 77] 5 (0, 0)) := al_neww rfl _
      rw [show (⟨w3.heap.size, 0, none⟩ : Addr).add j = ⟨w3.heap.size, j, none⟩ by unfold Addr.add; split <;> simp_all]
      simp only [World.cell?, hb]
      simpa using hj
    case n2 =>
      intro u hu
      simp only [List.mem_cons, List.mem_nil_iff, or_false] at hu
      rcases hu with rfl; rfl
    case n3 =>
      intro v7 w7 hown7 hgrow7 _
      have bw7 : Below w.heap.size w w7 := (bw3.alloc bw3.size _).grown hgrow7 (by have := bw3.size; simp; omega) (fun k hk => own_lt' hown3 hk)
      rw [← h77, ← bc_app] at hown7
      obtain ⟨g3, c3, rfl, hg3, hgl3, hcap3, hcm3, _⟩ := own_form hown7 (by omega)
      go_wp2
      go_ret
      exact ⟨g3, c3, rfl, hcap3, hcm3, Byt.own hown7, hg3, bw7⟩

set_option maxHeartbeats 2000000 in
set_option maxRecDepth 100000 in
theorem lent_none  (n c : Nat) (l : List UInt8) (hm : n ≤ 65536) {w : World} (h : n = 0 ∧ c = 0 ∧ l = []) :
    Calls Try.prog 14 #[.slice none n c] w fun e w' => ∃ g cx, e = .returned (.slice (some ⟨g, 0, none⟩) (n + 1 : Nat) cx) ∧ n + 1 ≤ cx ∧ cx ≤ maxLen ∧ Byt w' g 0 (l ++ [77]) ∧ w.heap.size ≤ g ∧ Below w.heap.size w w' := by
  obtain ⟨rfl, rfl, rfl⟩ := h
  obtain ⟨i0, hi, hz0, hz1, hz2⟩ := info_parts info8
  have h77 : bc [77] = [.int .u8 77] := rfl
  go_enter Try.func14, Try.ntmps14
  go_wp2_with (first | (with_reducible refine stop_op (o := ⟨some 9, _, _, _, _, _⟩) ?_) | (at_builtin; refine wpList_append_own_none rfl _ _ 22 rfl w.heap.size 5 i0 1 Try.underlying22 hi _ _ _ rfl (World.ownsRow_made w #[] 0 (Nat.le_refl _) (by unfold maxLen; omega) rfl) rfl ?_))
  obtain ⟨w3, hw3⟩ : ∃ x, x = w.alloc (.cells #[] 5) := ⟨_, rfl⟩
  have hown3 : w3.ownsRow w.heap.size 5 1 (.slice (some ⟨w.heap.size, 0, none⟩) 0 0) 0 (bc []) := by rw [hw3]; exact World.ownsRow_made w #[] 0 (Nat.le_refl _) (by unfold maxLen; omega) rfl
  have bw3 : Below w.heap.size w w3 := by rw [hw3]; exact Below.al (Below.refl _ _) _
  rw [← hw3]
  clear hw3
  generalize Value.slice (some ⟨w.heap.size, 0, none⟩) 0 0 = v3 at *
  refine Lib.hid ?_
  go_wp2_with (at_builtin; go_loud (refine wpList_append_own _ rfl _ _ 22 rfl w.heap.size 5 i0 (.int .u8 0) 1 1 Try.underlying22 hi hz0 hz1 hz2 rfl (by decide) _ _ _ rfl (hown3.alloc _) ⟨w3.heap.size, 0, none⟩ 1 1 [.int .u8 77] rfl rfl ?n1 ?n2 (by unfold maxLen; omega) (by omega) (by have := bw3.size; simp; omega) ?n3))
  case n1 =>
    intro j u hj
    have hb : (w3.alloc (.cells #[.int .u8 77] 5)).heap[w3.heap.size]? = some (.cells #[.int .u8 77] 5 (0, 0)) := al_neww rfl _
    rw [show (⟨w3.heap.size, 0, none⟩ : Addr).add j = ⟨w3.heap.size, j, none⟩ by unfold Addr.add; split <;> simp_all]
    simp only [World.cell?, hb]
    simpa using hj
  case n2 =>
    intro u hu
    simp only [List.mem_cons, List.mem_nil_iff, or_false] at hu
    rcases hu with rfl; rfl
  case n3 =>
    intro v7 w7 hown7 hgrow7 _
    have bw7 : Below w.heap.size w w7 := (bw3.alloc bw3.size _).grown hgrow7 (by have := bw3.size; simp; omega) (fun k hk => own_lt' hown3 hk)
    rw [← h77, ← bc_app] at hown7
    obtain ⟨g3, c3, rfl, hg3, hgl3, hcap3, hcm3, _⟩ := own_form hown7 (by omega)
    go_wp2
    go_ret
    exact ⟨g3, c3, rfl, hcap3, hcm3, Byt.own hown7, hg3, bw7⟩

/-- lent. -/
theorem lent_any (A : Option Addr) (n c : Nat) (l : List UInt8) (hm : n ≤ 65536) {w : World} (h : BytA w A n c l) :
    Calls Try.prog 14 #[.slice A n c] w fun e w' => ∃ g cx, e = .returned (.slice (some ⟨g, 0, none⟩) (n + 1 : Nat) cx) ∧ n + 1 ≤ cx ∧ cx ≤ maxLen ∧ Byt w' g 0 (l ++ [77]) ∧ w.heap.size ≤ g ∧ Below w.heap.size w w' := by
  cases A with
  | none =>
    obtain ⟨h0, hc⟩ := h.2 rfl
    exact lent_none n c l hm ⟨h0, hc, List.length_eq_zero_iff.1 (by rw [h.1.1, h0])⟩
  | some a => exact lent_some a n c l hm h.1
end Go.Proofs.Ytpmbdjdhgcjkfaa
