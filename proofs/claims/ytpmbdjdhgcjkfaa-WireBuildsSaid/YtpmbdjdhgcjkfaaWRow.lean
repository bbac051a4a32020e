/- A row of bytes that was made here: what is written into it, word by word; by-name template. -/
import Derived.Test.YtpmbdjdhgcjkfaaWRTot
import Derived.Test.YtpmbdjdhgcjkfaaWRBytes
import Derived.Laws.CopyOwn
import Derived.Laws.MakeOwn
import Derived.Lib.SliceRun
namespace Go.Proofs.Ytpmbdjdhgcjkfaa
open Go.RowKit Go.Sort
set_option linter.unusedVariables false
set_option linter.unusedSimpArgs false

/-- Block B is these bytes, and no more. -/
def Row (w : World) (B : Nat) (L : List UInt8) : Prop := w.heap[B]? = some (.cells (bc L).toArray 5 (0, 0))
theorem bc_getE (L : List UInt8) (k : Nat) : (bc L)[k]? = (L[k]?).map fun x => .int .u8 (x.toNat : Nat) := by
  unfold bc; rw [List.getElem?_map]
theorem Row.cell {w : World} {B : Nat} {L : List UInt8} (h : Row w B L) (k : Nat) : w.cell? ⟨B, k, none⟩ = (L[k]?).map fun x => .int .u8 (x.toNat : Nat) := by
  unfold Row at h
  simp [World.cell?, h, bc_getE]
theorem Row.byt {w : World} {B : Nat} {L : List UInt8} (h : Row w B L) : Byt w B 0 L := fun k x hx => by
  rw [Nat.zero_add, h.cell, hx]; rfl
theorem Row.lt {w : World} {B : Nat} {L : List UInt8} (h : Row w B L) : B < w.heap.size := (Array.getElem?_eq_some_iff.1 h).1
theorem Row.below {w w' : World} {B : Nat} {L : List UInt8} (h : Row w B L) (hb : Below w.heap.size w w') : Row w' B L := (hb.block B h.lt).trans h
theorem Row.frozen {w : World} {B : Nat} {L : List UInt8} (h : Row w B L) (k : Nat) : w.frozen? ⟨B, k, none⟩ = false := by
  unfold Row at h
  simp [World.frozen?, h]
theorem Row.room {w : World} {B : Nat} {L : List UInt8} (h : Row w B L) {o m : Nat} (hm : o + m ≤ L.length) : Room w B o m := fun j hj =>
  ⟨⟨_, by rw [h.cell, List.getElem?_eq_getElem (show o + j < L.length by omega)]; rfl⟩, h.frozen _⟩
theorem Row.own {w : World} {B : Nat} {L : List UInt8} (h : Row w B L) {base n : Nat} (hb : base ≤ B) (hn : L.length = n) (hm : n ≤ maxLen) :
    w.ownsRow base 5 1 (.slice (some ⟨B, 0, none⟩) n n) n (bc L) :=
  ⟨by rw [bc_len, hn, Nat.mul_one], .inr ⟨B, n, (bc L).toArray, rfl, hb, h, Nat.le_refl _, hm, by simp [bc_len, hn], by simp only [List.toList_toArray]; rw [List.take_of_length_le (by rw [bc_len]; omega)]⟩⟩
/-- Part of it is written anew. -/
theorem Row.wr {w w' : World} {B o : Nat} {L L' a b c bs : List UInt8} (h : Row w B L) (hw : Wr w B o bs w') (hL : L = a ++ b ++ c) (ho : a.length = o) (hb : bs.length = b.length) (hL' : L' = a ++ bs ++ c) : Row w' B L' := by
  subst hL; subst ho; subst hL'
  obtain ⟨cs, hs, hk⟩ := hw.kind _ _ _ h
  unfold Row
  rw [hk]
  congr 2
  have hlen : cs.size = (a ++ bs ++ c).length := by rw [hs]; simp [bc_len, hb]
  apply Array.ext_getElem?
  intro k
  rw [show (bc (a ++ bs ++ c)).toArray[k]? = (bc (a ++ bs ++ c))[k]? by simp, bc_getE]
  have hc : w'.cell? ⟨B, k, none⟩ = cs[k]? := by simp [World.cell?, hk]
  rw [← hc]
  by_cases h1 : k < a.length
  · rw [hw.out k (by omega), h.cell, List.append_assoc, List.append_assoc, List.getElem?_append_left h1, List.getElem?_append_left h1]
  · by_cases h2 : k < a.length + bs.length
    · rw [List.append_assoc, List.getElem?_append_right (by omega), List.getElem?_append_left (by omega)]
      have hx : bs[k - a.length]? = some (bs[k - a.length]'(by omega)) := List.getElem?_eq_getElem _
      have := hw.inn _ _ hx
      rw [show a.length + (k - a.length) = k by omega] at this
      rw [this, hx]; rfl
    · rw [hw.out k (by omega), h.cell, List.getElem?_append_right (by rw [List.length_append]; omega), List.getElem?_append_right (by rw [List.length_append]; omega), List.length_append, List.length_append, hb]
theorem Row.set {w : World} {B o : Nat} {L L' a c : List UInt8} {y : UInt8} (h : Row w B L) (x : UInt8) (hL : L = a ++ [y] ++ c) (ho : a.length = o) (hL' : L' = a ++ [x] ++ c) : Row (w.setCell ⟨B, o, none⟩ (.int .u8 (x.toNat : Nat))) B L' := by
  have hc : ∃ v, w.cell? ⟨B, o, none⟩ = some v := ⟨_, by
    rw [h.cell, hL, ← ho, List.append_assoc, List.getElem?_append_right (Nat.le_refl _)]; simp; rfl⟩
  exact h.wr ((Wrote.nil w B (o + 1)).cons x hc).wr hL ho rfl hL'
theorem Row.new (w : World) (L : List UInt8) : Row (w.alloc (.cells (bc L).toArray 5)) w.heap.size L := al_neww rfl _

/-- Noughts that are not written yet. -/
def Zs (n : Nat) : List UInt8 := List.replicate n 0
theorem Zs_len (n : Nat) : (Zs n).length = n := by simp [Zs]
theorem Zs_add (k m : Nat) : Zs (k + m) = Zs k ++ Zs m := by unfold Zs; rw [List.replicate_append_replicate]
theorem Row.wz {w w' : World} {B o q k m : Nat} {p bs : List UInt8} (h : Row w B (p ++ Zs q)) (hw : Wr w B o bs w') (hq : q = k + m) (ho : p.length = o) (hb : bs.length = k) : Row w' B (p ++ bs ++ Zs m) := by
  refine h.wr hw (a := p) (b := Zs k) (c := Zs m) (by rw [hq, Zs_add, List.append_assoc]) ho (by rw [hb, Zs_len]) rfl
theorem Row.sz {w : World} {B o q m : Nat} {p : List UInt8} (h : Row w B (p ++ Zs q)) (x : UInt8) (hq : q = 1 + m) (ho : p.length = o) : Row (w.setCell ⟨B, o, none⟩ (.int .u8 (x.toNat : Nat))) B (p ++ [x] ++ Zs m) := by
  refine h.set x (a := p) (y := 0) (c := Zs m) (by rw [hq, Zs_add, List.append_assoc]; rfl) ho rfl
theorem splice_bc (p b d : List UInt8) (o : Nat) (ho : p.length = o) (hb : b.length = d.length) : splice (bc (p ++ b)) o (bc d) = bc (p ++ d) := by
  subst ho
  unfold splice
  rw [bc_app, bc_app, bc_len]
  have e1 : (bc p ++ bc b).take p.length = bc p := by rw [← bc_len p]; exact List.take_left
  have e2 : (bc p ++ bc b).drop (p.length + d.length) = [] := List.drop_eq_nil_of_le (by rw [List.length_append, bc_len, bc_len]; omega)
  rw [e1, e2, List.append_nil]

theorem made_bytes (n : Nat) : madeCells (Value.cells (.int .u8 0)) (n * 1) = (bc (List.replicate n 0)).toArray := by
  rw [Nat.mul_one]
  apply Array.toList_inj.1
  rw [show Value.cells (.int .u8 0) = #[.int .u8 0] from rfl, toList_madeCells_one]
  simp [bc]
/-- make([]byte, n). -/
theorem make_run (n : Nat) (hn : n ≤ 281474976710656) (w : World) :
    (Instr.makeSlice 22 (.int .i64 (n : Int)) (.int .i64 (n : Int))).run Try.prog w = .ok (.slice (some ⟨w.heap.size, 0, none⟩) n n) (w.alloc (.cells (bc (List.replicate n 0)).toArray 5)) := by
  obtain ⟨i0, hi, hz0, hz1, hz2⟩ := info_parts info8
  have := run_make (P := Try.prog) w 22 5 i0 (.int .u8 0) Try.underlying22 hi hz0 .i64 .i64 (n : Int) (n : Int) (by omega) (Int.le_refl _) (by rw [hz2]; omega) (by omega)
  rw [this, hz1, Int.toNat_natCast, made_bytes]
end Go.Proofs.Ytpmbdjdhgcjkfaa
