/- Set; by-name template. -/
import Derived.Test.YtikaeblmjlfgcaaWrite
namespace Go.Proofs.Ytikaeblmjlfgcaa
open Go.RowKit
set_option linter.unusedVariables false

/-- All blocks but B and S are as they were. -/
structure Off2 (B S : Nat) (w w' : World) : Prop where
  os : w'.os = w.os
  tape : w'.tape = w.tape
  output : w'.output = w.output
  size : w.heap.size ≤ w'.heap.size
  block : ∀ k, k < w.heap.size → k ≠ B → k ≠ S → w'.heap[k]? = w.heap[k]?
theorem Off2.of {B S : Nat} {w w' : World} (h : Off B w w') : Off2 B S w w' := ⟨h.os, h.tape, h.output, h.size, fun k hk hn _ => h.block k hk hn⟩
theorem Off2.below {B S : Nat} {w w' : World} (h : Below w.heap.size w w') : Off2 B S w w' := ⟨h.os, h.tape, h.output, h.size, fun k hk _ _ => h.block k hk⟩
theorem Off2.trans {B S : Nat} {a b c : World} (h : Off2 B S a b) (k : Off2 B S b c) : Off2 B S a c :=
  ⟨k.os.trans h.os, k.tape.trans h.tape, k.output.trans h.output, Nat.le_trans h.size k.size, fun i hi h1 h2 => (k.block i (Nat.lt_of_lt_of_le hi h.size) h1 h2).trans (h.block i hi h1 h2)⟩
theorem Off2.set {B S : Nat} {a w : World} (h : Off2 B S a w) (o : Nat) (v : Value) : Off2 B S a (w.setCell ⟨S, o, none⟩ v) :=
  ⟨h.os, h.tape, h.output, by simpa [World.setCell] using h.size, fun i hi h1 h2 => (heap_other w h2 o v).trans (h.block i hi h1 h2)⟩
/-- Behind the opening of a store. -/
theorem Off.via {B S : Nat} {a w w' : World} (h : Off B a w) (k : Off2 B S w w') (hS : a.heap.size ≤ S) : Off B a w' :=
  ⟨k.os.trans h.os, k.tape.trans h.tape, k.output.trans h.output, Nat.le_trans h.size k.size, fun i hi hn => (k.block i (Nat.lt_of_lt_of_le hi h.size) hn (by omega)).trans (h.block i hi hn)⟩

/-- What Set comes to. -/
def SPost (D : DS) (B S : Nat) (L : List Pt) (w : World) (e : Ending) (w' : World) : Prop :=
  ∃ c D', e = .returned (.int .i64 c) ∧ DiskAt w' B D' ∧ Off2 B S w w' ∧ ((Chk L c ∧ (c ≠ 0 ∨ L = []) ∧ D' = D) ∨ (Chk L 0 ∧ L ≠ [] ∧ WOut D L c D'))

set_option maxHeartbeats 2000000 in
set_option maxRecDepth 100000 in
theorem set_any {a : Option Addr} {L : List Pt} (cap : Nat) {w : World} {S B : Nat} {D : DS} (h : PutsAt w a L) (hS : StoreAt w S B B) (hD : DiskAt w B D) (hSB : S ≠ B) (hsm : Small D) (hl0 : 0 ≤ D.l) (hl1 : D.l ≤ 9223372036854775807) (hn0 : 0 ≤ D.n) (hn1 : D.n < 9223372036854775000) :
    Calls Try.prog 11 #[.pointer (some ⟨S, 0, none⟩), .slice a L.length cap] w (SPost D B S L w) := by
  have hck := check_any cap h
  have hl := h.1
  go_enter Try.func11, Try.ntmps11
  go_wp2_with fail
  refine hck.mono ?_
  rintro e w1 ⟨c, rfl, hc, hb1⟩
  have hS1 := Blk.below hS hb1 (Blk.lt hS)
  have hD1 := hD.below hb1 hD.lt
  have hP1 := h.below hb1 (Nat.le_refl _)
  clear hck
  by_cases hc0 : c = 0
  · subst hc0
    by_cases hL : L = []
    · subst hL
      go_wp2_with fail
      go_ret
      exact ⟨0, D, rfl, hD1, Off2.below hb1, .inl ⟨hc, .inr rfl, rfl⟩⟩
    · have hlen : 0 < L.length := List.length_pos_iff.2 hL
      have hlb : ((L.length : Int) == 0) = false := by rw [beq_eq_false_iff_ne]; omega
      have c1 := StoreAt.c1 hS1
      have hwr := write_any2 cap hP1 hc hD1 hsm hl0 hl1 hn0 hn1
      have HL := Lib.hid hL
      clear hL
      go_wp2_with fail
      refine hwr.mono ?_
      rintro e w2 ⟨r, D2, rfl, hout, hD2, hO2⟩
      have hS2 := Blk.off hS1 hO2 hSB
      have c2 := StoreAt.c1 hS2
      have f2 := Blk.free hS2 1
      have hOO : Off2 B S w w2 := (Off2.below hb1).trans (Off2.of hO2)
      clear hwr c1
      by_cases hr : r = 12
      · subst hr
        have hcl := clone_any hD2
        go_wp2_with fail
        refine hcl.mono ?_
        rintro e w3 ⟨rfl, _, hb3, _⟩
        have hS3 := Blk.below hS2 hb3 (Blk.lt hS2)
        have c3 := StoreAt.c1 hS3
        have f3 := Blk.free hS3 1
        have hD3 := (hD2.below hb3 hD2.lt).other (k := S) (Ne.symm hSB) 1 (.pointer (some ⟨w2.heap.size, 0, none⟩))
        have hO3 := (hOO.trans (Off2.below hb3)).set 1 (.pointer (some ⟨w2.heap.size, 0, none⟩))
        clear hcl
        go_wp2_with fail
        go_ret
        exact ⟨12, D2, rfl, hD3, hO3, .inr ⟨hc, HL.out, hout⟩⟩
      · have hrb : (r == 12) = false := by simpa using hr
        go_wp2_with fail
        go_ret
        exact ⟨r, D2, rfl, hD2, hOO, .inr ⟨hc, HL.out, hout⟩⟩
  · have hcb : (c != 0) = true := by simpa using hc0
    go_wp2_with fail
    go_ret
    exact ⟨c, D, rfl, hD1, Off2.below hb1, .inl ⟨hc, .inl hc0, rfl⟩⟩
end Go.Proofs.Ytikaeblmjlfgcaa
