/- The base of wheel's texts: worlds that differ in some blocks, pointers in maps; by-name template. -/
import Derived.Test.YtdgodndaaenafaaWHP
import Derived.Maps.RangeWalk
import Derived.Maps.Ext
import Derived.DeepKeys5
import Derived.Lib.Hide
import Derived.Below
import Derived.BigQuiet
import Derived.BigRegion
import Derived.StillTailTactics
import Derived.Outline
import Derived.WalkSpells
import Derived.Laws.Rows
import Derived.Laws.Tables
import Derived.Deep.RegionWith
import Derived.Deep.RegionHeld3
import Derived.Deep.DeepCutAuto
import Derived.Deep.QuietTactic
import Derived.Lib.QuietBelow
import Derived.LoopTactic
import Derived.RowKit3
import Derived.LaidEqlPtr
import Derived.Laws.AppendOwn
import Derived.Laws.AppendOwnNone
import Derived.Laws.OwnMore
namespace Go.Proofs.Ytdgodndaaenafaa
open Go.RowKit Go.Lib Go.Maps
set_option linter.unusedVariables false
set_option linter.unusedSimpArgs false

def i64ok (n : Int) : Prop := -9223372036854775808 ≤ n ∧ n ≤ 9223372036854775807
/-- All blocks but B are as they were. -/
structure Off (B : Nat) (w w' : World) : Prop where
  os : w'.os = w.os
  tape : w'.tape = w.tape
  output : w'.output = w.output
  size : w.heap.size ≤ w'.heap.size
  block : ∀ k, k < w.heap.size → k ≠ B → w'.heap[k]? = w.heap[k]?

theorem Off.refl (B : Nat) (w : World) : Off B w w := ⟨rfl, rfl, rfl, Nat.le_refl _, fun _ _ _ => rfl⟩
theorem Off.trans {B : Nat} {a b c : World} (h : Off B a b) (k : Off B b c) : Off B a c :=
  ⟨k.os.trans h.os, k.tape.trans h.tape, k.output.trans h.output, Nat.le_trans h.size k.size, fun i hi hn => (k.block i (Nat.lt_of_lt_of_le hi h.size) hn).trans (h.block i hi hn)⟩
theorem Off.drew {B : Nat} {a w : World} (h : Off B a w) : Off B a w.drew := ⟨h.os, h.tape, h.output, h.size, h.block⟩
theorem Off.setCell {B : Nat} {a w : World} (h : Off B a w) {p : Addr} (hp : p.block = B) (u : Value) : Off B a (w.setCell p u) :=
  h.trans ⟨rfl, rfl, rfl, by simp [World.setCell], fun k _ hn => Below.heap_setCell _ _ _ _ (by omega)⟩
theorem Off.set {B : Nat} {a w : World} (h : Off B a w) (o : Nat) (u : Value) : Off B a (w.setCell ⟨B, o, none⟩ u) := h.setCell rfl u
theorem Off.toBelow {A B : Nat} {w w' : World} (h : Off B w w') (hA : A ≤ B) (hB : A ≤ w.heap.size) : Below A w w' :=
  ⟨h.os, h.tape, h.output, h.size, fun k hk => h.block k (by omega) (by omega)⟩

theorem heap_set {w : World} {B : Nat} {cs : Array Value} {t : TypeId} {fz : Nat × Nat} (h : w.heap[B]? = some (.cells cs t fz)) (o : Nat) (v : Value) :
    (w.setCell ⟨B, o, none⟩ v).heap[B]? = some (.cells (cs.setIfInBounds o v) t fz) := by
  simp [World.setCell, Array.getElem?_modify, h]
theorem ret_bool {a b : Bool} (h : a = b) : Ending.returned (.bool a) = .returned (.bool b) := by rw [h]
theorem ret_int {a b : Int} (h : a = b) : Ending.returned (.int .i64 a) = .returned (.int .i64 b) := by rw [h]
/-- All blocks that are not of S are as they were. -/
structure OffS (S : Nat → Prop) (w w' : World) : Prop where
  os : w'.os = w.os
  tape : w'.tape = w.tape
  output : w'.output = w.output
  size : w.heap.size ≤ w'.heap.size
  block : ∀ k, k < w.heap.size → ¬ S k → w'.heap[k]? = w.heap[k]?
theorem OffS.refl (S : Nat → Prop) (w : World) : OffS S w w := ⟨rfl, rfl, rfl, Nat.le_refl _, fun _ _ _ => rfl⟩
theorem OffS.trans {S : Nat → Prop} {a b c : World} (h : OffS S a b) (k : OffS S b c) : OffS S a c :=
  ⟨k.os.trans h.os, k.tape.trans h.tape, k.output.trans h.output, Nat.le_trans h.size k.size, fun i hi hn => (k.block i (Nat.lt_of_lt_of_le hi h.size) hn).trans (h.block i hi hn)⟩
theorem Off.toS {S : Nat → Prop} {B : Nat} {w w' : World} (h : Off B w w') (hB : S B ∨ w.heap.size ≤ B) : OffS S w w' :=
  ⟨h.os, h.tape, h.output, h.size, fun k hk hn => h.block k hk (fun e => by subst e; rcases hB with hB | hB; exact hn hB; omega)⟩
theorem offS_below {S : Nat → Prop} {w w' : World} (h : Below w.heap.size w w') : OffS S w w' := ⟨h.os, h.tape, h.output, h.size, fun k hk _ => h.block k hk⟩
theorem OffS.toBelow {S : Nat → Prop} {A : Nat} {w w' : World} (h : OffS S w w') (hA : ∀ k, S k → A ≤ k) (hB : A ≤ w.heap.size) : Below A w w' :=
  ⟨h.os, h.tape, h.output, h.size, fun k hk => h.block k (by omega) (fun e => by have := hA k e; omega)⟩
theorem OffS.mono {S S' : Nat → Prop} {w w' : World} (h : OffS S w w') (hS : ∀ k, k < w.heap.size → S k → S' k) : OffS S' w w' :=
  ⟨h.os, h.tape, h.output, h.size, fun k hk hn => h.block k hk (fun e => hn (hS k hk e))⟩
/-- what is behind the first world's end need not be named. -/
theorem OffS.andThen {S S' : Nat → Prop} {a b c : World} (h : OffS S a b) (k : OffS S' b c) (hS : ∀ i, i < a.heap.size → S' i → S i) : OffS S a c :=
  ⟨k.os.trans h.os, k.tape.trans h.tape, k.output.trans h.output, Nat.le_trans h.size k.size, fun i hi hn => (k.block i (Nat.lt_of_lt_of_le hi h.size) (fun e => hn (hS i hi e))).trans (h.block i hi hn)⟩

def ptrR : Value → Option (DataW Unit × List MemPlace)
  | .pointer none => some (.nil, [])
  | .pointer (some a) => if a.off = 0 ∧ a.spot = none then some (.lit (.int .i64 a.block), []) else none
  | _ => none
theorem ptrR_mk (M : Nat) : ptrR (.pointer (some ⟨M, 0, none⟩)) = some (.lit (.int .i64 M), []) := rfl
theorem ptrR_inv {v : Value} {M : Nat} {ps : List MemPlace} (h : ptrR v = some (.lit (.int .i64 M), ps)) : v = .pointer (some ⟨M, 0, none⟩) := by
  unfold ptrR at h
  split at h
  · simp at h
  · split at h
    · rename_i a hc
      simp only [Option.some.injEq, Prod.mk.injEq, DataW.lit.injEq, Lit.int.injEq, true_and] at h
      obtain ⟨b, o, sp⟩ := a
      obtain ⟨rfl, rfl⟩ := hc
      simp only at h
      obtain ⟨h, _⟩ := h
      have : b = M := by omega
      rw [this]
    · cases h
  · cases h

theorem ne_cells {w : World} {a b : Nat} {cs cs' : Array Value} {T T' : TypeId} (h : w.heap[a]? = some (.cells cs T (0, 0))) (h' : w.heap[b]? = some (.cells cs' T' (0, 0))) (hT : T ≠ T') : a ≠ b := by
  intro e
  rw [e, h'] at h
  simp only [Option.some.injEq, Obj.cells.injEq] at h
  exact hT h.2.1.symm
theorem free_of {w : World} {B : Nat} {cs : Array Value} {T : TypeId} (h : w.heap[B]? = some (.cells cs T (0, 0))) (o : Nat) : w.frozen? ⟨B, o, none⟩ = false := by simp [World.frozen?, h]
theorem bel_dn {N : Nat} {w w' : World} (h : Below N w w') (n : Nat) : Below N w (w'.drewN n) := ⟨h.os, h.tape, h.output, h.size, h.block⟩
theorem bel_dr {N : Nat} {w w' : World} (h : Below N w w') : Below N w w'.drew := ⟨h.os, h.tape, h.output, h.size, h.block⟩
theorem bel_via {w w1 w2 : World} (h : Below w.heap.size w w1) (k : Below w1.heap.size w1 w2) : Below w.heap.size w w2 := h.trans (k.mono h.size)
theorem grown_off {w w' : World} {k : Nat} (h : w.grownBy w' (some k)) : OffS (fun j => j = k) w w' := ⟨h.os, h.tape, h.output, h.size, fun j hj hn => h.block j hj (fun e => hn (Option.some.inj e))⟩
theorem OffS.dn {S : Nat → Prop} {w w' : World} (h : OffS S w w') (n : Nat) : OffS S w (w'.drewN n) := ⟨h.os, h.tape, h.output, h.size, h.block⟩
theorem OffS.dr {S : Nat → Prop} {w w' : World} (h : OffS S w w') : OffS S w w'.drew := ⟨h.os, h.tape, h.output, h.size, h.block⟩
theorem set_other {w : World} {B b : Nat} (h : b ≠ B) (o : Nat) (v : Value) : (w.setCell ⟨B, o, none⟩ v).heap[b]? = w.heap[b]? := by
  simp only [World.setCell, Array.getElem?_modify]
  rw [if_neg (fun e => h e.symm)]
theorem set_size (w : World) (p : Addr) (v : Value) : (w.setCell p v).heap.size = w.heap.size := by simp [World.setCell]
theorem al_size (w : World) (o : Obj) : (w.alloc o).heap.size = w.heap.size + 1 := by show (w.heap.push o).size = _; simp
theorem blk_lt {w : World} {g : Nat} {o : Obj} (h : w.heap[g]? = some o) : g < w.heap.size := (Array.getElem?_eq_some_iff.1 h).1
end Go.Proofs.Ytdgodndaaenafaa
