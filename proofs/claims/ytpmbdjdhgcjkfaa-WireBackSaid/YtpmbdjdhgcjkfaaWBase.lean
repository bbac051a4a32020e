/- Rows of bytes as cells; long; by-name template. -/
import Derived.Test.YtpmbdjdhgcjkfaaWNum
import Derived.OwnWalk
import Derived.Deep.AppendLies
import Derived.Laws.OwnMore
namespace Go.Proofs.Ytpmbdjdhgcjkfaa
open Go.RowKit
set_option linter.unusedVariables false
set_option linter.unusedSimpArgs false

/-- Bytes as cells. -/
def bc (l : List UInt8) : List Value := l.map fun x => Value.int .u8 (x.toNat : Nat)
theorem bc_get {l : List UInt8} {k : Nat} {x : UInt8} (h : l[k]? = some x) : (bc l)[k]? = some (.int .u8 (x.toNat : Nat)) := by simp [bc, h]
theorem info8 : (Try.prog.info? 5).map (fun i => (i.zero, i.size, i.bytes)) = some (some (.int .u8 0), 1, 1) := by kernel_rfl

/-- A row of the call's own, its block written out. -/
theorem own_form {w : World} {B : Nat} {e : TypeId} {v : Value} {n : Nat} {xs : List Value} (h : w.ownsRow B e 1 v n xs) (hn : 0 < n) :
    ∃ g cap, v = .slice (some ⟨g, 0, none⟩) n cap ∧ B ≤ g ∧ g < w.heap.size ∧ n ≤ cap ∧ cap ≤ maxLen ∧ (∀ k u, xs[k]? = some u → w.cell? ⟨g, k, none⟩ = some u) ∧ ∀ k, w.frozen? ⟨g, k, none⟩ = false := by
  have h' := h
  rcases h.2 with ⟨_, h0⟩ | ⟨g, cap, cur, rfl, h1, h2, h3, h4, h5, h6⟩
  · omega
  · refine ⟨g, cap, rfl, h1, (Array.getElem?_eq_some_iff.1 h2).1, h3, h4, fun k u hu => ?_, fun k => by simp [World.frozen?, h2]⟩
    have := h'.cells (g := g) rfl k u hu
    have e : (⟨g, 0, none⟩ : Addr).add k = ⟨g, k, none⟩ := by unfold Addr.add; split <;> simp_all
    rw [← e]; exact this

theorem own_set {w : World} {B : Nat} {e : TypeId} {g n cap : Nat} {xs : List Value} (h : w.ownsRow B e 1 (.slice (some ⟨g, 0, none⟩) n cap) n xs) (i : Nat) (hi : i < n) (u : Value) :
    (w.setCell ⟨g, i, none⟩ u).ownsRow B e 1 (.slice (some ⟨g, 0, none⟩) n cap) n (xs.set i u) := by
  obtain ⟨h0, h1⟩ := h
  refine ⟨by simpa using h0, .inr ?_⟩
  rcases h1 with ⟨h2, _⟩ | ⟨g', cap', cur, hv, k1, k2, k3, k4, k5, k6⟩
  · cases h2
  · injection hv with e1 e2 e3
    injection e1 with e1
    injection e1 with e1
    subst e1; subst e3
    refine ⟨g, cap, cur.setIfInBounds i u, rfl, k1, by simp [World.setCell, Array.getElem?_modify, k2], k3, k4, by simpa using k5, ?_⟩
    rw [Array.toList_setIfInBounds, List.take_set, k6]

theorem Byt.own {w : World} {B : Nat} {e : TypeId} {g n cap : Nat} {l : List UInt8} (h : w.ownsRow B e 1 (.slice (some ⟨g, 0, none⟩) n cap) n (bc l)) : Byt w g 0 l := fun k x hx => by
  have := h.cells (g := g) rfl k _ (bc_get hx)
  have e : (⟨g, 0, none⟩ : Addr).add k = ⟨g, k, none⟩ := by unfold Addr.add; split <;> simp_all
  rw [e] at this
  simpa using this

theorem below_set {N B : Nat} {w w1 : World} (h : Below N w w1) (hB : N ≤ B) (o : Nat) (v : Value) : Below N w (w1.setCell ⟨B, o, none⟩ v) :=
  ⟨h.os, h.tape, h.output, by simpa [World.setCell] using h.size, fun k hk => by
    have : B ≠ k := by omega
    simp only [World.setCell, Array.getElem?_modify]
    rw [if_neg this]; exact h.block k hk⟩

theorem long_any (A : Option Addr) (n c : Nat) (hn : n ≤ 9223372036854775807) (w : World) : Calls Try.prog 9 #[.slice A n c] w fun e w' => e = .returned (.bool (decide (65536 < n))) ∧ w = w' := by
  by_cases h : 65536 < n
  · have hi : (65536 : Int) < (n : Int) := by omega
    have e : decide (65536 < n) = true := by simp [h]
    rw [e]
    go_enter Try.func9, Try.ntmps9
    go_wp2
    go_ret
    exact ⟨by first | rfl | simp, rfl⟩
  · have hi : decide ((65536 : Int) < (n : Int)) = false := by simp; omega
    have e : decide (65536 < n) = false := by simp [h]
    rw [e]
    go_enter Try.func9, Try.ntmps9
    go_wp2
    go_ret
    exact ⟨by first | rfl | simp, rfl⟩

/-- Where a byte goes: i taken by h, from 0 on. -/
theorem place (i : Int) (h : Nat) (h2 : 2 ≤ h) : ∃ (p : Int) (q j : Nat), i.tmod (h : Int) = p ∧ p + (h : Int) = (q : Int) ∧ (q : Int).tmod (h : Int) = (j : Int) ∧ (q : Int) % (h : Int) = (j : Int) ∧ j < h ∧ -(h : Int) < p ∧ p < (h : Int) ∧ q < 2 * h := by
  have hp : i.tmod (h : Int) < (h : Int) := Int.tmod_lt_of_pos _ (by omega)
  have hm : -(h : Int) < i.tmod (h : Int) := by
    have h1 := Int.neg_tmod (a := -i) (b := (h : Int))
    rw [Int.neg_neg] at h1
    have h3 : (-i).tmod (h : Int) < (h : Int) := Int.tmod_lt_of_pos _ (by omega)
    omega
  have hq : i.tmod (h : Int) + (h : Int) = ((i.tmod (h : Int) + (h : Int)).toNat : Int) := by omega
  have hmod : ((i.tmod (h : Int) + (h : Int)).toNat : Int) % (h : Int) = (((i.tmod (h : Int) + (h : Int)).toNat % h : Nat) : Int) := by omega
  refine ⟨_, (i.tmod (h : Int) + (h : Int)).toNat, (i.tmod (h : Int) + (h : Int)).toNat % h, rfl, hq, ?_, hmod, Nat.mod_lt _ (by omega), hm, hp, by omega⟩
  rw [Int.tmod_eq_emod_of_nonneg (by omega)]; exact hmod

theorem stop_op {P : Program} {w : World} {ops : Array Oper} {rest : List Oper} {o : Oper} {a : Act} {Q : Exit → Act → World → Prop} (h : Hid (wpList P ops Q (o :: rest) a w)) : wpList P ops Q (o :: rest) a w := h.out
theorem bc_set (l : List UInt8) (i : Nat) (x : UInt8) : bc (l.set i x) = (bc l).set i (.int .u8 (x.toNat : Nat)) := by simp [bc, List.map_set]
theorem bc_app (l m : List UInt8) : bc (l ++ m) = bc l ++ bc m := by simp [bc]

end Go.Proofs.Ytpmbdjdhgcjkfaa
