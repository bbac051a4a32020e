/- Ranges as texts: plain. By-name template. -/
import Derived.Test.YtmnnjkdmnfadhaaGreatDoorABack
import Derived.Lib.CutLaws
import Derived.Lib.AtoiAll
import Derived.Lib.ItoaMem
import Derived.Lib.BitFns
namespace Go.Proofs.YtmnnjkdmnfadhaaGreatDoor
set_option linter.unusedVariables false
open Go.Lib

theorem notin_print (d : UInt8) (h1 : ¬ isDig d) (h2 : d ≠ 46) (h3 : d ≠ 58) (a b : Nat) : d ∉ printA a b := by
  unfold printA
  split
  · exact not_mem_joinC 46 d h2 _ (dig4_no d h1 _)
  · unfold print6
    split
    · exact not_mem_joinC 58 d h3 _ (hexs_no d h1)
    · intro hm
      rcases List.mem_append.1 hm with hm | hm
      · rcases List.mem_append.1 hm with hm | hm
        · exact not_mem_joinC 58 d h3 _ (hexs_no d h1) hm
        · simp only [List.mem_cons, List.not_mem_nil, or_false, or_self] at hm; exact h3 hm
      · exact not_mem_joinC 58 d h3 _ (hexs_no d h1) hm

theorem idx_at (c : UInt8) : ∀ (pre : List UInt8), c ∉ pre → ∀ t, index (pre ++ c :: t) [c] = pre.length := by
  intro pre
  induction pre with
  | nil => intro _ t; rw [List.nil_append, index]; simp [List.isPrefixOf]
  | cons b pre ih =>
    intro h t
    have h1 : b ≠ c := fun e => h (by simp [e])
    have h2 : c ∉ pre := fun e => h (by simp [e])
    have := ih h2 t
    rw [List.cons_append, index]
    have hp : ([c] : List UInt8).isPrefixOf (b :: (pre ++ c :: t)) = false := by simp [List.isPrefixOf, Ne.symm h1]
    rw [hp, this]
    simp
theorem idx_no (c : UInt8) : ∀ (l : List UInt8), c ∉ l → index l [c] = -1 := by
  intro l
  induction l with
  | nil => intro _; rw [index]; simp
  | cons b l ih =>
    intro h
    have h1 : b ≠ c := fun e => h (by simp [e])
    have h2 : c ∉ l := fun e => h (by simp [e])
    rw [index]
    have hp : ([c] : List UInt8).isPrefixOf (b :: l) = false := by simp [List.isPrefixOf, Ne.symm h1]
    rw [hp, ih h2]
    simp
theorem cut_at (c : UInt8) (pre t : List UInt8) (h : c ∉ pre) : cut (pre ++ c :: t) [c] = (pre, t, true) := by
  unfold cut
  rw [idx_at c pre h t]
  simp
theorem cut_no (c : UInt8) (l : List UInt8) (h : c ∉ l) : cut l [c] = (l, [], false) := by
  unfold cut
  rw [idx_no c l h]
  simp

/-- The digits of a number below 129. -/
def dn (n : Nat) : List UInt8 := if n < 10 then [dig n] else if n < 100 then [dig (n / 10), dig (n % 10)] else [dig (n / 100), dig (n / 10 % 10), dig (n % 10)]
theorem digs_dn {n : Nat} (h : n < 129) : digs 10 n = dn n := by
  unfold dn
  split
  · rw [digs_lo (by omega)]
  · rw [digs_hi (by omega) (by omega)]
    split
    · rw [digs_lo (by omega)]; rfl
    · rw [digs_hi (by omega) (by omega), digs_lo (by omega)]
      rw [show n / 10 / 10 = n / 100 by omega]; rfl
theorem atoi_dn : ∀ n, n < 129 → (match atoiAll (dn n) with | .ok v => decide (v = (n : Int)) | _ => false) = true := by decide +kernel
theorem atoi_digs {n : Nat} (h : n < 129) : atoiAll (digs 10 n) = .ok (n : Int) := by
  rw [digs_dn h]
  have := atoi_dn n h
  cases h2 : atoiAll (dn n) with
  | ok v => rw [h2] at this; simp only [decide_eq_true_eq] at this; rw [this]
  | «syntax» => rw [h2] at this; cases this
  | range => rw [h2] at this; cases this
theorem itoa_digs (n : Nat) : itoa (n : Int) = digs 10 n := by rw [itoa_nonneg, digs_ten]
theorem bitLen_64 {x : Nat} (h : x < 18446744073709551616) : bitLen x ≤ 64 := by
  by_cases h0 : x = 0
  · subst h0; decide
  · have hb := bitLenAux_bounds 64 x h h0
    have e : bitLen x = bitLenAux 64 x := by
      unfold bitLen
      exact (bitLenAux_fuel 64 x h _ (by first | omega | decide))
    rw [e]
    by_cases h65 : bitLenAux 64 x ≤ 64
    · exact h65
    · have h1 : 2 ^ 64 ≤ 2 ^ (bitLenAux 64 x - 1) := Nat.pow_le_pow_right (by omega) (by omega)
      have h2 := hb.2.1
      omega
end Go.Proofs.YtmnnjkdmnfadhaaGreatDoor
