/- Plain numbers and texts of addresses: no program. By-name template. -/
import Derived.Lib.ItoaNum
import Derived.Lib.ParseIntB
import Derived.Lib.SplitLaws
import Derived.Lib.CutLaws
namespace Go.Proofs.YtmnnjkdmnfadhaaGreatDoor
set_option linter.unusedVariables false
open Go.Lib

/-- One digit. -/
def dig (n : Nat) : UInt8 := UInt8.ofNat (if n < 10 then 48 + n else 87 + n)

/-- The digits of n to the base b (at least 2). -/
def digs (b n : Nat) : List UInt8 := if h : n < b ∨ b < 2 then [dig n] else digs b (n / b) ++ [dig (n % b)]
termination_by n
decreasing_by exact Nat.div_lt_self (by omega) (by omega)

theorem digs_lo {b n : Nat} (h : n < b) : digs b n = [dig n] := by rw [digs, dif_pos (Or.inl h)]
theorem digs_hi {b n : Nat} (h : b ≤ n) (hb : 2 ≤ b) : digs b n = digs b (n / b) ++ [dig (n % b)] := by rw [digs, dif_neg (by omega)]

theorem digs_ne (b n : Nat) : digs b n ≠ [] := by
  rw [digs]; split <;> simp

theorem digs_ten : ∀ n, digs 10 n = decDigits n := by
  intro n
  induction n using Nat.strongRecOn with
  | _ n ih =>
    by_cases h : n < 10
    · rw [digs_lo h, decDigits, dif_pos h]; simp [dig, h]
    · rw [digs_hi (by omega) (by omega), decDigits, dif_neg h, ih _ (Nat.div_lt_self (by omega) (by omega))]
      have : n % 10 < 10 := Nat.mod_lt _ (by omega)
      simp [dig, this]

theorem dig_toNat {n : Nat} (h : n < 16) : (dig n).toNat = if n < 10 then 48 + n else 87 + n := by
  unfold dig
  split <;> simp [UInt8.toNat_ofNat] <;> omega

/-- How many digits four groups' numbers have at most. -/
theorem digs_len {n : Nat} : ∀ k, n < 16 ^ (k + 1) → (digs 16 n).length ≤ k + 1 := by
  intro k
  induction k generalizing n with
  | zero => intro h; rw [digs_lo (by simpa using h)]; simp
  | succ k ih =>
    intro h
    by_cases h1 : n < 16
    · rw [digs_lo h1]; simp
    · rw [digs_hi (by omega) (by omega)]
      have : n / 16 < 16 ^ (k + 1) := by
        rw [Nat.div_lt_iff_lt_mul (by omega)]
        calc n < 16 ^ (k + 1 + 1) := h
          _ = 16 ^ (k + 1) * 16 := by rw [Nat.pow_succ]
      have := ih this
      simp; omega

theorem digs10_len {n : Nat} : ∀ k, n < 10 ^ (k + 1) → (digs 10 n).length ≤ k + 1 := by
  intro k
  induction k generalizing n with
  | zero => intro h; rw [digs_lo (by simpa using h)]; simp
  | succ k ih =>
    intro h
    by_cases h1 : n < 10
    · rw [digs_lo h1]; simp
    · rw [digs_hi (by omega) (by omega)]
      have : n / 10 < 10 ^ (k + 1) := by
        rw [Nat.div_lt_iff_lt_mul (by omega)]
        calc n < 10 ^ (k + 1 + 1) := h
          _ = 10 ^ (k + 1) * 10 := by rw [Nat.pow_succ]
      have := ih this
      simp; omega

/-- A byte that is a digit to the base b ≤ 16. -/
def isDig (c : UInt8) : Prop := (48 ≤ c.toNat ∧ c.toNat ≤ 57) ∨ (97 ≤ c.toNat ∧ c.toNat ≤ 102)

theorem dig_is {n : Nat} (h : n < 16) : isDig (dig n) := by
  unfold isDig; rw [dig_toNat h]; split <;> omega

theorem digs_all {b : Nat} (hb : 2 ≤ b) (hb' : b ≤ 16) : ∀ n, ∀ c ∈ digs b n, isDig c := by
  intro n
  induction n using Nat.strongRecOn with
  | _ n ih =>
    intro c hc
    by_cases h : n < b
    · rw [digs_lo h] at hc
      obtain rfl : c = dig n := by simpa using hc
      exact dig_is (by omega)
    · rw [digs_hi (by omega) hb] at hc
      rcases List.mem_append.1 hc with hc | hc
      · exact ih _ (Nat.div_lt_self (by omega) (by omega)) c hc
      · obtain rfl : c = dig (n % b) := by simpa using hc
        exact dig_is (by have := Nat.mod_lt n (show b > 0 by omega); omega)

theorem not_isDig_46 : ¬ isDig 46 := by unfold isDig; decide
theorem not_isDig_58 : ¬ isDig 58 := by unfold isDig; decide
theorem not_isDig_47 : ¬ isDig 47 := by unfold isDig; decide
theorem not_isDig_45 : ¬ isDig 45 := by unfold isDig; decide

/-- Texts with a byte between. -/
def joinC (c : UInt8) : List (List UInt8) → List UInt8
  | [] => []
  | [p] => p
  | p :: q :: r => p ++ c :: joinC c (q :: r)

theorem joinC_cons (c : UInt8) (p : List UInt8) (l : List (List UInt8)) (h : l ≠ []) : joinC c (p :: l) = p ++ c :: joinC c l := by
  cases l with
  | nil => exact absurd rfl h
  | cons q r => rfl

theorem joinC_snoc (c : UInt8) (p : List UInt8) : ∀ l : List (List UInt8), l ≠ [] → joinC c (l ++ [p]) = joinC c l ++ c :: p
  | [], h => absurd rfl h
  | [q], _ => rfl
  | q :: r :: t, _ => by
    have ih := joinC_snoc c p (r :: t) (by simp)
    rw [List.cons_append, joinC_cons c q _ (by simp), ih, joinC_cons c q (r :: t) (by simp)]
    simp

/-- Text cut at each c. -/
def splitOn (c : UInt8) : List UInt8 → List (List UInt8)
  | [] => [[]]
  | b :: s => if b = c then [] :: splitOn c s else match splitOn c s with
    | [] => [[b]]
    | p :: l => (b :: p) :: l

theorem splitOn_ne (c : UInt8) : ∀ s, splitOn c s ≠ []
  | [] => by simp [splitOn]
  | b :: s => by
    unfold splitOn
    split
    · simp
    · split <;> simp

theorem splitOn_none (c : UInt8) : ∀ s : List UInt8, c ∉ s → splitOn c s = [s]
  | [], _ => rfl
  | b :: s, h => by
    have h1 : b ≠ c := fun e => h (by simp [e])
    have h2 : c ∉ s := fun e => h (by simp [e])
    rw [splitOn, if_neg h1, splitOn_none c s h2]

theorem splitOn_app (c : UInt8) (t : List UInt8) : ∀ s : List UInt8, c ∉ s → splitOn c (s ++ c :: t) = s :: splitOn c t
  | [], _ => by simp [splitOn]
  | b :: s, h => by
    have h1 : b ≠ c := fun e => h (by simp [e])
    have h2 : c ∉ s := fun e => h (by simp [e])
    rw [List.cons_append, splitOn, if_neg h1, splitOn_app c t s h2]

theorem splitOn_join (c : UInt8) : ∀ l : List (List UInt8), l ≠ [] → (∀ p ∈ l, c ∉ p) → splitOn c (joinC c l) = l
  | [], h, _ => absurd rfl h
  | [p], _, hp => splitOn_none c p (hp p (by simp))
  | p :: q :: r, _, hp => by
    rw [joinC_cons c p _ (by simp), splitOn_app c _ p (hp p (by simp)), splitOn_join c (q :: r) (by simp) (fun x hx => hp x (by simp [hx]))]

theorem join_splitOn (c : UInt8) : ∀ s : List UInt8, joinC c (splitOn c s) = s
  | [] => rfl
  | b :: s => by
    have ih := join_splitOn c s
    unfold splitOn
    split
    · rename_i h
      rw [joinC_cons c [] _ (splitOn_ne c s), ih, h]; rfl
    · have hne := splitOn_ne c s
      cases h2 : splitOn c s with
      | nil => exact absurd h2 hne
      | cons p l =>
        rw [h2] at ih
        simp only
        cases l with
        | nil => simp [joinC] at ih ⊢; exact ih
        | cons q r => rw [joinC_cons c _ _ (by simp)] at ih ⊢; simp [← ih]

theorem splitOn_no (c : UInt8) : ∀ s : List UInt8, ∀ p ∈ splitOn c s, c ∉ p
  | [], p, hp => by
    obtain rfl : p = [] := by simpa [splitOn] using hp
    simp
  | b :: s, p, hp => by
    unfold splitOn at hp
    split at hp
    · rcases List.mem_cons.1 hp with rfl | hp
      · simp
      · exact splitOn_no c s p hp
    · rename_i hbc
      have ih := splitOn_no c s
      cases h2 : splitOn c s with
      | nil => exact absurd h2 (splitOn_ne c s)
      | cons q l =>
        rw [h2] at hp ih
        simp only at hp
        rcases List.mem_cons.1 hp with rfl | hp
        · have := ih q (by simp)
          simp [Ne.symm hbc, this]
        · exact ih p (by simp [hp])

/-- The shelf's split at one byte is this one. -/
theorem splitK_eq (c : UInt8) : ∀ s : List UInt8, splitK [c] 0 (s.count c) s = splitOn c s := by
  intro s
  have key : ∀ (pre : List UInt8), c ∉ pre → ∀ t, index (pre ++ c :: t) [c] = pre.length := by
    intro pre
    induction pre with
    | nil => intro _ t; rw [List.nil_append, index]; simp [List.isPrefixOf]
    | cons b pre ih =>
      intro h t
      have h1 : b ≠ c := fun e => h (by simp [e])
      have h2 : c ∉ pre := fun e => h (by simp [e])
      have := ih h2 t
      rw [List.cons_append, index]
      have hp : ([c] : List UInt8).isPrefixOf (b :: (pre ++ c :: t)) = false := by simp [List.isPrefixOf, Ne.symm h1]
      rw [hp, this]
      simp
  have first : ∀ s : List UInt8, c ∈ s → ∃ pre t, s = pre ++ c :: t ∧ c ∉ pre := by
    intro s
    induction s with
    | nil => intro h; simp at h
    | cons b s ih =>
      intro h
      by_cases hb : b = c
      · exact ⟨[], s, by simp [hb], by simp⟩
      · obtain ⟨pre, t, e, hn⟩ := ih (by simpa [Ne.symm hb] using h)
        exact ⟨b :: pre, t, by simp [e], by simp [Ne.symm hb, hn]⟩
  have rest : ∀ (k : Nat) (s : List UInt8), s.count c = k → splitK [c] 0 k s = splitOn c s := by
    intro k
    induction k with
    | zero =>
      intro s hs
      rw [splitOn_none c s (List.count_eq_zero.1 hs)]; rfl
    | succ k ih =>
      intro s hs
      have hm : c ∈ s := List.count_pos_iff.1 (by omega)
      obtain ⟨pre, t, rfl, hpre⟩ := first s hm
      have hc : t.count c = k := by
        rw [List.count_append, List.count_eq_zero.2 hpre, List.count_cons_self] at hs; omega
      have hx := key pre hpre t
      have hn : ¬ ((pre.length : Int) == -1) = true := by simp
      rw [splitOn_app c t pre hpre, splitK, hx, if_neg hn]
      simp only [Int.toNat_natCast, Nat.add_zero, List.take_left, List.length_cons, List.length_nil]
      rw [← ih t hc, show pre ++ c :: t = (pre ++ [c]) ++ t by simp, show pre.length + (0 + 1) = (pre ++ [c]).length by simp, List.drop_left]
  exact rest _ s rfl
end Go.Proofs.YtmnnjkdmnfadhaaGreatDoor
