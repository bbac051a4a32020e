/- Numbers in texts, plain: what Atoi and Itoa say together is what the document's digits say. By-name template. -/
import Derived.Test.YtaafflmkfdicdaaGreatDoorARngP
import Derived.Test.YtaafflmkfdicdaaGreatDoorARGuessP
namespace Go.Proofs.YtaafflmkfdicdaaGreatDoor
set_option linter.unusedVariables false
set_option linter.unusedSimpArgs false
open Go.Lib

theorem numM_bound : ∀ (l : List UInt8) (acc k : Nat), acc < 10 ^ k → numM acc l < (10 : Int) ^ (k + l.length) ∧ -1 ≤ numM acc l
  | [], acc, k, h => by
    simp only [numM, List.length_nil, Nat.add_zero]
    exact ⟨by exact_mod_cast h, by omega⟩
  | c :: r, acc, k, h => by
    unfold numM
    split
    · exact ⟨by have : (0 : Int) < (10 : Int) ^ (k + (c :: r).length) := by exact_mod_cast Nat.pow_pos (n := k + (c :: r).length) (show 0 < 10 by omega)
                omega, by omega⟩
    · have := numM_bound r (acc * 10 + (c.toNat - 48)) (k + 1) (by rw [Nat.pow_succ]; omega)
      rw [List.length_cons, show k + (r.length + 1) = k + 1 + r.length by omega]
      exact this
theorem uint10_num : ∀ (l : List UInt8) (acc k : Nat), acc < 10 ^ k → k + l.length ≤ 18 → parseUint10 acc l = if numM acc l < 0 then .«syntax» else .ok (numM acc l).toNat
  | [], acc, k, h, hk => by
    unfold parseUint10 numM
    rw [if_neg (by omega)]
    congr 1
  | c :: r, acc, k, h, hk => by
    have h18 : 10 ^ k ≤ 10 ^ 17 := Nat.pow_le_pow_right (by omega) (by simp at hk; omega)
    have h17 : (10 : Nat) ^ 17 = 100000000000000000 := by decide
    by_cases hd : 48 ≤ c.toNat ∧ c.toNat ≤ 57
    · have hnum : numM acc (c :: r) = numM (acc * 10 + (c.toNat - 48)) r := by rw [numM, if_neg (by omega)]
      rw [hnum]
      unfold parseUint10
      rw [if_pos hd, if_neg (by omega), if_neg (by omega)]
      exact uint10_num r _ (k + 1) (by rw [Nat.pow_succ]; omega) (by simp at hk; omega)
    · have hnum : numM acc (c :: r) = -1 := by rw [numM, if_pos (by omega)]
      rw [hnum]
      unfold parseUint10
      rw [if_neg hd, if_pos (by omega)]
theorem numM_snoc : ∀ (r : List UInt8) (acc : Nat) (c : UInt8), 0 ≤ numM acc (r ++ [c]) → 0 ≤ numM acc r ∧ 48 ≤ c.toNat ∧ c.toNat ≤ 57 ∧ numM acc (r ++ [c]) = numM acc r * 10 + ((c.toNat : Int) - 48)
  | [], acc, c, h => by
    simp only [List.nil_append, numM] at h ⊢
    split at h
    · omega
    · rename_i hc
      rw [if_neg hc]
      omega
  | d :: r, acc, c, h => by
    simp only [List.cons_append, numM] at h ⊢
    by_cases hc : d.toNat < 48 ∨ 57 < d.toNat
    · rw [if_pos hc] at h; omega
    · simp only [if_neg hc] at h ⊢
      exact numM_snoc r _ c h
theorem dig_back {c : UInt8} (h0 : 48 ≤ c.toNat) (h1 : c.toNat ≤ 57) : dig (c.toNat - 48) = c := by
  have : ∀ k, k < 10 → (dig k).toNat = 48 + k := by decide
  have e := this (c.toNat - 48) (by omega)
  exact UInt8.toNat_inj.1 (by rw [e]; omega)
theorem digs_num : ∀ (n : Nat) (l : List UInt8), l.length = n → l ≠ [] → 0 ≤ numM 0 l → (1 < l.length → l.getD 0 0 ≠ 48) → digs 10 (numM 0 l).toNat = l ∧ (1 < l.length → 10 ≤ numM 0 l) ∧ (l.getD 0 0 ≠ 48 → 1 ≤ numM 0 l) := by
  intro n
  induction n using Nat.strongRecOn with
  | _ n ih =>
    intro l hl hne hn hz
    obtain ⟨r, c, rfl⟩ : ∃ r c, l = r ++ [c] := ⟨l.dropLast, l.getLast hne, (List.dropLast_concat_getLast hne).symm⟩
    obtain ⟨hr, h0, h1, he⟩ := numM_snoc r 0 c hn
    by_cases hr0 : r = []
    · subst hr0
      have e0 : numM 0 ([] : List UInt8) = 0 := rfl
      rw [e0] at he
      have e : (numM 0 ([] ++ [c])).toNat = c.toNat - 48 := by omega
      refine ⟨?_, fun h => by simp at h, fun h => ?_⟩
      · rw [e, digs_lo (by omega), dig_back h0 h1]; rfl
      · simp at h
        have : c.toNat ≠ 48 := fun e2 => h (UInt8.toNat_inj.1 e2)
        omega
    · have hlen : 1 < (r ++ [c]).length := by have := List.length_pos_iff.2 hr0; simp; omega
      have hg : (r ++ [c]).getD 0 0 = r.getD 0 0 := by
        cases r with
        | nil => exact absurd rfl hr0
        | cons a b => rfl
      have hz2 : r.getD 0 0 ≠ 48 := by rw [← hg]; exact hz hlen
      obtain ⟨i1, i2, i3⟩ := ih r.length (by rw [← hl]; simp) r rfl hr0 hr (fun _ => hz2)
      have h1r := i3 hz2
      have e : (numM 0 (r ++ [c])).toNat = (numM 0 r).toNat * 10 + (c.toNat - 48) := by omega
      refine ⟨?_, fun _ => by omega, fun _ => by omega⟩
      rw [e, digs_hi (by omega) (by omega), show ((numM 0 r).toNat * 10 + (c.toNat - 48)) / 10 = (numM 0 r).toNat by omega, show ((numM 0 r).toNat * 10 + (c.toNat - 48)) % 10 = c.toNat - 48 by omega, i1, dig_back h0 h1]

/-- A number in a text: what Atoi reads, and Itoa tells again. -/
theorem num_yes {l : List UInt8} (h : 0 ≤ numV l) : atoiAll l = .ok (numV l) ∧ itoa (numV l) = l ∧ numV l < 10000000000 ∧ l.length ≤ 10 := by
  unfold numV at h ⊢
  split at h
  · omega
  · rename_i hc
    rw [if_neg hc]
    have hne : l ≠ [] := fun e => hc (.inl (by rw [e]; rfl))
    have h10 : l.length ≤ 10 := by omega
    have hb := (numM_bound l 0 0 (by omega)).1
    have hp : (10 : Int) ^ (0 + l.length) ≤ 10 ^ 10 := by
      have : (10 : Nat) ^ (0 + l.length) ≤ 10 ^ 10 := Nat.pow_le_pow_right (by omega) (by omega)
      exact_mod_cast this
    have hlt : numM 0 l < 10000000000 := by
      have : (10 : Int) ^ 10 = 10000000000 := by decide
      omega
    obtain ⟨hd, -, -⟩ := digs_num l.length l rfl hne h (fun h1 => fun e => hc (.inr (.inr ⟨e, h1⟩)))
    refine ⟨?_, ?_, hlt, h10⟩
    · cases l with
      | nil => exact absurd rfl hne
      | cons c r =>
        have hc2 : ¬ (c.toNat < 48 ∨ 57 < c.toNat) := by
          intro hx
          simp only [numM] at h
          rw [if_pos hx] at h
          omega
        unfold atoiAll
        have hu := uint10_num (c :: r) 0 0 (by omega) (by omega)
        rw [if_neg (by omega)] at hu
        simp only [parseMag]
        rw [if_neg (show ¬ (c.toNat = 43 ∨ c.toNat = 45) by omega), if_neg (by simp), hu]
        simp only []
        rw [if_neg (by omega), if_neg (by omega), if_neg (by omega)]
        congr 1
        omega
    · obtain ⟨n, hn⟩ : ∃ n : Nat, numM 0 l = (n : Int) := ⟨(numM 0 l).toNat, by omega⟩
      rw [hn] at hd ⊢
      rw [itoa_digs]
      simpa using hd
theorem num_no {l : List UInt8} (h : numV l < 0) (hl : l.length ≤ 10) : atoiAll l = .«syntax» ∨ ∃ v : Int, atoiAll l = .ok v ∧ -10000000000 < v ∧ v < 10000000000 ∧ (0 ≤ v → itoa v ≠ l) := by
  cases l with
  | nil => left; rfl
  | cons c r =>
    have key : ∀ n : Nat, n < 10000000000 → itoa (n : Int) ≠ c :: r := fun n hn e => by
      rw [itoa_digs] at e
      have := numV_digs hn
      rw [e] at this
      omega
    have bound : ∀ (l : List UInt8), l.length ≤ 10 → numM 0 l < 10000000000 := fun l hl => by
      have hb := (numM_bound l 0 0 (by omega)).1
      have hp : (10 : Int) ^ (0 + l.length) ≤ 10 ^ 10 := by
        have : (10 : Nat) ^ (0 + l.length) ≤ 10 ^ 10 := Nat.pow_le_pow_right (by omega) (by omega)
        exact_mod_cast this
      have : (10 : Int) ^ 10 = 10000000000 := by decide
      omega
    simp at hl
    unfold atoiAll
    simp only [parseMag]
    by_cases hs : c.toNat = 43 ∨ c.toNat = 45
    · rw [if_pos hs]
      by_cases hr : r = []
      · rw [if_pos hr]; left; rfl
      · rw [if_neg hr]
        have hu := uint10_num r 0 0 (by omega) (by omega)
        have hb := bound r (by omega)
        by_cases hn : numM 0 r < 0
        · rw [if_pos hn] at hu; rw [hu]; left; rfl
        · rw [if_neg hn] at hu
          rw [hu]
          right
          simp only []
          rw [if_neg (by omega), if_neg (by omega)]
          refine ⟨_, rfl, by split <;> omega, by split <;> omega, fun _ => ?_⟩
          by_cases h45 : c.toNat = 45
          · rw [if_pos h45]
            rename_i hv
            rw [if_pos h45] at hv
            have := key (numM 0 r).toNat (by omega)
            rwa [show -((numM 0 r).toNat : Int) = ((numM 0 r).toNat : Int) by omega]
          · rw [if_neg h45]
            exact key (numM 0 r).toNat (by omega)
    · rw [if_neg hs, if_neg (by simp)]
      have hu := uint10_num (c :: r) 0 0 (by omega) (by simp; omega)
      have hb := bound (c :: r) (by simp; omega)
      by_cases hn : numM 0 (c :: r) < 0
      · rw [if_pos hn] at hu; rw [hu]; left; rfl
      · rw [if_neg hn] at hu
        rw [hu]
        right
        simp only []
        rw [if_neg (by omega), if_neg (by omega)]
        refine ⟨_, rfl, by split <;> omega, by split <;> omega, fun _ => ?_⟩
        rw [if_neg (by omega)]
        exact key (numM 0 (c :: r)).toNat (by omega)
theorem numV_long {l : List UInt8} (h : 10 < l.length) : numV l = -1 := by unfold numV; rw [if_pos (.inr (.inl h))]
end Go.Proofs.YtaafflmkfdicdaaGreatDoor
