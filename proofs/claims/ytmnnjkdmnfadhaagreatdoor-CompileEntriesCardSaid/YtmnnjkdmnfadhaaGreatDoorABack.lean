/- What is printed is read back: plain. By-name template. -/
import Derived.Test.YtmnnjkdmnfadhaaGreatDoorAText
namespace Go.Proofs.YtmnnjkdmnfadhaaGreatDoor
set_option linter.unusedVariables false
open Go.Lib

theorem joinC_lenK (c : UInt8) (k : Nat) : ∀ l : List (List UInt8), (∀ p ∈ l, p.length ≤ k) → (joinC c l).length ≤ (k + 1) * l.length - 1
  | [], _ => by simp [joinC]
  | [p], h => by have := h p (by simp); simp [joinC]; omega
  | p :: q :: r, h => by
    have ih := joinC_lenK c k (q :: r) (fun x hx => h x (List.mem_cons_of_mem _ hx))
    have hp := h p (by simp)
    rw [joinC_cons c p _ (by simp)]
    have e : (k + 1) * (p :: q :: r).length = (k + 1) * (q :: r).length + (k + 1) := by rw [List.length_cons, Nat.mul_succ]
    have e2 : (k + 1) * (q :: r).length = (k + 1) * r.length + (k + 1) := by rw [List.length_cons, Nat.mul_succ]
    simp only [List.length_append, List.length_cons] at ih e e2 ⊢
    omega

theorem hexs_len4 {l : List Nat} (h : ∀ n ∈ l, n ≤ 65535) : ∀ p ∈ hexs l, p.length ≤ 4 := by
  intro p hp
  obtain ⟨n, hn, rfl⟩ := List.mem_map.1 hp
  exact digs_len 3 (by have := h n hn; omega)

theorem mem_joinC (c : UInt8) (p q : List UInt8) (r : List (List UInt8)) : c ∈ joinC c (p :: q :: r) := by
  rw [joinC_cons c p _ (by simp)]; simp

theorem not_mem_joinC (c d : UInt8) (hd : d ≠ c) : ∀ l : List (List UInt8), (∀ p ∈ l, d ∉ p) → d ∉ joinC c l
  | [], _ => by simp [joinC]
  | [p], h => by simpa [joinC] using h p (by simp)
  | p :: q :: r, h => by
    have ih := not_mem_joinC c d hd (q :: r) (fun x hx => h x (List.mem_cons_of_mem _ hx))
    rw [joinC_cons c p _ (by simp)]
    intro hm
    rcases List.mem_append.1 hm with hm | hm
    · exact h p (by simp) hm
    · rcases List.mem_cons.1 hm with hm | hm
      · exact hd hm
      · exact ih hm

theorem gsN_leK (hi lo : Nat) : ∀ n ∈ gsN hi lo, n ≤ 65535 := by
  intro n hn
  simp only [gsN, List.mem_cons, List.not_mem_nil, or_false] at hn
  rcases hn with h | h | h | h | h | h | h | h <;> omega

theorem hi_gsN {hi lo : Nat} (h : hi < 18446744073709551616) : hiOf (gsN hi lo) = hi := by
  unfold hiOf gsN
  simp only [List.getD_cons_zero, List.getD_cons_succ]
  omega
theorem lo_gsN {hi lo : Nat} (h : lo < 18446744073709551616) : loOf (gsN hi lo) = lo := by
  unfold loOf gsN
  simp only [List.getD_cons_zero, List.getD_cons_succ]
  omega

theorem fill_row {g : List Nat} (h8 : g.length = 8) {f t : Nat} (h1 : f ≤ t) (h2 : t ≤ 8) (hz : ∀ i, f ≤ i → i < t → g.getD i 1 = 0) : fillG (g.take f) (g.drop t) = g := by
  unfold fillG
  have e1 : (g.take f).length = f := by rw [List.length_take]; omega
  have e2 : (g.drop t).length = 8 - t := by rw [List.length_drop]; omega
  rw [e1, e2, show 8 - f - (8 - t) = t - f by omega]
  refine List.ext_getElem? fun i => ?_
  by_cases hf : i < f
  · rw [List.append_assoc, List.getElem?_append_left (by omega), List.getElem?_take_of_lt hf]
  · by_cases ht : i < t
    · rw [List.getElem?_append_left (by simp; omega), List.getElem?_append_right (by omega), List.getElem?_replicate, if_pos (by omega)]
      have := hz i (by omega) ht
      rw [List.getD_eq_getElem?_getD, List.getElem?_eq_getElem (by omega)] at this
      rw [List.getElem?_eq_getElem (by omega)]
      simpa using this.symm
    · rw [List.getElem?_append_right (by simp; omega), List.getElem?_drop]
      congr 1
      simp only [List.length_append, List.length_replicate, e1]
      omega

theorem read6_print {g : List Nat} (h8 : g.length = 8) (hg : ∀ n ∈ g, n ≤ 65535) : read6P (print6 g) = some (hiOf g, loOf g) := by
  obtain ⟨r1, r2, r3, r4, -⟩ := row_facts h8
  unfold read6P print6
  by_cases he : rowF g = rowT g
  · rw [if_pos he]
    have hi := index_none _ (noCC_join g)
    have hc : cut (joinC 58 (hexs g)) [58, 58] = (joinC 58 (hexs g), [], false) := by
      unfold cut; rw [hi]; simp
    rw [hc]
    simp only
    rw [rgP_join g hg]
    simp only [show rgP [] = some [] from rfl]
    rw [if_neg (by simp; omega)]
    have : fillG g [] = g := by simp [fillG, h8]
    rw [this]
  · rw [if_neg he]
    have hi := index_cc (joinC 58 (hexs (g.drop (rowT g)))) _ (noCC_join (g.take (rowF g)))
    have e : joinC 58 (hexs (g.take (rowF g))) ++ [58, 58] ++ joinC 58 (hexs (g.drop (rowT g))) = joinC 58 (hexs (g.take (rowF g))) ++ 58 :: 58 :: joinC 58 (hexs (g.drop (rowT g))) := by simp
    rw [e]
    have hc : cut (joinC 58 (hexs (g.take (rowF g))) ++ 58 :: 58 :: joinC 58 (hexs (g.drop (rowT g)))) [58, 58] = (joinC 58 (hexs (g.take (rowF g))), joinC 58 (hexs (g.drop (rowT g))), true) := by
      unfold cut; rw [hi]
      simp
    rw [hc]
    simp only
    rw [rgP_join _ (fun n hn => hg n (List.mem_of_mem_take hn)), rgP_join _ (fun n hn => hg n (List.mem_of_mem_drop hn))]
    simp only
    rw [if_neg (by rw [List.length_take, List.length_drop]; omega), fill_row h8 r1 r2 r4]

theorem len6 {g : List Nat} (h8 : g.length = 8) (hg : ∀ n ∈ g, n ≤ 65535) : (print6 g).length ≤ 39 := by
  obtain ⟨r1, r2, r3, r4, -⟩ := row_facts h8
  unfold print6
  by_cases he : rowF g = rowT g
  · rw [if_pos he]
    have := joinC_lenK 58 4 _ (hexs_len4 hg)
    have e : (hexs g).length = 8 := by simp [hexs, h8]
    rw [e] at this; omega
  · rw [if_neg he]
    have h1 := joinC_lenK 58 4 _ (hexs_len4 (l := g.take (rowF g)) (fun n hn => hg n (List.mem_of_mem_take hn)))
    have h2 := joinC_lenK 58 4 _ (hexs_len4 (l := g.drop (rowT g)) (fun n hn => hg n (List.mem_of_mem_drop hn)))
    have e1 : (hexs (g.take (rowF g))).length = rowF g := by simp [hexs]; omega
    have e2 : (hexs (g.drop (rowT g))).length = 8 - rowT g := by simp [hexs, h8]
    rw [e1] at h1
    rw [e2] at h2
    simp only [List.length_append, List.length_cons, List.length_nil]
    omega

theorem colon6 {g : List Nat} (h8 : g.length = 8) : (58 : UInt8) ∈ print6 g := by
  unfold print6
  split
  · match g, h8 with
    | a :: b :: r, _ => exact mem_joinC 58 _ _ _
  · simp

theorem dig4_no (d : UInt8) (hd : ¬ isDig d) (n : Nat) : ∀ p ∈ (bytes4 n).map (digs 10), d ∉ p := by
  intro p hp hm
  obtain ⟨x, _, rfl⟩ := List.mem_map.1 hp
  exact hd (digs_all (by omega) (by omega) x d hm)

theorem bytes4_le (n : Nat) : ∀ x ∈ bytes4 n, x ≤ 255 := by
  intro x hx
  simp only [bytes4, List.mem_cons, List.not_mem_nil, or_false] at hx
  rcases hx with h | h | h | h <;> omega

theorem read4_print {n : Nat} (hn : n < 4294967296) : read4P (print4 n) = some (0, 281470681743360 + n) := by
  unfold read4P print4
  rw [splitOn_join 46 _ (by simp [bytes4]) (dig4_no 46 not_isDig_46 n), if_pos (by simp [bytes4])]
  have hb := bytes4_le n
  unfold bytes4 at hb ⊢
  simp only [List.map_cons, List.map_nil, r4From]
  rw [uintB_digs (hb _ (by simp)), uintB_digs (hb _ (by simp)), uintB_digs (hb _ (by simp)), uintB_digs (hb _ (by simp))]
  simp only [Option.map_some]
  congr 2
  omega

theorem len4 (n : Nat) : (print4 n).length ≤ 39 := by
  have := joinC_lenK 46 3 ((bytes4 n).map (digs 10)) (fun p hp => by
    obtain ⟨x, hx, rfl⟩ := List.mem_map.1 hp
    exact digs10_len 2 (by have := bytes4_le n x hx; omega))
  unfold print4
  have e : ((bytes4 n).map (digs 10)).length = 4 := rfl
  rw [e] at this; omega

theorem no58 (n : Nat) : (58 : UInt8) ∉ print4 n := not_mem_joinC 46 58 (by decide) _ (dig4_no 58 not_isDig_58 n)

theorem readP_print {hi lo : Nat} (h1 : hi < 18446744073709551616) (h2 : lo < 18446744073709551616) : readP (printA hi lo) = some (hi, lo) := by
  unfold readP printA
  by_cases h4 : is4 hi lo = true
  · rw [if_pos h4, if_neg (by have := len4 (lo % 4294967296); omega), if_neg (no58 _), read4_print (Nat.mod_lt _ (by omega))]
    unfold is4 at h4
    simp only [Bool.and_eq_true, decide_eq_true_eq] at h4
    obtain ⟨rfl, h5⟩ := h4
    congr 2
    omega
  · rw [if_neg h4, if_neg (by have := len6 (g := gsN hi lo) rfl (gsN_leK hi lo); omega), if_pos (colon6 rfl), read6_print rfl (gsN_leK hi lo), hi_gsN h1, lo_gsN h2]

end Go.Proofs.YtmnnjkdmnfadhaaGreatDoor
