/- Points, plainly: sorted and compacted is laid in one by one; by-name template. -/
import Derived.Test.YtomennaekjklbaaCSort
import Derived.Lib.SlicesCompact
namespace Go.Proofs.Ytomennaekjklbaa
open Go.Shelf Go.RowKit Go.Lib Go.Sort
set_option linter.unusedVariables false
set_option linter.unusedSimpArgs false

theorem compact_inv {d : Array P2} (hs : SortedIn (ltOf cfP) 0 d.size d) : ∀ m, m ≤ d.size → Rise (compactUpTo d m) ∧ (∀ x ∈ compactUpTo d m, (∃ j, j < m ∧ x = d[j]!) ∧ (ltP x d[m - 1]! = true ∨ x = d[m - 1]!)) ∧ (∀ j, j < m → d[j]! ∈ compactUpTo d m)
  | 0, _ => by simp [compactUpTo, Rise]
  | m + 1, hm => by
    obtain ⟨h1, h2, h3⟩ := compact_inv hs m (by omega)
    rw [compactUpTo_succ]
    by_cases h0 : m = 0
    · subst h0
      rw [keeps_lt_one d 0 (by omega), if_pos rfl]
      have e : compactUpTo d 0 = [] := by simp [compactUpTo]
      rw [e]
      refine ⟨by simp [Rise], ?_, ?_⟩
      · intro x hx
        simp at hx
        exact ⟨⟨0, by omega, hx⟩, .inr (by simpa using hx)⟩
      · intro j hj
        obtain rfl : j = 0 := by omega
        simp
    · have hle : ltP d[m]! d[m - 1]! = false := by
        have := hs (m - 1) m (by omega) (by omega) (by omega)
        rwa [ltOf_P] at this
      by_cases hk : d[m]! = d[m - 1]!
      · rw [keeps_neg (by omega) hk]
        simp only [Bool.false_eq_true, if_false, List.append_nil, Nat.add_sub_cancel]
        refine ⟨h1, fun x hx => ?_, fun j hj => ?_⟩
        · obtain ⟨⟨j, hj, e⟩, h4⟩ := h2 x hx
          exact ⟨⟨j, by omega, e⟩, by rw [hk]; exact h4⟩
        · by_cases e : j = m
          · subst e; rw [hk]; exact h3 (j - 1) (by omega)
          · exact h3 j (by omega)
      · rw [keeps_pos hk, if_pos rfl]
        have hlt : ltP d[m - 1]! d[m]! = true := by
          cases k : ltP d[m - 1]! d[m]! with
          | true => rfl
          | false => exact absurd (lt_total hle k) hk
        have hall : ∀ x ∈ compactUpTo d m, ltP x d[m]! = true := fun x hx => by
          rcases (h2 x hx).2 with h | h
          · exact lt_trans h hlt
          · rw [h]; exact hlt
        simp only [Nat.add_sub_cancel]
        refine ⟨?_, fun x hx => ?_, fun j hj => ?_⟩
        · unfold Rise at h1 ⊢
          rw [List.pairwise_append]
          refine ⟨h1, by simp, fun x hx y hy => ?_⟩
          simp at hy; subst hy
          exact hall x hx
        · rcases List.mem_append.1 hx with hx | hx
          · obtain ⟨⟨j, hj, e⟩, _⟩ := h2 x hx
            exact ⟨⟨j, by omega, e⟩, .inl (hall x hx)⟩
          · simp at hx
            exact ⟨⟨m, by omega, hx⟩, .inr hx⟩
        · by_cases e : j = m
          · subst e; simp
          · exact List.mem_append_left _ (h3 j (by omega))
/-- What is sorted and compacted is what is laid in one by one. -/
theorem points_same {d : Array P2} {LL : List P2} (hs : SortedIn (ltOf cfP) 0 d.size d) (hp : PermIn 0 d.size LL.toArray d) (hz : d.size = LL.length) : compactUpTo d d.size = LL.foldl addP [] := by
  obtain ⟨h1, h2, h3⟩ := compact_inv hs d.size (Nat.le_refl _)
  obtain ⟨r1, r2⟩ := rise_fold LL [] (by simp [Rise])
  refine rise_ext h1 r1 fun x => ?_
  have hperm : ∀ y, y ∈ d.toList ↔ y ∈ LL := by
    intro y
    have hq := hp.2.2
    have e1 : (d.extract 0 d.size).toList = d.toList := by simp
    have e2 : (LL.toArray.extract 0 d.size).toList = LL := by rw [hz]; simp
    rw [e1, e2] at hq
    exact hq.mem_iff
  rw [r2 x]
  simp only [List.not_mem_nil, false_or]
  rw [← hperm x]
  constructor
  · intro hx
    obtain ⟨⟨j, hj, rfl⟩, _⟩ := h2 x hx
    rw [getElem!_pos d j hj]
    simp
  · intro hx
    obtain ⟨j, hj, rfl⟩ := List.getElem_of_mem hx
    have := h3 j (by simpa using hj)
    rw [getElem!_pos d j (by simpa using hj)] at this
    simpa using this
end Go.Proofs.Ytomennaekjklbaa
