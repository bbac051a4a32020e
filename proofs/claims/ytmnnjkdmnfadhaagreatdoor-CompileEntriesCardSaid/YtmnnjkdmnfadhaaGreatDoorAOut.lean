/- The document's own text, built from left to right: plain. By-name template. -/
import Derived.Test.YtmnnjkdmnfadhaaGreatDoorABack
namespace Go.Proofs.YtmnnjkdmnfadhaaGreatDoor
set_option linter.unusedVariables false
open Go.Lib

/-- Whether a colon is put ahead of a group. -/
def sepP (out : List UInt8) : Bool := match out.getLast? with
  | none => false
  | some c => c != 58

theorem join_snoc (l : List Nat) (n : Nat) : joinC 58 (hexs (l ++ [n])) = joinC 58 (hexs l) ++ (if l = [] then [] else [58]) ++ digs 16 n := by
  by_cases h : l = []
  · subst h; simp [hexs, joinC]
  · rw [if_neg h]
    have : hexs (l ++ [n]) = hexs l ++ [digs 16 n] := by simp [hexs]
    rw [this, joinC_snoc 58 _ _ (by simpa [hexs] using h)]
    simp

theorem digs_last (X : List UInt8) (n : Nat) : ∃ c, (X ++ digs 16 n).getLast? = some c ∧ c ≠ 58 := by
  have hne := digs_ne 16 n
  refine ⟨(digs 16 n).getLast hne, ?_, ?_⟩
  · rw [List.getLast?_append, List.getLast?_eq_some_getLast hne]; rfl
  · intro e
    exact not_isDig_58 (digs_all (b := 16) (by omega) (by omega) n 58 (by rw [← e]; exact List.getLast_mem hne))

theorem sep_join (X : List UInt8) {l : List Nat} (h : l ≠ []) : sepP (X ++ joinC 58 (hexs l)) = true := by
  obtain ⟨l', n, rfl⟩ : ∃ l' n, l = l' ++ [n] := ⟨l.dropLast, l.getLast h, (List.dropLast_concat_getLast h).symm⟩
  rw [join_snoc, ← List.append_assoc]
  obtain ⟨c, h1, h2⟩ := digs_last (X ++ (joinC 58 (hexs l') ++ if l' = [] then [] else [58])) n
  unfold sepP
  rw [h1]
  simp [h2]

theorem sep_nil : sepP [] = false := rfl
theorem sep_cc (X : List UInt8) : sepP (X ++ [58, 58]) = false := by
  unfold sepP
  rw [List.getLast?_append]
  simp

/-- What stands there ahead of the group k. -/
def outP (g : List Nat) (k : Nat) : List UInt8 :=
  if k ≤ rowF g ∨ rowF g = rowT g then joinC 58 (hexs (g.take k)) else joinC 58 (hexs (g.take (rowF g))) ++ [58, 58] ++ joinC 58 (hexs ((g.take k).drop (rowT g)))

theorem outP_zero (g : List Nat) : outP g 0 = [] := by
  unfold outP
  rw [if_pos (Or.inl (Nat.zero_le _))]; rfl

theorem outP_last {g : List Nat} (h8 : g.length = 8) : outP g 8 = print6 g := by
  obtain ⟨r1, r2, r3, -⟩ := row_facts h8
  unfold outP print6
  rw [List.take_of_length_le (by omega)]
  by_cases he : rowF g = rowT g
  · rw [if_pos (Or.inr he), if_pos he]
  · rw [if_neg (by omega), if_neg he]

theorem outP_row {g : List Nat} (h8 : g.length = 8) (hr : rowF g ≠ rowT g) : outP g (rowT g) = outP g (rowF g) ++ [58, 58] := by
  obtain ⟨r1, r2, r3, -⟩ := row_facts h8
  unfold outP
  rw [if_neg (by omega), if_pos (Or.inl (Nat.le_refl _))]
  have : (g.take (rowT g)).drop (rowT g) = [] := List.drop_eq_nil_of_le (by rw [List.length_take]; omega)
  rw [this]
  simp [hexs, joinC]

theorem take_snoc {g : List Nat} {k : Nat} (h : k < g.length) : g.take (k + 1) = g.take k ++ [g.getD k 0] := by
  rw [List.take_add_one, List.getElem?_eq_getElem h, List.getD_eq_getElem?_getD, List.getElem?_eq_getElem h]
  rfl

theorem outP_step {g : List Nat} (h8 : g.length = 8) {k : Nat} (hk : k < 8) (hr : rowF g = rowT g ∨ k < rowF g ∨ rowT g ≤ k) :
    outP g (k + 1) = outP g k ++ (if sepP (outP g k) = true then [58] else []) ++ digs 16 (g.getD k 0) := by
  obtain ⟨r1, r2, r3, -⟩ := row_facts h8
  by_cases hA : k + 1 ≤ rowF g ∨ rowF g = rowT g
  · have e1 : outP g (k + 1) = joinC 58 (hexs (g.take (k + 1))) := by unfold outP; rw [if_pos hA]
    have e2 : outP g k = joinC 58 (hexs (g.take k)) := by unfold outP; rw [if_pos (by omega)]
    rw [e1, e2, take_snoc (by omega), join_snoc]
    by_cases hn : g.take k = []
    · rw [hn]; simp [hexs, joinC, sep_nil]
    · have := sep_join [] hn
      rw [List.nil_append] at this
      rw [if_neg hn, if_pos this]
  · have hT : rowT g ≤ k := by omega
    have hF : rowF g < rowT g := by omega
    have e1 : outP g (k + 1) = joinC 58 (hexs (g.take (rowF g))) ++ [58, 58] ++ joinC 58 (hexs ((g.take (k + 1)).drop (rowT g))) := by unfold outP; rw [if_neg hA]
    have e2 : outP g k = joinC 58 (hexs (g.take (rowF g))) ++ [58, 58] ++ joinC 58 (hexs ((g.take k).drop (rowT g))) := by unfold outP; rw [if_neg (by omega)]
    have e3 : (g.take (k + 1)).drop (rowT g) = (g.take k).drop (rowT g) ++ [g.getD k 0] := by
      rw [take_snoc (by omega), List.drop_append, show rowT g - (g.take k).length = 0 by rw [List.length_take]; omega]
      rfl
    rw [e1, e2, e3, join_snoc]
    by_cases hn : (g.take k).drop (rowT g) = []
    · rw [hn, if_pos rfl]
      have : sepP (joinC 58 (hexs (g.take (rowF g))) ++ [58, 58] ++ joinC 58 (hexs [])) = false := by
        rw [show joinC 58 (hexs []) = [] from rfl, List.append_nil]; exact sep_cc _
      rw [this]; simp [hexs, joinC]
    · rw [if_neg hn, if_pos (sep_join _ hn)]
      simp

end Go.Proofs.YtmnnjkdmnfadhaaGreatDoor
