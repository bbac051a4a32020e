/- Points of a field that there is not; by-name template (gen_cptf.py). -/
import Derived.Test.YtomennaekjklbaaCPts
import Derived.Test.YtomennaekjklbaaCRPts
namespace Go.Proofs.Ytomennaekjklbaa
open Go.RowKit Go.Lib Go.Sort
set_option linter.unusedVariables false
set_option linter.unusedSimpArgs false

set_option maxRecDepth 100000 in
set_option maxHeartbeats 4000000 in
theorem pts_out (A : Option Addr) (n c : Nat) (b : Nat → R4) (k : Int) (hk : ¬ (0 ≤ k ∧ k < 6)) (w : World) : Calls Try.prog 53 #[.slice A n c, .agg (bxc b), .int .i64 k] w (PtsPost w []) := by
  obtain ⟨M, hM⟩ : ∃ M, M = PtsPost w [] := ⟨_, rfl⟩
  rw [← hM]
  have HM := Lib.hid hM; clear hM
  have iC := inf29 b
  obtain ⟨C, hC⟩ : ∃ C, C = bxc b := ⟨_, rfl⟩
  rw [← hC] at iC
  rw [← hC]
  have iC := Lib.hid iC
  clear hC
  go_enter Try.func53, Try.ntmps53
  go_wp2_with fail
  have b0 : Below w.heap.size w ((w.alloc (.cells C 30)).alloc (.cells #[.int .i64 k] 3)) := Below.al (Below.al (Below.refl _ _) _) _
  obtain ⟨w0, hw0⟩ : ∃ w0, w0 = (w.alloc (.cells C 30)).alloc (.cells #[.int .i64 k] 3) := ⟨_, rfl⟩
  rw [← hw0] at b0 ⊢
  clear hw0
  have hdk : (decide ((0 : Int) ≤ k) && decide (k < 6)) = false := by simp; omega
  with_reducible refine (isField_any k w0).mono ?_
  rintro e wz ⟨rfl, hb⟩
  rw [hdk]
  have FIN : M (.returned (.slice none 0 0)) wz := by
    rw [HM.out]
    exact ⟨none, 0, rfl, Nat.le_refl _, fun _ => rfl, ⟨rfl, by simp, fun h => absurd h (Nat.lt_irrefl _)⟩, bel_via b0 hb⟩
  have FIN := Lib.hid FIN
  go_wp2_with fail
  first | exact FIN.out | (simp [bodyPost, results, Try.results53, go_sem]; exact FIN.out)

set_option maxRecDepth 100000 in
set_option maxHeartbeats 4000000 in
theorem rpts_out (A : Option Addr) (n c : Nat) (b : Nat → R4) (k : Int) (hk : ¬ (0 ≤ k ∧ k < 6)) (w : World) : Calls Try.prog 25 #[.slice A n c, .agg (bxc b), .int .i64 k] w (PtsPost w []) := by
  obtain ⟨M, hM⟩ : ∃ M, M = PtsPost w [] := ⟨_, rfl⟩
  rw [← hM]
  have HM := Lib.hid hM; clear hM
  have iC := inf29 b
  obtain ⟨C, hC⟩ : ∃ C, C = bxc b := ⟨_, rfl⟩
  rw [← hC] at iC
  rw [← hC]
  have iC := Lib.hid iC
  clear hC
  have FIN : ∀ W, Below w.heap.size w W → ∀ g, M (.returned (.slice (some ⟨g, 0, none⟩) 0 0)) W := by
    intro W hW g
    rw [HM.out]
    exact ⟨some ⟨g, 0, none⟩, 0, rfl, Nat.le_refl _, fun _ => rfl, ⟨rfl, by simp, fun h => absurd h (Nat.lt_irrefl _)⟩, hW⟩
  have FIN := Lib.hid FIN
  by_cases h0 : k < 0
  · have hd0 : decide (k < 0) = true := by simp [h0]
    go_enter Try.func25, Try.ntmps25
    go_wp2_with fail
    exact Below.al (Below.al (Below.refl _ _) _) _
  · have h6 : 6 ≤ k := by omega
    have hd0 : decide (k < 0) = false := by simp [h0]
    have hd6 : decide (6 ≤ k) = true := by simp [h6]
    go_enter Try.func25, Try.ntmps25
    go_wp2_with fail
    exact Below.al (Below.al (Below.refl _ _) _) _
end Go.Proofs.Ytomennaekjklbaa
