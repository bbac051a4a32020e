/- The program's left and a leaf's find: their closures; by-name template (gen_kleft.py). -/
import Derived.Test.YtomennaekjklbaaKIdx
import Derived.Test.YtomennaekjklbaaKBs
namespace Go.Proofs.Ytomennaekjklbaa
open Go.RowKit Go.Lib Go.Sort
set_option linter.unusedVariables false
set_option linter.unusedSimpArgs false

theorem enleft1 : ∀ args w, (callFunc 50 args).run Try.prog w = .ok (.enter 50 args) w := enters_of Try.func50 (by kernel_rfl) rfl
set_option maxRecDepth 100000 in
set_option maxHeartbeats 4000000 in
theorem left1_any (b : Nat → R4) (B : Nat) (x : EN) (w : World) (hB : w.heap[B]? = some (.cells (bxc b) 30)) :
    Calls Try.prog 50 #[.agg (enA x), .pointer (some ⟨B, 0, none⟩)] w fun e w' => e = .returned (.bool (cvB x.bx b)) ∧ Below w.heap.size w w' := by
  have cm := fun W : World => covers_any x.bx b W
  have iX := inf29 x.bx
  have iC := inf29 b
  have eB := fun (W : World) (B : Nat) => en_blk (w := W) (B := B) (x := x)
  obtain ⟨EA, hEA⟩ : ∃ EA, EA = enA x := ⟨_, rfl⟩
  simp only [← hEA] at eB
  rw [← hEA]
  clear hEA
  generalize bxc x.bx = EX at *
  generalize bxc b = C at *
  generalize cvB x.bx b = R at *
  have iX := Lib.hid iX
  have iC := Lib.hid iC
  have EB := Lib.hid eB; clear eB
  go_enter Try.func50, Try.ntmps50
  go_wp2_with (with_reducible refine stop_op (o := ⟨some 5, _, _, _, _, _⟩) ?_)
  have q0 := heap_alloc_new w (.cells EA 32)
  have b0 := Below.al (Below.refl w.heap.size w) (.cells EA 32)
  have hB := blkB b0 hB
  obtain ⟨wz, hwz⟩ : ∃ x, x = w.alloc (.cells EA 32) := ⟨_, rfl⟩
  rw [← hwz] at q0 b0 hB ⊢
  clear hwz
  refine Lib.hid ?_
  go_wp2_with (first | (refine wpList_load_cells rfl 30 (.tmp 4) rfl ⟨w.heap.size, 0, none⟩ rfl EX _ (EB.out _ _ q0) Try.underlying30 rfl iX.out ?_) | (refine wpList_load_row rfl 30 (.tmp 1) rfl B rfl 30 C (0, 0) _ hB Try.underlying30 rfl iC.out ?_) | (go_at_call 51; with_reducible refine (cm _).mono ?_; rintro e w2 ⟨rfl, hb⟩; replace b0 := bel_via b0 hb; clear hb))
  go_ret
  exact ⟨rfl, b0⟩
theorem enfind1 : ∀ args w, (callFunc 107 args).run Try.prog w = .ok (.enter 107 args) w := enters_of Try.func107 (by kernel_rfl) rfl
set_option maxRecDepth 100000 in
set_option maxHeartbeats 4000000 in
theorem find1_any (p : Nat → P2) (B : Nat) (x : EN) (w : World) (hB : w.heap[B]? = some (.cells (ptc p) 68)) :
    Calls Try.prog 107 #[.agg (enA x), .pointer (some ⟨B, 0, none⟩)] w fun e w' => e = .returned (.bool (hpB x.bx p)) ∧ Below w.heap.size w w' := by
  have cm := fun W : World => hasPoint_any x.bx p W
  have iX := inf29 x.bx
  have iC := inf38 p
  have eB := fun (W : World) (B : Nat) => en_blk (w := W) (B := B) (x := x)
  obtain ⟨EA, hEA⟩ : ∃ EA, EA = enA x := ⟨_, rfl⟩
  simp only [← hEA] at eB
  rw [← hEA]
  clear hEA
  generalize bxc x.bx = EX at *
  generalize ptc p = C at *
  generalize hpB x.bx p = R at *
  have iX := Lib.hid iX
  have iC := Lib.hid iC
  have EB := Lib.hid eB; clear eB
  go_enter Try.func107, Try.ntmps107
  go_wp2_with (with_reducible refine stop_op (o := ⟨some 5, _, _, _, _, _⟩) ?_)
  have q0 := heap_alloc_new w (.cells EA 32)
  have b0 := Below.al (Below.refl w.heap.size w) (.cells EA 32)
  have hB := blkB b0 hB
  obtain ⟨wz, hwz⟩ : ∃ x, x = w.alloc (.cells EA 32) := ⟨_, rfl⟩
  rw [← hwz] at q0 b0 hB ⊢
  clear hwz
  refine Lib.hid ?_
  go_wp2_with (first | (refine wpList_load_cells rfl 30 (.tmp 4) rfl ⟨w.heap.size, 0, none⟩ rfl EX _ (EB.out _ _ q0) Try.underlying30 rfl iX.out ?_) | (refine wpList_load_row rfl 68 (.tmp 1) rfl B rfl 68 C (0, 0) _ hB Try.underlying68 rfl iC.out ?_) | (go_at_call 108; with_reducible refine (cm _).mono ?_; rintro e w2 ⟨rfl, hb⟩; replace b0 := bel_via b0 hb; clear hb))
  go_ret
  exact ⟨rfl, b0⟩
end Go.Proofs.Ytomennaekjklbaa
