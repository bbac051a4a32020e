/- familyOf; by-name template. -/
import Derived.Test.YtpmbdjdhgcjkfaaWFam
namespace Go.Proofs.Ytpmbdjdhgcjkfaa
open Go.RowKit Go.Sort
set_option linter.unusedVariables false
set_option linter.unusedSimpArgs false

set_option maxHeartbeats 400000 in
set_option maxRecDepth 100000 in
theorem fam_true (w : World) : Calls Try.prog 28 #[.bool true] w fun e w' => e = .returned (.agg (famCells true)) ∧ Below w.heap.size w w' := by
  go_enter Try.func28, Try.ntmps28
  go_wp2
  have hF : (w.alloc (.cells #[.bool true, .int .i64 40, .int .i64 7, .int .i64 6, .int .i64 8, .int .i64 16] 69)).heap[w.heap.size]? = some (.cells #[.bool true, .int .i64 40, .int .i64 7, .int .i64 6, .int .i64 8, .int .i64 16] 69 (0, 0)) := al_neww rfl _
  have hBF : Below w.heap.size w (w.alloc (.cells #[.bool true, .int .i64 40, .int .i64 7, .int .i64 6, .int .i64 8, .int .i64 16] 69)) := Below.al (Below.refl _ _) _
  generalize w.alloc (.cells #[.bool true, .int .i64 40, .int .i64 7, .int .i64 6, .int .i64 8, .int .i64 16] 69) = w1 at *
  refine bodyPost_ret_by (results_cell_row Try.results28 _ _ w.heap.size 69 #[.bool true, .int .i64 40, .int .i64 7, .int .i64 6, .int .i64 8, .int .i64 16] (0, 0) _ rfl hF Try.underlying69 rfl (by kernel_rfl)) rfl ⟨rfl, hBF⟩

set_option maxHeartbeats 400000 in
set_option maxRecDepth 100000 in
theorem fam_false (w : World) : Calls Try.prog 28 #[.bool false] w fun e w' => e = .returned (.agg (famCells false)) ∧ Below w.heap.size w w' := by
  go_enter Try.func28, Try.ntmps28
  go_wp2
  have hF : (w.alloc (.cells #[.bool false, .int .i64 20, .int .i64 8, .int .i64 9, .int .i64 12, .int .i64 4] 69)).heap[w.heap.size]? = some (.cells #[.bool false, .int .i64 20, .int .i64 8, .int .i64 9, .int .i64 12, .int .i64 4] 69 (0, 0)) := al_neww rfl _
  have hBF : Below w.heap.size w (w.alloc (.cells #[.bool false, .int .i64 20, .int .i64 8, .int .i64 9, .int .i64 12, .int .i64 4] 69)) := Below.al (Below.refl _ _) _
  generalize w.alloc (.cells #[.bool false, .int .i64 20, .int .i64 8, .int .i64 9, .int .i64 12, .int .i64 4] 69) = w1 at *
  refine bodyPost_ret_by (results_cell_row Try.results28 _ _ w.heap.size 69 #[.bool false, .int .i64 20, .int .i64 8, .int .i64 9, .int .i64 12, .int .i64 4] (0, 0) _ rfl hF Try.underlying69 rfl (by kernel_rfl)) rfl ⟨rfl, hBF⟩

/-- A family. -/
theorem fam_any (v6 : Bool) (w : World) : Calls Try.prog 28 #[.bool v6] w fun e w' => e = .returned (.agg (famCells v6)) ∧ Below w.heap.size w w' := by
  cases v6
  · exact fam_false w
  · exact fam_true w
end Go.Proofs.Ytpmbdjdhgcjkfaa
