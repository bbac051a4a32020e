/- Window's leaves, the program's and the document's; by-name template (gen_wi.py). -/
import Derived.Test.YtdgodndaaenafabWiB
namespace Go.Proofs.Ytdgodndaaenafab
open Go.RowKit Go.Lib
set_option linter.unusedVariables false
set_option linter.unusedSimpArgs false

theorem less_any (a b : Int) (w : World) : Calls Try.prog 23 #[.int .u32 a, .int .u32 b] w fun e w' => e = .returned (.bool (lessP a b)) ∧ w' = w := by
  unfold lessP
  go_enter Try.func23, Try.ntmps23
  go_wp2
  all_goals (go_ret; exact ⟨ret_bool (by rw [Bool.eq_iff_iff]; simp; omega), rfl⟩)
theorem rless_any (a b : Int) (w : World) : Calls Try.prog 27 #[.int .u32 a, .int .u32 b] w fun e w' => e = .returned (.bool (lessP a b)) ∧ w' = w := by
  unfold lessP
  go_enter Try.func27, Try.ntmps27
  go_wp2
  all_goals (go_ret; exact ⟨ret_bool (by rw [Bool.eq_iff_iff]; simp; omega), rfl⟩)
theorem gr_any (a b : Int) (w : World) : Calls Try.prog 29 #[.int .u32 a, .int .u32 b] w fun e w' => e = .returned (.int .u32 (grP a b)) ∧ w' = w := by
  have h := less_any a b w
  unfold grP
  generalize lessP a b = x at *
  go_enter Try.func29, Try.ntmps29
  cases x
  all_goals (
    go_wp2_with (go_at_call 23; refine h.mono ?_; rintro e w1 ⟨rfl, rfl⟩)
    go_ret
    exact ⟨rfl, rfl⟩)
theorem rgr_any (a b : Int) (w : World) : Calls Try.prog 28 #[.int .u32 a, .int .u32 b] w fun e w' => e = .returned (.int .u32 (grP a b)) ∧ w' = w := by
  have h := rless_any a b w
  unfold grP
  generalize lessP a b = x at *
  go_enter Try.func28, Try.ntmps28
  cases x
  all_goals (
    go_wp2_with (go_at_call 27; refine h.mono ?_; rintro e w1 ⟨rfl, rfl⟩)
    go_ret
    exact ⟨rfl, rfl⟩)
theorem has_any (t : TR) (en k : Int) (w : World) : Calls Try.prog 19 #[.agg (SG t en), .int .i64 k] w fun e w' => e = .returned (.bool (hb t k)) ∧ Below w.heap.size w w' := by
  unfold hb SG
  go_enter Try.func19, Try.ntmps19
  go_wp2
  all_goals (go_ret; exact ⟨by simp_all, bel_al _ _⟩)
theorem rhas_any (t : TR) (k : Int) (w : World) : Calls Try.prog 26 #[.agg (TA t), .int .i64 k] w fun e w' => e = .returned (.bool (hb t k)) ∧ Below w.heap.size w w' := by
  unfold hb TA
  go_enter Try.func26, Try.ntmps26
  go_wp2
  all_goals (go_ret; exact ⟨by simp_all, bel_al _ _⟩)
end Go.Proofs.Ytdgodndaaenafab
