/- CutsCovers' walk; by-name template (gen_claw.py). -/
import Derived.Test.YtjkcnkjgooifoaaCLaw
namespace Go.Proofs.Ytjkcnkjgooifoaa
open Go.RowKit Go.Lib Go.Sort
set_option linter.unusedVariables false
set_option linter.unusedSimpArgs false

set_option maxRecDepth 100000 in
set_option maxHeartbeats 4000000 in
theorem ccov_any (a b c : Nat → R4) (ha : WB a) (w : World) : Calls Try.prog 3 #[.agg (bxc a), .agg (bxc b), .agg (bxc c)] w (LawPost w) := by
  unfold LawPost
  have k1 := fun W : World => covers_any a b W
  have k2 := fun W : World => covers_any b c W
  have k3 := fun W : World => rcovers_any a b W
  have k4 := fun W : World => covers_any a a W
  have k5 := fun W : World => full_any W
  have k6 := fun W : World => covers_any (fun _ => full4) a W
  have k7 := fun W : World => covers_any a c W
  rw [rcvB_eq] at k3
  rw [cvB_refl] at k4
  rw [cvB_full ha] at k6
  have htr := @cvB_trans a b c
  generalize cvB a b = X at *
  generalize cvB b c = Y at *
  generalize cvB a c = Z at *
  have HT := Lib.hid htr; clear htr
  have i1 := inf29 a
  have i2 := inf29 b
  have i3 := inf29 c
  generalize bxc a = A at *
  generalize bxc b = B at *
  generalize bxc c = C at *
  generalize (bxc fun _ => full4) = F at *
  have i1 := Lib.hid i1
  have i2 := Lib.hid i2
  have i3 := Lib.hid i3
  clear ha
  obtain ⟨hA, hB, hC, b0⟩ := bx3 w (.cells A 29) (.cells B 29) (.cells C 29)
  obtain ⟨w0, hw0⟩ : ∃ w0, w0 = World.alloc ((w.alloc (.cells A 29)).alloc (.cells B 29)) (.cells C 29) := ⟨_, rfl⟩
  rw [← hw0] at hA hB hC b0
  have hA := Lib.hid (keepH hA)
  have hB := Lib.hid (keepH hB)
  have hC := Lib.hid (keepH hC)
  have hs := Below.refl w0.heap.size w0
  have Hw0 := Lib.hid hw0; clear hw0
  go_enter Try.func3, Try.ntmps3
  go_wp2_with (with_reducible refine stop_op (o := ⟨some 9, _, _, _, _, _⟩) ?_)
  rw [← Hw0.out]
  clear Hw0
  refine Lib.hid ?_
  go_wp2_with (first
    | (refine wpList_load_row rfl  29 (.tmp 3) rfl w.heap.size rfl 29 A (0, 0) _ (hA.out _ (by assumption)) Try.underlying29 rfl i1.out ?_)
    | (refine wpList_load_row rfl  29 (.tmp 4) rfl (w.heap.size + 1) rfl 29 B (0, 0) _ (hB.out _ (by assumption)) Try.underlying29 rfl i2.out ?_)
    | (refine wpList_load_row rfl  29 (.tmp 5) rfl (w.heap.size + 2) rfl 29 C (0, 0) _ (hC.out _ (by assumption)) Try.underlying29 rfl i3.out ?_)
    | (go_at_call 10; with_reducible refine (keptB (k1 _) (by assumption)).mono ?_; rintro e wz ⟨rfl, hz⟩)
    | (go_at_call 10; with_reducible refine (keptB (k2 _) (by assumption)).mono ?_; rintro e wz ⟨rfl, hz⟩))
  have q3 := fun d os => Calls.regrown_of (k3 (grow (redrawn wz d) os))
  have q4 := fun d os => Calls.regrown_of (k4 (grow (redrawn wz d) os))
  have q5 := fun d os => Calls.regrown_of (k5 (grow (redrawn wz d) os))
  have q6 := fun d os => Calls.regrown_of (k6 (grow (redrawn wz d) os))
  refine wp_region_quiet_below (by kernel_rfl) (by kernel_rfl) ?_
  repeat (first | go_big_quiet_skip | (refine quiet_load_row (by rfl) 29 (.tmp 3) rfl w.heap.size rfl 29 A (0, 0) _ (rg_heap (hA.out _ hz)) Try.underlying29 rfl i1.out ?_; simp only [Act.put, List.setIfInBounds_toArray, List.set_cons_succ, List.set_cons_zero]) | (refine quiet_load_row (by rfl) 29 (.tmp 4) rfl (w.heap.size + 1) rfl 29 B (0, 0) _ (rg_heap (hB.out _ hz)) Try.underlying29 rfl i2.out ?_; simp only [Act.put, List.setIfInBounds_toArray, List.set_cons_succ, List.set_cons_zero]) |  quiet_step (first | (go_at_call 11; with_reducible exact q3 _ _) | (go_at_call 10; with_reducible exact q4 _ _) | (go_at_call 12; with_reducible exact q5 _ _) | (go_at_call 10; with_reducible exact q6 _ _)))
  refine wpQuiet_nil ?_
  intro _ hw'
  obtain ⟨⟨dq, osq⟩, hw''⟩ := hw'
  subst hw''
  cases X with
  | false =>
    go_wp2
    go_ret
    exact ⟨rfl, bel_via b0 (bel_rg (by assumption) dq osq)⟩
  | true =>
    cases Y with
    | false =>
      go_wp2
      go_ret
      exact ⟨rfl, bel_via b0 (bel_rg (by assumption) dq osq)⟩
    | true =>
      obtain rfl : Z = true := HT.out rfl rfl
      have hq := bel_rg (w0 := w0) (by assumption) dq osq
      go_wp2_with (first | (refine wpList_load_row_on (by rfl)  29 (.tmp 3) rfl w.heap.size rfl 29 A (0, 0) _ (hA.out _ (by assumption)) Try.underlying29 rfl i1.out ?_) | (refine wpList_load_row_on (by rfl)  29 (.tmp 5) rfl (w.heap.size + 2) rfl 29 C (0, 0) _ (hC.out _ (by assumption)) Try.underlying29 rfl i3.out ?_) | (go_at_call 10; with_reducible refine (keptB (k7 _) (by assumption)).mono ?_; rintro e wz ⟨rfl, hz⟩))
      go_ret
      exact ⟨rfl, bel_via b0 (by assumption)⟩
end Go.Proofs.Ytjkcnkjgooifoaa
