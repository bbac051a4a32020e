/- Nat: ports, keys turned, the small tests, both sides; by-name template (gen_na.py). -/
import Derived.Test.YtokbmahnjmmcaaaNaB
namespace Go.Proofs.Ytokbmahnjmmcaaa
open Go.RowKit Go.Lib Go.Maps
set_option linter.unusedVariables false
set_option linter.unusedSimpArgs false

set_option maxHeartbeats 4000000 in
theorem port_any (f t w i : Int) (W : World) (hf : i64ok f) (ht : i64ok t) (hw : i64ok w) (hi : i64ok i) : Calls Try.prog 15 #[.int .i64 f, .int .i64 t, .int .i64 w, .int .i64 i] W fun e w' => e = .returned (.tuple #[.int .i64 (portP f t w i).1, .bool (portP f t w i).2]) ∧ w' = W := by
  unfold i64ok at *
  obtain ⟨P, hP⟩ : ∃ P, P = portP f t w i := ⟨_, rfl⟩
  rw [← hP]
  have HP := Lib.hid hP
  clear hP
  go_enter Try.func15, Try.ntmps15
  go_wp2
  all_goals (
    obtain hP := HP.out
    unfold portP at hP
    have hQ : ∀ x y, P = (x, y) → Ending.returned (.tuple #[.int .i64 x, .bool y]) = Ending.returned (.tuple #[.int .i64 P.1, .bool P.2]) := fun x y h => by rw [h]
    go_ret2
    refine ⟨hQ _ _ ?_, rfl⟩
    rw [hP]
    repeat' split
    all_goals first | rfl | (exfalso; omega) | (simp only [Prod.mk.injEq, and_true]; first | omega | simp_all))
set_option maxHeartbeats 4000000 in
theorem rport_any (f t w i : Int) (W : World) (hf : i64ok f) (ht : i64ok t) (hw : i64ok w) (hi : i64ok i) : Calls Try.prog 16 #[.int .i64 f, .int .i64 t, .int .i64 w, .int .i64 i] W fun e w' => e = .returned (.tuple #[.int .i64 (portP f t w i).1, .bool (portP f t w i).2]) ∧ w' = W := by
  unfold i64ok at *
  obtain ⟨P, hP⟩ : ∃ P, P = portP f t w i := ⟨_, rfl⟩
  rw [← hP]
  have HP := Lib.hid hP
  clear hP
  go_enter Try.func16, Try.ntmps16
  go_wp2
  all_goals (
    obtain hP := HP.out
    unfold portP at hP
    have hQ : ∀ x y, P = (x, y) → Ending.returned (.tuple #[.int .i64 x, .bool y]) = Ending.returned (.tuple #[.int .i64 P.1, .bool P.2]) := fun x y h => by rw [h]
    go_ret2
    refine ⟨hQ _ _ ?_, rfl⟩
    rw [hP]
    repeat' split
    all_goals first | rfl | (exfalso; omega) | (simp only [Prod.mk.injEq, and_true]; first | omega | simp_all))
theorem turn_any (k : KR) (w : World) : Calls Try.prog 30 #[.agg (KA k)] w fun e w' => e = .returned (.agg (KA (turnK k))) ∧ Below w.heap.size w w' := by
  obtain ⟨kp, ksh, ksl, kdh, kdl, ksp, kdp⟩ := k
  unfold KA krc turnK
  simp only []
  go_enter Try.func30, Try.ntmps30
  go_wp2
  refine bodyPost_ret (results_cell_row Try.results30 _ _ (w.heap.size + 1) 35 _ _ _ rfl (al_new (by rw [al_size]) _) Try.underlying35 rfl (by kernel_rfl)) rfl ⟨rfl, Below.al (bel_al _ _) _⟩
theorem rturn_any (k : KR) (w : World) : Calls Try.prog 13 #[.agg (KA k)] w fun e w' => e = .returned (.agg (KA (turnK k))) ∧ Below w.heap.size w w' := by
  obtain ⟨kp, ksh, ksl, kdh, kdl, ksp, kdp⟩ := k
  unfold KA krc turnK
  simp only []
  go_enter Try.func13, Try.ntmps13
  go_wp2
  refine bodyPost_ret (results_cell_row Try.results13 _ _ (w.heap.size + 1) 35 _ _ _ rfl (al_new (by rw [al_size]) _) Try.underlying35 rfl (by kernel_rfl)) rfl ⟨rfl, Below.al (bel_al _ _) _⟩
theorem icmp_any (p : Int) (w : World) : Calls Try.prog 25 #[.int .i64 p] w fun e w' => e = .returned (.bool (icmpB p)) ∧ w' = w := by
  unfold icmpB
  go_enter Try.func25, Try.ntmps25
  go_wp2
  all_goals (go_ret; exact ⟨ret_bool (by first | rfl | (rw [Bool.eq_iff_iff]; simp_all)), rfl⟩)
theorem ported_any16 (p : Int) (w : World) : Calls Try.prog 28 #[.int .i64 p] w fun e w' => e = .returned (.bool (portedB p)) ∧ w' = w := by
  have h := icmp_any p w
  unfold portedB
  generalize icmpB p = q at *
  go_enter Try.func28, Try.ntmps28
  go_wp2_with (go_at_call 25; refine h.mono ?_; rintro e w1 ⟨rfl, h1⟩; rw [h1]; clear h1)
  all_goals (go_ret; exact ⟨ret_bool (by first | rfl | (rw [Bool.eq_iff_iff]; simp_all)), rfl⟩)
end Go.Proofs.Ytokbmahnjmmcaaa
