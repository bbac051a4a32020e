/- CutsBoxes' walk; by-name template (gen_cboxes.py). -/
import Derived.Test.YtjkcnkjgooifoaaCLaw
namespace Go.Proofs.Ytjkcnkjgooifoaa
open Go.RowKit Go.Lib Go.Sort
set_option linter.unusedVariables false
set_option linter.unusedSimpArgs false

theorem zero_cells {w : World} {B : Nat} {b : Nat → R4} (h : BoxAt w B b) : w.cell? ⟨B, 0, none⟩ = some (.int .u64 (b 0).fh) ∧ w.cell? ⟨B, 1, none⟩ = some (.int .u64 (b 0).fl) ∧ w.cell? ⟨B, 2, none⟩ = some (.int .u64 (b 0).th) ∧ w.cell? ⟨B, 3, none⟩ = some (.int .u64 (b 0).tl) := h 0 (by omega)
set_option maxRecDepth 100000 in
set_option maxHeartbeats 8000000 in
theorem cboxes_any (a b : Nat → R4) (p : Nat → P2) (w : World) : Calls Try.prog 5 #[.agg (bxc a), .agg (bxc b), .agg (ptc p)] w (LawPost w) := by
  unfold LawPost
  have k1 := fun W : World => meetBox_any a b W
  have k2 := fun W : World => rmeetBox_any a b W
  have c1 := fun W : World => covers_any a b W
  have c2 := fun W : World => rcovers_any a b W
  rw [rcvB_eq] at c2
  have c3 := fun W : World => empty_any a W
  have c4 := fun W : World => rempty_any a W
  have c5 := fun W : World => hasPoint_any a p W
  have c6 := fun W : World => rhasPoint_any a p W
  have c7 := fun W : World => full_any W
  have c8 := fun W : World => rfull_any W
  have nq := fun W : World => neq_box (mbV a b) (mbV a b) W
  have nf := fun W : World => neq_box (fun _ => full4) (fun _ => full4) W
  rw [eqB_refl] at nq nf
  have m1 := fun W : World => meet_any (a 0) (b 0) W
  have m2 := fun W : World => rmeet_any (a 0) (b 0) W
  have ev := fun W : World => (run_eql_struct (P := Try.prog) W 26 #[.int .u64 (meV (a 0) (b 0)).fh, .int .u64 (meV (a 0) (b 0)).fl, .int .u64 (meV (a 0) (b 0)).th, .int .u64 (meV (a 0) (b 0)).tl] #[.int .u64 (meV (a 0) (b 0)).fh, .int .u64 (meV (a 0) (b 0)).fl, .int .u64 (meV (a 0) (b 0)).th, .int .u64 (meV (a 0) (b 0)).tl]).trans (by rw [show (10000 : Nat) = 9997 + 3 from rfl, eq_rng 9997 (meV (a 0) (b 0)) (meV (a 0) (b 0)) W]; rfl : _ = Result.ok (Value.bool (eqR (meV (a 0) (b 0)) (meV (a 0) (b 0)))) W)
  rw [(eqR_iff _ _).2 rfl] at ev
  generalize mbO a b = O at *
  generalize cvB a b = X at *
  generalize emB a = Y at *
  generalize hpB a p = U at *
  generalize (!emR (meR (a 0) (b 0))) = T at *
  generalize meV (a 0) (b 0) = v at *
  have i1 := inf29 a
  have i2 := inf29 b
  have i3 := inf38 p
  have kV := inf29 (mbV a b)
  have oV := bx_one (mbV a b)
  have zV : (#[.int .u64 0, .int .u64 0, .int .u64 0, .int .u64 0, .int .u64 0, .int .u64 0, .int .u64 0, .int .u64 0, .int .u64 0, .int .u64 0, .int .u64 0, .int .u64 0, .int .u64 0, .int .u64 0, .int .u64 0, .int .u64 0, .int .u64 0, .int .u64 0, .int .u64 0, .int .u64 0, .int .u64 0, .int .u64 0, .int .u64 0, .int .u64 0] : Array Value).size = (bxc (mbV a b)).size := rfl
  obtain ⟨A, eA⟩ : ∃ A, A = bxc a := ⟨_, rfl⟩
  obtain ⟨B, eB⟩ : ∃ A, A = bxc b := ⟨_, rfl⟩
  rw [← eA] at k1 k2 c1 c2 c3 c4 c5 c6 i1
  rw [← eB] at k1 k2 c1 c2 i2
  rw [← eA, ← eB]
  have EA := Lib.hid eA
  have EB := Lib.hid eB
  clear eA eB
  generalize ptc p = P at *
  generalize bxc (mbV a b) = V at *
  generalize (bxc fun _ => full4) = F at *
  have i1 := Lib.hid i1
  have i2 := Lib.hid i2
  have i3 := Lib.hid i3
  have kV := Lib.hid kV
  have oV := Lib.hid oV
  have zV := Lib.hid zV
  have ev := Lib.hid ev
  obtain ⟨hA, hB, hP, b0⟩ := bx3 w (.cells A 29) (.cells B 29) (.cells P 38)
  obtain ⟨w0, hw0⟩ : ∃ w0, w0 = World.alloc ((w.alloc (.cells A 29)).alloc (.cells B 29)) (.cells P 38) := ⟨_, rfl⟩
  rw [← hw0] at hA hB hP b0
  have hz := Below.refl w0.heap.size w0
  have Hw0 := Lib.hid hw0; clear hw0
  go_enter Try.func5, Try.ntmps5
  go_wp2_with (with_reducible refine stop_op (o := ⟨some 16, _, _, _, _, _⟩) ?_)
  rw [← Hw0.out]
  clear Hw0
  refine Lib.hid ?_
  have nq := nq
  go_wp2_with (first
    | (refine wpList_load_row rfl 29 (.tmp 3) rfl w.heap.size rfl 29 A (0, 0) _ hA Try.underlying29 rfl i1.out ?_) | (refine wpList_load_row rfl 29 (.tmp 4) rfl (w.heap.size + 1) rfl 29 B (0, 0) _ hB Try.underlying29 rfl i2.out ?_) | (go_at_call 13; with_reducible refine (k1 _).mono ?_; rintro e wz ⟨rfl, hb⟩; replace hA := blkB hb hA; replace hB := blkB hb hB; replace hP := blkB hb hP; replace hz := bel_via hz hb; clear hb) | (go_at_call 14; with_reducible refine (k2 _).mono ?_; rintro e wz ⟨rfl, hb⟩; replace hA := blkB hb hA; replace hB := blkB hb hB; replace hP := blkB hb hP; replace hx1 := blkB hb hx1; replace hz := bel_via hz hb; clear hb) | (refine wpList_store_row rfl 29 (.tmp 7) (.tmp 19) rfl wz.heap.size V rfl rfl 29 #[.int .u64 0, .int .u64 0, .int .u64 0, .int .u64 0, .int .u64 0, .int .u64 0, .int .u64 0, .int .u64 0, .int .u64 0, .int .u64 0, .int .u64 0, .int .u64 0, .int .u64 0, .int .u64 0, .int .u64 0, .int .u64 0, .int .u64 0, .int .u64 0, .int .u64 0, .int .u64 0, .int .u64 0, .int .u64 0, .int .u64 0, .int .u64 0] (heap_alloc_new wz _) kV.out zV.out oV.out ?_; rw [World.setRow_alloc_new]; obtain ⟨wy, hwy⟩ : ∃ x, x = wz.alloc (.cells V 29) := ⟨_, rfl⟩; rw [← hwy]; replace hA := blk_al2 hwy hA; replace hB := blk_al2 hwy hB; replace hP := blk_al2 hwy hP; have hx1 := al_hd2 hwy; replace hz := bel_al2 hwy hz; obtain ⟨P1, hP⟩ : ∃ P, P = wz.heap.size := ⟨_, rfl⟩; rw [← hP] at hx1 ⊢; clear hP hwy; obtain ⟨wz, hwz⟩ : ∃ x, x = wy := ⟨_, rfl⟩; subst hwz) | (refine wpList_store_row rfl 29 (.tmp 9) (.tmp 25) rfl wz.heap.size V rfl rfl 29 #[.int .u64 0, .int .u64 0, .int .u64 0, .int .u64 0, .int .u64 0, .int .u64 0, .int .u64 0, .int .u64 0, .int .u64 0, .int .u64 0, .int .u64 0, .int .u64 0, .int .u64 0, .int .u64 0, .int .u64 0, .int .u64 0, .int .u64 0, .int .u64 0, .int .u64 0, .int .u64 0, .int .u64 0, .int .u64 0, .int .u64 0, .int .u64 0] (heap_alloc_new wz _) kV.out zV.out oV.out ?_; rw [World.setRow_alloc_new]; obtain ⟨wy, hwy⟩ : ∃ x, x = wz.alloc (.cells V 29) := ⟨_, rfl⟩; rw [← hwy]; replace hA := blk_al2 hwy hA; replace hB := blk_al2 hwy hB; replace hP := blk_al2 hwy hP; replace hx1 := blk_al2 hwy hx1; have hx2 := al_hd2 hwy; replace hz := bel_al2 hwy hz; obtain ⟨P2, hP⟩ : ∃ P, P = wz.heap.size := ⟨_, rfl⟩; rw [← hP] at hx2 ⊢; clear hP hwy; obtain ⟨wz, hwz⟩ : ∃ x, x = wy := ⟨_, rfl⟩; subst hwz))
  have q1 := fun d os => Calls.regrown_of (c1 (grow (redrawn wz d) os))
  have q2 := fun d os => Calls.regrown_of (c2 (grow (redrawn wz d) os))
  have q3 := fun d os => Calls.regrown_of (c3 (grow (redrawn wz d) os))
  have q4 := fun d os => Calls.regrown_of (c4 (grow (redrawn wz d) os))
  have q5 := fun d os => Calls.regrown_of (c5 (grow (redrawn wz d) os))
  have q6 := fun d os => Calls.regrown_of (c6 (grow (redrawn wz d) os))
  have q7 := fun d os => Calls.regrown_of (c7 (grow (redrawn wz d) os))
  have q8 := fun d os => Calls.regrown_of (c8 (grow (redrawn wz d) os))
  refine wp_region_quiet_below (by kernel_rfl) (by kernel_rfl) ?_
  repeat (first | go_big_quiet_skip | (refine quiet_load_row (by rfl) 29 (.tmp 3) rfl w.heap.size rfl 29 A (0, 0) _ (rg_heap hA) Try.underlying29 rfl i1.out ?_; simp only [Act.put, List.setIfInBounds_toArray, List.set_cons_succ, List.set_cons_zero]) | (refine quiet_load_row (by rfl) 29 (.tmp 4) rfl (w.heap.size + 1) rfl 29 B (0, 0) _ (rg_heap hB) Try.underlying29 rfl i2.out ?_; simp only [Act.put, List.setIfInBounds_toArray, List.set_cons_succ, List.set_cons_zero]) | (refine quiet_load_row (by rfl) 38 (.tmp 5) rfl (w.heap.size + 2) rfl 38 P (0, 0) _ (rg_heap hP) Try.underlying38 rfl i3.out ?_; simp only [Act.put, List.setIfInBounds_toArray, List.set_cons_succ, List.set_cons_zero]) | (refine quiet_load_row (by rfl) 29 (.tmp 7) rfl P1 rfl 29 V (0, 0) _ (rg_heap hx1) Try.underlying29 rfl kV.out ?_; simp only [Act.put, List.setIfInBounds_toArray, List.set_cons_succ, List.set_cons_zero]) | (refine quiet_load_row (by rfl) 29 (.tmp 9) rfl P2 rfl 29 V (0, 0) _ (rg_heap hx2) Try.underlying29 rfl kV.out ?_; simp only [Act.put, List.setIfInBounds_toArray, List.set_cons_succ, List.set_cons_zero]) |  quiet_step (first | (go_at_call 10; with_reducible exact q1 _ _) | (go_at_call 11; with_reducible exact q2 _ _) | (go_at_call 15; with_reducible exact q3 _ _) | (go_at_call 16; with_reducible exact q4 _ _) | (go_at_call 17; with_reducible exact q5 _ _) | (go_at_call 18; with_reducible exact q6 _ _) | (go_at_call 12; with_reducible exact q7 _ _) | (go_at_call 19; with_reducible exact q8 _ _)))
  refine wpQuiet_nil ?_
  intro _ hw'
  obtain ⟨⟨dq, osq⟩, hw''⟩ := hw'
  subst hw''
  replace hA := blkB (below_regrown wz dq osq) hA
  replace hB := blkB (below_regrown wz dq osq) hB
  replace hz := bel_rg hz dq osq
  obtain ⟨w4, hw4⟩ : ∃ x, x = grow (redrawn wz dq) osq := ⟨_, rfl⟩
  rw [← hw4] at hA hB hz ⊢
  clear hw4 q1 q2 q3 q4 q5 q6 q7 q8 hP hx1 hx2 k1 k2 c1 c2 c3 c4 c5 c6 c7 c8 nq nf
  obtain ⟨y0, y1, y2, y3⟩ := zero_cells (BoxAt.of (b := a) (by rw [← EA.out]; exact hA))
  obtain ⟨z0, z1, z2, z3⟩ := zero_cells (BoxAt.of (b := b) (by rw [← EB.out]; exact hB))
  go_wp2_with (go_at_call 20; with_reducible refine (m1 _).mono ?_; rintro e w5 ⟨rfl, hb5⟩; refine Hid.out ?_)
  replace hz := bel_via hz hb5
  have Y0 := fun o => keepc (Below.al (Below.refl _ w5) o) (keepc hb5 y0)
  have Y1 := fun o => keepc (Below.al (Below.refl _ w5) o) (keepc hb5 y1)
  have Y2 := fun o => keepc (Below.al (Below.refl _ w5) o) (keepc hb5 y2)
  have Y3 := fun o => keepc (Below.al (Below.refl _ w5) o) (keepc hb5 y3)
  have Z0 := fun o => keepc (Below.al (Below.refl _ w5) o) (keepc hb5 z0)
  have Z1 := fun o => keepc (Below.al (Below.refl _ w5) o) (keepc hb5 z1)
  have Z2 := fun o => keepc (Below.al (Below.refl _ w5) o) (keepc hb5 z2)
  have Z3 := fun o => keepc (Below.al (Below.refl _ w5) o) (keepc hb5 z3)
  clear hb5 y0 y1 y2 y3 z0 z1 z2 z3 hA hB m1
  refine Lib.hid ?_
  go_wp2_with (go_at_call 21; with_reducible refine (m2 _).mono ?_; rintro e w6 ⟨rfl, hb6⟩; refine Hid.out ?_)
  obtain ⟨x0, x1, x2, x3⟩ := al_r4 w5 (.int .u64 v.fh) (.int .u64 v.fl) (.int .u64 v.th) (.int .u64 v.tl) 26
  have hlt : w5.heap.size < w6.heap.size := Nat.lt_of_lt_of_le (al_lt w5 _) hb6.size
  have X0 := fun o => keepc (Below.al (Below.refl _ w6) o) (keepc hb6 x0)
  have X1 := fun o => keepc (Below.al (Below.refl _ w6) o) (keepc hb6 x1)
  have X2 := fun o => keepc (Below.al (Below.refl _ w6) o) (keepc hb6 x2)
  have X3 := fun o => keepc (Below.al (Below.refl _ w6) o) (keepc hb6 x3)
  replace hz := bel_via (bel_via hz (Below.al (Below.refl _ w5) _)) hb6
  clear hb6 x0 x1 x2 x3 Y0 Y1 Y2 Y3 Z0 Z1 Z2 Z3 m2
  have ev := ev.out
  refine Lib.hid ?_
  go_wp2
  go_ret
  exact ⟨by simp, bel_via b0 (bel_via hz (Below.al (Below.refl _ w6) _))⟩
end Go.Proofs.Ytjkcnkjgooifoaa
