/- CutsMeets' walk; by-name template (gen_cmeets.py). -/
import Derived.Test.YtjkcnkjgooifoaaCLaw
namespace Go.Proofs.Ytjkcnkjgooifoaa
open Go.RowKit Go.Lib Go.Sort
set_option linter.unusedVariables false
set_option linter.unusedSimpArgs false

set_option maxRecDepth 100000 in
set_option maxHeartbeats 8000000 in
theorem cmeets_any (a b : Nat → R4) (p : Nat → P2) (wp : WP p) (w : World) : Calls Try.prog 7 #[.agg (bxc a), .agg (bxc b), .agg (ptc p)] w (LawPost w) := by
  unfold LawPost
  have kf := fun W : World => full_any W
  have kp := fun W : World => hasPoint_any (fun _ => full4) p W
  rw [hp_full wp] at kp
  have k1 := fun W : World => meetBox_any a b W
  have c1 := fun W : World => hasPoint_any a p W
  have c2 := fun W : World => hasPoint_any b p W
  have c3 := fun W : World => hasPoint_any (mbV a b) p W
  have c4 := fun W : World => covers_any a b W
  have d1 := fun W : World => rhasPoint_any a p W
  have d2 := fun W : World => rhasPoint_any b p W
  have h1 := hp_me a b p
  have h2 := @cv_hp a b p
  generalize mbO a b = O at *
  generalize hpB (mbV a b) p = X at *
  generalize hpB a p = Y at *
  generalize hpB b p = U at *
  generalize cvB a b = T at *
  have i1 := inf29 a
  have i2 := inf29 b
  have i3 := inf38 p
  have kV := inf29 (mbV a b)
  have oV := bx_one (mbV a b)
  have zV : (#[.int .u64 0, .int .u64 0, .int .u64 0, .int .u64 0, .int .u64 0, .int .u64 0, .int .u64 0, .int .u64 0, .int .u64 0, .int .u64 0, .int .u64 0, .int .u64 0, .int .u64 0, .int .u64 0, .int .u64 0, .int .u64 0, .int .u64 0, .int .u64 0, .int .u64 0, .int .u64 0, .int .u64 0, .int .u64 0, .int .u64 0, .int .u64 0] : Array Value).size = (bxc (mbV a b)).size := rfl
  generalize bxc a = A at *
  generalize bxc b = B at *
  generalize ptc p = P at *
  generalize bxc (mbV a b) = V at *
  generalize (bxc fun _ => full4) = F at *
  have i1 := Lib.hid i1
  have i2 := Lib.hid i2
  have i3 := Lib.hid i3
  have kV := Lib.hid kV
  have oV := Lib.hid oV
  have zV := Lib.hid zV
  have H1 := Lib.hid h1
  have H2 := Lib.hid h2
  clear h1 h2 wp
  obtain ⟨hA, hB, hP, b0⟩ := bx3 w (.cells A 29) (.cells B 29) (.cells P 38)
  obtain ⟨w0, hw0⟩ : ∃ w0, w0 = World.alloc ((w.alloc (.cells A 29)).alloc (.cells B 29)) (.cells P 38) := ⟨_, rfl⟩
  rw [← hw0] at hA hB hP b0
  go_enter Try.func7, Try.ntmps7
  go_wp2_with fail
  rw [← hw0]
  clear hw0
  have qf := fun d os => Calls.regrown_of (kf (grow (redrawn w0 d) os))
  have qp := fun d os => Calls.regrown_of (kp (grow (redrawn w0 d) os))
  refine wp_region_quiet_below (by kernel_rfl) (by kernel_rfl) ?_
  repeat (first | go_big_quiet_skip | (refine quiet_load_row (by rfl) 38 (.tmp 5) rfl (w.heap.size + 2) rfl 38 P (0, 0) _ (rg_heap hP) Try.underlying38 rfl i3.out ?_; simp only [Act.put, List.setIfInBounds_toArray, List.set_cons_succ, List.set_cons_zero]) |  quiet_step (first | (go_at_call 12; with_reducible exact qf _ _) | (go_at_call 17; with_reducible exact qp _ _)))
  refine wpQuiet_nil ?_
  intro _ hw'
  obtain ⟨⟨dq, osq⟩, hw''⟩ := hw'
  subst hw''
  replace hA := blkB (below_regrown w0 dq osq) hA
  replace hB := blkB (below_regrown w0 dq osq) hB
  replace hP := blkB (below_regrown w0 dq osq) hP
  have hz := below_regrown w0 dq osq
  obtain ⟨wz, hwz⟩ : ∃ x, x = grow (redrawn w0 dq) osq := ⟨_, rfl⟩
  rw [← hwz] at hA hB hP hz ⊢
  clear hwz qf qp kf kp
  go_upto_region 4 with (first | (refine wpList_load_row rfl 29 (.tmp 3) rfl w.heap.size rfl 29 A (0, 0) _ hA Try.underlying29 rfl i1.out ?_) | (refine wpList_load_row rfl 29 (.tmp 4) rfl (w.heap.size + 1) rfl 29 B (0, 0) _ hB Try.underlying29 rfl i2.out ?_) | (go_at_call 13; with_reducible refine (k1 _).mono ?_; rintro e wz ⟨rfl, hb⟩; replace hA := blkB hb hA; replace hB := blkB hb hB; replace hP := blkB hb hP; replace hz := bel_via hz hb; clear hb) | (refine wpList_store_row rfl 29 (.tmp 7) (.tmp 18) rfl wz.heap.size V rfl rfl 29 #[.int .u64 0, .int .u64 0, .int .u64 0, .int .u64 0, .int .u64 0, .int .u64 0, .int .u64 0, .int .u64 0, .int .u64 0, .int .u64 0, .int .u64 0, .int .u64 0, .int .u64 0, .int .u64 0, .int .u64 0, .int .u64 0, .int .u64 0, .int .u64 0, .int .u64 0, .int .u64 0, .int .u64 0, .int .u64 0, .int .u64 0, .int .u64 0] (heap_alloc_new wz _) kV.out zV.out oV.out ?_; rw [World.setRow_alloc_new]; obtain ⟨wy, hwy⟩ : ∃ x, x = wz.alloc (.cells V 29) := ⟨_, rfl⟩; rw [← hwy]; replace hA := blk_al2 hwy hA; replace hB := blk_al2 hwy hB; replace hP := blk_al2 hwy hP; have hx1 := al_hd2 hwy; replace hz := bel_al2 hwy hz; obtain ⟨P1, hP⟩ : ∃ P, P = wz.heap.size := ⟨_, rfl⟩; rw [← hP] at hx1 ⊢; clear hP hwy; obtain ⟨wz, hwz⟩ : ∃ x, x = wy := ⟨_, rfl⟩; subst hwz))
  clear k1 oV zV
  cases O <;> cases X <;> cases Y <;> cases U <;> cases T <;> first
    | exact absurd H1.out (by decide)
    | exact absurd (H2.out rfl rfl) (by decide)
    | (go_wp2_with (first
        | (refine wpList_load_row rfl 29 (.tmp 3) rfl w.heap.size rfl 29 A (0, 0) _ hA Try.underlying29 rfl i1.out ?_) | (refine wpList_load_row rfl 29 (.tmp 4) rfl (w.heap.size + 1) rfl 29 B (0, 0) _ hB Try.underlying29 rfl i2.out ?_) | (refine wpList_load_row rfl 38 (.tmp 5) rfl (w.heap.size + 2) rfl 38 P (0, 0) _ hP Try.underlying38 rfl i3.out ?_) | (refine wpList_load_row_on (by rfl) 29 (.tmp 3) rfl w.heap.size rfl 29 A (0, 0) _ hA Try.underlying29 rfl i1.out ?_) | (refine wpList_load_row_on (by rfl) 29 (.tmp 4) rfl (w.heap.size + 1) rfl 29 B (0, 0) _ hB Try.underlying29 rfl i2.out ?_) | (refine wpList_load_row_on (by rfl) 38 (.tmp 5) rfl (w.heap.size + 2) rfl 38 P (0, 0) _ hP Try.underlying38 rfl i3.out ?_) | (refine wpList_load_row_on (by rfl) 29 (.tmp 7) rfl P1 rfl 29 V (0, 0) _ hx1 Try.underlying29 rfl kV.out ?_) | (go_at_call 17; with_reducible refine (c1 _).mono ?_; rintro e wz ⟨rfl, hb⟩; replace hA := blkB hb hA; replace hB := blkB hb hB; replace hP := blkB hb hP; replace hx1 := blkB hb hx1; replace hz := bel_via hz hb; clear hb) | (go_at_call 17; with_reducible refine (c2 _).mono ?_; rintro e wz ⟨rfl, hb⟩; replace hA := blkB hb hA; replace hB := blkB hb hB; replace hP := blkB hb hP; replace hx1 := blkB hb hx1; replace hz := bel_via hz hb; clear hb) | (go_at_call 17; with_reducible refine (c3 _).mono ?_; rintro e wz ⟨rfl, hb⟩; replace hA := blkB hb hA; replace hB := blkB hb hB; replace hP := blkB hb hP; replace hx1 := blkB hb hx1; replace hz := bel_via hz hb; clear hb) | (go_at_call 18; with_reducible refine (d1 _).mono ?_; rintro e wz ⟨rfl, hb⟩; replace hA := blkB hb hA; replace hB := blkB hb hB; replace hP := blkB hb hP; replace hx1 := blkB hb hx1; replace hz := bel_via hz hb; clear hb) | (go_at_call 18; with_reducible refine (d2 _).mono ?_; rintro e wz ⟨rfl, hb⟩; replace hA := blkB hb hA; replace hB := blkB hb hB; replace hP := blkB hb hP; replace hx1 := blkB hb hx1; replace hz := bel_via hz hb; clear hb) | (go_at_call 10; with_reducible refine (c4 _).mono ?_; rintro e wz ⟨rfl, hb⟩; replace hA := blkB hb hA; replace hB := blkB hb hB; replace hP := blkB hb hP; replace hx1 := blkB hb hx1; replace hz := bel_via hz hb; clear hb))
       go_ret
       exact ⟨rfl, bel_via b0 hz⟩)
end Go.Proofs.Ytjkcnkjgooifoaa
