/- CutsSame's walk; by-name template (gen_csame.py). -/
import Derived.Test.YtjkcnkjgooifoaaCLaw
namespace Go.Proofs.Ytjkcnkjgooifoaa
open Go.RowKit Go.Lib Go.Sort
set_option linter.unusedVariables false
set_option linter.unusedSimpArgs false

set_option maxRecDepth 100000 in
set_option maxHeartbeats 4000000 in
theorem csame_any (a b : Nat → R4) (w : World) : Calls Try.prog 4 #[.agg (bxc a), .agg (bxc b)] w (LawPost w) := by
  unfold LawPost
  have k1 := fun W : World => meetBox_any a b W
  have k2 := fun W : World => meetBox_any b a W
  have k3 := fun W : World => rmeetBox_any a b W
  have c1 := fun W : World => covers_any a (mbV a b) W
  have c2 := fun W : World => covers_any b (mbV a b) W
  have c3 := fun W : World => empty_any (mbV a b) W
  rw [← mbV_comm a b, ← (mb_comm a b).1] at k2
  have nq := fun W : World => neq_box (mbV a b) (mbV a b) W
  rw [eqB_refl] at nq
  have eq := fun W : World => eql_box (mbV a b) (fun _ => zr4) W
  have hO := fun h : mbO a b = true => mb_covers h
  have hN : mbO a b = false → eqB (mbV a b) (fun _ => zr4) = true := fun h => (eqB_iff _ _).2 fun k _ => mbV_no h k
  generalize mbO a b = O at *
  generalize eqB (mbV a b) (fun _ => zr4) = Q at *
  generalize cvB a (mbV a b) = X at *
  generalize cvB b (mbV a b) = Y at *
  generalize emB (mbV a b) = E at *
  have i1 := inf29 a
  have i2 := inf29 b
  have kV := inf29 (mbV a b)
  have oV := bx_one (mbV a b)
  have zV : (#[.int .u64 0, .int .u64 0, .int .u64 0, .int .u64 0, .int .u64 0, .int .u64 0, .int .u64 0, .int .u64 0, .int .u64 0, .int .u64 0, .int .u64 0, .int .u64 0, .int .u64 0, .int .u64 0, .int .u64 0, .int .u64 0, .int .u64 0, .int .u64 0, .int .u64 0, .int .u64 0, .int .u64 0, .int .u64 0, .int .u64 0, .int .u64 0] : Array Value).size = (bxc (mbV a b)).size := rfl
  rw [bxc_zero] at eq
  generalize bxc a = A at *
  generalize bxc b = B at *
  generalize bxc (mbV a b) = V at *
  have i1 := Lib.hid i1
  have i2 := Lib.hid i2
  have kV := Lib.hid kV
  have oV := Lib.hid oV
  have zV := Lib.hid zV
  have HO := Lib.hid hO
  have HN := Lib.hid hN
  have nq := Lib.hid nq
  have eq := Lib.hid eq
  clear hO hN
  cases O with
  | false =>
    obtain rfl : Q = true := HN.out rfl
    have eq := eq.out
    obtain ⟨hA, hB, b0⟩ := bx2 w (.cells A 29) (.cells B 29)
    obtain ⟨w0, hw0⟩ : ∃ w0, w0 = (w.alloc (.cells A 29)).alloc (.cells B 29) := ⟨_, rfl⟩
    rw [← hw0] at hA hB b0
    have hz := Below.refl w0.heap.size w0
    have Hw0 := Lib.hid hw0; clear hw0
    go_enter Try.func4, Try.ntmps4
    go_wp2_with (with_reducible refine stop_op (o := ⟨some 12, _, _, _, _, _⟩) ?_)
    rw [← Hw0.out]
    clear Hw0
    refine Lib.hid ?_
    have nq := nq.out
    go_wp2_with (first
      | (refine wpList_load_row rfl 29 (.tmp 2) rfl w.heap.size rfl 29 A (0, 0) _ hA Try.underlying29 rfl i1.out ?_) | (refine wpList_load_row rfl 29 (.tmp 3) rfl (w.heap.size + 1) rfl 29 B (0, 0) _ hB Try.underlying29 rfl i2.out ?_) | (go_at_call 13; with_reducible refine (k1 _).mono ?_; rintro e wz ⟨rfl, hb⟩; have hA := blkB hb hA; have hB := blkB hb hB; have hz := bel_via hz hb; clear hb) | (go_at_call 13; with_reducible refine (k2 _).mono ?_; rintro e wz ⟨rfl, hb⟩; have hA := blkB hb hA; have hB := blkB hb hB; have hx1 := blkB hb hx1; have hz := bel_via hz hb; clear hb) | (go_at_call 14; with_reducible refine (k3 _).mono ?_; rintro e wz ⟨rfl, hb⟩; have hA := blkB hb hA; have hB := blkB hb hB; have hx1 := blkB hb hx1; have hx2 := blkB hb hx2; have hz := bel_via hz hb; clear hb) | (refine wpList_store_row rfl 29 (.tmp 5) (.tmp 15) rfl wz.heap.size V rfl rfl 29 #[.int .u64 0, .int .u64 0, .int .u64 0, .int .u64 0, .int .u64 0, .int .u64 0, .int .u64 0, .int .u64 0, .int .u64 0, .int .u64 0, .int .u64 0, .int .u64 0, .int .u64 0, .int .u64 0, .int .u64 0, .int .u64 0, .int .u64 0, .int .u64 0, .int .u64 0, .int .u64 0, .int .u64 0, .int .u64 0, .int .u64 0, .int .u64 0] (heap_alloc_new wz _) kV.out zV.out oV.out ?_; rw [World.setRow_alloc_new]; obtain ⟨wy, hwy⟩ : ∃ x, x = wz.alloc (.cells V 29) := ⟨_, rfl⟩; rw [← hwy]; have hA := blk_al2 hwy hA; have hB := blk_al2 hwy hB; have hx1 := al_hd2 hwy; have hz := bel_al2 hwy hz; obtain ⟨P1, hP⟩ : ∃ P, P = wz.heap.size := ⟨_, rfl⟩; rw [← hP] at hx1 ⊢; clear hP hwy; obtain ⟨wz, hwz⟩ : ∃ x, x = wy := ⟨_, rfl⟩; subst hwz) | (refine wpList_store_row rfl 29 (.tmp 7) (.tmp 21) rfl wz.heap.size V rfl rfl 29 #[.int .u64 0, .int .u64 0, .int .u64 0, .int .u64 0, .int .u64 0, .int .u64 0, .int .u64 0, .int .u64 0, .int .u64 0, .int .u64 0, .int .u64 0, .int .u64 0, .int .u64 0, .int .u64 0, .int .u64 0, .int .u64 0, .int .u64 0, .int .u64 0, .int .u64 0, .int .u64 0, .int .u64 0, .int .u64 0, .int .u64 0, .int .u64 0] (heap_alloc_new wz _) kV.out zV.out oV.out ?_; rw [World.setRow_alloc_new]; obtain ⟨wy, hwy⟩ : ∃ x, x = wz.alloc (.cells V 29) := ⟨_, rfl⟩; rw [← hwy]; have hA := blk_al2 hwy hA; have hB := blk_al2 hwy hB; have hx1 := blk_al2 hwy hx1; have hx2 := al_hd2 hwy; have hz := bel_al2 hwy hz; obtain ⟨P2, hP⟩ : ∃ P, P = wz.heap.size := ⟨_, rfl⟩; rw [← hP] at hx2 ⊢; clear hP hwy; obtain ⟨wz, hwz⟩ : ∃ x, x = wy := ⟨_, rfl⟩; subst hwz) | (refine wpList_store_row rfl 29 (.tmp 9) (.tmp 27) rfl wz.heap.size V rfl rfl 29 #[.int .u64 0, .int .u64 0, .int .u64 0, .int .u64 0, .int .u64 0, .int .u64 0, .int .u64 0, .int .u64 0, .int .u64 0, .int .u64 0, .int .u64 0, .int .u64 0, .int .u64 0, .int .u64 0, .int .u64 0, .int .u64 0, .int .u64 0, .int .u64 0, .int .u64 0, .int .u64 0, .int .u64 0, .int .u64 0, .int .u64 0, .int .u64 0] (heap_alloc_new wz _) kV.out zV.out oV.out ?_; rw [World.setRow_alloc_new]; obtain ⟨wy, hwy⟩ : ∃ x, x = wz.alloc (.cells V 29) := ⟨_, rfl⟩; rw [← hwy]; have hA := blk_al2 hwy hA; have hB := blk_al2 hwy hB; have hx1 := blk_al2 hwy hx1; have hx2 := blk_al2 hwy hx2; have hx3 := al_hd2 hwy; have hz := bel_al2 hwy hz; obtain ⟨P3, hP⟩ : ∃ P, P = wz.heap.size := ⟨_, rfl⟩; rw [← hP] at hx3 ⊢; clear hP hwy; obtain ⟨wz, hwz⟩ : ∃ x, x = wy := ⟨_, rfl⟩; subst hwz) | (refine wpList_load_row rfl 29 (.tmp 5) rfl P1 rfl 29 V (0, 0) _ hx1 Try.underlying29 rfl kV.out ?_) | (refine wpList_load_row rfl 29 (.tmp 7) rfl P2 rfl 29 V (0, 0) _ hx2 Try.underlying29 rfl kV.out ?_)
      | (refine wpList_load_row rfl 29 (.tmp 5) rfl P1 rfl 29 V (0, 0) _ hx1 Try.underlying29 rfl kV.out ?_))

    go_ret
    exact ⟨rfl, bel_via b0 hz⟩
  | true =>
    obtain ⟨rfl, rfl, rfl⟩ := HO.out rfl
    obtain ⟨hA, hB, b0⟩ := bx2 w (.cells A 29) (.cells B 29)
    obtain ⟨w0, hw0⟩ : ∃ w0, w0 = (w.alloc (.cells A 29)).alloc (.cells B 29) := ⟨_, rfl⟩
    rw [← hw0] at hA hB b0
    have hz := Below.refl w0.heap.size w0
    have Hw0 := Lib.hid hw0; clear hw0
    go_enter Try.func4, Try.ntmps4
    go_wp2_with (with_reducible refine stop_op (o := ⟨some 12, _, _, _, _, _⟩) ?_)
    rw [← Hw0.out]
    clear Hw0
    refine Lib.hid ?_
    have nq := nq.out
    go_wp2_with (first
      | (refine wpList_load_row rfl 29 (.tmp 2) rfl w.heap.size rfl 29 A (0, 0) _ hA Try.underlying29 rfl i1.out ?_) | (refine wpList_load_row rfl 29 (.tmp 3) rfl (w.heap.size + 1) rfl 29 B (0, 0) _ hB Try.underlying29 rfl i2.out ?_) | (go_at_call 13; with_reducible refine (k1 _).mono ?_; rintro e wz ⟨rfl, hb⟩; have hA := blkB hb hA; have hB := blkB hb hB; have hz := bel_via hz hb; clear hb) | (go_at_call 13; with_reducible refine (k2 _).mono ?_; rintro e wz ⟨rfl, hb⟩; have hA := blkB hb hA; have hB := blkB hb hB; have hx1 := blkB hb hx1; have hz := bel_via hz hb; clear hb) | (go_at_call 14; with_reducible refine (k3 _).mono ?_; rintro e wz ⟨rfl, hb⟩; have hA := blkB hb hA; have hB := blkB hb hB; have hx1 := blkB hb hx1; have hx2 := blkB hb hx2; have hz := bel_via hz hb; clear hb) | (refine wpList_store_row rfl 29 (.tmp 5) (.tmp 15) rfl wz.heap.size V rfl rfl 29 #[.int .u64 0, .int .u64 0, .int .u64 0, .int .u64 0, .int .u64 0, .int .u64 0, .int .u64 0, .int .u64 0, .int .u64 0, .int .u64 0, .int .u64 0, .int .u64 0, .int .u64 0, .int .u64 0, .int .u64 0, .int .u64 0, .int .u64 0, .int .u64 0, .int .u64 0, .int .u64 0, .int .u64 0, .int .u64 0, .int .u64 0, .int .u64 0] (heap_alloc_new wz _) kV.out zV.out oV.out ?_; rw [World.setRow_alloc_new]; obtain ⟨wy, hwy⟩ : ∃ x, x = wz.alloc (.cells V 29) := ⟨_, rfl⟩; rw [← hwy]; have hA := blk_al2 hwy hA; have hB := blk_al2 hwy hB; have hx1 := al_hd2 hwy; have hz := bel_al2 hwy hz; obtain ⟨P1, hP⟩ : ∃ P, P = wz.heap.size := ⟨_, rfl⟩; rw [← hP] at hx1 ⊢; clear hP hwy; obtain ⟨wz, hwz⟩ : ∃ x, x = wy := ⟨_, rfl⟩; subst hwz) | (refine wpList_store_row rfl 29 (.tmp 7) (.tmp 21) rfl wz.heap.size V rfl rfl 29 #[.int .u64 0, .int .u64 0, .int .u64 0, .int .u64 0, .int .u64 0, .int .u64 0, .int .u64 0, .int .u64 0, .int .u64 0, .int .u64 0, .int .u64 0, .int .u64 0, .int .u64 0, .int .u64 0, .int .u64 0, .int .u64 0, .int .u64 0, .int .u64 0, .int .u64 0, .int .u64 0, .int .u64 0, .int .u64 0, .int .u64 0, .int .u64 0] (heap_alloc_new wz _) kV.out zV.out oV.out ?_; rw [World.setRow_alloc_new]; obtain ⟨wy, hwy⟩ : ∃ x, x = wz.alloc (.cells V 29) := ⟨_, rfl⟩; rw [← hwy]; have hA := blk_al2 hwy hA; have hB := blk_al2 hwy hB; have hx1 := blk_al2 hwy hx1; have hx2 := al_hd2 hwy; have hz := bel_al2 hwy hz; obtain ⟨P2, hP⟩ : ∃ P, P = wz.heap.size := ⟨_, rfl⟩; rw [← hP] at hx2 ⊢; clear hP hwy; obtain ⟨wz, hwz⟩ : ∃ x, x = wy := ⟨_, rfl⟩; subst hwz) | (refine wpList_store_row rfl 29 (.tmp 9) (.tmp 27) rfl wz.heap.size V rfl rfl 29 #[.int .u64 0, .int .u64 0, .int .u64 0, .int .u64 0, .int .u64 0, .int .u64 0, .int .u64 0, .int .u64 0, .int .u64 0, .int .u64 0, .int .u64 0, .int .u64 0, .int .u64 0, .int .u64 0, .int .u64 0, .int .u64 0, .int .u64 0, .int .u64 0, .int .u64 0, .int .u64 0, .int .u64 0, .int .u64 0, .int .u64 0, .int .u64 0] (heap_alloc_new wz _) kV.out zV.out oV.out ?_; rw [World.setRow_alloc_new]; obtain ⟨wy, hwy⟩ : ∃ x, x = wz.alloc (.cells V 29) := ⟨_, rfl⟩; rw [← hwy]; have hA := blk_al2 hwy hA; have hB := blk_al2 hwy hB; have hx1 := blk_al2 hwy hx1; have hx2 := blk_al2 hwy hx2; have hx3 := al_hd2 hwy; have hz := bel_al2 hwy hz; obtain ⟨P3, hP⟩ : ∃ P, P = wz.heap.size := ⟨_, rfl⟩; rw [← hP] at hx3 ⊢; clear hP hwy; obtain ⟨wz, hwz⟩ : ∃ x, x = wy := ⟨_, rfl⟩; subst hwz) | (refine wpList_load_row rfl 29 (.tmp 5) rfl P1 rfl 29 V (0, 0) _ hx1 Try.underlying29 rfl kV.out ?_) | (refine wpList_load_row rfl 29 (.tmp 7) rfl P2 rfl 29 V (0, 0) _ hx2 Try.underlying29 rfl kV.out ?_)
      | (refine wpList_load_row rfl 29 (.tmp 2) rfl w.heap.size rfl 29 A (0, 0) _ hA Try.underlying29 rfl i1.out ?_) | (refine wpList_load_row rfl 29 (.tmp 5) rfl P1 rfl 29 V (0, 0) _ hx1 Try.underlying29 rfl kV.out ?_) | (refine wpList_load_row_on (by rfl) 29 (.tmp 3) rfl (w.heap.size + 1) rfl 29 B (0, 0) _ hB Try.underlying29 rfl i2.out ?_) | (refine wpList_load_row_on (by rfl) 29 (.tmp 5) rfl P1 rfl 29 V (0, 0) _ hx1 Try.underlying29 rfl kV.out ?_) | (go_at_call 10; with_reducible refine (c1 _).mono ?_; rintro e wz ⟨rfl, hb⟩; have hB := blkB hb hB; have hx1 := blkB hb hx1; have hz := bel_via hz hb; clear hb) | (go_at_call 10; with_reducible refine (c2 _).mono ?_; rintro e wz ⟨rfl, hb⟩; have hx1 := blkB hb hx1; have hz := bel_via hz hb; clear hb) | (go_at_call 15; with_reducible refine (c3 _).mono ?_; rintro e wz ⟨rfl, hb⟩; have hx1 := blkB hb hx1; have hz := bel_via hz hb; clear hb))

    go_ret
    exact ⟨rfl, bel_via b0 hz⟩
end Go.Proofs.Ytjkcnkjgooifoaa
