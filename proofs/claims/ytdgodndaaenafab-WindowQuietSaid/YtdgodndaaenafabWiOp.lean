/- Open, the program's and the document's; moved; by-name template (gen_wi2.py). -/
import Derived.Test.YtdgodndaaenafabWiNx
namespace Go.Proofs.Ytdgodndaaenafab
open Go.RowKit Go.Lib Go.Sort
set_option linter.unusedVariables false
set_option linter.unusedSimpArgs false

theorem zcn_ca : CA zcn = #[.int .i64 0, .bool false, .int .u32 0, .int .u32 0, .bool false, .bool false, .int .u32 0, .int .u32 0, .bool false] := rfl
theorem zsg_row (w : World) (C C' : Array Value) (T : TypeId) : World.setRow (w.alloc (.cells C T)) w.heap.size C' = w.alloc (.cells C' T) := World.setRow_alloc_new w C C' T
set_option maxRecDepth 100000 in
set_option maxHeartbeats 4000000 in
theorem open_any (t : TR) (w : World) : Calls Try.prog 7 #[.agg (TA t)] w (RET w (openP t).1 (openP t).2) := by
  have cR := fun w1 : World => read_any t w1
  have cO := fun w1 : World => opens_any t (endP t) w1
  have cF := fun w1 : World => first_any t w1
  obtain ⟨W, hW⟩ : ∃ W, W = (w.alloc (.cells (TA t) 24)).alloc (.cells #[.int .i64 0, .bool false, .int .u32 0, .int .u32 0, .bool false, .bool false, .int .u32 0, .int .u32 0, .bool false] 29) := ⟨_, rfl⟩
  have hb1 : Below w.heap.size w W := by rw [hW]; exact Below.al (bel_al _ _) (by simp) _
  have T1 : W.heap[w.heap.size]? = some (.cells (TA t) 24 (0, 0)) := by rw [hW]; exact blk_al (blk_new w _)
  have R1 : W.heap[w.heap.size + 1]? = some (.cells (CA zcn) 29 (0, 0)) := by rw [hW]; exact blk_new2 _ _ (by simp)
  have hsz : w.heap.size + 2 ≤ W.heap.size := by rw [hW]; simp
  have HT := Lib.hid T1
  have HR := Lib.hid R1
  have HB := Lib.hid hb1
  clear T1 R1 hb1
  obtain ⟨R, hR⟩ : ∃ R, R = openP t := ⟨_, rfl⟩
  rw [← hR]
  have z11 : Hid (∀ w1 : World, (w1.alloc (.cells #[.int .i64 0, .int .i64 0, .int .u32 0, .int .u32 0, .int .i64 0, .int .i64 0, .int .i64 0, .int .i64 0, .int .i64 0, .int .i64 0, .int .u32 0] 51)).heap[w1.heap.size]? = some (.cells #[.int .i64 0, .int .i64 0, .int .u32 0, .int .u32 0, .int .i64 0, .int .i64 0, .int .i64 0, .int .i64 0, .int .i64 0, .int .i64 0, .int .u32 0] 51 (0, 0))) := Lib.hid (fun w1 => blk_new w1 _)
  rcases ho : opensP t with _ | _
  · have FIN : Hid (R = (zcn, false)) := Lib.hid (by rw [hR]; unfold openP; rw [ho]; rfl)
    rw [ho] at cO
    clear hR ho cF
    go_enter Try.func7, Try.ntmps7
    go_upto_region 1 with fail
    rw [← hW]
    clear hW
    go_upto_region 2 with (first | ((with_reducible refine stop_op (o := ⟨some 5, _, _, _, _, _⟩) ?_); refine Lib.hid ?_; refine wpList_load_cells rfl 24 (.tmp 1) rfl ⟨w.heap.size, 0, none⟩ rfl (TA t) _ (blk_all HT.out) Try.underlying24 rfl (ta_inf t) ?_) | (go_at_call 14; with_reducible refine (cR _).mono ?_; rintro e w1 ⟨rfl, b1⟩; have HT1 := Lib.hid (kb b1 HT.out); have HR1 := Lib.hid (kb b1 HR.out); have HB1 := Lib.hid (HB.out.trans (b1.mono (HB.out.size))); have hs1 : w.heap.size + 2 ≤ w1.heap.size := Nat.le_trans hsz b1.size; clear b1) | ((with_reducible refine stop_op (o := ⟨none, _, _, _, _, _⟩) ?_); refine Lib.hid ?_; refine wpList_store_row rfl 51 (.tmp 4) (.tmp 6) rfl w1.heap.size (SG t (endP t)) rfl rfl 51 #[.int .i64 0, .int .i64 0, .int .u32 0, .int .u32 0, .int .i64 0, .int .i64 0, .int .i64 0, .int .i64 0, .int .i64 0, .int .i64 0, .int .u32 0] (z11.out w1) (sg_inf t _) rfl (sg_one t _) ?_; rw [World.setRow_alloc_new]))
    obtain ⟨w2, hw2⟩ : ∃ x, x = w1.alloc (.cells (SG t (endP t)) 51) := ⟨_, rfl⟩
    have HS2 : Hid (w2.heap[w1.heap.size]? = some (.cells (SG t (endP t)) 51 (0, 0))) := Lib.hid (by rw [hw2]; exact blk_new w1 _)
    have HR2 : Hid (w2.heap[w.heap.size + 1]? = some (.cells (CA zcn) 29 (0, 0))) := Lib.hid (by rw [hw2]; exact blk_al HR1.out)
    have HB2 : Hid (Below w.heap.size w w2) := Lib.hid (by rw [hw2]; exact Below.al HB1.out HB1.out.size _)
    rw [← hw2]
    clear hw2
    go_wp2_with (first | ((with_reducible refine stop_op (o := ⟨some 7, _, _, _, _, _⟩) ?_); refine Lib.hid ?_; refine wpList_load_cells rfl 51 (.tmp 4) rfl ⟨w1.heap.size, 0, none⟩ rfl (SG t (endP t)) _ (blk_all HS2.out) Try.underlying51 rfl (sg_inf t _) ?_) | (go_at_call 15; with_reducible refine (cO _).mono ?_; rintro e w3 ⟨rfl, b3⟩; have hR3 := kb b3 HR2.out; have HB3 := Lib.hid (HB2.out.trans (b3.mono HB2.out.size)); have q := blk_free (o := 0) hR3; clear b3) | ((with_reducible refine stop_op (o := ⟨none, _, _, _, _, _⟩) ?_); refine Lib.hid ?_; refine wpList_store_row rfl 29 (.tmp 2) (.tmp 10) rfl (w.heap.size + 1) (CA zcn) rfl rfl 29 (CA zcn) (hR3) (ca_inf _) rfl (ca_one _) ?_))
    refine bodyPost_ret_by (res_row Try.results7 _ _ (w.heap.size + 1) 29 (CA zcn) _ rfl (blk_setRow hR3 _) Try.underlying29 (ca_inf zcn)) rfl ?_
    exact ⟨by rw [FIN.out] <;> rfl, Below.setRow HB3.out (by omega) _⟩
  · have FIN : Hid (R = (⟨1, firstP t, zsd⟩, true)) := Lib.hid (by rw [hR]; unfold openP; rw [ho]; rfl)
    rw [ho] at cO
    simp only [SA] at cF
    clear hR ho
    generalize firstP t = F at *
    go_enter Try.func7, Try.ntmps7
    go_upto_region 1 with fail
    rw [← hW]
    clear hW
    go_upto_region 2 with (first | ((with_reducible refine stop_op (o := ⟨some 5, _, _, _, _, _⟩) ?_); refine Lib.hid ?_; refine wpList_load_cells rfl 24 (.tmp 1) rfl ⟨w.heap.size, 0, none⟩ rfl (TA t) _ (blk_all HT.out) Try.underlying24 rfl (ta_inf t) ?_) | (go_at_call 14; with_reducible refine (cR _).mono ?_; rintro e w1 ⟨rfl, b1⟩; have HT1 := Lib.hid (kb b1 HT.out); have HR1 := Lib.hid (kb b1 HR.out); have HB1 := Lib.hid (HB.out.trans (b1.mono (HB.out.size))); have hs1 : w.heap.size + 2 ≤ w1.heap.size := Nat.le_trans hsz b1.size; clear b1) | ((with_reducible refine stop_op (o := ⟨none, _, _, _, _, _⟩) ?_); refine Lib.hid ?_; refine wpList_store_row rfl 51 (.tmp 4) (.tmp 6) rfl w1.heap.size (SG t (endP t)) rfl rfl 51 #[.int .i64 0, .int .i64 0, .int .u32 0, .int .u32 0, .int .i64 0, .int .i64 0, .int .i64 0, .int .i64 0, .int .i64 0, .int .i64 0, .int .u32 0] (z11.out w1) (sg_inf t _) rfl (sg_one t _) ?_; rw [World.setRow_alloc_new]))
    obtain ⟨w2, hw2⟩ : ∃ x, x = w1.alloc (.cells (SG t (endP t)) 51) := ⟨_, rfl⟩
    have HS2 : Hid (w2.heap[w1.heap.size]? = some (.cells (SG t (endP t)) 51 (0, 0))) := Lib.hid (by rw [hw2]; exact blk_new w1 _)
    have HR2 : Hid (w2.heap[w.heap.size + 1]? = some (.cells (CA zcn) 29 (0, 0))) := Lib.hid (by rw [hw2]; exact blk_al HR1.out)
    have HB2 : Hid (Below w.heap.size w w2) := Lib.hid (by rw [hw2]; exact Below.al HB1.out HB1.out.size _)
    rw [← hw2]
    clear hw2
    go_wp2_with (first | ((with_reducible refine stop_op (o := ⟨some 7, _, _, _, _, _⟩) ?_); refine Lib.hid ?_; refine wpList_load_cells rfl 51 (.tmp 4) rfl ⟨w1.heap.size, 0, none⟩ rfl (SG t (endP t)) _ (blk_all HS2.out) Try.underlying51 rfl (sg_inf t _) ?_) | (go_at_call 15; with_reducible refine (cO _).mono ?_; rintro e w3 ⟨rfl, b3⟩; have hR3 := kb b3 HR2.out; have hS3 := kb b3 HS2.out; have HB3 := Lib.hid (HB2.out.trans (b3.mono HB2.out.size)); clear b3) | ((with_reducible refine stop_op (o := ⟨some 11, _, _, _, _, _⟩) ?_); refine Lib.hid ?_; refine wpList_load_cells rfl 51 (.tmp 4) rfl ⟨w1.heap.size, 0, none⟩ rfl (SG t (endP t)) _ (blk_all hS3) Try.underlying51 rfl (sg_inf t _) ?_) | (go_at_call 16; with_reducible refine (cF _).mono ?_; rintro e w4 ⟨rfl, b4⟩; have hR4 := kb b4 hR3; have HB4 := Lib.hid (HB3.out.trans (b4.mono HB3.out.size)); clear b4) | ((with_reducible refine stop_op (o := ⟨none, _, _, _, _, _⟩) ?_); refine Lib.hid ?_; refine wpList_store_row rfl 29 (.tmp 2) (.tmp 13) rfl (w.heap.size + 1) (CA ⟨1, F, zsd⟩) rfl rfl 29 (CA zcn) (hR4) (ca_inf _) rfl (ca_one _) ?_))
    refine bodyPost_ret_by (res_row Try.results7 _ _ (w.heap.size + 1) 29 (CA ⟨1, F, zsd⟩) _ rfl (blk_setRow hR4 _) Try.underlying29 (ca_inf _)) rfl ?_
    exact ⟨by rw [FIN.out] <;> rfl, Below.setRow HB4.out (by omega) _⟩
set_option maxRecDepth 100000 in
set_option maxHeartbeats 4000000 in
theorem ropen_any (t : TR) (w : World) : Calls Try.prog 9 #[.agg (TA t)] w (RET w (openP t).1 (openP t).2) := by
  have cE := fun w1 : World => rend_any t w1
  obtain ⟨W, hW⟩ : ∃ W, W = (w.alloc (.cells (TA t) 38)).alloc (.cells #[.int .i64 0, .bool false, .int .u32 0, .int .u32 0, .bool false, .bool false, .int .u32 0, .int .u32 0, .bool false] 35) := ⟨_, rfl⟩
  have hb1 : Below w.heap.size w W := by rw [hW]; exact Below.al (bel_al _ _) (by simp) _
  have T1 : W.heap[w.heap.size]? = some (.cells (TA t) 38 (0, 0)) := by rw [hW]; exact blk_al (blk_new w _)
  have R1 : W.heap[w.heap.size + 1]? = some (.cells (CA zcn) 35 (0, 0)) := by rw [hW]; exact blk_new2 _ _ (by simp)
  have c4 : W.cell? ⟨w.heap.size, 4, none⟩ = some (.int .i64 t.fl) := blk_cell T1 rfl
  have c9 : W.cell? ⟨w.heap.size, 9, none⟩ = some (.int .i64 t.da) := blk_cell T1 rfl
  have HT := Lib.hid T1
  have HR := Lib.hid R1
  have HB := Lib.hid hb1
  clear T1 R1 hb1
  obtain ⟨R, hR⟩ : ∃ R, R = openP t := ⟨_, rfl⟩
  rw [← hR]
  have h23 := hb23 t
  have hop : opensP t = ((bits .and .i64 t.fl 23 == 2) && t.da == 0) := by rw [h23]; rfl
  clear h23
  rcases ha : (bits .and .i64 t.fl 23 == 2) with _ | _
  · have hne : (bits .and .i64 t.fl 23 != 2) = true := by simp [bne, ha]
    have FIN : Hid (R = (zcn, false)) := Lib.hid (by rw [hR]; unfold openP; rw [hop, ha]; rfl)
    clear hR hop ha
    go_enter Try.func9, Try.ntmps9
    go_upto_region 1 with fail
    rw [← hW]
    clear hW
    go_wp2_with ((with_reducible refine stop_op (o := ⟨none, _, _, _, _, _⟩) ?_); refine Lib.hid ?_; refine wpList_store_row rfl 35 (.tmp 2) (.tmp 14) rfl (w.heap.size + 1) (CA zcn) rfl rfl 35 (CA zcn) (HR.out) (rca_inf _) rfl (ca_one _) ?_)
    refine bodyPost_ret_by (res_row Try.results9 _ _ (w.heap.size + 1) 35 (CA zcn) _ rfl (blk_setRow HR.out _) Try.underlying35 (rca_inf zcn)) rfl ?_
    exact ⟨by rw [FIN.out] <;> rfl, Below.setRow HB.out (by omega) _⟩
  · have hne : (bits .and .i64 t.fl 23 != 2) = false := by simp [bne, ha]
    rcases hd : (t.da == 0) with _ | _
    · have hdn : (t.da != 0) = true := by simp [bne, hd]
      have FIN : Hid (R = (zcn, false)) := Lib.hid (by rw [hR]; unfold openP; rw [hop, ha, hd]; rfl)
      clear hR hop ha hd
      go_enter Try.func9, Try.ntmps9
      go_upto_region 1 with fail
      rw [← hW]
      clear hW
      go_wp2_with ((with_reducible refine stop_op (o := ⟨none, _, _, _, _, _⟩) ?_); refine Lib.hid ?_; refine wpList_store_row rfl 35 (.tmp 2) (.tmp 14) rfl (w.heap.size + 1) (CA zcn) rfl rfl 35 (CA zcn) (HR.out) (rca_inf _) rfl (ca_one _) ?_)
      refine bodyPost_ret_by (res_row Try.results9 _ _ (w.heap.size + 1) 35 (CA zcn) _ rfl (blk_setRow HR.out _) Try.underlying35 (rca_inf zcn)) rfl ?_
      exact ⟨by rw [FIN.out] <;> rfl, Below.setRow HB.out (by omega) _⟩
    · have hdn : (t.da != 0) = false := by simp [bne, hd]
      have FIN : Hid (R = (⟨1, ⟨true, endP t, (endP t + t.wi) % 4294967296, false⟩, zsd⟩, true)) := Lib.hid (by rw [hR]; unfold openP; rw [hop, ha, hd]; unfold firstP; rfl)
      clear hR hop ha hd
      generalize endP t = E at *
      go_enter Try.func9, Try.ntmps9
      go_upto_region 1 with fail
      rw [← hW]
      clear hW
      go_upto_region 4 with (first | ((with_reducible refine stop_op (o := ⟨some 15, _, _, _, _, _⟩) ?_); refine Lib.hid ?_; refine wpList_load_cells rfl 38 (.tmp 1) rfl ⟨w.heap.size, 0, none⟩ rfl (TA t) _ (blk_all HT.out) Try.underlying38 rfl (rta_inf t) ?_) | (go_at_call 17; with_reducible refine (cE _).mono ?_; rintro e w1 ⟨rfl, b1⟩; have hR1 := kb b1 HR.out; have d5 : w1.cell? ⟨w.heap.size, 5, none⟩ = some (.int .i64 t.wi) := blk_cell (kb b1 HT.out) rfl; have HB1 := Lib.hid (HB.out.trans (b1.mono HB.out.size)); clear b1))
      go_wp2_with ((with_reducible refine stop_op (o := ⟨none, _, _, _, _, _⟩) ?_); refine Lib.hid ?_; refine wpList_store_row rfl 35 (.tmp 2) (.tmp 24) rfl (w.heap.size + 1) (CA ⟨1, ⟨true, E, (E + t.wi) % 4294967296, false⟩, zsd⟩) rfl rfl 35 (CA zcn) (hR1) (rca_inf _) rfl (ca_one _) ?_)
      refine bodyPost_ret_by (res_row Try.results9 _ _ (w.heap.size + 1) 35 (CA ⟨1, ⟨true, E, (E + t.wi) % 4294967296, false⟩, zsd⟩) _ rfl (blk_setRow hR1 _) Try.underlying35 (rca_inf _)) rfl ?_
      exact ⟨by rw [FIN.out] <;> rfl, Below.setRow HB1.out (by omega) _⟩
def movP (t : TR) (a b : Int) : TR := ⟨t.sp, t.dp, (t.sq + a) % 4294967296, if hb t 16 then (t.ak + b) % 4294967296 else t.ak, t.fl, t.wi, t.ty, t.co, t.he, t.da⟩
set_option maxRecDepth 100000 in
set_option maxHeartbeats 4000000 in
theorem moved_any (t : TR) (a b : Int) (w : World) : Calls Try.prog 8 #[.agg (TA t), .int .u32 a, .int .u32 b] w fun e w' => e = .returned (.agg (TA (movP t a b))) ∧ Below w.heap.size w w' := by
  have h16 : hb t 16 = (bits .and .i64 t.fl 16 != 0) := rfl
  unfold movP
  rw [h16]
  clear h16
  unfold TA
  rcases hz : (bits .and .i64 t.fl 16 != 0) with _ | _
  · simp only [Bool.false_eq_true, if_false]
    go_enter Try.func8, Try.ntmps8
    go_wp2
    refine bodyPost_ret_by (results_cell_row Try.results8 _ _ (w.heap.size + 1) 24 #[.int .i64 t.sp, .int .i64 t.dp, .int .u32 ((t.sq + a) % 4294967296), .int .u32 t.ak, .int .i64 t.fl, .int .i64 t.wi, .int .i64 t.ty, .int .i64 t.co, .int .i64 t.he, .int .i64 t.da] (0, 0) _ rfl (blk_new2 _ _ (by simp)) Try.underlying24 rfl (by kernel_rfl)) rfl ⟨rfl, Below.al (bel_al _ _) (by simp) _⟩
  · simp only [if_true]
    go_enter Try.func8, Try.ntmps8
    go_wp2
    refine bodyPost_ret_by (results_cell_row Try.results8 _ _ (w.heap.size + 1) 24 #[.int .i64 t.sp, .int .i64 t.dp, .int .u32 ((t.sq + a) % 4294967296), .int .u32 ((t.ak + b) % 4294967296), .int .i64 t.fl, .int .i64 t.wi, .int .i64 t.ty, .int .i64 t.co, .int .i64 t.he, .int .i64 t.da] (0, 0) _ rfl (blk_new2 _ _ (by simp)) Try.underlying24 rfl (by kernel_rfl)) rfl ⟨rfl, Below.al (bel_al _ _) (by simp) _⟩
end Go.Proofs.Ytdgodndaaenafab
