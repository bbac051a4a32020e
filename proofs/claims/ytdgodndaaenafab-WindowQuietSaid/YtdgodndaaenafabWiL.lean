/- What a segment tells; by-name template (gen_wi.py). -/
import Derived.Test.YtdgodndaaenafabWiA
namespace Go.Proofs.Ytdgodndaaenafab
open Go.RowKit Go.Lib
set_option linter.unusedVariables false
set_option linter.unusedSimpArgs false

set_option maxRecDepth 100000 in
theorem first_any (t : TR) (w : World) : Calls Try.prog 16 #[.agg (SG t (endP t))] w fun e w' => e = .returned (.agg (SA (firstP t))) ∧ Below w.heap.size w w' := by
  unfold SG SA firstP
  generalize endP t = en
  go_enter Try.func16, Try.ntmps16
  go_wp2
  refine bodyPost_ret_by (results_cell_row Try.results16 _ _ (w.heap.size + 1) 27 #[.bool true, .int .u32 en, .int .u32 ((en + t.wi) % 4294967296), .bool false] (0, 0) _ rfl (blk_new2 _ _ (by simp)) Try.underlying27 rfl (by kernel_rfl)) rfl ⟨rfl, Below.al (bel_al _ _) (by simp) _⟩
set_option maxHeartbeats 1000000 in
theorem bare_any (t : TR) (en : Int) (w : World) : Calls Try.prog 20 #[.agg (SG t en)] w fun e w' => e = .returned (.bool (bareP t)) ∧ Below w.heap.size w w' := by
  have hh := fun (w1 : World) => has_any t en 5 w1
  obtain ⟨W, hW⟩ : ∃ W, W = w.alloc (.cells (SG t en) 51) := ⟨_, rfl⟩
  have hb1 : Below w.heap.size w W := by rw [hW]; exact bel_al _ _
  have B1 : W.heap[w.heap.size]? = some (.cells (SG t en) 51 (0, 0)) := by rw [hW]; exact blk_new w _
  have c9 : W.cell? ⟨w.heap.size, 9, none⟩ = some (.int .i64 t.da) := blk_cell B1 rfl
  have hWs : w.heap.size ≤ W.heap.size := hb1.size
  have HB1 := Lib.hid B1
  clear B1
  unfold bareP
  generalize hb t 5 = x at *
  go_enter Try.func20, Try.ntmps20
  go_upto_region 1 with fail
  rw [← hW]
  clear hW
  cases x
  · by_cases hd : t.da = 0
    · go_wp2_with (first | ((with_reducible refine stop_op (o := ⟨some 3, _, _, _, _, _⟩) ?_); refine Lib.hid ?_; refine wpList_load_cells rfl 51 (.tmp 1) rfl ⟨w.heap.size, 0, none⟩ rfl (SG t en) _ (blk_all HB1.out) Try.underlying51 rfl (sg_inf t _) ?_) | (go_at_call 19; refine (hh _).mono ?_; rintro e w1 ⟨rfl, b1⟩; have d9 := keepc b1 c9))
      go_ret
      exact ⟨ret_bool (by simp [hd]), hb1.trans (b1.mono hWs)⟩
    · have hd1 : (t.da == 0) = false := by simpa using hd
      go_wp2_with (first | ((with_reducible refine stop_op (o := ⟨some 3, _, _, _, _, _⟩) ?_); refine Lib.hid ?_; refine wpList_load_cells rfl 51 (.tmp 1) rfl ⟨w.heap.size, 0, none⟩ rfl (SG t en) _ (blk_all HB1.out) Try.underlying51 rfl (sg_inf t _) ?_) | (go_at_call 19; refine (hh _).mono ?_; rintro e w1 ⟨rfl, b1⟩; have d9 := keepc b1 c9))
      go_ret
      exact ⟨ret_bool (by simp [hd]), hb1.trans (b1.mono hWs)⟩
  · go_wp2_with (first | ((with_reducible refine stop_op (o := ⟨some 3, _, _, _, _, _⟩) ?_); refine Lib.hid ?_; refine wpList_load_cells rfl 51 (.tmp 1) rfl ⟨w.heap.size, 0, none⟩ rfl (SG t en) _ (blk_all HB1.out) Try.underlying51 rfl (sg_inf t _) ?_) | (go_at_call 19; refine (hh _).mono ?_; rintro e w1 ⟨rfl, b1⟩; have d9 := keepc b1 c9))
    go_ret
    exact ⟨ret_bool (by simp), hb1.trans (b1.mono hWs)⟩
set_option maxHeartbeats 1000000 in
theorem acks_any (t : TR) (en n : Int) (w : World) : Calls Try.prog 21 #[.agg (SG t en), .int .u32 n] w fun e w' => e = .returned (.bool (acksP t n)) ∧ Below w.heap.size w w' := by
  have hh := fun (w1 : World) => has_any t en 16 w1
  obtain ⟨W, hW⟩ : ∃ W, W = w.alloc (.cells (SG t en) 51) := ⟨_, rfl⟩
  have hb1 : Below w.heap.size w W := by rw [hW]; exact bel_al _ _
  have B1 : W.heap[w.heap.size]? = some (.cells (SG t en) 51 (0, 0)) := by rw [hW]; exact blk_new w _
  have c9 : W.cell? ⟨w.heap.size, 3, none⟩ = some (.int .u32 t.ak) := blk_cell B1 rfl
  have hWs : w.heap.size ≤ W.heap.size := hb1.size
  have HB1 := Lib.hid B1
  clear B1
  unfold acksP
  generalize hb t 16 = x at *
  go_enter Try.func21, Try.ntmps21
  go_upto_region 1 with fail
  rw [← hW]
  clear hW
  cases x
  · go_wp2_with (first | ((with_reducible refine stop_op (o := ⟨some 5, _, _, _, _, _⟩) ?_); refine Lib.hid ?_; refine wpList_load_cells rfl 51 (.tmp 2) rfl ⟨w.heap.size, 0, none⟩ rfl (SG t en) _ (blk_all HB1.out) Try.underlying51 rfl (sg_inf t _) ?_) | (go_at_call 19; refine (hh _).mono ?_; rintro e w1 ⟨rfl, b1⟩; have d9 := keepc b1 c9))
    go_ret
    exact ⟨ret_bool (by simp), hb1.trans (b1.mono hWs)⟩
  · by_cases hd : t.ak = n
    · go_wp2_with (first | ((with_reducible refine stop_op (o := ⟨some 5, _, _, _, _, _⟩) ?_); refine Lib.hid ?_; refine wpList_load_cells rfl 51 (.tmp 2) rfl ⟨w.heap.size, 0, none⟩ rfl (SG t en) _ (blk_all HB1.out) Try.underlying51 rfl (sg_inf t _) ?_) | (go_at_call 19; refine (hh _).mono ?_; rintro e w1 ⟨rfl, b1⟩; have d9 := keepc b1 c9))
      go_ret
      exact ⟨ret_bool (by simp [hd]), hb1.trans (b1.mono hWs)⟩
    · have hd1 : (t.ak == n) = false := by simpa using hd
      go_wp2_with (first | ((with_reducible refine stop_op (o := ⟨some 5, _, _, _, _, _⟩) ?_); refine Lib.hid ?_; refine wpList_load_cells rfl 51 (.tmp 2) rfl ⟨w.heap.size, 0, none⟩ rfl (SG t en) _ (blk_all HB1.out) Try.underlying51 rfl (sg_inf t _) ?_) | (go_at_call 19; refine (hh _).mono ?_; rintro e w1 ⟨rfl, b1⟩; have d9 := keepc b1 c9))
      go_ret
      exact ⟨ret_bool (by simp [hd]), hb1.trans (b1.mono hWs)⟩
set_option maxHeartbeats 1000000 in
theorem stray_any (t : TR) (en : Int) (y : SD) (w : World) : Calls Try.prog 18 #[.agg (SG t en), .agg (SA y)] w fun e w' => e = .returned (.bool (strayP t y)) ∧ Below w.heap.size w w' := by
  have hh := fun (k : Int) (w1 : World) => has_any t en k w1
  have hle := fun (w1 : World) => less_any y.e t.ak w1
  obtain ⟨W, hW⟩ : ∃ W, W = (w.alloc (.cells (SG t en) 51)).alloc (.cells (SA y) 27) := ⟨_, rfl⟩
  have hb1 : Below w.heap.size w W := by rw [hW]; exact Below.al (bel_al _ _) (by simp) _
  have B1 : W.heap[w.heap.size]? = some (.cells (SG t en) 51 (0, 0)) := by rw [hW]; exact blk_al (blk_new w _)
  have B2 : W.heap[w.heap.size + 1]? = some (.cells (SA y) 27 (0, 0)) := by rw [hW]; exact blk_new2 _ _ (by simp)
  have c3 : W.cell? ⟨w.heap.size, 3, none⟩ = some (.int .u32 t.ak) := blk_cell B1 rfl
  have s0 : W.cell? ⟨w.heap.size + 1, 0, none⟩ = some (.bool y.seen) := blk_cell B2 rfl
  have s1 : W.cell? ⟨w.heap.size + 1, 1, none⟩ = some (.int .u32 y.e) := blk_cell B2 rfl
  have hWs : w.heap.size ≤ W.heap.size := hb1.size
  have HB1 := Lib.hid B1
  clear B1 B2
  unfold strayP
  generalize lessP y.e t.ak = L at *
  obtain ⟨ys, ye, ym, yf⟩ := y
  have hh6 := hh 6
  have hh16 := hh 16
  generalize hb t 16 = x at *
  generalize hb t 6 = z at *
  simp only [SA] at *
  go_enter Try.func18, Try.ntmps18
  go_upto_region 1 with fail
  rw [← hW]
  clear hW hh
  cases x
  · go_wp2_with (first | ((with_reducible refine stop_op (o := ⟨some 5, _, _, _, _, _⟩) ?_); refine Lib.hid ?_; refine wpList_load_cells rfl 51 (.tmp 2) rfl ⟨w.heap.size, 0, none⟩ rfl (SG t en) _ (blk_all HB1.out) Try.underlying51 rfl (sg_inf t _) ?_) | ((with_reducible refine stop_op (o := ⟨some 17, _, _, _, _, _⟩) ?_); refine Lib.hid ?_; refine wpList_load_cells rfl 51 (.tmp 2) rfl ⟨w.heap.size, 0, none⟩ rfl (SG t en) _ (blk_all hB1) Try.underlying51 rfl (sg_inf t _) ?_) | (go_at_call 19; with_reducible refine (hh16 _).mono ?_; rintro e w1 ⟨rfl, b1⟩; have hB1 := kb b1 HB1.out) | (go_at_call 19; refine (hh6 _).mono ?_; rintro e w2 ⟨rfl, b2⟩))
    go_ret
    exact ⟨ret_bool (by simp), (hb1.trans (b1.mono hWs)).trans (b2.mono (Nat.le_trans hWs b1.size))⟩
  · cases ys
    · go_wp2_with (first | ((with_reducible refine stop_op (o := ⟨some 5, _, _, _, _, _⟩) ?_); refine Lib.hid ?_; refine wpList_load_cells rfl 51 (.tmp 2) rfl ⟨w.heap.size, 0, none⟩ rfl (SG t en) _ (blk_all HB1.out) Try.underlying51 rfl (sg_inf t _) ?_) | (go_at_call 19; refine (hh16 _).mono ?_; rintro e w1 ⟨rfl, b1⟩; have d3 := keepc b1 c3; have t0 := keepc b1 s0; have t1 := keepc b1 s1))
      go_ret
      exact ⟨ret_bool (by simp), hb1.trans (b1.mono hWs)⟩
    · go_wp2_with (first | ((with_reducible refine stop_op (o := ⟨some 5, _, _, _, _, _⟩) ?_); refine Lib.hid ?_; refine wpList_load_cells rfl 51 (.tmp 2) rfl ⟨w.heap.size, 0, none⟩ rfl (SG t en) _ (blk_all HB1.out) Try.underlying51 rfl (sg_inf t _) ?_) | (go_at_call 19; refine (hh16 _).mono ?_; rintro e w1 ⟨rfl, b1⟩; have d3 := keepc b1 c3; have t0 := keepc b1 s0; have t1 := keepc b1 s1) | (go_at_call 23; refine (hle _).mono ?_; rintro e w2 ⟨rfl, rfl⟩))
      go_ret
      exact ⟨ret_bool (by simp), hb1.trans (b1.mono hWs)⟩
set_option maxHeartbeats 1000000 in
theorem rend_any (t : TR) (w : World) : Calls Try.prog 17 #[.agg (TA t)] w fun e w' => e = .returned (.int .u32 (endP t)) ∧ Below w.heap.size w w' := by
  have hh2 := fun (w1 : World) => rhas_any t 2 w1
  have hh1 := fun (w1 : World) => rhas_any t 1 w1
  obtain ⟨W, hW⟩ : ∃ W, W = w.alloc (.cells (TA t) 38) := ⟨_, rfl⟩
  have hb1 : Below w.heap.size w W := by rw [hW]; exact bel_al _ _
  have B1 : W.heap[w.heap.size]? = some (.cells (TA t) 38 (0, 0)) := by rw [hW]; exact blk_new w _
  have c2 : W.cell? ⟨w.heap.size, 2, none⟩ = some (.int .u32 t.sq) := blk_cell B1 rfl
  have c9 : W.cell? ⟨w.heap.size, 9, none⟩ = some (.int .i64 t.da) := blk_cell B1 rfl
  have hWs : w.heap.size ≤ W.heap.size := hb1.size
  have HB1 := Lib.hid B1
  clear B1
  unfold endP e1P e0P
  generalize hb t 2 = x at *
  generalize hb t 1 = z at *
  go_enter Try.func17, Try.ntmps17
  go_upto_region 1 with fail
  rw [← hW]
  clear hW
  cases x <;> cases z
  all_goals (
    go_wp2_with (first | ((with_reducible refine stop_op (o := ⟨some 10, _, _, _, _, _⟩) ?_); refine Lib.hid ?_; refine wpList_load_cells rfl 38 (.tmp 1) rfl ⟨w.heap.size, 0, none⟩ rfl (TA t) _ (blk_all HB1.out) Try.underlying38 rfl (rta_inf t) ?_) | ((with_reducible refine stop_op (o := ⟨some 14, _, _, _, _, _⟩) ?_); refine Lib.hid ?_; refine wpList_load_cells rfl 38 (.tmp 1) rfl ⟨w.heap.size, 0, none⟩ rfl (TA t) _ (blk_all hB1) Try.underlying38 rfl (rta_inf t) ?_) | (go_at_call 26; with_reducible refine (hh2 _).mono ?_; rintro e w1 ⟨rfl, b1⟩; have hB1 := kb b1 HB1.out) | (go_at_call 26; refine (hh1 _).mono ?_; rintro e w2 ⟨rfl, b2⟩))
    go_ret
    exact ⟨ret_int (by simp), (hb1.trans (b1.mono hWs)).trans (b2.mono (Nat.le_trans hWs b1.size))⟩)
end Go.Proofs.Ytdgodndaaenafab
