/- The document's Next: some of its ways; by-name template (gen_wi2.py). -/
import Derived.Test.YtdgodndaaenafabWiRb
namespace Go.Proofs.Ytdgodndaaenafab
open Go.RowKit Go.Lib Go.Sort
set_option linter.unusedVariables false
set_option linter.unusedSimpArgs false

set_option maxRecDepth 100000 in
set_option maxHeartbeats 16000000 in
theorem rn_lt_b (c : CN) (t : TR) (w : World) (hs1 : decide (c.st < 1) = true) (hs5 : True) (h16 : True) (hys : True) (hl : True) (hst : True) (h2 : True) (h4 : True) (hxs : True) (hl1 : True) (hl2 : True) : Calls Try.prog 12 #[.agg (CA c), .bool true, .agg (TA t)] w (ROK w (nextP c true t).2) := by
  clear hs5 h16 hys hl hst h2 h4 hxs hl1 hl2
  obtain ⟨x, hxe⟩ : ∃ x, c.b = x := ⟨_, rfl⟩
  obtain ⟨y, hye⟩ : ∃ y, c.a = y := ⟨_, rfl⟩
  obtain ⟨W, hW⟩ : ∃ W, W = ((((w.alloc (.cells (CA c) 35)).alloc (.cells (TA t) 38)).alloc (.cells #[.int .i64 0, .bool false, .int .u32 0, .int .u32 0, .bool false, .bool false, .int .u32 0, .int .u32 0, .bool false] 35)).alloc (.cells (SA c.b) 33)).alloc (.cells (SA c.a) 33) := ⟨_, rfl⟩
  have HX : Hid (NR w W c x y t) := Lib.hid (by
    rw [hW, ← hxe, ← hye]
    exact ⟨blk_al (blk_al (blk_al (blk_al (blk_new w _)))), blk_al (blk_al (blk_al (blk_new2 _ _ (by simp)))), blk_al (blk_al (blk_new2 _ _ (by simp))), blk_al (blk_new2 _ _ (by simp)), blk_new2 _ _ (by simp), Below.al (Below.al (Below.al (Below.al (bel_al _ _) (by simp) _) (by simp; omega) _) (by simp; omega) _) (by simp; omega) _⟩)
  have HXE := Lib.hid hxe
  have HYE := Lib.hid hye
  clear hxe hye
  obtain ⟨ok, hok⟩ : ∃ o, o = (nextP c true t).2 := ⟨_, rfl⟩
  rw [← hok]
  have HR := Lib.hid hok
  clear hok
  simp only [CA, SA, TA] at hW
  simp only [CA, TA]
  go_enter Try.func12, Try.ntmps12
  go_upto_region 6 with fail
  rw [← hW]
  clear hW
  generalize Value.agg #[Value.int IntKind.i64 c.st, Value.bool c.a.seen, Value.int IntKind.u32 c.a.e, Value.int IntKind.u32 c.a.m, Value.bool c.a.fin, Value.bool c.b.seen, Value.int IntKind.u32 c.b.e, Value.int IntKind.u32 c.b.m, Value.bool c.b.fin] = cv
  generalize Value.agg #[Value.int IntKind.i64 t.sp, Value.int IntKind.i64 t.dp, Value.int IntKind.u32 t.sq, Value.int IntKind.u32 t.ak, Value.int IntKind.i64 t.fl, Value.int IntKind.i64 t.wi, Value.int IntKind.i64 t.ty, Value.int IntKind.i64 t.co, Value.int IntKind.i64 t.he, Value.int IntKind.i64 t.da] = tv
  try generalize Value.agg #[Value.bool c.a.seen, Value.int IntKind.u32 c.a.e, Value.int IntKind.u32 c.a.m, Value.bool c.a.fin] = av
  try generalize Value.agg #[Value.bool c.b.seen, Value.int IntKind.u32 c.b.e, Value.int IntKind.u32 c.b.m, Value.bool c.b.fin] = bv
  obtain ⟨k0, k1, k2, k3, k4, k5, k6, k7, k8, k9, k10, k11, k12, k13, k14, k15, k16, k17⟩ := HX.out.cells
  have OK : Hid (ok = false) := Lib.hid (by rw [HR.out, nextP_b, HXE.out, HYE.out, st_out (by rw [hs1]; rfl)] <;> rfl)
  go_wp2_with (first | fail | (go_at_call 26; ((with_reducible refine (rhas_any t _ _).mono ?_); rintro e wh ⟨rfl, bh⟩); have HX := Lib.hid (HX.out.below bh); clear bh; clear k0 k1 k2 k3 k4 k5 k6 k7 k8 k9 k10 k11 k12 k13 k14 k15 k16 k17; obtain ⟨k0, k1, k2, k3, k4, k5, k6, k7, k8, k9, k10, k11, k12, k13, k14, k15, k16, k17⟩ := HX.out.cells) | (go_at_call 27; ((with_reducible refine (rlessB _ _ _).mono ?_); rintro e wh ⟨rfl, bh⟩); have HX := Lib.hid (HX.out.below bh); clear bh; clear k0 k1 k2 k3 k4 k5 k6 k7 k8 k9 k10 k11 k12 k13 k14 k15 k16 k17; obtain ⟨k0, k1, k2, k3, k4, k5, k6, k7, k8, k9, k10, k11, k12, k13, k14, k15, k16, k17⟩ := HX.out.cells) | (go_at_call 28; ((with_reducible refine (rgrE _ _ _).mono ?_); rintro e wh ⟨G, rfl, bh⟩); have HX := Lib.hid (HX.out.below bh); clear bh; clear k0 k1 k2 k3 k4 k5 k6 k7 k8 k9 k10 k11 k12 k13 k14 k15 k16 k17; obtain ⟨k0, k1, k2, k3, k4, k5, k6, k7, k8, k9, k10, k11, k12, k13, k14, k15, k16, k17⟩ := HX.out.cells) | ((with_reducible refine stop_op (o := ⟨some 28, _, _, _, _, _⟩) ?_); refine Lib.hid ?_; refine wpList_load_cells rfl 35 (.tmp 3) rfl ⟨w.heap.size, 0, none⟩ rfl (CA (c)) _ (blk_all HX.out.c3) Try.underlying35 rfl (rca_inf _) ?_) | ((with_reducible refine stop_op (o := ⟨none, _, _, _, _, _⟩) ?_); refine Lib.hid ?_; refine wpList_store_row rfl 35 (.tmp 6) (.tmp 28) rfl (w.heap.size + 1 + 1) (CA (c)) rfl rfl 35 (CA zcn) (HX.out.r6) (rca_inf _) rfl (ca_one _) ?_))
  refine bodyPost_ret_by (res_row Try.results12 _ _ (w.heap.size + 1 + 1) 35 (CA (c)) _ rfl (blk_setRow HX.out.r6 _) Try.underlying35 (rca_inf _)) rfl ?_
  exact ⟨_, by rw [OK.out] <;> rfl, Below.setRow HX.out.bel (by omega) _⟩

set_option maxRecDepth 100000 in
set_option maxHeartbeats 16000000 in
theorem rn_gt_b (c : CN) (t : TR) (w : World) (hs1 : decide (c.st < 1) = false) (hs5 : decide (4 < c.st) = true) (h16 : True) (hys : True) (hl : True) (hst : True) (h2 : True) (h4 : True) (hxs : True) (hl1 : True) (hl2 : True) : Calls Try.prog 12 #[.agg (CA c), .bool true, .agg (TA t)] w (ROK w (nextP c true t).2) := by
  clear h16 hys hl hst h2 h4 hxs hl1 hl2
  obtain ⟨x, hxe⟩ : ∃ x, c.b = x := ⟨_, rfl⟩
  obtain ⟨y, hye⟩ : ∃ y, c.a = y := ⟨_, rfl⟩
  obtain ⟨W, hW⟩ : ∃ W, W = ((((w.alloc (.cells (CA c) 35)).alloc (.cells (TA t) 38)).alloc (.cells #[.int .i64 0, .bool false, .int .u32 0, .int .u32 0, .bool false, .bool false, .int .u32 0, .int .u32 0, .bool false] 35)).alloc (.cells (SA c.b) 33)).alloc (.cells (SA c.a) 33) := ⟨_, rfl⟩
  have HX : Hid (NR w W c x y t) := Lib.hid (by
    rw [hW, ← hxe, ← hye]
    exact ⟨blk_al (blk_al (blk_al (blk_al (blk_new w _)))), blk_al (blk_al (blk_al (blk_new2 _ _ (by simp)))), blk_al (blk_al (blk_new2 _ _ (by simp))), blk_al (blk_new2 _ _ (by simp)), blk_new2 _ _ (by simp), Below.al (Below.al (Below.al (Below.al (bel_al _ _) (by simp) _) (by simp; omega) _) (by simp; omega) _) (by simp; omega) _⟩)
  have HXE := Lib.hid hxe
  have HYE := Lib.hid hye
  clear hxe hye
  obtain ⟨ok, hok⟩ : ∃ o, o = (nextP c true t).2 := ⟨_, rfl⟩
  rw [← hok]
  have HR := Lib.hid hok
  clear hok
  have hs50 : decide (5 ≤ c.st) = true := by first | (simp at hs5 ⊢; omega)
  simp only [CA, SA, TA] at hW
  simp only [CA, TA]
  go_enter Try.func12, Try.ntmps12
  go_upto_region 6 with fail
  rw [← hW]
  clear hW
  generalize Value.agg #[Value.int IntKind.i64 c.st, Value.bool c.a.seen, Value.int IntKind.u32 c.a.e, Value.int IntKind.u32 c.a.m, Value.bool c.a.fin, Value.bool c.b.seen, Value.int IntKind.u32 c.b.e, Value.int IntKind.u32 c.b.m, Value.bool c.b.fin] = cv
  generalize Value.agg #[Value.int IntKind.i64 t.sp, Value.int IntKind.i64 t.dp, Value.int IntKind.u32 t.sq, Value.int IntKind.u32 t.ak, Value.int IntKind.i64 t.fl, Value.int IntKind.i64 t.wi, Value.int IntKind.i64 t.ty, Value.int IntKind.i64 t.co, Value.int IntKind.i64 t.he, Value.int IntKind.i64 t.da] = tv
  try generalize Value.agg #[Value.bool c.a.seen, Value.int IntKind.u32 c.a.e, Value.int IntKind.u32 c.a.m, Value.bool c.a.fin] = av
  try generalize Value.agg #[Value.bool c.b.seen, Value.int IntKind.u32 c.b.e, Value.int IntKind.u32 c.b.m, Value.bool c.b.fin] = bv
  obtain ⟨k0, k1, k2, k3, k4, k5, k6, k7, k8, k9, k10, k11, k12, k13, k14, k15, k16, k17⟩ := HX.out.cells
  have OK : Hid (ok = false) := Lib.hid (by rw [HR.out, nextP_b, HXE.out, HYE.out, st_out (by rw [hs1, hs50]; rfl)] <;> rfl)
  go_wp2_with (first | fail | (go_at_call 26; ((with_reducible refine (rhas_any t _ _).mono ?_); rintro e wh ⟨rfl, bh⟩); have HX := Lib.hid (HX.out.below bh); clear bh; clear k0 k1 k2 k3 k4 k5 k6 k7 k8 k9 k10 k11 k12 k13 k14 k15 k16 k17; obtain ⟨k0, k1, k2, k3, k4, k5, k6, k7, k8, k9, k10, k11, k12, k13, k14, k15, k16, k17⟩ := HX.out.cells) | (go_at_call 27; ((with_reducible refine (rlessB _ _ _).mono ?_); rintro e wh ⟨rfl, bh⟩); have HX := Lib.hid (HX.out.below bh); clear bh; clear k0 k1 k2 k3 k4 k5 k6 k7 k8 k9 k10 k11 k12 k13 k14 k15 k16 k17; obtain ⟨k0, k1, k2, k3, k4, k5, k6, k7, k8, k9, k10, k11, k12, k13, k14, k15, k16, k17⟩ := HX.out.cells) | (go_at_call 28; ((with_reducible refine (rgrE _ _ _).mono ?_); rintro e wh ⟨G, rfl, bh⟩); have HX := Lib.hid (HX.out.below bh); clear bh; clear k0 k1 k2 k3 k4 k5 k6 k7 k8 k9 k10 k11 k12 k13 k14 k15 k16 k17; obtain ⟨k0, k1, k2, k3, k4, k5, k6, k7, k8, k9, k10, k11, k12, k13, k14, k15, k16, k17⟩ := HX.out.cells) | ((with_reducible refine stop_op (o := ⟨some 28, _, _, _, _, _⟩) ?_); refine Lib.hid ?_; refine wpList_load_cells rfl 35 (.tmp 3) rfl ⟨w.heap.size, 0, none⟩ rfl (CA (c)) _ (blk_all HX.out.c3) Try.underlying35 rfl (rca_inf _) ?_) | ((with_reducible refine stop_op (o := ⟨none, _, _, _, _, _⟩) ?_); refine Lib.hid ?_; refine wpList_store_row rfl 35 (.tmp 6) (.tmp 28) rfl (w.heap.size + 1 + 1) (CA (c)) rfl rfl 35 (CA zcn) (HX.out.r6) (rca_inf _) rfl (ca_one _) ?_))
  refine bodyPost_ret_by (res_row Try.results12 _ _ (w.heap.size + 1 + 1) 35 (CA (c)) _ rfl (blk_setRow HX.out.r6 _) Try.underlying35 (rca_inf _)) rfl ?_
  exact ⟨_, by rw [OK.out] <;> rfl, Below.setRow HX.out.bel (by omega) _⟩

set_option maxRecDepth 100000 in
set_option maxHeartbeats 16000000 in
theorem rn_sfalse_b (c : CN) (t : TR) (w : World) (hs1 : decide (c.st < 1) = false) (hs5 : decide (4 < c.st) = false) (h16 : hb t 16 = false) (hys : c.a.seen = false) (hl : True) (hst : strayP t c.a = true) (h2 : hb t 2 = false) (h4 : hb t 4 = false) (hxs : True) (hl1 : True) (hl2 : True) : Calls Try.prog 12 #[.agg (CA c), .bool true, .agg (TA t)] w (ROK w (nextP c true t).2) := by
  clear hl hxs hl1 hl2
  obtain ⟨x, hxe⟩ : ∃ x, c.b = x := ⟨_, rfl⟩
  obtain ⟨y, hye⟩ : ∃ y, c.a = y := ⟨_, rfl⟩
  rw [hye] at hys hst
  obtain ⟨W, hW⟩ : ∃ W, W = ((((w.alloc (.cells (CA c) 35)).alloc (.cells (TA t) 38)).alloc (.cells #[.int .i64 0, .bool false, .int .u32 0, .int .u32 0, .bool false, .bool false, .int .u32 0, .int .u32 0, .bool false] 35)).alloc (.cells (SA c.b) 33)).alloc (.cells (SA c.a) 33) := ⟨_, rfl⟩
  have HX : Hid (NR w W c x y t) := Lib.hid (by
    rw [hW, ← hxe, ← hye]
    exact ⟨blk_al (blk_al (blk_al (blk_al (blk_new w _)))), blk_al (blk_al (blk_al (blk_new2 _ _ (by simp)))), blk_al (blk_al (blk_new2 _ _ (by simp))), blk_al (blk_new2 _ _ (by simp)), blk_new2 _ _ (by simp), Below.al (Below.al (Below.al (Below.al (bel_al _ _) (by simp) _) (by simp; omega) _) (by simp; omega) _) (by simp; omega) _⟩)
  have HXE := Lib.hid hxe
  have HYE := Lib.hid hye
  clear hxe hye
  obtain ⟨ok, hok⟩ : ∃ o, o = (nextP c true t).2 := ⟨_, rfl⟩
  rw [← hok]
  have HR := Lib.hid hok
  clear hok
  have hs50 : decide (5 ≤ c.st) = false := by first | (simp at hs5 ⊢; omega)
  simp only [CA, SA, TA] at hW
  simp only [CA, TA]
  go_enter Try.func12, Try.ntmps12
  go_upto_region 6 with fail
  rw [← hW]
  clear hW
  generalize Value.agg #[Value.int IntKind.i64 c.st, Value.bool c.a.seen, Value.int IntKind.u32 c.a.e, Value.int IntKind.u32 c.a.m, Value.bool c.a.fin, Value.bool c.b.seen, Value.int IntKind.u32 c.b.e, Value.int IntKind.u32 c.b.m, Value.bool c.b.fin] = cv
  generalize Value.agg #[Value.int IntKind.i64 t.sp, Value.int IntKind.i64 t.dp, Value.int IntKind.u32 t.sq, Value.int IntKind.u32 t.ak, Value.int IntKind.i64 t.fl, Value.int IntKind.i64 t.wi, Value.int IntKind.i64 t.ty, Value.int IntKind.i64 t.co, Value.int IntKind.i64 t.he, Value.int IntKind.i64 t.da] = tv
  try generalize Value.agg #[Value.bool c.a.seen, Value.int IntKind.u32 c.a.e, Value.int IntKind.u32 c.a.m, Value.bool c.a.fin] = av
  try generalize Value.agg #[Value.bool c.b.seen, Value.int IntKind.u32 c.b.e, Value.int IntKind.u32 c.b.m, Value.bool c.b.fin] = bv
  obtain ⟨k0, k1, k2, k3, k4, k5, k6, k7, k8, k9, k10, k11, k12, k13, k14, k15, k16, k17⟩ := HX.out.cells
  have OK : Hid (ok = false) := Lib.hid (by rw [HR.out, nextP_b, HXE.out, HYE.out, st_out (by rw [hs1, hs50, hst]; rfl)] <;> rfl)
  clear hst
  rw [hys] at k10
  go_wp2_with (first | ((with_reducible refine stop_op (o := ⟨some 32, _, _, _, _, _⟩) ?_); refine Lib.hid ?_; refine wpList_load_cells_on (by rfl) 38 (.tmp 5) rfl ⟨w.heap.size + 1, 0, none⟩ rfl (TA t) _ (blk_all HX.out.t5) Try.underlying38 rfl (rta_inf t) ?_) | ((with_reducible refine stop_op (o := ⟨some 43, _, _, _, _, _⟩) ?_); refine Lib.hid ?_; refine wpList_load_cells_on (by rfl) 38 (.tmp 5) rfl ⟨w.heap.size + 1, 0, none⟩ rfl (TA t) _ (blk_all HX.out.t5) Try.underlying38 rfl (rta_inf t) ?_) | ((with_reducible refine stop_op (o := ⟨some 47, _, _, _, _, _⟩) ?_); refine Lib.hid ?_; refine wpList_load_cells_on (by rfl) 38 (.tmp 5) rfl ⟨w.heap.size + 1, 0, none⟩ rfl (TA t) _ (blk_all HX.out.t5) Try.underlying38 rfl (rta_inf t) ?_) | ((with_reducible refine stop_op (o := ⟨some 52, _, _, _, _, _⟩) ?_); refine Lib.hid ?_; refine wpList_load_cells_on (by rfl) 38 (.tmp 5) rfl ⟨w.heap.size + 1, 0, none⟩ rfl (TA t) _ (blk_all HX.out.t5) Try.underlying38 rfl (rta_inf t) ?_) | (go_at_call 26; ((with_reducible refine (rhas_any t _ _).mono ?_); rintro e wh ⟨rfl, bh⟩); have HX := Lib.hid (HX.out.below bh); clear bh; clear k0 k1 k2 k3 k4 k5 k6 k7 k8 k9 k10 k11 k12 k13 k14 k15 k16 k17; obtain ⟨k0, k1, k2, k3, k4, k5, k6, k7, k8, k9, k10, k11, k12, k13, k14, k15, k16, k17⟩ := HX.out.cells) | (go_at_call 27; ((with_reducible refine (rlessB _ _ _).mono ?_); rintro e wh ⟨rfl, bh⟩); have HX := Lib.hid (HX.out.below bh); clear bh; clear k0 k1 k2 k3 k4 k5 k6 k7 k8 k9 k10 k11 k12 k13 k14 k15 k16 k17; obtain ⟨k0, k1, k2, k3, k4, k5, k6, k7, k8, k9, k10, k11, k12, k13, k14, k15, k16, k17⟩ := HX.out.cells) | (go_at_call 28; ((with_reducible refine (rgrE _ _ _).mono ?_); rintro e wh ⟨G, rfl, bh⟩); have HX := Lib.hid (HX.out.below bh); clear bh; clear k0 k1 k2 k3 k4 k5 k6 k7 k8 k9 k10 k11 k12 k13 k14 k15 k16 k17; obtain ⟨k0, k1, k2, k3, k4, k5, k6, k7, k8, k9, k10, k11, k12, k13, k14, k15, k16, k17⟩ := HX.out.cells) | ((with_reducible refine stop_op (o := ⟨some 57, _, _, _, _, _⟩) ?_); refine Lib.hid ?_; refine wpList_load_cells rfl 35 (.tmp 3) rfl ⟨w.heap.size, 0, none⟩ rfl (CA (c)) _ (blk_all HX.out.c3) Try.underlying35 rfl (rca_inf _) ?_) | ((with_reducible refine stop_op (o := ⟨none, _, _, _, _, _⟩) ?_); refine Lib.hid ?_; refine wpList_store_row rfl 35 (.tmp 6) (.tmp 57) rfl (w.heap.size + 1 + 1) (CA (c)) rfl rfl 35 (CA zcn) (HX.out.r6) (rca_inf _) rfl (ca_one _) ?_))
  refine bodyPost_ret_by (res_row Try.results12 _ _ (w.heap.size + 1 + 1) 35 (CA (c)) _ rfl (blk_setRow HX.out.r6 _) Try.underlying35 (rca_inf _)) rfl ?_
  exact ⟨_, by rw [OK.out] <;> rfl, Below.setRow HX.out.bel (by omega) _⟩

set_option maxRecDepth 100000 in
set_option maxHeartbeats 16000000 in
theorem rn_strue_b (c : CN) (t : TR) (w : World) (hs1 : decide (c.st < 1) = false) (hs5 : decide (4 < c.st) = false) (h16 : hb t 16 = false) (hys : c.a.seen = true) (hl : True) (hst : strayP t c.a = true) (h2 : hb t 2 = false) (h4 : hb t 4 = false) (hxs : True) (hl1 : True) (hl2 : True) : Calls Try.prog 12 #[.agg (CA c), .bool true, .agg (TA t)] w (ROK w (nextP c true t).2) := by
  clear hl hxs hl1 hl2
  obtain ⟨x, hxe⟩ : ∃ x, c.b = x := ⟨_, rfl⟩
  obtain ⟨y, hye⟩ : ∃ y, c.a = y := ⟨_, rfl⟩
  rw [hye] at hys hst
  obtain ⟨W, hW⟩ : ∃ W, W = ((((w.alloc (.cells (CA c) 35)).alloc (.cells (TA t) 38)).alloc (.cells #[.int .i64 0, .bool false, .int .u32 0, .int .u32 0, .bool false, .bool false, .int .u32 0, .int .u32 0, .bool false] 35)).alloc (.cells (SA c.b) 33)).alloc (.cells (SA c.a) 33) := ⟨_, rfl⟩
  have HX : Hid (NR w W c x y t) := Lib.hid (by
    rw [hW, ← hxe, ← hye]
    exact ⟨blk_al (blk_al (blk_al (blk_al (blk_new w _)))), blk_al (blk_al (blk_al (blk_new2 _ _ (by simp)))), blk_al (blk_al (blk_new2 _ _ (by simp))), blk_al (blk_new2 _ _ (by simp)), blk_new2 _ _ (by simp), Below.al (Below.al (Below.al (Below.al (bel_al _ _) (by simp) _) (by simp; omega) _) (by simp; omega) _) (by simp; omega) _⟩)
  have HXE := Lib.hid hxe
  have HYE := Lib.hid hye
  clear hxe hye
  obtain ⟨ok, hok⟩ : ∃ o, o = (nextP c true t).2 := ⟨_, rfl⟩
  rw [← hok]
  have HR := Lib.hid hok
  clear hok
  have hs50 : decide (5 ≤ c.st) = false := by first | (simp at hs5 ⊢; omega)
  simp only [CA, SA, TA] at hW
  simp only [CA, TA]
  go_enter Try.func12, Try.ntmps12
  go_upto_region 6 with fail
  rw [← hW]
  clear hW
  generalize Value.agg #[Value.int IntKind.i64 c.st, Value.bool c.a.seen, Value.int IntKind.u32 c.a.e, Value.int IntKind.u32 c.a.m, Value.bool c.a.fin, Value.bool c.b.seen, Value.int IntKind.u32 c.b.e, Value.int IntKind.u32 c.b.m, Value.bool c.b.fin] = cv
  generalize Value.agg #[Value.int IntKind.i64 t.sp, Value.int IntKind.i64 t.dp, Value.int IntKind.u32 t.sq, Value.int IntKind.u32 t.ak, Value.int IntKind.i64 t.fl, Value.int IntKind.i64 t.wi, Value.int IntKind.i64 t.ty, Value.int IntKind.i64 t.co, Value.int IntKind.i64 t.he, Value.int IntKind.i64 t.da] = tv
  try generalize Value.agg #[Value.bool c.a.seen, Value.int IntKind.u32 c.a.e, Value.int IntKind.u32 c.a.m, Value.bool c.a.fin] = av
  try generalize Value.agg #[Value.bool c.b.seen, Value.int IntKind.u32 c.b.e, Value.int IntKind.u32 c.b.m, Value.bool c.b.fin] = bv
  obtain ⟨k0, k1, k2, k3, k4, k5, k6, k7, k8, k9, k10, k11, k12, k13, k14, k15, k16, k17⟩ := HX.out.cells
  have OK : Hid (ok = false) := Lib.hid (by rw [HR.out, nextP_b, HXE.out, HYE.out, st_out (by rw [hs1, hs50, hst]; rfl)] <;> rfl)
  clear hst
  rw [hys] at k10
  go_wp2_with (first | ((with_reducible refine stop_op (o := ⟨some 32, _, _, _, _, _⟩) ?_); refine Lib.hid ?_; refine wpList_load_cells_on (by rfl) 38 (.tmp 5) rfl ⟨w.heap.size + 1, 0, none⟩ rfl (TA t) _ (blk_all HX.out.t5) Try.underlying38 rfl (rta_inf t) ?_) | ((with_reducible refine stop_op (o := ⟨some 43, _, _, _, _, _⟩) ?_); refine Lib.hid ?_; refine wpList_load_cells_on (by rfl) 38 (.tmp 5) rfl ⟨w.heap.size + 1, 0, none⟩ rfl (TA t) _ (blk_all HX.out.t5) Try.underlying38 rfl (rta_inf t) ?_) | ((with_reducible refine stop_op (o := ⟨some 47, _, _, _, _, _⟩) ?_); refine Lib.hid ?_; refine wpList_load_cells_on (by rfl) 38 (.tmp 5) rfl ⟨w.heap.size + 1, 0, none⟩ rfl (TA t) _ (blk_all HX.out.t5) Try.underlying38 rfl (rta_inf t) ?_) | ((with_reducible refine stop_op (o := ⟨some 52, _, _, _, _, _⟩) ?_); refine Lib.hid ?_; refine wpList_load_cells_on (by rfl) 38 (.tmp 5) rfl ⟨w.heap.size + 1, 0, none⟩ rfl (TA t) _ (blk_all HX.out.t5) Try.underlying38 rfl (rta_inf t) ?_) | (go_at_call 26; ((with_reducible refine (rhas_any t _ _).mono ?_); rintro e wh ⟨rfl, bh⟩); have HX := Lib.hid (HX.out.below bh); clear bh; clear k0 k1 k2 k3 k4 k5 k6 k7 k8 k9 k10 k11 k12 k13 k14 k15 k16 k17; obtain ⟨k0, k1, k2, k3, k4, k5, k6, k7, k8, k9, k10, k11, k12, k13, k14, k15, k16, k17⟩ := HX.out.cells) | (go_at_call 27; ((with_reducible refine (rlessB _ _ _).mono ?_); rintro e wh ⟨rfl, bh⟩); have HX := Lib.hid (HX.out.below bh); clear bh; clear k0 k1 k2 k3 k4 k5 k6 k7 k8 k9 k10 k11 k12 k13 k14 k15 k16 k17; obtain ⟨k0, k1, k2, k3, k4, k5, k6, k7, k8, k9, k10, k11, k12, k13, k14, k15, k16, k17⟩ := HX.out.cells) | (go_at_call 28; ((with_reducible refine (rgrE _ _ _).mono ?_); rintro e wh ⟨G, rfl, bh⟩); have HX := Lib.hid (HX.out.below bh); clear bh; clear k0 k1 k2 k3 k4 k5 k6 k7 k8 k9 k10 k11 k12 k13 k14 k15 k16 k17; obtain ⟨k0, k1, k2, k3, k4, k5, k6, k7, k8, k9, k10, k11, k12, k13, k14, k15, k16, k17⟩ := HX.out.cells) | ((with_reducible refine stop_op (o := ⟨some 57, _, _, _, _, _⟩) ?_); refine Lib.hid ?_; refine wpList_load_cells rfl 35 (.tmp 3) rfl ⟨w.heap.size, 0, none⟩ rfl (CA (c)) _ (blk_all HX.out.c3) Try.underlying35 rfl (rca_inf _) ?_) | ((with_reducible refine stop_op (o := ⟨none, _, _, _, _, _⟩) ?_); refine Lib.hid ?_; refine wpList_store_row rfl 35 (.tmp 6) (.tmp 57) rfl (w.heap.size + 1 + 1) (CA (c)) rfl rfl 35 (CA zcn) (HX.out.r6) (rca_inf _) rfl (ca_one _) ?_))
  refine bodyPost_ret_by (res_row Try.results12 _ _ (w.heap.size + 1 + 1) 35 (CA (c)) _ rfl (blk_setRow HX.out.r6 _) Try.underlying35 (rca_inf _)) rfl ?_
  exact ⟨_, by rw [OK.out] <;> rfl, Below.setRow HX.out.bel (by omega) _⟩

set_option maxRecDepth 100000 in
set_option maxHeartbeats 16000000 in
theorem rn_sl_b (c : CN) (t : TR) (w : World) (hs1 : decide (c.st < 1) = false) (hs5 : decide (4 < c.st) = false) (h16 : hb t 16 = true) (hys : c.a.seen = true) (hl : lessP c.a.e t.ak = true) (hst : strayP t c.a = true) (h2 : True) (h4 : True) (hxs : True) (hl1 : True) (hl2 : True) : Calls Try.prog 12 #[.agg (CA c), .bool true, .agg (TA t)] w (ROK w (nextP c true t).2) := by
  clear h2 h4 hxs hl1 hl2
  obtain ⟨x, hxe⟩ : ∃ x, c.b = x := ⟨_, rfl⟩
  obtain ⟨y, hye⟩ : ∃ y, c.a = y := ⟨_, rfl⟩
  rw [hye] at hys hl hst
  obtain ⟨W, hW⟩ : ∃ W, W = ((((w.alloc (.cells (CA c) 35)).alloc (.cells (TA t) 38)).alloc (.cells #[.int .i64 0, .bool false, .int .u32 0, .int .u32 0, .bool false, .bool false, .int .u32 0, .int .u32 0, .bool false] 35)).alloc (.cells (SA c.b) 33)).alloc (.cells (SA c.a) 33) := ⟨_, rfl⟩
  have HX : Hid (NR w W c x y t) := Lib.hid (by
    rw [hW, ← hxe, ← hye]
    exact ⟨blk_al (blk_al (blk_al (blk_al (blk_new w _)))), blk_al (blk_al (blk_al (blk_new2 _ _ (by simp)))), blk_al (blk_al (blk_new2 _ _ (by simp))), blk_al (blk_new2 _ _ (by simp)), blk_new2 _ _ (by simp), Below.al (Below.al (Below.al (Below.al (bel_al _ _) (by simp) _) (by simp; omega) _) (by simp; omega) _) (by simp; omega) _⟩)
  have HXE := Lib.hid hxe
  have HYE := Lib.hid hye
  clear hxe hye
  obtain ⟨ok, hok⟩ : ∃ o, o = (nextP c true t).2 := ⟨_, rfl⟩
  rw [← hok]
  have HR := Lib.hid hok
  clear hok
  have hs50 : decide (5 ≤ c.st) = false := by first | (simp at hs5 ⊢; omega)
  simp only [CA, SA, TA] at hW
  simp only [CA, TA]
  go_enter Try.func12, Try.ntmps12
  go_upto_region 6 with fail
  rw [← hW]
  clear hW
  generalize Value.agg #[Value.int IntKind.i64 c.st, Value.bool c.a.seen, Value.int IntKind.u32 c.a.e, Value.int IntKind.u32 c.a.m, Value.bool c.a.fin, Value.bool c.b.seen, Value.int IntKind.u32 c.b.e, Value.int IntKind.u32 c.b.m, Value.bool c.b.fin] = cv
  generalize Value.agg #[Value.int IntKind.i64 t.sp, Value.int IntKind.i64 t.dp, Value.int IntKind.u32 t.sq, Value.int IntKind.u32 t.ak, Value.int IntKind.i64 t.fl, Value.int IntKind.i64 t.wi, Value.int IntKind.i64 t.ty, Value.int IntKind.i64 t.co, Value.int IntKind.i64 t.he, Value.int IntKind.i64 t.da] = tv
  try generalize Value.agg #[Value.bool c.a.seen, Value.int IntKind.u32 c.a.e, Value.int IntKind.u32 c.a.m, Value.bool c.a.fin] = av
  try generalize Value.agg #[Value.bool c.b.seen, Value.int IntKind.u32 c.b.e, Value.int IntKind.u32 c.b.m, Value.bool c.b.fin] = bv
  obtain ⟨k0, k1, k2, k3, k4, k5, k6, k7, k8, k9, k10, k11, k12, k13, k14, k15, k16, k17⟩ := HX.out.cells
  have OK : Hid (ok = false) := Lib.hid (by rw [HR.out, nextP_b, HXE.out, HYE.out, st_out (by rw [hs1, hs50, hst]; rfl)] <;> rfl)
  rw [hys] at k10
  clear hst
  go_wp2_with (first | ((with_reducible refine stop_op (o := ⟨some 32, _, _, _, _, _⟩) ?_); refine Lib.hid ?_; refine wpList_load_cells_on (by rfl) 38 (.tmp 5) rfl ⟨w.heap.size + 1, 0, none⟩ rfl (TA t) _ (blk_all HX.out.t5) Try.underlying38 rfl (rta_inf t) ?_) | (go_at_call 26; ((with_reducible refine (rhas_any t _ _).mono ?_); rintro e wh ⟨rfl, bh⟩); have HX := Lib.hid (HX.out.below bh); clear bh; clear k0 k1 k2 k3 k4 k5 k6 k7 k8 k9 k10 k11 k12 k13 k14 k15 k16 k17; obtain ⟨k0, k1, k2, k3, k4, k5, k6, k7, k8, k9, k10, k11, k12, k13, k14, k15, k16, k17⟩ := HX.out.cells) | (go_at_call 27; ((with_reducible refine (rlessB _ _ _).mono ?_); rintro e wh ⟨rfl, bh⟩); have HX := Lib.hid (HX.out.below bh); clear bh; clear k0 k1 k2 k3 k4 k5 k6 k7 k8 k9 k10 k11 k12 k13 k14 k15 k16 k17; obtain ⟨k0, k1, k2, k3, k4, k5, k6, k7, k8, k9, k10, k11, k12, k13, k14, k15, k16, k17⟩ := HX.out.cells) | (go_at_call 28; ((with_reducible refine (rgrE _ _ _).mono ?_); rintro e wh ⟨G, rfl, bh⟩); have HX := Lib.hid (HX.out.below bh); clear bh; clear k0 k1 k2 k3 k4 k5 k6 k7 k8 k9 k10 k11 k12 k13 k14 k15 k16 k17; obtain ⟨k0, k1, k2, k3, k4, k5, k6, k7, k8, k9, k10, k11, k12, k13, k14, k15, k16, k17⟩ := HX.out.cells) | ((with_reducible refine stop_op (o := ⟨some 57, _, _, _, _, _⟩) ?_); refine Lib.hid ?_; refine wpList_load_cells rfl 35 (.tmp 3) rfl ⟨w.heap.size, 0, none⟩ rfl (CA (c)) _ (blk_all HX.out.c3) Try.underlying35 rfl (rca_inf _) ?_) | ((with_reducible refine stop_op (o := ⟨none, _, _, _, _, _⟩) ?_); refine Lib.hid ?_; refine wpList_store_row rfl 35 (.tmp 6) (.tmp 57) rfl (w.heap.size + 1 + 1) (CA (c)) rfl rfl 35 (CA zcn) (HX.out.r6) (rca_inf _) rfl (ca_one _) ?_))
  refine bodyPost_ret_by (res_row Try.results12 _ _ (w.heap.size + 1 + 1) 35 (CA (c)) _ rfl (blk_setRow HX.out.r6 _) Try.underlying35 (rca_inf _)) rfl ?_
  exact ⟨_, by rw [OK.out] <;> rfl, Below.setRow HX.out.bel (by omega) _⟩

set_option maxRecDepth 100000 in
set_option maxHeartbeats 16000000 in
theorem rn_refff_b (c : CN) (t : TR) (w : World) (hs1 : decide (c.st < 1) = false) (hs5 : decide (4 < c.st) = false) (h16 : hb t 16 = false) (hys : c.a.seen = false) (hl : True) (hst : strayP t c.a = false) (h2 : hb t 2 = false) (h4 : hb t 4 = true) (hxs : c.b.seen = false) (hl1 : True) (hl2 : True) : Calls Try.prog 12 #[.agg (CA c), .bool true, .agg (TA t)] w (ROK w (nextP c true t).2) := by
  clear hl hl1 hl2
  obtain ⟨x, hxe⟩ : ∃ x, c.b = x := ⟨_, rfl⟩
  obtain ⟨y, hye⟩ : ∃ y, c.a = y := ⟨_, rfl⟩
  rw [hxe] at hxs
  rw [hye] at hys hst
  obtain ⟨W, hW⟩ : ∃ W, W = ((((w.alloc (.cells (CA c) 35)).alloc (.cells (TA t) 38)).alloc (.cells #[.int .i64 0, .bool false, .int .u32 0, .int .u32 0, .bool false, .bool false, .int .u32 0, .int .u32 0, .bool false] 35)).alloc (.cells (SA c.b) 33)).alloc (.cells (SA c.a) 33) := ⟨_, rfl⟩
  have HX : Hid (NR w W c x y t) := Lib.hid (by
    rw [hW, ← hxe, ← hye]
    exact ⟨blk_al (blk_al (blk_al (blk_al (blk_new w _)))), blk_al (blk_al (blk_al (blk_new2 _ _ (by simp)))), blk_al (blk_al (blk_new2 _ _ (by simp))), blk_al (blk_new2 _ _ (by simp)), blk_new2 _ _ (by simp), Below.al (Below.al (Below.al (Below.al (bel_al _ _) (by simp) _) (by simp; omega) _) (by simp; omega) _) (by simp; omega) _⟩)
  have HXE := Lib.hid hxe
  have HYE := Lib.hid hye
  clear hxe hye
  obtain ⟨ok, hok⟩ : ∃ o, o = (nextP c true t).2 := ⟨_, rfl⟩
  rw [← hok]
  have HR := Lib.hid hok
  clear hok
  have hs50 : decide (5 ≤ c.st) = false := by first | (simp at hs5 ⊢; omega)
  simp only [CA, SA, TA] at hW
  simp only [CA, TA]
  go_enter Try.func12, Try.ntmps12
  go_upto_region 6 with fail
  rw [← hW]
  clear hW
  generalize Value.agg #[Value.int IntKind.i64 c.st, Value.bool c.a.seen, Value.int IntKind.u32 c.a.e, Value.int IntKind.u32 c.a.m, Value.bool c.a.fin, Value.bool c.b.seen, Value.int IntKind.u32 c.b.e, Value.int IntKind.u32 c.b.m, Value.bool c.b.fin] = cv
  generalize Value.agg #[Value.int IntKind.i64 t.sp, Value.int IntKind.i64 t.dp, Value.int IntKind.u32 t.sq, Value.int IntKind.u32 t.ak, Value.int IntKind.i64 t.fl, Value.int IntKind.i64 t.wi, Value.int IntKind.i64 t.ty, Value.int IntKind.i64 t.co, Value.int IntKind.i64 t.he, Value.int IntKind.i64 t.da] = tv
  try generalize Value.agg #[Value.bool c.a.seen, Value.int IntKind.u32 c.a.e, Value.int IntKind.u32 c.a.m, Value.bool c.a.fin] = av
  try generalize Value.agg #[Value.bool c.b.seen, Value.int IntKind.u32 c.b.e, Value.int IntKind.u32 c.b.m, Value.bool c.b.fin] = bv
  obtain ⟨k0, k1, k2, k3, k4, k5, k6, k7, k8, k9, k10, k11, k12, k13, k14, k15, k16, k17⟩ := HX.out.cells
  have H0 : Hid ((decide (c.st < 1) || decide (5 ≤ c.st) || strayP t y) = false) := Lib.hid (by rw [hs1, hs50, hst]; rfl)
  clear hst
  rw [hys] at k10
  go_upto_region 10 with (first | ((with_reducible refine stop_op (o := ⟨some 32, _, _, _, _, _⟩) ?_); refine Lib.hid ?_; refine wpList_load_cells_on (by rfl) 38 (.tmp 5) rfl ⟨w.heap.size + 1, 0, none⟩ rfl (TA t) _ (blk_all HX.out.t5) Try.underlying38 rfl (rta_inf t) ?_) | ((with_reducible refine stop_op (o := ⟨some 43, _, _, _, _, _⟩) ?_); refine Lib.hid ?_; refine wpList_load_cells_on (by rfl) 38 (.tmp 5) rfl ⟨w.heap.size + 1, 0, none⟩ rfl (TA t) _ (blk_all HX.out.t5) Try.underlying38 rfl (rta_inf t) ?_) | ((with_reducible refine stop_op (o := ⟨some 47, _, _, _, _, _⟩) ?_); refine Lib.hid ?_; refine wpList_load_cells_on (by rfl) 38 (.tmp 5) rfl ⟨w.heap.size + 1, 0, none⟩ rfl (TA t) _ (blk_all HX.out.t5) Try.underlying38 rfl (rta_inf t) ?_) | ((with_reducible refine stop_op (o := ⟨some 52, _, _, _, _, _⟩) ?_); refine Lib.hid ?_; refine wpList_load_cells_on (by rfl) 38 (.tmp 5) rfl ⟨w.heap.size + 1, 0, none⟩ rfl (TA t) _ (blk_all HX.out.t5) Try.underlying38 rfl (rta_inf t) ?_) | (go_at_call 26; ((with_reducible refine (rhas_any t _ _).mono ?_); rintro e wh ⟨rfl, bh⟩); have HX := Lib.hid (HX.out.below bh); clear bh; clear k0 k1 k2 k3 k4 k5 k6 k7 k8 k9 k10 k11 k12 k13 k14 k15 k16 k17; obtain ⟨k0, k1, k2, k3, k4, k5, k6, k7, k8, k9, k10, k11, k12, k13, k14, k15, k16, k17⟩ := HX.out.cells) | (go_at_call 27; ((with_reducible refine (rlessB _ _ _).mono ?_); rintro e wh ⟨rfl, bh⟩); have HX := Lib.hid (HX.out.below bh); clear bh; clear k0 k1 k2 k3 k4 k5 k6 k7 k8 k9 k10 k11 k12 k13 k14 k15 k16 k17; obtain ⟨k0, k1, k2, k3, k4, k5, k6, k7, k8, k9, k10, k11, k12, k13, k14, k15, k16, k17⟩ := HX.out.cells) | (go_at_call 28; ((with_reducible refine (rgrE _ _ _).mono ?_); rintro e wh ⟨G, rfl, bh⟩); have HX := Lib.hid (HX.out.below bh); clear bh; clear k0 k1 k2 k3 k4 k5 k6 k7 k8 k9 k10 k11 k12 k13 k14 k15 k16 k17; obtain ⟨k0, k1, k2, k3, k4, k5, k6, k7, k8, k9, k10, k11, k12, k13, k14, k15, k16, k17⟩ := HX.out.cells))
  clear hs5
  have HB2 := Lib.hid h2
  rw [hxs] at k6
  go_upto_region 22 with (first | ((with_reducible refine stop_op (o := ⟨some 60, _, _, _, _, _⟩) ?_); refine Lib.hid ?_; refine wpList_load_cells_on (by rfl) 38 (.tmp 5) rfl ⟨w.heap.size + 1, 0, none⟩ rfl (TA t) _ (blk_all HX.out.t5) Try.underlying38 rfl (rta_inf t) ?_) | (go_at_call 26; ((with_reducible refine (rhas_any t _ _).mono ?_); rintro e wh ⟨rfl, bh⟩); have HX := Lib.hid (HX.out.below bh); clear bh; clear k0 k1 k2 k3 k4 k5 k6 k7 k8 k9 k10 k11 k12 k13 k14 k15 k16 k17; obtain ⟨k0, k1, k2, k3, k4, k5, k6, k7, k8, k9, k10, k11, k12, k13, k14, k15, k16, k17⟩ := HX.out.cells) | (go_at_call 27; ((with_reducible refine (rlessB _ _ _).mono ?_); rintro e wh ⟨rfl, bh⟩); have HX := Lib.hid (HX.out.below bh); clear bh; clear k0 k1 k2 k3 k4 k5 k6 k7 k8 k9 k10 k11 k12 k13 k14 k15 k16 k17; obtain ⟨k0, k1, k2, k3, k4, k5, k6, k7, k8, k9, k10, k11, k12, k13, k14, k15, k16, k17⟩ := HX.out.cells) | (go_at_call 28; ((with_reducible refine (rgrE _ _ _).mono ?_); rintro e wh ⟨G, rfl, bh⟩); have HX := Lib.hid (HX.out.below bh); clear bh; clear k0 k1 k2 k3 k4 k5 k6 k7 k8 k9 k10 k11 k12 k13 k14 k15 k16 k17; obtain ⟨k0, k1, k2, k3, k4, k5, k6, k7, k8, k9, k10, k11, k12, k13, k14, k15, k16, k17⟩ := HX.out.cells))
  have hac : acksP t y.e = false := by unfold acksP; rw [h16]; rfl
  have OK : Hid (ok = false) := Lib.hid (by rw [HR.out, nextP_b, HXE.out, HYE.out, st_refNo H0.out h2 hxs (by rw [hac]; simp)] <;> rfl)
  clear hac
  go_wp2_with (first | ((with_reducible refine stop_op (o := ⟨some 140, _, _, _, _, _⟩) ?_); refine Lib.hid ?_; refine wpList_load_cells_on (by rfl) 38 (.tmp 5) rfl ⟨w.heap.size + 1, 0, none⟩ rfl (TA t) _ (blk_all HX.out.t5) Try.underlying38 rfl (rta_inf t) ?_) | ((with_reducible refine stop_op (o := ⟨some 143, _, _, _, _, _⟩) ?_); refine Lib.hid ?_; refine wpList_load_cells_on (by rfl) 38 (.tmp 5) rfl ⟨w.heap.size + 1, 0, none⟩ rfl (TA t) _ (blk_all HX.out.t5) Try.underlying38 rfl (rta_inf t) ?_) | (go_at_call 26; ((with_reducible refine (rhas_any t _ _).mono ?_); rintro e wh ⟨rfl, bh⟩); have HX := Lib.hid (HX.out.below bh); clear bh; clear k0 k1 k2 k3 k4 k5 k6 k7 k8 k9 k10 k11 k12 k13 k14 k15 k16 k17; obtain ⟨k0, k1, k2, k3, k4, k5, k6, k7, k8, k9, k10, k11, k12, k13, k14, k15, k16, k17⟩ := HX.out.cells) | (go_at_call 27; ((with_reducible refine (rlessB _ _ _).mono ?_); rintro e wh ⟨rfl, bh⟩); have HX := Lib.hid (HX.out.below bh); clear bh; clear k0 k1 k2 k3 k4 k5 k6 k7 k8 k9 k10 k11 k12 k13 k14 k15 k16 k17; obtain ⟨k0, k1, k2, k3, k4, k5, k6, k7, k8, k9, k10, k11, k12, k13, k14, k15, k16, k17⟩ := HX.out.cells) | (go_at_call 28; ((with_reducible refine (rgrE _ _ _).mono ?_); rintro e wh ⟨G, rfl, bh⟩); have HX := Lib.hid (HX.out.below bh); clear bh; clear k0 k1 k2 k3 k4 k5 k6 k7 k8 k9 k10 k11 k12 k13 k14 k15 k16 k17; obtain ⟨k0, k1, k2, k3, k4, k5, k6, k7, k8, k9, k10, k11, k12, k13, k14, k15, k16, k17⟩ := HX.out.cells) | ((with_reducible refine stop_op (o := ⟨some 155, _, _, _, _, _⟩) ?_); refine Lib.hid ?_; refine wpList_load_cells rfl 35 (.tmp 3) rfl ⟨w.heap.size, 0, none⟩ rfl (CA (c)) _ (blk_all HX.out.c3) Try.underlying35 rfl (rca_inf _) ?_) | ((with_reducible refine stop_op (o := ⟨none, _, _, _, _, _⟩) ?_); refine Lib.hid ?_; refine wpList_store_row rfl 35 (.tmp 6) (.tmp 155) rfl (w.heap.size + 1 + 1) (CA (c)) rfl rfl 35 (CA zcn) (HX.out.r6) (rca_inf _) rfl (ca_one _) ?_))
  refine bodyPost_ret_by (res_row Try.results12 _ _ (w.heap.size + 1 + 1) 35 (CA (c)) _ rfl (blk_setRow HX.out.r6 _) Try.underlying35 (rca_inf _)) rfl ?_
  exact ⟨_, by rw [OK.out] <;> rfl, Below.setRow HX.out.bel (by omega) _⟩

set_option maxRecDepth 100000 in
set_option maxHeartbeats 16000000 in
theorem rn_refft_b (c : CN) (t : TR) (w : World) (hs1 : decide (c.st < 1) = false) (hs5 : decide (4 < c.st) = false) (h16 : hb t 16 = false) (hys : c.a.seen = true) (hl : True) (hst : strayP t c.a = false) (h2 : hb t 2 = false) (h4 : hb t 4 = true) (hxs : c.b.seen = false) (hl1 : True) (hl2 : True) : Calls Try.prog 12 #[.agg (CA c), .bool true, .agg (TA t)] w (ROK w (nextP c true t).2) := by
  clear hl hl1 hl2
  obtain ⟨x, hxe⟩ : ∃ x, c.b = x := ⟨_, rfl⟩
  obtain ⟨y, hye⟩ : ∃ y, c.a = y := ⟨_, rfl⟩
  rw [hxe] at hxs
  rw [hye] at hys hst
  obtain ⟨W, hW⟩ : ∃ W, W = ((((w.alloc (.cells (CA c) 35)).alloc (.cells (TA t) 38)).alloc (.cells #[.int .i64 0, .bool false, .int .u32 0, .int .u32 0, .bool false, .bool false, .int .u32 0, .int .u32 0, .bool false] 35)).alloc (.cells (SA c.b) 33)).alloc (.cells (SA c.a) 33) := ⟨_, rfl⟩
  have HX : Hid (NR w W c x y t) := Lib.hid (by
    rw [hW, ← hxe, ← hye]
    exact ⟨blk_al (blk_al (blk_al (blk_al (blk_new w _)))), blk_al (blk_al (blk_al (blk_new2 _ _ (by simp)))), blk_al (blk_al (blk_new2 _ _ (by simp))), blk_al (blk_new2 _ _ (by simp)), blk_new2 _ _ (by simp), Below.al (Below.al (Below.al (Below.al (bel_al _ _) (by simp) _) (by simp; omega) _) (by simp; omega) _) (by simp; omega) _⟩)
  have HXE := Lib.hid hxe
  have HYE := Lib.hid hye
  clear hxe hye
  obtain ⟨ok, hok⟩ : ∃ o, o = (nextP c true t).2 := ⟨_, rfl⟩
  rw [← hok]
  have HR := Lib.hid hok
  clear hok
  have hs50 : decide (5 ≤ c.st) = false := by first | (simp at hs5 ⊢; omega)
  simp only [CA, SA, TA] at hW
  simp only [CA, TA]
  go_enter Try.func12, Try.ntmps12
  go_upto_region 6 with fail
  rw [← hW]
  clear hW
  generalize Value.agg #[Value.int IntKind.i64 c.st, Value.bool c.a.seen, Value.int IntKind.u32 c.a.e, Value.int IntKind.u32 c.a.m, Value.bool c.a.fin, Value.bool c.b.seen, Value.int IntKind.u32 c.b.e, Value.int IntKind.u32 c.b.m, Value.bool c.b.fin] = cv
  generalize Value.agg #[Value.int IntKind.i64 t.sp, Value.int IntKind.i64 t.dp, Value.int IntKind.u32 t.sq, Value.int IntKind.u32 t.ak, Value.int IntKind.i64 t.fl, Value.int IntKind.i64 t.wi, Value.int IntKind.i64 t.ty, Value.int IntKind.i64 t.co, Value.int IntKind.i64 t.he, Value.int IntKind.i64 t.da] = tv
  try generalize Value.agg #[Value.bool c.a.seen, Value.int IntKind.u32 c.a.e, Value.int IntKind.u32 c.a.m, Value.bool c.a.fin] = av
  try generalize Value.agg #[Value.bool c.b.seen, Value.int IntKind.u32 c.b.e, Value.int IntKind.u32 c.b.m, Value.bool c.b.fin] = bv
  obtain ⟨k0, k1, k2, k3, k4, k5, k6, k7, k8, k9, k10, k11, k12, k13, k14, k15, k16, k17⟩ := HX.out.cells
  have H0 : Hid ((decide (c.st < 1) || decide (5 ≤ c.st) || strayP t y) = false) := Lib.hid (by rw [hs1, hs50, hst]; rfl)
  clear hst
  rw [hys] at k10
  go_upto_region 10 with (first | ((with_reducible refine stop_op (o := ⟨some 32, _, _, _, _, _⟩) ?_); refine Lib.hid ?_; refine wpList_load_cells_on (by rfl) 38 (.tmp 5) rfl ⟨w.heap.size + 1, 0, none⟩ rfl (TA t) _ (blk_all HX.out.t5) Try.underlying38 rfl (rta_inf t) ?_) | ((with_reducible refine stop_op (o := ⟨some 43, _, _, _, _, _⟩) ?_); refine Lib.hid ?_; refine wpList_load_cells_on (by rfl) 38 (.tmp 5) rfl ⟨w.heap.size + 1, 0, none⟩ rfl (TA t) _ (blk_all HX.out.t5) Try.underlying38 rfl (rta_inf t) ?_) | ((with_reducible refine stop_op (o := ⟨some 47, _, _, _, _, _⟩) ?_); refine Lib.hid ?_; refine wpList_load_cells_on (by rfl) 38 (.tmp 5) rfl ⟨w.heap.size + 1, 0, none⟩ rfl (TA t) _ (blk_all HX.out.t5) Try.underlying38 rfl (rta_inf t) ?_) | ((with_reducible refine stop_op (o := ⟨some 52, _, _, _, _, _⟩) ?_); refine Lib.hid ?_; refine wpList_load_cells_on (by rfl) 38 (.tmp 5) rfl ⟨w.heap.size + 1, 0, none⟩ rfl (TA t) _ (blk_all HX.out.t5) Try.underlying38 rfl (rta_inf t) ?_) | (go_at_call 26; ((with_reducible refine (rhas_any t _ _).mono ?_); rintro e wh ⟨rfl, bh⟩); have HX := Lib.hid (HX.out.below bh); clear bh; clear k0 k1 k2 k3 k4 k5 k6 k7 k8 k9 k10 k11 k12 k13 k14 k15 k16 k17; obtain ⟨k0, k1, k2, k3, k4, k5, k6, k7, k8, k9, k10, k11, k12, k13, k14, k15, k16, k17⟩ := HX.out.cells) | (go_at_call 27; ((with_reducible refine (rlessB _ _ _).mono ?_); rintro e wh ⟨rfl, bh⟩); have HX := Lib.hid (HX.out.below bh); clear bh; clear k0 k1 k2 k3 k4 k5 k6 k7 k8 k9 k10 k11 k12 k13 k14 k15 k16 k17; obtain ⟨k0, k1, k2, k3, k4, k5, k6, k7, k8, k9, k10, k11, k12, k13, k14, k15, k16, k17⟩ := HX.out.cells) | (go_at_call 28; ((with_reducible refine (rgrE _ _ _).mono ?_); rintro e wh ⟨G, rfl, bh⟩); have HX := Lib.hid (HX.out.below bh); clear bh; clear k0 k1 k2 k3 k4 k5 k6 k7 k8 k9 k10 k11 k12 k13 k14 k15 k16 k17; obtain ⟨k0, k1, k2, k3, k4, k5, k6, k7, k8, k9, k10, k11, k12, k13, k14, k15, k16, k17⟩ := HX.out.cells))
  clear hs5
  have HB2 := Lib.hid h2
  rw [hxs] at k6
  go_upto_region 22 with (first | ((with_reducible refine stop_op (o := ⟨some 60, _, _, _, _, _⟩) ?_); refine Lib.hid ?_; refine wpList_load_cells_on (by rfl) 38 (.tmp 5) rfl ⟨w.heap.size + 1, 0, none⟩ rfl (TA t) _ (blk_all HX.out.t5) Try.underlying38 rfl (rta_inf t) ?_) | (go_at_call 26; ((with_reducible refine (rhas_any t _ _).mono ?_); rintro e wh ⟨rfl, bh⟩); have HX := Lib.hid (HX.out.below bh); clear bh; clear k0 k1 k2 k3 k4 k5 k6 k7 k8 k9 k10 k11 k12 k13 k14 k15 k16 k17; obtain ⟨k0, k1, k2, k3, k4, k5, k6, k7, k8, k9, k10, k11, k12, k13, k14, k15, k16, k17⟩ := HX.out.cells) | (go_at_call 27; ((with_reducible refine (rlessB _ _ _).mono ?_); rintro e wh ⟨rfl, bh⟩); have HX := Lib.hid (HX.out.below bh); clear bh; clear k0 k1 k2 k3 k4 k5 k6 k7 k8 k9 k10 k11 k12 k13 k14 k15 k16 k17; obtain ⟨k0, k1, k2, k3, k4, k5, k6, k7, k8, k9, k10, k11, k12, k13, k14, k15, k16, k17⟩ := HX.out.cells) | (go_at_call 28; ((with_reducible refine (rgrE _ _ _).mono ?_); rintro e wh ⟨G, rfl, bh⟩); have HX := Lib.hid (HX.out.below bh); clear bh; clear k0 k1 k2 k3 k4 k5 k6 k7 k8 k9 k10 k11 k12 k13 k14 k15 k16 k17; obtain ⟨k0, k1, k2, k3, k4, k5, k6, k7, k8, k9, k10, k11, k12, k13, k14, k15, k16, k17⟩ := HX.out.cells))
  have hac : acksP t y.e = false := by unfold acksP; rw [h16]; rfl
  have OK : Hid (ok = false) := Lib.hid (by rw [HR.out, nextP_b, HXE.out, HYE.out, st_refNo H0.out h2 hxs (by rw [hac]; simp)] <;> rfl)
  clear hac
  go_wp2_with (first | ((with_reducible refine stop_op (o := ⟨some 140, _, _, _, _, _⟩) ?_); refine Lib.hid ?_; refine wpList_load_cells_on (by rfl) 38 (.tmp 5) rfl ⟨w.heap.size + 1, 0, none⟩ rfl (TA t) _ (blk_all HX.out.t5) Try.underlying38 rfl (rta_inf t) ?_) | ((with_reducible refine stop_op (o := ⟨some 143, _, _, _, _, _⟩) ?_); refine Lib.hid ?_; refine wpList_load_cells_on (by rfl) 38 (.tmp 5) rfl ⟨w.heap.size + 1, 0, none⟩ rfl (TA t) _ (blk_all HX.out.t5) Try.underlying38 rfl (rta_inf t) ?_) | (go_at_call 26; ((with_reducible refine (rhas_any t _ _).mono ?_); rintro e wh ⟨rfl, bh⟩); have HX := Lib.hid (HX.out.below bh); clear bh; clear k0 k1 k2 k3 k4 k5 k6 k7 k8 k9 k10 k11 k12 k13 k14 k15 k16 k17; obtain ⟨k0, k1, k2, k3, k4, k5, k6, k7, k8, k9, k10, k11, k12, k13, k14, k15, k16, k17⟩ := HX.out.cells) | (go_at_call 27; ((with_reducible refine (rlessB _ _ _).mono ?_); rintro e wh ⟨rfl, bh⟩); have HX := Lib.hid (HX.out.below bh); clear bh; clear k0 k1 k2 k3 k4 k5 k6 k7 k8 k9 k10 k11 k12 k13 k14 k15 k16 k17; obtain ⟨k0, k1, k2, k3, k4, k5, k6, k7, k8, k9, k10, k11, k12, k13, k14, k15, k16, k17⟩ := HX.out.cells) | (go_at_call 28; ((with_reducible refine (rgrE _ _ _).mono ?_); rintro e wh ⟨G, rfl, bh⟩); have HX := Lib.hid (HX.out.below bh); clear bh; clear k0 k1 k2 k3 k4 k5 k6 k7 k8 k9 k10 k11 k12 k13 k14 k15 k16 k17; obtain ⟨k0, k1, k2, k3, k4, k5, k6, k7, k8, k9, k10, k11, k12, k13, k14, k15, k16, k17⟩ := HX.out.cells) | ((with_reducible refine stop_op (o := ⟨some 155, _, _, _, _, _⟩) ?_); refine Lib.hid ?_; refine wpList_load_cells rfl 35 (.tmp 3) rfl ⟨w.heap.size, 0, none⟩ rfl (CA (c)) _ (blk_all HX.out.c3) Try.underlying35 rfl (rca_inf _) ?_) | ((with_reducible refine stop_op (o := ⟨none, _, _, _, _, _⟩) ?_); refine Lib.hid ?_; refine wpList_store_row rfl 35 (.tmp 6) (.tmp 155) rfl (w.heap.size + 1 + 1) (CA (c)) rfl rfl 35 (CA zcn) (HX.out.r6) (rca_inf _) rfl (ca_one _) ?_))
  refine bodyPost_ret_by (res_row Try.results12 _ _ (w.heap.size + 1 + 1) 35 (CA (c)) _ rfl (blk_setRow HX.out.r6 _) Try.underlying35 (rca_inf _)) rfl ?_
  exact ⟨_, by rw [OK.out] <;> rfl, Below.setRow HX.out.bel (by omega) _⟩

set_option maxRecDepth 100000 in
set_option maxHeartbeats 16000000 in
theorem rn_reftf_b (c : CN) (t : TR) (w : World) (hs1 : decide (c.st < 1) = false) (hs5 : decide (4 < c.st) = false) (h16 : hb t 16 = true) (hys : c.a.seen = false) (hl : True) (hst : strayP t c.a = false) (h2 : hb t 2 = false) (h4 : True) (hxs : c.b.seen = false) (hl1 : True) (hl2 : True) : Calls Try.prog 12 #[.agg (CA c), .bool true, .agg (TA t)] w (ROK w (nextP c true t).2) := by
  clear hl h4 hl1 hl2
  obtain ⟨x, hxe⟩ : ∃ x, c.b = x := ⟨_, rfl⟩
  obtain ⟨y, hye⟩ : ∃ y, c.a = y := ⟨_, rfl⟩
  rw [hxe] at hxs
  rw [hye] at hys hst
  obtain ⟨W, hW⟩ : ∃ W, W = ((((w.alloc (.cells (CA c) 35)).alloc (.cells (TA t) 38)).alloc (.cells #[.int .i64 0, .bool false, .int .u32 0, .int .u32 0, .bool false, .bool false, .int .u32 0, .int .u32 0, .bool false] 35)).alloc (.cells (SA c.b) 33)).alloc (.cells (SA c.a) 33) := ⟨_, rfl⟩
  have HX : Hid (NR w W c x y t) := Lib.hid (by
    rw [hW, ← hxe, ← hye]
    exact ⟨blk_al (blk_al (blk_al (blk_al (blk_new w _)))), blk_al (blk_al (blk_al (blk_new2 _ _ (by simp)))), blk_al (blk_al (blk_new2 _ _ (by simp))), blk_al (blk_new2 _ _ (by simp)), blk_new2 _ _ (by simp), Below.al (Below.al (Below.al (Below.al (bel_al _ _) (by simp) _) (by simp; omega) _) (by simp; omega) _) (by simp; omega) _⟩)
  have HXE := Lib.hid hxe
  have HYE := Lib.hid hye
  clear hxe hye
  obtain ⟨ok, hok⟩ : ∃ o, o = (nextP c true t).2 := ⟨_, rfl⟩
  rw [← hok]
  have HR := Lib.hid hok
  clear hok
  have hs50 : decide (5 ≤ c.st) = false := by first | (simp at hs5 ⊢; omega)
  simp only [CA, SA, TA] at hW
  simp only [CA, TA]
  go_enter Try.func12, Try.ntmps12
  go_upto_region 6 with fail
  rw [← hW]
  clear hW
  generalize Value.agg #[Value.int IntKind.i64 c.st, Value.bool c.a.seen, Value.int IntKind.u32 c.a.e, Value.int IntKind.u32 c.a.m, Value.bool c.a.fin, Value.bool c.b.seen, Value.int IntKind.u32 c.b.e, Value.int IntKind.u32 c.b.m, Value.bool c.b.fin] = cv
  generalize Value.agg #[Value.int IntKind.i64 t.sp, Value.int IntKind.i64 t.dp, Value.int IntKind.u32 t.sq, Value.int IntKind.u32 t.ak, Value.int IntKind.i64 t.fl, Value.int IntKind.i64 t.wi, Value.int IntKind.i64 t.ty, Value.int IntKind.i64 t.co, Value.int IntKind.i64 t.he, Value.int IntKind.i64 t.da] = tv
  try generalize Value.agg #[Value.bool c.a.seen, Value.int IntKind.u32 c.a.e, Value.int IntKind.u32 c.a.m, Value.bool c.a.fin] = av
  try generalize Value.agg #[Value.bool c.b.seen, Value.int IntKind.u32 c.b.e, Value.int IntKind.u32 c.b.m, Value.bool c.b.fin] = bv
  obtain ⟨k0, k1, k2, k3, k4, k5, k6, k7, k8, k9, k10, k11, k12, k13, k14, k15, k16, k17⟩ := HX.out.cells
  have H0 : Hid ((decide (c.st < 1) || decide (5 ≤ c.st) || strayP t y) = false) := Lib.hid (by rw [hs1, hs50, hst]; rfl)
  clear hst
  rw [hys] at k10
  go_upto_region 10 with (first | ((with_reducible refine stop_op (o := ⟨some 32, _, _, _, _, _⟩) ?_); refine Lib.hid ?_; refine wpList_load_cells_on (by rfl) 38 (.tmp 5) rfl ⟨w.heap.size + 1, 0, none⟩ rfl (TA t) _ (blk_all HX.out.t5) Try.underlying38 rfl (rta_inf t) ?_) | ((with_reducible refine stop_op (o := ⟨some 43, _, _, _, _, _⟩) ?_); refine Lib.hid ?_; refine wpList_load_cells_on (by rfl) 38 (.tmp 5) rfl ⟨w.heap.size + 1, 0, none⟩ rfl (TA t) _ (blk_all HX.out.t5) Try.underlying38 rfl (rta_inf t) ?_) | ((with_reducible refine stop_op (o := ⟨some 47, _, _, _, _, _⟩) ?_); refine Lib.hid ?_; refine wpList_load_cells_on (by rfl) 38 (.tmp 5) rfl ⟨w.heap.size + 1, 0, none⟩ rfl (TA t) _ (blk_all HX.out.t5) Try.underlying38 rfl (rta_inf t) ?_) | ((with_reducible refine stop_op (o := ⟨some 52, _, _, _, _, _⟩) ?_); refine Lib.hid ?_; refine wpList_load_cells_on (by rfl) 38 (.tmp 5) rfl ⟨w.heap.size + 1, 0, none⟩ rfl (TA t) _ (blk_all HX.out.t5) Try.underlying38 rfl (rta_inf t) ?_) | (go_at_call 26; ((with_reducible refine (rhas_any t _ _).mono ?_); rintro e wh ⟨rfl, bh⟩); have HX := Lib.hid (HX.out.below bh); clear bh; clear k0 k1 k2 k3 k4 k5 k6 k7 k8 k9 k10 k11 k12 k13 k14 k15 k16 k17; obtain ⟨k0, k1, k2, k3, k4, k5, k6, k7, k8, k9, k10, k11, k12, k13, k14, k15, k16, k17⟩ := HX.out.cells) | (go_at_call 27; ((with_reducible refine (rlessB _ _ _).mono ?_); rintro e wh ⟨rfl, bh⟩); have HX := Lib.hid (HX.out.below bh); clear bh; clear k0 k1 k2 k3 k4 k5 k6 k7 k8 k9 k10 k11 k12 k13 k14 k15 k16 k17; obtain ⟨k0, k1, k2, k3, k4, k5, k6, k7, k8, k9, k10, k11, k12, k13, k14, k15, k16, k17⟩ := HX.out.cells) | (go_at_call 28; ((with_reducible refine (rgrE _ _ _).mono ?_); rintro e wh ⟨G, rfl, bh⟩); have HX := Lib.hid (HX.out.below bh); clear bh; clear k0 k1 k2 k3 k4 k5 k6 k7 k8 k9 k10 k11 k12 k13 k14 k15 k16 k17; obtain ⟨k0, k1, k2, k3, k4, k5, k6, k7, k8, k9, k10, k11, k12, k13, k14, k15, k16, k17⟩ := HX.out.cells))
  clear hs5
  have HB2 := Lib.hid h2
  rw [hxs] at k6
  go_upto_region 22 with (first | ((with_reducible refine stop_op (o := ⟨some 60, _, _, _, _, _⟩) ?_); refine Lib.hid ?_; refine wpList_load_cells_on (by rfl) 38 (.tmp 5) rfl ⟨w.heap.size + 1, 0, none⟩ rfl (TA t) _ (blk_all HX.out.t5) Try.underlying38 rfl (rta_inf t) ?_) | (go_at_call 26; ((with_reducible refine (rhas_any t _ _).mono ?_); rintro e wh ⟨rfl, bh⟩); have HX := Lib.hid (HX.out.below bh); clear bh; clear k0 k1 k2 k3 k4 k5 k6 k7 k8 k9 k10 k11 k12 k13 k14 k15 k16 k17; obtain ⟨k0, k1, k2, k3, k4, k5, k6, k7, k8, k9, k10, k11, k12, k13, k14, k15, k16, k17⟩ := HX.out.cells) | (go_at_call 27; ((with_reducible refine (rlessB _ _ _).mono ?_); rintro e wh ⟨rfl, bh⟩); have HX := Lib.hid (HX.out.below bh); clear bh; clear k0 k1 k2 k3 k4 k5 k6 k7 k8 k9 k10 k11 k12 k13 k14 k15 k16 k17; obtain ⟨k0, k1, k2, k3, k4, k5, k6, k7, k8, k9, k10, k11, k12, k13, k14, k15, k16, k17⟩ := HX.out.cells) | (go_at_call 28; ((with_reducible refine (rgrE _ _ _).mono ?_); rintro e wh ⟨G, rfl, bh⟩); have HX := Lib.hid (HX.out.below bh); clear bh; clear k0 k1 k2 k3 k4 k5 k6 k7 k8 k9 k10 k11 k12 k13 k14 k15 k16 k17; obtain ⟨k0, k1, k2, k3, k4, k5, k6, k7, k8, k9, k10, k11, k12, k13, k14, k15, k16, k17⟩ := HX.out.cells))
  rcases h4 : hb t 4 with _ | _
  · have OK : Hid (ok = false) := Lib.hid (by rw [HR.out, nextP_b, HXE.out, HYE.out, st_refNo H0.out h2 hxs (by rw [h4]; rfl)] <;> rfl)
    go_wp2_with (first | ((with_reducible refine stop_op (o := ⟨some 140, _, _, _, _, _⟩) ?_); refine Lib.hid ?_; refine wpList_load_cells_on (by rfl) 38 (.tmp 5) rfl ⟨w.heap.size + 1, 0, none⟩ rfl (TA t) _ (blk_all HX.out.t5) Try.underlying38 rfl (rta_inf t) ?_) | ((with_reducible refine stop_op (o := ⟨some 143, _, _, _, _, _⟩) ?_); refine Lib.hid ?_; refine wpList_load_cells_on (by rfl) 38 (.tmp 5) rfl ⟨w.heap.size + 1, 0, none⟩ rfl (TA t) _ (blk_all HX.out.t5) Try.underlying38 rfl (rta_inf t) ?_) | (go_at_call 26; ((with_reducible refine (rhas_any t _ _).mono ?_); rintro e wh ⟨rfl, bh⟩); have HX := Lib.hid (HX.out.below bh); clear bh; clear k0 k1 k2 k3 k4 k5 k6 k7 k8 k9 k10 k11 k12 k13 k14 k15 k16 k17; obtain ⟨k0, k1, k2, k3, k4, k5, k6, k7, k8, k9, k10, k11, k12, k13, k14, k15, k16, k17⟩ := HX.out.cells) | (go_at_call 27; ((with_reducible refine (rlessB _ _ _).mono ?_); rintro e wh ⟨rfl, bh⟩); have HX := Lib.hid (HX.out.below bh); clear bh; clear k0 k1 k2 k3 k4 k5 k6 k7 k8 k9 k10 k11 k12 k13 k14 k15 k16 k17; obtain ⟨k0, k1, k2, k3, k4, k5, k6, k7, k8, k9, k10, k11, k12, k13, k14, k15, k16, k17⟩ := HX.out.cells) | (go_at_call 28; ((with_reducible refine (rgrE _ _ _).mono ?_); rintro e wh ⟨G, rfl, bh⟩); have HX := Lib.hid (HX.out.below bh); clear bh; clear k0 k1 k2 k3 k4 k5 k6 k7 k8 k9 k10 k11 k12 k13 k14 k15 k16 k17; obtain ⟨k0, k1, k2, k3, k4, k5, k6, k7, k8, k9, k10, k11, k12, k13, k14, k15, k16, k17⟩ := HX.out.cells) | ((with_reducible refine stop_op (o := ⟨some 155, _, _, _, _, _⟩) ?_); refine Lib.hid ?_; refine wpList_load_cells rfl 35 (.tmp 3) rfl ⟨w.heap.size, 0, none⟩ rfl (CA (c)) _ (blk_all HX.out.c3) Try.underlying35 rfl (rca_inf _) ?_) | ((with_reducible refine stop_op (o := ⟨none, _, _, _, _, _⟩) ?_); refine Lib.hid ?_; refine wpList_store_row rfl 35 (.tmp 6) (.tmp 155) rfl (w.heap.size + 1 + 1) (CA (c)) rfl rfl 35 (CA zcn) (HX.out.r6) (rca_inf _) rfl (ca_one _) ?_))
    refine bodyPost_ret_by (res_row Try.results12 _ _ (w.heap.size + 1 + 1) 35 (CA (c)) _ rfl (blk_setRow HX.out.r6 _) Try.underlying35 (rca_inf _)) rfl ?_
    exact ⟨_, by rw [OK.out] <;> rfl, Below.setRow HX.out.bel (by omega) _⟩
  · rcases hak : (t.ak == y.e) with _ | _
    · have hac : acksP t y.e = false := by unfold acksP; rw [h16, hak]; rfl
      have OK : Hid (ok = false) := Lib.hid (by rw [HR.out, nextP_b, HXE.out, HYE.out, st_refNo H0.out h2 hxs (by rw [hac]; simp)] <;> rfl)
      clear hac
      go_wp2_with (first | ((with_reducible refine stop_op (o := ⟨some 140, _, _, _, _, _⟩) ?_); refine Lib.hid ?_; refine wpList_load_cells_on (by rfl) 38 (.tmp 5) rfl ⟨w.heap.size + 1, 0, none⟩ rfl (TA t) _ (blk_all HX.out.t5) Try.underlying38 rfl (rta_inf t) ?_) | ((with_reducible refine stop_op (o := ⟨some 143, _, _, _, _, _⟩) ?_); refine Lib.hid ?_; refine wpList_load_cells_on (by rfl) 38 (.tmp 5) rfl ⟨w.heap.size + 1, 0, none⟩ rfl (TA t) _ (blk_all HX.out.t5) Try.underlying38 rfl (rta_inf t) ?_) | (go_at_call 26; ((with_reducible refine (rhas_any t _ _).mono ?_); rintro e wh ⟨rfl, bh⟩); have HX := Lib.hid (HX.out.below bh); clear bh; clear k0 k1 k2 k3 k4 k5 k6 k7 k8 k9 k10 k11 k12 k13 k14 k15 k16 k17; obtain ⟨k0, k1, k2, k3, k4, k5, k6, k7, k8, k9, k10, k11, k12, k13, k14, k15, k16, k17⟩ := HX.out.cells) | (go_at_call 27; ((with_reducible refine (rlessB _ _ _).mono ?_); rintro e wh ⟨rfl, bh⟩); have HX := Lib.hid (HX.out.below bh); clear bh; clear k0 k1 k2 k3 k4 k5 k6 k7 k8 k9 k10 k11 k12 k13 k14 k15 k16 k17; obtain ⟨k0, k1, k2, k3, k4, k5, k6, k7, k8, k9, k10, k11, k12, k13, k14, k15, k16, k17⟩ := HX.out.cells) | (go_at_call 28; ((with_reducible refine (rgrE _ _ _).mono ?_); rintro e wh ⟨G, rfl, bh⟩); have HX := Lib.hid (HX.out.below bh); clear bh; clear k0 k1 k2 k3 k4 k5 k6 k7 k8 k9 k10 k11 k12 k13 k14 k15 k16 k17; obtain ⟨k0, k1, k2, k3, k4, k5, k6, k7, k8, k9, k10, k11, k12, k13, k14, k15, k16, k17⟩ := HX.out.cells) | ((with_reducible refine stop_op (o := ⟨some 155, _, _, _, _, _⟩) ?_); refine Lib.hid ?_; refine wpList_load_cells rfl 35 (.tmp 3) rfl ⟨w.heap.size, 0, none⟩ rfl (CA (c)) _ (blk_all HX.out.c3) Try.underlying35 rfl (rca_inf _) ?_) | ((with_reducible refine stop_op (o := ⟨none, _, _, _, _, _⟩) ?_); refine Lib.hid ?_; refine wpList_store_row rfl 35 (.tmp 6) (.tmp 155) rfl (w.heap.size + 1 + 1) (CA (c)) rfl rfl 35 (CA zcn) (HX.out.r6) (rca_inf _) rfl (ca_one _) ?_))
      refine bodyPost_ret_by (res_row Try.results12 _ _ (w.heap.size + 1 + 1) 35 (CA (c)) _ rfl (blk_setRow HX.out.r6 _) Try.underlying35 (rca_inf _)) rfl ?_
      exact ⟨_, by rw [OK.out] <;> rfl, Below.setRow HX.out.bel (by omega) _⟩
    · have hac : acksP t y.e = true := by unfold acksP; rw [h16, hak]; rfl
      have OK : Hid (ok = true) := Lib.hid (by rw [HR.out, nextP_b, HXE.out, HYE.out, st_ref H0.out h2 hxs (by rw [h4, hac]; rfl)] <;> rfl)
      clear hac
      go_upto_region 25 with (first | ((with_reducible refine stop_op (o := ⟨some 140, _, _, _, _, _⟩) ?_); refine Lib.hid ?_; refine wpList_load_cells_on (by rfl) 38 (.tmp 5) rfl ⟨w.heap.size + 1, 0, none⟩ rfl (TA t) _ (blk_all HX.out.t5) Try.underlying38 rfl (rta_inf t) ?_) | ((with_reducible refine stop_op (o := ⟨some 143, _, _, _, _, _⟩) ?_); refine Lib.hid ?_; refine wpList_load_cells_on (by rfl) 38 (.tmp 5) rfl ⟨w.heap.size + 1, 0, none⟩ rfl (TA t) _ (blk_all HX.out.t5) Try.underlying38 rfl (rta_inf t) ?_) | (go_at_call 26; ((with_reducible refine (rhas_any t _ _).mono ?_); rintro e wh ⟨rfl, bh⟩); have HX := Lib.hid (HX.out.below bh); clear bh; clear k0 k1 k2 k3 k4 k5 k6 k7 k8 k9 k10 k11 k12 k13 k14 k15 k16 k17; obtain ⟨k0, k1, k2, k3, k4, k5, k6, k7, k8, k9, k10, k11, k12, k13, k14, k15, k16, k17⟩ := HX.out.cells) | (go_at_call 27; ((with_reducible refine (rlessB _ _ _).mono ?_); rintro e wh ⟨rfl, bh⟩); have HX := Lib.hid (HX.out.below bh); clear bh; clear k0 k1 k2 k3 k4 k5 k6 k7 k8 k9 k10 k11 k12 k13 k14 k15 k16 k17; obtain ⟨k0, k1, k2, k3, k4, k5, k6, k7, k8, k9, k10, k11, k12, k13, k14, k15, k16, k17⟩ := HX.out.cells) | (go_at_call 28; ((with_reducible refine (rgrE _ _ _).mono ?_); rintro e wh ⟨G, rfl, bh⟩); have HX := Lib.hid (HX.out.below bh); clear bh; clear k0 k1 k2 k3 k4 k5 k6 k7 k8 k9 k10 k11 k12 k13 k14 k15 k16 k17; obtain ⟨k0, k1, k2, k3, k4, k5, k6, k7, k8, k9, k10, k11, k12, k13, k14, k15, k16, k17⟩ := HX.out.cells))
      have HX := Lib.hid (HX.out.setc (c' := ⟨5, c.a, c.b⟩) ((Off.refl w.heap.size wh).set 0 _) (heap_set HX.out.c3 0 _))
      clear k0 k1 k2 k3 k4 k5 k6 k7 k8 k9 k10 k11 k12 k13 k14 k15 k16 k17
      obtain ⟨wh, hwh⟩ : ∃ q, q = wh.setCell ⟨w.heap.size, 0, none⟩ (.int .i64 5) := ⟨_, rfl⟩
      rw [← hwh] at HX ⊢
      clear hwh
      go_wp2_with (first | fail | (go_at_call 26; ((with_reducible refine (rhas_any t _ _).mono ?_); rintro e wh ⟨rfl, bh⟩); have HX := Lib.hid (HX.out.below bh); clear bh; clear k0 k1 k2 k3 k4 k5 k6 k7 k8 k9 k10 k11 k12 k13 k14 k15 k16 k17; obtain ⟨k0, k1, k2, k3, k4, k5, k6, k7, k8, k9, k10, k11, k12, k13, k14, k15, k16, k17⟩ := HX.out.cells) | (go_at_call 27; ((with_reducible refine (rlessB _ _ _).mono ?_); rintro e wh ⟨rfl, bh⟩); have HX := Lib.hid (HX.out.below bh); clear bh; clear k0 k1 k2 k3 k4 k5 k6 k7 k8 k9 k10 k11 k12 k13 k14 k15 k16 k17; obtain ⟨k0, k1, k2, k3, k4, k5, k6, k7, k8, k9, k10, k11, k12, k13, k14, k15, k16, k17⟩ := HX.out.cells) | (go_at_call 28; ((with_reducible refine (rgrE _ _ _).mono ?_); rintro e wh ⟨G, rfl, bh⟩); have HX := Lib.hid (HX.out.below bh); clear bh; clear k0 k1 k2 k3 k4 k5 k6 k7 k8 k9 k10 k11 k12 k13 k14 k15 k16 k17; obtain ⟨k0, k1, k2, k3, k4, k5, k6, k7, k8, k9, k10, k11, k12, k13, k14, k15, k16, k17⟩ := HX.out.cells) | ((with_reducible refine stop_op (o := ⟨some 154, _, _, _, _, _⟩) ?_); refine Lib.hid ?_; refine wpList_load_cells rfl 35 (.tmp 3) rfl ⟨w.heap.size, 0, none⟩ rfl (CA (⟨5, c.a, c.b⟩)) _ (blk_all HX.out.c3) Try.underlying35 rfl (rca_inf _) ?_) | ((with_reducible refine stop_op (o := ⟨none, _, _, _, _, _⟩) ?_); refine Lib.hid ?_; refine wpList_store_row rfl 35 (.tmp 6) (.tmp 154) rfl (w.heap.size + 1 + 1) (CA (⟨5, c.a, c.b⟩)) rfl rfl 35 (CA zcn) (HX.out.r6) (rca_inf _) rfl (ca_one _) ?_))
      refine bodyPost_ret_by (res_row Try.results12 _ _ (w.heap.size + 1 + 1) 35 (CA (⟨5, c.a, c.b⟩)) _ rfl (blk_setRow HX.out.r6 _) Try.underlying35 (rca_inf _)) rfl ?_
      exact ⟨_, by rw [OK.out] <;> rfl, Below.setRow HX.out.bel (by omega) _⟩

set_option maxRecDepth 100000 in
set_option maxHeartbeats 16000000 in
theorem rn_reftt_b (c : CN) (t : TR) (w : World) (hs1 : decide (c.st < 1) = false) (hs5 : decide (4 < c.st) = false) (h16 : hb t 16 = true) (hys : c.a.seen = true) (hl : lessP c.a.e t.ak = false) (hst : strayP t c.a = false) (h2 : hb t 2 = false) (h4 : True) (hxs : c.b.seen = false) (hl1 : True) (hl2 : True) : Calls Try.prog 12 #[.agg (CA c), .bool true, .agg (TA t)] w (ROK w (nextP c true t).2) := by
  clear h4 hl1 hl2
  obtain ⟨x, hxe⟩ : ∃ x, c.b = x := ⟨_, rfl⟩
  obtain ⟨y, hye⟩ : ∃ y, c.a = y := ⟨_, rfl⟩
  rw [hxe] at hxs
  rw [hye] at hys hl hst
  obtain ⟨W, hW⟩ : ∃ W, W = ((((w.alloc (.cells (CA c) 35)).alloc (.cells (TA t) 38)).alloc (.cells #[.int .i64 0, .bool false, .int .u32 0, .int .u32 0, .bool false, .bool false, .int .u32 0, .int .u32 0, .bool false] 35)).alloc (.cells (SA c.b) 33)).alloc (.cells (SA c.a) 33) := ⟨_, rfl⟩
  have HX : Hid (NR w W c x y t) := Lib.hid (by
    rw [hW, ← hxe, ← hye]
    exact ⟨blk_al (blk_al (blk_al (blk_al (blk_new w _)))), blk_al (blk_al (blk_al (blk_new2 _ _ (by simp)))), blk_al (blk_al (blk_new2 _ _ (by simp))), blk_al (blk_new2 _ _ (by simp)), blk_new2 _ _ (by simp), Below.al (Below.al (Below.al (Below.al (bel_al _ _) (by simp) _) (by simp; omega) _) (by simp; omega) _) (by simp; omega) _⟩)
  have HXE := Lib.hid hxe
  have HYE := Lib.hid hye
  clear hxe hye
  obtain ⟨ok, hok⟩ : ∃ o, o = (nextP c true t).2 := ⟨_, rfl⟩
  rw [← hok]
  have HR := Lib.hid hok
  clear hok
  have hs50 : decide (5 ≤ c.st) = false := by first | (simp at hs5 ⊢; omega)
  simp only [CA, SA, TA] at hW
  simp only [CA, TA]
  go_enter Try.func12, Try.ntmps12
  go_upto_region 6 with fail
  rw [← hW]
  clear hW
  generalize Value.agg #[Value.int IntKind.i64 c.st, Value.bool c.a.seen, Value.int IntKind.u32 c.a.e, Value.int IntKind.u32 c.a.m, Value.bool c.a.fin, Value.bool c.b.seen, Value.int IntKind.u32 c.b.e, Value.int IntKind.u32 c.b.m, Value.bool c.b.fin] = cv
  generalize Value.agg #[Value.int IntKind.i64 t.sp, Value.int IntKind.i64 t.dp, Value.int IntKind.u32 t.sq, Value.int IntKind.u32 t.ak, Value.int IntKind.i64 t.fl, Value.int IntKind.i64 t.wi, Value.int IntKind.i64 t.ty, Value.int IntKind.i64 t.co, Value.int IntKind.i64 t.he, Value.int IntKind.i64 t.da] = tv
  try generalize Value.agg #[Value.bool c.a.seen, Value.int IntKind.u32 c.a.e, Value.int IntKind.u32 c.a.m, Value.bool c.a.fin] = av
  try generalize Value.agg #[Value.bool c.b.seen, Value.int IntKind.u32 c.b.e, Value.int IntKind.u32 c.b.m, Value.bool c.b.fin] = bv
  obtain ⟨k0, k1, k2, k3, k4, k5, k6, k7, k8, k9, k10, k11, k12, k13, k14, k15, k16, k17⟩ := HX.out.cells
  have H0 : Hid ((decide (c.st < 1) || decide (5 ≤ c.st) || strayP t y) = false) := Lib.hid (by rw [hs1, hs50, hst]; rfl)
  clear hst
  rw [hys] at k10
  go_upto_region 10 with (first | ((with_reducible refine stop_op (o := ⟨some 32, _, _, _, _, _⟩) ?_); refine Lib.hid ?_; refine wpList_load_cells_on (by rfl) 38 (.tmp 5) rfl ⟨w.heap.size + 1, 0, none⟩ rfl (TA t) _ (blk_all HX.out.t5) Try.underlying38 rfl (rta_inf t) ?_) | ((with_reducible refine stop_op (o := ⟨some 43, _, _, _, _, _⟩) ?_); refine Lib.hid ?_; refine wpList_load_cells_on (by rfl) 38 (.tmp 5) rfl ⟨w.heap.size + 1, 0, none⟩ rfl (TA t) _ (blk_all HX.out.t5) Try.underlying38 rfl (rta_inf t) ?_) | ((with_reducible refine stop_op (o := ⟨some 47, _, _, _, _, _⟩) ?_); refine Lib.hid ?_; refine wpList_load_cells_on (by rfl) 38 (.tmp 5) rfl ⟨w.heap.size + 1, 0, none⟩ rfl (TA t) _ (blk_all HX.out.t5) Try.underlying38 rfl (rta_inf t) ?_) | ((with_reducible refine stop_op (o := ⟨some 52, _, _, _, _, _⟩) ?_); refine Lib.hid ?_; refine wpList_load_cells_on (by rfl) 38 (.tmp 5) rfl ⟨w.heap.size + 1, 0, none⟩ rfl (TA t) _ (blk_all HX.out.t5) Try.underlying38 rfl (rta_inf t) ?_) | (go_at_call 26; ((with_reducible refine (rhas_any t _ _).mono ?_); rintro e wh ⟨rfl, bh⟩); have HX := Lib.hid (HX.out.below bh); clear bh; clear k0 k1 k2 k3 k4 k5 k6 k7 k8 k9 k10 k11 k12 k13 k14 k15 k16 k17; obtain ⟨k0, k1, k2, k3, k4, k5, k6, k7, k8, k9, k10, k11, k12, k13, k14, k15, k16, k17⟩ := HX.out.cells) | (go_at_call 27; ((with_reducible refine (rlessB _ _ _).mono ?_); rintro e wh ⟨rfl, bh⟩); have HX := Lib.hid (HX.out.below bh); clear bh; clear k0 k1 k2 k3 k4 k5 k6 k7 k8 k9 k10 k11 k12 k13 k14 k15 k16 k17; obtain ⟨k0, k1, k2, k3, k4, k5, k6, k7, k8, k9, k10, k11, k12, k13, k14, k15, k16, k17⟩ := HX.out.cells) | (go_at_call 28; ((with_reducible refine (rgrE _ _ _).mono ?_); rintro e wh ⟨G, rfl, bh⟩); have HX := Lib.hid (HX.out.below bh); clear bh; clear k0 k1 k2 k3 k4 k5 k6 k7 k8 k9 k10 k11 k12 k13 k14 k15 k16 k17; obtain ⟨k0, k1, k2, k3, k4, k5, k6, k7, k8, k9, k10, k11, k12, k13, k14, k15, k16, k17⟩ := HX.out.cells))
  clear hs5
  have HB2 := Lib.hid h2
  rw [hxs] at k6
  go_upto_region 22 with (first | ((with_reducible refine stop_op (o := ⟨some 60, _, _, _, _, _⟩) ?_); refine Lib.hid ?_; refine wpList_load_cells_on (by rfl) 38 (.tmp 5) rfl ⟨w.heap.size + 1, 0, none⟩ rfl (TA t) _ (blk_all HX.out.t5) Try.underlying38 rfl (rta_inf t) ?_) | (go_at_call 26; ((with_reducible refine (rhas_any t _ _).mono ?_); rintro e wh ⟨rfl, bh⟩); have HX := Lib.hid (HX.out.below bh); clear bh; clear k0 k1 k2 k3 k4 k5 k6 k7 k8 k9 k10 k11 k12 k13 k14 k15 k16 k17; obtain ⟨k0, k1, k2, k3, k4, k5, k6, k7, k8, k9, k10, k11, k12, k13, k14, k15, k16, k17⟩ := HX.out.cells) | (go_at_call 27; ((with_reducible refine (rlessB _ _ _).mono ?_); rintro e wh ⟨rfl, bh⟩); have HX := Lib.hid (HX.out.below bh); clear bh; clear k0 k1 k2 k3 k4 k5 k6 k7 k8 k9 k10 k11 k12 k13 k14 k15 k16 k17; obtain ⟨k0, k1, k2, k3, k4, k5, k6, k7, k8, k9, k10, k11, k12, k13, k14, k15, k16, k17⟩ := HX.out.cells) | (go_at_call 28; ((with_reducible refine (rgrE _ _ _).mono ?_); rintro e wh ⟨G, rfl, bh⟩); have HX := Lib.hid (HX.out.below bh); clear bh; clear k0 k1 k2 k3 k4 k5 k6 k7 k8 k9 k10 k11 k12 k13 k14 k15 k16 k17; obtain ⟨k0, k1, k2, k3, k4, k5, k6, k7, k8, k9, k10, k11, k12, k13, k14, k15, k16, k17⟩ := HX.out.cells))
  rcases h4 : hb t 4 with _ | _
  · have OK : Hid (ok = false) := Lib.hid (by rw [HR.out, nextP_b, HXE.out, HYE.out, st_refNo H0.out h2 hxs (by rw [h4]; rfl)] <;> rfl)
    go_wp2_with (first | ((with_reducible refine stop_op (o := ⟨some 140, _, _, _, _, _⟩) ?_); refine Lib.hid ?_; refine wpList_load_cells_on (by rfl) 38 (.tmp 5) rfl ⟨w.heap.size + 1, 0, none⟩ rfl (TA t) _ (blk_all HX.out.t5) Try.underlying38 rfl (rta_inf t) ?_) | ((with_reducible refine stop_op (o := ⟨some 143, _, _, _, _, _⟩) ?_); refine Lib.hid ?_; refine wpList_load_cells_on (by rfl) 38 (.tmp 5) rfl ⟨w.heap.size + 1, 0, none⟩ rfl (TA t) _ (blk_all HX.out.t5) Try.underlying38 rfl (rta_inf t) ?_) | (go_at_call 26; ((with_reducible refine (rhas_any t _ _).mono ?_); rintro e wh ⟨rfl, bh⟩); have HX := Lib.hid (HX.out.below bh); clear bh; clear k0 k1 k2 k3 k4 k5 k6 k7 k8 k9 k10 k11 k12 k13 k14 k15 k16 k17; obtain ⟨k0, k1, k2, k3, k4, k5, k6, k7, k8, k9, k10, k11, k12, k13, k14, k15, k16, k17⟩ := HX.out.cells) | (go_at_call 27; ((with_reducible refine (rlessB _ _ _).mono ?_); rintro e wh ⟨rfl, bh⟩); have HX := Lib.hid (HX.out.below bh); clear bh; clear k0 k1 k2 k3 k4 k5 k6 k7 k8 k9 k10 k11 k12 k13 k14 k15 k16 k17; obtain ⟨k0, k1, k2, k3, k4, k5, k6, k7, k8, k9, k10, k11, k12, k13, k14, k15, k16, k17⟩ := HX.out.cells) | (go_at_call 28; ((with_reducible refine (rgrE _ _ _).mono ?_); rintro e wh ⟨G, rfl, bh⟩); have HX := Lib.hid (HX.out.below bh); clear bh; clear k0 k1 k2 k3 k4 k5 k6 k7 k8 k9 k10 k11 k12 k13 k14 k15 k16 k17; obtain ⟨k0, k1, k2, k3, k4, k5, k6, k7, k8, k9, k10, k11, k12, k13, k14, k15, k16, k17⟩ := HX.out.cells) | ((with_reducible refine stop_op (o := ⟨some 155, _, _, _, _, _⟩) ?_); refine Lib.hid ?_; refine wpList_load_cells rfl 35 (.tmp 3) rfl ⟨w.heap.size, 0, none⟩ rfl (CA (c)) _ (blk_all HX.out.c3) Try.underlying35 rfl (rca_inf _) ?_) | ((with_reducible refine stop_op (o := ⟨none, _, _, _, _, _⟩) ?_); refine Lib.hid ?_; refine wpList_store_row rfl 35 (.tmp 6) (.tmp 155) rfl (w.heap.size + 1 + 1) (CA (c)) rfl rfl 35 (CA zcn) (HX.out.r6) (rca_inf _) rfl (ca_one _) ?_))
    refine bodyPost_ret_by (res_row Try.results12 _ _ (w.heap.size + 1 + 1) 35 (CA (c)) _ rfl (blk_setRow HX.out.r6 _) Try.underlying35 (rca_inf _)) rfl ?_
    exact ⟨_, by rw [OK.out] <;> rfl, Below.setRow HX.out.bel (by omega) _⟩
  · rcases hak : (t.ak == y.e) with _ | _
    · have hac : acksP t y.e = false := by unfold acksP; rw [h16, hak]; rfl
      have OK : Hid (ok = false) := Lib.hid (by rw [HR.out, nextP_b, HXE.out, HYE.out, st_refNo H0.out h2 hxs (by rw [hac]; simp)] <;> rfl)
      clear hac
      go_wp2_with (first | ((with_reducible refine stop_op (o := ⟨some 140, _, _, _, _, _⟩) ?_); refine Lib.hid ?_; refine wpList_load_cells_on (by rfl) 38 (.tmp 5) rfl ⟨w.heap.size + 1, 0, none⟩ rfl (TA t) _ (blk_all HX.out.t5) Try.underlying38 rfl (rta_inf t) ?_) | ((with_reducible refine stop_op (o := ⟨some 143, _, _, _, _, _⟩) ?_); refine Lib.hid ?_; refine wpList_load_cells_on (by rfl) 38 (.tmp 5) rfl ⟨w.heap.size + 1, 0, none⟩ rfl (TA t) _ (blk_all HX.out.t5) Try.underlying38 rfl (rta_inf t) ?_) | (go_at_call 26; ((with_reducible refine (rhas_any t _ _).mono ?_); rintro e wh ⟨rfl, bh⟩); have HX := Lib.hid (HX.out.below bh); clear bh; clear k0 k1 k2 k3 k4 k5 k6 k7 k8 k9 k10 k11 k12 k13 k14 k15 k16 k17; obtain ⟨k0, k1, k2, k3, k4, k5, k6, k7, k8, k9, k10, k11, k12, k13, k14, k15, k16, k17⟩ := HX.out.cells) | (go_at_call 27; ((with_reducible refine (rlessB _ _ _).mono ?_); rintro e wh ⟨rfl, bh⟩); have HX := Lib.hid (HX.out.below bh); clear bh; clear k0 k1 k2 k3 k4 k5 k6 k7 k8 k9 k10 k11 k12 k13 k14 k15 k16 k17; obtain ⟨k0, k1, k2, k3, k4, k5, k6, k7, k8, k9, k10, k11, k12, k13, k14, k15, k16, k17⟩ := HX.out.cells) | (go_at_call 28; ((with_reducible refine (rgrE _ _ _).mono ?_); rintro e wh ⟨G, rfl, bh⟩); have HX := Lib.hid (HX.out.below bh); clear bh; clear k0 k1 k2 k3 k4 k5 k6 k7 k8 k9 k10 k11 k12 k13 k14 k15 k16 k17; obtain ⟨k0, k1, k2, k3, k4, k5, k6, k7, k8, k9, k10, k11, k12, k13, k14, k15, k16, k17⟩ := HX.out.cells) | ((with_reducible refine stop_op (o := ⟨some 155, _, _, _, _, _⟩) ?_); refine Lib.hid ?_; refine wpList_load_cells rfl 35 (.tmp 3) rfl ⟨w.heap.size, 0, none⟩ rfl (CA (c)) _ (blk_all HX.out.c3) Try.underlying35 rfl (rca_inf _) ?_) | ((with_reducible refine stop_op (o := ⟨none, _, _, _, _, _⟩) ?_); refine Lib.hid ?_; refine wpList_store_row rfl 35 (.tmp 6) (.tmp 155) rfl (w.heap.size + 1 + 1) (CA (c)) rfl rfl 35 (CA zcn) (HX.out.r6) (rca_inf _) rfl (ca_one _) ?_))
      refine bodyPost_ret_by (res_row Try.results12 _ _ (w.heap.size + 1 + 1) 35 (CA (c)) _ rfl (blk_setRow HX.out.r6 _) Try.underlying35 (rca_inf _)) rfl ?_
      exact ⟨_, by rw [OK.out] <;> rfl, Below.setRow HX.out.bel (by omega) _⟩
    · have hac : acksP t y.e = true := by unfold acksP; rw [h16, hak]; rfl
      have OK : Hid (ok = true) := Lib.hid (by rw [HR.out, nextP_b, HXE.out, HYE.out, st_ref H0.out h2 hxs (by rw [h4, hac]; rfl)] <;> rfl)
      clear hac
      go_upto_region 25 with (first | ((with_reducible refine stop_op (o := ⟨some 140, _, _, _, _, _⟩) ?_); refine Lib.hid ?_; refine wpList_load_cells_on (by rfl) 38 (.tmp 5) rfl ⟨w.heap.size + 1, 0, none⟩ rfl (TA t) _ (blk_all HX.out.t5) Try.underlying38 rfl (rta_inf t) ?_) | ((with_reducible refine stop_op (o := ⟨some 143, _, _, _, _, _⟩) ?_); refine Lib.hid ?_; refine wpList_load_cells_on (by rfl) 38 (.tmp 5) rfl ⟨w.heap.size + 1, 0, none⟩ rfl (TA t) _ (blk_all HX.out.t5) Try.underlying38 rfl (rta_inf t) ?_) | (go_at_call 26; ((with_reducible refine (rhas_any t _ _).mono ?_); rintro e wh ⟨rfl, bh⟩); have HX := Lib.hid (HX.out.below bh); clear bh; clear k0 k1 k2 k3 k4 k5 k6 k7 k8 k9 k10 k11 k12 k13 k14 k15 k16 k17; obtain ⟨k0, k1, k2, k3, k4, k5, k6, k7, k8, k9, k10, k11, k12, k13, k14, k15, k16, k17⟩ := HX.out.cells) | (go_at_call 27; ((with_reducible refine (rlessB _ _ _).mono ?_); rintro e wh ⟨rfl, bh⟩); have HX := Lib.hid (HX.out.below bh); clear bh; clear k0 k1 k2 k3 k4 k5 k6 k7 k8 k9 k10 k11 k12 k13 k14 k15 k16 k17; obtain ⟨k0, k1, k2, k3, k4, k5, k6, k7, k8, k9, k10, k11, k12, k13, k14, k15, k16, k17⟩ := HX.out.cells) | (go_at_call 28; ((with_reducible refine (rgrE _ _ _).mono ?_); rintro e wh ⟨G, rfl, bh⟩); have HX := Lib.hid (HX.out.below bh); clear bh; clear k0 k1 k2 k3 k4 k5 k6 k7 k8 k9 k10 k11 k12 k13 k14 k15 k16 k17; obtain ⟨k0, k1, k2, k3, k4, k5, k6, k7, k8, k9, k10, k11, k12, k13, k14, k15, k16, k17⟩ := HX.out.cells))
      have HX := Lib.hid (HX.out.setc (c' := ⟨5, c.a, c.b⟩) ((Off.refl w.heap.size wh).set 0 _) (heap_set HX.out.c3 0 _))
      clear k0 k1 k2 k3 k4 k5 k6 k7 k8 k9 k10 k11 k12 k13 k14 k15 k16 k17
      obtain ⟨wh, hwh⟩ : ∃ q, q = wh.setCell ⟨w.heap.size, 0, none⟩ (.int .i64 5) := ⟨_, rfl⟩
      rw [← hwh] at HX ⊢
      clear hwh
      go_wp2_with (first | fail | (go_at_call 26; ((with_reducible refine (rhas_any t _ _).mono ?_); rintro e wh ⟨rfl, bh⟩); have HX := Lib.hid (HX.out.below bh); clear bh; clear k0 k1 k2 k3 k4 k5 k6 k7 k8 k9 k10 k11 k12 k13 k14 k15 k16 k17; obtain ⟨k0, k1, k2, k3, k4, k5, k6, k7, k8, k9, k10, k11, k12, k13, k14, k15, k16, k17⟩ := HX.out.cells) | (go_at_call 27; ((with_reducible refine (rlessB _ _ _).mono ?_); rintro e wh ⟨rfl, bh⟩); have HX := Lib.hid (HX.out.below bh); clear bh; clear k0 k1 k2 k3 k4 k5 k6 k7 k8 k9 k10 k11 k12 k13 k14 k15 k16 k17; obtain ⟨k0, k1, k2, k3, k4, k5, k6, k7, k8, k9, k10, k11, k12, k13, k14, k15, k16, k17⟩ := HX.out.cells) | (go_at_call 28; ((with_reducible refine (rgrE _ _ _).mono ?_); rintro e wh ⟨G, rfl, bh⟩); have HX := Lib.hid (HX.out.below bh); clear bh; clear k0 k1 k2 k3 k4 k5 k6 k7 k8 k9 k10 k11 k12 k13 k14 k15 k16 k17; obtain ⟨k0, k1, k2, k3, k4, k5, k6, k7, k8, k9, k10, k11, k12, k13, k14, k15, k16, k17⟩ := HX.out.cells) | ((with_reducible refine stop_op (o := ⟨some 154, _, _, _, _, _⟩) ?_); refine Lib.hid ?_; refine wpList_load_cells rfl 35 (.tmp 3) rfl ⟨w.heap.size, 0, none⟩ rfl (CA (⟨5, c.a, c.b⟩)) _ (blk_all HX.out.c3) Try.underlying35 rfl (rca_inf _) ?_) | ((with_reducible refine stop_op (o := ⟨none, _, _, _, _, _⟩) ?_); refine Lib.hid ?_; refine wpList_store_row rfl 35 (.tmp 6) (.tmp 154) rfl (w.heap.size + 1 + 1) (CA (⟨5, c.a, c.b⟩)) rfl rfl 35 (CA zcn) (HX.out.r6) (rca_inf _) rfl (ca_one _) ?_))
      refine bodyPost_ret_by (res_row Try.results12 _ _ (w.heap.size + 1 + 1) 35 (CA (⟨5, c.a, c.b⟩)) _ rfl (blk_setRow HX.out.r6 _) Try.underlying35 (rca_inf _)) rfl ?_
      exact ⟨_, by rw [OK.out] <;> rfl, Below.setRow HX.out.bel (by omega) _⟩

end Go.Proofs.Ytdgodndaaenafab
