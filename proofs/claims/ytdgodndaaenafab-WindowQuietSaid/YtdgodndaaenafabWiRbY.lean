/- The document's Next: some of its ways; by-name template (gen_wi2.py). -/
import Derived.Test.YtdgodndaaenafabWiRb
namespace Go.Proofs.Ytdgodndaaenafab
open Go.RowKit Go.Lib Go.Sort
set_option linter.unusedVariables false
set_option linter.unusedSimpArgs false

set_option maxRecDepth 100000 in
set_option maxHeartbeats 16000000 in
theorem rn_synff_b (c : CN) (t : TR) (w : World) (hs1 : decide (c.st < 1) = false) (hs5 : decide (4 < c.st) = false) (h16 : hb t 16 = false) (hys : c.a.seen = false) (hl : True) (hst : strayP t c.a = false) (h2 : hb t 2 = true) (h4 : True) (hxs : True) (hl1 : True) (hl2 : True) : Calls Try.prog 12 #[.agg (CA c), .bool true, .agg (TA t)] w (ROK w (nextP c true t).2) := by
  clear hl h4 hxs hl1 hl2
  obtain ⟨x, hxe⟩ : ∃ x, c.b = x := ⟨_, rfl⟩
  obtain ⟨y, hye⟩ : ∃ y, c.a = y := ⟨_, rfl⟩
  rw [hye] at hys hst
  obtain ⟨W, hW⟩ : ∃ W, W = ((((w.alloc (.cells (CA c) 35)).alloc (.cells (TA t) 38)).alloc (.cells #[.int .i64 0, .bool false, .int .u32 0, .int .u32 0, .bool false, .bool false, .int .u32 0, .int .u32 0, .bool false] 35)).alloc (.cells (SA c.b) 33)).alloc (.cells (SA c.a) 33) := ⟨_, rfl⟩
  have HX : Hid (NR w W c x y t) := Lib.hid (by
    rw [hW, ← hxe, ← hye]
    exact ⟨blk_al (blk_al (blk_al (blk_al (blk_new w _)))), blk_al (blk_al (blk_al (blk_new2 _ _ (by simp)))), blk_al (blk_al (blk_new2 _ _ (by simp))), blk_al (blk_new2 _ _ (by simp)), blk_new2 _ _ (by simp), Below.al (Below.al (Below.al (Below.al (bel_al _ _) (by simp) _) (by simp; omega) _) (by simp; omega) _) (by simp; omega) _⟩)
  have HXE := Lib.hid hxe
  have HYE := Lib.hid hye
  clear hxe hye
  obtain ⟨ok, hok⟩ : ∃ o, o = (nextP c true t).2 := ⟨_, rfl⟩
  rw [← hok]
  have HR := Lib.hid hok
  clear hok
  have hs50 : decide (5 ≤ c.st) = false := by first | (simp at hs5 ⊢; omega)
  simp only [CA, SA, TA] at hW
  simp only [CA, TA]
  go_enter Try.func12, Try.ntmps12
  go_upto_region 6 with fail
  rw [← hW]
  clear hW
  generalize Value.agg #[Value.int IntKind.i64 c.st, Value.bool c.a.seen, Value.int IntKind.u32 c.a.e, Value.int IntKind.u32 c.a.m, Value.bool c.a.fin, Value.bool c.b.seen, Value.int IntKind.u32 c.b.e, Value.int IntKind.u32 c.b.m, Value.bool c.b.fin] = cv
  generalize Value.agg #[Value.int IntKind.i64 t.sp, Value.int IntKind.i64 t.dp, Value.int IntKind.u32 t.sq, Value.int IntKind.u32 t.ak, Value.int IntKind.i64 t.fl, Value.int IntKind.i64 t.wi, Value.int IntKind.i64 t.ty, Value.int IntKind.i64 t.co, Value.int IntKind.i64 t.he, Value.int IntKind.i64 t.da] = tv
  try generalize Value.agg #[Value.bool c.a.seen, Value.int IntKind.u32 c.a.e, Value.int IntKind.u32 c.a.m, Value.bool c.a.fin] = av
  try generalize Value.agg #[Value.bool c.b.seen, Value.int IntKind.u32 c.b.e, Value.int IntKind.u32 c.b.m, Value.bool c.b.fin] = bv
  obtain ⟨k0, k1, k2, k3, k4, k5, k6, k7, k8, k9, k10, k11, k12, k13, k14, k15, k16, k17⟩ := HX.out.cells
  have H0 : Hid ((decide (c.st < 1) || decide (5 ≤ c.st) || strayP t y) = false) := Lib.hid (by rw [hs1, hs50, hst]; rfl)
  clear hst
  rw [hys] at k10
  go_upto_region 10 with (first | ((with_reducible refine stop_op (o := ⟨some 32, _, _, _, _, _⟩) ?_); refine Lib.hid ?_; refine wpList_load_cells_on (by rfl) 38 (.tmp 5) rfl ⟨w.heap.size + 1, 0, none⟩ rfl (TA t) _ (blk_all HX.out.t5) Try.underlying38 rfl (rta_inf t) ?_) | ((with_reducible refine stop_op (o := ⟨some 43, _, _, _, _, _⟩) ?_); refine Lib.hid ?_; refine wpList_load_cells_on (by rfl) 38 (.tmp 5) rfl ⟨w.heap.size + 1, 0, none⟩ rfl (TA t) _ (blk_all HX.out.t5) Try.underlying38 rfl (rta_inf t) ?_) | ((with_reducible refine stop_op (o := ⟨some 47, _, _, _, _, _⟩) ?_); refine Lib.hid ?_; refine wpList_load_cells_on (by rfl) 38 (.tmp 5) rfl ⟨w.heap.size + 1, 0, none⟩ rfl (TA t) _ (blk_all HX.out.t5) Try.underlying38 rfl (rta_inf t) ?_) | ((with_reducible refine stop_op (o := ⟨some 52, _, _, _, _, _⟩) ?_); refine Lib.hid ?_; refine wpList_load_cells_on (by rfl) 38 (.tmp 5) rfl ⟨w.heap.size + 1, 0, none⟩ rfl (TA t) _ (blk_all HX.out.t5) Try.underlying38 rfl (rta_inf t) ?_) | (go_at_call 26; ((with_reducible refine (rhas_any t _ _).mono ?_); rintro e wh ⟨rfl, bh⟩); have HX := Lib.hid (HX.out.below bh); clear bh; clear k0 k1 k2 k3 k4 k5 k6 k7 k8 k9 k10 k11 k12 k13 k14 k15 k16 k17; obtain ⟨k0, k1, k2, k3, k4, k5, k6, k7, k8, k9, k10, k11, k12, k13, k14, k15, k16, k17⟩ := HX.out.cells) | (go_at_call 27; ((with_reducible refine (rlessB _ _ _).mono ?_); rintro e wh ⟨rfl, bh⟩); have HX := Lib.hid (HX.out.below bh); clear bh; clear k0 k1 k2 k3 k4 k5 k6 k7 k8 k9 k10 k11 k12 k13 k14 k15 k16 k17; obtain ⟨k0, k1, k2, k3, k4, k5, k6, k7, k8, k9, k10, k11, k12, k13, k14, k15, k16, k17⟩ := HX.out.cells) | (go_at_call 28; ((with_reducible refine (rgrE _ _ _).mono ?_); rintro e wh ⟨G, rfl, bh⟩); have HX := Lib.hid (HX.out.below bh); clear bh; clear k0 k1 k2 k3 k4 k5 k6 k7 k8 k9 k10 k11 k12 k13 k14 k15 k16 k17; obtain ⟨k0, k1, k2, k3, k4, k5, k6, k7, k8, k9, k10, k11, k12, k13, k14, k15, k16, k17⟩ := HX.out.cells))
  clear hs5
  have HB2 := Lib.hid h2
  rcases hba : bareP t with _ | _
  · cases hxs : x.seen
    · have OK : Hid (ok = false) := Lib.hid (by rw [HR.out, nextP_b, HXE.out, HYE.out, st_synNo H0.out HB2.out hxs (by rw [hba]; rfl)] <;> rfl)
      unfold bareP at hba
      rw [hb5] at hba
      rcases h1 : hb t 1 with _ | _
      · rcases h4' : hb t 4 with _ | _
        · rw [h1, h4'] at hba
          have hda : (t.da != 0) = true := by simpa [bne] using hba
          clear hba
          go_wp2_with (first | ((with_reducible refine stop_op (o := ⟨some 60, _, _, _, _, _⟩) ?_); refine Lib.hid ?_; refine wpList_load_cells_on (by rfl) 38 (.tmp 5) rfl ⟨w.heap.size + 1, 0, none⟩ rfl (TA t) _ (blk_all HX.out.t5) Try.underlying38 rfl (rta_inf t) ?_) | ((with_reducible refine stop_op (o := ⟨some 62, _, _, _, _, _⟩) ?_); refine Lib.hid ?_; refine wpList_load_cells_on (by rfl) 38 (.tmp 5) rfl ⟨w.heap.size + 1, 0, none⟩ rfl (TA t) _ (blk_all HX.out.t5) Try.underlying38 rfl (rta_inf t) ?_) | ((with_reducible refine stop_op (o := ⟨some 65, _, _, _, _, _⟩) ?_); refine Lib.hid ?_; refine wpList_load_cells_on (by rfl) 38 (.tmp 5) rfl ⟨w.heap.size + 1, 0, none⟩ rfl (TA t) _ (blk_all HX.out.t5) Try.underlying38 rfl (rta_inf t) ?_) | (go_at_call 26; ((with_reducible refine (rhas_any t _ _).mono ?_); rintro e wh ⟨rfl, bh⟩); have HX := Lib.hid (HX.out.below bh); clear bh; clear k0 k1 k2 k3 k4 k5 k6 k7 k8 k9 k10 k11 k12 k13 k14 k15 k16 k17; obtain ⟨k0, k1, k2, k3, k4, k5, k6, k7, k8, k9, k10, k11, k12, k13, k14, k15, k16, k17⟩ := HX.out.cells) | (go_at_call 27; ((with_reducible refine (rlessB _ _ _).mono ?_); rintro e wh ⟨rfl, bh⟩); have HX := Lib.hid (HX.out.below bh); clear bh; clear k0 k1 k2 k3 k4 k5 k6 k7 k8 k9 k10 k11 k12 k13 k14 k15 k16 k17; obtain ⟨k0, k1, k2, k3, k4, k5, k6, k7, k8, k9, k10, k11, k12, k13, k14, k15, k16, k17⟩ := HX.out.cells) | (go_at_call 28; ((with_reducible refine (rgrE _ _ _).mono ?_); rintro e wh ⟨G, rfl, bh⟩); have HX := Lib.hid (HX.out.below bh); clear bh; clear k0 k1 k2 k3 k4 k5 k6 k7 k8 k9 k10 k11 k12 k13 k14 k15 k16 k17; obtain ⟨k0, k1, k2, k3, k4, k5, k6, k7, k8, k9, k10, k11, k12, k13, k14, k15, k16, k17⟩ := HX.out.cells) | ((with_reducible refine stop_op (o := ⟨some 73, _, _, _, _, _⟩) ?_); refine Lib.hid ?_; refine wpList_load_cells rfl 35 (.tmp 3) rfl ⟨w.heap.size, 0, none⟩ rfl (CA (c)) _ (blk_all HX.out.c3) Try.underlying35 rfl (rca_inf _) ?_) | ((with_reducible refine stop_op (o := ⟨none, _, _, _, _, _⟩) ?_); refine Lib.hid ?_; refine wpList_store_row rfl 35 (.tmp 6) (.tmp 73) rfl (w.heap.size + 1 + 1) (CA (c)) rfl rfl 35 (CA zcn) (HX.out.r6) (rca_inf _) rfl (ca_one _) ?_))
          refine bodyPost_ret_by (res_row Try.results12 _ _ (w.heap.size + 1 + 1) 35 (CA (c)) _ rfl (blk_setRow HX.out.r6 _) Try.underlying35 (rca_inf _)) rfl ?_
          exact ⟨_, by rw [OK.out] <;> rfl, Below.setRow HX.out.bel (by omega) _⟩
        · clear hba
          go_wp2_with (first | ((with_reducible refine stop_op (o := ⟨some 60, _, _, _, _, _⟩) ?_); refine Lib.hid ?_; refine wpList_load_cells_on (by rfl) 38 (.tmp 5) rfl ⟨w.heap.size + 1, 0, none⟩ rfl (TA t) _ (blk_all HX.out.t5) Try.underlying38 rfl (rta_inf t) ?_) | ((with_reducible refine stop_op (o := ⟨some 62, _, _, _, _, _⟩) ?_); refine Lib.hid ?_; refine wpList_load_cells_on (by rfl) 38 (.tmp 5) rfl ⟨w.heap.size + 1, 0, none⟩ rfl (TA t) _ (blk_all HX.out.t5) Try.underlying38 rfl (rta_inf t) ?_) | ((with_reducible refine stop_op (o := ⟨some 65, _, _, _, _, _⟩) ?_); refine Lib.hid ?_; refine wpList_load_cells_on (by rfl) 38 (.tmp 5) rfl ⟨w.heap.size + 1, 0, none⟩ rfl (TA t) _ (blk_all HX.out.t5) Try.underlying38 rfl (rta_inf t) ?_) | (go_at_call 26; ((with_reducible refine (rhas_any t _ _).mono ?_); rintro e wh ⟨rfl, bh⟩); have HX := Lib.hid (HX.out.below bh); clear bh; clear k0 k1 k2 k3 k4 k5 k6 k7 k8 k9 k10 k11 k12 k13 k14 k15 k16 k17; obtain ⟨k0, k1, k2, k3, k4, k5, k6, k7, k8, k9, k10, k11, k12, k13, k14, k15, k16, k17⟩ := HX.out.cells) | (go_at_call 27; ((with_reducible refine (rlessB _ _ _).mono ?_); rintro e wh ⟨rfl, bh⟩); have HX := Lib.hid (HX.out.below bh); clear bh; clear k0 k1 k2 k3 k4 k5 k6 k7 k8 k9 k10 k11 k12 k13 k14 k15 k16 k17; obtain ⟨k0, k1, k2, k3, k4, k5, k6, k7, k8, k9, k10, k11, k12, k13, k14, k15, k16, k17⟩ := HX.out.cells) | (go_at_call 28; ((with_reducible refine (rgrE _ _ _).mono ?_); rintro e wh ⟨G, rfl, bh⟩); have HX := Lib.hid (HX.out.below bh); clear bh; clear k0 k1 k2 k3 k4 k5 k6 k7 k8 k9 k10 k11 k12 k13 k14 k15 k16 k17; obtain ⟨k0, k1, k2, k3, k4, k5, k6, k7, k8, k9, k10, k11, k12, k13, k14, k15, k16, k17⟩ := HX.out.cells) | ((with_reducible refine stop_op (o := ⟨some 73, _, _, _, _, _⟩) ?_); refine Lib.hid ?_; refine wpList_load_cells rfl 35 (.tmp 3) rfl ⟨w.heap.size, 0, none⟩ rfl (CA (c)) _ (blk_all HX.out.c3) Try.underlying35 rfl (rca_inf _) ?_) | ((with_reducible refine stop_op (o := ⟨none, _, _, _, _, _⟩) ?_); refine Lib.hid ?_; refine wpList_store_row rfl 35 (.tmp 6) (.tmp 73) rfl (w.heap.size + 1 + 1) (CA (c)) rfl rfl 35 (CA zcn) (HX.out.r6) (rca_inf _) rfl (ca_one _) ?_))
          refine bodyPost_ret_by (res_row Try.results12 _ _ (w.heap.size + 1 + 1) 35 (CA (c)) _ rfl (blk_setRow HX.out.r6 _) Try.underlying35 (rca_inf _)) rfl ?_
          exact ⟨_, by rw [OK.out] <;> rfl, Below.setRow HX.out.bel (by omega) _⟩
      · clear hba
        go_wp2_with (first | ((with_reducible refine stop_op (o := ⟨some 60, _, _, _, _, _⟩) ?_); refine Lib.hid ?_; refine wpList_load_cells_on (by rfl) 38 (.tmp 5) rfl ⟨w.heap.size + 1, 0, none⟩ rfl (TA t) _ (blk_all HX.out.t5) Try.underlying38 rfl (rta_inf t) ?_) | ((with_reducible refine stop_op (o := ⟨some 62, _, _, _, _, _⟩) ?_); refine Lib.hid ?_; refine wpList_load_cells_on (by rfl) 38 (.tmp 5) rfl ⟨w.heap.size + 1, 0, none⟩ rfl (TA t) _ (blk_all HX.out.t5) Try.underlying38 rfl (rta_inf t) ?_) | ((with_reducible refine stop_op (o := ⟨some 65, _, _, _, _, _⟩) ?_); refine Lib.hid ?_; refine wpList_load_cells_on (by rfl) 38 (.tmp 5) rfl ⟨w.heap.size + 1, 0, none⟩ rfl (TA t) _ (blk_all HX.out.t5) Try.underlying38 rfl (rta_inf t) ?_) | (go_at_call 26; ((with_reducible refine (rhas_any t _ _).mono ?_); rintro e wh ⟨rfl, bh⟩); have HX := Lib.hid (HX.out.below bh); clear bh; clear k0 k1 k2 k3 k4 k5 k6 k7 k8 k9 k10 k11 k12 k13 k14 k15 k16 k17; obtain ⟨k0, k1, k2, k3, k4, k5, k6, k7, k8, k9, k10, k11, k12, k13, k14, k15, k16, k17⟩ := HX.out.cells) | (go_at_call 27; ((with_reducible refine (rlessB _ _ _).mono ?_); rintro e wh ⟨rfl, bh⟩); have HX := Lib.hid (HX.out.below bh); clear bh; clear k0 k1 k2 k3 k4 k5 k6 k7 k8 k9 k10 k11 k12 k13 k14 k15 k16 k17; obtain ⟨k0, k1, k2, k3, k4, k5, k6, k7, k8, k9, k10, k11, k12, k13, k14, k15, k16, k17⟩ := HX.out.cells) | (go_at_call 28; ((with_reducible refine (rgrE _ _ _).mono ?_); rintro e wh ⟨G, rfl, bh⟩); have HX := Lib.hid (HX.out.below bh); clear bh; clear k0 k1 k2 k3 k4 k5 k6 k7 k8 k9 k10 k11 k12 k13 k14 k15 k16 k17; obtain ⟨k0, k1, k2, k3, k4, k5, k6, k7, k8, k9, k10, k11, k12, k13, k14, k15, k16, k17⟩ := HX.out.cells) | ((with_reducible refine stop_op (o := ⟨some 73, _, _, _, _, _⟩) ?_); refine Lib.hid ?_; refine wpList_load_cells rfl 35 (.tmp 3) rfl ⟨w.heap.size, 0, none⟩ rfl (CA (c)) _ (blk_all HX.out.c3) Try.underlying35 rfl (rca_inf _) ?_) | ((with_reducible refine stop_op (o := ⟨none, _, _, _, _, _⟩) ?_); refine Lib.hid ?_; refine wpList_store_row rfl 35 (.tmp 6) (.tmp 73) rfl (w.heap.size + 1 + 1) (CA (c)) rfl rfl 35 (CA zcn) (HX.out.r6) (rca_inf _) rfl (ca_one _) ?_))
        refine bodyPost_ret_by (res_row Try.results12 _ _ (w.heap.size + 1 + 1) 35 (CA (c)) _ rfl (blk_setRow HX.out.r6 _) Try.underlying35 (rca_inf _)) rfl ?_
        exact ⟨_, by rw [OK.out] <;> rfl, Below.setRow HX.out.bel (by omega) _⟩
    · have OK : Hid (ok = false) := Lib.hid (by rw [HR.out, nextP_b, HXE.out, HYE.out, st_again H0.out HB2.out hxs] <;> simp [hba])
      unfold bareP at hba
      rw [hb5] at hba
      rcases h1 : hb t 1 with _ | _
      · rcases h4' : hb t 4 with _ | _
        · rw [h1, h4'] at hba
          have hda : (t.da != 0) = true := by simpa [bne] using hba
          clear hba
          go_wp2_with (first | ((with_reducible refine stop_op (o := ⟨some 60, _, _, _, _, _⟩) ?_); refine Lib.hid ?_; refine wpList_load_cells_on (by rfl) 38 (.tmp 5) rfl ⟨w.heap.size + 1, 0, none⟩ rfl (TA t) _ (blk_all HX.out.t5) Try.underlying38 rfl (rta_inf t) ?_) | ((with_reducible refine stop_op (o := ⟨some 62, _, _, _, _, _⟩) ?_); refine Lib.hid ?_; refine wpList_load_cells_on (by rfl) 38 (.tmp 5) rfl ⟨w.heap.size + 1, 0, none⟩ rfl (TA t) _ (blk_all HX.out.t5) Try.underlying38 rfl (rta_inf t) ?_) | ((with_reducible refine stop_op (o := ⟨some 65, _, _, _, _, _⟩) ?_); refine Lib.hid ?_; refine wpList_load_cells_on (by rfl) 38 (.tmp 5) rfl ⟨w.heap.size + 1, 0, none⟩ rfl (TA t) _ (blk_all HX.out.t5) Try.underlying38 rfl (rta_inf t) ?_) | (go_at_call 26; ((with_reducible refine (rhas_any t _ _).mono ?_); rintro e wh ⟨rfl, bh⟩); have HX := Lib.hid (HX.out.below bh); clear bh; clear k0 k1 k2 k3 k4 k5 k6 k7 k8 k9 k10 k11 k12 k13 k14 k15 k16 k17; obtain ⟨k0, k1, k2, k3, k4, k5, k6, k7, k8, k9, k10, k11, k12, k13, k14, k15, k16, k17⟩ := HX.out.cells) | (go_at_call 27; ((with_reducible refine (rlessB _ _ _).mono ?_); rintro e wh ⟨rfl, bh⟩); have HX := Lib.hid (HX.out.below bh); clear bh; clear k0 k1 k2 k3 k4 k5 k6 k7 k8 k9 k10 k11 k12 k13 k14 k15 k16 k17; obtain ⟨k0, k1, k2, k3, k4, k5, k6, k7, k8, k9, k10, k11, k12, k13, k14, k15, k16, k17⟩ := HX.out.cells) | (go_at_call 28; ((with_reducible refine (rgrE _ _ _).mono ?_); rintro e wh ⟨G, rfl, bh⟩); have HX := Lib.hid (HX.out.below bh); clear bh; clear k0 k1 k2 k3 k4 k5 k6 k7 k8 k9 k10 k11 k12 k13 k14 k15 k16 k17; obtain ⟨k0, k1, k2, k3, k4, k5, k6, k7, k8, k9, k10, k11, k12, k13, k14, k15, k16, k17⟩ := HX.out.cells) | ((with_reducible refine stop_op (o := ⟨some 73, _, _, _, _, _⟩) ?_); refine Lib.hid ?_; refine wpList_load_cells rfl 35 (.tmp 3) rfl ⟨w.heap.size, 0, none⟩ rfl (CA (c)) _ (blk_all HX.out.c3) Try.underlying35 rfl (rca_inf _) ?_) | ((with_reducible refine stop_op (o := ⟨none, _, _, _, _, _⟩) ?_); refine Lib.hid ?_; refine wpList_store_row rfl 35 (.tmp 6) (.tmp 73) rfl (w.heap.size + 1 + 1) (CA (c)) rfl rfl 35 (CA zcn) (HX.out.r6) (rca_inf _) rfl (ca_one _) ?_))
          refine bodyPost_ret_by (res_row Try.results12 _ _ (w.heap.size + 1 + 1) 35 (CA (c)) _ rfl (blk_setRow HX.out.r6 _) Try.underlying35 (rca_inf _)) rfl ?_
          exact ⟨_, by rw [OK.out] <;> rfl, Below.setRow HX.out.bel (by omega) _⟩
        · clear hba
          go_wp2_with (first | ((with_reducible refine stop_op (o := ⟨some 60, _, _, _, _, _⟩) ?_); refine Lib.hid ?_; refine wpList_load_cells_on (by rfl) 38 (.tmp 5) rfl ⟨w.heap.size + 1, 0, none⟩ rfl (TA t) _ (blk_all HX.out.t5) Try.underlying38 rfl (rta_inf t) ?_) | ((with_reducible refine stop_op (o := ⟨some 62, _, _, _, _, _⟩) ?_); refine Lib.hid ?_; refine wpList_load_cells_on (by rfl) 38 (.tmp 5) rfl ⟨w.heap.size + 1, 0, none⟩ rfl (TA t) _ (blk_all HX.out.t5) Try.underlying38 rfl (rta_inf t) ?_) | ((with_reducible refine stop_op (o := ⟨some 65, _, _, _, _, _⟩) ?_); refine Lib.hid ?_; refine wpList_load_cells_on (by rfl) 38 (.tmp 5) rfl ⟨w.heap.size + 1, 0, none⟩ rfl (TA t) _ (blk_all HX.out.t5) Try.underlying38 rfl (rta_inf t) ?_) | (go_at_call 26; ((with_reducible refine (rhas_any t _ _).mono ?_); rintro e wh ⟨rfl, bh⟩); have HX := Lib.hid (HX.out.below bh); clear bh; clear k0 k1 k2 k3 k4 k5 k6 k7 k8 k9 k10 k11 k12 k13 k14 k15 k16 k17; obtain ⟨k0, k1, k2, k3, k4, k5, k6, k7, k8, k9, k10, k11, k12, k13, k14, k15, k16, k17⟩ := HX.out.cells) | (go_at_call 27; ((with_reducible refine (rlessB _ _ _).mono ?_); rintro e wh ⟨rfl, bh⟩); have HX := Lib.hid (HX.out.below bh); clear bh; clear k0 k1 k2 k3 k4 k5 k6 k7 k8 k9 k10 k11 k12 k13 k14 k15 k16 k17; obtain ⟨k0, k1, k2, k3, k4, k5, k6, k7, k8, k9, k10, k11, k12, k13, k14, k15, k16, k17⟩ := HX.out.cells) | (go_at_call 28; ((with_reducible refine (rgrE _ _ _).mono ?_); rintro e wh ⟨G, rfl, bh⟩); have HX := Lib.hid (HX.out.below bh); clear bh; clear k0 k1 k2 k3 k4 k5 k6 k7 k8 k9 k10 k11 k12 k13 k14 k15 k16 k17; obtain ⟨k0, k1, k2, k3, k4, k5, k6, k7, k8, k9, k10, k11, k12, k13, k14, k15, k16, k17⟩ := HX.out.cells) | ((with_reducible refine stop_op (o := ⟨some 73, _, _, _, _, _⟩) ?_); refine Lib.hid ?_; refine wpList_load_cells rfl 35 (.tmp 3) rfl ⟨w.heap.size, 0, none⟩ rfl (CA (c)) _ (blk_all HX.out.c3) Try.underlying35 rfl (rca_inf _) ?_) | ((with_reducible refine stop_op (o := ⟨none, _, _, _, _, _⟩) ?_); refine Lib.hid ?_; refine wpList_store_row rfl 35 (.tmp 6) (.tmp 73) rfl (w.heap.size + 1 + 1) (CA (c)) rfl rfl 35 (CA zcn) (HX.out.r6) (rca_inf _) rfl (ca_one _) ?_))
          refine bodyPost_ret_by (res_row Try.results12 _ _ (w.heap.size + 1 + 1) 35 (CA (c)) _ rfl (blk_setRow HX.out.r6 _) Try.underlying35 (rca_inf _)) rfl ?_
          exact ⟨_, by rw [OK.out] <;> rfl, Below.setRow HX.out.bel (by omega) _⟩
      · clear hba
        go_wp2_with (first | ((with_reducible refine stop_op (o := ⟨some 60, _, _, _, _, _⟩) ?_); refine Lib.hid ?_; refine wpList_load_cells_on (by rfl) 38 (.tmp 5) rfl ⟨w.heap.size + 1, 0, none⟩ rfl (TA t) _ (blk_all HX.out.t5) Try.underlying38 rfl (rta_inf t) ?_) | ((with_reducible refine stop_op (o := ⟨some 62, _, _, _, _, _⟩) ?_); refine Lib.hid ?_; refine wpList_load_cells_on (by rfl) 38 (.tmp 5) rfl ⟨w.heap.size + 1, 0, none⟩ rfl (TA t) _ (blk_all HX.out.t5) Try.underlying38 rfl (rta_inf t) ?_) | ((with_reducible refine stop_op (o := ⟨some 65, _, _, _, _, _⟩) ?_); refine Lib.hid ?_; refine wpList_load_cells_on (by rfl) 38 (.tmp 5) rfl ⟨w.heap.size + 1, 0, none⟩ rfl (TA t) _ (blk_all HX.out.t5) Try.underlying38 rfl (rta_inf t) ?_) | (go_at_call 26; ((with_reducible refine (rhas_any t _ _).mono ?_); rintro e wh ⟨rfl, bh⟩); have HX := Lib.hid (HX.out.below bh); clear bh; clear k0 k1 k2 k3 k4 k5 k6 k7 k8 k9 k10 k11 k12 k13 k14 k15 k16 k17; obtain ⟨k0, k1, k2, k3, k4, k5, k6, k7, k8, k9, k10, k11, k12, k13, k14, k15, k16, k17⟩ := HX.out.cells) | (go_at_call 27; ((with_reducible refine (rlessB _ _ _).mono ?_); rintro e wh ⟨rfl, bh⟩); have HX := Lib.hid (HX.out.below bh); clear bh; clear k0 k1 k2 k3 k4 k5 k6 k7 k8 k9 k10 k11 k12 k13 k14 k15 k16 k17; obtain ⟨k0, k1, k2, k3, k4, k5, k6, k7, k8, k9, k10, k11, k12, k13, k14, k15, k16, k17⟩ := HX.out.cells) | (go_at_call 28; ((with_reducible refine (rgrE _ _ _).mono ?_); rintro e wh ⟨G, rfl, bh⟩); have HX := Lib.hid (HX.out.below bh); clear bh; clear k0 k1 k2 k3 k4 k5 k6 k7 k8 k9 k10 k11 k12 k13 k14 k15 k16 k17; obtain ⟨k0, k1, k2, k3, k4, k5, k6, k7, k8, k9, k10, k11, k12, k13, k14, k15, k16, k17⟩ := HX.out.cells) | ((with_reducible refine stop_op (o := ⟨some 73, _, _, _, _, _⟩) ?_); refine Lib.hid ?_; refine wpList_load_cells rfl 35 (.tmp 3) rfl ⟨w.heap.size, 0, none⟩ rfl (CA (c)) _ (blk_all HX.out.c3) Try.underlying35 rfl (rca_inf _) ?_) | ((with_reducible refine stop_op (o := ⟨none, _, _, _, _, _⟩) ?_); refine Lib.hid ?_; refine wpList_store_row rfl 35 (.tmp 6) (.tmp 73) rfl (w.heap.size + 1 + 1) (CA (c)) rfl rfl 35 (CA zcn) (HX.out.r6) (rca_inf _) rfl (ca_one _) ?_))
        refine bodyPost_ret_by (res_row Try.results12 _ _ (w.heap.size + 1 + 1) 35 (CA (c)) _ rfl (blk_setRow HX.out.r6 _) Try.underlying35 (rca_inf _)) rfl ?_
        exact ⟨_, by rw [OK.out] <;> rfl, Below.setRow HX.out.bel (by omega) _⟩
  · have hba2 := hba
    unfold bareP at hba2
    rw [hb5] at hba2
    have hb1 : hb t 1 = false := by revert hba2; cases hb t 1 <;> simp
    have hb4 : hb t 4 = false := by revert hba2; cases hb t 4 <;> simp
    have hda : (t.da != 0) = false := by revert hba2; simp [bne]
    clear hba2
    cases hxs : x.seen
    · rw [hxs] at k6
      by_cases hst1 : c.st = 1
      · have hsn : (c.st != 1) = false := by simp [hst1]
        have hac : acksP t y.e = false := by unfold acksP; rw [h16]; rfl
        have OK : Hid (ok = false) := Lib.hid (by rw [HR.out, nextP_b, HXE.out, HYE.out, st_synNo H0.out HB2.out hxs (by rw [hac]; simp)] <;> rfl)
        clear hac hst1
        go_wp2_with (first | ((with_reducible refine stop_op (o := ⟨some 60, _, _, _, _, _⟩) ?_); refine Lib.hid ?_; refine wpList_load_cells_on (by rfl) 38 (.tmp 5) rfl ⟨w.heap.size + 1, 0, none⟩ rfl (TA t) _ (blk_all HX.out.t5) Try.underlying38 rfl (rta_inf t) ?_) | ((with_reducible refine stop_op (o := ⟨some 62, _, _, _, _, _⟩) ?_); refine Lib.hid ?_; refine wpList_load_cells_on (by rfl) 38 (.tmp 5) rfl ⟨w.heap.size + 1, 0, none⟩ rfl (TA t) _ (blk_all HX.out.t5) Try.underlying38 rfl (rta_inf t) ?_) | ((with_reducible refine stop_op (o := ⟨some 65, _, _, _, _, _⟩) ?_); refine Lib.hid ?_; refine wpList_load_cells_on (by rfl) 38 (.tmp 5) rfl ⟨w.heap.size + 1, 0, none⟩ rfl (TA t) _ (blk_all HX.out.t5) Try.underlying38 rfl (rta_inf t) ?_) | ((with_reducible refine stop_op (o := ⟨some 100, _, _, _, _, _⟩) ?_); refine Lib.hid ?_; refine wpList_load_cells_on (by rfl) 38 (.tmp 5) rfl ⟨w.heap.size + 1, 0, none⟩ rfl (TA t) _ (blk_all HX.out.t5) Try.underlying38 rfl (rta_inf t) ?_) | (go_at_call 26; ((with_reducible refine (rhas_any t _ _).mono ?_); rintro e wh ⟨rfl, bh⟩); have HX := Lib.hid (HX.out.below bh); clear bh; clear k0 k1 k2 k3 k4 k5 k6 k7 k8 k9 k10 k11 k12 k13 k14 k15 k16 k17; obtain ⟨k0, k1, k2, k3, k4, k5, k6, k7, k8, k9, k10, k11, k12, k13, k14, k15, k16, k17⟩ := HX.out.cells) | (go_at_call 27; ((with_reducible refine (rlessB _ _ _).mono ?_); rintro e wh ⟨rfl, bh⟩); have HX := Lib.hid (HX.out.below bh); clear bh; clear k0 k1 k2 k3 k4 k5 k6 k7 k8 k9 k10 k11 k12 k13 k14 k15 k16 k17; obtain ⟨k0, k1, k2, k3, k4, k5, k6, k7, k8, k9, k10, k11, k12, k13, k14, k15, k16, k17⟩ := HX.out.cells) | (go_at_call 28; ((with_reducible refine (rgrE _ _ _).mono ?_); rintro e wh ⟨G, rfl, bh⟩); have HX := Lib.hid (HX.out.below bh); clear bh; clear k0 k1 k2 k3 k4 k5 k6 k7 k8 k9 k10 k11 k12 k13 k14 k15 k16 k17; obtain ⟨k0, k1, k2, k3, k4, k5, k6, k7, k8, k9, k10, k11, k12, k13, k14, k15, k16, k17⟩ := HX.out.cells) | ((with_reducible refine stop_op (o := ⟨some 112, _, _, _, _, _⟩) ?_); refine Lib.hid ?_; refine wpList_load_cells rfl 35 (.tmp 3) rfl ⟨w.heap.size, 0, none⟩ rfl (CA (c)) _ (blk_all HX.out.c3) Try.underlying35 rfl (rca_inf _) ?_) | ((with_reducible refine stop_op (o := ⟨none, _, _, _, _, _⟩) ?_); refine Lib.hid ?_; refine wpList_store_row rfl 35 (.tmp 6) (.tmp 112) rfl (w.heap.size + 1 + 1) (CA (c)) rfl rfl 35 (CA zcn) (HX.out.r6) (rca_inf _) rfl (ca_one _) ?_))
        refine bodyPost_ret_by (res_row Try.results12 _ _ (w.heap.size + 1 + 1) 35 (CA (c)) _ rfl (blk_setRow HX.out.r6 _) Try.underlying35 (rca_inf _)) rfl ?_
        exact ⟨_, by rw [OK.out] <;> rfl, Below.setRow HX.out.bel (by omega) _⟩
      · have hsn : (c.st != 1) = true := by simp [hst1]
        have hst1b : (c.st == 1) = false := by simpa using hst1
        have OK : Hid (ok = false) := Lib.hid (by rw [HR.out, nextP_b, HXE.out, HYE.out, st_synNo H0.out HB2.out hxs (by rw [hst1b]; simp)] <;> rfl)
        clear hst1 hst1b
        go_wp2_with (first | ((with_reducible refine stop_op (o := ⟨some 60, _, _, _, _, _⟩) ?_); refine Lib.hid ?_; refine wpList_load_cells_on (by rfl) 38 (.tmp 5) rfl ⟨w.heap.size + 1, 0, none⟩ rfl (TA t) _ (blk_all HX.out.t5) Try.underlying38 rfl (rta_inf t) ?_) | ((with_reducible refine stop_op (o := ⟨some 62, _, _, _, _, _⟩) ?_); refine Lib.hid ?_; refine wpList_load_cells_on (by rfl) 38 (.tmp 5) rfl ⟨w.heap.size + 1, 0, none⟩ rfl (TA t) _ (blk_all HX.out.t5) Try.underlying38 rfl (rta_inf t) ?_) | ((with_reducible refine stop_op (o := ⟨some 65, _, _, _, _, _⟩) ?_); refine Lib.hid ?_; refine wpList_load_cells_on (by rfl) 38 (.tmp 5) rfl ⟨w.heap.size + 1, 0, none⟩ rfl (TA t) _ (blk_all HX.out.t5) Try.underlying38 rfl (rta_inf t) ?_) | ((with_reducible refine stop_op (o := ⟨some 100, _, _, _, _, _⟩) ?_); refine Lib.hid ?_; refine wpList_load_cells_on (by rfl) 38 (.tmp 5) rfl ⟨w.heap.size + 1, 0, none⟩ rfl (TA t) _ (blk_all HX.out.t5) Try.underlying38 rfl (rta_inf t) ?_) | (go_at_call 26; ((with_reducible refine (rhas_any t _ _).mono ?_); rintro e wh ⟨rfl, bh⟩); have HX := Lib.hid (HX.out.below bh); clear bh; clear k0 k1 k2 k3 k4 k5 k6 k7 k8 k9 k10 k11 k12 k13 k14 k15 k16 k17; obtain ⟨k0, k1, k2, k3, k4, k5, k6, k7, k8, k9, k10, k11, k12, k13, k14, k15, k16, k17⟩ := HX.out.cells) | (go_at_call 27; ((with_reducible refine (rlessB _ _ _).mono ?_); rintro e wh ⟨rfl, bh⟩); have HX := Lib.hid (HX.out.below bh); clear bh; clear k0 k1 k2 k3 k4 k5 k6 k7 k8 k9 k10 k11 k12 k13 k14 k15 k16 k17; obtain ⟨k0, k1, k2, k3, k4, k5, k6, k7, k8, k9, k10, k11, k12, k13, k14, k15, k16, k17⟩ := HX.out.cells) | (go_at_call 28; ((with_reducible refine (rgrE _ _ _).mono ?_); rintro e wh ⟨G, rfl, bh⟩); have HX := Lib.hid (HX.out.below bh); clear bh; clear k0 k1 k2 k3 k4 k5 k6 k7 k8 k9 k10 k11 k12 k13 k14 k15 k16 k17; obtain ⟨k0, k1, k2, k3, k4, k5, k6, k7, k8, k9, k10, k11, k12, k13, k14, k15, k16, k17⟩ := HX.out.cells) | ((with_reducible refine stop_op (o := ⟨some 112, _, _, _, _, _⟩) ?_); refine Lib.hid ?_; refine wpList_load_cells rfl 35 (.tmp 3) rfl ⟨w.heap.size, 0, none⟩ rfl (CA (c)) _ (blk_all HX.out.c3) Try.underlying35 rfl (rca_inf _) ?_) | ((with_reducible refine stop_op (o := ⟨none, _, _, _, _, _⟩) ?_); refine Lib.hid ?_; refine wpList_store_row rfl 35 (.tmp 6) (.tmp 112) rfl (w.heap.size + 1 + 1) (CA (c)) rfl rfl 35 (CA zcn) (HX.out.r6) (rca_inf _) rfl (ca_one _) ?_))
        refine bodyPost_ret_by (res_row Try.results12 _ _ (w.heap.size + 1 + 1) 35 (CA (c)) _ rfl (blk_setRow HX.out.r6 _) Try.underlying35 (rca_inf _)) rfl ?_
        exact ⟨_, by rw [OK.out] <;> rfl, Below.setRow HX.out.bel (by omega) _⟩
    · rw [hxs] at k6
      go_upto_region 15 with (first | ((with_reducible refine stop_op (o := ⟨some 60, _, _, _, _, _⟩) ?_); refine Lib.hid ?_; refine wpList_load_cells_on (by rfl) 38 (.tmp 5) rfl ⟨w.heap.size + 1, 0, none⟩ rfl (TA t) _ (blk_all HX.out.t5) Try.underlying38 rfl (rta_inf t) ?_) | ((with_reducible refine stop_op (o := ⟨some 62, _, _, _, _, _⟩) ?_); refine Lib.hid ?_; refine wpList_load_cells_on (by rfl) 38 (.tmp 5) rfl ⟨w.heap.size + 1, 0, none⟩ rfl (TA t) _ (blk_all HX.out.t5) Try.underlying38 rfl (rta_inf t) ?_) | ((with_reducible refine stop_op (o := ⟨some 65, _, _, _, _, _⟩) ?_); refine Lib.hid ?_; refine wpList_load_cells_on (by rfl) 38 (.tmp 5) rfl ⟨w.heap.size + 1, 0, none⟩ rfl (TA t) _ (blk_all HX.out.t5) Try.underlying38 rfl (rta_inf t) ?_) | (go_at_call 26; ((with_reducible refine (rhas_any t _ _).mono ?_); rintro e wh ⟨rfl, bh⟩); have HX := Lib.hid (HX.out.below bh); clear bh; clear k0 k1 k2 k3 k4 k5 k6 k7 k8 k9 k10 k11 k12 k13 k14 k15 k16 k17; obtain ⟨k0, k1, k2, k3, k4, k5, k6, k7, k8, k9, k10, k11, k12, k13, k14, k15, k16, k17⟩ := HX.out.cells) | (go_at_call 27; ((with_reducible refine (rlessB _ _ _).mono ?_); rintro e wh ⟨rfl, bh⟩); have HX := Lib.hid (HX.out.below bh); clear bh; clear k0 k1 k2 k3 k4 k5 k6 k7 k8 k9 k10 k11 k12 k13 k14 k15 k16 k17; obtain ⟨k0, k1, k2, k3, k4, k5, k6, k7, k8, k9, k10, k11, k12, k13, k14, k15, k16, k17⟩ := HX.out.cells) | (go_at_call 28; ((with_reducible refine (rgrE _ _ _).mono ?_); rintro e wh ⟨G, rfl, bh⟩); have HX := Lib.hid (HX.out.below bh); clear bh; clear k0 k1 k2 k3 k4 k5 k6 k7 k8 k9 k10 k11 k12 k13 k14 k15 k16 k17; obtain ⟨k0, k1, k2, k3, k4, k5, k6, k7, k8, k9, k10, k11, k12, k13, k14, k15, k16, k17⟩ := HX.out.cells))
      have hst1 : 1 ≤ c.st := by simp at hs1; omega
      rcases hen : (endP t == x.e) with _ | _
      · have OK : Hid (ok = false) := Lib.hid (by rw [HR.out, nextP_b, HXE.out, HYE.out, st_again H0.out HB2.out hxs] <;> simp [hba, hen])
        have hn0 := HX.out.below (bel_dr (Below.refl _ _))
        refine wp_region_held_drew (S := fun W1 : World => NA w W1 c x t) (by kernel_rfl) hn0.na (fun hH => ?_)
        have hH0 := hn0.na
        obtain ⟨wd, hwd⟩ : ∃ q, q = wh.drew := ⟨_, rfl⟩
        rw [← hwd] at hn0 hH0 hH ⊢
        clear hwd
        refine wpAnyH_take (i := 0) (oi := ⟨some 76, _, _, _, _, _⟩) (v := .agg (CA c)) rfl (by kernel_rfl) (by kernel_rfl) (by kernel_rfl) (fun _ _ _ h => h) (yields_rowK (by kernel_rfl) 35 _ rfl w.heap.size rfl (CA c) 35 _ (fun W hW => hW.c3) Try.underlying35 rfl (rca_inf _)) hH0 ?_
        try simp only [Act.put, List.setIfInBounds_toArray, List.set_cons_zero, List.set_cons_succ]
        refine wpAnyH_take (i := 1) (oi := ⟨some 77, _, _, _, _, _⟩) (v := .agg (TA t)) rfl (by kernel_rfl) (by kernel_rfl) (by kernel_rfl) (fun _ _ _ h => h) (yields_rowK (by kernel_rfl) 38 _ rfl (w.heap.size + 1) rfl (TA t) 38 _ (fun W hW => hW.t5) Try.underlying38 rfl (rta_inf t)) hH0 ?_
        try simp only [Act.put, List.setIfInBounds_toArray, List.set_cons_zero, List.set_cons_succ]
        refine wpAnyH_take (i := 3) (oi := ⟨some 79, _, _, _, _, _⟩) (v := .pointer (some ⟨w.heap.size + 1 + 1 + 1, 1, none⟩)) rfl (by kernel_rfl) (by kernel_rfl) (by kernel_rfl) (fun _ _ _ h => h) (.inl ⟨by kernel_rfl, fun W1 hW1 => by go_simp⟩) hH0 ?_
        try simp only [Act.put, List.setIfInBounds_toArray, List.set_cons_zero, List.set_cons_succ]
        refine wpAnyH_take (i := 4) (oi := ⟨some 80, _, _, _, _, _⟩) (v := .int .u32 x.e) rfl (by kernel_rfl) (by kernel_rfl) (by kernel_rfl) (fun _ _ _ h => h) (.inl ⟨by kernel_rfl, fun W1 hW1 => by have q := blk_cell (o := 1) (v := .int .u32 x.e) hW1.x8 rfl; go_simp⟩) hH0 ?_
        try simp only [Act.put, List.setIfInBounds_toArray, List.set_cons_zero, List.set_cons_succ]
        refine wpAnyH_ready (rs := [2]) (by kernel_rfl) (by simp) ?_
        refine AllReadyH.cons (o := ⟨some 78, _, _, _, _, _⟩) rfl (fun K hK => ?_) AllReadyH.nil
        go_simp
        go_at_call 17
        ((with_reducible refine (rend_any t _).mono ?_); rintro e w20 ⟨rfl, b20⟩)
        have hn20 := hn0.below b20
        have hS20 := hn20.na
        refine hK.out _ _ hS20 (fun _ => ?_)
        clear hK K
        try simp only [Act.put, List.setIfInBounds_toArray, List.set_cons_zero, List.set_cons_succ]
        refine wpAnyH_take (i := 5) (oi := ⟨some 81, _, _, _, _, _⟩) (v := .bool false) rfl (by kernel_rfl) (by kernel_rfl) (by kernel_rfl) (fun _ _ _ h => h) (.inl ⟨by kernel_rfl, fun W1 hW1 => by go_simp⟩) hS20 ?_
        try simp only [Act.put, List.setIfInBounds_toArray, List.set_cons_zero, List.set_cons_succ]
        refine wpAnyH_take (i := 6) (oi := ⟨some 82, _, _, _, _, _⟩) (v := .bool false) rfl (by kernel_rfl) (by kernel_rfl) (by kernel_rfl) (fun _ _ _ h => h) (.inl ⟨by kernel_rfl, fun W1 hW1 => by go_simp⟩) hS20 ?_
        try simp only [Act.put, List.setIfInBounds_toArray, List.set_cons_zero, List.set_cons_succ]
        refine wpAnyH_take (i := 7) (oi := ⟨some 83, _, _, _, _, _⟩) (v := undef) rfl (by kernel_rfl) (by kernel_rfl) (by kernel_rfl) (fun _ _ _ h => h) (Or.inr ⟨by kernel_rfl, rfl⟩) hS20 ?_
        try simp only [Act.put, List.setIfInBounds_toArray, List.set_cons_zero, List.set_cons_succ]
        refine wpAnyH_take (i := 8) (oi := ⟨some 84, _, _, _, _, _⟩) (v := undef) rfl (by kernel_rfl) (by kernel_rfl) (by kernel_rfl) (fun _ _ _ h => h) (Or.inr ⟨by kernel_rfl, rfl⟩) hS20 ?_
        try simp only [Act.put, List.setIfInBounds_toArray, List.set_cons_zero, List.set_cons_succ]
        refine wpAnyH_take (i := 9) (oi := ⟨some 85, _, _, _, _, _⟩) (v := undef) rfl (by kernel_rfl) (by kernel_rfl) (by kernel_rfl) (fun _ _ _ h => h) (Or.inr ⟨by kernel_rfl, rfl⟩) hS20 ?_
        try simp only [Act.put, List.setIfInBounds_toArray, List.set_cons_zero, List.set_cons_succ]
        refine wpAnyH_take (i := 10) (oi := ⟨some 86, _, _, _, _, _⟩) (v := undef) rfl (by kernel_rfl) (by kernel_rfl) (by kernel_rfl) (fun _ _ _ h => h) (Or.inr ⟨by kernel_rfl, rfl⟩) hS20 ?_
        try simp only [Act.put, List.setIfInBounds_toArray, List.set_cons_zero, List.set_cons_succ]
        refine wpAnyH_take (i := 11) (oi := ⟨some 87, _, _, _, _, _⟩) (v := undef) rfl (by kernel_rfl) (by kernel_rfl) (by kernel_rfl) (fun _ _ _ h => h) (Or.inr ⟨by kernel_rfl, rfl⟩) hS20 ?_
        try simp only [Act.put, List.setIfInBounds_toArray, List.set_cons_zero, List.set_cons_succ]
        refine wpAnyH_take (i := 12) (oi := ⟨some 88, _, _, _, _, _⟩) (v := undef) rfl (by kernel_rfl) (by kernel_rfl) (by kernel_rfl) (fun _ _ _ h => h) (Or.inr ⟨by kernel_rfl, rfl⟩) hS20 ?_
        try simp only [Act.put, List.setIfInBounds_toArray, List.set_cons_zero, List.set_cons_succ]
        refine wpAnyH_take (i := 13) (oi := ⟨some 89, _, _, _, _, _⟩) (v := undef) rfl (by kernel_rfl) (by kernel_rfl) (by kernel_rfl) (fun _ _ _ h => h) (Or.inr ⟨by kernel_rfl, rfl⟩) hS20 ?_
        try simp only [Act.put, List.setIfInBounds_toArray, List.set_cons_zero, List.set_cons_succ]
        refine wpAnyH_take (i := 14) (oi := ⟨some 90, _, _, _, _, _⟩) (v := undef) rfl (by kernel_rfl) (by kernel_rfl) (by kernel_rfl) (fun _ _ _ h => h) (Or.inr ⟨by kernel_rfl, rfl⟩) hS20 ?_
        try simp only [Act.put, List.setIfInBounds_toArray, List.set_cons_zero, List.set_cons_succ]
        refine wpAnyH_take (i := 15) (oi := ⟨some 91, _, _, _, _, _⟩) (v := .bool false) rfl (by kernel_rfl) (by kernel_rfl) (by kernel_rfl) (fun _ _ _ h => h) (.inl ⟨by kernel_rfl, fun W1 hW1 => by go_simp⟩) hS20 ?_
        try simp only [Act.put, List.setIfInBounds_toArray, List.set_cons_zero, List.set_cons_succ]
        refine wpAnyH_ready (rs := [16]) (by kernel_rfl) (by simp) ?_
        refine AllReadyH.cons (o := ⟨none, _, _, _, _, _⟩) rfl (fun K hK => ?_) AllReadyH.nil
        refine step_store_row rfl 35 (.tmp 6) (.tmp 76) rfl (w.heap.size + 1 + 1) (CA c) rfl rfl 35 (CA zcn) hn20.r6 (rca_inf c) rfl (ca_one c) ?_
        have hz := hS20.row (CA c)
        have hR2 := blk_setRow hn20.r6 (CA c)
        have hB2 := Below.setRow hn20.bel (show w.heap.size ≤ w.heap.size + 1 + 1 by omega) (CA c)
        refine hK.out _ _ hz (fun _ => ?_)
        clear hK K
        generalize w20.setRow (w.heap.size + 1 + 1) (CA c) = wz at *
        try simp only [Act.put, List.setIfInBounds_toArray, List.set_cons_zero, List.set_cons_succ]
        refine wpAnyH_take (i := 17) (oi := ⟨some 7, _, _, _, _, _⟩) (v := .bool false) rfl (by kernel_rfl) (by kernel_rfl) (by kernel_rfl) (fun _ _ _ h => h) (.inl ⟨by kernel_rfl, fun W1 hW1 => by go_simp⟩) hz ?_
        try simp only [Act.put, List.setIfInBounds_toArray, List.set_cons_zero, List.set_cons_succ]
        refine wpAnyH_done (by kernel_rfl) ?_ _
        try simp only [Act.put, List.setIfInBounds_toArray, List.set_cons_zero, List.set_cons_succ]
        go_wp2_with fail
        refine bodyPost_ret_by (res_row Try.results12 _ _ (w.heap.size + 1 + 1) 35 (CA c) _ rfl hR2 Try.underlying35 (rca_inf c)) rfl ?_
        exact ⟨_, by rw [OK.out] <;> rfl, hB2⟩
      · by_cases hq1 : c.st = 1
        · have hq1b : (c.st == 1) = true := by simpa using hq1
          have OK : Hid (ok = true) := Lib.hid (by rw [HR.out, nextP_b, HXE.out, HYE.out, st_again H0.out HB2.out hxs] <;> simp [hba, hen, hq1])
          clear hq1
          have hn0 := HX.out.below (bel_dr (Below.refl _ _))
          refine wp_region_held_drew (S := fun W1 : World => NA w W1 c x t) (by kernel_rfl) hn0.na (fun hH => ?_)
          have hH0 := hn0.na
          obtain ⟨wd, hwd⟩ : ∃ q, q = wh.drew := ⟨_, rfl⟩
          rw [← hwd] at hn0 hH0 hH ⊢
          clear hwd
          refine wpAnyH_take (i := 0) (oi := ⟨some 76, _, _, _, _, _⟩) (v := .agg (CA c)) rfl (by kernel_rfl) (by kernel_rfl) (by kernel_rfl) (fun _ _ _ h => h) (yields_rowK (by kernel_rfl) 35 _ rfl w.heap.size rfl (CA c) 35 _ (fun W hW => hW.c3) Try.underlying35 rfl (rca_inf _)) hH0 ?_
          try simp only [Act.put, List.setIfInBounds_toArray, List.set_cons_zero, List.set_cons_succ]
          refine wpAnyH_take (i := 1) (oi := ⟨some 77, _, _, _, _, _⟩) (v := .agg (TA t)) rfl (by kernel_rfl) (by kernel_rfl) (by kernel_rfl) (fun _ _ _ h => h) (yields_rowK (by kernel_rfl) 38 _ rfl (w.heap.size + 1) rfl (TA t) 38 _ (fun W hW => hW.t5) Try.underlying38 rfl (rta_inf t)) hH0 ?_
          try simp only [Act.put, List.setIfInBounds_toArray, List.set_cons_zero, List.set_cons_succ]
          refine wpAnyH_take (i := 3) (oi := ⟨some 79, _, _, _, _, _⟩) (v := .pointer (some ⟨w.heap.size + 1 + 1 + 1, 1, none⟩)) rfl (by kernel_rfl) (by kernel_rfl) (by kernel_rfl) (fun _ _ _ h => h) (.inl ⟨by kernel_rfl, fun W1 hW1 => by go_simp⟩) hH0 ?_
          try simp only [Act.put, List.setIfInBounds_toArray, List.set_cons_zero, List.set_cons_succ]
          refine wpAnyH_take (i := 4) (oi := ⟨some 80, _, _, _, _, _⟩) (v := .int .u32 x.e) rfl (by kernel_rfl) (by kernel_rfl) (by kernel_rfl) (fun _ _ _ h => h) (.inl ⟨by kernel_rfl, fun W1 hW1 => by have q := blk_cell (o := 1) (v := .int .u32 x.e) hW1.x8 rfl; go_simp⟩) hH0 ?_
          try simp only [Act.put, List.setIfInBounds_toArray, List.set_cons_zero, List.set_cons_succ]
          refine wpAnyH_ready (rs := [2]) (by kernel_rfl) (by simp) ?_
          refine AllReadyH.cons (o := ⟨some 78, _, _, _, _, _⟩) rfl (fun K hK => ?_) AllReadyH.nil
          go_simp
          go_at_call 17
          ((with_reducible refine (rend_any t _).mono ?_); rintro e w20 ⟨rfl, b20⟩)
          have hn20 := hn0.below b20
          have hS20 := hn20.na
          refine hK.out _ _ hS20 (fun _ => ?_)
          clear hK K
          try simp only [Act.put, List.setIfInBounds_toArray, List.set_cons_zero, List.set_cons_succ]
          refine wpAnyH_take (i := 5) (oi := ⟨some 81, _, _, _, _, _⟩) (v := .bool true) rfl (by kernel_rfl) (by kernel_rfl) (by kernel_rfl) (fun _ _ _ h => h) (.inl ⟨by kernel_rfl, fun W1 hW1 => by go_simp⟩) hS20 ?_
          try simp only [Act.put, List.setIfInBounds_toArray, List.set_cons_zero, List.set_cons_succ]
          refine wpAnyH_take (i := 6) (oi := ⟨some 82, _, _, _, _, _⟩) (v := .bool true) rfl (by kernel_rfl) (by kernel_rfl) (by kernel_rfl) (fun _ _ _ h => h) (.inl ⟨by kernel_rfl, fun W1 hW1 => by go_simp⟩) hS20 ?_
          try simp only [Act.put, List.setIfInBounds_toArray, List.set_cons_zero, List.set_cons_succ]
          refine wpAnyH_take (i := 7) (oi := ⟨some 83, _, _, _, _, _⟩) (v := .pointer (some ⟨w.heap.size, 0, none⟩)) rfl (by kernel_rfl) (by kernel_rfl) (by kernel_rfl) (fun _ _ _ h => h) (.inl ⟨by kernel_rfl, fun W1 hW1 => by go_simp⟩) hS20 ?_
          try simp only [Act.put, List.setIfInBounds_toArray, List.set_cons_zero, List.set_cons_succ]
          refine wpAnyH_take (i := 8) (oi := ⟨some 84, _, _, _, _, _⟩) (v := .int .i64 c.st) rfl (by kernel_rfl) (by kernel_rfl) (by kernel_rfl) (fun _ _ _ h => h) (.inl ⟨by kernel_rfl, fun W1 hW1 => by have q := blk_cell (o := 0) (v := .int .i64 c.st) hW1.c3 rfl; go_simp⟩) hS20 ?_
          try simp only [Act.put, List.setIfInBounds_toArray, List.set_cons_zero, List.set_cons_succ]
          refine wpAnyH_take (i := 9) (oi := ⟨some 85, _, _, _, _, _⟩) (v := .bool true) rfl (by kernel_rfl) (by kernel_rfl) (by kernel_rfl) (fun _ _ _ h => h) (.inl ⟨by kernel_rfl, fun W1 hW1 => by go_simp⟩) hS20 ?_
          try simp only [Act.put, List.setIfInBounds_toArray, List.set_cons_zero, List.set_cons_succ]
          refine wpAnyH_take (i := 10) (oi := ⟨some 86, _, _, _, _, _⟩) (v := .bool true) rfl (by kernel_rfl) (by kernel_rfl) (by kernel_rfl) (fun _ _ _ h => h) (.inl ⟨by kernel_rfl, fun W1 hW1 => by go_simp⟩) hS20 ?_
          try simp only [Act.put, List.setIfInBounds_toArray, List.set_cons_zero, List.set_cons_succ]
          refine wpAnyH_take (i := 11) (oi := ⟨some 87, _, _, _, _, _⟩) (v := undef) rfl (by kernel_rfl) (by kernel_rfl) (by kernel_rfl) (fun _ _ _ h => h) (Or.inr ⟨by kernel_rfl, rfl⟩) hS20 ?_
          try simp only [Act.put, List.setIfInBounds_toArray, List.set_cons_zero, List.set_cons_succ]
          refine wpAnyH_take (i := 12) (oi := ⟨some 88, _, _, _, _, _⟩) (v := undef) rfl (by kernel_rfl) (by kernel_rfl) (by kernel_rfl) (fun _ _ _ h => h) (Or.inr ⟨by kernel_rfl, rfl⟩) hS20 ?_
          try simp only [Act.put, List.setIfInBounds_toArray, List.set_cons_zero, List.set_cons_succ]
          refine wpAnyH_take (i := 13) (oi := ⟨some 89, _, _, _, _, _⟩) (v := undef) rfl (by kernel_rfl) (by kernel_rfl) (by kernel_rfl) (fun _ _ _ h => h) (Or.inr ⟨by kernel_rfl, rfl⟩) hS20 ?_
          try simp only [Act.put, List.setIfInBounds_toArray, List.set_cons_zero, List.set_cons_succ]
          refine wpAnyH_take (i := 14) (oi := ⟨some 90, _, _, _, _, _⟩) (v := .bool true) rfl (by kernel_rfl) (by kernel_rfl) (by kernel_rfl) (fun _ _ _ h => h) (.inl ⟨by kernel_rfl, fun W1 hW1 => by go_simp⟩) hS20 ?_
          try simp only [Act.put, List.setIfInBounds_toArray, List.set_cons_zero, List.set_cons_succ]
          refine wpAnyH_take (i := 15) (oi := ⟨some 91, _, _, _, _, _⟩) (v := .bool true) rfl (by kernel_rfl) (by kernel_rfl) (by kernel_rfl) (fun _ _ _ h => h) (.inl ⟨by kernel_rfl, fun W1 hW1 => by go_simp⟩) hS20 ?_
          try simp only [Act.put, List.setIfInBounds_toArray, List.set_cons_zero, List.set_cons_succ]
          refine wpAnyH_ready (rs := [16]) (by kernel_rfl) (by simp) ?_
          refine AllReadyH.cons (o := ⟨none, _, _, _, _, _⟩) rfl (fun K hK => ?_) AllReadyH.nil
          refine step_store_row rfl 35 (.tmp 6) (.tmp 76) rfl (w.heap.size + 1 + 1) (CA c) rfl rfl 35 (CA zcn) hn20.r6 (rca_inf c) rfl (ca_one c) ?_
          have hz := hS20.row (CA c)
          have hR2 := blk_setRow hn20.r6 (CA c)
          have hB2 := Below.setRow hn20.bel (show w.heap.size ≤ w.heap.size + 1 + 1 by omega) (CA c)
          refine hK.out _ _ hz (fun _ => ?_)
          clear hK K
          generalize w20.setRow (w.heap.size + 1 + 1) (CA c) = wz at *
          try simp only [Act.put, List.setIfInBounds_toArray, List.set_cons_zero, List.set_cons_succ]
          refine wpAnyH_take (i := 17) (oi := ⟨some 7, _, _, _, _, _⟩) (v := .bool true) rfl (by kernel_rfl) (by kernel_rfl) (by kernel_rfl) (fun _ _ _ h => h) (.inl ⟨by kernel_rfl, fun W1 hW1 => by go_simp⟩) hz ?_
          try simp only [Act.put, List.setIfInBounds_toArray, List.set_cons_zero, List.set_cons_succ]
          refine wpAnyH_done (by kernel_rfl) ?_ _
          try simp only [Act.put, List.setIfInBounds_toArray, List.set_cons_zero, List.set_cons_succ]
          go_wp2_with fail
          refine bodyPost_ret_by (res_row Try.results12 _ _ (w.heap.size + 1 + 1) 35 (CA c) _ rfl hR2 Try.underlying35 (rca_inf c)) rfl ?_
          exact ⟨_, by rw [OK.out] <;> rfl, hB2⟩
        · have hq1b : (c.st == 1) = false := by simpa using hq1
          by_cases hq2 : c.st = 2
          · have hq2b : (c.st == 2) = true := by simpa using hq2
            have OK : Hid (ok = true) := Lib.hid (by rw [HR.out, nextP_b, HXE.out, HYE.out, st_again H0.out HB2.out hxs] <;> simp [hba, hen, hq2])
            clear hq1 hq2
            have hn0 := HX.out.below (bel_dr (Below.refl _ _))
            refine wp_region_held_drew (S := fun W1 : World => NA w W1 c x t) (by kernel_rfl) hn0.na (fun hH => ?_)
            have hH0 := hn0.na
            obtain ⟨wd, hwd⟩ : ∃ q, q = wh.drew := ⟨_, rfl⟩
            rw [← hwd] at hn0 hH0 hH ⊢
            clear hwd
            refine wpAnyH_take (i := 0) (oi := ⟨some 76, _, _, _, _, _⟩) (v := .agg (CA c)) rfl (by kernel_rfl) (by kernel_rfl) (by kernel_rfl) (fun _ _ _ h => h) (yields_rowK (by kernel_rfl) 35 _ rfl w.heap.size rfl (CA c) 35 _ (fun W hW => hW.c3) Try.underlying35 rfl (rca_inf _)) hH0 ?_
            try simp only [Act.put, List.setIfInBounds_toArray, List.set_cons_zero, List.set_cons_succ]
            refine wpAnyH_take (i := 1) (oi := ⟨some 77, _, _, _, _, _⟩) (v := .agg (TA t)) rfl (by kernel_rfl) (by kernel_rfl) (by kernel_rfl) (fun _ _ _ h => h) (yields_rowK (by kernel_rfl) 38 _ rfl (w.heap.size + 1) rfl (TA t) 38 _ (fun W hW => hW.t5) Try.underlying38 rfl (rta_inf t)) hH0 ?_
            try simp only [Act.put, List.setIfInBounds_toArray, List.set_cons_zero, List.set_cons_succ]
            refine wpAnyH_take (i := 3) (oi := ⟨some 79, _, _, _, _, _⟩) (v := .pointer (some ⟨w.heap.size + 1 + 1 + 1, 1, none⟩)) rfl (by kernel_rfl) (by kernel_rfl) (by kernel_rfl) (fun _ _ _ h => h) (.inl ⟨by kernel_rfl, fun W1 hW1 => by go_simp⟩) hH0 ?_
            try simp only [Act.put, List.setIfInBounds_toArray, List.set_cons_zero, List.set_cons_succ]
            refine wpAnyH_take (i := 4) (oi := ⟨some 80, _, _, _, _, _⟩) (v := .int .u32 x.e) rfl (by kernel_rfl) (by kernel_rfl) (by kernel_rfl) (fun _ _ _ h => h) (.inl ⟨by kernel_rfl, fun W1 hW1 => by have q := blk_cell (o := 1) (v := .int .u32 x.e) hW1.x8 rfl; go_simp⟩) hH0 ?_
            try simp only [Act.put, List.setIfInBounds_toArray, List.set_cons_zero, List.set_cons_succ]
            refine wpAnyH_ready (rs := [2]) (by kernel_rfl) (by simp) ?_
            refine AllReadyH.cons (o := ⟨some 78, _, _, _, _, _⟩) rfl (fun K hK => ?_) AllReadyH.nil
            go_simp
            go_at_call 17
            ((with_reducible refine (rend_any t _).mono ?_); rintro e w20 ⟨rfl, b20⟩)
            have hn20 := hn0.below b20
            have hS20 := hn20.na
            refine hK.out _ _ hS20 (fun _ => ?_)
            clear hK K
            try simp only [Act.put, List.setIfInBounds_toArray, List.set_cons_zero, List.set_cons_succ]
            refine wpAnyH_take (i := 5) (oi := ⟨some 81, _, _, _, _, _⟩) (v := .bool true) rfl (by kernel_rfl) (by kernel_rfl) (by kernel_rfl) (fun _ _ _ h => h) (.inl ⟨by kernel_rfl, fun W1 hW1 => by go_simp⟩) hS20 ?_
            try simp only [Act.put, List.setIfInBounds_toArray, List.set_cons_zero, List.set_cons_succ]
            refine wpAnyH_take (i := 6) (oi := ⟨some 82, _, _, _, _, _⟩) (v := .bool true) rfl (by kernel_rfl) (by kernel_rfl) (by kernel_rfl) (fun _ _ _ h => h) (.inl ⟨by kernel_rfl, fun W1 hW1 => by go_simp⟩) hS20 ?_
            try simp only [Act.put, List.setIfInBounds_toArray, List.set_cons_zero, List.set_cons_succ]
            refine wpAnyH_take (i := 7) (oi := ⟨some 83, _, _, _, _, _⟩) (v := .pointer (some ⟨w.heap.size, 0, none⟩)) rfl (by kernel_rfl) (by kernel_rfl) (by kernel_rfl) (fun _ _ _ h => h) (.inl ⟨by kernel_rfl, fun W1 hW1 => by go_simp⟩) hS20 ?_
            try simp only [Act.put, List.setIfInBounds_toArray, List.set_cons_zero, List.set_cons_succ]
            refine wpAnyH_take (i := 8) (oi := ⟨some 84, _, _, _, _, _⟩) (v := .int .i64 c.st) rfl (by kernel_rfl) (by kernel_rfl) (by kernel_rfl) (fun _ _ _ h => h) (.inl ⟨by kernel_rfl, fun W1 hW1 => by have q := blk_cell (o := 0) (v := .int .i64 c.st) hW1.c3 rfl; go_simp⟩) hS20 ?_
            try simp only [Act.put, List.setIfInBounds_toArray, List.set_cons_zero, List.set_cons_succ]
            refine wpAnyH_take (i := 9) (oi := ⟨some 85, _, _, _, _, _⟩) (v := .bool false) rfl (by kernel_rfl) (by kernel_rfl) (by kernel_rfl) (fun _ _ _ h => h) (.inl ⟨by kernel_rfl, fun W1 hW1 => by go_simp⟩) hS20 ?_
            try simp only [Act.put, List.setIfInBounds_toArray, List.set_cons_zero, List.set_cons_succ]
            refine wpAnyH_take (i := 10) (oi := ⟨some 86, _, _, _, _, _⟩) (v := .bool false) rfl (by kernel_rfl) (by kernel_rfl) (by kernel_rfl) (fun _ _ _ h => h) (.inl ⟨by kernel_rfl, fun W1 hW1 => by go_simp⟩) hS20 ?_
            try simp only [Act.put, List.setIfInBounds_toArray, List.set_cons_zero, List.set_cons_succ]
            refine wpAnyH_take (i := 11) (oi := ⟨some 87, _, _, _, _, _⟩) (v := .pointer (some ⟨w.heap.size, 0, none⟩)) rfl (by kernel_rfl) (by kernel_rfl) (by kernel_rfl) (fun _ _ _ h => h) (.inl ⟨by kernel_rfl, fun W1 hW1 => by go_simp⟩) hS20 ?_
            try simp only [Act.put, List.setIfInBounds_toArray, List.set_cons_zero, List.set_cons_succ]
            refine wpAnyH_take (i := 12) (oi := ⟨some 88, _, _, _, _, _⟩) (v := .int .i64 c.st) rfl (by kernel_rfl) (by kernel_rfl) (by kernel_rfl) (fun _ _ _ h => h) (.inl ⟨by kernel_rfl, fun W1 hW1 => by have q := blk_cell (o := 0) (v := .int .i64 c.st) hW1.c3 rfl; go_simp⟩) hS20 ?_
            try simp only [Act.put, List.setIfInBounds_toArray, List.set_cons_zero, List.set_cons_succ]
            refine wpAnyH_take (i := 13) (oi := ⟨some 89, _, _, _, _, _⟩) (v := .bool true) rfl (by kernel_rfl) (by kernel_rfl) (by kernel_rfl) (fun _ _ _ h => h) (.inl ⟨by kernel_rfl, fun W1 hW1 => by go_simp⟩) hS20 ?_
            try simp only [Act.put, List.setIfInBounds_toArray, List.set_cons_zero, List.set_cons_succ]
            refine wpAnyH_take (i := 14) (oi := ⟨some 90, _, _, _, _, _⟩) (v := .bool true) rfl (by kernel_rfl) (by kernel_rfl) (by kernel_rfl) (fun _ _ _ h => h) (.inl ⟨by kernel_rfl, fun W1 hW1 => by go_simp⟩) hS20 ?_
            try simp only [Act.put, List.setIfInBounds_toArray, List.set_cons_zero, List.set_cons_succ]
            refine wpAnyH_take (i := 15) (oi := ⟨some 91, _, _, _, _, _⟩) (v := .bool true) rfl (by kernel_rfl) (by kernel_rfl) (by kernel_rfl) (fun _ _ _ h => h) (.inl ⟨by kernel_rfl, fun W1 hW1 => by go_simp⟩) hS20 ?_
            try simp only [Act.put, List.setIfInBounds_toArray, List.set_cons_zero, List.set_cons_succ]
            refine wpAnyH_ready (rs := [16]) (by kernel_rfl) (by simp) ?_
            refine AllReadyH.cons (o := ⟨none, _, _, _, _, _⟩) rfl (fun K hK => ?_) AllReadyH.nil
            refine step_store_row rfl 35 (.tmp 6) (.tmp 76) rfl (w.heap.size + 1 + 1) (CA c) rfl rfl 35 (CA zcn) hn20.r6 (rca_inf c) rfl (ca_one c) ?_
            have hz := hS20.row (CA c)
            have hR2 := blk_setRow hn20.r6 (CA c)
            have hB2 := Below.setRow hn20.bel (show w.heap.size ≤ w.heap.size + 1 + 1 by omega) (CA c)
            refine hK.out _ _ hz (fun _ => ?_)
            clear hK K
            generalize w20.setRow (w.heap.size + 1 + 1) (CA c) = wz at *
            try simp only [Act.put, List.setIfInBounds_toArray, List.set_cons_zero, List.set_cons_succ]
            refine wpAnyH_take (i := 17) (oi := ⟨some 7, _, _, _, _, _⟩) (v := .bool true) rfl (by kernel_rfl) (by kernel_rfl) (by kernel_rfl) (fun _ _ _ h => h) (.inl ⟨by kernel_rfl, fun W1 hW1 => by go_simp⟩) hz ?_
            try simp only [Act.put, List.setIfInBounds_toArray, List.set_cons_zero, List.set_cons_succ]
            refine wpAnyH_done (by kernel_rfl) ?_ _
            try simp only [Act.put, List.setIfInBounds_toArray, List.set_cons_zero, List.set_cons_succ]
            go_wp2_with fail
            refine bodyPost_ret_by (res_row Try.results12 _ _ (w.heap.size + 1 + 1) 35 (CA c) _ rfl hR2 Try.underlying35 (rca_inf c)) rfl ?_
            exact ⟨_, by rw [OK.out] <;> rfl, hB2⟩
          · have hq2b : (c.st == 2) = false := by simpa using hq2
            have OK : Hid (ok = false) := Lib.hid (by rw [HR.out, nextP_b, HXE.out, HYE.out, st_again H0.out HB2.out hxs] <;> (simp [hba, hen]; omega))
            clear hq1 hq2
            have hn0 := HX.out.below (bel_dr (Below.refl _ _))
            refine wp_region_held_drew (S := fun W1 : World => NA w W1 c x t) (by kernel_rfl) hn0.na (fun hH => ?_)
            have hH0 := hn0.na
            obtain ⟨wd, hwd⟩ : ∃ q, q = wh.drew := ⟨_, rfl⟩
            rw [← hwd] at hn0 hH0 hH ⊢
            clear hwd
            refine wpAnyH_take (i := 0) (oi := ⟨some 76, _, _, _, _, _⟩) (v := .agg (CA c)) rfl (by kernel_rfl) (by kernel_rfl) (by kernel_rfl) (fun _ _ _ h => h) (yields_rowK (by kernel_rfl) 35 _ rfl w.heap.size rfl (CA c) 35 _ (fun W hW => hW.c3) Try.underlying35 rfl (rca_inf _)) hH0 ?_
            try simp only [Act.put, List.setIfInBounds_toArray, List.set_cons_zero, List.set_cons_succ]
            refine wpAnyH_take (i := 1) (oi := ⟨some 77, _, _, _, _, _⟩) (v := .agg (TA t)) rfl (by kernel_rfl) (by kernel_rfl) (by kernel_rfl) (fun _ _ _ h => h) (yields_rowK (by kernel_rfl) 38 _ rfl (w.heap.size + 1) rfl (TA t) 38 _ (fun W hW => hW.t5) Try.underlying38 rfl (rta_inf t)) hH0 ?_
            try simp only [Act.put, List.setIfInBounds_toArray, List.set_cons_zero, List.set_cons_succ]
            refine wpAnyH_take (i := 3) (oi := ⟨some 79, _, _, _, _, _⟩) (v := .pointer (some ⟨w.heap.size + 1 + 1 + 1, 1, none⟩)) rfl (by kernel_rfl) (by kernel_rfl) (by kernel_rfl) (fun _ _ _ h => h) (.inl ⟨by kernel_rfl, fun W1 hW1 => by go_simp⟩) hH0 ?_
            try simp only [Act.put, List.setIfInBounds_toArray, List.set_cons_zero, List.set_cons_succ]
            refine wpAnyH_take (i := 4) (oi := ⟨some 80, _, _, _, _, _⟩) (v := .int .u32 x.e) rfl (by kernel_rfl) (by kernel_rfl) (by kernel_rfl) (fun _ _ _ h => h) (.inl ⟨by kernel_rfl, fun W1 hW1 => by have q := blk_cell (o := 1) (v := .int .u32 x.e) hW1.x8 rfl; go_simp⟩) hH0 ?_
            try simp only [Act.put, List.setIfInBounds_toArray, List.set_cons_zero, List.set_cons_succ]
            refine wpAnyH_ready (rs := [2]) (by kernel_rfl) (by simp) ?_
            refine AllReadyH.cons (o := ⟨some 78, _, _, _, _, _⟩) rfl (fun K hK => ?_) AllReadyH.nil
            go_simp
            go_at_call 17
            ((with_reducible refine (rend_any t _).mono ?_); rintro e w20 ⟨rfl, b20⟩)
            have hn20 := hn0.below b20
            have hS20 := hn20.na
            refine hK.out _ _ hS20 (fun _ => ?_)
            clear hK K
            try simp only [Act.put, List.setIfInBounds_toArray, List.set_cons_zero, List.set_cons_succ]
            refine wpAnyH_take (i := 5) (oi := ⟨some 81, _, _, _, _, _⟩) (v := .bool true) rfl (by kernel_rfl) (by kernel_rfl) (by kernel_rfl) (fun _ _ _ h => h) (.inl ⟨by kernel_rfl, fun W1 hW1 => by go_simp⟩) hS20 ?_
            try simp only [Act.put, List.setIfInBounds_toArray, List.set_cons_zero, List.set_cons_succ]
            refine wpAnyH_take (i := 6) (oi := ⟨some 82, _, _, _, _, _⟩) (v := .bool true) rfl (by kernel_rfl) (by kernel_rfl) (by kernel_rfl) (fun _ _ _ h => h) (.inl ⟨by kernel_rfl, fun W1 hW1 => by go_simp⟩) hS20 ?_
            try simp only [Act.put, List.setIfInBounds_toArray, List.set_cons_zero, List.set_cons_succ]
            refine wpAnyH_take (i := 7) (oi := ⟨some 83, _, _, _, _, _⟩) (v := .pointer (some ⟨w.heap.size, 0, none⟩)) rfl (by kernel_rfl) (by kernel_rfl) (by kernel_rfl) (fun _ _ _ h => h) (.inl ⟨by kernel_rfl, fun W1 hW1 => by go_simp⟩) hS20 ?_
            try simp only [Act.put, List.setIfInBounds_toArray, List.set_cons_zero, List.set_cons_succ]
            refine wpAnyH_take (i := 8) (oi := ⟨some 84, _, _, _, _, _⟩) (v := .int .i64 c.st) rfl (by kernel_rfl) (by kernel_rfl) (by kernel_rfl) (fun _ _ _ h => h) (.inl ⟨by kernel_rfl, fun W1 hW1 => by have q := blk_cell (o := 0) (v := .int .i64 c.st) hW1.c3 rfl; go_simp⟩) hS20 ?_
            try simp only [Act.put, List.setIfInBounds_toArray, List.set_cons_zero, List.set_cons_succ]
            refine wpAnyH_take (i := 9) (oi := ⟨some 85, _, _, _, _, _⟩) (v := .bool false) rfl (by kernel_rfl) (by kernel_rfl) (by kernel_rfl) (fun _ _ _ h => h) (.inl ⟨by kernel_rfl, fun W1 hW1 => by go_simp⟩) hS20 ?_
            try simp only [Act.put, List.setIfInBounds_toArray, List.set_cons_zero, List.set_cons_succ]
            refine wpAnyH_take (i := 10) (oi := ⟨some 86, _, _, _, _, _⟩) (v := .bool false) rfl (by kernel_rfl) (by kernel_rfl) (by kernel_rfl) (fun _ _ _ h => h) (.inl ⟨by kernel_rfl, fun W1 hW1 => by go_simp⟩) hS20 ?_
            try simp only [Act.put, List.setIfInBounds_toArray, List.set_cons_zero, List.set_cons_succ]
            refine wpAnyH_take (i := 11) (oi := ⟨some 87, _, _, _, _, _⟩) (v := .pointer (some ⟨w.heap.size, 0, none⟩)) rfl (by kernel_rfl) (by kernel_rfl) (by kernel_rfl) (fun _ _ _ h => h) (.inl ⟨by kernel_rfl, fun W1 hW1 => by go_simp⟩) hS20 ?_
            try simp only [Act.put, List.setIfInBounds_toArray, List.set_cons_zero, List.set_cons_succ]
            refine wpAnyH_take (i := 12) (oi := ⟨some 88, _, _, _, _, _⟩) (v := .int .i64 c.st) rfl (by kernel_rfl) (by kernel_rfl) (by kernel_rfl) (fun _ _ _ h => h) (.inl ⟨by kernel_rfl, fun W1 hW1 => by have q := blk_cell (o := 0) (v := .int .i64 c.st) hW1.c3 rfl; go_simp⟩) hS20 ?_
            try simp only [Act.put, List.setIfInBounds_toArray, List.set_cons_zero, List.set_cons_succ]
            refine wpAnyH_take (i := 13) (oi := ⟨some 89, _, _, _, _, _⟩) (v := .bool false) rfl (by kernel_rfl) (by kernel_rfl) (by kernel_rfl) (fun _ _ _ h => h) (.inl ⟨by kernel_rfl, fun W1 hW1 => by go_simp⟩) hS20 ?_
            try simp only [Act.put, List.setIfInBounds_toArray, List.set_cons_zero, List.set_cons_succ]
            refine wpAnyH_take (i := 14) (oi := ⟨some 90, _, _, _, _, _⟩) (v := .bool false) rfl (by kernel_rfl) (by kernel_rfl) (by kernel_rfl) (fun _ _ _ h => h) (.inl ⟨by kernel_rfl, fun W1 hW1 => by go_simp⟩) hS20 ?_
            try simp only [Act.put, List.setIfInBounds_toArray, List.set_cons_zero, List.set_cons_succ]
            refine wpAnyH_take (i := 15) (oi := ⟨some 91, _, _, _, _, _⟩) (v := .bool false) rfl (by kernel_rfl) (by kernel_rfl) (by kernel_rfl) (fun _ _ _ h => h) (.inl ⟨by kernel_rfl, fun W1 hW1 => by go_simp⟩) hS20 ?_
            try simp only [Act.put, List.setIfInBounds_toArray, List.set_cons_zero, List.set_cons_succ]
            refine wpAnyH_ready (rs := [16]) (by kernel_rfl) (by simp) ?_
            refine AllReadyH.cons (o := ⟨none, _, _, _, _, _⟩) rfl (fun K hK => ?_) AllReadyH.nil
            refine step_store_row rfl 35 (.tmp 6) (.tmp 76) rfl (w.heap.size + 1 + 1) (CA c) rfl rfl 35 (CA zcn) hn20.r6 (rca_inf c) rfl (ca_one c) ?_
            have hz := hS20.row (CA c)
            have hR2 := blk_setRow hn20.r6 (CA c)
            have hB2 := Below.setRow hn20.bel (show w.heap.size ≤ w.heap.size + 1 + 1 by omega) (CA c)
            refine hK.out _ _ hz (fun _ => ?_)
            clear hK K
            generalize w20.setRow (w.heap.size + 1 + 1) (CA c) = wz at *
            try simp only [Act.put, List.setIfInBounds_toArray, List.set_cons_zero, List.set_cons_succ]
            refine wpAnyH_take (i := 17) (oi := ⟨some 7, _, _, _, _, _⟩) (v := .bool false) rfl (by kernel_rfl) (by kernel_rfl) (by kernel_rfl) (fun _ _ _ h => h) (.inl ⟨by kernel_rfl, fun W1 hW1 => by go_simp⟩) hz ?_
            try simp only [Act.put, List.setIfInBounds_toArray, List.set_cons_zero, List.set_cons_succ]
            refine wpAnyH_done (by kernel_rfl) ?_ _
            try simp only [Act.put, List.setIfInBounds_toArray, List.set_cons_zero, List.set_cons_succ]
            go_wp2_with fail
            refine bodyPost_ret_by (res_row Try.results12 _ _ (w.heap.size + 1 + 1) 35 (CA c) _ rfl hR2 Try.underlying35 (rca_inf c)) rfl ?_
            exact ⟨_, by rw [OK.out] <;> rfl, hB2⟩

set_option maxRecDepth 100000 in
set_option maxHeartbeats 16000000 in
theorem rn_synft_b (c : CN) (t : TR) (w : World) (hs1 : decide (c.st < 1) = false) (hs5 : decide (4 < c.st) = false) (h16 : hb t 16 = false) (hys : c.a.seen = true) (hl : True) (hst : strayP t c.a = false) (h2 : hb t 2 = true) (h4 : True) (hxs : True) (hl1 : True) (hl2 : True) : Calls Try.prog 12 #[.agg (CA c), .bool true, .agg (TA t)] w (ROK w (nextP c true t).2) := by
  clear hl h4 hxs hl1 hl2
  obtain ⟨x, hxe⟩ : ∃ x, c.b = x := ⟨_, rfl⟩
  obtain ⟨y, hye⟩ : ∃ y, c.a = y := ⟨_, rfl⟩
  rw [hye] at hys hst
  obtain ⟨W, hW⟩ : ∃ W, W = ((((w.alloc (.cells (CA c) 35)).alloc (.cells (TA t) 38)).alloc (.cells #[.int .i64 0, .bool false, .int .u32 0, .int .u32 0, .bool false, .bool false, .int .u32 0, .int .u32 0, .bool false] 35)).alloc (.cells (SA c.b) 33)).alloc (.cells (SA c.a) 33) := ⟨_, rfl⟩
  have HX : Hid (NR w W c x y t) := Lib.hid (by
    rw [hW, ← hxe, ← hye]
    exact ⟨blk_al (blk_al (blk_al (blk_al (blk_new w _)))), blk_al (blk_al (blk_al (blk_new2 _ _ (by simp)))), blk_al (blk_al (blk_new2 _ _ (by simp))), blk_al (blk_new2 _ _ (by simp)), blk_new2 _ _ (by simp), Below.al (Below.al (Below.al (Below.al (bel_al _ _) (by simp) _) (by simp; omega) _) (by simp; omega) _) (by simp; omega) _⟩)
  have HXE := Lib.hid hxe
  have HYE := Lib.hid hye
  clear hxe hye
  obtain ⟨ok, hok⟩ : ∃ o, o = (nextP c true t).2 := ⟨_, rfl⟩
  rw [← hok]
  have HR := Lib.hid hok
  clear hok
  have hs50 : decide (5 ≤ c.st) = false := by first | (simp at hs5 ⊢; omega)
  simp only [CA, SA, TA] at hW
  simp only [CA, TA]
  go_enter Try.func12, Try.ntmps12
  go_upto_region 6 with fail
  rw [← hW]
  clear hW
  generalize Value.agg #[Value.int IntKind.i64 c.st, Value.bool c.a.seen, Value.int IntKind.u32 c.a.e, Value.int IntKind.u32 c.a.m, Value.bool c.a.fin, Value.bool c.b.seen, Value.int IntKind.u32 c.b.e, Value.int IntKind.u32 c.b.m, Value.bool c.b.fin] = cv
  generalize Value.agg #[Value.int IntKind.i64 t.sp, Value.int IntKind.i64 t.dp, Value.int IntKind.u32 t.sq, Value.int IntKind.u32 t.ak, Value.int IntKind.i64 t.fl, Value.int IntKind.i64 t.wi, Value.int IntKind.i64 t.ty, Value.int IntKind.i64 t.co, Value.int IntKind.i64 t.he, Value.int IntKind.i64 t.da] = tv
  try generalize Value.agg #[Value.bool c.a.seen, Value.int IntKind.u32 c.a.e, Value.int IntKind.u32 c.a.m, Value.bool c.a.fin] = av
  try generalize Value.agg #[Value.bool c.b.seen, Value.int IntKind.u32 c.b.e, Value.int IntKind.u32 c.b.m, Value.bool c.b.fin] = bv
  obtain ⟨k0, k1, k2, k3, k4, k5, k6, k7, k8, k9, k10, k11, k12, k13, k14, k15, k16, k17⟩ := HX.out.cells
  have H0 : Hid ((decide (c.st < 1) || decide (5 ≤ c.st) || strayP t y) = false) := Lib.hid (by rw [hs1, hs50, hst]; rfl)
  clear hst
  rw [hys] at k10
  go_upto_region 10 with (first | ((with_reducible refine stop_op (o := ⟨some 32, _, _, _, _, _⟩) ?_); refine Lib.hid ?_; refine wpList_load_cells_on (by rfl) 38 (.tmp 5) rfl ⟨w.heap.size + 1, 0, none⟩ rfl (TA t) _ (blk_all HX.out.t5) Try.underlying38 rfl (rta_inf t) ?_) | ((with_reducible refine stop_op (o := ⟨some 43, _, _, _, _, _⟩) ?_); refine Lib.hid ?_; refine wpList_load_cells_on (by rfl) 38 (.tmp 5) rfl ⟨w.heap.size + 1, 0, none⟩ rfl (TA t) _ (blk_all HX.out.t5) Try.underlying38 rfl (rta_inf t) ?_) | ((with_reducible refine stop_op (o := ⟨some 47, _, _, _, _, _⟩) ?_); refine Lib.hid ?_; refine wpList_load_cells_on (by rfl) 38 (.tmp 5) rfl ⟨w.heap.size + 1, 0, none⟩ rfl (TA t) _ (blk_all HX.out.t5) Try.underlying38 rfl (rta_inf t) ?_) | ((with_reducible refine stop_op (o := ⟨some 52, _, _, _, _, _⟩) ?_); refine Lib.hid ?_; refine wpList_load_cells_on (by rfl) 38 (.tmp 5) rfl ⟨w.heap.size + 1, 0, none⟩ rfl (TA t) _ (blk_all HX.out.t5) Try.underlying38 rfl (rta_inf t) ?_) | (go_at_call 26; ((with_reducible refine (rhas_any t _ _).mono ?_); rintro e wh ⟨rfl, bh⟩); have HX := Lib.hid (HX.out.below bh); clear bh; clear k0 k1 k2 k3 k4 k5 k6 k7 k8 k9 k10 k11 k12 k13 k14 k15 k16 k17; obtain ⟨k0, k1, k2, k3, k4, k5, k6, k7, k8, k9, k10, k11, k12, k13, k14, k15, k16, k17⟩ := HX.out.cells) | (go_at_call 27; ((with_reducible refine (rlessB _ _ _).mono ?_); rintro e wh ⟨rfl, bh⟩); have HX := Lib.hid (HX.out.below bh); clear bh; clear k0 k1 k2 k3 k4 k5 k6 k7 k8 k9 k10 k11 k12 k13 k14 k15 k16 k17; obtain ⟨k0, k1, k2, k3, k4, k5, k6, k7, k8, k9, k10, k11, k12, k13, k14, k15, k16, k17⟩ := HX.out.cells) | (go_at_call 28; ((with_reducible refine (rgrE _ _ _).mono ?_); rintro e wh ⟨G, rfl, bh⟩); have HX := Lib.hid (HX.out.below bh); clear bh; clear k0 k1 k2 k3 k4 k5 k6 k7 k8 k9 k10 k11 k12 k13 k14 k15 k16 k17; obtain ⟨k0, k1, k2, k3, k4, k5, k6, k7, k8, k9, k10, k11, k12, k13, k14, k15, k16, k17⟩ := HX.out.cells))
  clear hs5
  have HB2 := Lib.hid h2
  rcases hba : bareP t with _ | _
  · cases hxs : x.seen
    · have OK : Hid (ok = false) := Lib.hid (by rw [HR.out, nextP_b, HXE.out, HYE.out, st_synNo H0.out HB2.out hxs (by rw [hba]; rfl)] <;> rfl)
      unfold bareP at hba
      rw [hb5] at hba
      rcases h1 : hb t 1 with _ | _
      · rcases h4' : hb t 4 with _ | _
        · rw [h1, h4'] at hba
          have hda : (t.da != 0) = true := by simpa [bne] using hba
          clear hba
          go_wp2_with (first | ((with_reducible refine stop_op (o := ⟨some 60, _, _, _, _, _⟩) ?_); refine Lib.hid ?_; refine wpList_load_cells_on (by rfl) 38 (.tmp 5) rfl ⟨w.heap.size + 1, 0, none⟩ rfl (TA t) _ (blk_all HX.out.t5) Try.underlying38 rfl (rta_inf t) ?_) | ((with_reducible refine stop_op (o := ⟨some 62, _, _, _, _, _⟩) ?_); refine Lib.hid ?_; refine wpList_load_cells_on (by rfl) 38 (.tmp 5) rfl ⟨w.heap.size + 1, 0, none⟩ rfl (TA t) _ (blk_all HX.out.t5) Try.underlying38 rfl (rta_inf t) ?_) | ((with_reducible refine stop_op (o := ⟨some 65, _, _, _, _, _⟩) ?_); refine Lib.hid ?_; refine wpList_load_cells_on (by rfl) 38 (.tmp 5) rfl ⟨w.heap.size + 1, 0, none⟩ rfl (TA t) _ (blk_all HX.out.t5) Try.underlying38 rfl (rta_inf t) ?_) | (go_at_call 26; ((with_reducible refine (rhas_any t _ _).mono ?_); rintro e wh ⟨rfl, bh⟩); have HX := Lib.hid (HX.out.below bh); clear bh; clear k0 k1 k2 k3 k4 k5 k6 k7 k8 k9 k10 k11 k12 k13 k14 k15 k16 k17; obtain ⟨k0, k1, k2, k3, k4, k5, k6, k7, k8, k9, k10, k11, k12, k13, k14, k15, k16, k17⟩ := HX.out.cells) | (go_at_call 27; ((with_reducible refine (rlessB _ _ _).mono ?_); rintro e wh ⟨rfl, bh⟩); have HX := Lib.hid (HX.out.below bh); clear bh; clear k0 k1 k2 k3 k4 k5 k6 k7 k8 k9 k10 k11 k12 k13 k14 k15 k16 k17; obtain ⟨k0, k1, k2, k3, k4, k5, k6, k7, k8, k9, k10, k11, k12, k13, k14, k15, k16, k17⟩ := HX.out.cells) | (go_at_call 28; ((with_reducible refine (rgrE _ _ _).mono ?_); rintro e wh ⟨G, rfl, bh⟩); have HX := Lib.hid (HX.out.below bh); clear bh; clear k0 k1 k2 k3 k4 k5 k6 k7 k8 k9 k10 k11 k12 k13 k14 k15 k16 k17; obtain ⟨k0, k1, k2, k3, k4, k5, k6, k7, k8, k9, k10, k11, k12, k13, k14, k15, k16, k17⟩ := HX.out.cells) | ((with_reducible refine stop_op (o := ⟨some 73, _, _, _, _, _⟩) ?_); refine Lib.hid ?_; refine wpList_load_cells rfl 35 (.tmp 3) rfl ⟨w.heap.size, 0, none⟩ rfl (CA (c)) _ (blk_all HX.out.c3) Try.underlying35 rfl (rca_inf _) ?_) | ((with_reducible refine stop_op (o := ⟨none, _, _, _, _, _⟩) ?_); refine Lib.hid ?_; refine wpList_store_row rfl 35 (.tmp 6) (.tmp 73) rfl (w.heap.size + 1 + 1) (CA (c)) rfl rfl 35 (CA zcn) (HX.out.r6) (rca_inf _) rfl (ca_one _) ?_))
          refine bodyPost_ret_by (res_row Try.results12 _ _ (w.heap.size + 1 + 1) 35 (CA (c)) _ rfl (blk_setRow HX.out.r6 _) Try.underlying35 (rca_inf _)) rfl ?_
          exact ⟨_, by rw [OK.out] <;> rfl, Below.setRow HX.out.bel (by omega) _⟩
        · clear hba
          go_wp2_with (first | ((with_reducible refine stop_op (o := ⟨some 60, _, _, _, _, _⟩) ?_); refine Lib.hid ?_; refine wpList_load_cells_on (by rfl) 38 (.tmp 5) rfl ⟨w.heap.size + 1, 0, none⟩ rfl (TA t) _ (blk_all HX.out.t5) Try.underlying38 rfl (rta_inf t) ?_) | ((with_reducible refine stop_op (o := ⟨some 62, _, _, _, _, _⟩) ?_); refine Lib.hid ?_; refine wpList_load_cells_on (by rfl) 38 (.tmp 5) rfl ⟨w.heap.size + 1, 0, none⟩ rfl (TA t) _ (blk_all HX.out.t5) Try.underlying38 rfl (rta_inf t) ?_) | ((with_reducible refine stop_op (o := ⟨some 65, _, _, _, _, _⟩) ?_); refine Lib.hid ?_; refine wpList_load_cells_on (by rfl) 38 (.tmp 5) rfl ⟨w.heap.size + 1, 0, none⟩ rfl (TA t) _ (blk_all HX.out.t5) Try.underlying38 rfl (rta_inf t) ?_) | (go_at_call 26; ((with_reducible refine (rhas_any t _ _).mono ?_); rintro e wh ⟨rfl, bh⟩); have HX := Lib.hid (HX.out.below bh); clear bh; clear k0 k1 k2 k3 k4 k5 k6 k7 k8 k9 k10 k11 k12 k13 k14 k15 k16 k17; obtain ⟨k0, k1, k2, k3, k4, k5, k6, k7, k8, k9, k10, k11, k12, k13, k14, k15, k16, k17⟩ := HX.out.cells) | (go_at_call 27; ((with_reducible refine (rlessB _ _ _).mono ?_); rintro e wh ⟨rfl, bh⟩); have HX := Lib.hid (HX.out.below bh); clear bh; clear k0 k1 k2 k3 k4 k5 k6 k7 k8 k9 k10 k11 k12 k13 k14 k15 k16 k17; obtain ⟨k0, k1, k2, k3, k4, k5, k6, k7, k8, k9, k10, k11, k12, k13, k14, k15, k16, k17⟩ := HX.out.cells) | (go_at_call 28; ((with_reducible refine (rgrE _ _ _).mono ?_); rintro e wh ⟨G, rfl, bh⟩); have HX := Lib.hid (HX.out.below bh); clear bh; clear k0 k1 k2 k3 k4 k5 k6 k7 k8 k9 k10 k11 k12 k13 k14 k15 k16 k17; obtain ⟨k0, k1, k2, k3, k4, k5, k6, k7, k8, k9, k10, k11, k12, k13, k14, k15, k16, k17⟩ := HX.out.cells) | ((with_reducible refine stop_op (o := ⟨some 73, _, _, _, _, _⟩) ?_); refine Lib.hid ?_; refine wpList_load_cells rfl 35 (.tmp 3) rfl ⟨w.heap.size, 0, none⟩ rfl (CA (c)) _ (blk_all HX.out.c3) Try.underlying35 rfl (rca_inf _) ?_) | ((with_reducible refine stop_op (o := ⟨none, _, _, _, _, _⟩) ?_); refine Lib.hid ?_; refine wpList_store_row rfl 35 (.tmp 6) (.tmp 73) rfl (w.heap.size + 1 + 1) (CA (c)) rfl rfl 35 (CA zcn) (HX.out.r6) (rca_inf _) rfl (ca_one _) ?_))
          refine bodyPost_ret_by (res_row Try.results12 _ _ (w.heap.size + 1 + 1) 35 (CA (c)) _ rfl (blk_setRow HX.out.r6 _) Try.underlying35 (rca_inf _)) rfl ?_
          exact ⟨_, by rw [OK.out] <;> rfl, Below.setRow HX.out.bel (by omega) _⟩
      · clear hba
        go_wp2_with (first | ((with_reducible refine stop_op (o := ⟨some 60, _, _, _, _, _⟩) ?_); refine Lib.hid ?_; refine wpList_load_cells_on (by rfl) 38 (.tmp 5) rfl ⟨w.heap.size + 1, 0, none⟩ rfl (TA t) _ (blk_all HX.out.t5) Try.underlying38 rfl (rta_inf t) ?_) | ((with_reducible refine stop_op (o := ⟨some 62, _, _, _, _, _⟩) ?_); refine Lib.hid ?_; refine wpList_load_cells_on (by rfl) 38 (.tmp 5) rfl ⟨w.heap.size + 1, 0, none⟩ rfl (TA t) _ (blk_all HX.out.t5) Try.underlying38 rfl (rta_inf t) ?_) | ((with_reducible refine stop_op (o := ⟨some 65, _, _, _, _, _⟩) ?_); refine Lib.hid ?_; refine wpList_load_cells_on (by rfl) 38 (.tmp 5) rfl ⟨w.heap.size + 1, 0, none⟩ rfl (TA t) _ (blk_all HX.out.t5) Try.underlying38 rfl (rta_inf t) ?_) | (go_at_call 26; ((with_reducible refine (rhas_any t _ _).mono ?_); rintro e wh ⟨rfl, bh⟩); have HX := Lib.hid (HX.out.below bh); clear bh; clear k0 k1 k2 k3 k4 k5 k6 k7 k8 k9 k10 k11 k12 k13 k14 k15 k16 k17; obtain ⟨k0, k1, k2, k3, k4, k5, k6, k7, k8, k9, k10, k11, k12, k13, k14, k15, k16, k17⟩ := HX.out.cells) | (go_at_call 27; ((with_reducible refine (rlessB _ _ _).mono ?_); rintro e wh ⟨rfl, bh⟩); have HX := Lib.hid (HX.out.below bh); clear bh; clear k0 k1 k2 k3 k4 k5 k6 k7 k8 k9 k10 k11 k12 k13 k14 k15 k16 k17; obtain ⟨k0, k1, k2, k3, k4, k5, k6, k7, k8, k9, k10, k11, k12, k13, k14, k15, k16, k17⟩ := HX.out.cells) | (go_at_call 28; ((with_reducible refine (rgrE _ _ _).mono ?_); rintro e wh ⟨G, rfl, bh⟩); have HX := Lib.hid (HX.out.below bh); clear bh; clear k0 k1 k2 k3 k4 k5 k6 k7 k8 k9 k10 k11 k12 k13 k14 k15 k16 k17; obtain ⟨k0, k1, k2, k3, k4, k5, k6, k7, k8, k9, k10, k11, k12, k13, k14, k15, k16, k17⟩ := HX.out.cells) | ((with_reducible refine stop_op (o := ⟨some 73, _, _, _, _, _⟩) ?_); refine Lib.hid ?_; refine wpList_load_cells rfl 35 (.tmp 3) rfl ⟨w.heap.size, 0, none⟩ rfl (CA (c)) _ (blk_all HX.out.c3) Try.underlying35 rfl (rca_inf _) ?_) | ((with_reducible refine stop_op (o := ⟨none, _, _, _, _, _⟩) ?_); refine Lib.hid ?_; refine wpList_store_row rfl 35 (.tmp 6) (.tmp 73) rfl (w.heap.size + 1 + 1) (CA (c)) rfl rfl 35 (CA zcn) (HX.out.r6) (rca_inf _) rfl (ca_one _) ?_))
        refine bodyPost_ret_by (res_row Try.results12 _ _ (w.heap.size + 1 + 1) 35 (CA (c)) _ rfl (blk_setRow HX.out.r6 _) Try.underlying35 (rca_inf _)) rfl ?_
        exact ⟨_, by rw [OK.out] <;> rfl, Below.setRow HX.out.bel (by omega) _⟩
    · have OK : Hid (ok = false) := Lib.hid (by rw [HR.out, nextP_b, HXE.out, HYE.out, st_again H0.out HB2.out hxs] <;> simp [hba])
      unfold bareP at hba
      rw [hb5] at hba
      rcases h1 : hb t 1 with _ | _
      · rcases h4' : hb t 4 with _ | _
        · rw [h1, h4'] at hba
          have hda : (t.da != 0) = true := by simpa [bne] using hba
          clear hba
          go_wp2_with (first | ((with_reducible refine stop_op (o := ⟨some 60, _, _, _, _, _⟩) ?_); refine Lib.hid ?_; refine wpList_load_cells_on (by rfl) 38 (.tmp 5) rfl ⟨w.heap.size + 1, 0, none⟩ rfl (TA t) _ (blk_all HX.out.t5) Try.underlying38 rfl (rta_inf t) ?_) | ((with_reducible refine stop_op (o := ⟨some 62, _, _, _, _, _⟩) ?_); refine Lib.hid ?_; refine wpList_load_cells_on (by rfl) 38 (.tmp 5) rfl ⟨w.heap.size + 1, 0, none⟩ rfl (TA t) _ (blk_all HX.out.t5) Try.underlying38 rfl (rta_inf t) ?_) | ((with_reducible refine stop_op (o := ⟨some 65, _, _, _, _, _⟩) ?_); refine Lib.hid ?_; refine wpList_load_cells_on (by rfl) 38 (.tmp 5) rfl ⟨w.heap.size + 1, 0, none⟩ rfl (TA t) _ (blk_all HX.out.t5) Try.underlying38 rfl (rta_inf t) ?_) | (go_at_call 26; ((with_reducible refine (rhas_any t _ _).mono ?_); rintro e wh ⟨rfl, bh⟩); have HX := Lib.hid (HX.out.below bh); clear bh; clear k0 k1 k2 k3 k4 k5 k6 k7 k8 k9 k10 k11 k12 k13 k14 k15 k16 k17; obtain ⟨k0, k1, k2, k3, k4, k5, k6, k7, k8, k9, k10, k11, k12, k13, k14, k15, k16, k17⟩ := HX.out.cells) | (go_at_call 27; ((with_reducible refine (rlessB _ _ _).mono ?_); rintro e wh ⟨rfl, bh⟩); have HX := Lib.hid (HX.out.below bh); clear bh; clear k0 k1 k2 k3 k4 k5 k6 k7 k8 k9 k10 k11 k12 k13 k14 k15 k16 k17; obtain ⟨k0, k1, k2, k3, k4, k5, k6, k7, k8, k9, k10, k11, k12, k13, k14, k15, k16, k17⟩ := HX.out.cells) | (go_at_call 28; ((with_reducible refine (rgrE _ _ _).mono ?_); rintro e wh ⟨G, rfl, bh⟩); have HX := Lib.hid (HX.out.below bh); clear bh; clear k0 k1 k2 k3 k4 k5 k6 k7 k8 k9 k10 k11 k12 k13 k14 k15 k16 k17; obtain ⟨k0, k1, k2, k3, k4, k5, k6, k7, k8, k9, k10, k11, k12, k13, k14, k15, k16, k17⟩ := HX.out.cells) | ((with_reducible refine stop_op (o := ⟨some 73, _, _, _, _, _⟩) ?_); refine Lib.hid ?_; refine wpList_load_cells rfl 35 (.tmp 3) rfl ⟨w.heap.size, 0, none⟩ rfl (CA (c)) _ (blk_all HX.out.c3) Try.underlying35 rfl (rca_inf _) ?_) | ((with_reducible refine stop_op (o := ⟨none, _, _, _, _, _⟩) ?_); refine Lib.hid ?_; refine wpList_store_row rfl 35 (.tmp 6) (.tmp 73) rfl (w.heap.size + 1 + 1) (CA (c)) rfl rfl 35 (CA zcn) (HX.out.r6) (rca_inf _) rfl (ca_one _) ?_))
          refine bodyPost_ret_by (res_row Try.results12 _ _ (w.heap.size + 1 + 1) 35 (CA (c)) _ rfl (blk_setRow HX.out.r6 _) Try.underlying35 (rca_inf _)) rfl ?_
          exact ⟨_, by rw [OK.out] <;> rfl, Below.setRow HX.out.bel (by omega) _⟩
        · clear hba
          go_wp2_with (first | ((with_reducible refine stop_op (o := ⟨some 60, _, _, _, _, _⟩) ?_); refine Lib.hid ?_; refine wpList_load_cells_on (by rfl) 38 (.tmp 5) rfl ⟨w.heap.size + 1, 0, none⟩ rfl (TA t) _ (blk_all HX.out.t5) Try.underlying38 rfl (rta_inf t) ?_) | ((with_reducible refine stop_op (o := ⟨some 62, _, _, _, _, _⟩) ?_); refine Lib.hid ?_; refine wpList_load_cells_on (by rfl) 38 (.tmp 5) rfl ⟨w.heap.size + 1, 0, none⟩ rfl (TA t) _ (blk_all HX.out.t5) Try.underlying38 rfl (rta_inf t) ?_) | ((with_reducible refine stop_op (o := ⟨some 65, _, _, _, _, _⟩) ?_); refine Lib.hid ?_; refine wpList_load_cells_on (by rfl) 38 (.tmp 5) rfl ⟨w.heap.size + 1, 0, none⟩ rfl (TA t) _ (blk_all HX.out.t5) Try.underlying38 rfl (rta_inf t) ?_) | (go_at_call 26; ((with_reducible refine (rhas_any t _ _).mono ?_); rintro e wh ⟨rfl, bh⟩); have HX := Lib.hid (HX.out.below bh); clear bh; clear k0 k1 k2 k3 k4 k5 k6 k7 k8 k9 k10 k11 k12 k13 k14 k15 k16 k17; obtain ⟨k0, k1, k2, k3, k4, k5, k6, k7, k8, k9, k10, k11, k12, k13, k14, k15, k16, k17⟩ := HX.out.cells) | (go_at_call 27; ((with_reducible refine (rlessB _ _ _).mono ?_); rintro e wh ⟨rfl, bh⟩); have HX := Lib.hid (HX.out.below bh); clear bh; clear k0 k1 k2 k3 k4 k5 k6 k7 k8 k9 k10 k11 k12 k13 k14 k15 k16 k17; obtain ⟨k0, k1, k2, k3, k4, k5, k6, k7, k8, k9, k10, k11, k12, k13, k14, k15, k16, k17⟩ := HX.out.cells) | (go_at_call 28; ((with_reducible refine (rgrE _ _ _).mono ?_); rintro e wh ⟨G, rfl, bh⟩); have HX := Lib.hid (HX.out.below bh); clear bh; clear k0 k1 k2 k3 k4 k5 k6 k7 k8 k9 k10 k11 k12 k13 k14 k15 k16 k17; obtain ⟨k0, k1, k2, k3, k4, k5, k6, k7, k8, k9, k10, k11, k12, k13, k14, k15, k16, k17⟩ := HX.out.cells) | ((with_reducible refine stop_op (o := ⟨some 73, _, _, _, _, _⟩) ?_); refine Lib.hid ?_; refine wpList_load_cells rfl 35 (.tmp 3) rfl ⟨w.heap.size, 0, none⟩ rfl (CA (c)) _ (blk_all HX.out.c3) Try.underlying35 rfl (rca_inf _) ?_) | ((with_reducible refine stop_op (o := ⟨none, _, _, _, _, _⟩) ?_); refine Lib.hid ?_; refine wpList_store_row rfl 35 (.tmp 6) (.tmp 73) rfl (w.heap.size + 1 + 1) (CA (c)) rfl rfl 35 (CA zcn) (HX.out.r6) (rca_inf _) rfl (ca_one _) ?_))
          refine bodyPost_ret_by (res_row Try.results12 _ _ (w.heap.size + 1 + 1) 35 (CA (c)) _ rfl (blk_setRow HX.out.r6 _) Try.underlying35 (rca_inf _)) rfl ?_
          exact ⟨_, by rw [OK.out] <;> rfl, Below.setRow HX.out.bel (by omega) _⟩
      · clear hba
        go_wp2_with (first | ((with_reducible refine stop_op (o := ⟨some 60, _, _, _, _, _⟩) ?_); refine Lib.hid ?_; refine wpList_load_cells_on (by rfl) 38 (.tmp 5) rfl ⟨w.heap.size + 1, 0, none⟩ rfl (TA t) _ (blk_all HX.out.t5) Try.underlying38 rfl (rta_inf t) ?_) | ((with_reducible refine stop_op (o := ⟨some 62, _, _, _, _, _⟩) ?_); refine Lib.hid ?_; refine wpList_load_cells_on (by rfl) 38 (.tmp 5) rfl ⟨w.heap.size + 1, 0, none⟩ rfl (TA t) _ (blk_all HX.out.t5) Try.underlying38 rfl (rta_inf t) ?_) | ((with_reducible refine stop_op (o := ⟨some 65, _, _, _, _, _⟩) ?_); refine Lib.hid ?_; refine wpList_load_cells_on (by rfl) 38 (.tmp 5) rfl ⟨w.heap.size + 1, 0, none⟩ rfl (TA t) _ (blk_all HX.out.t5) Try.underlying38 rfl (rta_inf t) ?_) | (go_at_call 26; ((with_reducible refine (rhas_any t _ _).mono ?_); rintro e wh ⟨rfl, bh⟩); have HX := Lib.hid (HX.out.below bh); clear bh; clear k0 k1 k2 k3 k4 k5 k6 k7 k8 k9 k10 k11 k12 k13 k14 k15 k16 k17; obtain ⟨k0, k1, k2, k3, k4, k5, k6, k7, k8, k9, k10, k11, k12, k13, k14, k15, k16, k17⟩ := HX.out.cells) | (go_at_call 27; ((with_reducible refine (rlessB _ _ _).mono ?_); rintro e wh ⟨rfl, bh⟩); have HX := Lib.hid (HX.out.below bh); clear bh; clear k0 k1 k2 k3 k4 k5 k6 k7 k8 k9 k10 k11 k12 k13 k14 k15 k16 k17; obtain ⟨k0, k1, k2, k3, k4, k5, k6, k7, k8, k9, k10, k11, k12, k13, k14, k15, k16, k17⟩ := HX.out.cells) | (go_at_call 28; ((with_reducible refine (rgrE _ _ _).mono ?_); rintro e wh ⟨G, rfl, bh⟩); have HX := Lib.hid (HX.out.below bh); clear bh; clear k0 k1 k2 k3 k4 k5 k6 k7 k8 k9 k10 k11 k12 k13 k14 k15 k16 k17; obtain ⟨k0, k1, k2, k3, k4, k5, k6, k7, k8, k9, k10, k11, k12, k13, k14, k15, k16, k17⟩ := HX.out.cells) | ((with_reducible refine stop_op (o := ⟨some 73, _, _, _, _, _⟩) ?_); refine Lib.hid ?_; refine wpList_load_cells rfl 35 (.tmp 3) rfl ⟨w.heap.size, 0, none⟩ rfl (CA (c)) _ (blk_all HX.out.c3) Try.underlying35 rfl (rca_inf _) ?_) | ((with_reducible refine stop_op (o := ⟨none, _, _, _, _, _⟩) ?_); refine Lib.hid ?_; refine wpList_store_row rfl 35 (.tmp 6) (.tmp 73) rfl (w.heap.size + 1 + 1) (CA (c)) rfl rfl 35 (CA zcn) (HX.out.r6) (rca_inf _) rfl (ca_one _) ?_))
        refine bodyPost_ret_by (res_row Try.results12 _ _ (w.heap.size + 1 + 1) 35 (CA (c)) _ rfl (blk_setRow HX.out.r6 _) Try.underlying35 (rca_inf _)) rfl ?_
        exact ⟨_, by rw [OK.out] <;> rfl, Below.setRow HX.out.bel (by omega) _⟩
  · have hba2 := hba
    unfold bareP at hba2
    rw [hb5] at hba2
    have hb1 : hb t 1 = false := by revert hba2; cases hb t 1 <;> simp
    have hb4 : hb t 4 = false := by revert hba2; cases hb t 4 <;> simp
    have hda : (t.da != 0) = false := by revert hba2; simp [bne]
    clear hba2
    cases hxs : x.seen
    · rw [hxs] at k6
      by_cases hst1 : c.st = 1
      · have hsn : (c.st != 1) = false := by simp [hst1]
        have hac : acksP t y.e = false := by unfold acksP; rw [h16]; rfl
        have OK : Hid (ok = false) := Lib.hid (by rw [HR.out, nextP_b, HXE.out, HYE.out, st_synNo H0.out HB2.out hxs (by rw [hac]; simp)] <;> rfl)
        clear hac hst1
        go_wp2_with (first | ((with_reducible refine stop_op (o := ⟨some 60, _, _, _, _, _⟩) ?_); refine Lib.hid ?_; refine wpList_load_cells_on (by rfl) 38 (.tmp 5) rfl ⟨w.heap.size + 1, 0, none⟩ rfl (TA t) _ (blk_all HX.out.t5) Try.underlying38 rfl (rta_inf t) ?_) | ((with_reducible refine stop_op (o := ⟨some 62, _, _, _, _, _⟩) ?_); refine Lib.hid ?_; refine wpList_load_cells_on (by rfl) 38 (.tmp 5) rfl ⟨w.heap.size + 1, 0, none⟩ rfl (TA t) _ (blk_all HX.out.t5) Try.underlying38 rfl (rta_inf t) ?_) | ((with_reducible refine stop_op (o := ⟨some 65, _, _, _, _, _⟩) ?_); refine Lib.hid ?_; refine wpList_load_cells_on (by rfl) 38 (.tmp 5) rfl ⟨w.heap.size + 1, 0, none⟩ rfl (TA t) _ (blk_all HX.out.t5) Try.underlying38 rfl (rta_inf t) ?_) | ((with_reducible refine stop_op (o := ⟨some 100, _, _, _, _, _⟩) ?_); refine Lib.hid ?_; refine wpList_load_cells_on (by rfl) 38 (.tmp 5) rfl ⟨w.heap.size + 1, 0, none⟩ rfl (TA t) _ (blk_all HX.out.t5) Try.underlying38 rfl (rta_inf t) ?_) | (go_at_call 26; ((with_reducible refine (rhas_any t _ _).mono ?_); rintro e wh ⟨rfl, bh⟩); have HX := Lib.hid (HX.out.below bh); clear bh; clear k0 k1 k2 k3 k4 k5 k6 k7 k8 k9 k10 k11 k12 k13 k14 k15 k16 k17; obtain ⟨k0, k1, k2, k3, k4, k5, k6, k7, k8, k9, k10, k11, k12, k13, k14, k15, k16, k17⟩ := HX.out.cells) | (go_at_call 27; ((with_reducible refine (rlessB _ _ _).mono ?_); rintro e wh ⟨rfl, bh⟩); have HX := Lib.hid (HX.out.below bh); clear bh; clear k0 k1 k2 k3 k4 k5 k6 k7 k8 k9 k10 k11 k12 k13 k14 k15 k16 k17; obtain ⟨k0, k1, k2, k3, k4, k5, k6, k7, k8, k9, k10, k11, k12, k13, k14, k15, k16, k17⟩ := HX.out.cells) | (go_at_call 28; ((with_reducible refine (rgrE _ _ _).mono ?_); rintro e wh ⟨G, rfl, bh⟩); have HX := Lib.hid (HX.out.below bh); clear bh; clear k0 k1 k2 k3 k4 k5 k6 k7 k8 k9 k10 k11 k12 k13 k14 k15 k16 k17; obtain ⟨k0, k1, k2, k3, k4, k5, k6, k7, k8, k9, k10, k11, k12, k13, k14, k15, k16, k17⟩ := HX.out.cells) | ((with_reducible refine stop_op (o := ⟨some 112, _, _, _, _, _⟩) ?_); refine Lib.hid ?_; refine wpList_load_cells rfl 35 (.tmp 3) rfl ⟨w.heap.size, 0, none⟩ rfl (CA (c)) _ (blk_all HX.out.c3) Try.underlying35 rfl (rca_inf _) ?_) | ((with_reducible refine stop_op (o := ⟨none, _, _, _, _, _⟩) ?_); refine Lib.hid ?_; refine wpList_store_row rfl 35 (.tmp 6) (.tmp 112) rfl (w.heap.size + 1 + 1) (CA (c)) rfl rfl 35 (CA zcn) (HX.out.r6) (rca_inf _) rfl (ca_one _) ?_))
        refine bodyPost_ret_by (res_row Try.results12 _ _ (w.heap.size + 1 + 1) 35 (CA (c)) _ rfl (blk_setRow HX.out.r6 _) Try.underlying35 (rca_inf _)) rfl ?_
        exact ⟨_, by rw [OK.out] <;> rfl, Below.setRow HX.out.bel (by omega) _⟩
      · have hsn : (c.st != 1) = true := by simp [hst1]
        have hst1b : (c.st == 1) = false := by simpa using hst1
        have OK : Hid (ok = false) := Lib.hid (by rw [HR.out, nextP_b, HXE.out, HYE.out, st_synNo H0.out HB2.out hxs (by rw [hst1b]; simp)] <;> rfl)
        clear hst1 hst1b
        go_wp2_with (first | ((with_reducible refine stop_op (o := ⟨some 60, _, _, _, _, _⟩) ?_); refine Lib.hid ?_; refine wpList_load_cells_on (by rfl) 38 (.tmp 5) rfl ⟨w.heap.size + 1, 0, none⟩ rfl (TA t) _ (blk_all HX.out.t5) Try.underlying38 rfl (rta_inf t) ?_) | ((with_reducible refine stop_op (o := ⟨some 62, _, _, _, _, _⟩) ?_); refine Lib.hid ?_; refine wpList_load_cells_on (by rfl) 38 (.tmp 5) rfl ⟨w.heap.size + 1, 0, none⟩ rfl (TA t) _ (blk_all HX.out.t5) Try.underlying38 rfl (rta_inf t) ?_) | ((with_reducible refine stop_op (o := ⟨some 65, _, _, _, _, _⟩) ?_); refine Lib.hid ?_; refine wpList_load_cells_on (by rfl) 38 (.tmp 5) rfl ⟨w.heap.size + 1, 0, none⟩ rfl (TA t) _ (blk_all HX.out.t5) Try.underlying38 rfl (rta_inf t) ?_) | ((with_reducible refine stop_op (o := ⟨some 100, _, _, _, _, _⟩) ?_); refine Lib.hid ?_; refine wpList_load_cells_on (by rfl) 38 (.tmp 5) rfl ⟨w.heap.size + 1, 0, none⟩ rfl (TA t) _ (blk_all HX.out.t5) Try.underlying38 rfl (rta_inf t) ?_) | (go_at_call 26; ((with_reducible refine (rhas_any t _ _).mono ?_); rintro e wh ⟨rfl, bh⟩); have HX := Lib.hid (HX.out.below bh); clear bh; clear k0 k1 k2 k3 k4 k5 k6 k7 k8 k9 k10 k11 k12 k13 k14 k15 k16 k17; obtain ⟨k0, k1, k2, k3, k4, k5, k6, k7, k8, k9, k10, k11, k12, k13, k14, k15, k16, k17⟩ := HX.out.cells) | (go_at_call 27; ((with_reducible refine (rlessB _ _ _).mono ?_); rintro e wh ⟨rfl, bh⟩); have HX := Lib.hid (HX.out.below bh); clear bh; clear k0 k1 k2 k3 k4 k5 k6 k7 k8 k9 k10 k11 k12 k13 k14 k15 k16 k17; obtain ⟨k0, k1, k2, k3, k4, k5, k6, k7, k8, k9, k10, k11, k12, k13, k14, k15, k16, k17⟩ := HX.out.cells) | (go_at_call 28; ((with_reducible refine (rgrE _ _ _).mono ?_); rintro e wh ⟨G, rfl, bh⟩); have HX := Lib.hid (HX.out.below bh); clear bh; clear k0 k1 k2 k3 k4 k5 k6 k7 k8 k9 k10 k11 k12 k13 k14 k15 k16 k17; obtain ⟨k0, k1, k2, k3, k4, k5, k6, k7, k8, k9, k10, k11, k12, k13, k14, k15, k16, k17⟩ := HX.out.cells) | ((with_reducible refine stop_op (o := ⟨some 112, _, _, _, _, _⟩) ?_); refine Lib.hid ?_; refine wpList_load_cells rfl 35 (.tmp 3) rfl ⟨w.heap.size, 0, none⟩ rfl (CA (c)) _ (blk_all HX.out.c3) Try.underlying35 rfl (rca_inf _) ?_) | ((with_reducible refine stop_op (o := ⟨none, _, _, _, _, _⟩) ?_); refine Lib.hid ?_; refine wpList_store_row rfl 35 (.tmp 6) (.tmp 112) rfl (w.heap.size + 1 + 1) (CA (c)) rfl rfl 35 (CA zcn) (HX.out.r6) (rca_inf _) rfl (ca_one _) ?_))
        refine bodyPost_ret_by (res_row Try.results12 _ _ (w.heap.size + 1 + 1) 35 (CA (c)) _ rfl (blk_setRow HX.out.r6 _) Try.underlying35 (rca_inf _)) rfl ?_
        exact ⟨_, by rw [OK.out] <;> rfl, Below.setRow HX.out.bel (by omega) _⟩
    · rw [hxs] at k6
      go_upto_region 15 with (first | ((with_reducible refine stop_op (o := ⟨some 60, _, _, _, _, _⟩) ?_); refine Lib.hid ?_; refine wpList_load_cells_on (by rfl) 38 (.tmp 5) rfl ⟨w.heap.size + 1, 0, none⟩ rfl (TA t) _ (blk_all HX.out.t5) Try.underlying38 rfl (rta_inf t) ?_) | ((with_reducible refine stop_op (o := ⟨some 62, _, _, _, _, _⟩) ?_); refine Lib.hid ?_; refine wpList_load_cells_on (by rfl) 38 (.tmp 5) rfl ⟨w.heap.size + 1, 0, none⟩ rfl (TA t) _ (blk_all HX.out.t5) Try.underlying38 rfl (rta_inf t) ?_) | ((with_reducible refine stop_op (o := ⟨some 65, _, _, _, _, _⟩) ?_); refine Lib.hid ?_; refine wpList_load_cells_on (by rfl) 38 (.tmp 5) rfl ⟨w.heap.size + 1, 0, none⟩ rfl (TA t) _ (blk_all HX.out.t5) Try.underlying38 rfl (rta_inf t) ?_) | (go_at_call 26; ((with_reducible refine (rhas_any t _ _).mono ?_); rintro e wh ⟨rfl, bh⟩); have HX := Lib.hid (HX.out.below bh); clear bh; clear k0 k1 k2 k3 k4 k5 k6 k7 k8 k9 k10 k11 k12 k13 k14 k15 k16 k17; obtain ⟨k0, k1, k2, k3, k4, k5, k6, k7, k8, k9, k10, k11, k12, k13, k14, k15, k16, k17⟩ := HX.out.cells) | (go_at_call 27; ((with_reducible refine (rlessB _ _ _).mono ?_); rintro e wh ⟨rfl, bh⟩); have HX := Lib.hid (HX.out.below bh); clear bh; clear k0 k1 k2 k3 k4 k5 k6 k7 k8 k9 k10 k11 k12 k13 k14 k15 k16 k17; obtain ⟨k0, k1, k2, k3, k4, k5, k6, k7, k8, k9, k10, k11, k12, k13, k14, k15, k16, k17⟩ := HX.out.cells) | (go_at_call 28; ((with_reducible refine (rgrE _ _ _).mono ?_); rintro e wh ⟨G, rfl, bh⟩); have HX := Lib.hid (HX.out.below bh); clear bh; clear k0 k1 k2 k3 k4 k5 k6 k7 k8 k9 k10 k11 k12 k13 k14 k15 k16 k17; obtain ⟨k0, k1, k2, k3, k4, k5, k6, k7, k8, k9, k10, k11, k12, k13, k14, k15, k16, k17⟩ := HX.out.cells))
      have hst1 : 1 ≤ c.st := by simp at hs1; omega
      rcases hen : (endP t == x.e) with _ | _
      · have OK : Hid (ok = false) := Lib.hid (by rw [HR.out, nextP_b, HXE.out, HYE.out, st_again H0.out HB2.out hxs] <;> simp [hba, hen])
        have hn0 := HX.out.below (bel_dr (Below.refl _ _))
        refine wp_region_held_drew (S := fun W1 : World => NA w W1 c x t) (by kernel_rfl) hn0.na (fun hH => ?_)
        have hH0 := hn0.na
        obtain ⟨wd, hwd⟩ : ∃ q, q = wh.drew := ⟨_, rfl⟩
        rw [← hwd] at hn0 hH0 hH ⊢
        clear hwd
        refine wpAnyH_take (i := 0) (oi := ⟨some 76, _, _, _, _, _⟩) (v := .agg (CA c)) rfl (by kernel_rfl) (by kernel_rfl) (by kernel_rfl) (fun _ _ _ h => h) (yields_rowK (by kernel_rfl) 35 _ rfl w.heap.size rfl (CA c) 35 _ (fun W hW => hW.c3) Try.underlying35 rfl (rca_inf _)) hH0 ?_
        try simp only [Act.put, List.setIfInBounds_toArray, List.set_cons_zero, List.set_cons_succ]
        refine wpAnyH_take (i := 1) (oi := ⟨some 77, _, _, _, _, _⟩) (v := .agg (TA t)) rfl (by kernel_rfl) (by kernel_rfl) (by kernel_rfl) (fun _ _ _ h => h) (yields_rowK (by kernel_rfl) 38 _ rfl (w.heap.size + 1) rfl (TA t) 38 _ (fun W hW => hW.t5) Try.underlying38 rfl (rta_inf t)) hH0 ?_
        try simp only [Act.put, List.setIfInBounds_toArray, List.set_cons_zero, List.set_cons_succ]
        refine wpAnyH_take (i := 3) (oi := ⟨some 79, _, _, _, _, _⟩) (v := .pointer (some ⟨w.heap.size + 1 + 1 + 1, 1, none⟩)) rfl (by kernel_rfl) (by kernel_rfl) (by kernel_rfl) (fun _ _ _ h => h) (.inl ⟨by kernel_rfl, fun W1 hW1 => by go_simp⟩) hH0 ?_
        try simp only [Act.put, List.setIfInBounds_toArray, List.set_cons_zero, List.set_cons_succ]
        refine wpAnyH_take (i := 4) (oi := ⟨some 80, _, _, _, _, _⟩) (v := .int .u32 x.e) rfl (by kernel_rfl) (by kernel_rfl) (by kernel_rfl) (fun _ _ _ h => h) (.inl ⟨by kernel_rfl, fun W1 hW1 => by have q := blk_cell (o := 1) (v := .int .u32 x.e) hW1.x8 rfl; go_simp⟩) hH0 ?_
        try simp only [Act.put, List.setIfInBounds_toArray, List.set_cons_zero, List.set_cons_succ]
        refine wpAnyH_ready (rs := [2]) (by kernel_rfl) (by simp) ?_
        refine AllReadyH.cons (o := ⟨some 78, _, _, _, _, _⟩) rfl (fun K hK => ?_) AllReadyH.nil
        go_simp
        go_at_call 17
        ((with_reducible refine (rend_any t _).mono ?_); rintro e w20 ⟨rfl, b20⟩)
        have hn20 := hn0.below b20
        have hS20 := hn20.na
        refine hK.out _ _ hS20 (fun _ => ?_)
        clear hK K
        try simp only [Act.put, List.setIfInBounds_toArray, List.set_cons_zero, List.set_cons_succ]
        refine wpAnyH_take (i := 5) (oi := ⟨some 81, _, _, _, _, _⟩) (v := .bool false) rfl (by kernel_rfl) (by kernel_rfl) (by kernel_rfl) (fun _ _ _ h => h) (.inl ⟨by kernel_rfl, fun W1 hW1 => by go_simp⟩) hS20 ?_
        try simp only [Act.put, List.setIfInBounds_toArray, List.set_cons_zero, List.set_cons_succ]
        refine wpAnyH_take (i := 6) (oi := ⟨some 82, _, _, _, _, _⟩) (v := .bool false) rfl (by kernel_rfl) (by kernel_rfl) (by kernel_rfl) (fun _ _ _ h => h) (.inl ⟨by kernel_rfl, fun W1 hW1 => by go_simp⟩) hS20 ?_
        try simp only [Act.put, List.setIfInBounds_toArray, List.set_cons_zero, List.set_cons_succ]
        refine wpAnyH_take (i := 7) (oi := ⟨some 83, _, _, _, _, _⟩) (v := undef) rfl (by kernel_rfl) (by kernel_rfl) (by kernel_rfl) (fun _ _ _ h => h) (Or.inr ⟨by kernel_rfl, rfl⟩) hS20 ?_
        try simp only [Act.put, List.setIfInBounds_toArray, List.set_cons_zero, List.set_cons_succ]
        refine wpAnyH_take (i := 8) (oi := ⟨some 84, _, _, _, _, _⟩) (v := undef) rfl (by kernel_rfl) (by kernel_rfl) (by kernel_rfl) (fun _ _ _ h => h) (Or.inr ⟨by kernel_rfl, rfl⟩) hS20 ?_
        try simp only [Act.put, List.setIfInBounds_toArray, List.set_cons_zero, List.set_cons_succ]
        refine wpAnyH_take (i := 9) (oi := ⟨some 85, _, _, _, _, _⟩) (v := undef) rfl (by kernel_rfl) (by kernel_rfl) (by kernel_rfl) (fun _ _ _ h => h) (Or.inr ⟨by kernel_rfl, rfl⟩) hS20 ?_
        try simp only [Act.put, List.setIfInBounds_toArray, List.set_cons_zero, List.set_cons_succ]
        refine wpAnyH_take (i := 10) (oi := ⟨some 86, _, _, _, _, _⟩) (v := undef) rfl (by kernel_rfl) (by kernel_rfl) (by kernel_rfl) (fun _ _ _ h => h) (Or.inr ⟨by kernel_rfl, rfl⟩) hS20 ?_
        try simp only [Act.put, List.setIfInBounds_toArray, List.set_cons_zero, List.set_cons_succ]
        refine wpAnyH_take (i := 11) (oi := ⟨some 87, _, _, _, _, _⟩) (v := undef) rfl (by kernel_rfl) (by kernel_rfl) (by kernel_rfl) (fun _ _ _ h => h) (Or.inr ⟨by kernel_rfl, rfl⟩) hS20 ?_
        try simp only [Act.put, List.setIfInBounds_toArray, List.set_cons_zero, List.set_cons_succ]
        refine wpAnyH_take (i := 12) (oi := ⟨some 88, _, _, _, _, _⟩) (v := undef) rfl (by kernel_rfl) (by kernel_rfl) (by kernel_rfl) (fun _ _ _ h => h) (Or.inr ⟨by kernel_rfl, rfl⟩) hS20 ?_
        try simp only [Act.put, List.setIfInBounds_toArray, List.set_cons_zero, List.set_cons_succ]
        refine wpAnyH_take (i := 13) (oi := ⟨some 89, _, _, _, _, _⟩) (v := undef) rfl (by kernel_rfl) (by kernel_rfl) (by kernel_rfl) (fun _ _ _ h => h) (Or.inr ⟨by kernel_rfl, rfl⟩) hS20 ?_
        try simp only [Act.put, List.setIfInBounds_toArray, List.set_cons_zero, List.set_cons_succ]
        refine wpAnyH_take (i := 14) (oi := ⟨some 90, _, _, _, _, _⟩) (v := undef) rfl (by kernel_rfl) (by kernel_rfl) (by kernel_rfl) (fun _ _ _ h => h) (Or.inr ⟨by kernel_rfl, rfl⟩) hS20 ?_
        try simp only [Act.put, List.setIfInBounds_toArray, List.set_cons_zero, List.set_cons_succ]
        refine wpAnyH_take (i := 15) (oi := ⟨some 91, _, _, _, _, _⟩) (v := .bool false) rfl (by kernel_rfl) (by kernel_rfl) (by kernel_rfl) (fun _ _ _ h => h) (.inl ⟨by kernel_rfl, fun W1 hW1 => by go_simp⟩) hS20 ?_
        try simp only [Act.put, List.setIfInBounds_toArray, List.set_cons_zero, List.set_cons_succ]
        refine wpAnyH_ready (rs := [16]) (by kernel_rfl) (by simp) ?_
        refine AllReadyH.cons (o := ⟨none, _, _, _, _, _⟩) rfl (fun K hK => ?_) AllReadyH.nil
        refine step_store_row rfl 35 (.tmp 6) (.tmp 76) rfl (w.heap.size + 1 + 1) (CA c) rfl rfl 35 (CA zcn) hn20.r6 (rca_inf c) rfl (ca_one c) ?_
        have hz := hS20.row (CA c)
        have hR2 := blk_setRow hn20.r6 (CA c)
        have hB2 := Below.setRow hn20.bel (show w.heap.size ≤ w.heap.size + 1 + 1 by omega) (CA c)
        refine hK.out _ _ hz (fun _ => ?_)
        clear hK K
        generalize w20.setRow (w.heap.size + 1 + 1) (CA c) = wz at *
        try simp only [Act.put, List.setIfInBounds_toArray, List.set_cons_zero, List.set_cons_succ]
        refine wpAnyH_take (i := 17) (oi := ⟨some 7, _, _, _, _, _⟩) (v := .bool false) rfl (by kernel_rfl) (by kernel_rfl) (by kernel_rfl) (fun _ _ _ h => h) (.inl ⟨by kernel_rfl, fun W1 hW1 => by go_simp⟩) hz ?_
        try simp only [Act.put, List.setIfInBounds_toArray, List.set_cons_zero, List.set_cons_succ]
        refine wpAnyH_done (by kernel_rfl) ?_ _
        try simp only [Act.put, List.setIfInBounds_toArray, List.set_cons_zero, List.set_cons_succ]
        go_wp2_with fail
        refine bodyPost_ret_by (res_row Try.results12 _ _ (w.heap.size + 1 + 1) 35 (CA c) _ rfl hR2 Try.underlying35 (rca_inf c)) rfl ?_
        exact ⟨_, by rw [OK.out] <;> rfl, hB2⟩
      · by_cases hq1 : c.st = 1
        · have hq1b : (c.st == 1) = true := by simpa using hq1
          have OK : Hid (ok = true) := Lib.hid (by rw [HR.out, nextP_b, HXE.out, HYE.out, st_again H0.out HB2.out hxs] <;> simp [hba, hen, hq1])
          clear hq1
          have hn0 := HX.out.below (bel_dr (Below.refl _ _))
          refine wp_region_held_drew (S := fun W1 : World => NA w W1 c x t) (by kernel_rfl) hn0.na (fun hH => ?_)
          have hH0 := hn0.na
          obtain ⟨wd, hwd⟩ : ∃ q, q = wh.drew := ⟨_, rfl⟩
          rw [← hwd] at hn0 hH0 hH ⊢
          clear hwd
          refine wpAnyH_take (i := 0) (oi := ⟨some 76, _, _, _, _, _⟩) (v := .agg (CA c)) rfl (by kernel_rfl) (by kernel_rfl) (by kernel_rfl) (fun _ _ _ h => h) (yields_rowK (by kernel_rfl) 35 _ rfl w.heap.size rfl (CA c) 35 _ (fun W hW => hW.c3) Try.underlying35 rfl (rca_inf _)) hH0 ?_
          try simp only [Act.put, List.setIfInBounds_toArray, List.set_cons_zero, List.set_cons_succ]
          refine wpAnyH_take (i := 1) (oi := ⟨some 77, _, _, _, _, _⟩) (v := .agg (TA t)) rfl (by kernel_rfl) (by kernel_rfl) (by kernel_rfl) (fun _ _ _ h => h) (yields_rowK (by kernel_rfl) 38 _ rfl (w.heap.size + 1) rfl (TA t) 38 _ (fun W hW => hW.t5) Try.underlying38 rfl (rta_inf t)) hH0 ?_
          try simp only [Act.put, List.setIfInBounds_toArray, List.set_cons_zero, List.set_cons_succ]
          refine wpAnyH_take (i := 3) (oi := ⟨some 79, _, _, _, _, _⟩) (v := .pointer (some ⟨w.heap.size + 1 + 1 + 1, 1, none⟩)) rfl (by kernel_rfl) (by kernel_rfl) (by kernel_rfl) (fun _ _ _ h => h) (.inl ⟨by kernel_rfl, fun W1 hW1 => by go_simp⟩) hH0 ?_
          try simp only [Act.put, List.setIfInBounds_toArray, List.set_cons_zero, List.set_cons_succ]
          refine wpAnyH_take (i := 4) (oi := ⟨some 80, _, _, _, _, _⟩) (v := .int .u32 x.e) rfl (by kernel_rfl) (by kernel_rfl) (by kernel_rfl) (fun _ _ _ h => h) (.inl ⟨by kernel_rfl, fun W1 hW1 => by have q := blk_cell (o := 1) (v := .int .u32 x.e) hW1.x8 rfl; go_simp⟩) hH0 ?_
          try simp only [Act.put, List.setIfInBounds_toArray, List.set_cons_zero, List.set_cons_succ]
          refine wpAnyH_ready (rs := [2]) (by kernel_rfl) (by simp) ?_
          refine AllReadyH.cons (o := ⟨some 78, _, _, _, _, _⟩) rfl (fun K hK => ?_) AllReadyH.nil
          go_simp
          go_at_call 17
          ((with_reducible refine (rend_any t _).mono ?_); rintro e w20 ⟨rfl, b20⟩)
          have hn20 := hn0.below b20
          have hS20 := hn20.na
          refine hK.out _ _ hS20 (fun _ => ?_)
          clear hK K
          try simp only [Act.put, List.setIfInBounds_toArray, List.set_cons_zero, List.set_cons_succ]
          refine wpAnyH_take (i := 5) (oi := ⟨some 81, _, _, _, _, _⟩) (v := .bool true) rfl (by kernel_rfl) (by kernel_rfl) (by kernel_rfl) (fun _ _ _ h => h) (.inl ⟨by kernel_rfl, fun W1 hW1 => by go_simp⟩) hS20 ?_
          try simp only [Act.put, List.setIfInBounds_toArray, List.set_cons_zero, List.set_cons_succ]
          refine wpAnyH_take (i := 6) (oi := ⟨some 82, _, _, _, _, _⟩) (v := .bool true) rfl (by kernel_rfl) (by kernel_rfl) (by kernel_rfl) (fun _ _ _ h => h) (.inl ⟨by kernel_rfl, fun W1 hW1 => by go_simp⟩) hS20 ?_
          try simp only [Act.put, List.setIfInBounds_toArray, List.set_cons_zero, List.set_cons_succ]
          refine wpAnyH_take (i := 7) (oi := ⟨some 83, _, _, _, _, _⟩) (v := .pointer (some ⟨w.heap.size, 0, none⟩)) rfl (by kernel_rfl) (by kernel_rfl) (by kernel_rfl) (fun _ _ _ h => h) (.inl ⟨by kernel_rfl, fun W1 hW1 => by go_simp⟩) hS20 ?_
          try simp only [Act.put, List.setIfInBounds_toArray, List.set_cons_zero, List.set_cons_succ]
          refine wpAnyH_take (i := 8) (oi := ⟨some 84, _, _, _, _, _⟩) (v := .int .i64 c.st) rfl (by kernel_rfl) (by kernel_rfl) (by kernel_rfl) (fun _ _ _ h => h) (.inl ⟨by kernel_rfl, fun W1 hW1 => by have q := blk_cell (o := 0) (v := .int .i64 c.st) hW1.c3 rfl; go_simp⟩) hS20 ?_
          try simp only [Act.put, List.setIfInBounds_toArray, List.set_cons_zero, List.set_cons_succ]
          refine wpAnyH_take (i := 9) (oi := ⟨some 85, _, _, _, _, _⟩) (v := .bool true) rfl (by kernel_rfl) (by kernel_rfl) (by kernel_rfl) (fun _ _ _ h => h) (.inl ⟨by kernel_rfl, fun W1 hW1 => by go_simp⟩) hS20 ?_
          try simp only [Act.put, List.setIfInBounds_toArray, List.set_cons_zero, List.set_cons_succ]
          refine wpAnyH_take (i := 10) (oi := ⟨some 86, _, _, _, _, _⟩) (v := .bool true) rfl (by kernel_rfl) (by kernel_rfl) (by kernel_rfl) (fun _ _ _ h => h) (.inl ⟨by kernel_rfl, fun W1 hW1 => by go_simp⟩) hS20 ?_
          try simp only [Act.put, List.setIfInBounds_toArray, List.set_cons_zero, List.set_cons_succ]
          refine wpAnyH_take (i := 11) (oi := ⟨some 87, _, _, _, _, _⟩) (v := undef) rfl (by kernel_rfl) (by kernel_rfl) (by kernel_rfl) (fun _ _ _ h => h) (Or.inr ⟨by kernel_rfl, rfl⟩) hS20 ?_
          try simp only [Act.put, List.setIfInBounds_toArray, List.set_cons_zero, List.set_cons_succ]
          refine wpAnyH_take (i := 12) (oi := ⟨some 88, _, _, _, _, _⟩) (v := undef) rfl (by kernel_rfl) (by kernel_rfl) (by kernel_rfl) (fun _ _ _ h => h) (Or.inr ⟨by kernel_rfl, rfl⟩) hS20 ?_
          try simp only [Act.put, List.setIfInBounds_toArray, List.set_cons_zero, List.set_cons_succ]
          refine wpAnyH_take (i := 13) (oi := ⟨some 89, _, _, _, _, _⟩) (v := undef) rfl (by kernel_rfl) (by kernel_rfl) (by kernel_rfl) (fun _ _ _ h => h) (Or.inr ⟨by kernel_rfl, rfl⟩) hS20 ?_
          try simp only [Act.put, List.setIfInBounds_toArray, List.set_cons_zero, List.set_cons_succ]
          refine wpAnyH_take (i := 14) (oi := ⟨some 90, _, _, _, _, _⟩) (v := .bool true) rfl (by kernel_rfl) (by kernel_rfl) (by kernel_rfl) (fun _ _ _ h => h) (.inl ⟨by kernel_rfl, fun W1 hW1 => by go_simp⟩) hS20 ?_
          try simp only [Act.put, List.setIfInBounds_toArray, List.set_cons_zero, List.set_cons_succ]
          refine wpAnyH_take (i := 15) (oi := ⟨some 91, _, _, _, _, _⟩) (v := .bool true) rfl (by kernel_rfl) (by kernel_rfl) (by kernel_rfl) (fun _ _ _ h => h) (.inl ⟨by kernel_rfl, fun W1 hW1 => by go_simp⟩) hS20 ?_
          try simp only [Act.put, List.setIfInBounds_toArray, List.set_cons_zero, List.set_cons_succ]
          refine wpAnyH_ready (rs := [16]) (by kernel_rfl) (by simp) ?_
          refine AllReadyH.cons (o := ⟨none, _, _, _, _, _⟩) rfl (fun K hK => ?_) AllReadyH.nil
          refine step_store_row rfl 35 (.tmp 6) (.tmp 76) rfl (w.heap.size + 1 + 1) (CA c) rfl rfl 35 (CA zcn) hn20.r6 (rca_inf c) rfl (ca_one c) ?_
          have hz := hS20.row (CA c)
          have hR2 := blk_setRow hn20.r6 (CA c)
          have hB2 := Below.setRow hn20.bel (show w.heap.size ≤ w.heap.size + 1 + 1 by omega) (CA c)
          refine hK.out _ _ hz (fun _ => ?_)
          clear hK K
          generalize w20.setRow (w.heap.size + 1 + 1) (CA c) = wz at *
          try simp only [Act.put, List.setIfInBounds_toArray, List.set_cons_zero, List.set_cons_succ]
          refine wpAnyH_take (i := 17) (oi := ⟨some 7, _, _, _, _, _⟩) (v := .bool true) rfl (by kernel_rfl) (by kernel_rfl) (by kernel_rfl) (fun _ _ _ h => h) (.inl ⟨by kernel_rfl, fun W1 hW1 => by go_simp⟩) hz ?_
          try simp only [Act.put, List.setIfInBounds_toArray, List.set_cons_zero, List.set_cons_succ]
          refine wpAnyH_done (by kernel_rfl) ?_ _
          try simp only [Act.put, List.setIfInBounds_toArray, List.set_cons_zero, List.set_cons_succ]
          go_wp2_with fail
          refine bodyPost_ret_by (res_row Try.results12 _ _ (w.heap.size + 1 + 1) 35 (CA c) _ rfl hR2 Try.underlying35 (rca_inf c)) rfl ?_
          exact ⟨_, by rw [OK.out] <;> rfl, hB2⟩
        · have hq1b : (c.st == 1) = false := by simpa using hq1
          by_cases hq2 : c.st = 2
          · have hq2b : (c.st == 2) = true := by simpa using hq2
            have OK : Hid (ok = true) := Lib.hid (by rw [HR.out, nextP_b, HXE.out, HYE.out, st_again H0.out HB2.out hxs] <;> simp [hba, hen, hq2])
            clear hq1 hq2
            have hn0 := HX.out.below (bel_dr (Below.refl _ _))
            refine wp_region_held_drew (S := fun W1 : World => NA w W1 c x t) (by kernel_rfl) hn0.na (fun hH => ?_)
            have hH0 := hn0.na
            obtain ⟨wd, hwd⟩ : ∃ q, q = wh.drew := ⟨_, rfl⟩
            rw [← hwd] at hn0 hH0 hH ⊢
            clear hwd
            refine wpAnyH_take (i := 0) (oi := ⟨some 76, _, _, _, _, _⟩) (v := .agg (CA c)) rfl (by kernel_rfl) (by kernel_rfl) (by kernel_rfl) (fun _ _ _ h => h) (yields_rowK (by kernel_rfl) 35 _ rfl w.heap.size rfl (CA c) 35 _ (fun W hW => hW.c3) Try.underlying35 rfl (rca_inf _)) hH0 ?_
            try simp only [Act.put, List.setIfInBounds_toArray, List.set_cons_zero, List.set_cons_succ]
            refine wpAnyH_take (i := 1) (oi := ⟨some 77, _, _, _, _, _⟩) (v := .agg (TA t)) rfl (by kernel_rfl) (by kernel_rfl) (by kernel_rfl) (fun _ _ _ h => h) (yields_rowK (by kernel_rfl) 38 _ rfl (w.heap.size + 1) rfl (TA t) 38 _ (fun W hW => hW.t5) Try.underlying38 rfl (rta_inf t)) hH0 ?_
            try simp only [Act.put, List.setIfInBounds_toArray, List.set_cons_zero, List.set_cons_succ]
            refine wpAnyH_take (i := 3) (oi := ⟨some 79, _, _, _, _, _⟩) (v := .pointer (some ⟨w.heap.size + 1 + 1 + 1, 1, none⟩)) rfl (by kernel_rfl) (by kernel_rfl) (by kernel_rfl) (fun _ _ _ h => h) (.inl ⟨by kernel_rfl, fun W1 hW1 => by go_simp⟩) hH0 ?_
            try simp only [Act.put, List.setIfInBounds_toArray, List.set_cons_zero, List.set_cons_succ]
            refine wpAnyH_take (i := 4) (oi := ⟨some 80, _, _, _, _, _⟩) (v := .int .u32 x.e) rfl (by kernel_rfl) (by kernel_rfl) (by kernel_rfl) (fun _ _ _ h => h) (.inl ⟨by kernel_rfl, fun W1 hW1 => by have q := blk_cell (o := 1) (v := .int .u32 x.e) hW1.x8 rfl; go_simp⟩) hH0 ?_
            try simp only [Act.put, List.setIfInBounds_toArray, List.set_cons_zero, List.set_cons_succ]
            refine wpAnyH_ready (rs := [2]) (by kernel_rfl) (by simp) ?_
            refine AllReadyH.cons (o := ⟨some 78, _, _, _, _, _⟩) rfl (fun K hK => ?_) AllReadyH.nil
            go_simp
            go_at_call 17
            ((with_reducible refine (rend_any t _).mono ?_); rintro e w20 ⟨rfl, b20⟩)
            have hn20 := hn0.below b20
            have hS20 := hn20.na
            refine hK.out _ _ hS20 (fun _ => ?_)
            clear hK K
            try simp only [Act.put, List.setIfInBounds_toArray, List.set_cons_zero, List.set_cons_succ]
            refine wpAnyH_take (i := 5) (oi := ⟨some 81, _, _, _, _, _⟩) (v := .bool true) rfl (by kernel_rfl) (by kernel_rfl) (by kernel_rfl) (fun _ _ _ h => h) (.inl ⟨by kernel_rfl, fun W1 hW1 => by go_simp⟩) hS20 ?_
            try simp only [Act.put, List.setIfInBounds_toArray, List.set_cons_zero, List.set_cons_succ]
            refine wpAnyH_take (i := 6) (oi := ⟨some 82, _, _, _, _, _⟩) (v := .bool true) rfl (by kernel_rfl) (by kernel_rfl) (by kernel_rfl) (fun _ _ _ h => h) (.inl ⟨by kernel_rfl, fun W1 hW1 => by go_simp⟩) hS20 ?_
            try simp only [Act.put, List.setIfInBounds_toArray, List.set_cons_zero, List.set_cons_succ]
            refine wpAnyH_take (i := 7) (oi := ⟨some 83, _, _, _, _, _⟩) (v := .pointer (some ⟨w.heap.size, 0, none⟩)) rfl (by kernel_rfl) (by kernel_rfl) (by kernel_rfl) (fun _ _ _ h => h) (.inl ⟨by kernel_rfl, fun W1 hW1 => by go_simp⟩) hS20 ?_
            try simp only [Act.put, List.setIfInBounds_toArray, List.set_cons_zero, List.set_cons_succ]
            refine wpAnyH_take (i := 8) (oi := ⟨some 84, _, _, _, _, _⟩) (v := .int .i64 c.st) rfl (by kernel_rfl) (by kernel_rfl) (by kernel_rfl) (fun _ _ _ h => h) (.inl ⟨by kernel_rfl, fun W1 hW1 => by have q := blk_cell (o := 0) (v := .int .i64 c.st) hW1.c3 rfl; go_simp⟩) hS20 ?_
            try simp only [Act.put, List.setIfInBounds_toArray, List.set_cons_zero, List.set_cons_succ]
            refine wpAnyH_take (i := 9) (oi := ⟨some 85, _, _, _, _, _⟩) (v := .bool false) rfl (by kernel_rfl) (by kernel_rfl) (by kernel_rfl) (fun _ _ _ h => h) (.inl ⟨by kernel_rfl, fun W1 hW1 => by go_simp⟩) hS20 ?_
            try simp only [Act.put, List.setIfInBounds_toArray, List.set_cons_zero, List.set_cons_succ]
            refine wpAnyH_take (i := 10) (oi := ⟨some 86, _, _, _, _, _⟩) (v := .bool false) rfl (by kernel_rfl) (by kernel_rfl) (by kernel_rfl) (fun _ _ _ h => h) (.inl ⟨by kernel_rfl, fun W1 hW1 => by go_simp⟩) hS20 ?_
            try simp only [Act.put, List.setIfInBounds_toArray, List.set_cons_zero, List.set_cons_succ]
            refine wpAnyH_take (i := 11) (oi := ⟨some 87, _, _, _, _, _⟩) (v := .pointer (some ⟨w.heap.size, 0, none⟩)) rfl (by kernel_rfl) (by kernel_rfl) (by kernel_rfl) (fun _ _ _ h => h) (.inl ⟨by kernel_rfl, fun W1 hW1 => by go_simp⟩) hS20 ?_
            try simp only [Act.put, List.setIfInBounds_toArray, List.set_cons_zero, List.set_cons_succ]
            refine wpAnyH_take (i := 12) (oi := ⟨some 88, _, _, _, _, _⟩) (v := .int .i64 c.st) rfl (by kernel_rfl) (by kernel_rfl) (by kernel_rfl) (fun _ _ _ h => h) (.inl ⟨by kernel_rfl, fun W1 hW1 => by have q := blk_cell (o := 0) (v := .int .i64 c.st) hW1.c3 rfl; go_simp⟩) hS20 ?_
            try simp only [Act.put, List.setIfInBounds_toArray, List.set_cons_zero, List.set_cons_succ]
            refine wpAnyH_take (i := 13) (oi := ⟨some 89, _, _, _, _, _⟩) (v := .bool true) rfl (by kernel_rfl) (by kernel_rfl) (by kernel_rfl) (fun _ _ _ h => h) (.inl ⟨by kernel_rfl, fun W1 hW1 => by go_simp⟩) hS20 ?_
            try simp only [Act.put, List.setIfInBounds_toArray, List.set_cons_zero, List.set_cons_succ]
            refine wpAnyH_take (i := 14) (oi := ⟨some 90, _, _, _, _, _⟩) (v := .bool true) rfl (by kernel_rfl) (by kernel_rfl) (by kernel_rfl) (fun _ _ _ h => h) (.inl ⟨by kernel_rfl, fun W1 hW1 => by go_simp⟩) hS20 ?_
            try simp only [Act.put, List.setIfInBounds_toArray, List.set_cons_zero, List.set_cons_succ]
            refine wpAnyH_take (i := 15) (oi := ⟨some 91, _, _, _, _, _⟩) (v := .bool true) rfl (by kernel_rfl) (by kernel_rfl) (by kernel_rfl) (fun _ _ _ h => h) (.inl ⟨by kernel_rfl, fun W1 hW1 => by go_simp⟩) hS20 ?_
            try simp only [Act.put, List.setIfInBounds_toArray, List.set_cons_zero, List.set_cons_succ]
            refine wpAnyH_ready (rs := [16]) (by kernel_rfl) (by simp) ?_
            refine AllReadyH.cons (o := ⟨none, _, _, _, _, _⟩) rfl (fun K hK => ?_) AllReadyH.nil
            refine step_store_row rfl 35 (.tmp 6) (.tmp 76) rfl (w.heap.size + 1 + 1) (CA c) rfl rfl 35 (CA zcn) hn20.r6 (rca_inf c) rfl (ca_one c) ?_
            have hz := hS20.row (CA c)
            have hR2 := blk_setRow hn20.r6 (CA c)
            have hB2 := Below.setRow hn20.bel (show w.heap.size ≤ w.heap.size + 1 + 1 by omega) (CA c)
            refine hK.out _ _ hz (fun _ => ?_)
            clear hK K
            generalize w20.setRow (w.heap.size + 1 + 1) (CA c) = wz at *
            try simp only [Act.put, List.setIfInBounds_toArray, List.set_cons_zero, List.set_cons_succ]
            refine wpAnyH_take (i := 17) (oi := ⟨some 7, _, _, _, _, _⟩) (v := .bool true) rfl (by kernel_rfl) (by kernel_rfl) (by kernel_rfl) (fun _ _ _ h => h) (.inl ⟨by kernel_rfl, fun W1 hW1 => by go_simp⟩) hz ?_
            try simp only [Act.put, List.setIfInBounds_toArray, List.set_cons_zero, List.set_cons_succ]
            refine wpAnyH_done (by kernel_rfl) ?_ _
            try simp only [Act.put, List.setIfInBounds_toArray, List.set_cons_zero, List.set_cons_succ]
            go_wp2_with fail
            refine bodyPost_ret_by (res_row Try.results12 _ _ (w.heap.size + 1 + 1) 35 (CA c) _ rfl hR2 Try.underlying35 (rca_inf c)) rfl ?_
            exact ⟨_, by rw [OK.out] <;> rfl, hB2⟩
          · have hq2b : (c.st == 2) = false := by simpa using hq2
            have OK : Hid (ok = false) := Lib.hid (by rw [HR.out, nextP_b, HXE.out, HYE.out, st_again H0.out HB2.out hxs] <;> (simp [hba, hen]; omega))
            clear hq1 hq2
            have hn0 := HX.out.below (bel_dr (Below.refl _ _))
            refine wp_region_held_drew (S := fun W1 : World => NA w W1 c x t) (by kernel_rfl) hn0.na (fun hH => ?_)
            have hH0 := hn0.na
            obtain ⟨wd, hwd⟩ : ∃ q, q = wh.drew := ⟨_, rfl⟩
            rw [← hwd] at hn0 hH0 hH ⊢
            clear hwd
            refine wpAnyH_take (i := 0) (oi := ⟨some 76, _, _, _, _, _⟩) (v := .agg (CA c)) rfl (by kernel_rfl) (by kernel_rfl) (by kernel_rfl) (fun _ _ _ h => h) (yields_rowK (by kernel_rfl) 35 _ rfl w.heap.size rfl (CA c) 35 _ (fun W hW => hW.c3) Try.underlying35 rfl (rca_inf _)) hH0 ?_
            try simp only [Act.put, List.setIfInBounds_toArray, List.set_cons_zero, List.set_cons_succ]
            refine wpAnyH_take (i := 1) (oi := ⟨some 77, _, _, _, _, _⟩) (v := .agg (TA t)) rfl (by kernel_rfl) (by kernel_rfl) (by kernel_rfl) (fun _ _ _ h => h) (yields_rowK (by kernel_rfl) 38 _ rfl (w.heap.size + 1) rfl (TA t) 38 _ (fun W hW => hW.t5) Try.underlying38 rfl (rta_inf t)) hH0 ?_
            try simp only [Act.put, List.setIfInBounds_toArray, List.set_cons_zero, List.set_cons_succ]
            refine wpAnyH_take (i := 3) (oi := ⟨some 79, _, _, _, _, _⟩) (v := .pointer (some ⟨w.heap.size + 1 + 1 + 1, 1, none⟩)) rfl (by kernel_rfl) (by kernel_rfl) (by kernel_rfl) (fun _ _ _ h => h) (.inl ⟨by kernel_rfl, fun W1 hW1 => by go_simp⟩) hH0 ?_
            try simp only [Act.put, List.setIfInBounds_toArray, List.set_cons_zero, List.set_cons_succ]
            refine wpAnyH_take (i := 4) (oi := ⟨some 80, _, _, _, _, _⟩) (v := .int .u32 x.e) rfl (by kernel_rfl) (by kernel_rfl) (by kernel_rfl) (fun _ _ _ h => h) (.inl ⟨by kernel_rfl, fun W1 hW1 => by have q := blk_cell (o := 1) (v := .int .u32 x.e) hW1.x8 rfl; go_simp⟩) hH0 ?_
            try simp only [Act.put, List.setIfInBounds_toArray, List.set_cons_zero, List.set_cons_succ]
            refine wpAnyH_ready (rs := [2]) (by kernel_rfl) (by simp) ?_
            refine AllReadyH.cons (o := ⟨some 78, _, _, _, _, _⟩) rfl (fun K hK => ?_) AllReadyH.nil
            go_simp
            go_at_call 17
            ((with_reducible refine (rend_any t _).mono ?_); rintro e w20 ⟨rfl, b20⟩)
            have hn20 := hn0.below b20
            have hS20 := hn20.na
            refine hK.out _ _ hS20 (fun _ => ?_)
            clear hK K
            try simp only [Act.put, List.setIfInBounds_toArray, List.set_cons_zero, List.set_cons_succ]
            refine wpAnyH_take (i := 5) (oi := ⟨some 81, _, _, _, _, _⟩) (v := .bool true) rfl (by kernel_rfl) (by kernel_rfl) (by kernel_rfl) (fun _ _ _ h => h) (.inl ⟨by kernel_rfl, fun W1 hW1 => by go_simp⟩) hS20 ?_
            try simp only [Act.put, List.setIfInBounds_toArray, List.set_cons_zero, List.set_cons_succ]
            refine wpAnyH_take (i := 6) (oi := ⟨some 82, _, _, _, _, _⟩) (v := .bool true) rfl (by kernel_rfl) (by kernel_rfl) (by kernel_rfl) (fun _ _ _ h => h) (.inl ⟨by kernel_rfl, fun W1 hW1 => by go_simp⟩) hS20 ?_
            try simp only [Act.put, List.setIfInBounds_toArray, List.set_cons_zero, List.set_cons_succ]
            refine wpAnyH_take (i := 7) (oi := ⟨some 83, _, _, _, _, _⟩) (v := .pointer (some ⟨w.heap.size, 0, none⟩)) rfl (by kernel_rfl) (by kernel_rfl) (by kernel_rfl) (fun _ _ _ h => h) (.inl ⟨by kernel_rfl, fun W1 hW1 => by go_simp⟩) hS20 ?_
            try simp only [Act.put, List.setIfInBounds_toArray, List.set_cons_zero, List.set_cons_succ]
            refine wpAnyH_take (i := 8) (oi := ⟨some 84, _, _, _, _, _⟩) (v := .int .i64 c.st) rfl (by kernel_rfl) (by kernel_rfl) (by kernel_rfl) (fun _ _ _ h => h) (.inl ⟨by kernel_rfl, fun W1 hW1 => by have q := blk_cell (o := 0) (v := .int .i64 c.st) hW1.c3 rfl; go_simp⟩) hS20 ?_
            try simp only [Act.put, List.setIfInBounds_toArray, List.set_cons_zero, List.set_cons_succ]
            refine wpAnyH_take (i := 9) (oi := ⟨some 85, _, _, _, _, _⟩) (v := .bool false) rfl (by kernel_rfl) (by kernel_rfl) (by kernel_rfl) (fun _ _ _ h => h) (.inl ⟨by kernel_rfl, fun W1 hW1 => by go_simp⟩) hS20 ?_
            try simp only [Act.put, List.setIfInBounds_toArray, List.set_cons_zero, List.set_cons_succ]
            refine wpAnyH_take (i := 10) (oi := ⟨some 86, _, _, _, _, _⟩) (v := .bool false) rfl (by kernel_rfl) (by kernel_rfl) (by kernel_rfl) (fun _ _ _ h => h) (.inl ⟨by kernel_rfl, fun W1 hW1 => by go_simp⟩) hS20 ?_
            try simp only [Act.put, List.setIfInBounds_toArray, List.set_cons_zero, List.set_cons_succ]
            refine wpAnyH_take (i := 11) (oi := ⟨some 87, _, _, _, _, _⟩) (v := .pointer (some ⟨w.heap.size, 0, none⟩)) rfl (by kernel_rfl) (by kernel_rfl) (by kernel_rfl) (fun _ _ _ h => h) (.inl ⟨by kernel_rfl, fun W1 hW1 => by go_simp⟩) hS20 ?_
            try simp only [Act.put, List.setIfInBounds_toArray, List.set_cons_zero, List.set_cons_succ]
            refine wpAnyH_take (i := 12) (oi := ⟨some 88, _, _, _, _, _⟩) (v := .int .i64 c.st) rfl (by kernel_rfl) (by kernel_rfl) (by kernel_rfl) (fun _ _ _ h => h) (.inl ⟨by kernel_rfl, fun W1 hW1 => by have q := blk_cell (o := 0) (v := .int .i64 c.st) hW1.c3 rfl; go_simp⟩) hS20 ?_
            try simp only [Act.put, List.setIfInBounds_toArray, List.set_cons_zero, List.set_cons_succ]
            refine wpAnyH_take (i := 13) (oi := ⟨some 89, _, _, _, _, _⟩) (v := .bool false) rfl (by kernel_rfl) (by kernel_rfl) (by kernel_rfl) (fun _ _ _ h => h) (.inl ⟨by kernel_rfl, fun W1 hW1 => by go_simp⟩) hS20 ?_
            try simp only [Act.put, List.setIfInBounds_toArray, List.set_cons_zero, List.set_cons_succ]
            refine wpAnyH_take (i := 14) (oi := ⟨some 90, _, _, _, _, _⟩) (v := .bool false) rfl (by kernel_rfl) (by kernel_rfl) (by kernel_rfl) (fun _ _ _ h => h) (.inl ⟨by kernel_rfl, fun W1 hW1 => by go_simp⟩) hS20 ?_
            try simp only [Act.put, List.setIfInBounds_toArray, List.set_cons_zero, List.set_cons_succ]
            refine wpAnyH_take (i := 15) (oi := ⟨some 91, _, _, _, _, _⟩) (v := .bool false) rfl (by kernel_rfl) (by kernel_rfl) (by kernel_rfl) (fun _ _ _ h => h) (.inl ⟨by kernel_rfl, fun W1 hW1 => by go_simp⟩) hS20 ?_
            try simp only [Act.put, List.setIfInBounds_toArray, List.set_cons_zero, List.set_cons_succ]
            refine wpAnyH_ready (rs := [16]) (by kernel_rfl) (by simp) ?_
            refine AllReadyH.cons (o := ⟨none, _, _, _, _, _⟩) rfl (fun K hK => ?_) AllReadyH.nil
            refine step_store_row rfl 35 (.tmp 6) (.tmp 76) rfl (w.heap.size + 1 + 1) (CA c) rfl rfl 35 (CA zcn) hn20.r6 (rca_inf c) rfl (ca_one c) ?_
            have hz := hS20.row (CA c)
            have hR2 := blk_setRow hn20.r6 (CA c)
            have hB2 := Below.setRow hn20.bel (show w.heap.size ≤ w.heap.size + 1 + 1 by omega) (CA c)
            refine hK.out _ _ hz (fun _ => ?_)
            clear hK K
            generalize w20.setRow (w.heap.size + 1 + 1) (CA c) = wz at *
            try simp only [Act.put, List.setIfInBounds_toArray, List.set_cons_zero, List.set_cons_succ]
            refine wpAnyH_take (i := 17) (oi := ⟨some 7, _, _, _, _, _⟩) (v := .bool false) rfl (by kernel_rfl) (by kernel_rfl) (by kernel_rfl) (fun _ _ _ h => h) (.inl ⟨by kernel_rfl, fun W1 hW1 => by go_simp⟩) hz ?_
            try simp only [Act.put, List.setIfInBounds_toArray, List.set_cons_zero, List.set_cons_succ]
            refine wpAnyH_done (by kernel_rfl) ?_ _
            try simp only [Act.put, List.setIfInBounds_toArray, List.set_cons_zero, List.set_cons_succ]
            go_wp2_with fail
            refine bodyPost_ret_by (res_row Try.results12 _ _ (w.heap.size + 1 + 1) 35 (CA c) _ rfl hR2 Try.underlying35 (rca_inf c)) rfl ?_
            exact ⟨_, by rw [OK.out] <;> rfl, hB2⟩

end Go.Proofs.Ytdgodndaaenafab
