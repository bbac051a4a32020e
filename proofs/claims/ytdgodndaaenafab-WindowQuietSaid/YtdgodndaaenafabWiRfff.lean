/- The document's Next: some of its ways; by-name template (gen_wi2.py). -/
import Derived.Test.YtdgodndaaenafabWiRb
namespace Go.Proofs.Ytdgodndaaenafab
open Go.RowKit Go.Lib Go.Sort
set_option linter.unusedVariables false
set_option linter.unusedSimpArgs false

set_option maxRecDepth 100000 in
set_option maxHeartbeats 16000000 in
theorem rn_inff_f (c : CN) (t : TR) (w : World) (hs1 : decide (c.st < 1) = false) (hs5 : decide (4 < c.st) = false) (h16 : hb t 16 = false) (hys : c.b.seen = false) (hl : True) (hst : strayP t c.b = false) (h2 : hb t 2 = false) (h4 : hb t 4 = true) (hxs : c.a.seen = true) (hl1 : lessP c.a.m (endP t) = false) (hl2 : lessP t.sq (IntKind.u32.wrap (c.a.e - 65536)) = false) : Calls Try.prog 12 #[.agg (CA c), .bool false, .agg (TA t)] w (ROK w (nextP c false t).2) := by
  clear hl
  obtain ⟨x, hxe⟩ : ∃ x, c.a = x := ⟨_, rfl⟩
  obtain ⟨y, hye⟩ : ∃ y, c.b = y := ⟨_, rfl⟩
  rw [hxe] at hxs hl1 hl2
  rw [hye] at hys hst
  obtain ⟨W, hW⟩ : ∃ W, W = ((((w.alloc (.cells (CA c) 35)).alloc (.cells (TA t) 38)).alloc (.cells #[.int .i64 0, .bool false, .int .u32 0, .int .u32 0, .bool false, .bool false, .int .u32 0, .int .u32 0, .bool false] 35)).alloc (.cells (SA c.a) 33)).alloc (.cells (SA c.b) 33) := ⟨_, rfl⟩
  have HX : Hid (NR w W c x y t) := Lib.hid (by
    rw [hW, ← hxe, ← hye]
    exact ⟨blk_al (blk_al (blk_al (blk_al (blk_new w _)))), blk_al (blk_al (blk_al (blk_new2 _ _ (by simp)))), blk_al (blk_al (blk_new2 _ _ (by simp))), blk_al (blk_new2 _ _ (by simp)), blk_new2 _ _ (by simp), Below.al (Below.al (Below.al (Below.al (bel_al _ _) (by simp) _) (by simp; omega) _) (by simp; omega) _) (by simp; omega) _⟩)
  have HXE := Lib.hid hxe
  have HYE := Lib.hid hye
  clear hxe hye
  obtain ⟨ok, hok⟩ : ∃ o, o = (nextP c false t).2 := ⟨_, rfl⟩
  rw [← hok]
  have HR := Lib.hid hok
  clear hok
  have hs50 : decide (5 ≤ c.st) = false := by first | (simp at hs5 ⊢; omega)
  simp only [CA, SA, TA] at hW
  simp only [CA, TA]
  go_enter Try.func12, Try.ntmps12
  go_upto_region 6 with fail
  rw [← hW]
  clear hW
  generalize Value.agg #[Value.int IntKind.i64 c.st, Value.bool c.a.seen, Value.int IntKind.u32 c.a.e, Value.int IntKind.u32 c.a.m, Value.bool c.a.fin, Value.bool c.b.seen, Value.int IntKind.u32 c.b.e, Value.int IntKind.u32 c.b.m, Value.bool c.b.fin] = cv
  generalize Value.agg #[Value.int IntKind.i64 t.sp, Value.int IntKind.i64 t.dp, Value.int IntKind.u32 t.sq, Value.int IntKind.u32 t.ak, Value.int IntKind.i64 t.fl, Value.int IntKind.i64 t.wi, Value.int IntKind.i64 t.ty, Value.int IntKind.i64 t.co, Value.int IntKind.i64 t.he, Value.int IntKind.i64 t.da] = tv
  try generalize Value.agg #[Value.bool c.a.seen, Value.int IntKind.u32 c.a.e, Value.int IntKind.u32 c.a.m, Value.bool c.a.fin] = av
  try generalize Value.agg #[Value.bool c.b.seen, Value.int IntKind.u32 c.b.e, Value.int IntKind.u32 c.b.m, Value.bool c.b.fin] = bv
  obtain ⟨k0, k1, k2, k3, k4, k5, k6, k7, k8, k9, k10, k11, k12, k13, k14, k15, k16, k17⟩ := HX.out.cells
  have H0 : Hid ((decide (c.st < 1) || decide (5 ≤ c.st) || strayP t y) = false) := Lib.hid (by rw [hs1, hs50, hst]; rfl)
  clear hst
  rw [hys] at k10
  go_upto_region 10 with (first | ((with_reducible refine stop_op (o := ⟨some 32, _, _, _, _, _⟩) ?_); refine Lib.hid ?_; refine wpList_load_cells_on (by rfl) 38 (.tmp 5) rfl ⟨w.heap.size + 1, 0, none⟩ rfl (TA t) _ (blk_all HX.out.t5) Try.underlying38 rfl (rta_inf t) ?_) | ((with_reducible refine stop_op (o := ⟨some 43, _, _, _, _, _⟩) ?_); refine Lib.hid ?_; refine wpList_load_cells_on (by rfl) 38 (.tmp 5) rfl ⟨w.heap.size + 1, 0, none⟩ rfl (TA t) _ (blk_all HX.out.t5) Try.underlying38 rfl (rta_inf t) ?_) | ((with_reducible refine stop_op (o := ⟨some 47, _, _, _, _, _⟩) ?_); refine Lib.hid ?_; refine wpList_load_cells_on (by rfl) 38 (.tmp 5) rfl ⟨w.heap.size + 1, 0, none⟩ rfl (TA t) _ (blk_all HX.out.t5) Try.underlying38 rfl (rta_inf t) ?_) | ((with_reducible refine stop_op (o := ⟨some 52, _, _, _, _, _⟩) ?_); refine Lib.hid ?_; refine wpList_load_cells_on (by rfl) 38 (.tmp 5) rfl ⟨w.heap.size + 1, 0, none⟩ rfl (TA t) _ (blk_all HX.out.t5) Try.underlying38 rfl (rta_inf t) ?_) | (go_at_call 26; ((with_reducible refine (rhas_any t _ _).mono ?_); rintro e wh ⟨rfl, bh⟩); have HX := Lib.hid (HX.out.below bh); clear bh; clear k0 k1 k2 k3 k4 k5 k6 k7 k8 k9 k10 k11 k12 k13 k14 k15 k16 k17; obtain ⟨k0, k1, k2, k3, k4, k5, k6, k7, k8, k9, k10, k11, k12, k13, k14, k15, k16, k17⟩ := HX.out.cells) | (go_at_call 27; ((with_reducible refine (rlessB _ _ _).mono ?_); rintro e wh ⟨rfl, bh⟩); have HX := Lib.hid (HX.out.below bh); clear bh; clear k0 k1 k2 k3 k4 k5 k6 k7 k8 k9 k10 k11 k12 k13 k14 k15 k16 k17; obtain ⟨k0, k1, k2, k3, k4, k5, k6, k7, k8, k9, k10, k11, k12, k13, k14, k15, k16, k17⟩ := HX.out.cells) | (go_at_call 28; ((with_reducible refine (rgrE _ _ _).mono ?_); rintro e wh ⟨G, rfl, bh⟩); have HX := Lib.hid (HX.out.below bh); clear bh; clear k0 k1 k2 k3 k4 k5 k6 k7 k8 k9 k10 k11 k12 k13 k14 k15 k16 k17; obtain ⟨k0, k1, k2, k3, k4, k5, k6, k7, k8, k9, k10, k11, k12, k13, k14, k15, k16, k17⟩ := HX.out.cells))
  clear hs5
  have HB2 := Lib.hid h2
  go_upto_region 27 with (first | ((with_reducible refine stop_op (o := ⟨some 60, _, _, _, _, _⟩) ?_); refine Lib.hid ?_; refine wpList_load_cells_on (by rfl) 38 (.tmp 5) rfl ⟨w.heap.size + 1, 0, none⟩ rfl (TA t) _ (blk_all HX.out.t5) Try.underlying38 rfl (rta_inf t) ?_) | (go_at_call 26; ((with_reducible refine (rhas_any t _ _).mono ?_); rintro e wh ⟨rfl, bh⟩); have HX := Lib.hid (HX.out.below bh); clear bh; clear k0 k1 k2 k3 k4 k5 k6 k7 k8 k9 k10 k11 k12 k13 k14 k15 k16 k17; obtain ⟨k0, k1, k2, k3, k4, k5, k6, k7, k8, k9, k10, k11, k12, k13, k14, k15, k16, k17⟩ := HX.out.cells) | (go_at_call 27; ((with_reducible refine (rlessB _ _ _).mono ?_); rintro e wh ⟨rfl, bh⟩); have HX := Lib.hid (HX.out.below bh); clear bh; clear k0 k1 k2 k3 k4 k5 k6 k7 k8 k9 k10 k11 k12 k13 k14 k15 k16 k17; obtain ⟨k0, k1, k2, k3, k4, k5, k6, k7, k8, k9, k10, k11, k12, k13, k14, k15, k16, k17⟩ := HX.out.cells) | (go_at_call 28; ((with_reducible refine (rgrE _ _ _).mono ?_); rintro e wh ⟨G, rfl, bh⟩); have HX := Lib.hid (HX.out.below bh); clear bh; clear k0 k1 k2 k3 k4 k5 k6 k7 k8 k9 k10 k11 k12 k13 k14 k15 k16 k17; obtain ⟨k0, k1, k2, k3, k4, k5, k6, k7, k8, k9, k10, k11, k12, k13, k14, k15, k16, k17⟩ := HX.out.cells))
  have OK : Hid (ok = true) := Lib.hid (by rw [HR.out, nextP_f, HXE.out, HYE.out, st_in H0.out h2 hxs (by rw [hl1, ← IntKind.wrap_u32, hl2]; rfl)] <;> rfl)
  have kq1 := cell_regrown k8
  have kq2 := cell_regrown k7
  have kq3 := cell_regrown k2
  have q0 := fun d os => Calls.regrown_of (rend_any t (grow (redrawn wh d) os))
  have q1 := fun d os => Calls.regrown_of (rlessB x.m (endP t) (grow (redrawn wh d) os))
  have q2 := fun d os => Calls.regrown_of (rlessB t.sq (IntKind.u32.wrap (x.e - 65536)) (grow (redrawn wh d) os))
  rw [hl1] at q1
  rw [hl2] at q2
  clear k0 k1 k2 k3 k4 k5 k6 k7 k8 k9 k10 k11 k12 k13 k14 k15 k16 k17
  refine wp_region_quiet_below (by kernel_rfl) (by kernel_rfl) ?_
  repeat (first | go_big_quiet_skip | ((with_reducible refine stop_quiet (o := ⟨some 158, _, _, _, _, _⟩) ?_); refine quiet_load_row (by kernel_rfl) 38 (.tmp 5) rfl (w.heap.size + 1) rfl 38 (TA t) (0, 0) _ (rg_heap HX.out.t5) Try.underlying38 rfl (rta_inf t) ?_; simp only [Act.put, List.setIfInBounds_toArray, List.set_cons_succ, List.set_cons_zero]) | quiet_step (first | (go_at_call 17; with_reducible exact q0 _ _) | (go_at_call 27; with_reducible exact q1 _ _) | (go_at_call 27; with_reducible exact q2 _ _)))
  refine wpQuiet_nil ?_
  intro _ hw'
  obtain ⟨⟨dq, osq⟩, hw''⟩ := hw'
  subst hw''
  have HX := Lib.hid (HX.out.below (below_regrown wh dq osq))
  obtain ⟨wh, hwh⟩ : ∃ q, q = grow (redrawn wh dq) osq := ⟨_, rfl⟩
  rw [← hwh] at HX ⊢
  clear hwh kq1 kq2 kq3 q0 q1 q2
  obtain ⟨k0, k1, k2, k3, k4, k5, k6, k7, k8, k9, k10, k11, k12, k13, k14, k15, k16, k17⟩ := HX.out.cells
  clear hl1 hl2
  go_upto_region 29 with fail
  go_cut [170] from 171 to 175 (fun v170 wx => Hid (∃ x2, NR w wx c x2 y t))
  case first =>
    have hn0 := HX.out.below (bel_dr (Below.refl _ _))
    refine wp_region_held_drew (S := fun W1 : World => NS2 w W1 c t) (by kernel_rfl) hn0.ns2 (fun hH => ?_)
    have hH0 := hn0.ns2
    obtain ⟨wd, hwd⟩ : ∃ q, q = wh.drew := ⟨_, rfl⟩
    rw [← hwd] at hn0 hH0 hH ⊢
    clear hwd
    refine wpAnyH_take (i := 0) (oi := ⟨some 170, _, _, _, _, _⟩) (v := .pointer (some ⟨w.heap.size + 1 + 1 + 1, 1, none⟩)) rfl (by kernel_rfl) (by kernel_rfl) (by kernel_rfl) (fun _ _ _ h => h) (.inl ⟨by kernel_rfl, fun W1 hW1 => by go_simp⟩) hH0 ?_
    try simp only [Act.put, List.setIfInBounds_toArray, List.set_cons_zero, List.set_cons_succ]
    refine wpAnyH_take (i := 2) (oi := ⟨some 172, _, _, _, _, _⟩) (v := .agg (TA t)) rfl (by kernel_rfl) (by kernel_rfl) (by kernel_rfl) (fun _ _ _ h => h) (yields_rowK (by kernel_rfl) 38 _ rfl (w.heap.size + 1) rfl (TA t) 38 _ (fun W hW => hW.t5) Try.underlying38 rfl (rta_inf t)) hH0 ?_
    try simp only [Act.put, List.setIfInBounds_toArray, List.set_cons_zero, List.set_cons_succ]
    refine wpAnyH_ready (rs := [1, 3]) (by kernel_rfl) (by simp) ?_
    refine AllReadyH.cons (o := ⟨some 171, _, _, _, _, _⟩) rfl (fun K hK => ?_) (AllReadyH.cons (o := ⟨some 173, _, _, _, _, _⟩) rfl (fun K hK => ?_) AllReadyH.nil)
    · have e1 : wd.cell? ⟨w.heap.size + 1 + 1 + 1, 1, none⟩ = some (.int .u32 x.e) := blk_cell hn0.x8 rfl
      go_simp
      refine hK.out _ _ hH0 (fun _ => ?_)
      clear hK K
      try simp only [Act.put, List.setIfInBounds_toArray, List.set_cons_zero, List.set_cons_succ]
      refine wpAnyH_ready (rs := [3]) (by kernel_rfl) (by simp) ?_
      refine AllReadyH.cons (o := ⟨some 173, _, _, _, _, _⟩) rfl (fun K hK => ?_) AllReadyH.nil
      go_simp
      go_at_call 17
      ((with_reducible refine (rend_any t _).mono ?_); rintro e w21 ⟨rfl, b21⟩)
      have hn21 := hn0.below b21
      have hS21 := hn21.ns2
      refine hK.out _ _ hS21 (fun _ => ?_)
      clear hK K
      try simp only [Act.put, List.setIfInBounds_toArray, List.set_cons_zero, List.set_cons_succ]
      refine wpAnyH_ready (rs := [4]) (by kernel_rfl) (by simp) ?_
      refine AllReadyH.cons (o := ⟨some 174, _, _, _, _, _⟩) rfl (fun K hK => ?_) AllReadyH.nil
      go_simp
      go_at_call 28
      ((with_reducible refine (rgrE _ _ _).mono ?_); rintro e w22 ⟨G, rfl, b22⟩)
      have hn22 := hn21.below b22
      have hS22 := hn22.ns2
      refine hK.out _ _ hS22 (fun _ => ?_)
      clear hK K
      try simp only [Act.put, List.setIfInBounds_toArray, List.set_cons_zero, List.set_cons_succ]
      refine wpAnyH_take (i := 5) (oi := ⟨some 175, _, _, _, _, _⟩) (v := .pointer (some ⟨w.heap.size + 1 + 1 + 1, 1, none⟩)) rfl (by kernel_rfl) (by kernel_rfl) (by kernel_rfl) (fun _ _ _ h => h) (.inl ⟨by kernel_rfl, fun W1 hW1 => by go_simp⟩) hS22 ?_
      try simp only [Act.put, List.setIfInBounds_toArray, List.set_cons_zero, List.set_cons_succ]
      refine wpAnyH_ready (rs := [6]) (by kernel_rfl) (by simp) ?_
      refine AllReadyH.cons (o := ⟨none, _, _, _, _, _⟩) rfl (fun K hK => ?_) AllReadyH.nil
      have e1 : w22.cell? ⟨w.heap.size + 1 + 1 + 1, 1, none⟩ = some (.int .u32 x.e) := blk_cell hn22.x8 rfl
      have f1 : w22.frozen? ⟨w.heap.size + 1 + 1 + 1, 1, none⟩ = false := blk_free hn22.x8
      go_simp
      have hz := hn22.setx (x' := ⟨x.seen, G, x.m, x.fin⟩) ((Off.refl (w.heap.size + 1 + 1 + 1) w22).set 1 (.int .u32 G)) (heap_set hn22.x8 1 _)
      refine hK.out _ _ hz.ns2 (fun _ => ?_)
      clear hK K
      try simp only [Act.put, List.setIfInBounds_toArray, List.set_cons_zero, List.set_cons_succ]
      refine wpAnyH_done (by kernel_rfl) ?_ _
      go_wp2_with fail
      go_meet
      exact Lib.hid ⟨_, hz⟩
    · go_simp
      go_at_call 17
      ((with_reducible refine (rend_any t _).mono ?_); rintro e w21 ⟨rfl, b21⟩)
      have hn21 := hn0.below b21
      have hS21 := hn21.ns2
      refine hK.out _ _ hS21 (fun _ => ?_)
      clear hK K
      try simp only [Act.put, List.setIfInBounds_toArray, List.set_cons_zero, List.set_cons_succ]
      refine wpAnyH_ready (rs := [1]) (by kernel_rfl) (by simp) ?_
      refine AllReadyH.cons (o := ⟨some 171, _, _, _, _, _⟩) rfl (fun K hK => ?_) AllReadyH.nil
      have e1 : w21.cell? ⟨w.heap.size + 1 + 1 + 1, 1, none⟩ = some (.int .u32 x.e) := blk_cell hn21.x8 rfl
      go_simp
      refine hK.out _ _ hS21 (fun _ => ?_)
      clear hK K
      try simp only [Act.put, List.setIfInBounds_toArray, List.set_cons_zero, List.set_cons_succ]
      refine wpAnyH_ready (rs := [4]) (by kernel_rfl) (by simp) ?_
      refine AllReadyH.cons (o := ⟨some 174, _, _, _, _, _⟩) rfl (fun K hK => ?_) AllReadyH.nil
      go_simp
      go_at_call 28
      ((with_reducible refine (rgrE _ _ _).mono ?_); rintro e w22 ⟨G, rfl, b22⟩)
      have hn22 := hn21.below b22
      have hS22 := hn22.ns2
      refine hK.out _ _ hS22 (fun _ => ?_)
      clear hK K
      try simp only [Act.put, List.setIfInBounds_toArray, List.set_cons_zero, List.set_cons_succ]
      refine wpAnyH_take (i := 5) (oi := ⟨some 175, _, _, _, _, _⟩) (v := .pointer (some ⟨w.heap.size + 1 + 1 + 1, 1, none⟩)) rfl (by kernel_rfl) (by kernel_rfl) (by kernel_rfl) (fun _ _ _ h => h) (.inl ⟨by kernel_rfl, fun W1 hW1 => by go_simp⟩) hS22 ?_
      try simp only [Act.put, List.setIfInBounds_toArray, List.set_cons_zero, List.set_cons_succ]
      refine wpAnyH_ready (rs := [6]) (by kernel_rfl) (by simp) ?_
      refine AllReadyH.cons (o := ⟨none, _, _, _, _, _⟩) rfl (fun K hK => ?_) AllReadyH.nil
      have e1 : w22.cell? ⟨w.heap.size + 1 + 1 + 1, 1, none⟩ = some (.int .u32 x.e) := blk_cell hn22.x8 rfl
      have f1 : w22.frozen? ⟨w.heap.size + 1 + 1 + 1, 1, none⟩ = false := blk_free hn22.x8
      go_simp
      have hz := hn22.setx (x' := ⟨x.seen, G, x.m, x.fin⟩) ((Off.refl (w.heap.size + 1 + 1 + 1) w22).set 1 (.int .u32 G)) (heap_set hn22.x8 1 _)
      refine hK.out _ _ hz.ns2 (fun _ => ?_)
      clear hK K
      try simp only [Act.put, List.setIfInBounds_toArray, List.set_cons_zero, List.set_cons_succ]
      refine wpAnyH_done (by kernel_rfl) ?_ _
      go_wp2_with fail
      go_meet
      exact Lib.hid ⟨_, hz⟩
  case rest =>
    obtain ⟨x2, hx2⟩ := hcut.out
    have HX := Lib.hid hx2
    clear hcut hx2
    clear k0 k1 k2 k3 k4 k5 k6 k7 k8 k9 k10 k11 k12 k13 k14 k15 k16 k17
    obtain ⟨wh, hwh⟩ : ∃ q, q = wc := ⟨_, rfl⟩
    rw [← hwh] at HX ⊢
    clear hwh
    obtain ⟨k0, k1, k2, k3, k4, k5, k6, k7, k8, k9, k10, k11, k12, k13, k14, k15, k16, k17⟩ := HX.out.cells
    go_upto_region 30 with fail
    go_cut [176] from 177 to 182 (fun v176 wx => Hid (∃ x2, NR w wx c x2 y t))
    case first =>
      cases hxf : x2.fin
      · rw [hxf] at k9
        cases h1' : hb t 1
        · go_wp2_with (first | ((with_reducible refine stop_op (o := ⟨some 179, _, _, _, _, _⟩) ?_); refine Lib.hid ?_; refine wpList_load_cells_on (by rfl) 38 (.tmp 5) rfl ⟨w.heap.size + 1, 0, none⟩ rfl (TA t) _ (blk_all HX.out.t5) Try.underlying38 rfl (rta_inf t) ?_) | (go_at_call 26; ((with_reducible refine (rhas_any t _ _).mono ?_); rintro e wh ⟨rfl, bh⟩); have HX := Lib.hid (HX.out.below bh); clear bh; clear k0 k1 k2 k3 k4 k5 k6 k7 k8 k9 k10 k11 k12 k13 k14 k15 k16 k17; obtain ⟨k0, k1, k2, k3, k4, k5, k6, k7, k8, k9, k10, k11, k12, k13, k14, k15, k16, k17⟩ := HX.out.cells) | (go_at_call 27; ((with_reducible refine (rlessB _ _ _).mono ?_); rintro e wh ⟨rfl, bh⟩); have HX := Lib.hid (HX.out.below bh); clear bh; clear k0 k1 k2 k3 k4 k5 k6 k7 k8 k9 k10 k11 k12 k13 k14 k15 k16 k17; obtain ⟨k0, k1, k2, k3, k4, k5, k6, k7, k8, k9, k10, k11, k12, k13, k14, k15, k16, k17⟩ := HX.out.cells) | (go_at_call 28; ((with_reducible refine (rgrE _ _ _).mono ?_); rintro e wh ⟨G, rfl, bh⟩); have HX := Lib.hid (HX.out.below bh); clear bh; clear k0 k1 k2 k3 k4 k5 k6 k7 k8 k9 k10 k11 k12 k13 k14 k15 k16 k17; obtain ⟨k0, k1, k2, k3, k4, k5, k6, k7, k8, k9, k10, k11, k12, k13, k14, k15, k16, k17⟩ := HX.out.cells))
          go_meet
          exact Lib.hid ⟨_, HX.out.setx (x' := ⟨x2.seen, x2.e, x2.m, false⟩) ((Off.refl (w.heap.size + 1 + 1 + 1) wh).set 3 _) (heap_set HX.out.x8 3 _)⟩
        · go_wp2_with (first | ((with_reducible refine stop_op (o := ⟨some 179, _, _, _, _, _⟩) ?_); refine Lib.hid ?_; refine wpList_load_cells_on (by rfl) 38 (.tmp 5) rfl ⟨w.heap.size + 1, 0, none⟩ rfl (TA t) _ (blk_all HX.out.t5) Try.underlying38 rfl (rta_inf t) ?_) | (go_at_call 26; ((with_reducible refine (rhas_any t _ _).mono ?_); rintro e wh ⟨rfl, bh⟩); have HX := Lib.hid (HX.out.below bh); clear bh; clear k0 k1 k2 k3 k4 k5 k6 k7 k8 k9 k10 k11 k12 k13 k14 k15 k16 k17; obtain ⟨k0, k1, k2, k3, k4, k5, k6, k7, k8, k9, k10, k11, k12, k13, k14, k15, k16, k17⟩ := HX.out.cells) | (go_at_call 27; ((with_reducible refine (rlessB _ _ _).mono ?_); rintro e wh ⟨rfl, bh⟩); have HX := Lib.hid (HX.out.below bh); clear bh; clear k0 k1 k2 k3 k4 k5 k6 k7 k8 k9 k10 k11 k12 k13 k14 k15 k16 k17; obtain ⟨k0, k1, k2, k3, k4, k5, k6, k7, k8, k9, k10, k11, k12, k13, k14, k15, k16, k17⟩ := HX.out.cells) | (go_at_call 28; ((with_reducible refine (rgrE _ _ _).mono ?_); rintro e wh ⟨G, rfl, bh⟩); have HX := Lib.hid (HX.out.below bh); clear bh; clear k0 k1 k2 k3 k4 k5 k6 k7 k8 k9 k10 k11 k12 k13 k14 k15 k16 k17; obtain ⟨k0, k1, k2, k3, k4, k5, k6, k7, k8, k9, k10, k11, k12, k13, k14, k15, k16, k17⟩ := HX.out.cells))
          go_meet
          exact Lib.hid ⟨_, HX.out.setx (x' := ⟨x2.seen, x2.e, x2.m, true⟩) ((Off.refl (w.heap.size + 1 + 1 + 1) wh).set 3 _) (heap_set HX.out.x8 3 _)⟩
      · rw [hxf] at k9
        go_wp2_with fail
        go_meet
        exact Lib.hid ⟨_, HX.out.setx (x' := ⟨x2.seen, x2.e, x2.m, true⟩) ((Off.refl (w.heap.size + 1 + 1 + 1) wh).set 3 _) (heap_set HX.out.x8 3 _)⟩
    case rest =>
      obtain ⟨x3, hx3⟩ := hcut.out
      have HX := Lib.hid hx3
      clear hcut hx3
      clear k0 k1 k2 k3 k4 k5 k6 k7 k8 k9 k10 k11 k12 k13 k14 k15 k16 k17
      obtain ⟨wh, hwh⟩ : ∃ q, q = wc := ⟨_, rfl⟩
      rw [← hwh] at HX ⊢
      clear hwh
      obtain ⟨k0, k1, k2, k3, k4, k5, k6, k7, k8, k9, k10, k11, k12, k13, k14, k15, k16, k17⟩ := HX.out.cells
      rw [hys] at k10
      go_upto_region 33 with (first | ((with_reducible refine stop_op (o := ⟨some 186, _, _, _, _, _⟩) ?_); refine Lib.hid ?_; refine wpList_load_cells_on (by rfl) 38 (.tmp 5) rfl ⟨w.heap.size + 1, 0, none⟩ rfl (TA t) _ (blk_all HX.out.t5) Try.underlying38 rfl (rta_inf t) ?_) | (go_at_call 26; ((with_reducible refine (rhas_any t _ _).mono ?_); rintro e wh ⟨rfl, bh⟩); have HX := Lib.hid (HX.out.below bh); clear bh; clear k0 k1 k2 k3 k4 k5 k6 k7 k8 k9 k10 k11 k12 k13 k14 k15 k16 k17; obtain ⟨k0, k1, k2, k3, k4, k5, k6, k7, k8, k9, k10, k11, k12, k13, k14, k15, k16, k17⟩ := HX.out.cells) | (go_at_call 27; ((with_reducible refine (rlessB _ _ _).mono ?_); rintro e wh ⟨rfl, bh⟩); have HX := Lib.hid (HX.out.below bh); clear bh; clear k0 k1 k2 k3 k4 k5 k6 k7 k8 k9 k10 k11 k12 k13 k14 k15 k16 k17; obtain ⟨k0, k1, k2, k3, k4, k5, k6, k7, k8, k9, k10, k11, k12, k13, k14, k15, k16, k17⟩ := HX.out.cells) | (go_at_call 28; ((with_reducible refine (rgrE _ _ _).mono ?_); rintro e wh ⟨G, rfl, bh⟩); have HX := Lib.hid (HX.out.below bh); clear bh; clear k0 k1 k2 k3 k4 k5 k6 k7 k8 k9 k10 k11 k12 k13 k14 k15 k16 k17; obtain ⟨k0, k1, k2, k3, k4, k5, k6, k7, k8, k9, k10, k11, k12, k13, k14, k15, k16, k17⟩ := HX.out.cells))
      go_cut [208] from 199 to 207 (fun v208 wx => v208 = .bool false ∧ Hid (NR w wx c x3 y t))
      case first =>
        by_cases hq : c.st = 2
        · have hqb : (c.st == 2) = true := by simpa using hq
          clear hq
          go_wp2_with (first | ((with_reducible refine stop_op (o := ⟨some 202, _, _, _, _, _⟩) ?_); refine Lib.hid ?_; refine wpList_load_cells_on (by rfl) 38 (.tmp 5) rfl ⟨w.heap.size + 1, 0, none⟩ rfl (TA t) _ (blk_all HX.out.t5) Try.underlying38 rfl (rta_inf t) ?_) | (go_at_call 26; ((with_reducible refine (rhas_any t _ _).mono ?_); rintro e wh ⟨rfl, bh⟩); have HX := Lib.hid (HX.out.below bh); clear bh; clear k0 k1 k2 k3 k4 k5 k6 k7 k8 k9 k10 k11 k12 k13 k14 k15 k16 k17; obtain ⟨k0, k1, k2, k3, k4, k5, k6, k7, k8, k9, k10, k11, k12, k13, k14, k15, k16, k17⟩ := HX.out.cells) | (go_at_call 27; ((with_reducible refine (rlessB _ _ _).mono ?_); rintro e wh ⟨rfl, bh⟩); have HX := Lib.hid (HX.out.below bh); clear bh; clear k0 k1 k2 k3 k4 k5 k6 k7 k8 k9 k10 k11 k12 k13 k14 k15 k16 k17; obtain ⟨k0, k1, k2, k3, k4, k5, k6, k7, k8, k9, k10, k11, k12, k13, k14, k15, k16, k17⟩ := HX.out.cells) | (go_at_call 28; ((with_reducible refine (rgrE _ _ _).mono ?_); rintro e wh ⟨G, rfl, bh⟩); have HX := Lib.hid (HX.out.below bh); clear bh; clear k0 k1 k2 k3 k4 k5 k6 k7 k8 k9 k10 k11 k12 k13 k14 k15 k16 k17; obtain ⟨k0, k1, k2, k3, k4, k5, k6, k7, k8, k9, k10, k11, k12, k13, k14, k15, k16, k17⟩ := HX.out.cells))
          go_meet
          exact ⟨by simp [hqb], HX⟩
        · have hqb : (c.st == 2) = false := by simpa using hq
          go_wp2_with (first | ((with_reducible refine stop_op (o := ⟨some 202, _, _, _, _, _⟩) ?_); refine Lib.hid ?_; refine wpList_load_cells_on (by rfl) 38 (.tmp 5) rfl ⟨w.heap.size + 1, 0, none⟩ rfl (TA t) _ (blk_all HX.out.t5) Try.underlying38 rfl (rta_inf t) ?_) | (go_at_call 26; ((with_reducible refine (rhas_any t _ _).mono ?_); rintro e wh ⟨rfl, bh⟩); have HX := Lib.hid (HX.out.below bh); clear bh; clear k0 k1 k2 k3 k4 k5 k6 k7 k8 k9 k10 k11 k12 k13 k14 k15 k16 k17; obtain ⟨k0, k1, k2, k3, k4, k5, k6, k7, k8, k9, k10, k11, k12, k13, k14, k15, k16, k17⟩ := HX.out.cells) | (go_at_call 27; ((with_reducible refine (rlessB _ _ _).mono ?_); rintro e wh ⟨rfl, bh⟩); have HX := Lib.hid (HX.out.below bh); clear bh; clear k0 k1 k2 k3 k4 k5 k6 k7 k8 k9 k10 k11 k12 k13 k14 k15 k16 k17; obtain ⟨k0, k1, k2, k3, k4, k5, k6, k7, k8, k9, k10, k11, k12, k13, k14, k15, k16, k17⟩ := HX.out.cells) | (go_at_call 28; ((with_reducible refine (rgrE _ _ _).mono ?_); rintro e wh ⟨G, rfl, bh⟩); have HX := Lib.hid (HX.out.below bh); clear bh; clear k0 k1 k2 k3 k4 k5 k6 k7 k8 k9 k10 k11 k12 k13 k14 k15 k16 k17; obtain ⟨k0, k1, k2, k3, k4, k5, k6, k7, k8, k9, k10, k11, k12, k13, k14, k15, k16, k17⟩ := HX.out.cells))
          go_meet
          exact ⟨by simp [hqb], HX⟩
      case rest =>
        obtain ⟨rfl, HX⟩ := hcut
        clear k0 k1 k2 k3 k4 k5 k6 k7 k8 k9 k10 k11 k12 k13 k14 k15 k16 k17
        obtain ⟨wh, hwh⟩ : ∃ q, q = wc := ⟨_, rfl⟩
        rw [← hwh] at HX ⊢
        clear hwh
        obtain ⟨k0, k1, k2, k3, k4, k5, k6, k7, k8, k9, k10, k11, k12, k13, k14, k15, k16, k17⟩ := HX.out.cells
        go_upto_region 35 with fail
        go_cut [214] from 209 to 213 (fun v214 wx => v214 = .bool (x3.fin || y.fin) ∧ Hid (NR w wx c x3 y t))
        case first =>
          cases hxf : x3.fin
          · rw [hxf] at k9
            go_wp2_with fail
            go_meet
            exact ⟨by simp [hxf], HX⟩
          · rw [hxf] at k9
            go_wp2_with fail
            go_meet
            exact ⟨by simp [hxf], HX⟩
        case rest =>
          obtain ⟨rfl, HX⟩ := hcut
          clear k0 k1 k2 k3 k4 k5 k6 k7 k8 k9 k10 k11 k12 k13 k14 k15 k16 k17
          obtain ⟨wh, hwh⟩ : ∃ q, q = wc := ⟨_, rfl⟩
          rw [← hwh] at HX ⊢
          clear hwh
          obtain ⟨k0, k1, k2, k3, k4, k5, k6, k7, k8, k9, k10, k11, k12, k13, k14, k15, k16, k17⟩ := HX.out.cells
          go_upto_if 214 with fail
          go_cut [10] from 214 to 214 (fun v10 wx => (∃ z : Int, v10 = .int .i64 z) ∧ Hid (NR w wx c x3 y t))
          case first =>
            rcases hq : (x3.fin || y.fin) with _ | _
            · go_wp2_with fail
              go_meet
              exact ⟨⟨_, rfl⟩, HX⟩
            · go_wp2_with fail
              go_meet
              exact ⟨⟨_, rfl⟩, HX⟩
          case rest =>
            obtain ⟨⟨z, rfl⟩, HX⟩ := hcut
            clear k0 k1 k2 k3 k4 k5 k6 k7 k8 k9 k10 k11 k12 k13 k14 k15 k16 k17
            obtain ⟨wh, hwh⟩ : ∃ q, q = wc := ⟨_, rfl⟩
            rw [← hwh] at HX ⊢
            clear hwh
            obtain ⟨k0, k1, k2, k3, k4, k5, k6, k7, k8, k9, k10, k11, k12, k13, k14, k15, k16, k17⟩ := HX.out.cells
            go_upto_if 216 with (first | ((with_reducible refine stop_op (o := ⟨some 215, _, _, _, _, _⟩) ?_); refine Lib.hid ?_; refine wpList_load_cells_on (by rfl) 38 (.tmp 5) rfl ⟨w.heap.size + 1, 0, none⟩ rfl (TA t) _ (blk_all HX.out.t5) Try.underlying38 rfl (rta_inf t) ?_) | (go_at_call 26; ((with_reducible refine (rhas_any t _ _).mono ?_); rintro e wh ⟨rfl, bh⟩); have HX := Lib.hid (HX.out.below bh); clear bh; clear k0 k1 k2 k3 k4 k5 k6 k7 k8 k9 k10 k11 k12 k13 k14 k15 k16 k17; obtain ⟨k0, k1, k2, k3, k4, k5, k6, k7, k8, k9, k10, k11, k12, k13, k14, k15, k16, k17⟩ := HX.out.cells) | (go_at_call 27; ((with_reducible refine (rlessB _ _ _).mono ?_); rintro e wh ⟨rfl, bh⟩); have HX := Lib.hid (HX.out.below bh); clear bh; clear k0 k1 k2 k3 k4 k5 k6 k7 k8 k9 k10 k11 k12 k13 k14 k15 k16 k17; obtain ⟨k0, k1, k2, k3, k4, k5, k6, k7, k8, k9, k10, k11, k12, k13, k14, k15, k16, k17⟩ := HX.out.cells) | (go_at_call 28; ((with_reducible refine (rgrE _ _ _).mono ?_); rintro e wh ⟨G, rfl, bh⟩); have HX := Lib.hid (HX.out.below bh); clear bh; clear k0 k1 k2 k3 k4 k5 k6 k7 k8 k9 k10 k11 k12 k13 k14 k15 k16 k17; obtain ⟨k0, k1, k2, k3, k4, k5, k6, k7, k8, k9, k10, k11, k12, k13, k14, k15, k16, k17⟩ := HX.out.cells))
            go_cut [10] from 216 to 216 (fun v10 wx => (∃ z : Int, v10 = .int .i64 z) ∧ Hid (NR w wx c x3 y t))
            case first =>
              rcases hq : hb t 4 with _ | _
              · go_wp2_with fail
                go_meet
                exact ⟨⟨_, rfl⟩, HX⟩
              · go_wp2_with fail
                go_meet
                exact ⟨⟨_, rfl⟩, HX⟩
            case rest =>
              obtain ⟨⟨z, rfl⟩, HX⟩ := hcut
              clear k0 k1 k2 k3 k4 k5 k6 k7 k8 k9 k10 k11 k12 k13 k14 k15 k16 k17
              obtain ⟨wh, hwh⟩ : ∃ q, q = wc := ⟨_, rfl⟩
              rw [← hwh] at HX ⊢
              clear hwh
              obtain ⟨k0, k1, k2, k3, k4, k5, k6, k7, k8, k9, k10, k11, k12, k13, k14, k15, k16, k17⟩ := HX.out.cells
              go_wp2_with (first | fail | (go_at_call 26; ((with_reducible refine (rhas_any t _ _).mono ?_); rintro e wh ⟨rfl, bh⟩); have HX := Lib.hid (HX.out.below bh); clear bh; clear k0 k1 k2 k3 k4 k5 k6 k7 k8 k9 k10 k11 k12 k13 k14 k15 k16 k17; obtain ⟨k0, k1, k2, k3, k4, k5, k6, k7, k8, k9, k10, k11, k12, k13, k14, k15, k16, k17⟩ := HX.out.cells) | (go_at_call 27; ((with_reducible refine (rlessB _ _ _).mono ?_); rintro e wh ⟨rfl, bh⟩); have HX := Lib.hid (HX.out.below bh); clear bh; clear k0 k1 k2 k3 k4 k5 k6 k7 k8 k9 k10 k11 k12 k13 k14 k15 k16 k17; obtain ⟨k0, k1, k2, k3, k4, k5, k6, k7, k8, k9, k10, k11, k12, k13, k14, k15, k16, k17⟩ := HX.out.cells) | (go_at_call 28; ((with_reducible refine (rgrE _ _ _).mono ?_); rintro e wh ⟨G, rfl, bh⟩); have HX := Lib.hid (HX.out.below bh); clear bh; clear k0 k1 k2 k3 k4 k5 k6 k7 k8 k9 k10 k11 k12 k13 k14 k15 k16 k17; obtain ⟨k0, k1, k2, k3, k4, k5, k6, k7, k8, k9, k10, k11, k12, k13, k14, k15, k16, k17⟩ := HX.out.cells) | ((with_reducible refine stop_op (o := ⟨none, _, _, _, _, _⟩) ?_); refine Lib.hid ?_; refine wpList_store_row rfl 35 (.tmp 6) (.tmp 225) rfl (w.heap.size + 1 + 1) (CA ⟨z, x3, ⟨false, y.e, y.m, y.fin⟩⟩) rfl rfl 35 (CA zcn) (HX.out.r6) (rca_inf _) rfl (ca_one _) ?_))
              refine bodyPost_ret_by (res_row Try.results12 _ _ (w.heap.size + 1 + 1) 35 (CA ⟨z, x3, ⟨false, y.e, y.m, y.fin⟩⟩) _ rfl (blk_setRow HX.out.r6 _) Try.underlying35 (rca_inf _)) rfl ?_
              exact ⟨_, by rw [OK.out] <;> rfl, Below.setRow HX.out.bel (by omega) _⟩

end Go.Proofs.Ytdgodndaaenafab
