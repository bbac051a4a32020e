/- Next, of a segment of B; by-name template (gen_wi2.py). -/
import Derived.Test.YtdgodndaaenafabWiNx
namespace Go.Proofs.Ytdgodndaaenafab
open Go.RowKit Go.Lib Go.Sort
set_option linter.unusedVariables false
set_option linter.unusedSimpArgs false

set_option maxRecDepth 100000 in
set_option maxHeartbeats 16000000 in
theorem next_b (c : CN) (t : TR) (w : World) : Calls Try.prog 10 #[.agg (CA c), .bool true, .agg (TA t)] w (RET w (nextP c true t).1 (nextP c true t).2) := by
  have cR := fun w1 : World => read_any t w1
  obtain ⟨W, hW⟩ : ∃ W, W = ((w.alloc (.cells (CA c) 29)).alloc (.cells (TA t) 24)).alloc (.cells #[.int .i64 0, .bool false, .int .u32 0, .int .u32 0, .bool false, .bool false, .int .u32 0, .int .u32 0, .bool false] 29) := ⟨_, rfl⟩
  have HN : Hid (N0 w W c t) := Lib.hid (by
    rw [hW]
    exact ⟨blk_al (blk_al (blk_new w _)), blk_al (blk_new2 _ _ (by simp)), blk_new2 _ _ (by simp), Below.al (Below.al (bel_al _ _) (by simp) _) (by simp; omega) _, by simp⟩)
  have z9 : ∀ w, (zeroValue 29).run Try.prog w = .ok (.agg #[.int .i64 0, .bool false, .int .u32 0, .int .u32 0, .bool false, .bool false, .int .u32 0, .int .u32 0, .bool false]) w := fun w => by kernel_rfl
  have z11 : ∀ w, (zeroValue 51).run Try.prog w = .ok (.agg #[.int .i64 0, .int .i64 0, .int .u32 0, .int .u32 0, .int .i64 0, .int .i64 0, .int .i64 0, .int .i64 0, .int .i64 0, .int .i64 0, .int .u32 0]) w := fun w => by kernel_rfl
  obtain ⟨R, hR⟩ : ∃ R, R = nextP c true t := ⟨_, rfl⟩
  rw [← hR]
  have HR := Lib.hid hR
  clear hR
  go_enter Try.func10, Try.ntmps10
  go_upto_region 1 with fail
  rw [← hW]
  clear hW
  go_cut [8, 9] (fun v8 v9 wx => ∃ P8 P9, v8 = .pointer (some ⟨P8, 0, none⟩) ∧ v9 = .pointer (some ⟨P9, 0, none⟩) ∧ wx.heap[w.heap.size]? = some (.cells (CA c) 29 (0, 0)) ∧ wx.heap[w.heap.size + 1 + 1]? = some (.cells (CA zcn) 29 (0, 0)) ∧ wx.heap[P8]? = some (.cells (CA c) 29 (0, 0)) ∧ wx.heap[P9]? = some (.cells (SG t (endP t)) 51 (0, 0)) ∧ Below w.heap.size w wx ∧ w.heap.size + 3 ≤ P8 ∧ w.heap.size + 3 ≤ P9 ∧ P8 ≠ P9)
  case first =>
    refine wp_region_held_drew (S := fun W1 : World => N0 w W1 c t) (by kernel_rfl) (HN.out.below (bel_dr (Below.refl _ _))) (fun hH => ?_)
    have hH0 := HN.out.below (bel_dr (Below.refl _ _))
    generalize W.drew = wd at hH0 hH ⊢
    refine wpAnyH_take (i := 0) (oi := ⟨some 12, _, _, _, _, _⟩) (v := .agg (CA c)) rfl (by kernel_rfl) (by kernel_rfl) (by kernel_rfl) (fun _ _ _ h => h) (yields_rowK (by rfl) 29 _ rfl w.heap.size rfl (CA c) 29 _ (fun W hW => hW.c3) Try.underlying29 rfl (ca_inf c)) hH0 ?_
    try simp only [Act.put, List.setIfInBounds_toArray, List.set_cons_zero, List.set_cons_succ]
    refine wpAnyH_take (i := 1) (oi := ⟨some 13, _, _, _, _, _⟩) (v := .agg (TA t)) rfl (by kernel_rfl) (by kernel_rfl) (by kernel_rfl) (fun _ _ _ h => h) (yields_rowK (by rfl) 24 _ rfl (w.heap.size + 1) rfl (TA t) 24 _ (fun W hW => hW.t5) Try.underlying24 rfl (ta_inf t)) hH0 ?_
    try simp only [Act.put, List.setIfInBounds_toArray, List.set_cons_zero, List.set_cons_succ]
    refine wpAnyH_ready (rs := [2, 3, 4]) (by kernel_rfl) (by simp) ?_
    refine AllReadyH.cons (o := ⟨some 14, _, _, _, _, _⟩) rfl (fun K hK => ?_) (AllReadyH.cons (o := ⟨some 8, _, _, _, _, _⟩) rfl (fun K hK => ?_) (AllReadyH.cons (o := ⟨some 9, _, _, _, _, _⟩) rfl (fun K hK => ?_) AllReadyH.nil))
    · go_simp
      go_at_call 14
      with_reducible refine (cR _).mono ?_
      rintro e w20 ⟨rfl, b20⟩
      have hS20 := hH0.below b20
      refine hK.out _ _ hS20 (fun _ => ?_)
      clear hK K
      try simp only [Act.put, List.setIfInBounds_toArray, List.set_cons_zero, List.set_cons_succ]
      refine wpAnyH_ready (rs := [3, 4]) (by kernel_rfl) (by simp) ?_
      refine AllReadyH.cons (o := ⟨some 8, _, _, _, _, _⟩) rfl (fun K hK => ?_) (AllReadyH.cons (o := ⟨some 9, _, _, _, _, _⟩) rfl (fun K hK => ?_) AllReadyH.nil)
      · refine step_alloc rfl 29 rfl #[.int .i64 0, .bool false, .int .u32 0, .int .u32 0, .bool false, .bool false, .int .u32 0, .int .u32 0, .bool false] z9 (fun w21 P8 hV8 b21 g21 => ?_)
        have hS21 := hS20.below b21
        have l8 : w.heap.size + 3 ≤ P8 := Nat.le_trans hS20.sz g21
        refine hK.out _ _ hS21 (fun _ => ?_)
        clear hK K
        try simp only [Act.put, List.setIfInBounds_toArray, List.set_cons_zero, List.set_cons_succ]
        refine wpAnyH_ready (rs := [4]) (by kernel_rfl) (by simp) ?_
        refine AllReadyH.cons (o := ⟨some 9, _, _, _, _, _⟩) rfl (fun K hK => ?_) AllReadyH.nil
        refine step_alloc rfl 51 rfl #[.int .i64 0, .int .i64 0, .int .u32 0, .int .u32 0, .int .i64 0, .int .i64 0, .int .i64 0, .int .i64 0, .int .i64 0, .int .i64 0, .int .u32 0] z11 (fun w22 P9 hV9 b22 g22 => ?_)
        have hS22 := hS21.below b22
        have l9 : w.heap.size + 3 ≤ P9 := Nat.le_trans hS21.sz g22
        have ne : P8 ≠ P9 := by have := blk_lt hV8; omega
        have hV8 := kb b22 hV8
        refine hK.out _ _ hS22 (fun _ => ?_)
        clear hK K
        try simp only [Act.put, List.setIfInBounds_toArray, List.set_cons_zero, List.set_cons_succ]
        refine wpAnyH_ready (rs := [5]) (by kernel_rfl) (by simp) ?_
        refine AllReadyH.cons (o := ⟨none, _, _, _, _, _⟩) rfl (fun K hK => ?_) AllReadyH.nil
        refine step_store_row rfl 29 (.tmp 8) (.tmp 12) rfl P8 (CA c) rfl rfl 29 #[.int .i64 0, .bool false, .int .u32 0, .int .u32 0, .bool false, .bool false, .int .u32 0, .int .u32 0, .bool false] hV8 (ca_inf c) rfl (ca_one c) ?_
        have hS8 := hS22.row l8 (CA c)
        have hV8 := blk_setRow hV8 (CA c)
        have hV9 : (World.setRow w22 P8 (CA c)).heap[P9]? = _ := (setRow_other (Ne.symm ne) _).trans hV9
        refine hK.out _ _ hS8 (fun _ => ?_)
        clear hK K
        generalize World.setRow w22 P8 (CA c) = wz at *
        try simp only [Act.put, List.setIfInBounds_toArray, List.set_cons_zero, List.set_cons_succ]
        refine wpAnyH_ready (rs := [6]) (by kernel_rfl) (by simp) ?_
        refine AllReadyH.cons (o := ⟨none, _, _, _, _, _⟩) rfl (fun K hK => ?_) AllReadyH.nil
        refine step_store_row rfl 51 (.tmp 9) (.tmp 14) rfl P9 (SG t (endP t)) rfl rfl 51 #[.int .i64 0, .int .i64 0, .int .u32 0, .int .u32 0, .int .i64 0, .int .i64 0, .int .i64 0, .int .i64 0, .int .i64 0, .int .i64 0, .int .u32 0] hV9 (sg_inf t _) rfl (sg_one t _) ?_
        have hS9 := hS8.row l9 (SG t (endP t))
        have hV9 := blk_setRow hV9 (SG t (endP t))
        have hV8 : (wz.setRow P9 (SG t (endP t))).heap[P8]? = _ := (setRow_other ne _).trans hV8
        refine hK.out _ _ hS9 (fun _ => ?_)
        clear hK K
        generalize wz.setRow P9 (SG t (endP t)) = wy at *
        try simp only [Act.put, List.setIfInBounds_toArray, List.set_cons_zero, List.set_cons_succ]
        refine wpAnyH_done (by kernel_rfl) ?_ _
        go_wp2_with fail
        go_meet
        exact ⟨P8, P9, rfl, rfl, hS9.c3, hS9.r6, hV8, hV9, hS9.bel, l8, l9, ne⟩
      · refine step_alloc rfl 51 rfl #[.int .i64 0, .int .i64 0, .int .u32 0, .int .u32 0, .int .i64 0, .int .i64 0, .int .i64 0, .int .i64 0, .int .i64 0, .int .i64 0, .int .u32 0] z11 (fun w21 P9 hV9 b21 g21 => ?_)
        have hS21 := hS20.below b21
        have l9 : w.heap.size + 3 ≤ P9 := Nat.le_trans hS20.sz g21
        refine hK.out _ _ hS21 (fun _ => ?_)
        clear hK K
        try simp only [Act.put, List.setIfInBounds_toArray, List.set_cons_zero, List.set_cons_succ]
        refine wpAnyH_ready (rs := [3]) (by kernel_rfl) (by simp) ?_
        refine AllReadyH.cons (o := ⟨some 8, _, _, _, _, _⟩) rfl (fun K hK => ?_) AllReadyH.nil
        refine step_alloc rfl 29 rfl #[.int .i64 0, .bool false, .int .u32 0, .int .u32 0, .bool false, .bool false, .int .u32 0, .int .u32 0, .bool false] z9 (fun w22 P8 hV8 b22 g22 => ?_)
        have hS22 := hS21.below b22
        have l8 : w.heap.size + 3 ≤ P8 := Nat.le_trans hS21.sz g22
        have ne : P8 ≠ P9 := by have := blk_lt hV9; omega
        have hV9 := kb b22 hV9
        refine hK.out _ _ hS22 (fun _ => ?_)
        clear hK K
        try simp only [Act.put, List.setIfInBounds_toArray, List.set_cons_zero, List.set_cons_succ]
        refine wpAnyH_ready (rs := [5]) (by kernel_rfl) (by simp) ?_
        refine AllReadyH.cons (o := ⟨none, _, _, _, _, _⟩) rfl (fun K hK => ?_) AllReadyH.nil
        refine step_store_row rfl 29 (.tmp 8) (.tmp 12) rfl P8 (CA c) rfl rfl 29 #[.int .i64 0, .bool false, .int .u32 0, .int .u32 0, .bool false, .bool false, .int .u32 0, .int .u32 0, .bool false] hV8 (ca_inf c) rfl (ca_one c) ?_
        have hS8 := hS22.row l8 (CA c)
        have hV8 := blk_setRow hV8 (CA c)
        have hV9 : (World.setRow w22 P8 (CA c)).heap[P9]? = _ := (setRow_other (Ne.symm ne) _).trans hV9
        refine hK.out _ _ hS8 (fun _ => ?_)
        clear hK K
        generalize World.setRow w22 P8 (CA c) = wz at *
        try simp only [Act.put, List.setIfInBounds_toArray, List.set_cons_zero, List.set_cons_succ]
        refine wpAnyH_ready (rs := [6]) (by kernel_rfl) (by simp) ?_
        refine AllReadyH.cons (o := ⟨none, _, _, _, _, _⟩) rfl (fun K hK => ?_) AllReadyH.nil
        refine step_store_row rfl 51 (.tmp 9) (.tmp 14) rfl P9 (SG t (endP t)) rfl rfl 51 #[.int .i64 0, .int .i64 0, .int .u32 0, .int .u32 0, .int .i64 0, .int .i64 0, .int .i64 0, .int .i64 0, .int .i64 0, .int .i64 0, .int .u32 0] hV9 (sg_inf t _) rfl (sg_one t _) ?_
        have hS9 := hS8.row l9 (SG t (endP t))
        have hV9 := blk_setRow hV9 (SG t (endP t))
        have hV8 : (wz.setRow P9 (SG t (endP t))).heap[P8]? = _ := (setRow_other ne _).trans hV8
        refine hK.out _ _ hS9 (fun _ => ?_)
        clear hK K
        generalize wz.setRow P9 (SG t (endP t)) = wy at *
        try simp only [Act.put, List.setIfInBounds_toArray, List.set_cons_zero, List.set_cons_succ]
        refine wpAnyH_done (by kernel_rfl) ?_ _
        go_wp2_with fail
        go_meet
        exact ⟨P8, P9, rfl, rfl, hS9.c3, hS9.r6, hV8, hV9, hS9.bel, l8, l9, ne⟩
    · refine step_alloc rfl 29 rfl #[.int .i64 0, .bool false, .int .u32 0, .int .u32 0, .bool false, .bool false, .int .u32 0, .int .u32 0, .bool false] z9 (fun w20 P8 hV8 b20 g20 => ?_)
      have hS20 := hH0.below b20
      have l8 : w.heap.size + 3 ≤ P8 := Nat.le_trans hH0.sz g20
      refine hK.out _ _ hS20 (fun _ => ?_)
      clear hK K
      try simp only [Act.put, List.setIfInBounds_toArray, List.set_cons_zero, List.set_cons_succ]
      refine wpAnyH_ready (rs := [2, 4]) (by kernel_rfl) (by simp) ?_
      refine AllReadyH.cons (o := ⟨some 14, _, _, _, _, _⟩) rfl (fun K hK => ?_) (AllReadyH.cons (o := ⟨some 9, _, _, _, _, _⟩) rfl (fun K hK => ?_) AllReadyH.nil)
      · go_simp
        go_at_call 14
        with_reducible refine (cR _).mono ?_
        rintro e w21 ⟨rfl, b21⟩
        have hS21 := hS20.below b21
        have hV8 := kb b21 hV8
        refine hK.out _ _ hS21 (fun _ => ?_)
        clear hK K
        try simp only [Act.put, List.setIfInBounds_toArray, List.set_cons_zero, List.set_cons_succ]
        refine wpAnyH_ready (rs := [4]) (by kernel_rfl) (by simp) ?_
        refine AllReadyH.cons (o := ⟨some 9, _, _, _, _, _⟩) rfl (fun K hK => ?_) AllReadyH.nil
        refine step_alloc rfl 51 rfl #[.int .i64 0, .int .i64 0, .int .u32 0, .int .u32 0, .int .i64 0, .int .i64 0, .int .i64 0, .int .i64 0, .int .i64 0, .int .i64 0, .int .u32 0] z11 (fun w22 P9 hV9 b22 g22 => ?_)
        have hS22 := hS21.below b22
        have l9 : w.heap.size + 3 ≤ P9 := Nat.le_trans hS21.sz g22
        have ne : P8 ≠ P9 := by have := blk_lt hV8; omega
        have hV8 := kb b22 hV8
        refine hK.out _ _ hS22 (fun _ => ?_)
        clear hK K
        try simp only [Act.put, List.setIfInBounds_toArray, List.set_cons_zero, List.set_cons_succ]
        refine wpAnyH_ready (rs := [5]) (by kernel_rfl) (by simp) ?_
        refine AllReadyH.cons (o := ⟨none, _, _, _, _, _⟩) rfl (fun K hK => ?_) AllReadyH.nil
        refine step_store_row rfl 29 (.tmp 8) (.tmp 12) rfl P8 (CA c) rfl rfl 29 #[.int .i64 0, .bool false, .int .u32 0, .int .u32 0, .bool false, .bool false, .int .u32 0, .int .u32 0, .bool false] hV8 (ca_inf c) rfl (ca_one c) ?_
        have hS8 := hS22.row l8 (CA c)
        have hV8 := blk_setRow hV8 (CA c)
        have hV9 : (World.setRow w22 P8 (CA c)).heap[P9]? = _ := (setRow_other (Ne.symm ne) _).trans hV9
        refine hK.out _ _ hS8 (fun _ => ?_)
        clear hK K
        generalize World.setRow w22 P8 (CA c) = wz at *
        try simp only [Act.put, List.setIfInBounds_toArray, List.set_cons_zero, List.set_cons_succ]
        refine wpAnyH_ready (rs := [6]) (by kernel_rfl) (by simp) ?_
        refine AllReadyH.cons (o := ⟨none, _, _, _, _, _⟩) rfl (fun K hK => ?_) AllReadyH.nil
        refine step_store_row rfl 51 (.tmp 9) (.tmp 14) rfl P9 (SG t (endP t)) rfl rfl 51 #[.int .i64 0, .int .i64 0, .int .u32 0, .int .u32 0, .int .i64 0, .int .i64 0, .int .i64 0, .int .i64 0, .int .i64 0, .int .i64 0, .int .u32 0] hV9 (sg_inf t _) rfl (sg_one t _) ?_
        have hS9 := hS8.row l9 (SG t (endP t))
        have hV9 := blk_setRow hV9 (SG t (endP t))
        have hV8 : (wz.setRow P9 (SG t (endP t))).heap[P8]? = _ := (setRow_other ne _).trans hV8
        refine hK.out _ _ hS9 (fun _ => ?_)
        clear hK K
        generalize wz.setRow P9 (SG t (endP t)) = wy at *
        try simp only [Act.put, List.setIfInBounds_toArray, List.set_cons_zero, List.set_cons_succ]
        refine wpAnyH_done (by kernel_rfl) ?_ _
        go_wp2_with fail
        go_meet
        exact ⟨P8, P9, rfl, rfl, hS9.c3, hS9.r6, hV8, hV9, hS9.bel, l8, l9, ne⟩
      · refine step_alloc rfl 51 rfl #[.int .i64 0, .int .i64 0, .int .u32 0, .int .u32 0, .int .i64 0, .int .i64 0, .int .i64 0, .int .i64 0, .int .i64 0, .int .i64 0, .int .u32 0] z11 (fun w21 P9 hV9 b21 g21 => ?_)
        have hS21 := hS20.below b21
        have l9 : w.heap.size + 3 ≤ P9 := Nat.le_trans hS20.sz g21
        have ne : P8 ≠ P9 := by have := blk_lt hV8; omega
        have hV8 := kb b21 hV8
        refine hK.out _ _ hS21 (fun _ => ?_)
        clear hK K
        try simp only [Act.put, List.setIfInBounds_toArray, List.set_cons_zero, List.set_cons_succ]
        refine wpAnyH_ready (rs := [2]) (by kernel_rfl) (by simp) ?_
        refine AllReadyH.cons (o := ⟨some 14, _, _, _, _, _⟩) rfl (fun K hK => ?_) AllReadyH.nil
        go_simp
        go_at_call 14
        with_reducible refine (cR _).mono ?_
        rintro e w22 ⟨rfl, b22⟩
        have hS22 := hS21.below b22
        have hV8 := kb b22 hV8
        have hV9 := kb b22 hV9
        refine hK.out _ _ hS22 (fun _ => ?_)
        clear hK K
        try simp only [Act.put, List.setIfInBounds_toArray, List.set_cons_zero, List.set_cons_succ]
        refine wpAnyH_ready (rs := [5]) (by kernel_rfl) (by simp) ?_
        refine AllReadyH.cons (o := ⟨none, _, _, _, _, _⟩) rfl (fun K hK => ?_) AllReadyH.nil
        refine step_store_row rfl 29 (.tmp 8) (.tmp 12) rfl P8 (CA c) rfl rfl 29 #[.int .i64 0, .bool false, .int .u32 0, .int .u32 0, .bool false, .bool false, .int .u32 0, .int .u32 0, .bool false] hV8 (ca_inf c) rfl (ca_one c) ?_
        have hS8 := hS22.row l8 (CA c)
        have hV8 := blk_setRow hV8 (CA c)
        have hV9 : (World.setRow w22 P8 (CA c)).heap[P9]? = _ := (setRow_other (Ne.symm ne) _).trans hV9
        refine hK.out _ _ hS8 (fun _ => ?_)
        clear hK K
        generalize World.setRow w22 P8 (CA c) = wz at *
        try simp only [Act.put, List.setIfInBounds_toArray, List.set_cons_zero, List.set_cons_succ]
        refine wpAnyH_ready (rs := [6]) (by kernel_rfl) (by simp) ?_
        refine AllReadyH.cons (o := ⟨none, _, _, _, _, _⟩) rfl (fun K hK => ?_) AllReadyH.nil
        refine step_store_row rfl 51 (.tmp 9) (.tmp 14) rfl P9 (SG t (endP t)) rfl rfl 51 #[.int .i64 0, .int .i64 0, .int .u32 0, .int .u32 0, .int .i64 0, .int .i64 0, .int .i64 0, .int .i64 0, .int .i64 0, .int .i64 0, .int .u32 0] hV9 (sg_inf t _) rfl (sg_one t _) ?_
        have hS9 := hS8.row l9 (SG t (endP t))
        have hV9 := blk_setRow hV9 (SG t (endP t))
        have hV8 : (wz.setRow P9 (SG t (endP t))).heap[P8]? = _ := (setRow_other ne _).trans hV8
        refine hK.out _ _ hS9 (fun _ => ?_)
        clear hK K
        generalize wz.setRow P9 (SG t (endP t)) = wy at *
        try simp only [Act.put, List.setIfInBounds_toArray, List.set_cons_zero, List.set_cons_succ]
        refine wpAnyH_done (by kernel_rfl) ?_ _
        go_wp2_with fail
        go_meet
        exact ⟨P8, P9, rfl, rfl, hS9.c3, hS9.r6, hV8, hV9, hS9.bel, l8, l9, ne⟩
    · refine step_alloc rfl 51 rfl #[.int .i64 0, .int .i64 0, .int .u32 0, .int .u32 0, .int .i64 0, .int .i64 0, .int .i64 0, .int .i64 0, .int .i64 0, .int .i64 0, .int .u32 0] z11 (fun w20 P9 hV9 b20 g20 => ?_)
      have hS20 := hH0.below b20
      have l9 : w.heap.size + 3 ≤ P9 := Nat.le_trans hH0.sz g20
      refine hK.out _ _ hS20 (fun _ => ?_)
      clear hK K
      try simp only [Act.put, List.setIfInBounds_toArray, List.set_cons_zero, List.set_cons_succ]
      refine wpAnyH_ready (rs := [2, 3]) (by kernel_rfl) (by simp) ?_
      refine AllReadyH.cons (o := ⟨some 14, _, _, _, _, _⟩) rfl (fun K hK => ?_) (AllReadyH.cons (o := ⟨some 8, _, _, _, _, _⟩) rfl (fun K hK => ?_) AllReadyH.nil)
      · go_simp
        go_at_call 14
        with_reducible refine (cR _).mono ?_
        rintro e w21 ⟨rfl, b21⟩
        have hS21 := hS20.below b21
        have hV9 := kb b21 hV9
        refine hK.out _ _ hS21 (fun _ => ?_)
        clear hK K
        try simp only [Act.put, List.setIfInBounds_toArray, List.set_cons_zero, List.set_cons_succ]
        refine wpAnyH_ready (rs := [3]) (by kernel_rfl) (by simp) ?_
        refine AllReadyH.cons (o := ⟨some 8, _, _, _, _, _⟩) rfl (fun K hK => ?_) AllReadyH.nil
        refine step_alloc rfl 29 rfl #[.int .i64 0, .bool false, .int .u32 0, .int .u32 0, .bool false, .bool false, .int .u32 0, .int .u32 0, .bool false] z9 (fun w22 P8 hV8 b22 g22 => ?_)
        have hS22 := hS21.below b22
        have l8 : w.heap.size + 3 ≤ P8 := Nat.le_trans hS21.sz g22
        have ne : P8 ≠ P9 := by have := blk_lt hV9; omega
        have hV9 := kb b22 hV9
        refine hK.out _ _ hS22 (fun _ => ?_)
        clear hK K
        try simp only [Act.put, List.setIfInBounds_toArray, List.set_cons_zero, List.set_cons_succ]
        refine wpAnyH_ready (rs := [5]) (by kernel_rfl) (by simp) ?_
        refine AllReadyH.cons (o := ⟨none, _, _, _, _, _⟩) rfl (fun K hK => ?_) AllReadyH.nil
        refine step_store_row rfl 29 (.tmp 8) (.tmp 12) rfl P8 (CA c) rfl rfl 29 #[.int .i64 0, .bool false, .int .u32 0, .int .u32 0, .bool false, .bool false, .int .u32 0, .int .u32 0, .bool false] hV8 (ca_inf c) rfl (ca_one c) ?_
        have hS8 := hS22.row l8 (CA c)
        have hV8 := blk_setRow hV8 (CA c)
        have hV9 : (World.setRow w22 P8 (CA c)).heap[P9]? = _ := (setRow_other (Ne.symm ne) _).trans hV9
        refine hK.out _ _ hS8 (fun _ => ?_)
        clear hK K
        generalize World.setRow w22 P8 (CA c) = wz at *
        try simp only [Act.put, List.setIfInBounds_toArray, List.set_cons_zero, List.set_cons_succ]
        refine wpAnyH_ready (rs := [6]) (by kernel_rfl) (by simp) ?_
        refine AllReadyH.cons (o := ⟨none, _, _, _, _, _⟩) rfl (fun K hK => ?_) AllReadyH.nil
        refine step_store_row rfl 51 (.tmp 9) (.tmp 14) rfl P9 (SG t (endP t)) rfl rfl 51 #[.int .i64 0, .int .i64 0, .int .u32 0, .int .u32 0, .int .i64 0, .int .i64 0, .int .i64 0, .int .i64 0, .int .i64 0, .int .i64 0, .int .u32 0] hV9 (sg_inf t _) rfl (sg_one t _) ?_
        have hS9 := hS8.row l9 (SG t (endP t))
        have hV9 := blk_setRow hV9 (SG t (endP t))
        have hV8 : (wz.setRow P9 (SG t (endP t))).heap[P8]? = _ := (setRow_other ne _).trans hV8
        refine hK.out _ _ hS9 (fun _ => ?_)
        clear hK K
        generalize wz.setRow P9 (SG t (endP t)) = wy at *
        try simp only [Act.put, List.setIfInBounds_toArray, List.set_cons_zero, List.set_cons_succ]
        refine wpAnyH_done (by kernel_rfl) ?_ _
        go_wp2_with fail
        go_meet
        exact ⟨P8, P9, rfl, rfl, hS9.c3, hS9.r6, hV8, hV9, hS9.bel, l8, l9, ne⟩
      · refine step_alloc rfl 29 rfl #[.int .i64 0, .bool false, .int .u32 0, .int .u32 0, .bool false, .bool false, .int .u32 0, .int .u32 0, .bool false] z9 (fun w21 P8 hV8 b21 g21 => ?_)
        have hS21 := hS20.below b21
        have l8 : w.heap.size + 3 ≤ P8 := Nat.le_trans hS20.sz g21
        have ne : P8 ≠ P9 := by have := blk_lt hV9; omega
        have hV9 := kb b21 hV9
        refine hK.out _ _ hS21 (fun _ => ?_)
        clear hK K
        try simp only [Act.put, List.setIfInBounds_toArray, List.set_cons_zero, List.set_cons_succ]
        refine wpAnyH_ready (rs := [2]) (by kernel_rfl) (by simp) ?_
        refine AllReadyH.cons (o := ⟨some 14, _, _, _, _, _⟩) rfl (fun K hK => ?_) AllReadyH.nil
        go_simp
        go_at_call 14
        with_reducible refine (cR _).mono ?_
        rintro e w22 ⟨rfl, b22⟩
        have hS22 := hS21.below b22
        have hV9 := kb b22 hV9
        have hV8 := kb b22 hV8
        refine hK.out _ _ hS22 (fun _ => ?_)
        clear hK K
        try simp only [Act.put, List.setIfInBounds_toArray, List.set_cons_zero, List.set_cons_succ]
        refine wpAnyH_ready (rs := [5]) (by kernel_rfl) (by simp) ?_
        refine AllReadyH.cons (o := ⟨none, _, _, _, _, _⟩) rfl (fun K hK => ?_) AllReadyH.nil
        refine step_store_row rfl 29 (.tmp 8) (.tmp 12) rfl P8 (CA c) rfl rfl 29 #[.int .i64 0, .bool false, .int .u32 0, .int .u32 0, .bool false, .bool false, .int .u32 0, .int .u32 0, .bool false] hV8 (ca_inf c) rfl (ca_one c) ?_
        have hS8 := hS22.row l8 (CA c)
        have hV8 := blk_setRow hV8 (CA c)
        have hV9 : (World.setRow w22 P8 (CA c)).heap[P9]? = _ := (setRow_other (Ne.symm ne) _).trans hV9
        refine hK.out _ _ hS8 (fun _ => ?_)
        clear hK K
        generalize World.setRow w22 P8 (CA c) = wz at *
        try simp only [Act.put, List.setIfInBounds_toArray, List.set_cons_zero, List.set_cons_succ]
        refine wpAnyH_ready (rs := [6]) (by kernel_rfl) (by simp) ?_
        refine AllReadyH.cons (o := ⟨none, _, _, _, _, _⟩) rfl (fun K hK => ?_) AllReadyH.nil
        refine step_store_row rfl 51 (.tmp 9) (.tmp 14) rfl P9 (SG t (endP t)) rfl rfl 51 #[.int .i64 0, .int .i64 0, .int .u32 0, .int .u32 0, .int .i64 0, .int .i64 0, .int .i64 0, .int .i64 0, .int .i64 0, .int .i64 0, .int .u32 0] hV9 (sg_inf t _) rfl (sg_one t _) ?_
        have hS9 := hS8.row l9 (SG t (endP t))
        have hV9 := blk_setRow hV9 (SG t (endP t))
        have hV8 : (wz.setRow P9 (SG t (endP t))).heap[P8]? = _ := (setRow_other ne _).trans hV8
        refine hK.out _ _ hS9 (fun _ => ?_)
        clear hK K
        generalize wz.setRow P9 (SG t (endP t)) = wy at *
        try simp only [Act.put, List.setIfInBounds_toArray, List.set_cons_zero, List.set_cons_succ]
        refine wpAnyH_done (by kernel_rfl) ?_ _
        go_wp2_with fail
        go_meet
        exact ⟨P8, P9, rfl, rfl, hS9.c3, hS9.r6, hV8, hV9, hS9.bel, l8, l9, ne⟩

  case rest =>
    obtain ⟨P8, P9, rfl, rfl, c3, r6, n8, s9, bel, l8, l9, ne⟩ := hcut
    have HX : Hid (NX w wc c c t P8 P9) := Lib.hid ⟨c3, r6, n8, s9, bel, l8, l9, ne⟩
    clear c3 r6 n8 s9 bel ne HN z9 z11 cR
    go_upto_region 8 with fail
    have cS := fun w1 : World => stray_any t (endP t) c.a w1
    rcases hs1 : decide (c.st < 1) with _ | _
    · rcases hs5 : decide (5 ≤ c.st) with _ | _
      · rcases hst : strayP t c.a with _ | _
        · have H0 : Hid ((decide (c.st < 1) || decide (5 ≤ c.st) || strayP t c.a) = false) := Lib.hid (by rw [hs1, hs5, hst]; rfl)
          rw [hst] at cS
          clear hst
          simp only [SA] at cS
          have c_st : wc.cell? ⟨w.heap.size, 0, none⟩ = some (.int .i64 c.st) := blk_cell HX.out.c3 rfl
          have k_st := cell_regrown c_st
          clear c_st
          have c_y0 : wc.cell? ⟨P8, 1, none⟩ = some (.bool c.a.seen) := blk_cell HX.out.n8 rfl
          have k_y0 := cell_regrown c_y0
          clear c_y0
          have c_y1 : wc.cell? ⟨P8, 2, none⟩ = some (.int .u32 c.a.e) := blk_cell HX.out.n8 rfl
          have k_y1 := cell_regrown c_y1
          clear c_y1
          have c_y2 : wc.cell? ⟨P8, 3, none⟩ = some (.int .u32 c.a.m) := blk_cell HX.out.n8 rfl
          have k_y2 := cell_regrown c_y2
          clear c_y2
          have c_y3 : wc.cell? ⟨P8, 4, none⟩ = some (.bool c.a.fin) := blk_cell HX.out.n8 rfl
          have k_y3 := cell_regrown c_y3
          clear c_y3
          have q0 := fun d os => Calls.regrown_of (cS (grow (redrawn wc d) os))
          refine wp_region_quiet_below (by kernel_rfl) (by kernel_rfl) ?_
          repeat (first | go_big_quiet_skip | ((with_reducible refine stop_quiet (o := ⟨some 42, _, _, _, _, _⟩) ?_); refine quiet_load_row (by kernel_rfl) 51 (.tmp 9) rfl (P9) rfl 51 (SG t (endP t)) (0, 0) _ (rg_heap (HX.out.s9)) Try.underlying51 rfl (sg_inf t _) ?_; simp only [Act.put, List.setIfInBounds_toArray, List.set_cons_succ, List.set_cons_zero]) |  quiet_step (first | (go_at_call 18; with_reducible exact q0 _ _)))
          refine wpQuiet_nil ?_
          intro _ hw'
          obtain ⟨⟨dq, osq⟩, hw''⟩ := hw'
          subst hw''
          have bq := below_regrown wc dq osq
          have HX1 := Lib.hid (HX.out.below bq)
          generalize grow (redrawn wc dq) osq = w1 at *
          clear k_st k_y0 k_y1 k_y2 k_y3
          clear q0
          clear bq
          go_upto_region 10 with fail
          clear cS hs1 hs5
          have HB2x := fun w1 : World => has_any t (endP t) 2 w1
          rcases h2 : hb t 2 with _ | _
          · rw [h2] at HB2x
            have HB2 := Lib.hid h2
            clear h2
            go_upto_region 12 with (first | ((with_reducible refine stop_op (o := ⟨some 50, _, _, _, _, _⟩) ?_); refine Lib.hid ?_; refine wpList_load_cells rfl 51 (.tmp 9) rfl ⟨P9, 0, none⟩ rfl (SG t (endP t)) _ (blk_all HX1.out.s9) Try.underlying51 rfl (sg_inf t _) ?_) | (go_at_call 19; with_reducible refine (HB2x _).mono ?_; rintro e w2 ⟨rfl, b1⟩; have HX2 := Lib.hid (HX1.out.below b1); clear b1))
            go_upto_region 17 with (first | ((with_reducible refine stop_op (o := ⟨some 76, _, _, _, _, _⟩) ?_); refine Lib.hid ?_; refine wpList_load_cells rfl 51 (.tmp 9) rfl ⟨P9, 0, none⟩ rfl (SG t (endP t)) _ (blk_all HX2.out.s9) Try.underlying51 rfl (sg_inf t _) ?_) | (go_at_call 19; with_reducible refine (HB2x _).mono ?_; rintro e w3 ⟨rfl, b1⟩; have HX3 := Lib.hid (HX2.out.below b1); clear b1))

            rcases hxs : c.b.seen with _ | _
            · have HXS := Lib.hid hxs
              clear hxs
              have xs : w3.cell? ⟨P8, 5, none⟩ = some (.bool c.b.seen) := blk_cell HX3.out.n8 rfl
              rw [HXS.out] at xs
              go_upto_region 18 with fail
              clear xs
              have c4 := fun w1 : World => has_any t (endP t) 4 w1
              have cA := fun w1 : World => acks_any t (endP t) c.a.e w1
              rcases h4 : hb t 4 with _ | _
              · rw [h4] at c4
                have FIN : Hid (R = (c, false)) := Lib.hid (by rw [HR.out, nextP_b, st_refNo H0.out HB2.out HXS.out (by rw [h4]; simp)] <;> rfl)
                clear h4
                have q0 := fun d os => Calls.regrown_of (c4 (grow (redrawn w3 d) os))
                refine wp_region_quiet_below (by kernel_rfl) (by kernel_rfl) ?_
                repeat (first | go_big_quiet_skip | ((with_reducible refine stop_quiet (o := ⟨some 114, _, _, _, _, _⟩) ?_); refine quiet_load_row (by kernel_rfl) 51 (.tmp 9) rfl (P9) rfl 51 (SG t (endP t)) (0, 0) _ (rg_heap (HX3.out.s9)) Try.underlying51 rfl (sg_inf t _) ?_; simp only [Act.put, List.setIfInBounds_toArray, List.set_cons_succ, List.set_cons_zero]) |  quiet_step (first | (go_at_call 19; with_reducible exact q0 _ _)))
                refine wpQuiet_nil ?_
                intro _ hw'
                obtain ⟨⟨dq, osq⟩, hw''⟩ := hw'
                subst hw''
                have bq := below_regrown w3 dq osq
                have HX4 := Lib.hid (HX3.out.below bq)
                generalize grow (redrawn w3 dq) osq = w4 at *
                clear q0
                clear bq
                go_wp2_with (first | ((with_reducible refine stop_op (o := ⟨some 126, _, _, _, _, _⟩) ?_); refine Lib.hid ?_; refine wpList_load_cells rfl 29 (.tmp 3) rfl ⟨w.heap.size, 0, none⟩ rfl (CA c) _ (blk_all HX4.out.c3) Try.underlying29 rfl (ca_inf c) ?_) | ((with_reducible refine stop_op (o := ⟨none, _, _, _, _, _⟩) ?_); refine Lib.hid ?_; refine wpList_store_row rfl 29 (.tmp 6) (.tmp 126) rfl (w.heap.size + 1 + 1) (CA c) rfl rfl 29 (CA zcn) (HX4.out.r6) (ca_inf c) rfl (ca_one c) ?_))
                refine bodyPost_ret_by (res_row Try.results10 _ _ (w.heap.size + 1 + 1) 29 (CA c) _ rfl (blk_setRow HX4.out.r6 _) Try.underlying29 (ca_inf c)) rfl ?_
                exact ⟨by rw [FIN.out] <;> rfl, Below.setRow HX4.out.bel (by omega) _⟩
              · rw [h4] at c4
                rcases hac : acksP t c.a.e with _ | _
                · rw [hac] at cA
                  have FIN : Hid (R = (c, false)) := Lib.hid (by rw [HR.out, nextP_b, st_refNo H0.out HB2.out HXS.out (by rw [h4, hac]; simp)] <;> rfl)
                  clear h4 hac
                  have c_ye : w3.cell? ⟨P8, 2, none⟩ = some (.int .u32 c.a.e) := blk_cell HX3.out.n8 rfl
                  have k_ye := cell_regrown c_ye
                  clear c_ye
                  have q0 := fun d os => Calls.regrown_of (c4 (grow (redrawn w3 d) os))
                  have q1 := fun d os => Calls.regrown_of (cA (grow (redrawn w3 d) os))
                  refine wp_region_quiet_below (by kernel_rfl) (by kernel_rfl) ?_
                  repeat (first | go_big_quiet_skip | ((with_reducible refine stop_quiet (o := ⟨some 114, _, _, _, _, _⟩) ?_); refine quiet_load_row (by kernel_rfl) 51 (.tmp 9) rfl (P9) rfl 51 (SG t (endP t)) (0, 0) _ (rg_heap (HX3.out.s9)) Try.underlying51 rfl (sg_inf t _) ?_; simp only [Act.put, List.setIfInBounds_toArray, List.set_cons_succ, List.set_cons_zero]) | ((with_reducible refine stop_quiet (o := ⟨some 118, _, _, _, _, _⟩) ?_); refine quiet_load_row (by kernel_rfl) 51 (.tmp 9) rfl (P9) rfl 51 (SG t (endP t)) (0, 0) _ (rg_heap (HX3.out.s9)) Try.underlying51 rfl (sg_inf t _) ?_; simp only [Act.put, List.setIfInBounds_toArray, List.set_cons_succ, List.set_cons_zero]) |  quiet_step (first | (go_at_call 19; with_reducible exact q0 _ _) | (go_at_call 21; with_reducible exact q1 _ _)))
                  refine wpQuiet_nil ?_
                  intro _ hw'
                  obtain ⟨⟨dq, osq⟩, hw''⟩ := hw'
                  subst hw''
                  have bq := below_regrown w3 dq osq
                  have HX4 := Lib.hid (HX3.out.below bq)
                  generalize grow (redrawn w3 dq) osq = w4 at *
                  clear k_ye
                  clear q0 q1
                  clear bq
                  go_wp2_with (first | ((with_reducible refine stop_op (o := ⟨some 126, _, _, _, _, _⟩) ?_); refine Lib.hid ?_; refine wpList_load_cells rfl 29 (.tmp 3) rfl ⟨w.heap.size, 0, none⟩ rfl (CA c) _ (blk_all HX4.out.c3) Try.underlying29 rfl (ca_inf c) ?_) | ((with_reducible refine stop_op (o := ⟨none, _, _, _, _, _⟩) ?_); refine Lib.hid ?_; refine wpList_store_row rfl 29 (.tmp 6) (.tmp 126) rfl (w.heap.size + 1 + 1) (CA c) rfl rfl 29 (CA zcn) (HX4.out.r6) (ca_inf c) rfl (ca_one c) ?_))
                  refine bodyPost_ret_by (res_row Try.results10 _ _ (w.heap.size + 1 + 1) 29 (CA c) _ rfl (blk_setRow HX4.out.r6 _) Try.underlying29 (ca_inf c)) rfl ?_
                  exact ⟨by rw [FIN.out] <;> rfl, Below.setRow HX4.out.bel (by omega) _⟩
                · rw [hac] at cA
                  have FIN : Hid (R = (⟨5, c.a, c.b⟩, true)) := Lib.hid (by rw [HR.out, nextP_b, st_ref H0.out HB2.out HXS.out (by rw [h4, hac]; rfl)] <;> rfl)
                  clear h4 hac
                  have c_ye : w3.cell? ⟨P8, 2, none⟩ = some (.int .u32 c.a.e) := blk_cell HX3.out.n8 rfl
                  have k_ye := cell_regrown c_ye
                  clear c_ye
                  have q0 := fun d os => Calls.regrown_of (c4 (grow (redrawn w3 d) os))
                  have q1 := fun d os => Calls.regrown_of (cA (grow (redrawn w3 d) os))
                  refine wp_region_quiet_below (by kernel_rfl) (by kernel_rfl) ?_
                  repeat (first | go_big_quiet_skip | ((with_reducible refine stop_quiet (o := ⟨some 114, _, _, _, _, _⟩) ?_); refine quiet_load_row (by kernel_rfl) 51 (.tmp 9) rfl (P9) rfl 51 (SG t (endP t)) (0, 0) _ (rg_heap (HX3.out.s9)) Try.underlying51 rfl (sg_inf t _) ?_; simp only [Act.put, List.setIfInBounds_toArray, List.set_cons_succ, List.set_cons_zero]) | ((with_reducible refine stop_quiet (o := ⟨some 118, _, _, _, _, _⟩) ?_); refine quiet_load_row (by kernel_rfl) 51 (.tmp 9) rfl (P9) rfl 51 (SG t (endP t)) (0, 0) _ (rg_heap (HX3.out.s9)) Try.underlying51 rfl (sg_inf t _) ?_; simp only [Act.put, List.setIfInBounds_toArray, List.set_cons_succ, List.set_cons_zero]) |  quiet_step (first | (go_at_call 19; with_reducible exact q0 _ _) | (go_at_call 21; with_reducible exact q1 _ _)))
                  refine wpQuiet_nil ?_
                  intro _ hw'
                  obtain ⟨⟨dq, osq⟩, hw''⟩ := hw'
                  subst hw''
                  have bq := below_regrown w3 dq osq
                  have HX4 := Lib.hid (HX3.out.below bq)
                  generalize grow (redrawn w3 dq) osq = w4 at *
                  clear k_ye
                  clear q0 q1
                  clear bq
                  go_upto_region 20 with fail
                  have s0 : w4.cell? ⟨P8, 0, none⟩ = some (.int .i64 c.st) := blk_cell HX4.out.n8 rfl
                  have f0 : w4.frozen? ⟨P8, 0, none⟩ = false := blk_free HX4.out.n8
                  go_upto_region 23 with fail
                  have HX5 : Hid (NX w (w4.setCell ⟨P8, 0, none⟩ (.int .i64 5)) c ⟨5, c.a, c.b⟩ t P8 P9) := Lib.hid (HX4.out.off ((Off.refl P8 w4).set 0 _) (heap_set HX4.out.n8 0 _))
                  clear s0 f0
                  generalize w4.setCell ⟨P8, 0, none⟩ (.int .i64 5) = w5 at *
                  go_wp2_with (first | ((with_reducible refine stop_op (o := ⟨some 148, _, _, _, _, _⟩) ?_); refine Lib.hid ?_; refine wpList_load_cells rfl 29 (.tmp 8) rfl ⟨P8, 0, none⟩ rfl (CA (⟨5, c.a, c.b⟩)) _ (blk_all HX5.out.n8) Try.underlying29 rfl (ca_inf _) ?_) | ((with_reducible refine stop_op (o := ⟨none, _, _, _, _, _⟩) ?_); refine Lib.hid ?_; refine wpList_store_row rfl 29 (.tmp 6) (.tmp 148) rfl (w.heap.size + 1 + 1) (CA (⟨5, c.a, c.b⟩)) rfl rfl 29 (CA zcn) (HX5.out.r6) (ca_inf _) rfl (ca_one _) ?_))
                  refine bodyPost_ret_by (res_row Try.results10 _ _ (w.heap.size + 1 + 1) 29 (CA (⟨5, c.a, c.b⟩)) _ rfl (blk_setRow HX5.out.r6 _) Try.underlying29 (ca_inf _)) rfl ?_
                  exact ⟨by rw [FIN.out] <;> rfl, Below.setRow HX5.out.bel (by omega) _⟩
            · have HXS := Lib.hid hxs
              clear hxs
              have xs : w3.cell? ⟨P8, 5, none⟩ = some (.bool c.b.seen) := blk_cell HX3.out.n8 rfl
              rw [HXS.out] at xs
              go_upto_region 21 with fail
              clear xs
              have cL1 := fun w1 : World => lessB c.b.m (endP t) w1
              have cL2 := fun w1 : World => lessB t.sq (IntKind.u32.wrap (c.b.e - 65536)) w1
              rcases hl1 : lessP c.b.m (endP t) with _ | _
              · rw [hl1] at cL1
                rcases hl2 : lessP t.sq (IntKind.u32.wrap (c.b.e - 65536)) with _ | _
                · rw [hl2] at cL2
                  have FIN : Hid (R = (⟨stateP c.st (allowP c.a t).fin (sentP c.b t).fin false t, allowP c.a t, sentP c.b t⟩, true)) := Lib.hid (by rw [HR.out, nextP_b, st_in H0.out HB2.out HXS.out (by rw [hl1, ← IntKind.wrap_u32, hl2]; rfl), stateP_comm] <;> rfl)
                  clear hl1 hl2
                  have c_xm : w3.cell? ⟨P8, 7, none⟩ = some (.int .u32 c.b.m) := blk_cell HX3.out.n8 rfl
                  have k_xm := cell_regrown c_xm
                  clear c_xm
                  have c_xe : w3.cell? ⟨P8, 6, none⟩ = some (.int .u32 c.b.e) := blk_cell HX3.out.n8 rfl
                  have k_xe := cell_regrown c_xe
                  clear c_xe
                  have c_se : w3.cell? ⟨P9, 10, none⟩ = some (.int .u32 (endP t)) := blk_cell HX3.out.s9 rfl
                  have k_se := cell_regrown c_se
                  clear c_se
                  have c_sq : w3.cell? ⟨P9, 2, none⟩ = some (.int .u32 t.sq) := blk_cell HX3.out.s9 rfl
                  have k_sq := cell_regrown c_sq
                  clear c_sq
                  have q0 := fun d os => Calls.regrown_of (cL1 (grow (redrawn w3 d) os))
                  have q1 := fun d os => Calls.regrown_of (cL2 (grow (redrawn w3 d) os))
                  refine wp_region_quiet_below (by kernel_rfl) (by kernel_rfl) ?_
                  repeat (first | go_big_quiet_skip |  quiet_step (first | (go_at_call 23; with_reducible exact q0 _ _) | (go_at_call 23; with_reducible exact q1 _ _)))
                  refine wpQuiet_nil ?_
                  intro _ hw'
                  obtain ⟨⟨dq, osq⟩, hw''⟩ := hw'
                  subst hw''
                  have bq := below_regrown w3 dq osq
                  have HX4 := Lib.hid (HX3.out.below bq)
                  generalize grow (redrawn w3 dq) osq = w4 at *
                  clear k_xm k_xe k_se k_sq
                  clear q0 q1
                  clear bq
                  have FB := fun w1 : World => behind_any (⟨c.st, allowP c.a t, sentP c.b t⟩ : CN) t (endP t) false w1
                  simp only at FB
                  generalize stateP c.st (allowP c.a t).fin (sentP c.b t).fin false t = Z at *
                  go_upto_region 6 with (first | ((with_reducible refine stop_op (o := ⟨some 21, _, _, _, _, _⟩) ?_); refine Lib.hid ?_; refine wpList_load_cells rfl 51 (.tmp 9) rfl ⟨P9, 0, none⟩ rfl (SG t (endP t)) _ (blk_all HX4.out.s9) Try.underlying51 rfl (sg_inf t _) ?_) | (go_at_call 24; with_reducible refine (sent_b HX4.out.n8 t).mono ?_; rintro e w5 ⟨rfl, h8, o8⟩; have HX5 : Hid (NX w w5 c ⟨c.st, c.a, sentP c.b t⟩ t P8 P9) := Lib.hid (HX4.out.off o8 h8); clear h8 o8))
                  go_upto_region 7 with (first | ((with_reducible refine stop_op (o := ⟨some 24, _, _, _, _, _⟩) ?_); refine Lib.hid ?_; refine wpList_load_cells rfl 51 (.tmp 9) rfl ⟨P9, 0, none⟩ rfl (SG t (endP t)) _ (blk_all HX5.out.s9) Try.underlying51 rfl (sg_inf t _) ?_) | (go_at_call 22; with_reducible refine (allow_a HX5.out.n8 t (endP t)).mono ?_; rintro e w6 ⟨rfl, h8, o8⟩; have HX6 : Hid (NX w w6 c ⟨c.st, allowP c.a t, sentP c.b t⟩ t P8 P9) := Lib.hid (HX5.out.off o8 h8); clear h8 o8))
                  go_upto_region 23 with (first | ((with_reducible refine stop_op (o := ⟨some 26, _, _, _, _, _⟩) ?_); refine Lib.hid ?_; refine wpList_load_cells rfl 29 (.tmp 8) rfl ⟨P8, 0, none⟩ rfl (CA ⟨c.st, allowP c.a t, sentP c.b t⟩) _ (blk_all HX6.out.n8) Try.underlying29 rfl (ca_inf _) ?_) | ((with_reducible refine stop_op (o := ⟨some 27, _, _, _, _, _⟩) ?_); refine Lib.hid ?_; refine wpList_load_cells rfl 51 (.tmp 9) rfl ⟨P9, 0, none⟩ rfl (SG t (endP t)) _ (blk_all HX6.out.s9) Try.underlying51 rfl (sg_inf t _) ?_) | (go_at_call 25; with_reducible refine (FB _).mono ?_; rintro e w7 ⟨rfl, b1⟩; have HX7 := Lib.hid (HX6.out.below b1); clear b1; have s0 : w7.cell? ⟨P8, 0, none⟩ = some (.int .i64 c.st) := blk_cell HX7.out.n8 rfl; have f0 : w7.frozen? ⟨P8, 0, none⟩ = false := blk_free HX7.out.n8))
                  have HX8 : Hid (NX w (w7.setCell ⟨P8, 0, none⟩ (.int .i64 Z)) c ⟨Z, allowP c.a t, sentP c.b t⟩ t P8 P9) := Lib.hid (HX7.out.off ((Off.refl P8 w7).set 0 _) (heap_set HX7.out.n8 0 _))
                  clear s0 f0
                  generalize w7.setCell ⟨P8, 0, none⟩ (.int .i64 Z) = w8 at *
                  go_wp2_with (first | ((with_reducible refine stop_op (o := ⟨some 148, _, _, _, _, _⟩) ?_); refine Lib.hid ?_; refine wpList_load_cells rfl 29 (.tmp 8) rfl ⟨P8, 0, none⟩ rfl (CA (⟨Z, allowP c.a t, sentP c.b t⟩)) _ (blk_all HX8.out.n8) Try.underlying29 rfl (ca_inf _) ?_) | ((with_reducible refine stop_op (o := ⟨none, _, _, _, _, _⟩) ?_); refine Lib.hid ?_; refine wpList_store_row rfl 29 (.tmp 6) (.tmp 148) rfl (w.heap.size + 1 + 1) (CA (⟨Z, allowP c.a t, sentP c.b t⟩)) rfl rfl 29 (CA zcn) (HX8.out.r6) (ca_inf _) rfl (ca_one _) ?_))
                  refine bodyPost_ret_by (res_row Try.results10 _ _ (w.heap.size + 1 + 1) 29 (CA (⟨Z, allowP c.a t, sentP c.b t⟩)) _ rfl (blk_setRow HX8.out.r6 _) Try.underlying29 (ca_inf _)) rfl ?_
                  exact ⟨by rw [FIN.out] <;> rfl, Below.setRow HX8.out.bel (by omega) _⟩
                · rw [hl2] at cL2
                  have FIN : Hid (R = (c, false)) := Lib.hid (by rw [HR.out, nextP_b, st_far H0.out HB2.out HXS.out (by rw [hl1, ← IntKind.wrap_u32, hl2]; simp)] <;> rfl)
                  clear hl1 hl2
                  have c_xm : w3.cell? ⟨P8, 7, none⟩ = some (.int .u32 c.b.m) := blk_cell HX3.out.n8 rfl
                  have k_xm := cell_regrown c_xm
                  clear c_xm
                  have c_xe : w3.cell? ⟨P8, 6, none⟩ = some (.int .u32 c.b.e) := blk_cell HX3.out.n8 rfl
                  have k_xe := cell_regrown c_xe
                  clear c_xe
                  have c_se : w3.cell? ⟨P9, 10, none⟩ = some (.int .u32 (endP t)) := blk_cell HX3.out.s9 rfl
                  have k_se := cell_regrown c_se
                  clear c_se
                  have c_sq : w3.cell? ⟨P9, 2, none⟩ = some (.int .u32 t.sq) := blk_cell HX3.out.s9 rfl
                  have k_sq := cell_regrown c_sq
                  clear c_sq
                  have q0 := fun d os => Calls.regrown_of (cL1 (grow (redrawn w3 d) os))
                  have q1 := fun d os => Calls.regrown_of (cL2 (grow (redrawn w3 d) os))
                  refine wp_region_quiet_below (by kernel_rfl) (by kernel_rfl) ?_
                  repeat (first | go_big_quiet_skip |  quiet_step (first | (go_at_call 23; with_reducible exact q0 _ _) | (go_at_call 23; with_reducible exact q1 _ _)))
                  refine wpQuiet_nil ?_
                  intro _ hw'
                  obtain ⟨⟨dq, osq⟩, hw''⟩ := hw'
                  subst hw''
                  have bq := below_regrown w3 dq osq
                  have HX4 := Lib.hid (HX3.out.below bq)
                  generalize grow (redrawn w3 dq) osq = w4 at *
                  clear k_xm k_xe k_se k_sq
                  clear q0 q1
                  clear bq
                  go_wp2_with (first | ((with_reducible refine stop_op (o := ⟨some 147, _, _, _, _, _⟩) ?_); refine Lib.hid ?_; refine wpList_load_cells rfl 29 (.tmp 3) rfl ⟨w.heap.size, 0, none⟩ rfl (CA c) _ (blk_all HX4.out.c3) Try.underlying29 rfl (ca_inf c) ?_) | ((with_reducible refine stop_op (o := ⟨none, _, _, _, _, _⟩) ?_); refine Lib.hid ?_; refine wpList_store_row rfl 29 (.tmp 6) (.tmp 147) rfl (w.heap.size + 1 + 1) (CA c) rfl rfl 29 (CA zcn) (HX4.out.r6) (ca_inf c) rfl (ca_one c) ?_))
                  refine bodyPost_ret_by (res_row Try.results10 _ _ (w.heap.size + 1 + 1) 29 (CA c) _ rfl (blk_setRow HX4.out.r6 _) Try.underlying29 (ca_inf c)) rfl ?_
                  exact ⟨by rw [FIN.out] <;> rfl, Below.setRow HX4.out.bel (by omega) _⟩
              · rw [hl1] at cL1
                have FIN : Hid (R = (c, false)) := Lib.hid (by rw [HR.out, nextP_b, st_far H0.out HB2.out HXS.out (by rw [hl1]; simp)] <;> rfl)
                clear hl1
                have c_xm : w3.cell? ⟨P8, 7, none⟩ = some (.int .u32 c.b.m) := blk_cell HX3.out.n8 rfl
                have k_xm := cell_regrown c_xm
                clear c_xm
                have c_xe : w3.cell? ⟨P8, 6, none⟩ = some (.int .u32 c.b.e) := blk_cell HX3.out.n8 rfl
                have k_xe := cell_regrown c_xe
                clear c_xe
                have c_se : w3.cell? ⟨P9, 10, none⟩ = some (.int .u32 (endP t)) := blk_cell HX3.out.s9 rfl
                have k_se := cell_regrown c_se
                clear c_se
                have c_sq : w3.cell? ⟨P9, 2, none⟩ = some (.int .u32 t.sq) := blk_cell HX3.out.s9 rfl
                have k_sq := cell_regrown c_sq
                clear c_sq
                have q0 := fun d os => Calls.regrown_of (cL1 (grow (redrawn w3 d) os))
                have q1 := fun d os => Calls.regrown_of (cL2 (grow (redrawn w3 d) os))
                refine wp_region_quiet_below (by kernel_rfl) (by kernel_rfl) ?_
                repeat (first | go_big_quiet_skip |  quiet_step (first | (go_at_call 23; with_reducible exact q0 _ _) | (go_at_call 23; with_reducible exact q1 _ _)))
                refine wpQuiet_nil ?_
                intro _ hw'
                obtain ⟨⟨dq, osq⟩, hw''⟩ := hw'
                subst hw''
                have bq := below_regrown w3 dq osq
                have HX4 := Lib.hid (HX3.out.below bq)
                generalize grow (redrawn w3 dq) osq = w4 at *
                clear k_xm k_xe k_se k_sq
                clear q0 q1
                clear bq
                go_wp2_with (first | ((with_reducible refine stop_op (o := ⟨some 147, _, _, _, _, _⟩) ?_); refine Lib.hid ?_; refine wpList_load_cells rfl 29 (.tmp 3) rfl ⟨w.heap.size, 0, none⟩ rfl (CA c) _ (blk_all HX4.out.c3) Try.underlying29 rfl (ca_inf c) ?_) | ((with_reducible refine stop_op (o := ⟨none, _, _, _, _, _⟩) ?_); refine Lib.hid ?_; refine wpList_store_row rfl 29 (.tmp 6) (.tmp 147) rfl (w.heap.size + 1 + 1) (CA c) rfl rfl 29 (CA zcn) (HX4.out.r6) (ca_inf c) rfl (ca_one c) ?_))
                refine bodyPost_ret_by (res_row Try.results10 _ _ (w.heap.size + 1 + 1) 29 (CA c) _ rfl (blk_setRow HX4.out.r6 _) Try.underlying29 (ca_inf c)) rfl ?_
                exact ⟨by rw [FIN.out] <;> rfl, Below.setRow HX4.out.bel (by omega) _⟩
          · rw [h2] at HB2x
            have HB2 := Lib.hid h2
            clear h2
            rcases hxs : c.b.seen with _ | _
            · have HXS := Lib.hid hxs
              clear hxs
              go_upto_region 12 with (first | ((with_reducible refine stop_op (o := ⟨some 50, _, _, _, _, _⟩) ?_); refine Lib.hid ?_; refine wpList_load_cells rfl 51 (.tmp 9) rfl ⟨P9, 0, none⟩ rfl (SG t (endP t)) _ (blk_all HX1.out.s9) Try.underlying51 rfl (sg_inf t _) ?_) | (go_at_call 19; with_reducible refine (HB2x _).mono ?_; rintro e w2 ⟨rfl, b1⟩; have HX2 := Lib.hid (HX1.out.below b1); clear b1; have xs : w2.cell? ⟨P8, 5, none⟩ = some (.bool c.b.seen) := blk_cell HX2.out.n8 rfl; rw [HXS.out] at xs))
              go_upto_region 13 with (first | ((with_reducible refine stop_op (o := ⟨some 76, _, _, _, _, _⟩) ?_); refine Lib.hid ?_; refine wpList_load_cells rfl 51 (.tmp 9) rfl ⟨P9, 0, none⟩ rfl (SG t (endP t)) _ (blk_all HX2.out.s9) Try.underlying51 rfl (sg_inf t _) ?_) | (go_at_call 19; with_reducible refine (HB2x _).mono ?_; rintro e w3 ⟨rfl, b1⟩; have HX3 := Lib.hid (HX2.out.below b1); clear b1))
              have cB := fun w1 : World => bare_any t (endP t) w1
              rcases hba : bareP t with _ | _
              · rw [hba] at cB
                have FIN : Hid (R = (c, false)) := Lib.hid (by rw [HR.out, nextP_b, st_synNo H0.out HB2.out HXS.out (by rw [hba]; simp)] <;> rfl)
                clear hba
                have c_st : w3.cell? ⟨w.heap.size, 0, none⟩ = some (.int .i64 c.st) := blk_cell HX3.out.c3 rfl
                have k_st := cell_regrown c_st
                clear c_st
                have q0 := fun d os => Calls.regrown_of (cB (grow (redrawn w3 d) os))
                refine wp_region_quiet_below (by kernel_rfl) (by kernel_rfl) ?_
                repeat (first | go_big_quiet_skip | ((with_reducible refine stop_quiet (o := ⟨some 78, _, _, _, _, _⟩) ?_); refine quiet_load_row (by kernel_rfl) 51 (.tmp 9) rfl (P9) rfl 51 (SG t (endP t)) (0, 0) _ (rg_heap (HX3.out.s9)) Try.underlying51 rfl (sg_inf t _) ?_; simp only [Act.put, List.setIfInBounds_toArray, List.set_cons_succ, List.set_cons_zero]) |  quiet_step (first | (go_at_call 20; with_reducible exact q0 _ _)))
                refine wpQuiet_nil ?_
                intro _ hw'
                obtain ⟨⟨dq, osq⟩, hw''⟩ := hw'
                subst hw''
                have bq := below_regrown w3 dq osq
                have HX4 := Lib.hid (HX3.out.below bq)
                generalize grow (redrawn w3 dq) osq = w4 at *
                clear k_st
                clear q0
                clear bq
                go_wp2_with (first | ((with_reducible refine stop_op (o := ⟨some 99, _, _, _, _, _⟩) ?_); refine Lib.hid ?_; refine wpList_load_cells rfl 29 (.tmp 3) rfl ⟨w.heap.size, 0, none⟩ rfl (CA c) _ (blk_all HX4.out.c3) Try.underlying29 rfl (ca_inf c) ?_) | ((with_reducible refine stop_op (o := ⟨none, _, _, _, _, _⟩) ?_); refine Lib.hid ?_; refine wpList_store_row rfl 29 (.tmp 6) (.tmp 99) rfl (w.heap.size + 1 + 1) (CA c) rfl rfl 29 (CA zcn) (HX4.out.r6) (ca_inf c) rfl (ca_one c) ?_))
                refine bodyPost_ret_by (res_row Try.results10 _ _ (w.heap.size + 1 + 1) 29 (CA c) _ rfl (blk_setRow HX4.out.r6 _) Try.underlying29 (ca_inf c)) rfl ?_
                exact ⟨by rw [FIN.out] <;> rfl, Below.setRow HX4.out.bel (by omega) _⟩
              · rw [hba] at cB
                by_cases hs : c.st = 1
                · rcases hac : acksP t c.a.e with _ | _
                  · have cA := fun w1 : World => acks_any t (endP t) c.a.e w1
                    rw [hac] at cA
                    have hsn : (c.st != 1) = false := by simp [hs]
                    have FIN : Hid (R = (c, false)) := Lib.hid (by rw [HR.out, nextP_b, st_synNo H0.out HB2.out HXS.out (by rw [hac]; simp)] <;> rfl)
                    clear hba hac hs
                    have c_st : w3.cell? ⟨w.heap.size, 0, none⟩ = some (.int .i64 c.st) := blk_cell HX3.out.c3 rfl
                    have k_st := cell_regrown c_st
                    clear c_st
                    have c_ye : w3.cell? ⟨P8, 2, none⟩ = some (.int .u32 c.a.e) := blk_cell HX3.out.n8 rfl
                    have k_ye := cell_regrown c_ye
                    clear c_ye
                    have q0 := fun d os => Calls.regrown_of (cB (grow (redrawn w3 d) os))
                    have q1 := fun d os => Calls.regrown_of (cA (grow (redrawn w3 d) os))
                    refine wp_region_quiet_below (by kernel_rfl) (by kernel_rfl) ?_
                    repeat (first | go_big_quiet_skip | ((with_reducible refine stop_quiet (o := ⟨some 78, _, _, _, _, _⟩) ?_); refine quiet_load_row (by kernel_rfl) 51 (.tmp 9) rfl (P9) rfl 51 (SG t (endP t)) (0, 0) _ (rg_heap (HX3.out.s9)) Try.underlying51 rfl (sg_inf t _) ?_; simp only [Act.put, List.setIfInBounds_toArray, List.set_cons_succ, List.set_cons_zero]) | ((with_reducible refine stop_quiet (o := ⟨some 91, _, _, _, _, _⟩) ?_); refine quiet_load_row (by kernel_rfl) 51 (.tmp 9) rfl (P9) rfl 51 (SG t (endP t)) (0, 0) _ (rg_heap (HX3.out.s9)) Try.underlying51 rfl (sg_inf t _) ?_; simp only [Act.put, List.setIfInBounds_toArray, List.set_cons_succ, List.set_cons_zero]) |  quiet_step (first | (go_at_call 20; with_reducible exact q0 _ _) | (go_at_call 21; with_reducible exact q1 _ _)))
                    refine wpQuiet_nil ?_
                    intro _ hw'
                    obtain ⟨⟨dq, osq⟩, hw''⟩ := hw'
                    subst hw''
                    have bq := below_regrown w3 dq osq
                    have HX4 := Lib.hid (HX3.out.below bq)
                    generalize grow (redrawn w3 dq) osq = w4 at *
                    clear k_st k_ye
                    clear q0 q1
                    clear bq
                    go_wp2_with (first | ((with_reducible refine stop_op (o := ⟨some 99, _, _, _, _, _⟩) ?_); refine Lib.hid ?_; refine wpList_load_cells rfl 29 (.tmp 3) rfl ⟨w.heap.size, 0, none⟩ rfl (CA c) _ (blk_all HX4.out.c3) Try.underlying29 rfl (ca_inf c) ?_) | ((with_reducible refine stop_op (o := ⟨none, _, _, _, _, _⟩) ?_); refine Lib.hid ?_; refine wpList_store_row rfl 29 (.tmp 6) (.tmp 99) rfl (w.heap.size + 1 + 1) (CA c) rfl rfl 29 (CA zcn) (HX4.out.r6) (ca_inf c) rfl (ca_one c) ?_))
                    refine bodyPost_ret_by (res_row Try.results10 _ _ (w.heap.size + 1 + 1) 29 (CA c) _ rfl (blk_setRow HX4.out.r6 _) Try.underlying29 (ca_inf c)) rfl ?_
                    exact ⟨by rw [FIN.out] <;> rfl, Below.setRow HX4.out.bel (by omega) _⟩

                  · have cA := fun w1 : World => acks_any t (endP t) c.a.e w1
                    rw [hac] at cA
                    have hsn : (c.st != 1) = false := by simp [hs]
                    have FIN : Hid (R = (⟨2, allowP c.a t, firstP t⟩, true)) := Lib.hid (by rw [HR.out, nextP_b, st_syn H0.out HB2.out HXS.out (by rw [hba, hs, hac]; rfl)] <;> rfl)
                    clear hba hac hs
                    have c_st : w3.cell? ⟨w.heap.size, 0, none⟩ = some (.int .i64 c.st) := blk_cell HX3.out.c3 rfl
                    have k_st := cell_regrown c_st
                    clear c_st
                    have c_ye : w3.cell? ⟨P8, 2, none⟩ = some (.int .u32 c.a.e) := blk_cell HX3.out.n8 rfl
                    have k_ye := cell_regrown c_ye
                    clear c_ye
                    have q0 := fun d os => Calls.regrown_of (cB (grow (redrawn w3 d) os))
                    have q1 := fun d os => Calls.regrown_of (cA (grow (redrawn w3 d) os))
                    refine wp_region_quiet_below (by kernel_rfl) (by kernel_rfl) ?_
                    repeat (first | go_big_quiet_skip | ((with_reducible refine stop_quiet (o := ⟨some 78, _, _, _, _, _⟩) ?_); refine quiet_load_row (by kernel_rfl) 51 (.tmp 9) rfl (P9) rfl 51 (SG t (endP t)) (0, 0) _ (rg_heap (HX3.out.s9)) Try.underlying51 rfl (sg_inf t _) ?_; simp only [Act.put, List.setIfInBounds_toArray, List.set_cons_succ, List.set_cons_zero]) | ((with_reducible refine stop_quiet (o := ⟨some 91, _, _, _, _, _⟩) ?_); refine quiet_load_row (by kernel_rfl) 51 (.tmp 9) rfl (P9) rfl 51 (SG t (endP t)) (0, 0) _ (rg_heap (HX3.out.s9)) Try.underlying51 rfl (sg_inf t _) ?_; simp only [Act.put, List.setIfInBounds_toArray, List.set_cons_succ, List.set_cons_zero]) |  quiet_step (first | (go_at_call 20; with_reducible exact q0 _ _) | (go_at_call 21; with_reducible exact q1 _ _)))
                    refine wpQuiet_nil ?_
                    intro _ hw'
                    obtain ⟨⟨dq, osq⟩, hw''⟩ := hw'
                    subst hw''
                    have bq := below_regrown w3 dq osq
                    have HX4 := Lib.hid (HX3.out.below bq)
                    generalize grow (redrawn w3 dq) osq = w4 at *
                    clear k_st k_ye
                    clear q0 q1
                    clear bq
                    have cF := fun w1 : World => first_any t w1
                    simp only [SA] at cF
                    generalize firstP t = F at *
                    go_upto_region 16 with (first | ((with_reducible refine stop_op (o := ⟨some 101, _, _, _, _, _⟩) ?_); refine Lib.hid ?_; refine wpList_load_cells rfl 51 (.tmp 9) rfl ⟨P9, 0, none⟩ rfl (SG t (endP t)) _ (blk_all HX4.out.s9) Try.underlying51 rfl (sg_inf t _) ?_) | (go_at_call 16; with_reducible refine (cF _).mono ?_; rintro e w5 ⟨rfl, b1⟩; have HX5 := Lib.hid (HX4.out.below b1); clear b1; obtain ⟨n0, n1, n2, n3, n4, n5, n6, n7, n8⟩ := ca_cells HX5.out.n8; have f0 : w5.frozen? ⟨P8, 0, none⟩ = false := blk_free HX5.out.n8; have f5 : w5.frozen? ⟨P8, 5, none⟩ = false := blk_free HX5.out.n8; have f6 : w5.frozen? ⟨P8, 6, none⟩ = false := blk_free HX5.out.n8; have f7 : w5.frozen? ⟨P8, 7, none⟩ = false := blk_free HX5.out.n8; have f8 : w5.frozen? ⟨P8, 8, none⟩ = false := blk_free HX5.out.n8))
                    have HX6 : Hid (NX w (((((w5.setCell ⟨P8, 0, none⟩ (.int .i64 2)).setCell ⟨P8, 5, none⟩ (.bool F.seen)).setCell ⟨P8, 6, none⟩ (.int .u32 F.e)).setCell ⟨P8, 7, none⟩ (.int .u32 F.m)).setCell ⟨P8, 8, none⟩ (.bool F.fin)) c ⟨2, c.a, F⟩ t P8 P9) :=
                      Lib.hid (HX5.out.off ((((((Off.refl P8 w5).set 0 _).set 5 _).set 6 _).set 7 _).set 8 _) (heap_set (heap_set (heap_set (heap_set (heap_set HX5.out.n8 0 _) 5 _) 6 _) 7 _) 8 _))
                    clear n0 n1 n2 n3 n4 n5 n6 n7 n8 f0 f5 f6 f7 f8
                    generalize ((((w5.setCell ⟨P8, 0, none⟩ (.int .i64 2)).setCell ⟨P8, 5, none⟩ (.bool F.seen)).setCell ⟨P8, 6, none⟩ (.int .u32 F.e)).setCell ⟨P8, 7, none⟩ (.int .u32 F.m)).setCell ⟨P8, 8, none⟩ (.bool F.fin) = w6 at *
                    go_upto_region 23 with (first | ((with_reducible refine stop_op (o := ⟨some 106, _, _, _, _, _⟩) ?_); refine Lib.hid ?_; refine wpList_load_cells rfl 51 (.tmp 9) rfl ⟨P9, 0, none⟩ rfl (SG t (endP t)) _ (blk_all HX6.out.s9) Try.underlying51 rfl (sg_inf t _) ?_) | (go_at_call 22; with_reducible refine (allow_a HX6.out.n8 t (endP t)).mono ?_; rintro e w7 ⟨rfl, h8, o8⟩; have HX7 : Hid (NX w w7 c ⟨2, allowP c.a t, F⟩ t P8 P9) := Lib.hid (HX6.out.off o8 h8); clear h8 o8))
                    go_wp2_with (first | ((with_reducible refine stop_op (o := ⟨some 148, _, _, _, _, _⟩) ?_); refine Lib.hid ?_; refine wpList_load_cells rfl 29 (.tmp 8) rfl ⟨P8, 0, none⟩ rfl (CA (⟨2, allowP c.a t, F⟩)) _ (blk_all HX7.out.n8) Try.underlying29 rfl (ca_inf _) ?_) | ((with_reducible refine stop_op (o := ⟨none, _, _, _, _, _⟩) ?_); refine Lib.hid ?_; refine wpList_store_row rfl 29 (.tmp 6) (.tmp 148) rfl (w.heap.size + 1 + 1) (CA (⟨2, allowP c.a t, F⟩)) rfl rfl 29 (CA zcn) (HX7.out.r6) (ca_inf _) rfl (ca_one _) ?_))
                    refine bodyPost_ret_by (res_row Try.results10 _ _ (w.heap.size + 1 + 1) 29 (CA (⟨2, allowP c.a t, F⟩)) _ rfl (blk_setRow HX7.out.r6 _) Try.underlying29 (ca_inf _)) rfl ?_
                    exact ⟨by rw [FIN.out] <;> rfl, Below.setRow HX7.out.bel (by omega) _⟩

                · have hsn : (c.st != 1) = true := by simp [hs]
                  have hs1 : (c.st == 1) = false := by simpa using hs
                  have FIN : Hid (R = (c, false)) := Lib.hid (by rw [HR.out, nextP_b, st_synNo H0.out HB2.out HXS.out (by rw [hs1]; simp)] <;> rfl)
                  clear hba hs hs1
                  have c_st : w3.cell? ⟨w.heap.size, 0, none⟩ = some (.int .i64 c.st) := blk_cell HX3.out.c3 rfl
                  have k_st := cell_regrown c_st
                  clear c_st
                  have q0 := fun d os => Calls.regrown_of (cB (grow (redrawn w3 d) os))
                  refine wp_region_quiet_below (by kernel_rfl) (by kernel_rfl) ?_
                  repeat (first | go_big_quiet_skip | ((with_reducible refine stop_quiet (o := ⟨some 78, _, _, _, _, _⟩) ?_); refine quiet_load_row (by kernel_rfl) 51 (.tmp 9) rfl (P9) rfl 51 (SG t (endP t)) (0, 0) _ (rg_heap (HX3.out.s9)) Try.underlying51 rfl (sg_inf t _) ?_; simp only [Act.put, List.setIfInBounds_toArray, List.set_cons_succ, List.set_cons_zero]) |  quiet_step (first | (go_at_call 20; with_reducible exact q0 _ _)))
                  refine wpQuiet_nil ?_
                  intro _ hw'
                  obtain ⟨⟨dq, osq⟩, hw''⟩ := hw'
                  subst hw''
                  have bq := below_regrown w3 dq osq
                  have HX4 := Lib.hid (HX3.out.below bq)
                  generalize grow (redrawn w3 dq) osq = w4 at *
                  clear k_st
                  clear q0
                  clear bq
                  go_wp2_with (first | ((with_reducible refine stop_op (o := ⟨some 99, _, _, _, _, _⟩) ?_); refine Lib.hid ?_; refine wpList_load_cells rfl 29 (.tmp 3) rfl ⟨w.heap.size, 0, none⟩ rfl (CA c) _ (blk_all HX4.out.c3) Try.underlying29 rfl (ca_inf c) ?_) | ((with_reducible refine stop_op (o := ⟨none, _, _, _, _, _⟩) ?_); refine Lib.hid ?_; refine wpList_store_row rfl 29 (.tmp 6) (.tmp 99) rfl (w.heap.size + 1 + 1) (CA c) rfl rfl 29 (CA zcn) (HX4.out.r6) (ca_inf c) rfl (ca_one c) ?_))
                  refine bodyPost_ret_by (res_row Try.results10 _ _ (w.heap.size + 1 + 1) 29 (CA c) _ rfl (blk_setRow HX4.out.r6 _) Try.underlying29 (ca_inf c)) rfl ?_
                  exact ⟨by rw [FIN.out] <;> rfl, Below.setRow HX4.out.bel (by omega) _⟩
            · have HXS := Lib.hid hxs
              clear hxs
              go_upto_region 11 with (first | ((with_reducible refine stop_op (o := ⟨some 50, _, _, _, _, _⟩) ?_); refine Lib.hid ?_; refine wpList_load_cells rfl 51 (.tmp 9) rfl ⟨P9, 0, none⟩ rfl (SG t (endP t)) _ (blk_all HX1.out.s9) Try.underlying51 rfl (sg_inf t _) ?_) | (go_at_call 19; with_reducible refine (HB2x _).mono ?_; rintro e w2 ⟨rfl, b1⟩; have HX2 := Lib.hid (HX1.out.below b1); clear b1; have xs : w2.cell? ⟨P8, 5, none⟩ = some (.bool c.b.seen) := blk_cell HX2.out.n8 rfl; rw [HXS.out] at xs))
              have cB := fun w1 : World => bare_any t (endP t) w1
              rcases hba : bareP t with _ | _
              · rw [hba] at cB
                have FIN : Hid (R = (c, false)) := Lib.hid (by rw [HR.out, nextP_b, st_again H0.out HB2.out HXS.out] <;> simp [hba])
                clear hba
                refine wp_region_held_drew (S := fun W1 : World => NS w W1 c t P8 P9) (by kernel_rfl) (HX2.out.below (bel_dr (Below.refl _ _))).ns (fun hH => ?_)
                have hX0 := HX2.out.below (bel_dr (Below.refl _ _))
                have hH0 := hX0.ns
                generalize w2.drew = wd at hX0 hH0 hH ⊢
                refine wpAnyH_take (i := 0) (oi := ⟨some 58, _, _, _, _, _⟩) (v := .agg (CA c)) rfl (by kernel_rfl) (by kernel_rfl) (by kernel_rfl) (fun _ _ _ h => h) (yields_rowK (by rfl) 29 _ rfl w.heap.size rfl (CA c) 29 _ (fun W hW => hW.c3) Try.underlying29 rfl (ca_inf c)) hH0 ?_
                try simp only [Act.put, List.setIfInBounds_toArray, List.set_cons_zero, List.set_cons_succ]
                refine wpAnyH_take (i := 1) (oi := ⟨some 59, _, _, _, _, _⟩) (v := .agg (SG t (endP t))) rfl (by kernel_rfl) (by kernel_rfl) (by kernel_rfl) (fun _ _ _ h => h) (yields_rowK (by rfl) 51 _ rfl P9 rfl (SG t (endP t)) 51 _ (fun W hW => hW.s9) Try.underlying51 rfl (sg_inf t _)) hH0 ?_
                try simp only [Act.put, List.setIfInBounds_toArray, List.set_cons_zero, List.set_cons_succ]
                refine wpAnyH_ready (rs := [2]) (by kernel_rfl) (by simp) ?_
                refine AllReadyH.cons (o := ⟨some 60, _, _, _, _, _⟩) rfl (fun K hK => ?_) AllReadyH.nil
                go_simp
                go_at_call 20
                with_reducible refine (cB _).mono ?_
                rintro e w20 ⟨rfl, b20⟩
                have hX := hX0.below b20
                have hS := hX.ns
                refine hK.out _ _ hS (fun _ => ?_)
                clear hK K
                try simp only [Act.put, List.setIfInBounds_toArray, List.set_cons_zero, List.set_cons_succ]
                refine wpAnyH_take (i := 3) (oi := ⟨some 61, _, _, _, _, _⟩) (v := ?_) rfl (by kernel_rfl) (by kernel_rfl) (by kernel_rfl) (fun _ _ _ h => h) (Or.inl ⟨by kernel_rfl, ?_⟩) hS ?_
                rotate_left 1
                · intro W1 hW1
                  have x1 : W1.cell? ⟨P9, 10, none⟩ = some (.int .u32 (endP t)) := blk_cell hW1.s9 rfl
                  have x2 : W1.cell? ⟨P8, 6, none⟩ = some (.int .u32 c.b.e) := blk_cell hW1.n8 rfl
                  have x3 : W1.cell? ⟨w.heap.size, 0, none⟩ = some (.int .i64 c.st) := blk_cell hW1.c3 rfl
                  go_simp
                  with_reducible rfl
                try simp only [Act.put, List.setIfInBounds_toArray, List.set_cons_zero, List.set_cons_succ]
                refine wpAnyH_take (i := 4) (oi := ⟨some 62, _, _, _, _, _⟩) (v := undef) rfl (by kernel_rfl) (by kernel_rfl) (by kernel_rfl) (fun _ _ _ h => h) (Or.inr ⟨by kernel_rfl, rfl⟩) hS ?_
                try simp only [Act.put, List.setIfInBounds_toArray, List.set_cons_zero, List.set_cons_succ]
                refine wpAnyH_take (i := 5) (oi := ⟨some 63, _, _, _, _, _⟩) (v := undef) rfl (by kernel_rfl) (by kernel_rfl) (by kernel_rfl) (fun _ _ _ h => h) (Or.inr ⟨by kernel_rfl, rfl⟩) hS ?_
                try simp only [Act.put, List.setIfInBounds_toArray, List.set_cons_zero, List.set_cons_succ]
                refine wpAnyH_take (i := 6) (oi := ⟨some 64, _, _, _, _, _⟩) (v := undef) rfl (by kernel_rfl) (by kernel_rfl) (by kernel_rfl) (fun _ _ _ h => h) (Or.inr ⟨by kernel_rfl, rfl⟩) hS ?_
                try simp only [Act.put, List.setIfInBounds_toArray, List.set_cons_zero, List.set_cons_succ]
                refine wpAnyH_take (i := 7) (oi := ⟨some 65, _, _, _, _, _⟩) (v := undef) rfl (by kernel_rfl) (by kernel_rfl) (by kernel_rfl) (fun _ _ _ h => h) (Or.inr ⟨by kernel_rfl, rfl⟩) hS ?_
                try simp only [Act.put, List.setIfInBounds_toArray, List.set_cons_zero, List.set_cons_succ]
                refine wpAnyH_take (i := 8) (oi := ⟨some 66, _, _, _, _, _⟩) (v := undef) rfl (by kernel_rfl) (by kernel_rfl) (by kernel_rfl) (fun _ _ _ h => h) (Or.inr ⟨by kernel_rfl, rfl⟩) hS ?_
                try simp only [Act.put, List.setIfInBounds_toArray, List.set_cons_zero, List.set_cons_succ]
                refine wpAnyH_take (i := 9) (oi := ⟨some 67, _, _, _, _, _⟩) (v := undef) rfl (by kernel_rfl) (by kernel_rfl) (by kernel_rfl) (fun _ _ _ h => h) (Or.inr ⟨by kernel_rfl, rfl⟩) hS ?_
                try simp only [Act.put, List.setIfInBounds_toArray, List.set_cons_zero, List.set_cons_succ]
                refine wpAnyH_take (i := 10) (oi := ⟨some 68, _, _, _, _, _⟩) (v := undef) rfl (by kernel_rfl) (by kernel_rfl) (by kernel_rfl) (fun _ _ _ h => h) (Or.inr ⟨by kernel_rfl, rfl⟩) hS ?_
                try simp only [Act.put, List.setIfInBounds_toArray, List.set_cons_zero, List.set_cons_succ]
                refine wpAnyH_take (i := 11) (oi := ⟨some 69, _, _, _, _, _⟩) (v := ?_) rfl (by kernel_rfl) (by kernel_rfl) (by kernel_rfl) (fun _ _ _ h => h) (Or.inl ⟨by kernel_rfl, ?_⟩) hS ?_
                rotate_left 1
                · intro W1 hW1
                  have x1 : W1.cell? ⟨P9, 10, none⟩ = some (.int .u32 (endP t)) := blk_cell hW1.s9 rfl
                  have x2 : W1.cell? ⟨P8, 6, none⟩ = some (.int .u32 c.b.e) := blk_cell hW1.n8 rfl
                  have x3 : W1.cell? ⟨w.heap.size, 0, none⟩ = some (.int .i64 c.st) := blk_cell hW1.c3 rfl
                  go_simp
                  with_reducible rfl
                try simp only [Act.put, List.setIfInBounds_toArray, List.set_cons_zero, List.set_cons_succ]
                refine wpAnyH_take (i := 12) (oi := ⟨some 70, _, _, _, _, _⟩) (v := ?_) rfl (by kernel_rfl) (by kernel_rfl) (by kernel_rfl) (fun _ _ _ h => h) (Or.inl ⟨by kernel_rfl, ?_⟩) hS ?_
                rotate_left 1
                · intro W1 hW1
                  have x1 : W1.cell? ⟨P9, 10, none⟩ = some (.int .u32 (endP t)) := blk_cell hW1.s9 rfl
                  have x2 : W1.cell? ⟨P8, 6, none⟩ = some (.int .u32 c.b.e) := blk_cell hW1.n8 rfl
                  have x3 : W1.cell? ⟨w.heap.size, 0, none⟩ = some (.int .i64 c.st) := blk_cell hW1.c3 rfl
                  go_simp
                  with_reducible rfl
                try simp only [Act.put, List.setIfInBounds_toArray, List.set_cons_zero, List.set_cons_succ]
                refine wpAnyH_take (i := 13) (oi := ⟨some 71, _, _, _, _, _⟩) (v := undef) rfl (by kernel_rfl) (by kernel_rfl) (by kernel_rfl) (fun _ _ _ h => h) (Or.inr ⟨by kernel_rfl, rfl⟩) hS ?_
                try simp only [Act.put, List.setIfInBounds_toArray, List.set_cons_zero, List.set_cons_succ]
                refine wpAnyH_take (i := 14) (oi := ⟨some 72, _, _, _, _, _⟩) (v := undef) rfl (by kernel_rfl) (by kernel_rfl) (by kernel_rfl) (fun _ _ _ h => h) (Or.inr ⟨by kernel_rfl, rfl⟩) hS ?_
                try simp only [Act.put, List.setIfInBounds_toArray, List.set_cons_zero, List.set_cons_succ]
                refine wpAnyH_take (i := 15) (oi := ⟨some 73, _, _, _, _, _⟩) (v := undef) rfl (by kernel_rfl) (by kernel_rfl) (by kernel_rfl) (fun _ _ _ h => h) (Or.inr ⟨by kernel_rfl, rfl⟩) hS ?_
                try simp only [Act.put, List.setIfInBounds_toArray, List.set_cons_zero, List.set_cons_succ]
                refine wpAnyH_take (i := 16) (oi := ⟨some 74, _, _, _, _, _⟩) (v := ?_) rfl (by kernel_rfl) (by kernel_rfl) (by kernel_rfl) (fun _ _ _ h => h) (Or.inl ⟨by kernel_rfl, ?_⟩) hS ?_
                rotate_left 1
                · intro W1 hW1
                  have x1 : W1.cell? ⟨P9, 10, none⟩ = some (.int .u32 (endP t)) := blk_cell hW1.s9 rfl
                  have x2 : W1.cell? ⟨P8, 6, none⟩ = some (.int .u32 c.b.e) := blk_cell hW1.n8 rfl
                  have x3 : W1.cell? ⟨w.heap.size, 0, none⟩ = some (.int .i64 c.st) := blk_cell hW1.c3 rfl
                  go_simp
                  with_reducible rfl
                try simp only [Act.put, List.setIfInBounds_toArray, List.set_cons_zero, List.set_cons_succ]
                refine wpAnyH_ready (rs := [17]) (by kernel_rfl) (by simp) ?_
                refine AllReadyH.cons (o := ⟨none, _, _, _, _, _⟩) rfl (fun K hK => ?_) AllReadyH.nil
                refine step_store_row rfl 29 (.tmp 6) (.tmp 58) rfl (w.heap.size + 1 + 1) (CA c) rfl rfl 29 (CA zcn) hX.r6 (ca_inf c) rfl (ca_one c) ?_
                have hS2 : NS w (w20.setRow (w.heap.size + 1 + 1) (CA c)) c t P8 P9 := ⟨(setRow_other (by omega) _).trans hX.c3, (setRow_other (by omega) _).trans hX.n8, (setRow_other (by omega) _).trans hX.s9⟩
                have hR2 := blk_setRow hX.r6 (CA c)
                have hB2 := Below.setRow hX.bel (show w.heap.size ≤ w.heap.size + 1 + 1 by omega) (CA c)
                refine hK.out _ _ hS2 (fun _ => ?_)
                clear hK K hS
                generalize w20.setRow (w.heap.size + 1 + 1) (CA c) = wz at *
                try simp only [Act.put, List.setIfInBounds_toArray, List.set_cons_zero, List.set_cons_succ]
                refine wpAnyH_take (i := 18) (oi := ⟨some 7, _, _, _, _, _⟩) (v := ?_) rfl (by kernel_rfl) (by kernel_rfl) (by kernel_rfl) (fun _ _ _ h => h) (Or.inl ⟨by kernel_rfl, ?_⟩) hS2 ?_
                rotate_left 1
                · intro W1 hW1
                  have x1 : W1.cell? ⟨P9, 10, none⟩ = some (.int .u32 (endP t)) := blk_cell hW1.s9 rfl
                  have x2 : W1.cell? ⟨P8, 6, none⟩ = some (.int .u32 c.b.e) := blk_cell hW1.n8 rfl
                  have x3 : W1.cell? ⟨w.heap.size, 0, none⟩ = some (.int .i64 c.st) := blk_cell hW1.c3 rfl
                  go_simp
                  with_reducible rfl
                try simp only [Act.put, List.setIfInBounds_toArray, List.set_cons_zero, List.set_cons_succ]
                refine wpAnyH_done (by kernel_rfl) ?_ _
                try simp only [Act.put, List.setIfInBounds_toArray, List.set_cons_zero, List.set_cons_succ]
                go_wp2_with fail
                refine bodyPost_ret_by (res_row Try.results10 _ _ (w.heap.size + 1 + 1) 29 (CA c) _ rfl hR2 Try.underlying29 (ca_inf c)) rfl ?_
                exact ⟨by rw [FIN.out] <;> rfl, hB2⟩
              · rw [hba] at cB
                rcases hen : endP t == c.b.e with _ | _
                · have FIN : Hid (R = (c, false)) := Lib.hid (by rw [HR.out, nextP_b, st_again H0.out HB2.out HXS.out] <;> simp [hba, hen])
                  clear hba
                  refine wp_region_held_drew (S := fun W1 : World => NS w W1 c t P8 P9) (by kernel_rfl) (HX2.out.below (bel_dr (Below.refl _ _))).ns (fun hH => ?_)
                  have hX0 := HX2.out.below (bel_dr (Below.refl _ _))
                  have hH0 := hX0.ns
                  generalize w2.drew = wd at hX0 hH0 hH ⊢
                  refine wpAnyH_take (i := 0) (oi := ⟨some 58, _, _, _, _, _⟩) (v := .agg (CA c)) rfl (by kernel_rfl) (by kernel_rfl) (by kernel_rfl) (fun _ _ _ h => h) (yields_rowK (by rfl) 29 _ rfl w.heap.size rfl (CA c) 29 _ (fun W hW => hW.c3) Try.underlying29 rfl (ca_inf c)) hH0 ?_
                  try simp only [Act.put, List.setIfInBounds_toArray, List.set_cons_zero, List.set_cons_succ]
                  refine wpAnyH_take (i := 1) (oi := ⟨some 59, _, _, _, _, _⟩) (v := .agg (SG t (endP t))) rfl (by kernel_rfl) (by kernel_rfl) (by kernel_rfl) (fun _ _ _ h => h) (yields_rowK (by rfl) 51 _ rfl P9 rfl (SG t (endP t)) 51 _ (fun W hW => hW.s9) Try.underlying51 rfl (sg_inf t _)) hH0 ?_
                  try simp only [Act.put, List.setIfInBounds_toArray, List.set_cons_zero, List.set_cons_succ]
                  refine wpAnyH_ready (rs := [2]) (by kernel_rfl) (by simp) ?_
                  refine AllReadyH.cons (o := ⟨some 60, _, _, _, _, _⟩) rfl (fun K hK => ?_) AllReadyH.nil
                  go_simp
                  go_at_call 20
                  with_reducible refine (cB _).mono ?_
                  rintro e w20 ⟨rfl, b20⟩
                  have hX := hX0.below b20
                  have hS := hX.ns
                  refine hK.out _ _ hS (fun _ => ?_)
                  clear hK K
                  try simp only [Act.put, List.setIfInBounds_toArray, List.set_cons_zero, List.set_cons_succ]
                  refine wpAnyH_take (i := 3) (oi := ⟨some 61, _, _, _, _, _⟩) (v := ?_) rfl (by kernel_rfl) (by kernel_rfl) (by kernel_rfl) (fun _ _ _ h => h) (Or.inl ⟨by kernel_rfl, ?_⟩) hS ?_
                  rotate_left 1
                  · intro W1 hW1
                    have x1 : W1.cell? ⟨P9, 10, none⟩ = some (.int .u32 (endP t)) := blk_cell hW1.s9 rfl
                    have x2 : W1.cell? ⟨P8, 6, none⟩ = some (.int .u32 c.b.e) := blk_cell hW1.n8 rfl
                    have x3 : W1.cell? ⟨w.heap.size, 0, none⟩ = some (.int .i64 c.st) := blk_cell hW1.c3 rfl
                    go_simp
                    with_reducible rfl
                  try simp only [Act.put, List.setIfInBounds_toArray, List.set_cons_zero, List.set_cons_succ]
                  refine wpAnyH_take (i := 4) (oi := ⟨some 62, _, _, _, _, _⟩) (v := ?_) rfl (by kernel_rfl) (by kernel_rfl) (by kernel_rfl) (fun _ _ _ h => h) (Or.inl ⟨by kernel_rfl, ?_⟩) hS ?_
                  rotate_left 1
                  · intro W1 hW1
                    have x1 : W1.cell? ⟨P9, 10, none⟩ = some (.int .u32 (endP t)) := blk_cell hW1.s9 rfl
                    have x2 : W1.cell? ⟨P8, 6, none⟩ = some (.int .u32 c.b.e) := blk_cell hW1.n8 rfl
                    have x3 : W1.cell? ⟨w.heap.size, 0, none⟩ = some (.int .i64 c.st) := blk_cell hW1.c3 rfl
                    go_simp
                    with_reducible rfl
                  try simp only [Act.put, List.setIfInBounds_toArray, List.set_cons_zero, List.set_cons_succ]
                  refine wpAnyH_take (i := 5) (oi := ⟨some 63, _, _, _, _, _⟩) (v := ?_) rfl (by kernel_rfl) (by kernel_rfl) (by kernel_rfl) (fun _ _ _ h => h) (Or.inl ⟨by kernel_rfl, ?_⟩) hS ?_
                  rotate_left 1
                  · intro W1 hW1
                    have x1 : W1.cell? ⟨P9, 10, none⟩ = some (.int .u32 (endP t)) := blk_cell hW1.s9 rfl
                    have x2 : W1.cell? ⟨P8, 6, none⟩ = some (.int .u32 c.b.e) := blk_cell hW1.n8 rfl
                    have x3 : W1.cell? ⟨w.heap.size, 0, none⟩ = some (.int .i64 c.st) := blk_cell hW1.c3 rfl
                    go_simp
                    with_reducible rfl
                  try simp only [Act.put, List.setIfInBounds_toArray, List.set_cons_zero, List.set_cons_succ]
                  refine wpAnyH_take (i := 6) (oi := ⟨some 64, _, _, _, _, _⟩) (v := ?_) rfl (by kernel_rfl) (by kernel_rfl) (by kernel_rfl) (fun _ _ _ h => h) (Or.inl ⟨by kernel_rfl, ?_⟩) hS ?_
                  rotate_left 1
                  · intro W1 hW1
                    have x1 : W1.cell? ⟨P9, 10, none⟩ = some (.int .u32 (endP t)) := blk_cell hW1.s9 rfl
                    have x2 : W1.cell? ⟨P8, 6, none⟩ = some (.int .u32 c.b.e) := blk_cell hW1.n8 rfl
                    have x3 : W1.cell? ⟨w.heap.size, 0, none⟩ = some (.int .i64 c.st) := blk_cell hW1.c3 rfl
                    go_simp
                    with_reducible rfl
                  try simp only [Act.put, List.setIfInBounds_toArray, List.set_cons_zero, List.set_cons_succ]
                  refine wpAnyH_take (i := 7) (oi := ⟨some 65, _, _, _, _, _⟩) (v := ?_) rfl (by kernel_rfl) (by kernel_rfl) (by kernel_rfl) (fun _ _ _ h => h) (Or.inl ⟨by kernel_rfl, ?_⟩) hS ?_
                  rotate_left 1
                  · intro W1 hW1
                    have x1 : W1.cell? ⟨P9, 10, none⟩ = some (.int .u32 (endP t)) := blk_cell hW1.s9 rfl
                    have x2 : W1.cell? ⟨P8, 6, none⟩ = some (.int .u32 c.b.e) := blk_cell hW1.n8 rfl
                    have x3 : W1.cell? ⟨w.heap.size, 0, none⟩ = some (.int .i64 c.st) := blk_cell hW1.c3 rfl
                    go_simp
                    with_reducible rfl
                  try simp only [Act.put, List.setIfInBounds_toArray, List.set_cons_zero, List.set_cons_succ]
                  refine wpAnyH_take (i := 8) (oi := ⟨some 66, _, _, _, _, _⟩) (v := ?_) rfl (by kernel_rfl) (by kernel_rfl) (by kernel_rfl) (fun _ _ _ h => h) (Or.inl ⟨by kernel_rfl, ?_⟩) hS ?_
                  rotate_left 1
                  · intro W1 hW1
                    have x1 : W1.cell? ⟨P9, 10, none⟩ = some (.int .u32 (endP t)) := blk_cell hW1.s9 rfl
                    have x2 : W1.cell? ⟨P8, 6, none⟩ = some (.int .u32 c.b.e) := blk_cell hW1.n8 rfl
                    have x3 : W1.cell? ⟨w.heap.size, 0, none⟩ = some (.int .i64 c.st) := blk_cell hW1.c3 rfl
                    go_simp
                    with_reducible rfl
                  try simp only [Act.put, List.setIfInBounds_toArray, List.set_cons_zero, List.set_cons_succ]
                  refine wpAnyH_take (i := 9) (oi := ⟨some 67, _, _, _, _, _⟩) (v := ?_) rfl (by kernel_rfl) (by kernel_rfl) (by kernel_rfl) (fun _ _ _ h => h) (Or.inl ⟨by kernel_rfl, ?_⟩) hS ?_
                  rotate_left 1
                  · intro W1 hW1
                    have x1 : W1.cell? ⟨P9, 10, none⟩ = some (.int .u32 (endP t)) := blk_cell hW1.s9 rfl
                    have x2 : W1.cell? ⟨P8, 6, none⟩ = some (.int .u32 c.b.e) := blk_cell hW1.n8 rfl
                    have x3 : W1.cell? ⟨w.heap.size, 0, none⟩ = some (.int .i64 c.st) := blk_cell hW1.c3 rfl
                    go_simp
                    with_reducible rfl
                  try simp only [Act.put, List.setIfInBounds_toArray, List.set_cons_zero, List.set_cons_succ]
                  refine wpAnyH_take (i := 10) (oi := ⟨some 68, _, _, _, _, _⟩) (v := ?_) rfl (by kernel_rfl) (by kernel_rfl) (by kernel_rfl) (fun _ _ _ h => h) (Or.inl ⟨by kernel_rfl, ?_⟩) hS ?_
                  rotate_left 1
                  · intro W1 hW1
                    have x1 : W1.cell? ⟨P9, 10, none⟩ = some (.int .u32 (endP t)) := blk_cell hW1.s9 rfl
                    have x2 : W1.cell? ⟨P8, 6, none⟩ = some (.int .u32 c.b.e) := blk_cell hW1.n8 rfl
                    have x3 : W1.cell? ⟨w.heap.size, 0, none⟩ = some (.int .i64 c.st) := blk_cell hW1.c3 rfl
                    go_simp
                    with_reducible rfl
                  try simp only [Act.put, List.setIfInBounds_toArray, List.set_cons_zero, List.set_cons_succ]
                  refine wpAnyH_take (i := 11) (oi := ⟨some 69, _, _, _, _, _⟩) (v := ?_) rfl (by kernel_rfl) (by kernel_rfl) (by kernel_rfl) (fun _ _ _ h => h) (Or.inl ⟨by kernel_rfl, ?_⟩) hS ?_
                  rotate_left 1
                  · intro W1 hW1
                    have x1 : W1.cell? ⟨P9, 10, none⟩ = some (.int .u32 (endP t)) := blk_cell hW1.s9 rfl
                    have x2 : W1.cell? ⟨P8, 6, none⟩ = some (.int .u32 c.b.e) := blk_cell hW1.n8 rfl
                    have x3 : W1.cell? ⟨w.heap.size, 0, none⟩ = some (.int .i64 c.st) := blk_cell hW1.c3 rfl
                    go_simp
                    with_reducible rfl
                  try simp only [Act.put, List.setIfInBounds_toArray, List.set_cons_zero, List.set_cons_succ]
                  refine wpAnyH_take (i := 12) (oi := ⟨some 70, _, _, _, _, _⟩) (v := ?_) rfl (by kernel_rfl) (by kernel_rfl) (by kernel_rfl) (fun _ _ _ h => h) (Or.inl ⟨by kernel_rfl, ?_⟩) hS ?_
                  rotate_left 1
                  · intro W1 hW1
                    have x1 : W1.cell? ⟨P9, 10, none⟩ = some (.int .u32 (endP t)) := blk_cell hW1.s9 rfl
                    have x2 : W1.cell? ⟨P8, 6, none⟩ = some (.int .u32 c.b.e) := blk_cell hW1.n8 rfl
                    have x3 : W1.cell? ⟨w.heap.size, 0, none⟩ = some (.int .i64 c.st) := blk_cell hW1.c3 rfl
                    go_simp
                    with_reducible rfl
                  try simp only [Act.put, List.setIfInBounds_toArray, List.set_cons_zero, List.set_cons_succ]
                  refine wpAnyH_take (i := 13) (oi := ⟨some 71, _, _, _, _, _⟩) (v := undef) rfl (by kernel_rfl) (by kernel_rfl) (by kernel_rfl) (fun _ _ _ h => h) (Or.inr ⟨by kernel_rfl, rfl⟩) hS ?_
                  try simp only [Act.put, List.setIfInBounds_toArray, List.set_cons_zero, List.set_cons_succ]
                  refine wpAnyH_take (i := 14) (oi := ⟨some 72, _, _, _, _, _⟩) (v := undef) rfl (by kernel_rfl) (by kernel_rfl) (by kernel_rfl) (fun _ _ _ h => h) (Or.inr ⟨by kernel_rfl, rfl⟩) hS ?_
                  try simp only [Act.put, List.setIfInBounds_toArray, List.set_cons_zero, List.set_cons_succ]
                  refine wpAnyH_take (i := 15) (oi := ⟨some 73, _, _, _, _, _⟩) (v := undef) rfl (by kernel_rfl) (by kernel_rfl) (by kernel_rfl) (fun _ _ _ h => h) (Or.inr ⟨by kernel_rfl, rfl⟩) hS ?_
                  try simp only [Act.put, List.setIfInBounds_toArray, List.set_cons_zero, List.set_cons_succ]
                  refine wpAnyH_take (i := 16) (oi := ⟨some 74, _, _, _, _, _⟩) (v := ?_) rfl (by kernel_rfl) (by kernel_rfl) (by kernel_rfl) (fun _ _ _ h => h) (Or.inl ⟨by kernel_rfl, ?_⟩) hS ?_
                  rotate_left 1
                  · intro W1 hW1
                    have x1 : W1.cell? ⟨P9, 10, none⟩ = some (.int .u32 (endP t)) := blk_cell hW1.s9 rfl
                    have x2 : W1.cell? ⟨P8, 6, none⟩ = some (.int .u32 c.b.e) := blk_cell hW1.n8 rfl
                    have x3 : W1.cell? ⟨w.heap.size, 0, none⟩ = some (.int .i64 c.st) := blk_cell hW1.c3 rfl
                    go_simp
                    with_reducible rfl
                  try simp only [Act.put, List.setIfInBounds_toArray, List.set_cons_zero, List.set_cons_succ]
                  refine wpAnyH_ready (rs := [17]) (by kernel_rfl) (by simp) ?_
                  refine AllReadyH.cons (o := ⟨none, _, _, _, _, _⟩) rfl (fun K hK => ?_) AllReadyH.nil
                  refine step_store_row rfl 29 (.tmp 6) (.tmp 58) rfl (w.heap.size + 1 + 1) (CA c) rfl rfl 29 (CA zcn) hX.r6 (ca_inf c) rfl (ca_one c) ?_
                  have hS2 : NS w (w20.setRow (w.heap.size + 1 + 1) (CA c)) c t P8 P9 := ⟨(setRow_other (by omega) _).trans hX.c3, (setRow_other (by omega) _).trans hX.n8, (setRow_other (by omega) _).trans hX.s9⟩
                  have hR2 := blk_setRow hX.r6 (CA c)
                  have hB2 := Below.setRow hX.bel (show w.heap.size ≤ w.heap.size + 1 + 1 by omega) (CA c)
                  refine hK.out _ _ hS2 (fun _ => ?_)
                  clear hK K hS
                  generalize w20.setRow (w.heap.size + 1 + 1) (CA c) = wz at *
                  try simp only [Act.put, List.setIfInBounds_toArray, List.set_cons_zero, List.set_cons_succ]
                  refine wpAnyH_take (i := 18) (oi := ⟨some 7, _, _, _, _, _⟩) (v := ?_) rfl (by kernel_rfl) (by kernel_rfl) (by kernel_rfl) (fun _ _ _ h => h) (Or.inl ⟨by kernel_rfl, ?_⟩) hS2 ?_
                  rotate_left 1
                  · intro W1 hW1
                    have x1 : W1.cell? ⟨P9, 10, none⟩ = some (.int .u32 (endP t)) := blk_cell hW1.s9 rfl
                    have x2 : W1.cell? ⟨P8, 6, none⟩ = some (.int .u32 c.b.e) := blk_cell hW1.n8 rfl
                    have x3 : W1.cell? ⟨w.heap.size, 0, none⟩ = some (.int .i64 c.st) := blk_cell hW1.c3 rfl
                    go_simp
                    with_reducible rfl
                  try simp only [Act.put, List.setIfInBounds_toArray, List.set_cons_zero, List.set_cons_succ]
                  refine wpAnyH_done (by kernel_rfl) ?_ _
                  try simp only [Act.put, List.setIfInBounds_toArray, List.set_cons_zero, List.set_cons_succ]
                  go_wp2_with fail
                  refine bodyPost_ret_by (res_row Try.results10 _ _ (w.heap.size + 1 + 1) 29 (CA c) _ rfl hR2 Try.underlying29 (ca_inf c)) rfl ?_
                  exact ⟨by rw [FIN.out] <;> rfl, hB2⟩
                · by_cases hle : c.st ≤ 2
                  · have hle2 : decide (c.st ≤ 2) = true := by simpa using hle
                    have FIN : Hid (R = (c, true)) := Lib.hid (by rw [HR.out, nextP_b, st_again H0.out HB2.out HXS.out] <;> simp [hba, hen, hle])
                    clear hba
                    refine wp_region_held_drew (S := fun W1 : World => NS w W1 c t P8 P9) (by kernel_rfl) (HX2.out.below (bel_dr (Below.refl _ _))).ns (fun hH => ?_)
                    have hX0 := HX2.out.below (bel_dr (Below.refl _ _))
                    have hH0 := hX0.ns
                    generalize w2.drew = wd at hX0 hH0 hH ⊢
                    refine wpAnyH_take (i := 0) (oi := ⟨some 58, _, _, _, _, _⟩) (v := .agg (CA c)) rfl (by kernel_rfl) (by kernel_rfl) (by kernel_rfl) (fun _ _ _ h => h) (yields_rowK (by rfl) 29 _ rfl w.heap.size rfl (CA c) 29 _ (fun W hW => hW.c3) Try.underlying29 rfl (ca_inf c)) hH0 ?_
                    try simp only [Act.put, List.setIfInBounds_toArray, List.set_cons_zero, List.set_cons_succ]
                    refine wpAnyH_take (i := 1) (oi := ⟨some 59, _, _, _, _, _⟩) (v := .agg (SG t (endP t))) rfl (by kernel_rfl) (by kernel_rfl) (by kernel_rfl) (fun _ _ _ h => h) (yields_rowK (by rfl) 51 _ rfl P9 rfl (SG t (endP t)) 51 _ (fun W hW => hW.s9) Try.underlying51 rfl (sg_inf t _)) hH0 ?_
                    try simp only [Act.put, List.setIfInBounds_toArray, List.set_cons_zero, List.set_cons_succ]
                    refine wpAnyH_ready (rs := [2]) (by kernel_rfl) (by simp) ?_
                    refine AllReadyH.cons (o := ⟨some 60, _, _, _, _, _⟩) rfl (fun K hK => ?_) AllReadyH.nil
                    go_simp
                    go_at_call 20
                    with_reducible refine (cB _).mono ?_
                    rintro e w20 ⟨rfl, b20⟩
                    have hX := hX0.below b20
                    have hS := hX.ns
                    refine hK.out _ _ hS (fun _ => ?_)
                    clear hK K
                    try simp only [Act.put, List.setIfInBounds_toArray, List.set_cons_zero, List.set_cons_succ]
                    refine wpAnyH_take (i := 3) (oi := ⟨some 61, _, _, _, _, _⟩) (v := ?_) rfl (by kernel_rfl) (by kernel_rfl) (by kernel_rfl) (fun _ _ _ h => h) (Or.inl ⟨by kernel_rfl, ?_⟩) hS ?_
                    rotate_left 1
                    · intro W1 hW1
                      have x1 : W1.cell? ⟨P9, 10, none⟩ = some (.int .u32 (endP t)) := blk_cell hW1.s9 rfl
                      have x2 : W1.cell? ⟨P8, 6, none⟩ = some (.int .u32 c.b.e) := blk_cell hW1.n8 rfl
                      have x3 : W1.cell? ⟨w.heap.size, 0, none⟩ = some (.int .i64 c.st) := blk_cell hW1.c3 rfl
                      go_simp
                      with_reducible rfl
                    try simp only [Act.put, List.setIfInBounds_toArray, List.set_cons_zero, List.set_cons_succ]
                    refine wpAnyH_take (i := 4) (oi := ⟨some 62, _, _, _, _, _⟩) (v := ?_) rfl (by kernel_rfl) (by kernel_rfl) (by kernel_rfl) (fun _ _ _ h => h) (Or.inl ⟨by kernel_rfl, ?_⟩) hS ?_
                    rotate_left 1
                    · intro W1 hW1
                      have x1 : W1.cell? ⟨P9, 10, none⟩ = some (.int .u32 (endP t)) := blk_cell hW1.s9 rfl
                      have x2 : W1.cell? ⟨P8, 6, none⟩ = some (.int .u32 c.b.e) := blk_cell hW1.n8 rfl
                      have x3 : W1.cell? ⟨w.heap.size, 0, none⟩ = some (.int .i64 c.st) := blk_cell hW1.c3 rfl
                      go_simp
                      with_reducible rfl
                    try simp only [Act.put, List.setIfInBounds_toArray, List.set_cons_zero, List.set_cons_succ]
                    refine wpAnyH_take (i := 5) (oi := ⟨some 63, _, _, _, _, _⟩) (v := ?_) rfl (by kernel_rfl) (by kernel_rfl) (by kernel_rfl) (fun _ _ _ h => h) (Or.inl ⟨by kernel_rfl, ?_⟩) hS ?_
                    rotate_left 1
                    · intro W1 hW1
                      have x1 : W1.cell? ⟨P9, 10, none⟩ = some (.int .u32 (endP t)) := blk_cell hW1.s9 rfl
                      have x2 : W1.cell? ⟨P8, 6, none⟩ = some (.int .u32 c.b.e) := blk_cell hW1.n8 rfl
                      have x3 : W1.cell? ⟨w.heap.size, 0, none⟩ = some (.int .i64 c.st) := blk_cell hW1.c3 rfl
                      go_simp
                      with_reducible rfl
                    try simp only [Act.put, List.setIfInBounds_toArray, List.set_cons_zero, List.set_cons_succ]
                    refine wpAnyH_take (i := 6) (oi := ⟨some 64, _, _, _, _, _⟩) (v := ?_) rfl (by kernel_rfl) (by kernel_rfl) (by kernel_rfl) (fun _ _ _ h => h) (Or.inl ⟨by kernel_rfl, ?_⟩) hS ?_
                    rotate_left 1
                    · intro W1 hW1
                      have x1 : W1.cell? ⟨P9, 10, none⟩ = some (.int .u32 (endP t)) := blk_cell hW1.s9 rfl
                      have x2 : W1.cell? ⟨P8, 6, none⟩ = some (.int .u32 c.b.e) := blk_cell hW1.n8 rfl
                      have x3 : W1.cell? ⟨w.heap.size, 0, none⟩ = some (.int .i64 c.st) := blk_cell hW1.c3 rfl
                      go_simp
                      with_reducible rfl
                    try simp only [Act.put, List.setIfInBounds_toArray, List.set_cons_zero, List.set_cons_succ]
                    refine wpAnyH_take (i := 7) (oi := ⟨some 65, _, _, _, _, _⟩) (v := ?_) rfl (by kernel_rfl) (by kernel_rfl) (by kernel_rfl) (fun _ _ _ h => h) (Or.inl ⟨by kernel_rfl, ?_⟩) hS ?_
                    rotate_left 1
                    · intro W1 hW1
                      have x1 : W1.cell? ⟨P9, 10, none⟩ = some (.int .u32 (endP t)) := blk_cell hW1.s9 rfl
                      have x2 : W1.cell? ⟨P8, 6, none⟩ = some (.int .u32 c.b.e) := blk_cell hW1.n8 rfl
                      have x3 : W1.cell? ⟨w.heap.size, 0, none⟩ = some (.int .i64 c.st) := blk_cell hW1.c3 rfl
                      go_simp
                      with_reducible rfl
                    try simp only [Act.put, List.setIfInBounds_toArray, List.set_cons_zero, List.set_cons_succ]
                    refine wpAnyH_take (i := 8) (oi := ⟨some 66, _, _, _, _, _⟩) (v := ?_) rfl (by kernel_rfl) (by kernel_rfl) (by kernel_rfl) (fun _ _ _ h => h) (Or.inl ⟨by kernel_rfl, ?_⟩) hS ?_
                    rotate_left 1
                    · intro W1 hW1
                      have x1 : W1.cell? ⟨P9, 10, none⟩ = some (.int .u32 (endP t)) := blk_cell hW1.s9 rfl
                      have x2 : W1.cell? ⟨P8, 6, none⟩ = some (.int .u32 c.b.e) := blk_cell hW1.n8 rfl
                      have x3 : W1.cell? ⟨w.heap.size, 0, none⟩ = some (.int .i64 c.st) := blk_cell hW1.c3 rfl
                      go_simp
                      with_reducible rfl
                    try simp only [Act.put, List.setIfInBounds_toArray, List.set_cons_zero, List.set_cons_succ]
                    refine wpAnyH_take (i := 9) (oi := ⟨some 67, _, _, _, _, _⟩) (v := ?_) rfl (by kernel_rfl) (by kernel_rfl) (by kernel_rfl) (fun _ _ _ h => h) (Or.inl ⟨by kernel_rfl, ?_⟩) hS ?_
                    rotate_left 1
                    · intro W1 hW1
                      have x1 : W1.cell? ⟨P9, 10, none⟩ = some (.int .u32 (endP t)) := blk_cell hW1.s9 rfl
                      have x2 : W1.cell? ⟨P8, 6, none⟩ = some (.int .u32 c.b.e) := blk_cell hW1.n8 rfl
                      have x3 : W1.cell? ⟨w.heap.size, 0, none⟩ = some (.int .i64 c.st) := blk_cell hW1.c3 rfl
                      go_simp
                      with_reducible rfl
                    try simp only [Act.put, List.setIfInBounds_toArray, List.set_cons_zero, List.set_cons_succ]
                    refine wpAnyH_take (i := 10) (oi := ⟨some 68, _, _, _, _, _⟩) (v := ?_) rfl (by kernel_rfl) (by kernel_rfl) (by kernel_rfl) (fun _ _ _ h => h) (Or.inl ⟨by kernel_rfl, ?_⟩) hS ?_
                    rotate_left 1
                    · intro W1 hW1
                      have x1 : W1.cell? ⟨P9, 10, none⟩ = some (.int .u32 (endP t)) := blk_cell hW1.s9 rfl
                      have x2 : W1.cell? ⟨P8, 6, none⟩ = some (.int .u32 c.b.e) := blk_cell hW1.n8 rfl
                      have x3 : W1.cell? ⟨w.heap.size, 0, none⟩ = some (.int .i64 c.st) := blk_cell hW1.c3 rfl
                      go_simp
                      with_reducible rfl
                    try simp only [Act.put, List.setIfInBounds_toArray, List.set_cons_zero, List.set_cons_succ]
                    refine wpAnyH_take (i := 11) (oi := ⟨some 69, _, _, _, _, _⟩) (v := ?_) rfl (by kernel_rfl) (by kernel_rfl) (by kernel_rfl) (fun _ _ _ h => h) (Or.inl ⟨by kernel_rfl, ?_⟩) hS ?_
                    rotate_left 1
                    · intro W1 hW1
                      have x1 : W1.cell? ⟨P9, 10, none⟩ = some (.int .u32 (endP t)) := blk_cell hW1.s9 rfl
                      have x2 : W1.cell? ⟨P8, 6, none⟩ = some (.int .u32 c.b.e) := blk_cell hW1.n8 rfl
                      have x3 : W1.cell? ⟨w.heap.size, 0, none⟩ = some (.int .i64 c.st) := blk_cell hW1.c3 rfl
                      go_simp
                      with_reducible rfl
                    try simp only [Act.put, List.setIfInBounds_toArray, List.set_cons_zero, List.set_cons_succ]
                    refine wpAnyH_take (i := 12) (oi := ⟨some 70, _, _, _, _, _⟩) (v := ?_) rfl (by kernel_rfl) (by kernel_rfl) (by kernel_rfl) (fun _ _ _ h => h) (Or.inl ⟨by kernel_rfl, ?_⟩) hS ?_
                    rotate_left 1
                    · intro W1 hW1
                      have x1 : W1.cell? ⟨P9, 10, none⟩ = some (.int .u32 (endP t)) := blk_cell hW1.s9 rfl
                      have x2 : W1.cell? ⟨P8, 6, none⟩ = some (.int .u32 c.b.e) := blk_cell hW1.n8 rfl
                      have x3 : W1.cell? ⟨w.heap.size, 0, none⟩ = some (.int .i64 c.st) := blk_cell hW1.c3 rfl
                      go_simp
                      with_reducible rfl
                    try simp only [Act.put, List.setIfInBounds_toArray, List.set_cons_zero, List.set_cons_succ]
                    refine wpAnyH_take (i := 13) (oi := ⟨some 71, _, _, _, _, _⟩) (v := ?_) rfl (by kernel_rfl) (by kernel_rfl) (by kernel_rfl) (fun _ _ _ h => h) (Or.inl ⟨by kernel_rfl, ?_⟩) hS ?_
                    rotate_left 1
                    · intro W1 hW1
                      have x1 : W1.cell? ⟨P9, 10, none⟩ = some (.int .u32 (endP t)) := blk_cell hW1.s9 rfl
                      have x2 : W1.cell? ⟨P8, 6, none⟩ = some (.int .u32 c.b.e) := blk_cell hW1.n8 rfl
                      have x3 : W1.cell? ⟨w.heap.size, 0, none⟩ = some (.int .i64 c.st) := blk_cell hW1.c3 rfl
                      go_simp
                      with_reducible rfl
                    try simp only [Act.put, List.setIfInBounds_toArray, List.set_cons_zero, List.set_cons_succ]
                    refine wpAnyH_take (i := 14) (oi := ⟨some 72, _, _, _, _, _⟩) (v := ?_) rfl (by kernel_rfl) (by kernel_rfl) (by kernel_rfl) (fun _ _ _ h => h) (Or.inl ⟨by kernel_rfl, ?_⟩) hS ?_
                    rotate_left 1
                    · intro W1 hW1
                      have x1 : W1.cell? ⟨P9, 10, none⟩ = some (.int .u32 (endP t)) := blk_cell hW1.s9 rfl
                      have x2 : W1.cell? ⟨P8, 6, none⟩ = some (.int .u32 c.b.e) := blk_cell hW1.n8 rfl
                      have x3 : W1.cell? ⟨w.heap.size, 0, none⟩ = some (.int .i64 c.st) := blk_cell hW1.c3 rfl
                      go_simp
                      with_reducible rfl
                    try simp only [Act.put, List.setIfInBounds_toArray, List.set_cons_zero, List.set_cons_succ]
                    refine wpAnyH_take (i := 15) (oi := ⟨some 73, _, _, _, _, _⟩) (v := ?_) rfl (by kernel_rfl) (by kernel_rfl) (by kernel_rfl) (fun _ _ _ h => h) (Or.inl ⟨by kernel_rfl, ?_⟩) hS ?_
                    rotate_left 1
                    · intro W1 hW1
                      have x1 : W1.cell? ⟨P9, 10, none⟩ = some (.int .u32 (endP t)) := blk_cell hW1.s9 rfl
                      have x2 : W1.cell? ⟨P8, 6, none⟩ = some (.int .u32 c.b.e) := blk_cell hW1.n8 rfl
                      have x3 : W1.cell? ⟨w.heap.size, 0, none⟩ = some (.int .i64 c.st) := blk_cell hW1.c3 rfl
                      go_simp
                      with_reducible rfl
                    try simp only [Act.put, List.setIfInBounds_toArray, List.set_cons_zero, List.set_cons_succ]
                    refine wpAnyH_take (i := 16) (oi := ⟨some 74, _, _, _, _, _⟩) (v := ?_) rfl (by kernel_rfl) (by kernel_rfl) (by kernel_rfl) (fun _ _ _ h => h) (Or.inl ⟨by kernel_rfl, ?_⟩) hS ?_
                    rotate_left 1
                    · intro W1 hW1
                      have x1 : W1.cell? ⟨P9, 10, none⟩ = some (.int .u32 (endP t)) := blk_cell hW1.s9 rfl
                      have x2 : W1.cell? ⟨P8, 6, none⟩ = some (.int .u32 c.b.e) := blk_cell hW1.n8 rfl
                      have x3 : W1.cell? ⟨w.heap.size, 0, none⟩ = some (.int .i64 c.st) := blk_cell hW1.c3 rfl
                      go_simp
                      with_reducible rfl
                    try simp only [Act.put, List.setIfInBounds_toArray, List.set_cons_zero, List.set_cons_succ]
                    refine wpAnyH_ready (rs := [17]) (by kernel_rfl) (by simp) ?_
                    refine AllReadyH.cons (o := ⟨none, _, _, _, _, _⟩) rfl (fun K hK => ?_) AllReadyH.nil
                    refine step_store_row rfl 29 (.tmp 6) (.tmp 58) rfl (w.heap.size + 1 + 1) (CA c) rfl rfl 29 (CA zcn) hX.r6 (ca_inf c) rfl (ca_one c) ?_
                    have hS2 : NS w (w20.setRow (w.heap.size + 1 + 1) (CA c)) c t P8 P9 := ⟨(setRow_other (by omega) _).trans hX.c3, (setRow_other (by omega) _).trans hX.n8, (setRow_other (by omega) _).trans hX.s9⟩
                    have hR2 := blk_setRow hX.r6 (CA c)
                    have hB2 := Below.setRow hX.bel (show w.heap.size ≤ w.heap.size + 1 + 1 by omega) (CA c)
                    refine hK.out _ _ hS2 (fun _ => ?_)
                    clear hK K hS
                    generalize w20.setRow (w.heap.size + 1 + 1) (CA c) = wz at *
                    try simp only [Act.put, List.setIfInBounds_toArray, List.set_cons_zero, List.set_cons_succ]
                    refine wpAnyH_take (i := 18) (oi := ⟨some 7, _, _, _, _, _⟩) (v := ?_) rfl (by kernel_rfl) (by kernel_rfl) (by kernel_rfl) (fun _ _ _ h => h) (Or.inl ⟨by kernel_rfl, ?_⟩) hS2 ?_
                    rotate_left 1
                    · intro W1 hW1
                      have x1 : W1.cell? ⟨P9, 10, none⟩ = some (.int .u32 (endP t)) := blk_cell hW1.s9 rfl
                      have x2 : W1.cell? ⟨P8, 6, none⟩ = some (.int .u32 c.b.e) := blk_cell hW1.n8 rfl
                      have x3 : W1.cell? ⟨w.heap.size, 0, none⟩ = some (.int .i64 c.st) := blk_cell hW1.c3 rfl
                      go_simp
                      with_reducible rfl
                    try simp only [Act.put, List.setIfInBounds_toArray, List.set_cons_zero, List.set_cons_succ]
                    refine wpAnyH_done (by kernel_rfl) ?_ _
                    try simp only [Act.put, List.setIfInBounds_toArray, List.set_cons_zero, List.set_cons_succ]
                    go_wp2_with fail
                    refine bodyPost_ret_by (res_row Try.results10 _ _ (w.heap.size + 1 + 1) 29 (CA c) _ rfl hR2 Try.underlying29 (ca_inf c)) rfl ?_
                    exact ⟨by rw [FIN.out] <;> rfl, hB2⟩
                  · have hle2 : decide (c.st ≤ 2) = false := by simpa using hle
                    have FIN : Hid (R = (c, false)) := Lib.hid (by rw [HR.out, nextP_b, st_again H0.out HB2.out HXS.out] <;> simp [hba, hen, hle])
                    clear hba
                    refine wp_region_held_drew (S := fun W1 : World => NS w W1 c t P8 P9) (by kernel_rfl) (HX2.out.below (bel_dr (Below.refl _ _))).ns (fun hH => ?_)
                    have hX0 := HX2.out.below (bel_dr (Below.refl _ _))
                    have hH0 := hX0.ns
                    generalize w2.drew = wd at hX0 hH0 hH ⊢
                    refine wpAnyH_take (i := 0) (oi := ⟨some 58, _, _, _, _, _⟩) (v := .agg (CA c)) rfl (by kernel_rfl) (by kernel_rfl) (by kernel_rfl) (fun _ _ _ h => h) (yields_rowK (by rfl) 29 _ rfl w.heap.size rfl (CA c) 29 _ (fun W hW => hW.c3) Try.underlying29 rfl (ca_inf c)) hH0 ?_
                    try simp only [Act.put, List.setIfInBounds_toArray, List.set_cons_zero, List.set_cons_succ]
                    refine wpAnyH_take (i := 1) (oi := ⟨some 59, _, _, _, _, _⟩) (v := .agg (SG t (endP t))) rfl (by kernel_rfl) (by kernel_rfl) (by kernel_rfl) (fun _ _ _ h => h) (yields_rowK (by rfl) 51 _ rfl P9 rfl (SG t (endP t)) 51 _ (fun W hW => hW.s9) Try.underlying51 rfl (sg_inf t _)) hH0 ?_
                    try simp only [Act.put, List.setIfInBounds_toArray, List.set_cons_zero, List.set_cons_succ]
                    refine wpAnyH_ready (rs := [2]) (by kernel_rfl) (by simp) ?_
                    refine AllReadyH.cons (o := ⟨some 60, _, _, _, _, _⟩) rfl (fun K hK => ?_) AllReadyH.nil
                    go_simp
                    go_at_call 20
                    with_reducible refine (cB _).mono ?_
                    rintro e w20 ⟨rfl, b20⟩
                    have hX := hX0.below b20
                    have hS := hX.ns
                    refine hK.out _ _ hS (fun _ => ?_)
                    clear hK K
                    try simp only [Act.put, List.setIfInBounds_toArray, List.set_cons_zero, List.set_cons_succ]
                    refine wpAnyH_take (i := 3) (oi := ⟨some 61, _, _, _, _, _⟩) (v := ?_) rfl (by kernel_rfl) (by kernel_rfl) (by kernel_rfl) (fun _ _ _ h => h) (Or.inl ⟨by kernel_rfl, ?_⟩) hS ?_
                    rotate_left 1
                    · intro W1 hW1
                      have x1 : W1.cell? ⟨P9, 10, none⟩ = some (.int .u32 (endP t)) := blk_cell hW1.s9 rfl
                      have x2 : W1.cell? ⟨P8, 6, none⟩ = some (.int .u32 c.b.e) := blk_cell hW1.n8 rfl
                      have x3 : W1.cell? ⟨w.heap.size, 0, none⟩ = some (.int .i64 c.st) := blk_cell hW1.c3 rfl
                      go_simp
                      with_reducible rfl
                    try simp only [Act.put, List.setIfInBounds_toArray, List.set_cons_zero, List.set_cons_succ]
                    refine wpAnyH_take (i := 4) (oi := ⟨some 62, _, _, _, _, _⟩) (v := ?_) rfl (by kernel_rfl) (by kernel_rfl) (by kernel_rfl) (fun _ _ _ h => h) (Or.inl ⟨by kernel_rfl, ?_⟩) hS ?_
                    rotate_left 1
                    · intro W1 hW1
                      have x1 : W1.cell? ⟨P9, 10, none⟩ = some (.int .u32 (endP t)) := blk_cell hW1.s9 rfl
                      have x2 : W1.cell? ⟨P8, 6, none⟩ = some (.int .u32 c.b.e) := blk_cell hW1.n8 rfl
                      have x3 : W1.cell? ⟨w.heap.size, 0, none⟩ = some (.int .i64 c.st) := blk_cell hW1.c3 rfl
                      go_simp
                      with_reducible rfl
                    try simp only [Act.put, List.setIfInBounds_toArray, List.set_cons_zero, List.set_cons_succ]
                    refine wpAnyH_take (i := 5) (oi := ⟨some 63, _, _, _, _, _⟩) (v := ?_) rfl (by kernel_rfl) (by kernel_rfl) (by kernel_rfl) (fun _ _ _ h => h) (Or.inl ⟨by kernel_rfl, ?_⟩) hS ?_
                    rotate_left 1
                    · intro W1 hW1
                      have x1 : W1.cell? ⟨P9, 10, none⟩ = some (.int .u32 (endP t)) := blk_cell hW1.s9 rfl
                      have x2 : W1.cell? ⟨P8, 6, none⟩ = some (.int .u32 c.b.e) := blk_cell hW1.n8 rfl
                      have x3 : W1.cell? ⟨w.heap.size, 0, none⟩ = some (.int .i64 c.st) := blk_cell hW1.c3 rfl
                      go_simp
                      with_reducible rfl
                    try simp only [Act.put, List.setIfInBounds_toArray, List.set_cons_zero, List.set_cons_succ]
                    refine wpAnyH_take (i := 6) (oi := ⟨some 64, _, _, _, _, _⟩) (v := ?_) rfl (by kernel_rfl) (by kernel_rfl) (by kernel_rfl) (fun _ _ _ h => h) (Or.inl ⟨by kernel_rfl, ?_⟩) hS ?_
                    rotate_left 1
                    · intro W1 hW1
                      have x1 : W1.cell? ⟨P9, 10, none⟩ = some (.int .u32 (endP t)) := blk_cell hW1.s9 rfl
                      have x2 : W1.cell? ⟨P8, 6, none⟩ = some (.int .u32 c.b.e) := blk_cell hW1.n8 rfl
                      have x3 : W1.cell? ⟨w.heap.size, 0, none⟩ = some (.int .i64 c.st) := blk_cell hW1.c3 rfl
                      go_simp
                      with_reducible rfl
                    try simp only [Act.put, List.setIfInBounds_toArray, List.set_cons_zero, List.set_cons_succ]
                    refine wpAnyH_take (i := 7) (oi := ⟨some 65, _, _, _, _, _⟩) (v := ?_) rfl (by kernel_rfl) (by kernel_rfl) (by kernel_rfl) (fun _ _ _ h => h) (Or.inl ⟨by kernel_rfl, ?_⟩) hS ?_
                    rotate_left 1
                    · intro W1 hW1
                      have x1 : W1.cell? ⟨P9, 10, none⟩ = some (.int .u32 (endP t)) := blk_cell hW1.s9 rfl
                      have x2 : W1.cell? ⟨P8, 6, none⟩ = some (.int .u32 c.b.e) := blk_cell hW1.n8 rfl
                      have x3 : W1.cell? ⟨w.heap.size, 0, none⟩ = some (.int .i64 c.st) := blk_cell hW1.c3 rfl
                      go_simp
                      with_reducible rfl
                    try simp only [Act.put, List.setIfInBounds_toArray, List.set_cons_zero, List.set_cons_succ]
                    refine wpAnyH_take (i := 8) (oi := ⟨some 66, _, _, _, _, _⟩) (v := ?_) rfl (by kernel_rfl) (by kernel_rfl) (by kernel_rfl) (fun _ _ _ h => h) (Or.inl ⟨by kernel_rfl, ?_⟩) hS ?_
                    rotate_left 1
                    · intro W1 hW1
                      have x1 : W1.cell? ⟨P9, 10, none⟩ = some (.int .u32 (endP t)) := blk_cell hW1.s9 rfl
                      have x2 : W1.cell? ⟨P8, 6, none⟩ = some (.int .u32 c.b.e) := blk_cell hW1.n8 rfl
                      have x3 : W1.cell? ⟨w.heap.size, 0, none⟩ = some (.int .i64 c.st) := blk_cell hW1.c3 rfl
                      go_simp
                      with_reducible rfl
                    try simp only [Act.put, List.setIfInBounds_toArray, List.set_cons_zero, List.set_cons_succ]
                    refine wpAnyH_take (i := 9) (oi := ⟨some 67, _, _, _, _, _⟩) (v := ?_) rfl (by kernel_rfl) (by kernel_rfl) (by kernel_rfl) (fun _ _ _ h => h) (Or.inl ⟨by kernel_rfl, ?_⟩) hS ?_
                    rotate_left 1
                    · intro W1 hW1
                      have x1 : W1.cell? ⟨P9, 10, none⟩ = some (.int .u32 (endP t)) := blk_cell hW1.s9 rfl
                      have x2 : W1.cell? ⟨P8, 6, none⟩ = some (.int .u32 c.b.e) := blk_cell hW1.n8 rfl
                      have x3 : W1.cell? ⟨w.heap.size, 0, none⟩ = some (.int .i64 c.st) := blk_cell hW1.c3 rfl
                      go_simp
                      with_reducible rfl
                    try simp only [Act.put, List.setIfInBounds_toArray, List.set_cons_zero, List.set_cons_succ]
                    refine wpAnyH_take (i := 10) (oi := ⟨some 68, _, _, _, _, _⟩) (v := ?_) rfl (by kernel_rfl) (by kernel_rfl) (by kernel_rfl) (fun _ _ _ h => h) (Or.inl ⟨by kernel_rfl, ?_⟩) hS ?_
                    rotate_left 1
                    · intro W1 hW1
                      have x1 : W1.cell? ⟨P9, 10, none⟩ = some (.int .u32 (endP t)) := blk_cell hW1.s9 rfl
                      have x2 : W1.cell? ⟨P8, 6, none⟩ = some (.int .u32 c.b.e) := blk_cell hW1.n8 rfl
                      have x3 : W1.cell? ⟨w.heap.size, 0, none⟩ = some (.int .i64 c.st) := blk_cell hW1.c3 rfl
                      go_simp
                      with_reducible rfl
                    try simp only [Act.put, List.setIfInBounds_toArray, List.set_cons_zero, List.set_cons_succ]
                    refine wpAnyH_take (i := 11) (oi := ⟨some 69, _, _, _, _, _⟩) (v := ?_) rfl (by kernel_rfl) (by kernel_rfl) (by kernel_rfl) (fun _ _ _ h => h) (Or.inl ⟨by kernel_rfl, ?_⟩) hS ?_
                    rotate_left 1
                    · intro W1 hW1
                      have x1 : W1.cell? ⟨P9, 10, none⟩ = some (.int .u32 (endP t)) := blk_cell hW1.s9 rfl
                      have x2 : W1.cell? ⟨P8, 6, none⟩ = some (.int .u32 c.b.e) := blk_cell hW1.n8 rfl
                      have x3 : W1.cell? ⟨w.heap.size, 0, none⟩ = some (.int .i64 c.st) := blk_cell hW1.c3 rfl
                      go_simp
                      with_reducible rfl
                    try simp only [Act.put, List.setIfInBounds_toArray, List.set_cons_zero, List.set_cons_succ]
                    refine wpAnyH_take (i := 12) (oi := ⟨some 70, _, _, _, _, _⟩) (v := ?_) rfl (by kernel_rfl) (by kernel_rfl) (by kernel_rfl) (fun _ _ _ h => h) (Or.inl ⟨by kernel_rfl, ?_⟩) hS ?_
                    rotate_left 1
                    · intro W1 hW1
                      have x1 : W1.cell? ⟨P9, 10, none⟩ = some (.int .u32 (endP t)) := blk_cell hW1.s9 rfl
                      have x2 : W1.cell? ⟨P8, 6, none⟩ = some (.int .u32 c.b.e) := blk_cell hW1.n8 rfl
                      have x3 : W1.cell? ⟨w.heap.size, 0, none⟩ = some (.int .i64 c.st) := blk_cell hW1.c3 rfl
                      go_simp
                      with_reducible rfl
                    try simp only [Act.put, List.setIfInBounds_toArray, List.set_cons_zero, List.set_cons_succ]
                    refine wpAnyH_take (i := 13) (oi := ⟨some 71, _, _, _, _, _⟩) (v := ?_) rfl (by kernel_rfl) (by kernel_rfl) (by kernel_rfl) (fun _ _ _ h => h) (Or.inl ⟨by kernel_rfl, ?_⟩) hS ?_
                    rotate_left 1
                    · intro W1 hW1
                      have x1 : W1.cell? ⟨P9, 10, none⟩ = some (.int .u32 (endP t)) := blk_cell hW1.s9 rfl
                      have x2 : W1.cell? ⟨P8, 6, none⟩ = some (.int .u32 c.b.e) := blk_cell hW1.n8 rfl
                      have x3 : W1.cell? ⟨w.heap.size, 0, none⟩ = some (.int .i64 c.st) := blk_cell hW1.c3 rfl
                      go_simp
                      with_reducible rfl
                    try simp only [Act.put, List.setIfInBounds_toArray, List.set_cons_zero, List.set_cons_succ]
                    refine wpAnyH_take (i := 14) (oi := ⟨some 72, _, _, _, _, _⟩) (v := ?_) rfl (by kernel_rfl) (by kernel_rfl) (by kernel_rfl) (fun _ _ _ h => h) (Or.inl ⟨by kernel_rfl, ?_⟩) hS ?_
                    rotate_left 1
                    · intro W1 hW1
                      have x1 : W1.cell? ⟨P9, 10, none⟩ = some (.int .u32 (endP t)) := blk_cell hW1.s9 rfl
                      have x2 : W1.cell? ⟨P8, 6, none⟩ = some (.int .u32 c.b.e) := blk_cell hW1.n8 rfl
                      have x3 : W1.cell? ⟨w.heap.size, 0, none⟩ = some (.int .i64 c.st) := blk_cell hW1.c3 rfl
                      go_simp
                      with_reducible rfl
                    try simp only [Act.put, List.setIfInBounds_toArray, List.set_cons_zero, List.set_cons_succ]
                    refine wpAnyH_take (i := 15) (oi := ⟨some 73, _, _, _, _, _⟩) (v := ?_) rfl (by kernel_rfl) (by kernel_rfl) (by kernel_rfl) (fun _ _ _ h => h) (Or.inl ⟨by kernel_rfl, ?_⟩) hS ?_
                    rotate_left 1
                    · intro W1 hW1
                      have x1 : W1.cell? ⟨P9, 10, none⟩ = some (.int .u32 (endP t)) := blk_cell hW1.s9 rfl
                      have x2 : W1.cell? ⟨P8, 6, none⟩ = some (.int .u32 c.b.e) := blk_cell hW1.n8 rfl
                      have x3 : W1.cell? ⟨w.heap.size, 0, none⟩ = some (.int .i64 c.st) := blk_cell hW1.c3 rfl
                      go_simp
                      with_reducible rfl
                    try simp only [Act.put, List.setIfInBounds_toArray, List.set_cons_zero, List.set_cons_succ]
                    refine wpAnyH_take (i := 16) (oi := ⟨some 74, _, _, _, _, _⟩) (v := ?_) rfl (by kernel_rfl) (by kernel_rfl) (by kernel_rfl) (fun _ _ _ h => h) (Or.inl ⟨by kernel_rfl, ?_⟩) hS ?_
                    rotate_left 1
                    · intro W1 hW1
                      have x1 : W1.cell? ⟨P9, 10, none⟩ = some (.int .u32 (endP t)) := blk_cell hW1.s9 rfl
                      have x2 : W1.cell? ⟨P8, 6, none⟩ = some (.int .u32 c.b.e) := blk_cell hW1.n8 rfl
                      have x3 : W1.cell? ⟨w.heap.size, 0, none⟩ = some (.int .i64 c.st) := blk_cell hW1.c3 rfl
                      go_simp
                      with_reducible rfl
                    try simp only [Act.put, List.setIfInBounds_toArray, List.set_cons_zero, List.set_cons_succ]
                    refine wpAnyH_ready (rs := [17]) (by kernel_rfl) (by simp) ?_
                    refine AllReadyH.cons (o := ⟨none, _, _, _, _, _⟩) rfl (fun K hK => ?_) AllReadyH.nil
                    refine step_store_row rfl 29 (.tmp 6) (.tmp 58) rfl (w.heap.size + 1 + 1) (CA c) rfl rfl 29 (CA zcn) hX.r6 (ca_inf c) rfl (ca_one c) ?_
                    have hS2 : NS w (w20.setRow (w.heap.size + 1 + 1) (CA c)) c t P8 P9 := ⟨(setRow_other (by omega) _).trans hX.c3, (setRow_other (by omega) _).trans hX.n8, (setRow_other (by omega) _).trans hX.s9⟩
                    have hR2 := blk_setRow hX.r6 (CA c)
                    have hB2 := Below.setRow hX.bel (show w.heap.size ≤ w.heap.size + 1 + 1 by omega) (CA c)
                    refine hK.out _ _ hS2 (fun _ => ?_)
                    clear hK K hS
                    generalize w20.setRow (w.heap.size + 1 + 1) (CA c) = wz at *
                    try simp only [Act.put, List.setIfInBounds_toArray, List.set_cons_zero, List.set_cons_succ]
                    refine wpAnyH_take (i := 18) (oi := ⟨some 7, _, _, _, _, _⟩) (v := ?_) rfl (by kernel_rfl) (by kernel_rfl) (by kernel_rfl) (fun _ _ _ h => h) (Or.inl ⟨by kernel_rfl, ?_⟩) hS2 ?_
                    rotate_left 1
                    · intro W1 hW1
                      have x1 : W1.cell? ⟨P9, 10, none⟩ = some (.int .u32 (endP t)) := blk_cell hW1.s9 rfl
                      have x2 : W1.cell? ⟨P8, 6, none⟩ = some (.int .u32 c.b.e) := blk_cell hW1.n8 rfl
                      have x3 : W1.cell? ⟨w.heap.size, 0, none⟩ = some (.int .i64 c.st) := blk_cell hW1.c3 rfl
                      go_simp
                      with_reducible rfl
                    try simp only [Act.put, List.setIfInBounds_toArray, List.set_cons_zero, List.set_cons_succ]
                    refine wpAnyH_done (by kernel_rfl) ?_ _
                    try simp only [Act.put, List.setIfInBounds_toArray, List.set_cons_zero, List.set_cons_succ]
                    go_wp2_with fail
                    refine bodyPost_ret_by (res_row Try.results10 _ _ (w.heap.size + 1 + 1) 29 (CA c) _ rfl hR2 Try.underlying29 (ca_inf c)) rfl ?_
                    exact ⟨by rw [FIN.out] <;> rfl, hB2⟩

        · rw [hst] at cS
          have FIN : Hid (R = (c, false)) := Lib.hid (by rw [HR.out, nextP_b, st_out (by rw [hs1, hs5, hst]; rfl)] <;> rfl)
          clear hst
          simp only [SA] at cS
          have c_st : wc.cell? ⟨w.heap.size, 0, none⟩ = some (.int .i64 c.st) := blk_cell HX.out.c3 rfl
          have k_st := cell_regrown c_st
          clear c_st
          have c_y0 : wc.cell? ⟨P8, 1, none⟩ = some (.bool c.a.seen) := blk_cell HX.out.n8 rfl
          have k_y0 := cell_regrown c_y0
          clear c_y0
          have c_y1 : wc.cell? ⟨P8, 2, none⟩ = some (.int .u32 c.a.e) := blk_cell HX.out.n8 rfl
          have k_y1 := cell_regrown c_y1
          clear c_y1
          have c_y2 : wc.cell? ⟨P8, 3, none⟩ = some (.int .u32 c.a.m) := blk_cell HX.out.n8 rfl
          have k_y2 := cell_regrown c_y2
          clear c_y2
          have c_y3 : wc.cell? ⟨P8, 4, none⟩ = some (.bool c.a.fin) := blk_cell HX.out.n8 rfl
          have k_y3 := cell_regrown c_y3
          clear c_y3
          have q0 := fun d os => Calls.regrown_of (cS (grow (redrawn wc d) os))
          refine wp_region_quiet_below (by kernel_rfl) (by kernel_rfl) ?_
          repeat (first | go_big_quiet_skip | ((with_reducible refine stop_quiet (o := ⟨some 42, _, _, _, _, _⟩) ?_); refine quiet_load_row (by kernel_rfl) 51 (.tmp 9) rfl (P9) rfl 51 (SG t (endP t)) (0, 0) _ (rg_heap (HX.out.s9)) Try.underlying51 rfl (sg_inf t _) ?_; simp only [Act.put, List.setIfInBounds_toArray, List.set_cons_succ, List.set_cons_zero]) |  quiet_step (first | (go_at_call 18; with_reducible exact q0 _ _)))
          refine wpQuiet_nil ?_
          intro _ hw'
          obtain ⟨⟨dq, osq⟩, hw''⟩ := hw'
          subst hw''
          have bq := below_regrown wc dq osq
          have HX1 := Lib.hid (HX.out.below bq)
          generalize grow (redrawn wc dq) osq = w1 at *
          clear k_st k_y0 k_y1 k_y2 k_y3
          clear q0
          clear bq
          go_wp2_with (first | ((with_reducible refine stop_op (o := ⟨some 48, _, _, _, _, _⟩) ?_); refine Lib.hid ?_; refine wpList_load_cells rfl 29 (.tmp 3) rfl ⟨w.heap.size, 0, none⟩ rfl (CA c) _ (blk_all HX1.out.c3) Try.underlying29 rfl (ca_inf c) ?_) | ((with_reducible refine stop_op (o := ⟨none, _, _, _, _, _⟩) ?_); refine Lib.hid ?_; refine wpList_store_row rfl 29 (.tmp 6) (.tmp 48) rfl (w.heap.size + 1 + 1) (CA c) rfl rfl 29 (CA zcn) (HX1.out.r6) (ca_inf c) rfl (ca_one c) ?_))
          refine bodyPost_ret_by (res_row Try.results10 _ _ (w.heap.size + 1 + 1) 29 (CA c) _ rfl (blk_setRow HX1.out.r6 _) Try.underlying29 (ca_inf c)) rfl ?_
          exact ⟨by rw [FIN.out] <;> rfl, Below.setRow HX1.out.bel (by omega) _⟩
      · clear cS
        have FIN : Hid (R = (c, false)) := Lib.hid (by rw [HR.out, nextP_b, st_out (by rw [hs1, hs5]; rfl)] <;> rfl)
        have c_st : wc.cell? ⟨w.heap.size, 0, none⟩ = some (.int .i64 c.st) := blk_cell HX.out.c3 rfl
        have k_st := cell_regrown c_st
        clear c_st
        refine wp_region_quiet_below (by kernel_rfl) (by kernel_rfl) ?_
        repeat (first | go_big_quiet_skip |  quiet_step (first | fail))
        refine wpQuiet_nil ?_
        intro _ hw'
        obtain ⟨⟨dq, osq⟩, hw''⟩ := hw'
        subst hw''
        have bq := below_regrown wc dq osq
        have HX1 := Lib.hid (HX.out.below bq)
        generalize grow (redrawn wc dq) osq = w1 at *
        clear k_st
        clear bq
        go_wp2_with (first | ((with_reducible refine stop_op (o := ⟨some 48, _, _, _, _, _⟩) ?_); refine Lib.hid ?_; refine wpList_load_cells rfl 29 (.tmp 3) rfl ⟨w.heap.size, 0, none⟩ rfl (CA c) _ (blk_all HX1.out.c3) Try.underlying29 rfl (ca_inf c) ?_) | ((with_reducible refine stop_op (o := ⟨none, _, _, _, _, _⟩) ?_); refine Lib.hid ?_; refine wpList_store_row rfl 29 (.tmp 6) (.tmp 48) rfl (w.heap.size + 1 + 1) (CA c) rfl rfl 29 (CA zcn) (HX1.out.r6) (ca_inf c) rfl (ca_one c) ?_))
        refine bodyPost_ret_by (res_row Try.results10 _ _ (w.heap.size + 1 + 1) 29 (CA c) _ rfl (blk_setRow HX1.out.r6 _) Try.underlying29 (ca_inf c)) rfl ?_
        exact ⟨by rw [FIN.out] <;> rfl, Below.setRow HX1.out.bel (by omega) _⟩
    · clear cS
      have hq1 : c.st < 1 := of_decide_eq_true hs1
      have FIN : Hid (R = (c, false)) := Lib.hid (by rw [HR.out, nextP_b, st_out (by rw [hs1]; rfl)] <;> rfl)
      have hq2 : (decide (c.st < 1)) = true := hs1
      have c_st : wc.cell? ⟨w.heap.size, 0, none⟩ = some (.int .i64 c.st) := blk_cell HX.out.c3 rfl
      have k_st := cell_regrown c_st
      clear c_st
      refine wp_region_quiet_below (by kernel_rfl) (by kernel_rfl) ?_
      repeat (first | go_big_quiet_skip |  quiet_step (first | fail))
      refine wpQuiet_nil ?_
      intro _ hw'
      obtain ⟨⟨dq, osq⟩, hw''⟩ := hw'
      subst hw''
      have bq := below_regrown wc dq osq
      have HX1 := Lib.hid (HX.out.below bq)
      generalize grow (redrawn wc dq) osq = w1 at *
      clear k_st
      clear bq
      go_wp2_with (first | ((with_reducible refine stop_op (o := ⟨some 48, _, _, _, _, _⟩) ?_); refine Lib.hid ?_; refine wpList_load_cells rfl 29 (.tmp 3) rfl ⟨w.heap.size, 0, none⟩ rfl (CA c) _ (blk_all HX1.out.c3) Try.underlying29 rfl (ca_inf c) ?_) | ((with_reducible refine stop_op (o := ⟨none, _, _, _, _, _⟩) ?_); refine Lib.hid ?_; refine wpList_store_row rfl 29 (.tmp 6) (.tmp 48) rfl (w.heap.size + 1 + 1) (CA c) rfl rfl 29 (CA zcn) (HX1.out.r6) (ca_inf c) rfl (ca_one c) ?_))
      refine bodyPost_ret_by (res_row Try.results10 _ _ (w.heap.size + 1 + 1) 29 (CA c) _ rfl (blk_setRow HX1.out.r6 _) Try.underlying29 (ca_inf c)) rfl ?_
      exact ⟨by rw [FIN.out] <;> rfl, Below.setRow HX1.out.bel (by omega) _⟩

end Go.Proofs.Ytdgodndaaenafab
