/- WindowQuiet: the walk; by-name template (gen_wi2.py). -/
import Derived.Test.YtdgodndaaenafabWiE
import Derived.Test.YtdgodndaaenafabWiRnf
import Derived.Test.YtdgodndaaenafabWiRnb
namespace Go.Proofs.Ytdgodndaaenafab
open Go.RowKit Go.Lib Go.Sort
set_option linter.unusedVariables false
set_option linter.unusedSimpArgs false

theorem rnext_any (c : CN) (b : Bool) (t : TR) (w : World) : Calls Try.prog 12 #[.agg (CA c), .bool b, .agg (TA t)] w (ROK w (nextP c b t).2) := by
  cases b
  · exact rnext_f c t w
  · exact rnext_b c t w
structure QS (w W : World) (c : CN) (t : TR) (B7 : Nat) (N : CN) : Prop where
  c3 : W.heap[w.heap.size]? = some (.cells (CA c) 29 (0, 0))
  t5 : W.heap[w.heap.size + 1]? = some (.cells (TA t) 24 (0, 0))
  n7 : W.heap[B7]? = some (.cells (CA N) 29 (0, 0))
  bel : Below w.heap.size w W
theorem QS.below {w W W' : World} {c N : CN} {t : TR} {B7 : Nat} (h : QS w W c t B7 N) (b : Below W.heap.size W W') : QS w W' c t B7 N := ⟨kb b h.c3, kb b h.t5, kb b h.n7, bel_blk2 h.bel b⟩
theorem QS.row {w W : World} {c N : CN} {t : TR} {B7 : Nat} (h : QS w W c t B7 N) {B : Nat} (h1 : w.heap.size + 2 ≤ B) (h2 : B7 ≠ B) (C : Array Value) : QS w (W.setRow B C) c t B7 N :=
  ⟨(setRow_other (by omega) _).trans h.c3, (setRow_other (by omega) _).trans h.t5, (setRow_other h2 _).trans h.n7, Below.setRow h.bel (by omega) _⟩
theorem next_five (c : CN) (b : Bool) (t : TR) : nextP ⟨5, c.a, c.b⟩ b t = (⟨5, c.a, c.b⟩, false) := by
  cases b
  · rw [nextP_f, st_out (by simp)]
  · rw [nextP_b, st_out (by simp)]
set_option maxRecDepth 100000 in
set_option maxHeartbeats 16000000 in
theorem quiet_any (c : CN) (b : Bool) (t : TR) (w : World) : Calls Try.prog 5 #[.agg (CA c), .bool b, .agg (TA t)] w (LawPost w) := by
  have cX := fun w1 : World => next_any c b t w1
  have cR : ∀ w1 : World, Calls Try.prog 12 #[.agg (CA c), .bool b, .agg (TA t)] w1 fun e w' => ∃ cn : CN, e = .returned (.tuple #[.agg (CA cn), .bool (nextP c b t).2]) ∧ Below w1.heap.size w1 w' := fun w1 => rnext_any c b t w1
  have c5 := fun w1 : World => next_any ⟨5, c.a, c.b⟩ b t w1
  rw [next_five] at c5
  have z9 : ∀ w, (zeroValue 35).run Try.prog w = .ok (.agg (CA zcn)) w := fun w => by kernel_rfl
  have HNo : Hid ((nextP c b t).2 = false → (nextP c b t).1 = c) := Lib.hid (fun h => next_no b h)
  generalize (nextP c b t).1 = N at *
  generalize (nextP c b t).2 = ok at *
  have eq1 := fun w1 : World => neq_cn c w1
  have eq5 := fun w1 : World => eql_cn ⟨5, c.a, c.b⟩ w1
  obtain ⟨W, hW⟩ : ∃ W, W = (w.alloc (.cells (CA c) 29)).alloc (.cells (TA t) 24) := ⟨_, rfl⟩
  have HB : Hid (Below w.heap.size w W) := Lib.hid (by rw [hW]; exact Below.al (bel_al _ _) (by simp) _)
  have HC : Hid (W.heap[w.heap.size]? = some (.cells (CA c) 29 (0, 0))) := Lib.hid (by rw [hW]; exact blk_al (blk_new w _))
  have HT : Hid (W.heap[w.heap.size + 1]? = some (.cells (TA t) 24 (0, 0))) := Lib.hid (by rw [hW]; exact blk_new2 _ _ (by simp))
  have hWz : w.heap.size + 2 ≤ W.heap.size := by rw [hW]; simp
  go_enter Try.func5, Try.ntmps5
  go_upto_region 1 with fail
  rw [← hW]
  clear hW
  go_upto_region 2 with (first | ((with_reducible refine stop_op (o := ⟨some 14, _, _, _, _, _⟩) ?_); refine Lib.hid ?_; refine wpList_load_cells rfl 29 (.tmp 3) rfl ⟨w.heap.size, 0, none⟩ rfl (CA c) _ (blk_all HC.out) Try.underlying29 rfl (ca_inf _) ?_) | ((with_reducible refine stop_op (o := ⟨some 16, _, _, _, _, _⟩) ?_); refine Lib.hid ?_; refine wpList_load_cells rfl 24 (.tmp 5) rfl ⟨w.heap.size + 1, 0, none⟩ rfl (TA t) _ (blk_all HT.out) Try.underlying24 rfl (ta_inf _) ?_) | (go_at_call 10; ((with_reducible refine (cX _).mono ?_); rintro e w2 ⟨rfl, b2⟩)) | ((with_reducible refine stop_op (o := ⟨none, _, _, _, _, _⟩) ?_); refine Lib.hid ?_; refine wpList_store_row rfl 29 (.tmp 7) (.tmp 18) rfl w2.heap.size (CA N) rfl rfl 29 (CA zcn) (zrow w2) (ca_inf _) rfl (ca_one _) ?_; rw [World.setRow_alloc_new]))
  obtain ⟨w3, hw3⟩ : ∃ x, x = w2.alloc (.cells (CA N) 29) := ⟨_, rfl⟩
  have H3 : Hid (w3.heap[w2.heap.size]? = some (.cells (CA N) 29 (0, 0))) := Lib.hid (by rw [hw3]; exact blk_new w2 _)
  have b3 : Below w2.heap.size w2 w3 := by rw [hw3]; exact bel_al _ _
  rw [← hw3]
  clear hw3
  obtain ⟨B3, hB3⟩ : ∃ x, x = w2.heap.size := ⟨_, rfl⟩
  rw [← hB3] at H3 ⊢
  have hB3z : w.heap.size + 2 ≤ B3 := by rw [hB3]; exact Nat.le_trans hWz b2.size
  have hB3l : B3 < w3.heap.size := blk_lt H3.out
  have HQ : Hid (QS w w3 c t B3 N) := Lib.hid ⟨kb b3 (kb b2 HC.out), kb b3 (kb b2 HT.out), H3.out, bel_blk2 (bel_blk2 HB.out b2) b3⟩
  clear b2 b3 hB3 HC HT HB H3 cX
  go_cut [10] (fun v10 wx => v10 = .bool ok ∧ Hid (QS w wx c t B3 N))
  case first =>
    refine wp_region_held_drew (S := fun W1 : World => QS w W1 c t B3 N) (by kernel_rfl) (HQ.out.below (bel_dr (Below.refl _ _))) (fun hH => ?_)
    have hH0 := HQ.out.below (bel_dr (Below.refl _ _))
    have hz0 : w3.heap.size ≤ w3.drew.heap.size := Nat.le_refl _
    obtain ⟨wd, hwd⟩ : ∃ x, x = w3.drew := ⟨_, rfl⟩
    rw [← hwd] at hH0 hH hz0 ⊢
    clear hwd
    refine wpAnyH_take (i := 0) (oi := ⟨some 21, _, _, _, _, _⟩) (v := .agg (CA c)) rfl (by kernel_rfl) (by kernel_rfl) (by kernel_rfl) (fun _ _ _ h => h) (yields_rowK (by rfl) 29 _ rfl (w.heap.size) rfl (CA c) 29 _ (fun W hW => hW.c3) Try.underlying29 rfl (ca_inf c)) hH0 ?_
    try simp only [Act.put, List.setIfInBounds_toArray, List.set_cons_zero, List.set_cons_succ]
    refine wpAnyH_take (i := 2) (oi := ⟨some 23, _, _, _, _, _⟩) (v := .bool b) rfl (by kernel_rfl) (by kernel_rfl) (by kernel_rfl) (fun _ _ _ h => h) (.inl ⟨by rfl, fun W hW => by go_simp⟩) hH0 ?_
    try simp only [Act.put, List.setIfInBounds_toArray, List.set_cons_zero, List.set_cons_succ]
    refine wpAnyH_take (i := 3) (oi := ⟨some 24, _, _, _, _, _⟩) (v := .agg (TA t)) rfl (by kernel_rfl) (by kernel_rfl) (by kernel_rfl) (fun _ _ _ h => h) (yields_rowK (by rfl) 24 _ rfl (w.heap.size + 1) rfl (TA t) 24 _ (fun W hW => hW.t5) Try.underlying24 rfl (ta_inf t)) hH0 ?_
    try simp only [Act.put, List.setIfInBounds_toArray, List.set_cons_zero, List.set_cons_succ]
    refine wpAnyH_ready (rs := [1, 8]) (by kernel_rfl) (by simp) ?_
    refine AllReadyH.cons (o := ⟨some 22, _, _, _, _, _⟩) rfl (fun K hK => ?_) (AllReadyH.cons (o := ⟨some 9, _, _, _, _, _⟩) rfl (fun K hK => ?_) AllReadyH.nil)
    · go_simp
      go_at_call 13
      ((with_reducible refine (theirs_any c _).mono ?_); rintro e w20 ⟨rfl, b20⟩)
      have hS20 := hH0.below b20
      have hz20 : w3.heap.size ≤ w20.heap.size := Nat.le_trans hz0 b20.size
      refine hK.out _ _ hS20 (fun _ => ?_)
      clear hK K
      try simp only [Act.put, List.setIfInBounds_toArray, List.set_cons_zero, List.set_cons_succ]
      refine wpAnyH_ready (rs := [4, 8]) (by kernel_rfl) (by simp) ?_
      refine AllReadyH.cons (o := ⟨some 25, _, _, _, _, _⟩) rfl (fun K hK => ?_) (AllReadyH.cons (o := ⟨some 9, _, _, _, _, _⟩) rfl (fun K hK => ?_) AllReadyH.nil)
      · go_simp
        go_at_call 12
        ((with_reducible refine (cR _).mono ?_); rintro e w21 ⟨cn, rfl, b21⟩)
        have hS21 := hS20.below b21
        have hz21 : w3.heap.size ≤ w21.heap.size := Nat.le_trans hz20 b21.size
        refine hK.out _ _ hS21 (fun _ => ?_)
        clear hK K
        try simp only [Act.put, List.setIfInBounds_toArray, List.set_cons_zero, List.set_cons_succ]
        refine wpAnyH_take (i := 5) (oi := ⟨some 20, _, _, _, _, _⟩) (v := .tuple #[.agg (CA cn), .bool ok]) rfl (by kernel_rfl) (by kernel_rfl) (by kernel_rfl) (fun _ _ _ h => h) (.inl ⟨by rfl, fun W hW => by go_simp⟩) hS21 ?_
        try simp only [Act.put, List.setIfInBounds_toArray, List.set_cons_zero, List.set_cons_succ]
        refine wpAnyH_take (i := 6) (oi := ⟨some 26, _, _, _, _, _⟩) (v := .agg (CA cn)) rfl (by kernel_rfl) (by kernel_rfl) (by kernel_rfl) (fun _ _ _ h => h) (.inl ⟨by rfl, fun W hW => by go_simp⟩) hS21 ?_
        try simp only [Act.put, List.setIfInBounds_toArray, List.set_cons_zero, List.set_cons_succ]
        refine wpAnyH_take (i := 7) (oi := ⟨some 27, _, _, _, _, _⟩) (v := .bool ok) rfl (by kernel_rfl) (by kernel_rfl) (by kernel_rfl) (fun _ _ _ h => h) (.inl ⟨by rfl, fun W hW => by go_simp⟩) hS21 ?_
        try simp only [Act.put, List.setIfInBounds_toArray, List.set_cons_zero, List.set_cons_succ]
        refine wpAnyH_ready (rs := [8]) (by kernel_rfl) (by simp) ?_
        refine AllReadyH.cons (o := ⟨some 9, _, _, _, _, _⟩) rfl (fun K hK => ?_) AllReadyH.nil
        refine step_alloc rfl 35 rfl (CA zcn) z9 (fun w22 B9 hV b22 g22 => ?_)
        have hB9 : w3.heap.size ≤ B9 := Nat.le_trans hz21 g22
        have hS22 := hS21.below b22
        have hz22 : w3.heap.size ≤ w22.heap.size := Nat.le_trans hz21 b22.size
        refine hK.out _ _ hS22 (fun _ => ?_)
        clear hK K
        try simp only [Act.put, List.setIfInBounds_toArray, List.set_cons_zero, List.set_cons_succ]
        refine wpAnyH_ready (rs := [9]) (by kernel_rfl) (by simp) ?_
        refine AllReadyH.cons (o := ⟨none, _, _, _, _, _⟩) rfl (fun K hK => ?_) AllReadyH.nil
        refine step_store_row rfl 35 (.tmp 9) (.tmp 26) rfl B9 (CA cn) rfl rfl 35 (CA zcn) hV (rca_inf cn) rfl (ca_one cn) ?_
        have hSz := hS22.row (B := B9) (by omega) (by omega) (CA cn)
        refine hK.out _ _ hSz (fun _ => ?_)
        clear hK K
        try simp only [Act.put, List.setIfInBounds_toArray, List.set_cons_zero, List.set_cons_succ]
        refine wpAnyH_take (i := 10) (oi := ⟨some 10, _, _, _, _, _⟩) (v := .bool ok) rfl (by kernel_rfl) (by kernel_rfl) (by kernel_rfl) (fun _ _ _ h => h) (.inl ⟨by rfl, fun W hW => by go_simp⟩) hSz ?_
        try simp only [Act.put, List.setIfInBounds_toArray, List.set_cons_zero, List.set_cons_succ]
        refine wpAnyH_done (by kernel_rfl) ?_ _
        go_wp2_with fail
        go_meet
        exact ⟨rfl, Lib.hid hSz⟩
      · refine step_alloc rfl 35 rfl (CA zcn) z9 (fun w21 B9 hV b21 g21 => ?_)
        have hB9 : w3.heap.size ≤ B9 := Nat.le_trans hz20 g21
        have hS21 := hS20.below b21
        have hz21 : w3.heap.size ≤ w21.heap.size := Nat.le_trans hz20 b21.size
        refine hK.out _ _ hS21 (fun _ => ?_)
        clear hK K
        try simp only [Act.put, List.setIfInBounds_toArray, List.set_cons_zero, List.set_cons_succ]
        refine wpAnyH_ready (rs := [4]) (by kernel_rfl) (by simp) ?_
        refine AllReadyH.cons (o := ⟨some 25, _, _, _, _, _⟩) rfl (fun K hK => ?_) AllReadyH.nil
        go_simp
        go_at_call 12
        ((with_reducible refine (cR _).mono ?_); rintro e w22 ⟨cn, rfl, b22⟩)
        have hV := kb b22 hV
        have hS22 := hS21.below b22
        have hz22 : w3.heap.size ≤ w22.heap.size := Nat.le_trans hz21 b22.size
        refine hK.out _ _ hS22 (fun _ => ?_)
        clear hK K
        try simp only [Act.put, List.setIfInBounds_toArray, List.set_cons_zero, List.set_cons_succ]
        refine wpAnyH_take (i := 5) (oi := ⟨some 20, _, _, _, _, _⟩) (v := .tuple #[.agg (CA cn), .bool ok]) rfl (by kernel_rfl) (by kernel_rfl) (by kernel_rfl) (fun _ _ _ h => h) (.inl ⟨by rfl, fun W hW => by go_simp⟩) hS22 ?_
        try simp only [Act.put, List.setIfInBounds_toArray, List.set_cons_zero, List.set_cons_succ]
        refine wpAnyH_take (i := 6) (oi := ⟨some 26, _, _, _, _, _⟩) (v := .agg (CA cn)) rfl (by kernel_rfl) (by kernel_rfl) (by kernel_rfl) (fun _ _ _ h => h) (.inl ⟨by rfl, fun W hW => by go_simp⟩) hS22 ?_
        try simp only [Act.put, List.setIfInBounds_toArray, List.set_cons_zero, List.set_cons_succ]
        refine wpAnyH_take (i := 7) (oi := ⟨some 27, _, _, _, _, _⟩) (v := .bool ok) rfl (by kernel_rfl) (by kernel_rfl) (by kernel_rfl) (fun _ _ _ h => h) (.inl ⟨by rfl, fun W hW => by go_simp⟩) hS22 ?_
        try simp only [Act.put, List.setIfInBounds_toArray, List.set_cons_zero, List.set_cons_succ]
        refine wpAnyH_ready (rs := [9]) (by kernel_rfl) (by simp) ?_
        refine AllReadyH.cons (o := ⟨none, _, _, _, _, _⟩) rfl (fun K hK => ?_) AllReadyH.nil
        refine step_store_row rfl 35 (.tmp 9) (.tmp 26) rfl B9 (CA cn) rfl rfl 35 (CA zcn) hV (rca_inf cn) rfl (ca_one cn) ?_
        have hSz := hS22.row (B := B9) (by omega) (by omega) (CA cn)
        refine hK.out _ _ hSz (fun _ => ?_)
        clear hK K
        try simp only [Act.put, List.setIfInBounds_toArray, List.set_cons_zero, List.set_cons_succ]
        refine wpAnyH_take (i := 10) (oi := ⟨some 10, _, _, _, _, _⟩) (v := .bool ok) rfl (by kernel_rfl) (by kernel_rfl) (by kernel_rfl) (fun _ _ _ h => h) (.inl ⟨by rfl, fun W hW => by go_simp⟩) hSz ?_
        try simp only [Act.put, List.setIfInBounds_toArray, List.set_cons_zero, List.set_cons_succ]
        refine wpAnyH_done (by kernel_rfl) ?_ _
        go_wp2_with fail
        go_meet
        exact ⟨rfl, Lib.hid hSz⟩
    · refine step_alloc rfl 35 rfl (CA zcn) z9 (fun w20 B9 hV b20 g20 => ?_)
      have hB9 : w3.heap.size ≤ B9 := Nat.le_trans hz0 g20
      have hS20 := hH0.below b20
      have hz20 : w3.heap.size ≤ w20.heap.size := Nat.le_trans hz0 b20.size
      refine hK.out _ _ hS20 (fun _ => ?_)
      clear hK K
      try simp only [Act.put, List.setIfInBounds_toArray, List.set_cons_zero, List.set_cons_succ]
      refine wpAnyH_ready (rs := [1]) (by kernel_rfl) (by simp) ?_
      refine AllReadyH.cons (o := ⟨some 22, _, _, _, _, _⟩) rfl (fun K hK => ?_) AllReadyH.nil
      go_simp
      go_at_call 13
      ((with_reducible refine (theirs_any c _).mono ?_); rintro e w21 ⟨rfl, b21⟩)
      have hV := kb b21 hV
      have hS21 := hS20.below b21
      have hz21 : w3.heap.size ≤ w21.heap.size := Nat.le_trans hz20 b21.size
      refine hK.out _ _ hS21 (fun _ => ?_)
      clear hK K
      try simp only [Act.put, List.setIfInBounds_toArray, List.set_cons_zero, List.set_cons_succ]
      refine wpAnyH_ready (rs := [4]) (by kernel_rfl) (by simp) ?_
      refine AllReadyH.cons (o := ⟨some 25, _, _, _, _, _⟩) rfl (fun K hK => ?_) AllReadyH.nil
      go_simp
      go_at_call 12
      ((with_reducible refine (cR _).mono ?_); rintro e w22 ⟨cn, rfl, b22⟩)
      have hV := kb b22 hV
      have hS22 := hS21.below b22
      have hz22 : w3.heap.size ≤ w22.heap.size := Nat.le_trans hz21 b22.size
      refine hK.out _ _ hS22 (fun _ => ?_)
      clear hK K
      try simp only [Act.put, List.setIfInBounds_toArray, List.set_cons_zero, List.set_cons_succ]
      refine wpAnyH_take (i := 5) (oi := ⟨some 20, _, _, _, _, _⟩) (v := .tuple #[.agg (CA cn), .bool ok]) rfl (by kernel_rfl) (by kernel_rfl) (by kernel_rfl) (fun _ _ _ h => h) (.inl ⟨by rfl, fun W hW => by go_simp⟩) hS22 ?_
      try simp only [Act.put, List.setIfInBounds_toArray, List.set_cons_zero, List.set_cons_succ]
      refine wpAnyH_take (i := 6) (oi := ⟨some 26, _, _, _, _, _⟩) (v := .agg (CA cn)) rfl (by kernel_rfl) (by kernel_rfl) (by kernel_rfl) (fun _ _ _ h => h) (.inl ⟨by rfl, fun W hW => by go_simp⟩) hS22 ?_
      try simp only [Act.put, List.setIfInBounds_toArray, List.set_cons_zero, List.set_cons_succ]
      refine wpAnyH_take (i := 7) (oi := ⟨some 27, _, _, _, _, _⟩) (v := .bool ok) rfl (by kernel_rfl) (by kernel_rfl) (by kernel_rfl) (fun _ _ _ h => h) (.inl ⟨by rfl, fun W hW => by go_simp⟩) hS22 ?_
      try simp only [Act.put, List.setIfInBounds_toArray, List.set_cons_zero, List.set_cons_succ]
      refine wpAnyH_ready (rs := [9]) (by kernel_rfl) (by simp) ?_
      refine AllReadyH.cons (o := ⟨none, _, _, _, _, _⟩) rfl (fun K hK => ?_) AllReadyH.nil
      refine step_store_row rfl 35 (.tmp 9) (.tmp 26) rfl B9 (CA cn) rfl rfl 35 (CA zcn) hV (rca_inf cn) rfl (ca_one cn) ?_
      have hSz := hS22.row (B := B9) (by omega) (by omega) (CA cn)
      refine hK.out _ _ hSz (fun _ => ?_)
      clear hK K
      try simp only [Act.put, List.setIfInBounds_toArray, List.set_cons_zero, List.set_cons_succ]
      refine wpAnyH_take (i := 10) (oi := ⟨some 10, _, _, _, _, _⟩) (v := .bool ok) rfl (by kernel_rfl) (by kernel_rfl) (by kernel_rfl) (fun _ _ _ h => h) (.inl ⟨by rfl, fun W hW => by go_simp⟩) hSz ?_
      try simp only [Act.put, List.setIfInBounds_toArray, List.set_cons_zero, List.set_cons_succ]
      refine wpAnyH_done (by kernel_rfl) ?_ _
      go_wp2_with fail
      go_meet
      exact ⟨rfl, Lib.hid hSz⟩

  case rest =>
    obtain ⟨rfl, HX⟩ := hcut
    clear HQ cR z9
    cases ok
    · have hN := HNo.out rfl
      subst hN
      clear HNo
      go_upto_region 5 with (first | ((with_reducible refine stop_op (o := ⟨some 35, _, _, _, _, _⟩) ?_); refine Lib.hid ?_; refine wpList_load_cells_on (by kernel_rfl) 29 (.tmp 7) rfl ⟨B3, 0, none⟩ rfl (CA N) _ (blk_all HX.out.n7) Try.underlying29 rfl (ca_inf _) ?_) | ((with_reducible refine stop_op (o := ⟨some 36, _, _, _, _, _⟩) ?_); refine Lib.hid ?_; refine wpList_load_cells_on (by kernel_rfl) 29 (.tmp 3) rfl ⟨w.heap.size, 0, none⟩ rfl (CA N) _ (blk_all HX.out.c3) Try.underlying29 rfl (ca_inf _) ?_))
      have k0 : wc.cell? ⟨w.heap.size, 0, none⟩ = some (.int .i64 N.st) := blk_cell HX.out.c3 rfl
      have f0 : wc.frozen? ⟨w.heap.size, 0, none⟩ = false := blk_free HX.out.c3
      go_upto_region 6 with fail
      obtain ⟨w5, hw5⟩ : ∃ q, q = wc.setCell ⟨w.heap.size, 0, none⟩ (.int .i64 5) := ⟨_, rfl⟩
      have H5 : Hid (w5.heap[w.heap.size]? = some (.cells (CA ⟨5, N.a, N.b⟩) 29 (0, 0))) := Lib.hid (by rw [hw5]; exact heap_set HX.out.c3 0 _)
      have T5 : Hid (w5.heap[w.heap.size + 1]? = some (.cells (TA t) 24 (0, 0))) := Lib.hid (by rw [hw5]; exact (set_other (by omega)).trans HX.out.t5)
      have B5 : Hid (Below w.heap.size w w5) := Lib.hid (by rw [hw5]; exact below_set HX.out.bel (Nat.le_refl _) _ _)
      rw [← hw5]
      clear hw5 k0 f0
      go_upto_region 7 with (first | ((with_reducible refine stop_op (o := ⟨some 42, _, _, _, _, _⟩) ?_); refine Lib.hid ?_; refine wpList_load_cells rfl 29 (.tmp 3) rfl ⟨w.heap.size, 0, none⟩ rfl (CA ⟨5, N.a, N.b⟩) _ (blk_all H5.out) Try.underlying29 rfl (ca_inf _) ?_) | ((with_reducible refine stop_op (o := ⟨some 44, _, _, _, _, _⟩) ?_); refine Lib.hid ?_; refine wpList_load_cells rfl 24 (.tmp 5) rfl ⟨w.heap.size + 1, 0, none⟩ rfl (TA t) _ (blk_all T5.out) Try.underlying24 rfl (ta_inf _) ?_) | (go_at_call 10; ((with_reducible refine (c5 _).mono ?_); rintro e w6 ⟨rfl, b6⟩)) | ((with_reducible refine stop_op (o := ⟨none, _, _, _, _, _⟩) ?_); refine Lib.hid ?_; refine wpList_store_row rfl 29 (.tmp 11) (.tmp 46) rfl w6.heap.size (CA ⟨5, N.a, N.b⟩) rfl rfl 29 (CA zcn) (zrow w6) (ca_inf _) rfl (ca_one _) ?_; rw [World.setRow_alloc_new]))
      obtain ⟨w8, hw8⟩ : ∃ x, x = w6.alloc (.cells (CA ⟨5, N.a, N.b⟩) 29) := ⟨_, rfl⟩
      have H8 : Hid (w8.heap[w6.heap.size]? = some (.cells (CA ⟨5, N.a, N.b⟩) 29 (0, 0))) := Lib.hid (by rw [hw8]; exact blk_new w6 _)
      have b8 : Below w6.heap.size w6 w8 := by rw [hw8]; exact bel_al _ _
      rw [← hw8]
      clear hw8
      obtain ⟨B8, hB8⟩ : ∃ x, x = w6.heap.size := ⟨_, rfl⟩
      rw [← hB8] at H8 ⊢
      have H8c := Lib.hid (kb b8 (kb b6 H5.out))
      have B8' := Lib.hid (bel_blk2 (bel_blk2 B5.out b6) b8)
      clear b6 b8 hB8
      go_wp2_with (first | ((with_reducible refine stop_op (o := ⟨some 51, _, _, _, _, _⟩) ?_); refine Lib.hid ?_; refine wpList_load_cells_on (by kernel_rfl) 29 (.tmp 11) rfl ⟨B8, 0, none⟩ rfl (CA ⟨5, N.a, N.b⟩) _ (blk_all H8.out) Try.underlying29 rfl (ca_inf _) ?_) | ((with_reducible refine stop_op (o := ⟨some 52, _, _, _, _, _⟩) ?_); refine Lib.hid ?_; refine wpList_load_cells_on (by kernel_rfl) 29 (.tmp 3) rfl ⟨w.heap.size, 0, none⟩ rfl (CA ⟨5, N.a, N.b⟩) _ (blk_all H8c.out) Try.underlying29 rfl (ca_inf _) ?_))
      go_ret
      exact ⟨rfl, B8'.out⟩

    · clear HNo eq1
      go_upto_region 5 with fail
      have k0 : wc.cell? ⟨w.heap.size, 0, none⟩ = some (.int .i64 c.st) := blk_cell HX.out.c3 rfl
      have f0 : wc.frozen? ⟨w.heap.size, 0, none⟩ = false := blk_free HX.out.c3
      go_upto_region 6 with fail
      obtain ⟨w5, hw5⟩ : ∃ q, q = wc.setCell ⟨w.heap.size, 0, none⟩ (.int .i64 5) := ⟨_, rfl⟩
      have H5 : Hid (w5.heap[w.heap.size]? = some (.cells (CA ⟨5, c.a, c.b⟩) 29 (0, 0))) := Lib.hid (by rw [hw5]; exact heap_set HX.out.c3 0 _)
      have T5 : Hid (w5.heap[w.heap.size + 1]? = some (.cells (TA t) 24 (0, 0))) := Lib.hid (by rw [hw5]; exact (set_other (by omega)).trans HX.out.t5)
      have B5 : Hid (Below w.heap.size w w5) := Lib.hid (by rw [hw5]; exact below_set HX.out.bel (Nat.le_refl _) _ _)
      rw [← hw5]
      clear hw5 k0 f0
      go_upto_region 7 with (first | ((with_reducible refine stop_op (o := ⟨some 42, _, _, _, _, _⟩) ?_); refine Lib.hid ?_; refine wpList_load_cells rfl 29 (.tmp 3) rfl ⟨w.heap.size, 0, none⟩ rfl (CA ⟨5, c.a, c.b⟩) _ (blk_all H5.out) Try.underlying29 rfl (ca_inf _) ?_) | ((with_reducible refine stop_op (o := ⟨some 44, _, _, _, _, _⟩) ?_); refine Lib.hid ?_; refine wpList_load_cells rfl 24 (.tmp 5) rfl ⟨w.heap.size + 1, 0, none⟩ rfl (TA t) _ (blk_all T5.out) Try.underlying24 rfl (ta_inf _) ?_) | (go_at_call 10; ((with_reducible refine (c5 _).mono ?_); rintro e w6 ⟨rfl, b6⟩)) | ((with_reducible refine stop_op (o := ⟨none, _, _, _, _, _⟩) ?_); refine Lib.hid ?_; refine wpList_store_row rfl 29 (.tmp 11) (.tmp 46) rfl w6.heap.size (CA ⟨5, c.a, c.b⟩) rfl rfl 29 (CA zcn) (zrow w6) (ca_inf _) rfl (ca_one _) ?_; rw [World.setRow_alloc_new]))
      obtain ⟨w8, hw8⟩ : ∃ x, x = w6.alloc (.cells (CA ⟨5, c.a, c.b⟩) 29) := ⟨_, rfl⟩
      have H8 : Hid (w8.heap[w6.heap.size]? = some (.cells (CA ⟨5, c.a, c.b⟩) 29 (0, 0))) := Lib.hid (by rw [hw8]; exact blk_new w6 _)
      have b8 : Below w6.heap.size w6 w8 := by rw [hw8]; exact bel_al _ _
      rw [← hw8]
      clear hw8
      obtain ⟨B8, hB8⟩ : ∃ x, x = w6.heap.size := ⟨_, rfl⟩
      rw [← hB8] at H8 ⊢
      have H8c := Lib.hid (kb b8 (kb b6 H5.out))
      have B8' := Lib.hid (bel_blk2 (bel_blk2 B5.out b6) b8)
      clear b6 b8 hB8
      go_wp2_with (first | ((with_reducible refine stop_op (o := ⟨some 51, _, _, _, _, _⟩) ?_); refine Lib.hid ?_; refine wpList_load_cells_on (by kernel_rfl) 29 (.tmp 11) rfl ⟨B8, 0, none⟩ rfl (CA ⟨5, c.a, c.b⟩) _ (blk_all H8.out) Try.underlying29 rfl (ca_inf _) ?_) | ((with_reducible refine stop_op (o := ⟨some 52, _, _, _, _, _⟩) ?_); refine Lib.hid ?_; refine wpList_load_cells_on (by kernel_rfl) 29 (.tmp 3) rfl ⟨w.heap.size, 0, none⟩ rfl (CA ⟨5, c.a, c.b⟩) _ (blk_all H8c.out) Try.underlying29 rfl (ca_inf _) ?_))
      go_ret
      exact ⟨rfl, B8'.out⟩

end Go.Proofs.Ytdgodndaaenafab
