/- The document's Make: no way; by-name template (gen_na.py). -/
import Derived.Test.YtokbmahnjmmcaaaNaR1
namespace Go.Proofs.Ytokbmahnjmmcaaa
open Go.RowKit Go.Lib Go.Maps
set_option linter.unusedVariables false
set_option linter.unusedSimpArgs false

set_option maxRecDepth 100000 in
set_option maxHeartbeats 8000000 in
theorem rmake_no_true (c : CF) (inn : Int) (k : KR) (A : Option Addr) (n cap : Nat) (tk : List KR) {w : World} (hc : c.Ok w) (hk : KyOk k) (hS : Sl w 7 krc A n tk) (hi : icmpB k.proto = true) (hno : ¬ ((routeP c (judK c k).dh (judK c k).dl).1 ≠ -1 ∧ (routeP c (judK c k).dh (judK c k).dl).2 ≠ -1)) :
    Calls Try.prog 14 #[.agg (cfc c), .int .i64 inn, .agg (KA k), .slice A n cap] w (MPost w (makeP c inn k tk)) := by
  obtain ⟨M, hMM⟩ : ∃ M, M = MPost w (makeP c inn k tk) := ⟨_, rfl⟩
  rw [← hMM]
  have HMM := Lib.hid hMM
  have HSS := Lib.hid hS
  have cT := fun W => rturn_any k W
  clear hMM hS
  go_enter Try.func14, Try.ntmps14
  go_upto_region 1 with fail
  obtain ⟨gp, hgp⟩ : ∃ g, g = w.heap.size + 1 + 1 := ⟨_, rfl⟩
  obtain ⟨gk, hgk⟩ : ∃ g, g = w.heap.size + 1 := ⟨_, rfl⟩
  obtain ⟨gc, hgc⟩ : ∃ g, g = w.heap.size := ⟨_, rfl⟩
  obtain ⟨w1, hw1⟩ : ∃ x, x = ((w.alloc (.cells (cfc c) 30)).alloc (.cells (KA k) 35)).alloc (.cells #[.int .i64 0, .int .u64 0, .int .u64 0, .int .u64 0, .int .u64 0, .int .i64 0, .int .i64 0, .int .i64 0, .int .u64 0, .int .u64 0, .int .u64 0, .int .u64 0, .int .i64 0, .int .i64 0, .int .i64 0, .int .u64 0, .int .u64 0, .int .u64 0, .int .u64 0, .int .i64 0, .int .i64 0, .int .i64 0, .int .u64 0, .int .u64 0, .int .u64 0, .int .u64 0, .int .i64 0, .int .i64 0, .int .i64 0, .int .u64 0, .int .u64 0, .int .u64 0, .int .u64 0, .int .i64 0, .int .i64 0, .int .i64 0, .int .i64 0] 54) := ⟨_, rfl⟩
  have hb1 : Below w.heap.size w w1 := by rw [hw1]; exact Below.al (Below.al (bel_al _ _) _) _
  have HP1 : Hid (w1.heap[gp]? = some (.cells (PA zP) 54 (0, 0))) := Lib.hid (by rw [hw1, hgp]; exact al_new (by simp [al_size]) _)
  have HK1 : Hid (w1.heap[gk]? = some (.cells (KA k) 35 (0, 0))) := Lib.hid (by
    rw [hw1, hgk]
    exact (al_old (by simp only [al_size]; omega) _).trans (al_new (by simp [al_size]) _))
  have HC1 : Hid (w1.heap[gc]? = some (.cells (cfc c) 30 (0, 0))) := Lib.hid (by
    rw [hw1, hgc]
    exact (al_old (by simp only [al_size]; omega) _).trans ((al_old (by simp only [al_size]; omega) _).trans (al_new rfl _)))
  have hgpw : w.heap.size ≤ gp := by omega
  rw [← hw1]
  rw [← hgp, ← hgk]
  rw [show (Value.pointer (some ⟨w.heap.size, 0, none⟩)) = Value.pointer (some ⟨gc, 0, none⟩) by rw [hgc]]
  have HB1 := Lib.hid hb1
  clear hw1 hgp hgk hgc hb1
  go_cut [10] from 21 to 25 (fun v10 wx => ∃ gq, v10 = .pointer (some ⟨gq, 0, none⟩) ∧ wx.heap[gq]? = some (.cells (PA (p0 k)) 54 (0, 0)) ∧ w1.heap.size ≤ gq ∧ Below w1.heap.size w1 wx)
  case first =>
    refine wp_region_held_drew (S := fun W1 : World => W1.heap[gk]? = some (.cells (KA k) 35 (0, 0))) (by kernel_rfl) HK1.out (fun hS0 => ?_)
    have b0 : Below w1.heap.size w1 w1.drew := bel_dr (Below.refl _ _)
    obtain ⟨wd0, hwd⟩ : ∃ x, x = w1.drew := ⟨_, rfl⟩
    rw [← hwd] at hS0 b0 ⊢
    clear hwd
    refine wpAnyH_take (i := 0) (oi := ⟨some 21, _, _, _, _, _⟩) (v := .agg (KA k)) rfl (by kernel_rfl) (by kernel_rfl) (by kernel_rfl) (fun _ _ _ h => h) (yields_cells (by rfl) 35 _ rfl ⟨gk, 0, none⟩ rfl (KA k) _ (fun W hW => blk_all hW) Try.underlying35 rfl (k_inf _)) hS0 ?_
    try simp only [Act.put, List.setIfInBounds_toArray, List.set_cons_zero, List.set_cons_succ]
    refine wpAnyH_take (i := 1) (oi := ⟨some 22, _, _, _, _, _⟩) (v := .agg (KA k)) rfl (by kernel_rfl) (by kernel_rfl) (by kernel_rfl) (fun _ _ _ h => h) (yields_cells (by rfl) 35 _ rfl ⟨gk, 0, none⟩ rfl (KA k) _ (fun W hW => blk_all hW) Try.underlying35 rfl (k_inf _)) hS0 ?_
    try simp only [Act.put, List.setIfInBounds_toArray, List.set_cons_zero, List.set_cons_succ]
    refine wpAnyH_take (i := 2) (oi := ⟨some 23, _, _, _, _, _⟩) (v := .agg (KA k)) rfl (by kernel_rfl) (by kernel_rfl) (by kernel_rfl) (fun _ _ _ h => h) (yields_cells (by rfl) 35 _ rfl ⟨gk, 0, none⟩ rfl (KA k) _ (fun W hW => blk_all hW) Try.underlying35 rfl (k_inf _)) hS0 ?_
    try simp only [Act.put, List.setIfInBounds_toArray, List.set_cons_zero, List.set_cons_succ]
    refine wpAnyH_ready (rs := [3, 5]) (by kernel_rfl) (by simp) ?_
    refine AllReadyH.cons (o := ⟨some 24, _, _, _, _, _⟩) rfl (fun K hK => ?_) (AllReadyH.cons (o := ⟨some 10, _, _, _, _, _⟩) rfl (fun K hK => ?_) AllReadyH.nil)
    · go_simp
      go_at_call 13
      ((with_reducible refine (cT _).mono ?_); rintro e wd1 ⟨rfl, bT⟩)
      have hS1 := Go.Proofs.Ytokbmahnjmmcaaa.kb bT hS0
      have b1 := bel_via b0 bT
      refine hK.out _ _ hS1 (fun _ => ?_)
      clear hK K
      try simp only [Act.put, List.setIfInBounds_toArray, List.set_cons_zero, List.set_cons_succ]
      refine wpAnyH_take (i := 4) (oi := ⟨some 25, _, _, _, _, _⟩) (v := .agg (PA (p0 k))) rfl (by kernel_rfl) (by kernel_rfl) (by kernel_rfl) (fun _ _ _ h => h) (.inl ⟨by rfl, fun W hW => by kernel_rfl⟩) hS1 ?_
      try simp only [Act.put, List.setIfInBounds_toArray, List.set_cons_zero, List.set_cons_succ]
      refine wpAnyH_ready (rs := [5]) (by kernel_rfl) (by simp) ?_
      refine AllReadyH.cons (o := ⟨some 10, _, _, _, _, _⟩) rfl (fun K hK => ?_) AllReadyH.nil
      refine step_alloc rfl 54 rfl (PA zP) zeroR (fun wd2 gq hV bA hgA => ?_)
      have hS2 := Go.Proofs.Ytokbmahnjmmcaaa.kb bA hS1
      have hq1 : w1.heap.size ≤ gq := Nat.le_trans b1.size hgA
      have b2 := bel_via b1 bA
      refine hK.out _ _ hS2 (fun _ => ?_)
      clear hK K
      try simp only [Act.put, List.setIfInBounds_toArray, List.set_cons_zero, List.set_cons_succ]
      refine wpAnyH_ready (rs := [6]) (by kernel_rfl) (by simp) ?_
      refine AllReadyH.cons (o := ⟨none, _, _, _, _, _⟩) rfl (fun K hK => ?_) AllReadyH.nil
      refine step_store_mid rfl 54 (.tmp 10) (.tmp 25) rfl gq 0 (PA (p0 k)) rfl rfl (there_of hV (o := 0) (n := 37) (by simp [PA])) (rp_inf _) (p_one _) ?_
      have hqw := setCells_heap (PA (p0 k)).toList 0 hV
      have hqe : (List.foldl (fun (a : Array Value × Nat) v => (a.1.setIfInBounds a.2 v, a.2 + 1)) (PA zP, 0) (PA (p0 k)).toList).1 = PA (p0 k) := by kernel_rfl
      rw [hqe] at hqw
      have ho := (setCells_off (PA (p0 k)).toList 0 wd2 gq)
      have bz := b2.trans (ho.toBelow hq1 b2.size)
      obtain ⟨wz, hwz⟩ : ∃ x, x = wd2.setCells gq 0 (PA (p0 k)).toList := ⟨_, rfl⟩
      have hSz : (wd2.setCells gq 0 (PA (p0 k)).toList).heap[gk]? = _ := (ho.block _ (blk_lt hS2) (fun e => by have := blk_lt HK1.out; omega)).trans hS2
      rw [← hwz] at hqw bz hSz ⊢
      refine hK.out _ _ hSz (fun _ => ?_)
      clear hK K
      try simp only [Act.put, List.setIfInBounds_toArray, List.set_cons_zero, List.set_cons_succ]
      refine wpAnyH_done (by kernel_rfl) ?_ _
      try simp only [Act.put, List.setIfInBounds_toArray, List.set_cons_zero, List.set_cons_succ]
      go_wp2_with fail
      go_meet
      exact ⟨gq, rfl, hqw, hq1, bz⟩
    · refine step_alloc rfl 54 rfl (PA zP) zeroR (fun wd1 gq hV bA hgA => ?_)
      have hS1 := Go.Proofs.Ytokbmahnjmmcaaa.kb bA hS0
      have hq1 : w1.heap.size ≤ gq := Nat.le_trans b0.size hgA
      have b1 := bel_via b0 bA
      refine hK.out _ _ hS1 (fun _ => ?_)
      clear hK K
      try simp only [Act.put, List.setIfInBounds_toArray, List.set_cons_zero, List.set_cons_succ]
      refine wpAnyH_ready (rs := [3]) (by kernel_rfl) (by simp) ?_
      refine AllReadyH.cons (o := ⟨some 24, _, _, _, _, _⟩) rfl (fun K hK => ?_) AllReadyH.nil
      go_simp
      go_at_call 13
      ((with_reducible refine (cT _).mono ?_); rintro e wd2 ⟨rfl, bT⟩)
      have hS2 := Go.Proofs.Ytokbmahnjmmcaaa.kb bT hS1
      have b2 := bel_via b1 bT
      have hV := Go.Proofs.Ytokbmahnjmmcaaa.kb bT hV
      refine hK.out _ _ hS2 (fun _ => ?_)
      clear hK K
      try simp only [Act.put, List.setIfInBounds_toArray, List.set_cons_zero, List.set_cons_succ]
      refine wpAnyH_take (i := 4) (oi := ⟨some 25, _, _, _, _, _⟩) (v := .agg (PA (p0 k))) rfl (by kernel_rfl) (by kernel_rfl) (by kernel_rfl) (fun _ _ _ h => h) (.inl ⟨by rfl, fun W hW => by kernel_rfl⟩) hS2 ?_
      try simp only [Act.put, List.setIfInBounds_toArray, List.set_cons_zero, List.set_cons_succ]
      refine wpAnyH_ready (rs := [6]) (by kernel_rfl) (by simp) ?_
      refine AllReadyH.cons (o := ⟨none, _, _, _, _, _⟩) rfl (fun K hK => ?_) AllReadyH.nil
      refine step_store_mid rfl 54 (.tmp 10) (.tmp 25) rfl gq 0 (PA (p0 k)) rfl rfl (there_of hV (o := 0) (n := 37) (by simp [PA])) (rp_inf _) (p_one _) ?_
      have hqw := setCells_heap (PA (p0 k)).toList 0 hV
      have hqe : (List.foldl (fun (a : Array Value × Nat) v => (a.1.setIfInBounds a.2 v, a.2 + 1)) (PA zP, 0) (PA (p0 k)).toList).1 = PA (p0 k) := by kernel_rfl
      rw [hqe] at hqw
      have ho := (setCells_off (PA (p0 k)).toList 0 wd2 gq)
      have bz := b2.trans (ho.toBelow hq1 b2.size)
      obtain ⟨wz, hwz⟩ : ∃ x, x = wd2.setCells gq 0 (PA (p0 k)).toList := ⟨_, rfl⟩
      have hSz : (wd2.setCells gq 0 (PA (p0 k)).toList).heap[gk]? = _ := (ho.block _ (blk_lt hS2) (fun e => by have := blk_lt HK1.out; omega)).trans hS2
      rw [← hwz] at hqw bz hSz ⊢
      refine hK.out _ _ hSz (fun _ => ?_)
      clear hK K
      try simp only [Act.put, List.setIfInBounds_toArray, List.set_cons_zero, List.set_cons_succ]
      refine wpAnyH_done (by kernel_rfl) ?_ _
      try simp only [Act.put, List.setIfInBounds_toArray, List.set_cons_zero, List.set_cons_succ]
      go_wp2_with fail
      go_meet
      exact ⟨gq, rfl, hqw, hq1, bz⟩

  case rest =>
  obtain ⟨gq, rfl, hq, hq1, bx⟩ := hcut
  have HX2 : Hid (RQ w wc gc gk gp gq c k (p0 k)) := Lib.hid ⟨bel_via HB1.out bx, Go.Proofs.Ytokbmahnjmmcaaa.kb bx HC1.out, Go.Proofs.Ytokbmahnjmmcaaa.kb bx HK1.out, Go.Proofs.Ytokbmahnjmmcaaa.kb bx HP1.out, hq, fun e => by have := blk_lt HC1.out; omega, fun e => by have := blk_lt HK1.out; omega, fun e => by have := blk_lt HP1.out; omega, Nat.le_trans HB1.out.size hq1⟩
  clear hq hq1 bx HC1 HK1 HP1
  have cD := fun W (b : Below w.heap.size w W) => rdest_k c k (hc.keep b)
  go_upto_region 3 with (first | ((with_reducible refine stop_op (o := ⟨some 27, _, _, _, _, _⟩) ?_); refine Lib.hid ?_; refine wpList_load_cells rfl 30 (.tmp 4) rfl ⟨gc, 0, none⟩ rfl (cfc c) _ (blk_all HX2.out.cb) Try.underlying30 rfl (c_inf _) ?_) | ((with_reducible refine stop_op (o := ⟨some 28, _, _, _, _, _⟩) ?_); refine Lib.hid ?_; refine wpList_load_cells rfl 35 (.tmp 6) rfl ⟨gk, 0, none⟩ rfl (KA k) _ (blk_all HX2.out.kb) Try.underlying35 rfl (k_inf _) ?_) | (go_at_call 24; ((with_reducible refine (cD _ HX2.out.bel).mono ?_); rintro e w3 ⟨rfl, b3⟩)))
  obtain ⟨ga, hga⟩ : ∃ g, g = w3.heap.size := ⟨_, rfl⟩
  obtain ⟨w4, hw4⟩ : ∃ x, x = w3.alloc (.cells #[.int .u64 (dstP c k).1, .int .u64 (dstP c k).2.1] 33) := ⟨_, rfl⟩
  have HX4 : Hid (RQ w w4 gc gk gp gq c k (p0 k)) := Lib.hid (by rw [hw4]; exact (HX2.out.below b3).below (bel_al _ _))
  have ha4 : w4.heap[ga]? = some (.cells #[.int .u64 (dstP c k).1, .int .u64 (dstP c k).2.1] 33 (0, 0)) := by rw [hw4, hga]; exact al_new rfl _
  have hagq : ga ≠ gq := by have := blk_lt (HX2.out.below b3).qb; omega
  rw [← hw4, ← hga]
  obtain ⟨y0, y1, _, _⟩ := cells2 ha4
  have HA4 := Lib.hid ha4
  clear hw4 hga b3 HX2 cD ha4
  go_upto_region 4 with ((with_reducible refine stop_op (o := ⟨none, .store 33 (.tmp 35) (.tmp 33), _, _, _, _⟩) ?_); refine Lib.hid ?_; refine wpList_store_mid rfl 33 (.tmp 35) (.tmp 33) rfl gq 3 (#[.int .u64 (dstP c k).1, .int .u64 (dstP c k).2.1]) rfl rfl (HX4.out.there (o := 3) (n := 2) (by omega)) (by kernel_rfl) (by simp [Value.oneCell']) ?_)
  have ho5 := setCells_off (#[.int .u64 (dstP c k).1, .int .u64 (dstP c k).2.1] : Array Value).toList 3 w4 gq
  have HX5' : Hid (RQ w (w4.setCells gq 3 (#[.int .u64 (dstP c k).1, .int .u64 (dstP c k).2.1] : Array Value).toList) gc gk gp gq c k { p0 k with ju := { k with dh := (dstP c k).1, dl := (dstP c k).2.1 } }) := Lib.hid (HX4.out.setq 3 _ _ (by kernel_rfl))
  have ha5 := (ho5.block _ (blk_lt HA4.out) hagq).trans HA4.out
  obtain ⟨w5, hw5⟩ : ∃ x, x = w4.setCells gq 3 (#[.int .u64 (dstP c k).1, .int .u64 (dstP c k).2.1] : Array Value).toList := ⟨_, rfl⟩
  rw [← hw5] at HX5' ha5
  try simp only [Act.put]
  change Code.wp _ _ _ _ (w4.setCells gq 3 (#[.int .u64 (dstP c k).1, .int .u64 (dstP c k).2.1] : Array Value).toList)
  rw [← hw5]
  have HX5 := HX5'
  have HA5 := Lib.hid ha5
  clear hw5 ho5 ha5 HX5' HX4 HA4 y0 y1
  have k0 : w5.cell? ⟨gk, 0, none⟩ = some (.int .i64 k.proto) := HX5.out.kcell 0 rfl
  have cI := fun W => icmp_any k.proto W
  have HIC := Lib.hid hi
  rw [hi] at cI
  clear hi
  go_upto_region 6 with (go_at_call 25; ((with_reducible refine (cI _).mono ?_); rintro e w6 ⟨rfl, h6⟩; rw [h6]; clear h6))
  have e6 : judK c k = { k with dh := (dstP c k).1, dl := (dstP c k).2.1 } := by unfold judK; rw [icmp_jud HIC.out]
  have HX6 : Hid (RQ w w5 gc gk gp gq c k { p0 k with ju := judK c k }) := Lib.hid (by rw [e6]; exact HX5.out)
  have hA6 := HA5.out
  clear e6
  clear k0 cI
  obtain ⟨y0, y1, _, _⟩ := cells2 hA6
  have HA6 := Lib.hid hA6
  clear hA6 HX5 HA5
  have cR := fun W (b : Below w.heap.size w W) => rroute_k c (dstP c k).1 (dstP c k).2.1 (hc.keep b)
  obtain ⟨ra, hra⟩ : ∃ x, x = (routeP c (dstP c k).1 (dstP c k).2.1).1 := ⟨_, rfl⟩
  obtain ⟨rb, hrb⟩ : ∃ x, x = (routeP c (dstP c k).1 (dstP c k).2.1).2 := ⟨_, rfl⟩
  rw [← hra, ← hrb] at cR
  have HRA := Lib.hid hra
  have HRB := Lib.hid hrb
  clear hra hrb
  go_upto_region 7 with (first | ((with_reducible refine stop_op (o := ⟨some 44, _, _, _, _, _⟩) ?_); refine Lib.hid ?_; refine wpList_load_cells rfl 30 (.tmp 4) rfl ⟨gc, 0, none⟩ rfl (cfc c) _ (blk_all HX6.out.cb) Try.underlying30 rfl (c_inf _) ?_) | (go_at_call 12; ((with_reducible refine (cR _ HX6.out.bel).mono ?_); rintro e w7 ⟨rfl, b7⟩; have q35 : w7.cell? ⟨gq, 35, none⟩ = some (.int .i64 0) := (HX6.out.below b7).cell 35 rfl; have q36 : w7.cell? ⟨gq, 36, none⟩ = some (.int .i64 0) := (HX6.out.below b7).cell 36 rfl; have z35 := (HX6.out.below b7).free 35; have z36 := (HX6.out.below b7).free 36)))
  have HX8' : Hid (RQ w ((w7.setCell ⟨gq, 35, none⟩ (.int .i64 ra)).setCell ⟨gq, 36, none⟩ (.int .i64 rb)) gc gk gp gq c k { p0 k with ju := judK c k, ifc := ra, zo := rb }) := Lib.hid (((HX6.out.below b7).set1 35 (.int .i64 ra) { p0 k with ju := judK c k, ifc := ra } (by kernel_rfl)).set1 36 (.int .i64 rb) _ (by kernel_rfl))
  obtain ⟨w8, hw8⟩ : ∃ x, x = (w7.setCell ⟨gq, 35, none⟩ (.int .i64 ra)).setCell ⟨gq, 36, none⟩ (.int .i64 rb) := ⟨_, rfl⟩
  rw [← hw8] at HX8' ⊢
  have HX8 := HX8'
  clear hw8 HX8' HX6 HA6 q35 q36 z35 z36 b7 y0 y1 cR hagq
  have q35 : w8.cell? ⟨gq, 35, none⟩ = some (.int .i64 ra) := HX8.out.cell 35 rfl
  have q36 : w8.cell? ⟨gq, 36, none⟩ = some (.int .i64 rb) := HX8.out.cell 36 rfl
  have HJ : Hid ((judK c k).dh = (dstP c k).1 ∧ (judK c k).dl = (dstP c k).2.1) := Lib.hid ⟨rfl, rfl⟩
  by_cases c1 : ra = -1
  · have HE : Hid (makeP c inn k tk = (zP, 8)) := Lib.hid (by unfold makeP; rw [HJ.out.1, HJ.out.2, ← HRA.out, if_pos c1])
    subst c1
    go_wp2_with ((with_reducible refine stop_op (o := ⟨none, .store 54 (.tmp 8) (.tmp 54), _, _, _, _⟩) ?_); refine Lib.hid ?_; refine wpList_store_row rfl 54 (.tmp 8) (.tmp 54) rfl gp (PA zP) rfl rfl 54 (PA zP) HX8.out.pb (rp_inf _) rfl (p_one _) ?_)
    refine bodyPost_ret_by (res_row Try.results14 _ _ gp 54 (PA zP) _ rfl (blk_setRow HX8.out.pb (PA zP)) Try.underlying54 (rp_inf _)) rfl ?_
    rw [HMM.out, HE.out]
    exact ⟨rfl, Below.setRow HX8.out.bel hgpw _⟩
  · by_cases c2 : rb = -1
    · have HE : Hid (makeP c inn k tk = (zP, 3)) := Lib.hid (by unfold makeP; rw [HJ.out.1, HJ.out.2, ← HRA.out, if_neg c1, ← HRB.out, if_pos c2])
      subst c2
      have c1b : (ra == -1) = false := by simp [c1]
      go_wp2_with ((with_reducible refine stop_op (o := ⟨none, .store 54 (.tmp 8) (.tmp 58), _, _, _, _⟩) ?_); refine Lib.hid ?_; refine wpList_store_row rfl 54 (.tmp 8) (.tmp 58) rfl gp (PA zP) rfl rfl 54 (PA zP) HX8.out.pb (rp_inf _) rfl (p_one _) ?_)
      refine bodyPost_ret_by (res_row Try.results14 _ _ gp 54 (PA zP) _ rfl (blk_setRow HX8.out.pb (PA zP)) Try.underlying54 (rp_inf _)) rfl ?_
      rw [HMM.out, HE.out]
      exact ⟨rfl, Below.setRow HX8.out.bel hgpw _⟩
    · exact absurd ⟨by rw [HJ.out.1, HJ.out.2, ← HRA.out]; exact c1, by rw [HJ.out.1, HJ.out.2, ← HRB.out]; exact c2⟩ hno
end Go.Proofs.Ytokbmahnjmmcaaa
