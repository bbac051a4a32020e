/- The document's Make: a hairpin; by-name template (gen_na.py). -/
import Derived.Test.YtokbmahnjmmcaaaNaR2
namespace Go.Proofs.Ytokbmahnjmmcaaa
open Go.RowKit Go.Lib Go.Maps
set_option linter.unusedVariables false
set_option linter.unusedSimpArgs false

set_option maxRecDepth 100000 in
set_option maxHeartbeats 8000000 in
theorem rmake_ft (c : CF) (inn : Int) (k : KR) (A : Option Addr) (n cap : Nat) (tk : List KR) {w : World} (hc : c.Ok w) (hk : KyOk k) (hS : Sl w 7 krc A n tk) (hi : icmpB k.proto = true) (h1 : (routeP c (judK c k).dh (judK c k).dl).1 ≠ -1) (h2 : (routeP c (judK c k).dh (judK c k).dl).2 ≠ -1) (hs : srcP c (routeP c (judK c k).dh (judK c k).dl).2 (judK c k) = -1) (hdi : 0 ≤ (dstP c k).2.2.2) (j : Nat) (z : ZR) (hin : inn = (j : Int)) (hzj : (routeP c (judK c k).dh (judK c k).dl).2 = (j : Int)) (hz : c.zs[j]? = some z) (h4 : (is4I z.ah z.al == is4I k.sh k.sl) = true) :
Calls Try.prog 14 #[.agg (cfc c), .int .i64 inn, .agg (KA k), .slice A n cap] w (MPost w (makeP c inn k tk)) := by
  subst hin
  have HSR := Lib.hid hs
  have HDI := Lib.hid hdi
  have HDN : Hid (¬ (dstP c k).2.2.2 = -1) := Lib.hid (by omega)
  have HZJ := Lib.hid hzj
  have HZZ := Lib.hid hz
  have H4S := Lib.hid h4
  clear hs hdi hzj hz h4
  have HPO : Hid (portedB k.proto = true) := Lib.hid (by unfold portedB; rw [hi]; simp)
  have HN := Lib.hid (And.intro h1 h2)
  clear h1 h2
  obtain ⟨M, hMM⟩ : ∃ M, M = MPost w (makeP c (j : Int) k tk) := ⟨_, rfl⟩
  rw [← hMM]
  have HMM := Lib.hid hMM
  have HSS := Lib.hid hS
  have cT := fun W => rturn_any k W
  clear hMM hS
  go_enter Try.func14, Try.ntmps14
  go_upto_region 1 with fail
  obtain ⟨gp, hgp⟩ : ∃ g, g = w.heap.size + 1 + 1 := ⟨_, rfl⟩
  obtain ⟨gk, hgk⟩ : ∃ g, g = w.heap.size + 1 := ⟨_, rfl⟩
  obtain ⟨gc, hgc⟩ : ∃ g, g = w.heap.size := ⟨_, rfl⟩
  obtain ⟨w1, hw1⟩ : ∃ x, x = ((w.alloc (.cells (cfc c) 30)).alloc (.cells (KA k) 35)).alloc (.cells #[.int .i64 0, .int .u64 0, .int .u64 0, .int .u64 0, .int .u64 0, .int .i64 0, .int .i64 0, .int .i64 0, .int .u64 0, .int .u64 0, .int .u64 0, .int .u64 0, .int .i64 0, .int .i64 0, .int .i64 0, .int .u64 0, .int .u64 0, .int .u64 0, .int .u64 0, .int .i64 0, .int .i64 0, .int .i64 0, .int .u64 0, .int .u64 0, .int .u64 0, .int .u64 0, .int .i64 0, .int .i64 0, .int .i64 0, .int .u64 0, .int .u64 0, .int .u64 0, .int .u64 0, .int .i64 0, .int .i64 0, .int .i64 0, .int .i64 0] 54) := ⟨_, rfl⟩
  have hb1 : Below w.heap.size w w1 := by rw [hw1]; exact Below.al (Below.al (bel_al _ _) _) _
  have HP1 : Hid (w1.heap[gp]? = some (.cells (PA zP) 54 (0, 0))) := Lib.hid (by rw [hw1, hgp]; exact al_new (by simp [al_size]) _)
  have HK1 : Hid (w1.heap[gk]? = some (.cells (KA k) 35 (0, 0))) := Lib.hid (by
    rw [hw1, hgk]
    exact (al_old (by simp only [al_size]; omega) _).trans (al_new (by simp [al_size]) _))
  have HC1 : Hid (w1.heap[gc]? = some (.cells (cfc c) 30 (0, 0))) := Lib.hid (by
    rw [hw1, hgc]
    exact (al_old (by simp only [al_size]; omega) _).trans ((al_old (by simp only [al_size]; omega) _).trans (al_new rfl _)))
  have hgpw : w.heap.size ≤ gp := by omega
  rw [← hw1]
  rw [← hgp, ← hgk]
  rw [show (Value.pointer (some ⟨w.heap.size, 0, none⟩)) = Value.pointer (some ⟨gc, 0, none⟩) by rw [hgc]]
  have HB1 := Lib.hid hb1
  clear hw1 hgp hgk hgc hb1
  go_cut [10] from 21 to 25 (fun v10 wx => ∃ gq, v10 = .pointer (some ⟨gq, 0, none⟩) ∧ wx.heap[gq]? = some (.cells (PA (p0 k)) 54 (0, 0)) ∧ w1.heap.size ≤ gq ∧ Below w1.heap.size w1 wx)
  case first =>
    refine wp_region_held_drew (S := fun W1 : World => W1.heap[gk]? = some (.cells (KA k) 35 (0, 0))) (by kernel_rfl) HK1.out (fun hS0 => ?_)
    have b0 : Below w1.heap.size w1 w1.drew := bel_dr (Below.refl _ _)
    obtain ⟨wd0, hwd⟩ : ∃ x, x = w1.drew := ⟨_, rfl⟩
    rw [← hwd] at hS0 b0 ⊢
    clear hwd
    refine wpAnyH_take (i := 0) (oi := ⟨some 21, _, _, _, _, _⟩) (v := .agg (KA k)) rfl (by kernel_rfl) (by kernel_rfl) (by kernel_rfl) (fun _ _ _ h => h) (yields_cells (by rfl) 35 _ rfl ⟨gk, 0, none⟩ rfl (KA k) _ (fun W hW => blk_all hW) Try.underlying35 rfl (k_inf _)) hS0 ?_
    try simp only [Act.put, List.setIfInBounds_toArray, List.set_cons_zero, List.set_cons_succ]
    refine wpAnyH_take (i := 1) (oi := ⟨some 22, _, _, _, _, _⟩) (v := .agg (KA k)) rfl (by kernel_rfl) (by kernel_rfl) (by kernel_rfl) (fun _ _ _ h => h) (yields_cells (by rfl) 35 _ rfl ⟨gk, 0, none⟩ rfl (KA k) _ (fun W hW => blk_all hW) Try.underlying35 rfl (k_inf _)) hS0 ?_
    try simp only [Act.put, List.setIfInBounds_toArray, List.set_cons_zero, List.set_cons_succ]
    refine wpAnyH_take (i := 2) (oi := ⟨some 23, _, _, _, _, _⟩) (v := .agg (KA k)) rfl (by kernel_rfl) (by kernel_rfl) (by kernel_rfl) (fun _ _ _ h => h) (yields_cells (by rfl) 35 _ rfl ⟨gk, 0, none⟩ rfl (KA k) _ (fun W hW => blk_all hW) Try.underlying35 rfl (k_inf _)) hS0 ?_
    try simp only [Act.put, List.setIfInBounds_toArray, List.set_cons_zero, List.set_cons_succ]
    refine wpAnyH_ready (rs := [3, 5]) (by kernel_rfl) (by simp) ?_
    refine AllReadyH.cons (o := ⟨some 24, _, _, _, _, _⟩) rfl (fun K hK => ?_) (AllReadyH.cons (o := ⟨some 10, _, _, _, _, _⟩) rfl (fun K hK => ?_) AllReadyH.nil)
    · go_simp
      go_at_call 13
      ((with_reducible refine (cT _).mono ?_); rintro e wd1 ⟨rfl, bT⟩)
      have hS1 := Go.Proofs.Ytokbmahnjmmcaaa.kb bT hS0
      have b1 := bel_via b0 bT
      refine hK.out _ _ hS1 (fun _ => ?_)
      clear hK K
      try simp only [Act.put, List.setIfInBounds_toArray, List.set_cons_zero, List.set_cons_succ]
      refine wpAnyH_take (i := 4) (oi := ⟨some 25, _, _, _, _, _⟩) (v := .agg (PA (p0 k))) rfl (by kernel_rfl) (by kernel_rfl) (by kernel_rfl) (fun _ _ _ h => h) (.inl ⟨by rfl, fun W hW => by kernel_rfl⟩) hS1 ?_
      try simp only [Act.put, List.setIfInBounds_toArray, List.set_cons_zero, List.set_cons_succ]
      refine wpAnyH_ready (rs := [5]) (by kernel_rfl) (by simp) ?_
      refine AllReadyH.cons (o := ⟨some 10, _, _, _, _, _⟩) rfl (fun K hK => ?_) AllReadyH.nil
      refine step_alloc rfl 54 rfl (PA zP) zeroR (fun wd2 gq hV bA hgA => ?_)
      have hS2 := Go.Proofs.Ytokbmahnjmmcaaa.kb bA hS1
      have hq1 : w1.heap.size ≤ gq := Nat.le_trans b1.size hgA
      have b2 := bel_via b1 bA
      refine hK.out _ _ hS2 (fun _ => ?_)
      clear hK K
      try simp only [Act.put, List.setIfInBounds_toArray, List.set_cons_zero, List.set_cons_succ]
      refine wpAnyH_ready (rs := [6]) (by kernel_rfl) (by simp) ?_
      refine AllReadyH.cons (o := ⟨none, _, _, _, _, _⟩) rfl (fun K hK => ?_) AllReadyH.nil
      refine step_store_mid rfl 54 (.tmp 10) (.tmp 25) rfl gq 0 (PA (p0 k)) rfl rfl (there_of hV (o := 0) (n := 37) (by simp [PA])) (rp_inf _) (p_one _) ?_
      have hqw := setCells_heap (PA (p0 k)).toList 0 hV
      have hqe : (List.foldl (fun (a : Array Value × Nat) v => (a.1.setIfInBounds a.2 v, a.2 + 1)) (PA zP, 0) (PA (p0 k)).toList).1 = PA (p0 k) := by kernel_rfl
      rw [hqe] at hqw
      have ho := (setCells_off (PA (p0 k)).toList 0 wd2 gq)
      have bz := b2.trans (ho.toBelow hq1 b2.size)
      obtain ⟨wz, hwz⟩ : ∃ x, x = wd2.setCells gq 0 (PA (p0 k)).toList := ⟨_, rfl⟩
      have hSz : (wd2.setCells gq 0 (PA (p0 k)).toList).heap[gk]? = _ := (ho.block _ (blk_lt hS2) (fun e => by have := blk_lt HK1.out; omega)).trans hS2
      rw [← hwz] at hqw bz hSz ⊢
      refine hK.out _ _ hSz (fun _ => ?_)
      clear hK K
      try simp only [Act.put, List.setIfInBounds_toArray, List.set_cons_zero, List.set_cons_succ]
      refine wpAnyH_done (by kernel_rfl) ?_ _
      try simp only [Act.put, List.setIfInBounds_toArray, List.set_cons_zero, List.set_cons_succ]
      go_wp2_with fail
      go_meet
      exact ⟨gq, rfl, hqw, hq1, bz⟩
    · refine step_alloc rfl 54 rfl (PA zP) zeroR (fun wd1 gq hV bA hgA => ?_)
      have hS1 := Go.Proofs.Ytokbmahnjmmcaaa.kb bA hS0
      have hq1 : w1.heap.size ≤ gq := Nat.le_trans b0.size hgA
      have b1 := bel_via b0 bA
      refine hK.out _ _ hS1 (fun _ => ?_)
      clear hK K
      try simp only [Act.put, List.setIfInBounds_toArray, List.set_cons_zero, List.set_cons_succ]
      refine wpAnyH_ready (rs := [3]) (by kernel_rfl) (by simp) ?_
      refine AllReadyH.cons (o := ⟨some 24, _, _, _, _, _⟩) rfl (fun K hK => ?_) AllReadyH.nil
      go_simp
      go_at_call 13
      ((with_reducible refine (cT _).mono ?_); rintro e wd2 ⟨rfl, bT⟩)
      have hS2 := Go.Proofs.Ytokbmahnjmmcaaa.kb bT hS1
      have b2 := bel_via b1 bT
      have hV := Go.Proofs.Ytokbmahnjmmcaaa.kb bT hV
      refine hK.out _ _ hS2 (fun _ => ?_)
      clear hK K
      try simp only [Act.put, List.setIfInBounds_toArray, List.set_cons_zero, List.set_cons_succ]
      refine wpAnyH_take (i := 4) (oi := ⟨some 25, _, _, _, _, _⟩) (v := .agg (PA (p0 k))) rfl (by kernel_rfl) (by kernel_rfl) (by kernel_rfl) (fun _ _ _ h => h) (.inl ⟨by rfl, fun W hW => by kernel_rfl⟩) hS2 ?_
      try simp only [Act.put, List.setIfInBounds_toArray, List.set_cons_zero, List.set_cons_succ]
      refine wpAnyH_ready (rs := [6]) (by kernel_rfl) (by simp) ?_
      refine AllReadyH.cons (o := ⟨none, _, _, _, _, _⟩) rfl (fun K hK => ?_) AllReadyH.nil
      refine step_store_mid rfl 54 (.tmp 10) (.tmp 25) rfl gq 0 (PA (p0 k)) rfl rfl (there_of hV (o := 0) (n := 37) (by simp [PA])) (rp_inf _) (p_one _) ?_
      have hqw := setCells_heap (PA (p0 k)).toList 0 hV
      have hqe : (List.foldl (fun (a : Array Value × Nat) v => (a.1.setIfInBounds a.2 v, a.2 + 1)) (PA zP, 0) (PA (p0 k)).toList).1 = PA (p0 k) := by kernel_rfl
      rw [hqe] at hqw
      have ho := (setCells_off (PA (p0 k)).toList 0 wd2 gq)
      have bz := b2.trans (ho.toBelow hq1 b2.size)
      obtain ⟨wz, hwz⟩ : ∃ x, x = wd2.setCells gq 0 (PA (p0 k)).toList := ⟨_, rfl⟩
      have hSz : (wd2.setCells gq 0 (PA (p0 k)).toList).heap[gk]? = _ := (ho.block _ (blk_lt hS2) (fun e => by have := blk_lt HK1.out; omega)).trans hS2
      rw [← hwz] at hqw bz hSz ⊢
      refine hK.out _ _ hSz (fun _ => ?_)
      clear hK K
      try simp only [Act.put, List.setIfInBounds_toArray, List.set_cons_zero, List.set_cons_succ]
      refine wpAnyH_done (by kernel_rfl) ?_ _
      try simp only [Act.put, List.setIfInBounds_toArray, List.set_cons_zero, List.set_cons_succ]
      go_wp2_with fail
      go_meet
      exact ⟨gq, rfl, hqw, hq1, bz⟩

  case rest =>
  obtain ⟨gq, rfl, hq, hq1, bx⟩ := hcut
  have HX2 : Hid (RQ w wc gc gk gp gq c k (p0 k)) := Lib.hid ⟨bel_via HB1.out bx, Go.Proofs.Ytokbmahnjmmcaaa.kb bx HC1.out, Go.Proofs.Ytokbmahnjmmcaaa.kb bx HK1.out, Go.Proofs.Ytokbmahnjmmcaaa.kb bx HP1.out, hq, fun e => by have := blk_lt HC1.out; omega, fun e => by have := blk_lt HK1.out; omega, fun e => by have := blk_lt HP1.out; omega, Nat.le_trans HB1.out.size hq1⟩
  clear hq hq1 bx HC1 HK1 HP1
  have cD := fun W (b : Below w.heap.size w W) => rdest_k c k (hc.keep b)
  go_upto_region 3 with (first | ((with_reducible refine stop_op (o := ⟨some 27, _, _, _, _, _⟩) ?_); refine Lib.hid ?_; refine wpList_load_cells rfl 30 (.tmp 4) rfl ⟨gc, 0, none⟩ rfl (cfc c) _ (blk_all HX2.out.cb) Try.underlying30 rfl (c_inf _) ?_) | ((with_reducible refine stop_op (o := ⟨some 28, _, _, _, _, _⟩) ?_); refine Lib.hid ?_; refine wpList_load_cells rfl 35 (.tmp 6) rfl ⟨gk, 0, none⟩ rfl (KA k) _ (blk_all HX2.out.kb) Try.underlying35 rfl (k_inf _) ?_) | (go_at_call 24; ((with_reducible refine (cD _ HX2.out.bel).mono ?_); rintro e w3 ⟨rfl, b3⟩)))
  obtain ⟨ga, hga⟩ : ∃ g, g = w3.heap.size := ⟨_, rfl⟩
  obtain ⟨w4, hw4⟩ : ∃ x, x = w3.alloc (.cells #[.int .u64 (dstP c k).1, .int .u64 (dstP c k).2.1] 33) := ⟨_, rfl⟩
  have HX4 : Hid (RQ w w4 gc gk gp gq c k (p0 k)) := Lib.hid (by rw [hw4]; exact (HX2.out.below b3).below (bel_al _ _))
  have ha4 : w4.heap[ga]? = some (.cells #[.int .u64 (dstP c k).1, .int .u64 (dstP c k).2.1] 33 (0, 0)) := by rw [hw4, hga]; exact al_new rfl _
  have hagq : ga ≠ gq := by have := blk_lt (HX2.out.below b3).qb; omega
  rw [← hw4, ← hga]
  obtain ⟨y0, y1, _, _⟩ := cells2 ha4
  have HA4 := Lib.hid ha4
  clear hw4 hga b3 HX2 cD ha4
  go_upto_region 4 with ((with_reducible refine stop_op (o := ⟨none, .store 33 (.tmp 35) (.tmp 33), _, _, _, _⟩) ?_); refine Lib.hid ?_; refine wpList_store_mid rfl 33 (.tmp 35) (.tmp 33) rfl gq 3 (#[.int .u64 (dstP c k).1, .int .u64 (dstP c k).2.1]) rfl rfl (HX4.out.there (o := 3) (n := 2) (by omega)) (by kernel_rfl) (by simp [Value.oneCell']) ?_)
  have ho5 := setCells_off (#[.int .u64 (dstP c k).1, .int .u64 (dstP c k).2.1] : Array Value).toList 3 w4 gq
  have HX5' : Hid (RQ w (w4.setCells gq 3 (#[.int .u64 (dstP c k).1, .int .u64 (dstP c k).2.1] : Array Value).toList) gc gk gp gq c k { p0 k with ju := { k with dh := (dstP c k).1, dl := (dstP c k).2.1 } }) := Lib.hid (HX4.out.setq 3 _ _ (by kernel_rfl))
  have ha5 := (ho5.block _ (blk_lt HA4.out) hagq).trans HA4.out
  obtain ⟨w5, hw5⟩ : ∃ x, x = w4.setCells gq 3 (#[.int .u64 (dstP c k).1, .int .u64 (dstP c k).2.1] : Array Value).toList := ⟨_, rfl⟩
  rw [← hw5] at HX5' ha5
  try simp only [Act.put]
  change Code.wp _ _ _ _ (w4.setCells gq 3 (#[.int .u64 (dstP c k).1, .int .u64 (dstP c k).2.1] : Array Value).toList)
  rw [← hw5]
  have HX5 := HX5'
  have HA5 := Lib.hid ha5
  clear hw5 ho5 ha5 HX5' HX4 HA4 y0 y1
  have k0 : w5.cell? ⟨gk, 0, none⟩ = some (.int .i64 k.proto) := HX5.out.kcell 0 rfl
  have cI := fun W => icmp_any k.proto W
  have HIC := Lib.hid hi
  rw [hi] at cI
  clear hi
  go_upto_region 6 with (go_at_call 25; ((with_reducible refine (cI _).mono ?_); rintro e w6 ⟨rfl, h6⟩; rw [h6]; clear h6))
  have e6 : judK c k = { k with dh := (dstP c k).1, dl := (dstP c k).2.1 } := by unfold judK; rw [icmp_jud HIC.out]
  have HX6 : Hid (RQ w w5 gc gk gp gq c k { p0 k with ju := judK c k }) := Lib.hid (by rw [e6]; exact HX5.out)
  have hA6 := HA5.out
  clear e6
  clear k0 cI
  obtain ⟨y0, y1, _, _⟩ := cells2 hA6
  have HA6 := Lib.hid hA6
  clear hA6 HX5 HA5
  have cR := fun W (b : Below w.heap.size w W) => rroute_k c (dstP c k).1 (dstP c k).2.1 (hc.keep b)
  obtain ⟨ra, hra⟩ : ∃ x, x = (routeP c (dstP c k).1 (dstP c k).2.1).1 := ⟨_, rfl⟩
  obtain ⟨rb, hrb⟩ : ∃ x, x = (routeP c (dstP c k).1 (dstP c k).2.1).2 := ⟨_, rfl⟩
  rw [← hra, ← hrb] at cR
  have HRA := Lib.hid hra
  have HRB := Lib.hid hrb
  clear hra hrb
  go_upto_region 7 with (first | ((with_reducible refine stop_op (o := ⟨some 44, _, _, _, _, _⟩) ?_); refine Lib.hid ?_; refine wpList_load_cells rfl 30 (.tmp 4) rfl ⟨gc, 0, none⟩ rfl (cfc c) _ (blk_all HX6.out.cb) Try.underlying30 rfl (c_inf _) ?_) | (go_at_call 12; ((with_reducible refine (cR _ HX6.out.bel).mono ?_); rintro e w7 ⟨rfl, b7⟩; have q35 : w7.cell? ⟨gq, 35, none⟩ = some (.int .i64 0) := (HX6.out.below b7).cell 35 rfl; have q36 : w7.cell? ⟨gq, 36, none⟩ = some (.int .i64 0) := (HX6.out.below b7).cell 36 rfl; have z35 := (HX6.out.below b7).free 35; have z36 := (HX6.out.below b7).free 36)))
  have HX8' : Hid (RQ w ((w7.setCell ⟨gq, 35, none⟩ (.int .i64 ra)).setCell ⟨gq, 36, none⟩ (.int .i64 rb)) gc gk gp gq c k { p0 k with ju := judK c k, ifc := ra, zo := rb }) := Lib.hid (((HX6.out.below b7).set1 35 (.int .i64 ra) { p0 k with ju := judK c k, ifc := ra } (by kernel_rfl)).set1 36 (.int .i64 rb) _ (by kernel_rfl))
  obtain ⟨w8, hw8⟩ : ∃ x, x = (w7.setCell ⟨gq, 35, none⟩ (.int .i64 ra)).setCell ⟨gq, 36, none⟩ (.int .i64 rb) := ⟨_, rfl⟩
  rw [← hw8] at HX8' ⊢
  have HX8 := HX8'
  clear hw8 HX8' HX6 HA6 q35 q36 z35 z36 b7 y0 y1 cR hagq
  have q35 : w8.cell? ⟨gq, 35, none⟩ = some (.int .i64 ra) := HX8.out.cell 35 rfl
  have q36 : w8.cell? ⟨gq, 36, none⟩ = some (.int .i64 rb) := HX8.out.cell 36 rfl
  have HJ : Hid ((judK c k).dh = (dstP c k).1 ∧ (judK c k).dl = (dstP c k).2.1) := Lib.hid ⟨rfl, rfl⟩
  have e1 : ra ≠ -1 := by rw [HRA.out]; exact HN.out.1
  have e2 : rb ≠ -1 := by rw [HRB.out]; exact HN.out.2
  have c1b : (ra == -1) = false := by simp [e1]
  have c2b : (rb == -1) = false := by simp [e2]
  clear e1 e2
  go_upto_region 12 with (first | ((with_reducible refine stop_op (o := ⟨some 60, _, _, _, _, _⟩) ?_); refine Lib.hid ?_; refine wpList_load_cells rfl 35 (.tmp 59) rfl ⟨gq, 0, none⟩ rfl (KA (judK c k)) _ (HX8.out.c_ju) Try.underlying35 rfl (k_inf _) ?_) | ((with_reducible refine stop_op (o := ⟨none, .store 35 (.tmp 61) (.tmp 60), _, _, _, _⟩) ?_); refine Lib.hid ?_; refine wpList_store_mid rfl 35 (.tmp 61) (.tmp 60) rfl gq 14 (KA (judK c k)) rfl rfl (HX8.out.there (o := 14) (n := 7) (by omega)) (k_inf _) (k_one _) ?_))
  have HX9' : Hid (RQ w (w8.setCells gq 14 (KA (judK c k)).toList) gc gk gp gq c k { p0 k with ju := judK c k, ifc := ra, zo := rb, ou := judK c k }) := Lib.hid (HX8.out.setq 14 _ _ (by kernel_rfl))
  obtain ⟨w9, hw9⟩ : ∃ x, x = w8.setCells gq 14 (KA (judK c k)).toList := ⟨_, rfl⟩
  rw [← hw9] at HX9'
  try simp only [Act.put]
  change Code.wp _ _ _ _ (w8.setCells gq 14 (KA (judK c k)).toList)
  rw [← hw9]
  have HX9 := HX9'
  clear hw9 HX9' HX8 q35 q36
  have q36 : w9.cell? ⟨gq, 36, none⟩ = some (.int .i64 rb) := HX9.out.cell 36 rfl
  have cS := fun W (b : Below w.heap.size w W) => rsource_k c rb (judK c k) (hc.keep b) ⟨hk.2.1, hk.2.2.1⟩
  rw [show srcP c rb (judK c k) = -1 by rw [HRB.out]; exact HSR.out] at cS
  go_upto_region 16 with (first | ((with_reducible refine stop_op (o := ⟨some 62, _, _, _, _, _⟩) ?_); refine Lib.hid ?_; refine wpList_load_cells rfl 30 (.tmp 4) rfl ⟨gc, 0, none⟩ rfl (cfc c) _ (blk_all HX9.out.cb) Try.underlying30 rfl (c_inf _) ?_) | ((with_reducible refine stop_op (o := ⟨some 66, _, _, _, _, _⟩) ?_); refine Lib.hid ?_; refine wpList_load_cells rfl 35 (.tmp 65) rfl ⟨gq, 0, none⟩ rfl (KA (judK c k)) _ (HX9.out.c_ju) Try.underlying35 rfl (k_inf _) ?_) | (go_at_call 26; ((with_reducible refine (cS _ HX9.out.bel).mono ?_); rintro e w10 ⟨rfl, b10⟩)))
  have HX10 := Lib.hid (HX9.out.below b10)
  clear b10 HX9 q36 cS
  have hjn : j < c.zn := by have := getE HZZ.out; have := hc.z.len; omega
  obtain ⟨bb, off, hA, hlb, hrow⟩ := hc.z.row (by omega)
  have hzb := hc.z.big
  have HZC : Hid (∀ W, Below w.heap.size w W → W.cell? ⟨bb, off + j * 4 + 1, none⟩ = some (.int .u64 z.ah) ∧ W.cell? ⟨bb, off + j * 4 + 1 + 1, none⟩ = some (.int .u64 z.al)) := Lib.hid (fun W hW => ⟨keepc hW (hrow j z HZZ.out 1 _ rfl), keepc hW (hrow j z HZZ.out 2 _ rfl)⟩)
  have HWZ := Lib.hid (hc.zw z (List.mem_of_getElem? HZZ.out))
  have HA := Lib.hid hA
  have hjI : (j : Int) < (c.zn : Int) := by omega
  have hjg : (0 : Int) ≤ (j : Int) := by omega
  have HZI : Hid ((rb == (j : Int)) = true) := Lib.hid (beq_iff_eq.2 (by rw [HRB.out]; exact HZJ.out))
  clear hrow hA
  go_upto_region 22 with fail
  refine wp_region_held_drew (S := fun W1 : World => RQ w W1 gc gk gp gq c k { p0 k with ju := judK c k, ifc := ra, zo := rb, ou := judK c k }) (by kernel_rfl) (HX10.out.below (bel_dr (Below.refl _ _))) (fun hS0 => ?_)
  obtain ⟨wd0, hwd⟩ : ∃ x, x = w10.drew := ⟨_, rfl⟩
  rw [← hwd] at hS0 ⊢
  clear hwd
  refine wpAnyH_take (i := 0) (oi := ⟨some 99, _, _, _, _, _⟩) (v := .int .i64 (dstP c k).2.2.2) rfl (by kernel_rfl) (by kernel_rfl) (by kernel_rfl) (fun _ _ _ h => h) (.inl ⟨by rfl, fun W hW => by go_simp⟩) hS0 ?_
  try simp only [Act.put, List.setIfInBounds_toArray, List.set_cons_zero, List.set_cons_succ]
  refine wpAnyH_take (i := 1) (oi := ⟨some 100, _, _, _, _, _⟩) (v := .bool true) rfl (by kernel_rfl) (by kernel_rfl) (by kernel_rfl) (fun _ _ _ h => h) (.inl ⟨by rfl, fun W hW => by have hd := HDI.out; go_simp⟩) hS0 ?_
  try simp only [Act.put, List.setIfInBounds_toArray, List.set_cons_zero, List.set_cons_succ]
  refine wpAnyH_take (i := 2) (oi := ⟨some 101, _, _, _, _, _⟩) (v := .bool true) rfl (by kernel_rfl) (by kernel_rfl) (by kernel_rfl) (fun _ _ _ h => h) (.inl ⟨by rfl, fun W hW => by go_simp⟩) hS0 ?_
  try simp only [Act.put, List.setIfInBounds_toArray, List.set_cons_zero, List.set_cons_succ]
  refine wpAnyH_take (i := 3) (oi := ⟨some 102, _, _, _, _, _⟩) (v := .pointer (some ⟨gq, 36, none⟩)) rfl (by kernel_rfl) (by kernel_rfl) (by kernel_rfl) (fun _ _ _ h => h) (.inl ⟨by rfl, fun W hW => by go_simp⟩) hS0 ?_
  try simp only [Act.put, List.setIfInBounds_toArray, List.set_cons_zero, List.set_cons_succ]
  refine wpAnyH_take (i := 4) (oi := ⟨some 103, _, _, _, _, _⟩) (v := .int .i64 rb) rfl (by kernel_rfl) (by kernel_rfl) (by kernel_rfl) (fun _ _ _ h => h) (.inl ⟨by rfl, fun W hW => by have hx : W.cell? ⟨gq, 36, none⟩ = some (.int .i64 rb) := hW.cell 36 rfl; go_simp⟩) hS0 ?_
  try simp only [Act.put, List.setIfInBounds_toArray, List.set_cons_zero, List.set_cons_succ]
  refine wpAnyH_take (i := 5) (oi := ⟨some 104, _, _, _, _, _⟩) (v := .int .i64 (j : Int)) rfl (by kernel_rfl) (by kernel_rfl) (by kernel_rfl) (fun _ _ _ h => h) (.inl ⟨by rfl, fun W hW => by go_simp⟩) hS0 ?_
  try simp only [Act.put, List.setIfInBounds_toArray, List.set_cons_zero, List.set_cons_succ]
  refine wpAnyH_take (i := 6) (oi := ⟨some 105, _, _, _, _, _⟩) (v := .bool true) rfl (by kernel_rfl) (by kernel_rfl) (by kernel_rfl) (fun _ _ _ h => h) (.inl ⟨by rfl, fun W hW => by have hd := HZI.out; go_simp⟩) hS0 ?_
  try simp only [Act.put, List.setIfInBounds_toArray, List.set_cons_zero, List.set_cons_succ]
  refine wpAnyH_take (i := 7) (oi := ⟨some 106, _, _, _, _, _⟩) (v := .bool true) rfl (by kernel_rfl) (by kernel_rfl) (by kernel_rfl) (fun _ _ _ h => h) (.inl ⟨by rfl, fun W hW => by go_simp⟩) hS0 ?_
  try simp only [Act.put, List.setIfInBounds_toArray, List.set_cons_zero, List.set_cons_succ]
  refine wpAnyH_take (i := 8) (oi := ⟨some 107, _, _, _, _, _⟩) (v := .bool true) rfl (by kernel_rfl) (by kernel_rfl) (by kernel_rfl) (fun _ _ _ h => h) (.inl ⟨by rfl, fun W hW => by go_simp⟩) hS0 ?_
  try simp only [Act.put, List.setIfInBounds_toArray, List.set_cons_zero, List.set_cons_succ]
  refine wpAnyH_take (i := 9) (oi := ⟨some 108, _, _, _, _, _⟩) (v := .pointer (some ⟨gc, 0, none⟩)) rfl (by kernel_rfl) (by kernel_rfl) (by kernel_rfl) (fun _ _ _ h => h) (.inl ⟨by rfl, fun W hW => by go_simp⟩) hS0 ?_
  try simp only [Act.put, List.setIfInBounds_toArray, List.set_cons_zero, List.set_cons_succ]
  refine wpAnyH_take (i := 10) (oi := ⟨some 109, _, _, _, _, _⟩) (v := .slice (some ⟨bb, off, none⟩) c.zn c.zc) rfl (by kernel_rfl) (by kernel_rfl) (by kernel_rfl) (fun _ _ _ h => h) (.inl ⟨by rfl, fun W hW => by have hx : W.cell? ⟨gc, 0, none⟩ = some (.slice (some ⟨bb, off, none⟩) c.zn c.zc) := (by rw [← HA.out]; exact hW.ccell 0 rfl); go_simp⟩) hS0 ?_
  try simp only [Act.put, List.setIfInBounds_toArray, List.set_cons_zero, List.set_cons_succ]
  refine wpAnyH_take (i := 11) (oi := ⟨some 110, _, _, _, _, _⟩) (v := .int .i64 (j : Int)) rfl (by kernel_rfl) (by kernel_rfl) (by kernel_rfl) (fun _ _ _ h => h) (.inl ⟨by rfl, fun W hW => by go_simp⟩) hS0 ?_
  try simp only [Act.put, List.setIfInBounds_toArray, List.set_cons_zero, List.set_cons_succ]
  refine wpAnyH_take (i := 12) (oi := ⟨some 111, _, _, _, _, _⟩) (v := .pointer (some ⟨bb, off + j * 4, none⟩)) rfl (by kernel_rfl) (by kernel_rfl) (by kernel_rfl) (fun _ _ _ h => h) (.inl ⟨by rfl, fun W hW => by go_simp⟩) hS0 ?_
  try simp only [Act.put, List.setIfInBounds_toArray, List.set_cons_zero, List.set_cons_succ]
  refine wpAnyH_take (i := 13) (oi := ⟨some 112, _, _, _, _, _⟩) (v := .pointer (some ⟨bb, off + j * 4 + 1, none⟩)) rfl (by kernel_rfl) (by kernel_rfl) (by kernel_rfl) (fun _ _ _ h => h) (.inl ⟨by rfl, fun W hW => by go_simp⟩) hS0 ?_
  try simp only [Act.put, List.setIfInBounds_toArray, List.set_cons_zero, List.set_cons_succ]
  refine wpAnyH_take (i := 14) (oi := ⟨some 113, _, _, _, _, _⟩) (v := .agg #[.int .u64 z.ah, .int .u64 z.al]) rfl (by kernel_rfl) (by kernel_rfl) (by kernel_rfl) (fun _ _ _ h => h) (.inl ⟨by rfl, fun W hW => by obtain ⟨x1, x2⟩ := HZC.out W hW.bel; go_simp⟩) hS0 ?_
  try simp only [Act.put, List.setIfInBounds_toArray, List.set_cons_zero, List.set_cons_succ]
  refine wpAnyH_take (i := 16) (oi := ⟨some 115, _, _, _, _, _⟩) (v := .pointer (some ⟨gk, 1, none⟩)) rfl (by kernel_rfl) (by kernel_rfl) (by kernel_rfl) (fun _ _ _ h => h) (.inl ⟨by rfl, fun W hW => by go_simp⟩) hS0 ?_
  try simp only [Act.put, List.setIfInBounds_toArray, List.set_cons_zero, List.set_cons_succ]
  refine wpAnyH_take (i := 17) (oi := ⟨some 116, _, _, _, _, _⟩) (v := .agg #[.int .u64 k.sh, .int .u64 k.sl]) rfl (by kernel_rfl) (by kernel_rfl) (by kernel_rfl) (fun _ _ _ h => h) (.inl ⟨by rfl, fun W hW => by have x1 : W.cell? ⟨gk, 1, none⟩ = some (.int .u64 k.sh) := hW.kcell 1 rfl; have x2 : W.cell? ⟨gk, 2, none⟩ = some (.int .u64 k.sl) := hW.kcell 2 rfl; go_simp⟩) hS0 ?_
  try simp only [Act.put, List.setIfInBounds_toArray, List.set_cons_zero, List.set_cons_succ]
  refine wpAnyH_ready (rs := [15]) (by kernel_rfl) (by simp) ?_
  refine AllReadyH.cons (o := ⟨some 114, _, _, _, _, _⟩) rfl (fun K hK => ?_) AllReadyH.nil
  go_simp
  go_at_call 27
  ((with_reducible refine (ris4_any z.ah z.al HWZ.out.1 HWZ.out.2 _).mono ?_); rintro e wd1 ⟨rfl, bC1⟩)
  have hS1 := hS0.below bC1
  refine hK.out _ _ hS1 (fun _ => ?_)
  clear hK K
  try simp only [Act.put, List.setIfInBounds_toArray, List.set_cons_zero, List.set_cons_succ]
  refine wpAnyH_ready (rs := [18]) (by kernel_rfl) (by simp) ?_
  refine AllReadyH.cons (o := ⟨some 117, _, _, _, _, _⟩) rfl (fun K hK => ?_) AllReadyH.nil
  go_simp
  go_at_call 27
  ((with_reducible refine (ris4_any k.sh k.sl (ky_w hk).1 (ky_w hk).2 _).mono ?_); rintro e wd2 ⟨rfl, bC2⟩)
  have hS2 := hS1.below bC2
  refine hK.out _ _ hS2 (fun _ => ?_)
  clear hK K
  try simp only [Act.put, List.setIfInBounds_toArray, List.set_cons_zero, List.set_cons_succ]
  refine wpAnyH_take (i := 19) (oi := ⟨some 118, _, _, _, _, _⟩) (v := .bool (is4I z.ah z.al == is4I k.sh k.sl)) rfl (by kernel_rfl) (by kernel_rfl) (by kernel_rfl) (fun _ _ _ h => h) (.inl ⟨by rfl, fun W hW => by go_simp⟩) hS2 ?_
  try simp only [Act.put, List.setIfInBounds_toArray, List.set_cons_zero, List.set_cons_succ]
  rw [H4S.out]
  refine wpAnyH_take (i := 20) (oi := ⟨some 119, _, _, _, _, _⟩) (v := .bool true) rfl (by kernel_rfl) (by kernel_rfl) (by kernel_rfl) (fun _ _ _ h => h) (.inl ⟨by rfl, fun W hW => by go_simp⟩) hS2 ?_
  try simp only [Act.put, List.setIfInBounds_toArray, List.set_cons_zero, List.set_cons_succ]
  refine wpAnyH_take (i := 21) (oi := ⟨some 98, _, _, _, _, _⟩) (v := .bool true) rfl (by kernel_rfl) (by kernel_rfl) (by kernel_rfl) (fun _ _ _ h => h) (.inl ⟨by rfl, fun W hW => by go_simp⟩) hS2 ?_
  try simp only [Act.put, List.setIfInBounds_toArray, List.set_cons_zero, List.set_cons_succ]
  refine wpAnyH_done (by kernel_rfl) ?_ _
  try simp only [Act.put, List.setIfInBounds_toArray, List.set_cons_zero, List.set_cons_succ]
  have HX22' := Lib.hid hS2
  obtain ⟨wz, hwz⟩ : ∃ x, x = wd2 := ⟨_, rfl⟩
  rw [← hwz] at HX22' ⊢
  have HX22 := HX22'
  clear hwz HX22' HX10
  have c0 : wz.cell? ⟨gc, 0, none⟩ = some (.slice (some ⟨bb, off, none⟩) c.zn c.zc) := by rw [← HA.out]; exact HX22.out.ccell 0 rfl
  obtain ⟨x1, x2⟩ := HZC.out wz HX22.out.bel
  have hlw : bb < wz.heap.size := Nat.lt_of_lt_of_le hlb HX22.out.bel.size
  go_upto_region 24 with ((with_reducible refine stop_op (o := ⟨none, .store 33 (.tmp 127) (.tmp 125), _, _, _, _⟩) ?_); refine Lib.hid ?_; refine wpList_store_mid rfl 33 (.tmp 127) (.tmp 125) rfl gq 15 (#[.int .u64 z.ah, .int .u64 z.al]) rfl rfl (HX22.out.there (o := 15) (n := 2) (by omega)) (by kernel_rfl) (by simp [Value.oneCell']) ?_)
  have HX23' : Hid (RQ w (wz.setCells gq 15 (#[Value.int .u64 z.ah, Value.int .u64 z.al]).toList) gc gk gp gq c k { p0 k with ju := judK c k, ifc := ra, zo := rb, ou := { judK c k with sh := z.ah, sl := z.al } }) := Lib.hid (HX22.out.setq 15 _ _ (by kernel_rfl))
  obtain ⟨w23, hw23⟩ : ∃ x, x = wz.setCells gq 15 (#[Value.int .u64 z.ah, Value.int .u64 z.al]).toList := ⟨_, rfl⟩
  rw [← hw23] at HX23'
  try simp only [Act.put]
  change Code.wp _ _ _ _ (wz.setCells gq 15 (#[Value.int .u64 z.ah, Value.int .u64 z.al]).toList)
  rw [← hw23]
  have HX23 := HX23'
  clear hw23 HX23' HX22 c0 x1 x2 hlw
  go_upto_region 27 with fail
  have k0 : w23.cell? ⟨gk, 0, none⟩ = some (.int .i64 k.proto) := HX23.out.kcell 0 rfl
  have cPo := fun W => ported_any16 k.proto W
  rw [HPO.out] at cPo
  obtain ⟨cn, hcn⟩ : ∃ cn, cn = cnt 1024 65535 := ⟨_, rfl⟩
  have HCN := Lib.hid hcn
  clear hcn
  have HQQ : Hid (portQ (d3 c (j : Int) k 0) tk = scanK ({ judK c k with sh := z.ah, sl := z.al }) k tk 1024 65535 cn 0) := Lib.hid (by rw [portQ_yes (hair_yes HSR.out HDN.out HZJ.out HZJ.out HZZ.out H4S.out HPO.out).1 (hair_yes HSR.out HDN.out HZJ.out HZJ.out HZZ.out H4S.out HPO.out).2.1 (hair_yes HSR.out HDN.out HZJ.out HZJ.out HZZ.out H4S.out HPO.out).2.2.1 (hair_yes HSR.out HDN.out HZJ.out HZJ.out HZZ.out H4S.out HPO.out).2.2.2, ← HCN.out])
  have HCL : Hid (cn ≤ 65536) := Lib.hid (by rw [HCN.out]; exact cnt_le _ _)
  have HPR : Hid (({ judK c k with sh := z.ah, sl := z.al }).proto = k.proto) := Lib.hid rfl
  go_wp2_with (go_at_call 28; ((with_reducible refine (cPo _).mono ?_); rintro e wp ⟨rfl, hp⟩; rw [hp]; clear hp))
  clear k0 cPo
  go_loopw [18] (fun v18 wr => ∃ i : Nat, v18 = .int .i64 i ∧ i ≤ cn ∧ ∃ o b, Hid (RQ w wr gc gk gp gq c k { p0 k with ju := judK c k, ifc := ra, zo := rb, ou := o, ba := b } ∧ (∀ p, tryK o p = tryK ({ judK c k with sh := z.ah, sl := z.al }) p) ∧ o.proto = k.proto ∧ scanK ({ judK c k with sh := z.ah, sl := z.al }) k tk 1024 65535 cn 0 = scanK ({ judK c k with sh := z.ah, sl := z.al }) k tk 1024 65535 (cn - i) i)) (fun v18 _ => cn + 1 - (intOf v18).toNat)
  case atStart => exact ⟨0, rfl, by omega, { judK c k with sh := z.ah, sl := z.al }, zK, Lib.hid ⟨HX23.out, fun _ => rfl, rfl, rfl⟩⟩
  case round =>
    obtain ⟨i, rfl, hi, o, b, HI⟩ := hrel
    have HIX := Lib.hid HI.out.1
    have hi5 : i ≤ 65536 := by have := HCL.out; omega
    have k5 : wr.cell? ⟨gk, 5, none⟩ = some (.int .i64 k.sp) := HIX.out.kcell 5 rfl
    have cP := fun W => rport_any 1024 65535 k.sp i W (by unfold i64ok; omega) (by unfold i64ok; omega) hk.2.2.2.2.2.1 (by have := HCL.out; unfold i64ok; omega)
    have hpok := port_ok 1024 65535 k.sp i
    rw [← HCN.out] at hpok
    obtain ⟨p, hp⟩ : ∃ p, p = (portP 1024 65535 k.sp i).1 := ⟨_, rfl⟩
    obtain ⟨ok, hok⟩ : ∃ ok, ok = (portP 1024 65535 k.sp i).2 := ⟨_, rfl⟩
    rw [← hok] at hpok
    rw [← hp, ← hok] at cP
    have HPP := Lib.hid hp
    clear hp hok
    by_cases hlt : i < cn
    · have HLT := Lib.hid hlt
      have hcc := hlt
      rw [HCN.out] at hcc
      have hst : scanK ({ judK c k with sh := z.ah, sl := z.al }) k tk 1024 65535 (cn - i) i = if freeB (turnK (tryK ({ judK c k with sh := z.ah, sl := z.al }) p)) k tk then some (tryK ({ judK c k with sh := z.ah, sl := z.al }) p) else scanK ({ judK c k with sh := z.ah, sl := z.al }) k tk 1024 65535 (cn - (i + 1)) (i + 1) := by
        rw [show cn - i = (cn - (i + 1)) + 1 by omega, scanK, ← HPP.out]
      have HST := Lib.hid hst
      have hle : (i : Int) ≤ 64511 := by have := cnt_of hcc; omega
      rw [show ok = true by rw [hpok]; simpa using hlt] at cP
      have q19 : wr.cell? ⟨gq, 19, none⟩ = some (.int .i64 o.sp) := HIX.out.cell 19 rfl
      have z19 := HIX.out.free 19
      clear hcc hst hpok
      go_upto_region 39 with (go_at_call 16; ((with_reducible refine (cP _).mono ?_); rintro e wo ⟨rfl, ho⟩; rw [ho]; clear ho))
      have HX38' : Hid (RQ w (wr.setCell ⟨gq, 19, none⟩ (.int .i64 p)) gc gk gp gq c k { p0 k with ju := judK c k, ifc := ra, zo := rb, ou := { o with sp := p }, ba := b }) := Lib.hid (HIX.out.set1 19 (.int .i64 p) _ (by kernel_rfl))
      obtain ⟨w38, hw38⟩ : ∃ x, x = wr.setCell ⟨gq, 19, none⟩ (.int .i64 p) := ⟨_, rfl⟩
      try simp only [Act.put]
      rw [← hw38] at HX38' ⊢
      have HX38 := HX38'
      clear hw38 HX38' q19 z19 k5 cP
      have k0 : w38.cell? ⟨gk, 0, none⟩ = some (.int .i64 k.proto) := HX38.out.kcell 0 rfl
      have cI := fun W => icmp_any k.proto W
      rw [HIC.out] at cI
      have q20 : w38.cell? ⟨gq, 20, none⟩ = some (.int .i64 o.dp) := HX38.out.cell 20 rfl
      have z20 := HX38.out.free 20
      have HOP : Hid (icmpB o.proto = true) := Lib.hid (by rw [HI.out.2.2.1]; exact HIC.out)
      go_upto_region 41 with (go_at_call 25; ((with_reducible refine (cI _).mono ?_); rintro e w6 ⟨rfl, h6⟩; rw [h6]; clear h6))
      have e40 : ({ { o with sp := p } with dp := p } : KR) = tryK ({ judK c k with sh := z.ah, sl := z.al }) p := by rw [← HI.out.2.1 p]; unfold tryK; rw [HOP.out]; rfl
      have HX40' : Hid (RQ w (w38.setCell ⟨gq, 20, none⟩ (.int .i64 p)) gc gk gp gq c k { p0 k with ju := judK c k, ifc := ra, zo := rb, ou := tryK ({ judK c k with sh := z.ah, sl := z.al }) p, ba := b }) := Lib.hid (by rw [← e40]; exact HX38.out.set1 20 (.int .i64 p) _ (by kernel_rfl))
      obtain ⟨w40, hw40⟩ : ∃ x, x = w38.setCell ⟨gq, 20, none⟩ (.int .i64 p) := ⟨_, rfl⟩
      try simp only [Act.put]
      rw [← hw40] at HX40' ⊢
      have HX40 := HX40'
      clear hw40 HX40' e40
      clear k0 cI q20 z20 HX38
      have cT2 := fun W => rturn_any (tryK ({ judK c k with sh := z.ah, sl := z.al }) p) W
      have HTH : Hid (∀ W, Below w40.heap.size w40 W → W.there gq 21 7) := Lib.hid (fun W b => (HX40.out.below b).there (by omega))
      go_upto_region 42 with (first | ((with_reducible refine stop_op (o := ⟨some 177, _, _, _, _, _⟩) ?_); refine Lib.hid ?_; refine wpList_load_cells rfl 35 (.tmp 176) rfl ⟨gq, 14, none⟩ rfl (KA (tryK ({ judK c k with sh := z.ah, sl := z.al }) p)) _ (HX40.out.c_ou) Try.underlying35 rfl (k_inf _) ?_) | (go_at_call 13; ((with_reducible refine (cT2 _).mono ?_); rintro e w12 ⟨rfl, b12⟩)) | ((with_reducible refine stop_op (o := ⟨none, .store 35 (.tmp 179) (.tmp 178), _, _, _, _⟩) ?_); refine Lib.hid ?_; refine wpList_store_mid rfl 35 (.tmp 179) (.tmp 178) rfl gq 21 (KA (turnK (tryK ({ judK c k with sh := z.ah, sl := z.al }) p))) rfl rfl (HTH.out _ b12) (k_inf _) (k_one _) ?_))
      have HX42' : Hid (RQ w (w12.setCells gq 21 (KA (turnK (tryK ({ judK c k with sh := z.ah, sl := z.al }) p))).toList) gc gk gp gq c k { p0 k with ju := judK c k, ifc := ra, zo := rb, ou := tryK ({ judK c k with sh := z.ah, sl := z.al }) p, ba := turnK (tryK ({ judK c k with sh := z.ah, sl := z.al }) p) }) := Lib.hid ((HX40.out.below b12).setq 21 _ _ (by kernel_rfl))
      obtain ⟨w42, hw42⟩ : ∃ x, x = w12.setCells gq 21 (KA (turnK (tryK ({ judK c k with sh := z.ah, sl := z.al }) p))).toList := ⟨_, rfl⟩
      rw [← hw42] at HX42'
      try simp only [Act.put]
      change Code.wp _ _ _ _ (w12.setCells gq 21 (KA (turnK (tryK ({ judK c k with sh := z.ah, sl := z.al }) p))).toList)
      rw [← hw42]
      have HX42 := HX42'
      clear hw42 HX42' b12 HTH HX40 cT2
      have cF := fun W (b : Below w.heap.size w W) => free_any (turnK (tryK ({ judK c k with sh := z.ah, sl := z.al }) p)) k A n cap tk (HSS.out.keep b)
      obtain ⟨fr, hfr⟩ : ∃ fr, fr = freeB (turnK (tryK ({ judK c k with sh := z.ah, sl := z.al }) p)) k tk := ⟨_, rfl⟩
      rw [← hfr] at cF
      have HFR := Lib.hid hfr
      clear hfr
      have HP : Hid ({ p0 k with ju := judK c k, ifc := ra, zo := rb, ou := tryK ({ judK c k with sh := z.ah, sl := z.al }) p, ba := turnK (tryK ({ judK c k with sh := z.ah, sl := z.al }) p) } = pO c k (tryK ({ judK c k with sh := z.ah, sl := z.al }) p) (turnK (tryK ({ judK c k with sh := z.ah, sl := z.al }) p))) := Lib.hid (by rw [HRA.out, HRB.out]; rfl)
      cases fr
      · go_wp2_with (first | ((with_reducible refine stop_op (o := ⟨some 181, _, _, _, _, _⟩) ?_); refine Lib.hid ?_; refine wpList_load_cells rfl 35 (.tmp 180) rfl ⟨gq, 21, none⟩ rfl (KA (turnK (tryK ({ judK c k with sh := z.ah, sl := z.al }) p))) _ (HX42.out.c_ba) Try.underlying35 rfl (k_inf _) ?_) | ((with_reducible refine stop_op (o := ⟨some 182, _, _, _, _, _⟩) ?_); refine Lib.hid ?_; refine wpList_load_cells rfl 35 (.tmp 6) rfl ⟨gk, 0, none⟩ rfl (KA k) _ (blk_all HX42.out.kb) Try.underlying35 rfl (k_inf _) ?_) | (go_at_call 29; ((with_reducible refine (cF _ HX42.out.bel).mono ?_); rintro e w14 ⟨rfl, b14⟩; have HX43 := Lib.hid (HX42.out.below b14); clear b14)))
        exact ⟨⟨i + 1, by first | rfl | go_num, by have := HLT.out; omega, _, _, Lib.hid ⟨HX43.out, fun x => try_try _ _ _, by rw [try_proto]; exact HPR.out, by rw [HI.out.2.2.2, HST.out, ← HFR.out]; rfl⟩⟩, by have := HLT.out; simp [intOf]; omega⟩
      · have HE : Hid (makeP c (j : Int) k tk = (pO c k (tryK ({ judK c k with sh := z.ah, sl := z.al }) p) (turnK (tryK ({ judK c k with sh := z.ah, sl := z.al }) p)), 0)) := Lib.hid (by rw [make_rest HN.out.1 HN.out.2, HQQ.out, HI.out.2.2.2, HST.out, ← HFR.out]; rfl)
        go_wp2_with (first | ((with_reducible refine stop_op (o := ⟨some 181, _, _, _, _, _⟩) ?_); refine Lib.hid ?_; refine wpList_load_cells rfl 35 (.tmp 180) rfl ⟨gq, 21, none⟩ rfl (KA (turnK (tryK ({ judK c k with sh := z.ah, sl := z.al }) p))) _ (HX42.out.c_ba) Try.underlying35 rfl (k_inf _) ?_) | ((with_reducible refine stop_op (o := ⟨some 182, _, _, _, _, _⟩) ?_); refine Lib.hid ?_; refine wpList_load_cells rfl 35 (.tmp 6) rfl ⟨gk, 0, none⟩ rfl (KA k) _ (blk_all HX42.out.kb) Try.underlying35 rfl (k_inf _) ?_) | (go_at_call 29; ((with_reducible refine (cF _ HX42.out.bel).mono ?_); rintro e w14 ⟨rfl, b14⟩; have HX43 := Lib.hid (HX42.out.below b14); clear b14)) | ((with_reducible refine stop_op (o := ⟨some 185, _, _, _, _, _⟩) ?_); refine Lib.hid ?_; refine wpList_load_cells rfl 54 (.tmp 10) rfl ⟨gq, 0, none⟩ rfl (PA ({ p0 k with ju := judK c k, ifc := ra, zo := rb, ou := tryK ({ judK c k with sh := z.ah, sl := z.al }) p, ba := turnK (tryK ({ judK c k with sh := z.ah, sl := z.al }) p) })) _ (HX43.out.c_all) Try.underlying54 rfl (rp_inf _) ?_) | ((with_reducible refine stop_op (o := ⟨none, .store 54 (.tmp 8) (.tmp 185), _, _, _, _⟩) ?_); refine Lib.hid ?_; refine wpList_store_row rfl 54 (.tmp 8) (.tmp 185) rfl gp (PA ({ p0 k with ju := judK c k, ifc := ra, zo := rb, ou := tryK ({ judK c k with sh := z.ah, sl := z.al }) p, ba := turnK (tryK ({ judK c k with sh := z.ah, sl := z.al }) p) })) rfl rfl 54 (PA zP) HX43.out.pb (rp_inf _) rfl (p_one _) ?_))
        refine bodyPost_ret_by (res_row Try.results14 _ _ gp 54 (PA ({ p0 k with ju := judK c k, ifc := ra, zo := rb, ou := tryK ({ judK c k with sh := z.ah, sl := z.al }) p, ba := turnK (tryK ({ judK c k with sh := z.ah, sl := z.al }) p) })) _ rfl (blk_setRow HX43.out.pb (PA ({ p0 k with ju := judK c k, ifc := ra, zo := rb, ou := tryK ({ judK c k with sh := z.ah, sl := z.al }) p, ba := turnK (tryK ({ judK c k with sh := z.ah, sl := z.al }) p) }))) Try.underlying54 (rp_inf _)) rfl ?_
        rw [HMM.out, HE.out]
        exact ⟨by rw [HP.out]; rfl, Below.setRow HX43.out.bel hgpw _⟩
    · have hin : i = cn := by omega
      have HE : Hid (makeP c (j : Int) k tk = (zP, 15)) := Lib.hid (by rw [make_rest HN.out.1 HN.out.2, HQQ.out, HI.out.2.2.2, hin, Nat.sub_self]; rfl)
      rw [show ok = false by rw [hpok]; simpa using hlt] at cP
      subst hin
      clear hpok hlt
      go_wp2_with (first | (go_at_call 16; ((with_reducible refine (cP _).mono ?_); rintro e wo ⟨rfl, ho⟩; rw [ho]; clear ho)) | ((with_reducible refine stop_op (o := ⟨none, .store 54 (.tmp 8) (.tmp 166), _, _, _, _⟩) ?_); refine Lib.hid ?_; refine wpList_store_row rfl 54 (.tmp 8) (.tmp 166) rfl gp (PA zP) rfl rfl 54 (PA zP) HIX.out.pb (rp_inf _) rfl (p_one _) ?_) | ((with_reducible refine stop_op (o := ⟨none, .store 54 (.tmp 8) (.tmp 186), _, _, _, _⟩) ?_); refine Lib.hid ?_; refine wpList_store_row rfl 54 (.tmp 8) (.tmp 186) rfl gp (PA zP) rfl rfl 54 (PA zP) HIX.out.pb (rp_inf _) rfl (p_one _) ?_))
      all_goals (
        refine bodyPost_ret_by (res_row Try.results14 _ _ gp 54 (PA zP) _ rfl (blk_setRow HIX.out.pb (PA zP)) Try.underlying54 (rp_inf _)) rfl ?_
        rw [HMM.out, HE.out]
        exact ⟨rfl, Below.setRow HIX.out.bel hgpw _⟩)
end Go.Proofs.Ytokbmahnjmmcaaa
