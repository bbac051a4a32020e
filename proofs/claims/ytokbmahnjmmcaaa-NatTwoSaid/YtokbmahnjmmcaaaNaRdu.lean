/- The document's Make: a source of what has no ports; by-name template (gen_na.py). -/
import Derived.Test.YtokbmahnjmmcaaaNaR2
namespace Go.Proofs.Ytokbmahnjmmcaaa
open Go.RowKit Go.Lib Go.Maps
set_option linter.unusedVariables false
set_option linter.unusedSimpArgs false

set_option maxRecDepth 100000 in
set_option maxHeartbeats 8000000 in
theorem rmake_du (c : CF) (inn : Int) (k : KR) (A : Option Addr) (n cap : Nat) (tk : List KR) {w : World} (hc : c.Ok w) (hk : KyOk k) (hS : Sl w 7 krc A n tk) (hi : icmpB k.proto = false) (h1 : (routeP c (judK c k).dh (judK c k).dl).1 ≠ -1) (h2 : (routeP c (judK c k).dh (judK c k).dl).2 ≠ -1) (i : Nat) (nn : NR) (hs : srcP c (routeP c (judK c k).dh (judK c k).dl).2 (judK c k) = (i : Int)) (hnn : c.ns[i]? = some nn) (hkd : nn.kind = 1) (hpo : portedB k.proto = false) :
Calls Try.prog 14 #[.agg (cfc c), .int .i64 inn, .agg (KA k), .slice A n cap] w (MPost w (makeP c inn k tk)) := by
  have HSR := Lib.hid hs
  have HNN := Lib.hid hnn
  have HKD := Lib.hid hkd
  have HPO := Lib.hid hpo
  clear hpo
  clear hs hnn hkd
  have HN := Lib.hid (And.intro h1 h2)
  clear h1 h2
  obtain ⟨M, hMM⟩ : ∃ M, M = MPost w (makeP c inn k tk) := ⟨_, rfl⟩
  rw [← hMM]
  have HMM := Lib.hid hMM
  have HSS := Lib.hid hS
  have cT := fun W => rturn_any k W
  clear hMM hS
  go_enter Try.func14, Try.ntmps14
  go_upto_region 1 with fail
  obtain ⟨gp, hgp⟩ : ∃ g, g = w.heap.size + 1 + 1 := ⟨_, rfl⟩
  obtain ⟨gk, hgk⟩ : ∃ g, g = w.heap.size + 1 := ⟨_, rfl⟩
  obtain ⟨gc, hgc⟩ : ∃ g, g = w.heap.size := ⟨_, rfl⟩
  obtain ⟨w1, hw1⟩ : ∃ x, x = ((w.alloc (.cells (cfc c) 30)).alloc (.cells (KA k) 35)).alloc (.cells #[.int .i64 0, .int .u64 0, .int .u64 0, .int .u64 0, .int .u64 0, .int .i64 0, .int .i64 0, .int .i64 0, .int .u64 0, .int .u64 0, .int .u64 0, .int .u64 0, .int .i64 0, .int .i64 0, .int .i64 0, .int .u64 0, .int .u64 0, .int .u64 0, .int .u64 0, .int .i64 0, .int .i64 0, .int .i64 0, .int .u64 0, .int .u64 0, .int .u64 0, .int .u64 0, .int .i64 0, .int .i64 0, .int .i64 0, .int .u64 0, .int .u64 0, .int .u64 0, .int .u64 0, .int .i64 0, .int .i64 0, .int .i64 0, .int .i64 0] 54) := ⟨_, rfl⟩
  have hb1 : Below w.heap.size w w1 := by rw [hw1]; exact Below.al (Below.al (bel_al _ _) _) _
  have HP1 : Hid (w1.heap[gp]? = some (.cells (PA zP) 54 (0, 0))) := Lib.hid (by rw [hw1, hgp]; exact al_new (by simp [al_size]) _)
  have HK1 : Hid (w1.heap[gk]? = some (.cells (KA k) 35 (0, 0))) := Lib.hid (by
    rw [hw1, hgk]
    exact (al_old (by simp only [al_size]; omega) _).trans (al_new (by simp [al_size]) _))
  have HC1 : Hid (w1.heap[gc]? = some (.cells (cfc c) 30 (0, 0))) := Lib.hid (by
    rw [hw1, hgc]
    exact (al_old (by simp only [al_size]; omega) _).trans ((al_old (by simp only [al_size]; omega) _).trans (al_new rfl _)))
  have hgpw : w.heap.size ≤ gp := by omega
  rw [← hw1]
  rw [← hgp, ← hgk]
  rw [show (Value.pointer (some ⟨w.heap.size, 0, none⟩)) = Value.pointer (some ⟨gc, 0, none⟩) by rw [hgc]]
  have HB1 := Lib.hid hb1
  clear hw1 hgp hgk hgc hb1
  go_cut [10] from 21 to 25 (fun v10 wx => ∃ gq, v10 = .pointer (some ⟨gq, 0, none⟩) ∧ wx.heap[gq]? = some (.cells (PA (p0 k)) 54 (0, 0)) ∧ w1.heap.size ≤ gq ∧ Below w1.heap.size w1 wx)
  case first =>
    refine wp_region_held_drew (S := fun W1 : World => W1.heap[gk]? = some (.cells (KA k) 35 (0, 0))) (by kernel_rfl) HK1.out (fun hS0 => ?_)
    have b0 : Below w1.heap.size w1 w1.drew := bel_dr (Below.refl _ _)
    obtain ⟨wd0, hwd⟩ : ∃ x, x = w1.drew := ⟨_, rfl⟩
    rw [← hwd] at hS0 b0 ⊢
    clear hwd
    refine wpAnyH_take (i := 0) (oi := ⟨some 21, _, _, _, _, _⟩) (v := .agg (KA k)) rfl (by kernel_rfl) (by kernel_rfl) (by kernel_rfl) (fun _ _ _ h => h) (yields_cells (by rfl) 35 _ rfl ⟨gk, 0, none⟩ rfl (KA k) _ (fun W hW => blk_all hW) Try.underlying35 rfl (k_inf _)) hS0 ?_
    try simp only [Act.put, List.setIfInBounds_toArray, List.set_cons_zero, List.set_cons_succ]
    refine wpAnyH_take (i := 1) (oi := ⟨some 22, _, _, _, _, _⟩) (v := .agg (KA k)) rfl (by kernel_rfl) (by kernel_rfl) (by kernel_rfl) (fun _ _ _ h => h) (yields_cells (by rfl) 35 _ rfl ⟨gk, 0, none⟩ rfl (KA k) _ (fun W hW => blk_all hW) Try.underlying35 rfl (k_inf _)) hS0 ?_
    try simp only [Act.put, List.setIfInBounds_toArray, List.set_cons_zero, List.set_cons_succ]
    refine wpAnyH_take (i := 2) (oi := ⟨some 23, _, _, _, _, _⟩) (v := .agg (KA k)) rfl (by kernel_rfl) (by kernel_rfl) (by kernel_rfl) (fun _ _ _ h => h) (yields_cells (by rfl) 35 _ rfl ⟨gk, 0, none⟩ rfl (KA k) _ (fun W hW => blk_all hW) Try.underlying35 rfl (k_inf _)) hS0 ?_
    try simp only [Act.put, List.setIfInBounds_toArray, List.set_cons_zero, List.set_cons_succ]
    refine wpAnyH_ready (rs := [3, 5]) (by kernel_rfl) (by simp) ?_
    refine AllReadyH.cons (o := ⟨some 24, _, _, _, _, _⟩) rfl (fun K hK => ?_) (AllReadyH.cons (o := ⟨some 10, _, _, _, _, _⟩) rfl (fun K hK => ?_) AllReadyH.nil)
    · go_simp
      go_at_call 13
      ((with_reducible refine (cT _).mono ?_); rintro e wd1 ⟨rfl, bT⟩)
      have hS1 := Go.Proofs.Ytokbmahnjmmcaaa.kb bT hS0
      have b1 := bel_via b0 bT
      refine hK.out _ _ hS1 (fun _ => ?_)
      clear hK K
      try simp only [Act.put, List.setIfInBounds_toArray, List.set_cons_zero, List.set_cons_succ]
      refine wpAnyH_take (i := 4) (oi := ⟨some 25, _, _, _, _, _⟩) (v := .agg (PA (p0 k))) rfl (by kernel_rfl) (by kernel_rfl) (by kernel_rfl) (fun _ _ _ h => h) (.inl ⟨by rfl, fun W hW => by kernel_rfl⟩) hS1 ?_
      try simp only [Act.put, List.setIfInBounds_toArray, List.set_cons_zero, List.set_cons_succ]
      refine wpAnyH_ready (rs := [5]) (by kernel_rfl) (by simp) ?_
      refine AllReadyH.cons (o := ⟨some 10, _, _, _, _, _⟩) rfl (fun K hK => ?_) AllReadyH.nil
      refine step_alloc rfl 54 rfl (PA zP) zeroR (fun wd2 gq hV bA hgA => ?_)
      have hS2 := Go.Proofs.Ytokbmahnjmmcaaa.kb bA hS1
      have hq1 : w1.heap.size ≤ gq := Nat.le_trans b1.size hgA
      have b2 := bel_via b1 bA
      refine hK.out _ _ hS2 (fun _ => ?_)
      clear hK K
      try simp only [Act.put, List.setIfInBounds_toArray, List.set_cons_zero, List.set_cons_succ]
      refine wpAnyH_ready (rs := [6]) (by kernel_rfl) (by simp) ?_
      refine AllReadyH.cons (o := ⟨none, _, _, _, _, _⟩) rfl (fun K hK => ?_) AllReadyH.nil
      refine step_store_mid rfl 54 (.tmp 10) (.tmp 25) rfl gq 0 (PA (p0 k)) rfl rfl (there_of hV (o := 0) (n := 37) (by simp [PA])) (rp_inf _) (p_one _) ?_
      have hqw := setCells_heap (PA (p0 k)).toList 0 hV
      have hqe : (List.foldl (fun (a : Array Value × Nat) v => (a.1.setIfInBounds a.2 v, a.2 + 1)) (PA zP, 0) (PA (p0 k)).toList).1 = PA (p0 k) := by kernel_rfl
      rw [hqe] at hqw
      have ho := (setCells_off (PA (p0 k)).toList 0 wd2 gq)
      have bz := b2.trans (ho.toBelow hq1 b2.size)
      obtain ⟨wz, hwz⟩ : ∃ x, x = wd2.setCells gq 0 (PA (p0 k)).toList := ⟨_, rfl⟩
      have hSz : (wd2.setCells gq 0 (PA (p0 k)).toList).heap[gk]? = _ := (ho.block _ (blk_lt hS2) (fun e => by have := blk_lt HK1.out; omega)).trans hS2
      rw [← hwz] at hqw bz hSz ⊢
      refine hK.out _ _ hSz (fun _ => ?_)
      clear hK K
      try simp only [Act.put, List.setIfInBounds_toArray, List.set_cons_zero, List.set_cons_succ]
      refine wpAnyH_done (by kernel_rfl) ?_ _
      try simp only [Act.put, List.setIfInBounds_toArray, List.set_cons_zero, List.set_cons_succ]
      go_wp2_with fail
      go_meet
      exact ⟨gq, rfl, hqw, hq1, bz⟩
    · refine step_alloc rfl 54 rfl (PA zP) zeroR (fun wd1 gq hV bA hgA => ?_)
      have hS1 := Go.Proofs.Ytokbmahnjmmcaaa.kb bA hS0
      have hq1 : w1.heap.size ≤ gq := Nat.le_trans b0.size hgA
      have b1 := bel_via b0 bA
      refine hK.out _ _ hS1 (fun _ => ?_)
      clear hK K
      try simp only [Act.put, List.setIfInBounds_toArray, List.set_cons_zero, List.set_cons_succ]
      refine wpAnyH_ready (rs := [3]) (by kernel_rfl) (by simp) ?_
      refine AllReadyH.cons (o := ⟨some 24, _, _, _, _, _⟩) rfl (fun K hK => ?_) AllReadyH.nil
      go_simp
      go_at_call 13
      ((with_reducible refine (cT _).mono ?_); rintro e wd2 ⟨rfl, bT⟩)
      have hS2 := Go.Proofs.Ytokbmahnjmmcaaa.kb bT hS1
      have b2 := bel_via b1 bT
      have hV := Go.Proofs.Ytokbmahnjmmcaaa.kb bT hV
      refine hK.out _ _ hS2 (fun _ => ?_)
      clear hK K
      try simp only [Act.put, List.setIfInBounds_toArray, List.set_cons_zero, List.set_cons_succ]
      refine wpAnyH_take (i := 4) (oi := ⟨some 25, _, _, _, _, _⟩) (v := .agg (PA (p0 k))) rfl (by kernel_rfl) (by kernel_rfl) (by kernel_rfl) (fun _ _ _ h => h) (.inl ⟨by rfl, fun W hW => by kernel_rfl⟩) hS2 ?_
      try simp only [Act.put, List.setIfInBounds_toArray, List.set_cons_zero, List.set_cons_succ]
      refine wpAnyH_ready (rs := [6]) (by kernel_rfl) (by simp) ?_
      refine AllReadyH.cons (o := ⟨none, _, _, _, _, _⟩) rfl (fun K hK => ?_) AllReadyH.nil
      refine step_store_mid rfl 54 (.tmp 10) (.tmp 25) rfl gq 0 (PA (p0 k)) rfl rfl (there_of hV (o := 0) (n := 37) (by simp [PA])) (rp_inf _) (p_one _) ?_
      have hqw := setCells_heap (PA (p0 k)).toList 0 hV
      have hqe : (List.foldl (fun (a : Array Value × Nat) v => (a.1.setIfInBounds a.2 v, a.2 + 1)) (PA zP, 0) (PA (p0 k)).toList).1 = PA (p0 k) := by kernel_rfl
      rw [hqe] at hqw
      have ho := (setCells_off (PA (p0 k)).toList 0 wd2 gq)
      have bz := b2.trans (ho.toBelow hq1 b2.size)
      obtain ⟨wz, hwz⟩ : ∃ x, x = wd2.setCells gq 0 (PA (p0 k)).toList := ⟨_, rfl⟩
      have hSz : (wd2.setCells gq 0 (PA (p0 k)).toList).heap[gk]? = _ := (ho.block _ (blk_lt hS2) (fun e => by have := blk_lt HK1.out; omega)).trans hS2
      rw [← hwz] at hqw bz hSz ⊢
      refine hK.out _ _ hSz (fun _ => ?_)
      clear hK K
      try simp only [Act.put, List.setIfInBounds_toArray, List.set_cons_zero, List.set_cons_succ]
      refine wpAnyH_done (by kernel_rfl) ?_ _
      try simp only [Act.put, List.setIfInBounds_toArray, List.set_cons_zero, List.set_cons_succ]
      go_wp2_with fail
      go_meet
      exact ⟨gq, rfl, hqw, hq1, bz⟩

  case rest =>
  obtain ⟨gq, rfl, hq, hq1, bx⟩ := hcut
  have HX2 : Hid (RQ w wc gc gk gp gq c k (p0 k)) := Lib.hid ⟨bel_via HB1.out bx, Go.Proofs.Ytokbmahnjmmcaaa.kb bx HC1.out, Go.Proofs.Ytokbmahnjmmcaaa.kb bx HK1.out, Go.Proofs.Ytokbmahnjmmcaaa.kb bx HP1.out, hq, fun e => by have := blk_lt HC1.out; omega, fun e => by have := blk_lt HK1.out; omega, fun e => by have := blk_lt HP1.out; omega, Nat.le_trans HB1.out.size hq1⟩
  clear hq hq1 bx HC1 HK1 HP1
  have cD := fun W (b : Below w.heap.size w W) => rdest_k c k (hc.keep b)
  go_upto_region 3 with (first | ((with_reducible refine stop_op (o := ⟨some 27, _, _, _, _, _⟩) ?_); refine Lib.hid ?_; refine wpList_load_cells rfl 30 (.tmp 4) rfl ⟨gc, 0, none⟩ rfl (cfc c) _ (blk_all HX2.out.cb) Try.underlying30 rfl (c_inf _) ?_) | ((with_reducible refine stop_op (o := ⟨some 28, _, _, _, _, _⟩) ?_); refine Lib.hid ?_; refine wpList_load_cells rfl 35 (.tmp 6) rfl ⟨gk, 0, none⟩ rfl (KA k) _ (blk_all HX2.out.kb) Try.underlying35 rfl (k_inf _) ?_) | (go_at_call 24; ((with_reducible refine (cD _ HX2.out.bel).mono ?_); rintro e w3 ⟨rfl, b3⟩)))
  obtain ⟨ga, hga⟩ : ∃ g, g = w3.heap.size := ⟨_, rfl⟩
  obtain ⟨w4, hw4⟩ : ∃ x, x = w3.alloc (.cells #[.int .u64 (dstP c k).1, .int .u64 (dstP c k).2.1] 33) := ⟨_, rfl⟩
  have HX4 : Hid (RQ w w4 gc gk gp gq c k (p0 k)) := Lib.hid (by rw [hw4]; exact (HX2.out.below b3).below (bel_al _ _))
  have ha4 : w4.heap[ga]? = some (.cells #[.int .u64 (dstP c k).1, .int .u64 (dstP c k).2.1] 33 (0, 0)) := by rw [hw4, hga]; exact al_new rfl _
  have hagq : ga ≠ gq := by have := blk_lt (HX2.out.below b3).qb; omega
  rw [← hw4, ← hga]
  obtain ⟨y0, y1, _, _⟩ := cells2 ha4
  have HA4 := Lib.hid ha4
  clear hw4 hga b3 HX2 cD ha4
  go_upto_region 4 with ((with_reducible refine stop_op (o := ⟨none, .store 33 (.tmp 35) (.tmp 33), _, _, _, _⟩) ?_); refine Lib.hid ?_; refine wpList_store_mid rfl 33 (.tmp 35) (.tmp 33) rfl gq 3 (#[.int .u64 (dstP c k).1, .int .u64 (dstP c k).2.1]) rfl rfl (HX4.out.there (o := 3) (n := 2) (by omega)) (by kernel_rfl) (by simp [Value.oneCell']) ?_)
  have ho5 := setCells_off (#[.int .u64 (dstP c k).1, .int .u64 (dstP c k).2.1] : Array Value).toList 3 w4 gq
  have HX5' : Hid (RQ w (w4.setCells gq 3 (#[.int .u64 (dstP c k).1, .int .u64 (dstP c k).2.1] : Array Value).toList) gc gk gp gq c k { p0 k with ju := { k with dh := (dstP c k).1, dl := (dstP c k).2.1 } }) := Lib.hid (HX4.out.setq 3 _ _ (by kernel_rfl))
  have ha5 := (ho5.block _ (blk_lt HA4.out) hagq).trans HA4.out
  obtain ⟨w5, hw5⟩ : ∃ x, x = w4.setCells gq 3 (#[.int .u64 (dstP c k).1, .int .u64 (dstP c k).2.1] : Array Value).toList := ⟨_, rfl⟩
  rw [← hw5] at HX5' ha5
  try simp only [Act.put]
  change Code.wp _ _ _ _ (w4.setCells gq 3 (#[.int .u64 (dstP c k).1, .int .u64 (dstP c k).2.1] : Array Value).toList)
  rw [← hw5]
  have HX5 := HX5'
  have HA5 := Lib.hid ha5
  clear hw5 ho5 ha5 HX5' HX4 HA4 y0 y1
  have k0 : w5.cell? ⟨gk, 0, none⟩ = some (.int .i64 k.proto) := HX5.out.kcell 0 rfl
  have cI := fun W => icmp_any k.proto W
  have HIC := Lib.hid hi
  rw [hi] at cI
  clear hi
  have z6 := HX5.out.free 6
  have q6 : w5.cell? ⟨gq, 6, none⟩ = some (.int .i64 k.dp) := HX5.out.cell 6 rfl
  go_upto_region 6 with (go_at_call 25; ((with_reducible refine (cI _).mono ?_); rintro e w6 ⟨rfl, h6⟩; rw [h6]; clear h6))
  have HX6' : Hid (RQ w (w5.setCell ⟨gq, 6, none⟩ (.int .i64 (dstP c k).2.2.1)) gc gk gp gq c k { p0 k with ju := judK c k }) := Lib.hid (HX5.out.set1 6 (.int .i64 (dstP c k).2.2.1) _ (by kernel_rfl))
  have hA6 : (w5.setCell ⟨gq, 6, none⟩ (.int .i64 (dstP c k).2.2.1)).heap[ga]? = some (.cells #[.int .u64 (dstP c k).1, .int .u64 (dstP c k).2.1] 33 (0, 0)) := (set_other hagq 6 _).trans HA5.out
  obtain ⟨wc6, hw6⟩ : ∃ x, x = w5.setCell ⟨gq, 6, none⟩ (.int .i64 (dstP c k).2.2.1) := ⟨_, rfl⟩
  try simp only [Act.put]
  rw [← hw6] at HX6' hA6 ⊢
  have HX6 := HX6'
  clear hw6 HX6' z6 q6
  clear k0 cI
  obtain ⟨y0, y1, _, _⟩ := cells2 hA6
  have HA6 := Lib.hid hA6
  clear hA6 HX5 HA5
  have cR := fun W (b : Below w.heap.size w W) => rroute_k c (dstP c k).1 (dstP c k).2.1 (hc.keep b)
  obtain ⟨ra, hra⟩ : ∃ x, x = (routeP c (dstP c k).1 (dstP c k).2.1).1 := ⟨_, rfl⟩
  obtain ⟨rb, hrb⟩ : ∃ x, x = (routeP c (dstP c k).1 (dstP c k).2.1).2 := ⟨_, rfl⟩
  rw [← hra, ← hrb] at cR
  have HRA := Lib.hid hra
  have HRB := Lib.hid hrb
  clear hra hrb
  go_upto_region 7 with (first | ((with_reducible refine stop_op (o := ⟨some 44, _, _, _, _, _⟩) ?_); refine Lib.hid ?_; refine wpList_load_cells rfl 30 (.tmp 4) rfl ⟨gc, 0, none⟩ rfl (cfc c) _ (blk_all HX6.out.cb) Try.underlying30 rfl (c_inf _) ?_) | (go_at_call 12; ((with_reducible refine (cR _ HX6.out.bel).mono ?_); rintro e w7 ⟨rfl, b7⟩; have q35 : w7.cell? ⟨gq, 35, none⟩ = some (.int .i64 0) := (HX6.out.below b7).cell 35 rfl; have q36 : w7.cell? ⟨gq, 36, none⟩ = some (.int .i64 0) := (HX6.out.below b7).cell 36 rfl; have z35 := (HX6.out.below b7).free 35; have z36 := (HX6.out.below b7).free 36)))
  have HX8' : Hid (RQ w ((w7.setCell ⟨gq, 35, none⟩ (.int .i64 ra)).setCell ⟨gq, 36, none⟩ (.int .i64 rb)) gc gk gp gq c k { p0 k with ju := judK c k, ifc := ra, zo := rb }) := Lib.hid (((HX6.out.below b7).set1 35 (.int .i64 ra) { p0 k with ju := judK c k, ifc := ra } (by kernel_rfl)).set1 36 (.int .i64 rb) _ (by kernel_rfl))
  obtain ⟨w8, hw8⟩ : ∃ x, x = (w7.setCell ⟨gq, 35, none⟩ (.int .i64 ra)).setCell ⟨gq, 36, none⟩ (.int .i64 rb) := ⟨_, rfl⟩
  rw [← hw8] at HX8' ⊢
  have HX8 := HX8'
  clear hw8 HX8' HX6 HA6 q35 q36 z35 z36 b7 y0 y1 cR hagq
  have q35 : w8.cell? ⟨gq, 35, none⟩ = some (.int .i64 ra) := HX8.out.cell 35 rfl
  have q36 : w8.cell? ⟨gq, 36, none⟩ = some (.int .i64 rb) := HX8.out.cell 36 rfl
  have HJ : Hid ((judK c k).dh = (dstP c k).1 ∧ (judK c k).dl = (dstP c k).2.1) := Lib.hid ⟨rfl, rfl⟩
  have e1 : ra ≠ -1 := by rw [HRA.out]; exact HN.out.1
  have e2 : rb ≠ -1 := by rw [HRB.out]; exact HN.out.2
  have c1b : (ra == -1) = false := by simp [e1]
  have c2b : (rb == -1) = false := by simp [e2]
  clear e1 e2
  go_upto_region 12 with (first | ((with_reducible refine stop_op (o := ⟨some 60, _, _, _, _, _⟩) ?_); refine Lib.hid ?_; refine wpList_load_cells rfl 35 (.tmp 59) rfl ⟨gq, 0, none⟩ rfl (KA (judK c k)) _ (HX8.out.c_ju) Try.underlying35 rfl (k_inf _) ?_) | ((with_reducible refine stop_op (o := ⟨none, .store 35 (.tmp 61) (.tmp 60), _, _, _, _⟩) ?_); refine Lib.hid ?_; refine wpList_store_mid rfl 35 (.tmp 61) (.tmp 60) rfl gq 14 (KA (judK c k)) rfl rfl (HX8.out.there (o := 14) (n := 7) (by omega)) (k_inf _) (k_one _) ?_))
  have HX9' : Hid (RQ w (w8.setCells gq 14 (KA (judK c k)).toList) gc gk gp gq c k { p0 k with ju := judK c k, ifc := ra, zo := rb, ou := judK c k }) := Lib.hid (HX8.out.setq 14 _ _ (by kernel_rfl))
  obtain ⟨w9, hw9⟩ : ∃ x, x = w8.setCells gq 14 (KA (judK c k)).toList := ⟨_, rfl⟩
  rw [← hw9] at HX9'
  try simp only [Act.put]
  change Code.wp _ _ _ _ (w8.setCells gq 14 (KA (judK c k)).toList)
  rw [← hw9]
  have HX9 := HX9'
  clear hw9 HX9' HX8 q35 q36
  have q36 : w9.cell? ⟨gq, 36, none⟩ = some (.int .i64 rb) := HX9.out.cell 36 rfl
  have cS := fun W (b : Below w.heap.size w W) => rsource_k c rb (judK c k) (hc.keep b) ⟨hk.2.1, hk.2.2.1⟩
  rw [show srcP c rb (judK c k) = (i : Int) by rw [HRB.out]; exact HSR.out] at cS
  go_upto_region 16 with (first | ((with_reducible refine stop_op (o := ⟨some 62, _, _, _, _, _⟩) ?_); refine Lib.hid ?_; refine wpList_load_cells rfl 30 (.tmp 4) rfl ⟨gc, 0, none⟩ rfl (cfc c) _ (blk_all HX9.out.cb) Try.underlying30 rfl (c_inf _) ?_) | ((with_reducible refine stop_op (o := ⟨some 66, _, _, _, _, _⟩) ?_); refine Lib.hid ?_; refine wpList_load_cells rfl 35 (.tmp 65) rfl ⟨gq, 0, none⟩ rfl (KA (judK c k)) _ (HX9.out.c_ju) Try.underlying35 rfl (k_inf _) ?_) | (go_at_call 26; ((with_reducible refine (cS _ HX9.out.bel).mono ?_); rintro e w10 ⟨rfl, b10⟩)))
  have HX10 := Lib.hid (HX9.out.below b10)
  clear b10 HX9 q36 cS
  have hin : i < c.nn := by have := getE HNN.out; have := hc.n.len; omega
  obtain ⟨bb, off, hA, hlb, hrow⟩ := hc.n.row (by omega)
  have hnb := hc.n.big
  have HRW : Hid (∀ W, Below w.heap.size w W → W.cell? ⟨bb, off + i * 10, none⟩ = some (.int .i64 nn.kind) ∧ W.cell? ⟨bb, off + i * 10 + 4, none⟩ = some (.int .u64 nn.oh) ∧ W.cell? ⟨bb, off + i * 10 + 5, none⟩ = some (.int .u64 nn.ol) ∧ W.cell? ⟨bb, off + i * 10 + 8, none⟩ = some (.int .i64 nn.frm) ∧ W.cell? ⟨bb, off + i * 10 + 9, none⟩ = some (.int .i64 nn.til)) := Lib.hid (fun W hW => ⟨keepc hW (hrow i nn HNN.out 0 _ rfl), keepc hW (hrow i nn HNN.out 4 _ rfl), keepc hW (hrow i nn HNN.out 5 _ rfl), keepc hW (hrow i nn HNN.out 8 _ rfl), keepc hW (hrow i nn HNN.out 9 _ rfl)⟩)
  have c5 : w10.cell? ⟨gc, 5, none⟩ = some (.slice (some ⟨bb, off, none⟩) c.nn c.nc) := by rw [← hA]; exact HX10.out.ccell 5 rfl
  have HA := Lib.hid hA
  have hlw : bb < w10.heap.size := Nat.lt_of_lt_of_le hlb HX10.out.bel.size
  obtain ⟨_, r4, r5, _, _⟩ := HRW.out w10 HX10.out.bel
  have hgi : (0 : Int) ≤ (i : Int) := by omega
  have hini : (i : Int) < (c.nn : Int) := by omega
  clear hrow hA
  go_upto_region 18 with ((with_reducible refine stop_op (o := ⟨none, .store 33 (.tmp 78) (.tmp 76), _, _, _, _⟩) ?_); refine Lib.hid ?_; refine wpList_store_mid rfl 33 (.tmp 78) (.tmp 76) rfl gq 15 (#[.int .u64 nn.oh, .int .u64 nn.ol]) rfl rfl (HX10.out.there (o := 15) (n := 2) (by omega)) (by kernel_rfl) (by simp [Value.oneCell']) ?_)
  have HX11' : Hid (RQ w (w10.setCells gq 15 (#[Value.int .u64 nn.oh, Value.int .u64 nn.ol]).toList) gc gk gp gq c k { p0 k with ju := judK c k, ifc := ra, zo := rb, ou := { judK c k with sh := nn.oh, sl := nn.ol } }) := Lib.hid (HX10.out.setq 15 _ _ (by kernel_rfl))
  obtain ⟨w11, hw11⟩ : ∃ x, x = w10.setCells gq 15 (#[Value.int .u64 nn.oh, Value.int .u64 nn.ol]).toList := ⟨_, rfl⟩
  rw [← hw11] at HX11'
  try simp only [Act.put]
  change Code.wp _ _ _ _ (w10.setCells gq 15 (#[Value.int .u64 nn.oh, Value.int .u64 nn.ol]).toList)
  rw [← hw11]
  have HX11 := HX11'
  clear hw11 HX11' HX10 c5 r4 r5 hlw
  have c5 : w11.cell? ⟨gc, 5, none⟩ = some (.slice (some ⟨bb, off, none⟩) c.nn c.nc) := by rw [← HA.out]; exact HX11.out.ccell 5 rfl
  have hlw : bb < w11.heap.size := Nat.lt_of_lt_of_le hlb HX11.out.bel.size
  obtain ⟨r0, _, _, r8, r9⟩ := HRW.out w11 HX11.out.bel
  have hkb : (nn.kind == 1) = true := by rw [HKD.out]; rfl
  rw [HKD.out] at r0
  go_upto_region 27 with fail
  clear r0 r8 r9 c5 hlw hgi hini
  have cT2 := fun W => rturn_any ({ judK c k with sh := nn.oh, sl := nn.ol }) W
  have cF := fun W (b : Below w.heap.size w W) => free_any (turnK ({ judK c k with sh := nn.oh, sl := nn.ol })) k A n cap tk (HSS.out.keep b)
  obtain ⟨fr, hfr⟩ : ∃ fr, fr = freeB (turnK ({ judK c k with sh := nn.oh, sl := nn.ol })) k tk := ⟨_, rfl⟩
  rw [← hfr] at cF
  have HFR := Lib.hid hfr
  clear hfr
  have k0 : w11.cell? ⟨gk, 0, none⟩ = some (.int .i64 k.proto) := HX11.out.kcell 0 rfl
  have cPo := fun W => ported_any16 k.proto W
  rw [HPO.out] at cPo
  have HTH : Hid (∀ W, Below w11.heap.size w11 W → W.there gq 21 7) := Lib.hid (fun W b => (HX11.out.below b).there (by omega))
  go_upto_region 29 with (first | ((with_reducible refine stop_op (o := ⟨some 137, _, _, _, _, _⟩) ?_); refine Lib.hid ?_; refine wpList_load_cells rfl 35 (.tmp 136) rfl ⟨gq, 14, none⟩ rfl (KA ({ judK c k with sh := nn.oh, sl := nn.ol })) _ (HX11.out.c_ou) Try.underlying35 rfl (k_inf _) ?_) | (go_at_call 13; ((with_reducible refine (cT2 _).mono ?_); rintro e w12 ⟨rfl, b12⟩)) | (go_at_call 28; ((with_reducible refine (cPo _).mono ?_); rintro e wp ⟨rfl, hp⟩; rw [hp]; clear hp)) | ((with_reducible refine stop_op (o := ⟨none, .store 35 (.tmp 139) (.tmp 138), _, _, _, _⟩) ?_); refine Lib.hid ?_; refine wpList_store_mid rfl 35 (.tmp 139) (.tmp 138) rfl gq 21 (KA (turnK ({ judK c k with sh := nn.oh, sl := nn.ol }))) rfl rfl (HTH.out _ b12) (k_inf _) (k_one _) ?_))
  have HX13' : Hid (RQ w (w12.setCells gq 21 (KA (turnK ({ judK c k with sh := nn.oh, sl := nn.ol }))).toList) gc gk gp gq c k { p0 k with ju := judK c k, ifc := ra, zo := rb, ou := { judK c k with sh := nn.oh, sl := nn.ol }, ba := turnK ({ judK c k with sh := nn.oh, sl := nn.ol }) }) := Lib.hid ((HX11.out.below b12).setq 21 _ _ (by kernel_rfl))
  obtain ⟨w13, hw13⟩ : ∃ x, x = w12.setCells gq 21 (KA (turnK ({ judK c k with sh := nn.oh, sl := nn.ol }))).toList := ⟨_, rfl⟩
  rw [← hw13] at HX13'
  try simp only [Act.put]
  change Code.wp _ _ _ _ (w12.setCells gq 21 (KA (turnK ({ judK c k with sh := nn.oh, sl := nn.ol }))).toList)
  rw [← hw13]
  have HX13 := HX13'
  clear hw13 HX13' b12 HTH HX11 cT2
  have HP : Hid ({ p0 k with ju := judK c k, ifc := ra, zo := rb, ou := { judK c k with sh := nn.oh, sl := nn.ol }, ba := turnK ({ judK c k with sh := nn.oh, sl := nn.ol }) } = pO c k ({ judK c k with sh := nn.oh, sl := nn.ol }) (turnK ({ judK c k with sh := nn.oh, sl := nn.ol }))) := Lib.hid (by rw [HRA.out, HRB.out]; rfl)
  cases fr
  · have HE : Hid (makeP c inn k tk = (zP, 15)) := Lib.hid (by rw [make_rest HN.out.1 HN.out.2, portQ_no (nat_un HSR.out HNN.out HKD.out HPO.out).1 (nat_un HSR.out HNN.out HKD.out HPO.out).2, ← HFR.out]; rfl)
    go_wp2_with (first | ((with_reducible refine stop_op (o := ⟨some 141, _, _, _, _, _⟩) ?_); refine Lib.hid ?_; refine wpList_load_cells rfl 35 (.tmp 140) rfl ⟨gq, 21, none⟩ rfl (KA (turnK ({ judK c k with sh := nn.oh, sl := nn.ol }))) _ (HX13.out.c_ba) Try.underlying35 rfl (k_inf _) ?_) | ((with_reducible refine stop_op (o := ⟨some 142, _, _, _, _, _⟩) ?_); refine Lib.hid ?_; refine wpList_load_cells rfl 35 (.tmp 6) rfl ⟨gk, 0, none⟩ rfl (KA k) _ (blk_all HX13.out.kb) Try.underlying35 rfl (k_inf _) ?_) | (go_at_call 29; ((with_reducible refine (cF _ HX13.out.bel).mono ?_); rintro e w14 ⟨rfl, b14⟩; have HX14 := Lib.hid (HX13.out.below b14); clear b14)) | ((with_reducible refine stop_op (o := ⟨none, .store 54 (.tmp 8) (.tmp 146), _, _, _, _⟩) ?_); refine Lib.hid ?_; refine wpList_store_row rfl 54 (.tmp 8) (.tmp 146) rfl gp (PA zP) rfl rfl 54 (PA zP) HX14.out.pb (rp_inf _) rfl (p_one _) ?_))
    refine bodyPost_ret_by (res_row Try.results14 _ _ gp 54 (PA zP) _ rfl (blk_setRow HX14.out.pb (PA zP)) Try.underlying54 (rp_inf _)) rfl ?_
    rw [HMM.out, HE.out]
    exact ⟨rfl, Below.setRow HX14.out.bel hgpw _⟩
  · have HE : Hid (makeP c inn k tk = (pO c k ({ judK c k with sh := nn.oh, sl := nn.ol }) (turnK ({ judK c k with sh := nn.oh, sl := nn.ol })), 0)) := Lib.hid (by rw [make_rest HN.out.1 HN.out.2, portQ_no (nat_un HSR.out HNN.out HKD.out HPO.out).1 (nat_un HSR.out HNN.out HKD.out HPO.out).2, ← HFR.out]; rfl)
    go_wp2_with (first | ((with_reducible refine stop_op (o := ⟨some 141, _, _, _, _, _⟩) ?_); refine Lib.hid ?_; refine wpList_load_cells rfl 35 (.tmp 140) rfl ⟨gq, 21, none⟩ rfl (KA (turnK ({ judK c k with sh := nn.oh, sl := nn.ol }))) _ (HX13.out.c_ba) Try.underlying35 rfl (k_inf _) ?_) | ((with_reducible refine stop_op (o := ⟨some 142, _, _, _, _, _⟩) ?_); refine Lib.hid ?_; refine wpList_load_cells rfl 35 (.tmp 6) rfl ⟨gk, 0, none⟩ rfl (KA k) _ (blk_all HX13.out.kb) Try.underlying35 rfl (k_inf _) ?_) | (go_at_call 29; ((with_reducible refine (cF _ HX13.out.bel).mono ?_); rintro e w14 ⟨rfl, b14⟩; have HX14 := Lib.hid (HX13.out.below b14); clear b14)) | ((with_reducible refine stop_op (o := ⟨some 147, _, _, _, _, _⟩) ?_); refine Lib.hid ?_; refine wpList_load_cells rfl 54 (.tmp 10) rfl ⟨gq, 0, none⟩ rfl (PA ({ p0 k with ju := judK c k, ifc := ra, zo := rb, ou := { judK c k with sh := nn.oh, sl := nn.ol }, ba := turnK ({ judK c k with sh := nn.oh, sl := nn.ol }) })) _ (HX14.out.c_all) Try.underlying54 rfl (rp_inf _) ?_) | ((with_reducible refine stop_op (o := ⟨none, .store 54 (.tmp 8) (.tmp 147), _, _, _, _⟩) ?_); refine Lib.hid ?_; refine wpList_store_row rfl 54 (.tmp 8) (.tmp 147) rfl gp (PA ({ p0 k with ju := judK c k, ifc := ra, zo := rb, ou := { judK c k with sh := nn.oh, sl := nn.ol }, ba := turnK ({ judK c k with sh := nn.oh, sl := nn.ol }) })) rfl rfl 54 (PA zP) HX14.out.pb (rp_inf _) rfl (p_one _) ?_))
    refine bodyPost_ret_by (res_row Try.results14 _ _ gp 54 (PA ({ p0 k with ju := judK c k, ifc := ra, zo := rb, ou := { judK c k with sh := nn.oh, sl := nn.ol }, ba := turnK ({ judK c k with sh := nn.oh, sl := nn.ol }) })) _ rfl (blk_setRow HX14.out.pb (PA ({ p0 k with ju := judK c k, ifc := ra, zo := rb, ou := { judK c k with sh := nn.oh, sl := nn.ol }, ba := turnK ({ judK c k with sh := nn.oh, sl := nn.ol }) }))) Try.underlying54 (rp_inf _)) rfl ?_
    rw [HMM.out, HE.out]
    exact ⟨by rw [HP.out]; rfl, Below.setRow HX14.out.bel hgpw _⟩
end Go.Proofs.Ytokbmahnjmmcaaa
