/- NatFree: the walk; by-name template (gen_na.py). -/
import Derived.Test.YtokbmahnjmmcaaaNaF0
import Derived.Test.YtokbmahnjmmcaaaNaR4
namespace Go.Proofs.Ytokbmahnjmmcaaa
open Go.RowKit Go.Lib Go.Maps
set_option linter.unusedVariables false
set_option linter.unusedSimpArgs false

theorem pl_ou {W : World} {g : Nat} {p : PN} {T : TypeId} (h : W.heap[g]? = some (.cells (PA p) T (0, 0))) : ∀ j v, (KA p.ou).toList[j]? = some v → W.cell? ((⟨g, 14, none⟩ : Addr).add j) = some v := by
  intro j v hv
  rw [addr_add]
  have hl : j < 7 := (List.getElem?_eq_some_iff.1 hv).1
  match j, hl with
  | 0, _ => exact (cell_of_row _ g 14 _ _ _ h).trans hv
  | 1, _ => exact (cell_of_row _ g 15 _ _ _ h).trans hv
  | 2, _ => exact (cell_of_row _ g 16 _ _ _ h).trans hv
  | 3, _ => exact (cell_of_row _ g 17 _ _ _ h).trans hv
  | 4, _ => exact (cell_of_row _ g 18 _ _ _ h).trans hv
  | 5, _ => exact (cell_of_row _ g 19 _ _ _ h).trans hv
  | 6, _ => exact (cell_of_row _ g 20 _ _ _ h).trans hv
theorem pl_ba {W : World} {g : Nat} {p : PN} {T : TypeId} (h : W.heap[g]? = some (.cells (PA p) T (0, 0))) : ∀ j v, (KA p.ba).toList[j]? = some v → W.cell? ((⟨g, 21, none⟩ : Addr).add j) = some v := by
  intro j v hv
  rw [addr_add]
  have hl : j < 7 := (List.getElem?_eq_some_iff.1 hv).1
  match j, hl with
  | 0, _ => exact (cell_of_row _ g 21 _ _ _ h).trans hv
  | 1, _ => exact (cell_of_row _ g 22 _ _ _ h).trans hv
  | 2, _ => exact (cell_of_row _ g 23 _ _ _ h).trans hv
  | 3, _ => exact (cell_of_row _ g 24 _ _ _ h).trans hv
  | 4, _ => exact (cell_of_row _ g 25 _ _ _ h).trans hv
  | 5, _ => exact (cell_of_row _ g 26 _ _ _ h).trans hv
  | 6, _ => exact (cell_of_row _ g 27 _ _ _ h).trans hv
theorem pl_op {W : World} {g : Nat} {p : PN} {T : TypeId} (h : W.heap[g]? = some (.cells (PA p) T (0, 0))) : ∀ j v, (KA p.op).toList[j]? = some v → W.cell? ((⟨g, 7, none⟩ : Addr).add j) = some v := by
  intro j v hv
  rw [addr_add]
  have hl : j < 7 := (List.getElem?_eq_some_iff.1 hv).1
  match j, hl with
  | 0, _ => exact (cell_of_row _ g 7 _ _ _ h).trans hv
  | 1, _ => exact (cell_of_row _ g 8 _ _ _ h).trans hv
  | 2, _ => exact (cell_of_row _ g 9 _ _ _ h).trans hv
  | 3, _ => exact (cell_of_row _ g 10 _ _ _ h).trans hv
  | 4, _ => exact (cell_of_row _ g 11 _ _ _ h).trans hv
  | 5, _ => exact (cell_of_row _ g 12 _ _ _ h).trans hv
  | 6, _ => exact (cell_of_row _ g 13 _ _ _ h).trans hv
set_option maxRecDepth 100000 in
set_option maxHeartbeats 8000000 in
theorem free_law (c : CF) (inn : Int) (k : KR) (A : Option Addr) (n cap : Nat) (tk : List KR) {w : World} (hc : c.Ok w) (hf : c.Fit) (hk : KyOk k) (hS : Sl w 7 krc A n tk) (hT : ∀ x ∈ tk, KyOk x) :
    Calls Try.prog 8 #[.agg (cfc c), .int .i64 inn, .agg (KA k), .slice A n cap] w (LawP w) := by
  have HSS := Lib.hid hS
  have HLN := Lib.hid hS.len
  have HTT := Lib.hid hT
  clear hS hT
  unfold LawP
  go_enter Try.func8, Try.ntmps8
  go_upto_region 1 with fail
  obtain ⟨gk, hgk⟩ : ∃ g, g = w.heap.size + 1 := ⟨_, rfl⟩
  obtain ⟨gc, hgc⟩ : ∃ g, g = w.heap.size := ⟨_, rfl⟩
  obtain ⟨w1, hw1⟩ : ∃ x, x = (w.alloc (.cells (cfc c) 30)).alloc (.cells (KA k) 35) := ⟨_, rfl⟩
  have HB1 : Hid (Below w.heap.size w w1) := Lib.hid (by rw [hw1]; exact Below.al (bel_al _ _) _)
  have HK1 : Hid (w1.heap[gk]? = some (.cells (KA k) 35 (0, 0))) := Lib.hid (by rw [hw1, hgk]; exact al_new (by simp [al_size]) _)
  have HC1 : Hid (w1.heap[gc]? = some (.cells (cfc c) 30 (0, 0))) := Lib.hid (by
    rw [hw1, hgc]
    exact (al_old (by simp only [al_size]; omega) _).trans (al_new rfl _))
  rw [← hw1]
  rw [← hgk]
  rw [show (Value.pointer (some ⟨w.heap.size, 0, none⟩)) = Value.pointer (some ⟨gc, 0, none⟩) by rw [hgc]]
  clear hw1 hgk hgc
  have ch := heavy_any c (hc.keep HB1.out) hf
  go_wp2_with ((with_reducible refine stop_op (o := ⟨some 15, _, _, _, _, _⟩) ?_); refine Lib.hid ?_; refine wpList_load_cells rfl 30 (.tmp 4) rfl ⟨gc, 0, none⟩ rfl (cfc c) _ (blk_all HC1.out) Try.underlying30 rfl (c_inf _) ?_)
  refine ch.mono ?_
  rintro e w2 ⟨hv, rfl, -, b2⟩
  have HB2 := Lib.hid (bel_via HB1.out b2)
  have HK2 := Lib.hid (kb b2 HK1.out)
  have HC2 := Lib.hid (kb b2 HC1.out)
  clear b2 HB1 HK1 HC1 ch
  cases hv with
  | true =>
    go_wp2
    go_ret
    exact ⟨rfl, HB2.out⟩
  | false =>
  by_cases hn : 256 < n
  · have hnI : (256 : Int) < (n : Int) := by omega
    go_wp2
    go_ret
    exact ⟨rfl, HB2.out⟩
  have hnI : ¬ (256 : Int) < (n : Int) := by omega
  have hn1 : n ≤ 1000 := by omega
  have hmc := make_cases c inn k tk
  have cM := fun (W : World) (b : Below w.heap.size w W) => make_any c inn k A n cap tk (hc.keep b) hk (HSS.out.keep b) HTT.out hn1
  have cR := fun (W : World) (b : Below w.heap.size w W) => rmake_any c inn k A n cap tk (hc.keep b) hk (HSS.out.keep b)
  unfold MPost at cM cR
  obtain ⟨p, hp⟩ : ∃ p, p = (makeP c inn k tk).1 := ⟨_, rfl⟩
  obtain ⟨m, hm⟩ : ∃ m, m = (makeP c inn k tk).2 := ⟨_, rfl⟩
  rw [← hp, ← hm] at cM cR hmc
  have HMC := Lib.hid hmc
  clear hp hm hmc
  go_upto_region 4 with (first | ((with_reducible refine stop_op (o := ⟨some 23, _, _, _, _, _⟩) ?_); refine Lib.hid ?_; refine wpList_load_cells rfl 30 (.tmp 4) rfl ⟨gc, 0, none⟩ rfl (cfc c) _ (blk_all HC2.out) Try.underlying30 rfl (c_inf _) ?_) | ((with_reducible refine stop_op (o := ⟨some 25, _, _, _, _, _⟩) ?_); refine Lib.hid ?_; refine wpList_load_cells rfl 35 (.tmp 6) rfl ⟨gk, 0, none⟩ rfl (KA k) _ (blk_all HK2.out) Try.underlying35 rfl (k_inf _) ?_) | (go_at_call 11; ((with_reducible refine (cM _ HB2.out).mono ?_); rintro e w3 ⟨rfl, b3⟩; have HZZ := Lib.hid (al_new (w := w3) (k := w3.heap.size) rfl (.cells (PA zP) 38)))) | ((with_reducible refine stop_op (o := ⟨none, .store 38 (.tmp 9) (.tmp 28), _, _, _, _⟩) ?_); refine Lib.hid ?_; refine wpList_store_row rfl 38 (.tmp 9) (.tmp 28) rfl w3.heap.size (PA p) rfl rfl 38 (PA zP) HZZ.out (p_inf _) rfl (p_one _) ?_))
  rw [World.setRow_alloc_new]
  try simp only [Act.put]
  obtain ⟨w4, hw4⟩ : ∃ x, x = w3.alloc (.cells (PA p) 38) := ⟨_, rfl⟩
  obtain ⟨gP, hgP⟩ : ∃ g, g = w3.heap.size := ⟨_, rfl⟩
  have HP4 : Hid (w4.heap[gP]? = some (.cells (PA p) 38 (0, 0))) := Lib.hid (by rw [hw4, hgP]; exact al_new rfl _)
  have b4 : Below w2.heap.size w2 w4 := by rw [hw4]; exact bel_via b3 (bel_al _ _)
  have HB4 := Lib.hid (bel_via HB2.out b4)
  have HK4 := Lib.hid (kb b4 HK2.out)
  have HC4 := Lib.hid (kb b4 HC2.out)
  rw [← hw4, ← hgP]
  clear hw4 hgP b4 b3 HZZ HB2 HK2 HC2 cM hn hnI
  go_upto_region 5 with (first | ((with_reducible refine stop_op (o := ⟨some 31, _, _, _, _, _⟩) ?_); refine Lib.hid ?_; refine wpList_load_cells rfl 30 (.tmp 4) rfl ⟨gc, 0, none⟩ rfl (cfc c) _ (blk_all HC4.out) Try.underlying30 rfl (c_inf _) ?_) | ((with_reducible refine stop_op (o := ⟨some 33, _, _, _, _, _⟩) ?_); refine Lib.hid ?_; refine wpList_load_cells rfl 35 (.tmp 6) rfl ⟨gk, 0, none⟩ rfl (KA k) _ (blk_all HK4.out) Try.underlying35 rfl (k_inf _) ?_) | (go_at_call 14; ((with_reducible refine (cR _ HB4.out).mono ?_); rintro e w5 ⟨rfl, b5⟩; have HZZ := Lib.hid (al_new (w := w5) (k := w5.heap.size) rfl (.cells (PA zP) 54)))) | ((with_reducible refine stop_op (o := ⟨none, .store 54 (.tmp 11) (.tmp 36), _, _, _, _⟩) ?_); refine Lib.hid ?_; refine wpList_store_row rfl 54 (.tmp 11) (.tmp 36) rfl w5.heap.size (PA p) rfl rfl 54 (PA zP) HZZ.out (rp_inf _) rfl (p_one _) ?_))
  rw [World.setRow_alloc_new]
  try simp only [Act.put]
  obtain ⟨w6, hw6⟩ : ∃ x, x = w5.alloc (.cells (PA p) 54) := ⟨_, rfl⟩
  have b6 : Below w4.heap.size w4 w6 := by rw [hw6]; exact bel_via b5 (bel_al _ _)
  have HB6 := Lib.hid (bel_via HB4.out b6)
  have HK6 := Lib.hid (kb b6 HK4.out)
  have HP6 := Lib.hid (kb b6 HP4.out)
  rw [← hw6]
  clear hw6 b6 b5 HZZ HB4 HK4 HC4 HP4 cR
  rcases HMC.out with ⟨hm, hpz⟩ | ⟨hm, r, hpr, hfr, hr1, hr2, hr3⟩
  · subst hpz
    have hm2 : (m == 0) = false := by simp [hm]
    have HM := Lib.hid hm
    have hzp := fun W => zeroPl W
    clear hm
    go_wp2_with ((with_reducible refine stop_op (o := ⟨some 43, _, _, _, _, _⟩) ?_); refine Lib.hid ?_; refine wpList_load_cells rfl 38 (.tmp 9) rfl ⟨gP, 0, none⟩ rfl (PA zP) _ (blk_all HP6.out) Try.underlying38 rfl (p_inf _) ?_)
    go_ret
    exact ⟨rfl, HB6.out⟩
  · subst hm hpr
    have HF := Lib.hid hfr
    have HR := Lib.hid (And.intro hr1 (And.intro hr2 hr3))
    clear hfr hr1 hr2 hr3 HMC
    go_wp2_with fail
    go_loopw [13] (fun v13 wr => ∃ i : Nat, v13 = .int .i64 i ∧ i ≤ n ∧ Below w6.heap.size w6 wr) (fun v13 _ => n - (intOf v13).toNat)
    case atStart => exact ⟨0, rfl, by omega, Below.refl _ _⟩
    case round =>
      obtain ⟨i, rfl, hi, hbr⟩ := hrel
      have HBR := Lib.hid hbr
      clear hbr
      by_cases hlt : i < n
      · have hlti : (i : Int) < (n : Int) := by omega
        obtain ⟨bb, off, hA, hbl, hrow⟩ := HSS.out.row (by omega)
        obtain ⟨x, hx⟩ : ∃ x, tk[i]? = some x := ⟨_, List.getElem?_eq_getElem (by rw [HLN.out]; exact hlt)⟩
        have hne : (x == turnK r) = false := by
          have := ((free_dec _ _ _).1 HF.out).1
          rw [beq_eq_false_iff_ne]
          intro e
          exact this (e ▸ List.mem_of_getElem? hx)
        subst hA
        have HS : Hid ((∀ j v, (KA x).toList[j]? = some v → wr.drew.cell? ((⟨bb, off + i * 7, none⟩ : Addr).add j) = some v) ∧ wr.drew.heap[gP]? = some (.cells (PA (pO c k r (turnK r))) 38 (0, 0))) := Lib.hid ⟨fun j v hj => by
          rw [addr_add]
          exact keepc (bel_dr (bel_via HB6.out HBR.out)) (hrow i x hx j v hj), kb (bel_dr HBR.out) HP6.out⟩
        have hbw : bb < wr.heap.size := Nat.lt_of_lt_of_le hbl (bel_via HB6.out HBR.out).size
        have heq := fun W => eql_ky x (turnK r) W
        rw [hne] at heq
        have hnb : n ≤ 9223372036854775807 := by omega
        clear hrow hx hne
        go_upto_region 12 with fail
        refine wp_region_held_drew (S := fun W1 : World => (∀ j v, (KA x).toList[j]? = some v → W1.cell? ((⟨bb, off + i * 7, none⟩ : Addr).add j) = some v) ∧ W1.heap[gP]? = some (.cells (PA (pO c k r (turnK r))) 38 (0, 0))) (by kernel_rfl) HS.out (fun hS0 => ?_)
        refine wpAnyH_take (i := 0) (oi := ⟨some 52, _, _, _, _, _⟩) (v := .slice (some ⟨bb, off, none⟩) n cap) rfl (by kernel_rfl) (by kernel_rfl) (by kernel_rfl) (fun _ _ _ h => h) (.inl ⟨by rfl, fun W hW => by go_simp⟩) hS0 ?_
        try simp only [Act.put, List.setIfInBounds_toArray, List.set_cons_zero, List.set_cons_succ]
        refine wpAnyH_take (i := 1) (oi := ⟨some 53, _, _, _, _, _⟩) (v := .int .i64 i) rfl (by kernel_rfl) (by kernel_rfl) (by kernel_rfl) (fun _ _ _ h => h) (.inl ⟨by rfl, fun W hW => by go_simp⟩) hS0 ?_
        try simp only [Act.put, List.setIfInBounds_toArray, List.set_cons_zero, List.set_cons_succ]
        refine wpAnyH_take (i := 2) (oi := ⟨some 54, _, _, _, _, _⟩) (v := .pointer (some ⟨bb, off + i * 7, none⟩)) rfl (by kernel_rfl) (by kernel_rfl) (by kernel_rfl) (fun _ _ _ h => h) (.inl ⟨by rfl, fun W hW => by go_simp⟩) hS0 ?_
        try simp only [Act.put, List.setIfInBounds_toArray, List.set_cons_zero, List.set_cons_succ]
        refine wpAnyH_take (i := 3) (oi := ⟨some 55, _, _, _, _, _⟩) (v := .agg (KA x)) rfl (by kernel_rfl) (by kernel_rfl) (by kernel_rfl) (fun _ _ _ h => h) (yields_cells (by rfl) 35 _ rfl ⟨bb, off + i * 7, none⟩ rfl (KA x) _ (fun W hW => hW.1) Try.underlying35 rfl (k_inf _)) hS0 ?_
        try simp only [Act.put, List.setIfInBounds_toArray, List.set_cons_zero, List.set_cons_succ]
        refine wpAnyH_take (i := 4) (oi := ⟨some 56, _, _, _, _, _⟩) (v := .pointer (some ⟨gP, 21, none⟩)) rfl (by kernel_rfl) (by kernel_rfl) (by kernel_rfl) (fun _ _ _ h => h) (.inl ⟨by rfl, fun W hW => by go_simp⟩) hS0 ?_
        try simp only [Act.put, List.setIfInBounds_toArray, List.set_cons_zero, List.set_cons_succ]
        refine wpAnyH_take (i := 5) (oi := ⟨some 57, _, _, _, _, _⟩) (v := .agg (KA (turnK r))) rfl (by kernel_rfl) (by kernel_rfl) (by kernel_rfl) (fun _ _ _ h => h) (yields_cells (by rfl) 35 _ rfl ⟨gP, 21, none⟩ rfl (KA (turnK r)) _ (fun W hW => pl_ba hW.2) Try.underlying35 rfl (k_inf _)) hS0 ?_
        try simp only [Act.put, List.setIfInBounds_toArray, List.set_cons_zero, List.set_cons_succ]
        refine wpAnyH_take (i := 6) (oi := ⟨some 58, _, _, _, _, _⟩) (v := .bool false) rfl (by kernel_rfl) (by kernel_rfl) (by kernel_rfl) (fun _ _ _ h => h) (.inl ⟨by rfl, fun W hW => by have := heq W; unfold execOp; simp only []; go_simp⟩) hS0 ?_
        try simp only [Act.put, List.setIfInBounds_toArray, List.set_cons_zero, List.set_cons_succ]
        refine wpAnyH_done (by kernel_rfl) ?_ _
        try simp only [Act.put, List.setIfInBounds_toArray, List.set_cons_zero, List.set_cons_succ]
        go_wp2_with fail
        exact ⟨⟨i + 1, by first | rfl | go_num, by omega, bel_dr HBR.out⟩, by simp [intOf]; omega⟩
      · have hlti : ¬ (i : Int) < (n : Int) := by omega
        have HP6r := Lib.hid (kb HBR.out HP6.out)
        have HK6r := Lib.hid (kb HBR.out HK6.out)
        have HB6r := Lib.hid (bel_via HB6.out HBR.out)
        clear HP6 HK6 HB6 HBR hlt
        have HP6 := HP6r
        have HK6 := HK6r
        have HB6 := HB6r
        have HO6 := Lib.hid (pl_ou HP6.out)
        have cT := fun W => rturn_any r W
        have eq1 := fun W => neq_ky (turnK r) k W
        rw [show (turnK r == k) = false by rw [beq_eq_false_iff_ne]; exact ((free_dec _ _ _).1 HF.out).2] at eq1
        have eq2 := fun W => eql_ky k k W
        have eq3 := fun W => eql_ky (turnK r) (turnK r) W
        rw [beq_self_eq_true] at eq2 eq3
        have eq4 := fun a b x y W => eql_ad a b x y W
        clear HP6r HK6r HB6r
        go_wp2_with (first | ((with_reducible refine stop_op (o := ⟨some 60, _, _, _, _, _⟩) ?_); refine Lib.hid ?_; refine wpList_load_cells rfl 35 (.tmp 59) rfl ⟨gP, 14, none⟩ rfl (KA (r)) _ (HO6.out) Try.underlying35 rfl (k_inf _) ?_) | (go_at_call 13; ((with_reducible refine (cT _).mono ?_); rintro e w6t ⟨rfl, b6⟩; have HZ7 := Lib.hid (al_new (w := w6t) (k := w6t.heap.size) rfl (.cells (KA zK) 35)))) | ((with_reducible refine stop_op (o := ⟨none, .store 35 (.tmp 14) (.tmp 61), _, _, _, _⟩) ?_); refine Lib.hid ?_; refine wpList_store_row rfl 35 (.tmp 14) (.tmp 61) rfl w6t.heap.size (KA (turnK r)) rfl rfl 35 (KA zK) HZ7.out (k_inf _) rfl (k_one _) ?_; rw [World.setRow_alloc_new]; obtain ⟨w7, hw7⟩ : ∃ x, x = w6t.alloc (.cells (KA (turnK r)) 35) := ⟨_, rfl⟩; obtain ⟨gt, hgt⟩ : ∃ g, g = w6t.heap.size := ⟨_, rfl⟩; have HT7 : Hid (w7.heap[gt]? = some (.cells (KA (turnK r)) 35 (0, 0))) := Lib.hid (by rw [hw7, hgt]; exact al_new rfl _); have b7 : Below wr.heap.size wr w7 := by { rw [hw7]; exact bel_via b6 (bel_al _ _) }; have HP7 := Lib.hid (kb b7 HP6.out); have HK7 := Lib.hid (kb b7 HK6.out); have HB7 := Lib.hid (bel_via HB6.out b7); have HO7 := Lib.hid (pl_ou HP7.out); have HBA7 := Lib.hid (pl_ba HP7.out); have HOP7 := Lib.hid (pl_op HP7.out); rw [← hw7, ← hgt]; clear hw7 hgt b7 b6; have y0 : w7.cell? ⟨gk, 0, none⟩ = some (.int .i64 k.proto) := cell_of_row _ gk 0 _ _ _ HK7.out; have y1 : w7.cell? ⟨gk, 1, none⟩ = some (.int .u64 k.sh) := cell_of_row _ gk 1 _ _ _ HK7.out; have y2 : w7.cell? ⟨gk, 2, none⟩ = some (.int .u64 k.sl) := cell_of_row _ gk 2 _ _ _ HK7.out; have y3 : w7.cell? ⟨gk, 3, none⟩ = some (.int .u64 k.dh) := cell_of_row _ gk 3 _ _ _ HK7.out; have y4 : w7.cell? ⟨gk, 4, none⟩ = some (.int .u64 k.dl) := cell_of_row _ gk 4 _ _ _ HK7.out; have y5 : w7.cell? ⟨gk, 5, none⟩ = some (.int .i64 k.sp) := cell_of_row _ gk 5 _ _ _ HK7.out; have y6 : w7.cell? ⟨gk, 6, none⟩ = some (.int .i64 k.dp) := cell_of_row _ gk 6 _ _ _ HK7.out; have z29 : w7.cell? ⟨gP, 29, none⟩ = some (.int .u64 k.dh) := cell_of_row _ gP 29 _ _ _ HP7.out; have z30 : w7.cell? ⟨gP, 30, none⟩ = some (.int .u64 k.dl) := cell_of_row _ gP 30 _ _ _ HP7.out; have z31 : w7.cell? ⟨gP, 31, none⟩ = some (.int .u64 k.sh) := cell_of_row _ gP 31 _ _ _ HP7.out; have z32 : w7.cell? ⟨gP, 32, none⟩ = some (.int .u64 k.sl) := cell_of_row _ gP 32 _ _ _ HP7.out; have z33 : w7.cell? ⟨gP, 33, none⟩ = some (.int .i64 k.dp) := cell_of_row _ gP 33 _ _ _ HP7.out; have z34 : w7.cell? ⟨gP, 34, none⟩ = some (.int .i64 k.sp) := cell_of_row _ gP 34 _ _ _ HP7.out; have z14 : w7.cell? ⟨gP, 14, none⟩ = some (.int .i64 r.proto) := cell_of_row _ gP 14 _ _ _ HP7.out; have z17 : w7.cell? ⟨gP, 17, none⟩ = some (.int .u64 r.dh) := cell_of_row _ gP 17 _ _ _ HP7.out; have z18 : w7.cell? ⟨gP, 18, none⟩ = some (.int .u64 r.dl) := cell_of_row _ gP 18 _ _ _ HP7.out; have z3 : w7.cell? ⟨gP, 3, none⟩ = some (.int .u64 (judK c k).dh) := cell_of_row _ gP 3 _ _ _ HP7.out; have z4 : w7.cell? ⟨gP, 4, none⟩ = some (.int .u64 (judK c k).dl) := cell_of_row _ gP 4 _ _ _ HP7.out; have z1 : w7.cell? ⟨gP, 1, none⟩ = some (.int .u64 k.sh) := cell_of_row _ gP 1 _ _ _ HP7.out; have z2 : w7.cell? ⟨gP, 2, none⟩ = some (.int .u64 k.sl) := cell_of_row _ gP 2 _ _ _ HP7.out; refine Hid.out ?_))
        refine Lib.hid ?_
        try simp only [Act.put]
        go_upto_region 15 with fail
        simp only [List.append_eq, List.cons_append, List.nil_append]
        go_wp2_with (first | ((with_reducible refine stop_op (o := ⟨some 63, _, _, _, _, _⟩) ?_); refine Lib.hid ?_; refine wpList_load_cells rfl 35 (.tmp 62) rfl ⟨gP, 21, none⟩ rfl (KA (turnK r)) _ (HBA7.out) Try.underlying35 rfl (k_inf _) ?_) | ((with_reducible refine stop_op (o := ⟨some 65, _, _, _, _, _⟩) ?_); refine Lib.hid ?_; refine wpList_load_cells rfl 35 (.tmp 64) rfl ⟨gP, 7, none⟩ rfl (KA (k)) _ (HOP7.out) Try.underlying35 rfl (k_inf _) ?_) | ((with_reducible refine stop_op (o := ⟨some 69, _, _, _, _, _⟩) ?_); refine Lib.hid ?_; refine wpList_load_cells_on (by rfl) 35 (.tmp 68) rfl ⟨gP, 7, none⟩ rfl (KA (k)) _ (HOP7.out) Try.underlying35 rfl (k_inf _) ?_) | ((with_reducible refine stop_op (o := ⟨some 70, _, _, _, _, _⟩) ?_); refine Lib.hid ?_; refine wpList_load_cells_on (by rfl) 35 (.tmp 6) rfl ⟨gk, 0, none⟩ rfl (KA (k)) _ (blk_all HK7.out) Try.underlying35 rfl (k_inf _) ?_) | ((with_reducible refine stop_op (o := ⟨some 75, _, _, _, _, _⟩) ?_); refine Lib.hid ?_; refine wpList_load_cells_on (by rfl) 35 (.tmp 74) rfl ⟨gP, 21, none⟩ rfl (KA (turnK r)) _ (HBA7.out) Try.underlying35 rfl (k_inf _) ?_) | ((with_reducible refine stop_op (o := ⟨some 76, _, _, _, _, _⟩) ?_); refine Lib.hid ?_; refine wpList_load_cells_on (by rfl) 35 (.tmp 14) rfl ⟨gt, 0, none⟩ rfl (KA (turnK r)) _ (blk_all HT7.out) Try.underlying35 rfl (k_inf _) ?_))
        all_goals (
          go_ret
          refine ⟨ret_bool ?_, HB7.out⟩
          have hr := HR.out
          obtain ⟨q1, q2, q3⟩ := hr
          first | (simp [q1, q2, q3]; done) | (exfalso; simp_all; done) | simp_all)
end Go.Proofs.Ytokbmahnjmmcaaa
