/- NatPlain: the walk; by-name template (gen_na.py). -/
import Derived.Test.YtokbmahnjmmcaaaNaF
import Derived.Test.YtokbmahnjmmcaaaNaR4
namespace Go.Proofs.Ytokbmahnjmmcaaa
open Go.RowKit Go.Lib Go.Maps
set_option linter.unusedVariables false
set_option linter.unusedSimpArgs false

def dN (c : CF) : CF := { c with nA := none, nn := 0, nc := 0, ns := [] }
theorem nil_sl {α : Type} (w : World) (k : Nat) (enc : α → List Value) : Sl w k enc none 0 [] := ⟨rfl, by omega, fun h => by omega⟩
theorem dN_ok {w : World} {c : CF} (h : c.Ok w) : (dN c).Ok w := ⟨h.z, h.o, h.s, h.l, h.t, nil_sl w 10 nrc, h.u, h.zi, h.oi, fun n hn => (by cases hn), fun n hn => (by cases hn), h.zw⟩
theorem dN_src (c : CF) (x : Int) (k : KR) : srcP (dN c) x k = -1 := by
  unfold srcP
  exact pl_miss (fun j x h => by simp [dN] at h)
def plP (k : KR) (a b : Int) : PN := ⟨k, k, k, turnK k, turnK k, a, b⟩
theorem c_one (c : CF) : (cfc c).all (·.oneCell') = true := by unfold cfc; simp [Value.oneCell']
theorem plain_make (c : CF) (inn : Int) (k : KR) : makeP (dN c) inn k [] = if (routeP (dN c) k.dh k.dl).1 = -1 then (zP, 8) else if (routeP (dN c) k.dh k.dl).2 = -1 then (zP, 3) else if (turnK k == k) = true then (zP, 15) else (plP k (routeP (dN c) k.dh k.dl).1 (routeP (dN c) k.dh k.dl).2, 0) := by
  have hj : judK (dN c) k = k := rfl
  by_cases h1 : (routeP (dN c) k.dh k.dl).1 = -1
  · rw [if_pos h1]; unfold makeP; rw [hj, if_pos h1]
  by_cases h2 : (routeP (dN c) k.dh k.dl).2 = -1
  · rw [if_neg h1, if_pos h2]; unfold makeP; rw [hj, if_neg h1, if_pos h2]
  rw [if_neg h1, if_neg h2, make_rest (by rw [hj]; exact h1) (by rw [hj]; exact h2)]
  obtain ⟨q1, q2⟩ := hair_no (inn := inn) (dN_src c _ (judK (dN c) k)) (.inl rfl)
  rw [portQ_no q1 q2, hj]
  unfold freeB
  cases (turnK k == k) <;> rfl
theorem row5 (c : CF) : (cfc c).setIfInBounds 5 (.slice none 0 0) = cfc (dN c) := rfl
theorem pl_ju {W : World} {g : Nat} {p : PN} {T : TypeId} (h : W.heap[g]? = some (.cells (PA p) T (0, 0))) : ∀ j v, (KA p.ju).toList[j]? = some v → W.cell? ((⟨g, 0, none⟩ : Addr).add j) = some v := by
  intro j v hv
  rw [addr_add]
  have hl : j < 7 := (List.getElem?_eq_some_iff.1 hv).1
  match j, hl with
  | 0, _ => exact (cell_of_row _ g 0 _ _ _ h).trans hv
  | 1, _ => exact (cell_of_row _ g 1 _ _ _ h).trans hv
  | 2, _ => exact (cell_of_row _ g 2 _ _ _ h).trans hv
  | 3, _ => exact (cell_of_row _ g 3 _ _ _ h).trans hv
  | 4, _ => exact (cell_of_row _ g 4 _ _ _ h).trans hv
  | 5, _ => exact (cell_of_row _ g 5 _ _ _ h).trans hv
  | 6, _ => exact (cell_of_row _ g 6 _ _ _ h).trans hv
theorem pl_ho {W : World} {g : Nat} {p : PN} {T : TypeId} (h : W.heap[g]? = some (.cells (PA p) T (0, 0))) : ∀ j v, (KA p.ho).toList[j]? = some v → W.cell? ((⟨g, 28, none⟩ : Addr).add j) = some v := by
  intro j v hv
  rw [addr_add]
  have hl : j < 7 := (List.getElem?_eq_some_iff.1 hv).1
  match j, hl with
  | 0, _ => exact (cell_of_row _ g 28 _ _ _ h).trans hv
  | 1, _ => exact (cell_of_row _ g 29 _ _ _ h).trans hv
  | 2, _ => exact (cell_of_row _ g 30 _ _ _ h).trans hv
  | 3, _ => exact (cell_of_row _ g 31 _ _ _ h).trans hv
  | 4, _ => exact (cell_of_row _ g 32 _ _ _ h).trans hv
  | 5, _ => exact (cell_of_row _ g 33 _ _ _ h).trans hv
  | 6, _ => exact (cell_of_row _ g 34 _ _ _ h).trans hv
set_option maxRecDepth 100000 in
set_option maxHeartbeats 8000000 in
theorem plain_law (c : CF) (inn : Int) (k : KR) {w : World} (hc : c.Ok w) (hf : c.Fit) (hk : KyOk k) :
    Calls Try.prog 3 #[.agg (cfc c), .int .i64 inn, .agg (KA k)] w (LawP w) := by
  unfold LawP
  go_enter Try.func3, Try.ntmps3
  go_upto_region 1 with fail
  obtain ⟨gk, hgk⟩ : ∃ g, g = w.heap.size + 1 := ⟨_, rfl⟩
  obtain ⟨gc, hgc⟩ : ∃ g, g = w.heap.size := ⟨_, rfl⟩
  obtain ⟨w1, hw1⟩ : ∃ x, x = (w.alloc (.cells (cfc c) 30)).alloc (.cells (KA k) 35) := ⟨_, rfl⟩
  have HB1 : Hid (Below w.heap.size w w1) := Lib.hid (by rw [hw1]; exact Below.al (bel_al _ _) _)
  have HK1 : Hid (w1.heap[gk]? = some (.cells (KA k) 35 (0, 0))) := Lib.hid (by rw [hw1, hgk]; exact al_new (by simp [al_size]) _)
  have HC1 : Hid (w1.heap[gc]? = some (.cells (cfc c) 30 (0, 0))) := Lib.hid (by
    rw [hw1, hgc]
    exact (al_old (by simp only [al_size]; omega) _).trans (al_new rfl _))
  rw [← hw1]
  rw [← hgk]
  rw [show (Value.pointer (some ⟨w.heap.size, 0, none⟩)) = Value.pointer (some ⟨gc, 0, none⟩) by rw [hgc]]
  clear hw1 hgk hgc
  have ch := heavy_any c (hc.keep HB1.out) hf
  go_wp2_with ((with_reducible refine stop_op (o := ⟨some 12, _, _, _, _, _⟩) ?_); refine Lib.hid ?_; refine wpList_load_cells rfl 30 (.tmp 3) rfl ⟨gc, 0, none⟩ rfl (cfc c) _ (blk_all HC1.out) Try.underlying30 rfl (c_inf _) ?_)
  refine ch.mono ?_
  rintro e w2 ⟨hv, rfl, -, b2⟩
  have HB2 := Lib.hid (bel_via HB1.out b2)
  have HK2 := Lib.hid (kb b2 HK1.out)
  have HC2 := Lib.hid (kb b2 HC1.out)
  clear b2 HB1 HK1 HC1 ch
  cases hv with
  | true =>
    go_wp2
    go_ret
    exact ⟨rfl, HB2.out⟩
  | false =>
  have hz3 : (w2.alloc (.cells #[.slice none 0 0, .slice none 0 0, .slice none 0 0, .slice none 0 0, .slice none 0 0, .slice none 0 0, .slice none 0 0, .int .i64 0] 30)).heap[w2.heap.size]? = some (.cells #[.slice none 0 0, .slice none 0 0, .slice none 0 0, .slice none 0 0, .slice none 0 0, .slice none 0 0, .slice none 0 0, .int .i64 0] 30 (0, 0)) := al_new rfl _
  have HZ3 := Lib.hid hz3
  clear hz3
  go_upto_region 4 with (first | ((with_reducible refine stop_op (o := ⟨some 14, _, _, _, _, _⟩) ?_); refine Lib.hid ?_; refine wpList_load_cells rfl 30 (.tmp 3) rfl ⟨gc, 0, none⟩ rfl (cfc c) _ (blk_all HC2.out) Try.underlying30 rfl (c_inf _) ?_) | ((with_reducible refine stop_op (o := ⟨none, .store 30 (.tmp 7) (.tmp 14), _, _, _, _⟩) ?_); refine Lib.hid ?_; refine wpList_store_row rfl 30 (.tmp 7) (.tmp 14) rfl w2.heap.size (cfc c) rfl rfl 30 _ HZ3.out (c_inf _) rfl (c_one _) ?_))
  rw [World.setRow_alloc_new]
  try simp only [Act.put]
  obtain ⟨w3, hw3⟩ : ∃ x, x = w2.alloc (.cells (cfc c) 30) := ⟨_, rfl⟩
  obtain ⟨gd, hgd⟩ : ∃ g, g = w2.heap.size := ⟨_, rfl⟩
  have hD3 : w3.heap[gd]? = some (.cells (cfc c) 30 (0, 0)) := by rw [hw3, hgd]; exact al_new rfl _
  have b3 : Below w2.heap.size w2 w3 := by rw [hw3]; exact bel_al _ _
  have hgk : gk ≠ gd := by have := blk_lt HK2.out; omega
  have hgw : w.heap.size ≤ gd := by have := HB2.out.size; omega
  have HB3 := Lib.hid (bel_via HB2.out b3)
  have HK3 := Lib.hid (kb b3 HK2.out)
  rw [← hw3, ← hgd]
  clear hw3 hgd b3 HZ3 HB2 HK2 HC2
  have x5 : w3.cell? ⟨gd, 5, none⟩ = some (.slice c.nA c.nn c.nc) := cell_of_row _ gd 5 _ _ _ hD3
  have z5 := free_of hD3 5
  have HD3 := Lib.hid hD3
  clear hD3
  go_upto_region 5 with fail
  have hD4 := heap_set HD3.out 5 (.slice none 0 0)
  rw [row5] at hD4
  have o4 := (Off.refl gd w3).set 5 (.slice none 0 0)
  have hK4 := (o4.block _ (blk_lt HK3.out) hgk).trans HK3.out
  have hB4 := HB3.out.trans (o4.toBelow hgw HB3.out.size)
  obtain ⟨w4, hw4⟩ : ∃ x, x = w3.setCell ⟨gd, 5, none⟩ (.slice none 0 0) := ⟨_, rfl⟩
  rw [← hw4] at hD4 hK4 hB4 ⊢
  have HD4 := Lib.hid hD4
  have HK4 := Lib.hid hK4
  have HB4 := Lib.hid hB4
  clear hw4 hD4 hK4 hB4 o4 HD3 HK3 HB3 x5 z5
  have hmk := plain_make c inn k
  have cM := fun (W : World) (b : Below w.heap.size w W) => make_any (dN c) inn k none 0 0 [] ((dN_ok hc).keep b) hk (nil_sl W 7 krc) (fun x h => by cases h) (by omega)
  unfold MPost at cM
  obtain ⟨p, hp⟩ : ∃ p, p = (makeP (dN c) inn k []).1 := ⟨_, rfl⟩
  obtain ⟨m, hm⟩ : ∃ m, m = (makeP (dN c) inn k []).2 := ⟨_, rfl⟩
  rw [← hp, ← hm] at cM
  have cR := fun (W : World) (b : Below w.heap.size w W) => rroute_k (dN c) k.dh k.dl ((dN_ok hc).keep b)
  obtain ⟨a, ha⟩ : ∃ a, a = (routeP (dN c) k.dh k.dl).1 := ⟨_, rfl⟩
  obtain ⟨b, hb⟩ : ∃ b, b = (routeP (dN c) k.dh k.dl).2 := ⟨_, rfl⟩
  rw [← ha, ← hb] at cR hmk
  obtain ⟨q, hq⟩ : ∃ q, q = (turnK k == k) := ⟨_, rfl⟩
  rw [← hq] at hmk
  have HPM : Hid (p = (if a = -1 then (zP, 8) else if b = -1 then (zP, 3) else if q = true then (zP, 15) else (plP k a b, (0 : Int))).1 ∧ m = (if a = -1 then (zP, 8) else if b = -1 then (zP, 3) else if q = true then (zP, 15) else (plP k a b, (0 : Int))).2) := Lib.hid ⟨by rw [hp, hmk], by rw [hm, hmk]⟩
  have heq := fun W => eql_ky (turnK k) k W
  rw [← hq] at heq
  have HQ := Lib.hid hq
  clear hp hm ha hb hmk hq
  go_upto_region 6 with (first | ((with_reducible refine stop_op (o := ⟨some 17, _, _, _, _, _⟩) ?_); refine Lib.hid ?_; refine wpList_load_cells rfl 30 (.tmp 7) rfl ⟨gd, 0, none⟩ rfl (cfc (dN c)) _ (blk_all HD4.out) Try.underlying30 rfl (c_inf _) ?_) | ((with_reducible refine stop_op (o := ⟨some 19, _, _, _, _, _⟩) ?_); refine Lib.hid ?_; refine wpList_load_cells rfl 35 (.tmp 5) rfl ⟨gk, 0, none⟩ rfl (KA k) _ (blk_all HK4.out) Try.underlying35 rfl (k_inf _) ?_) | (go_at_call 11; ((with_reducible refine (cM _ HB4.out).mono ?_); rintro e w4m ⟨rfl, b4m⟩; have HZZ := Lib.hid (al_new (w := w4m) (k := w4m.heap.size) rfl (.cells (PA zP) 38)))) | ((with_reducible refine stop_op (o := ⟨none, .store 38 (.tmp 8) (.tmp 21), _, _, _, _⟩) ?_); refine Lib.hid ?_; refine wpList_store_row rfl 38 (.tmp 8) (.tmp 21) rfl w4m.heap.size (PA p) rfl rfl 38 (PA zP) HZZ.out (p_inf _) rfl (p_one _) ?_))
  rw [World.setRow_alloc_new]
  try simp only [Act.put]
  obtain ⟨w5, hw5⟩ : ∃ x, x = w4m.alloc (.cells (PA p) 38) := ⟨_, rfl⟩
  obtain ⟨gP, hgP⟩ : ∃ g, g = w4m.heap.size := ⟨_, rfl⟩
  have HP5 : Hid (w5.heap[gP]? = some (.cells (PA p) 38 (0, 0))) := Lib.hid (by rw [hw5, hgP]; exact al_new rfl _)
  have b5 : Below w4.heap.size w4 w5 := by rw [hw5]; exact bel_via b4m (bel_al _ _)
  have HB5 := Lib.hid (bel_via HB4.out b5)
  have HK5 := Lib.hid (kb b5 HK4.out)
  have HD5 := Lib.hid (kb b5 HD4.out)
  rw [← hw5, ← hgP]
  clear hw5 hgP b5 b4m HZZ HB4 HK4 HD4 cM
  have y3 : w5.cell? ⟨gk, 3, none⟩ = some (.int .u64 k.dh) := cell_of_row _ gk 3 _ _ _ HK5.out
  have y4 : w5.cell? ⟨gk, 4, none⟩ = some (.int .u64 k.dl) := cell_of_row _ gk 4 _ _ _ HK5.out
  go_upto_region 7 with (first | ((with_reducible refine stop_op (o := ⟨some 24, _, _, _, _, _⟩) ?_); refine Lib.hid ?_; refine wpList_load_cells rfl 30 (.tmp 7) rfl ⟨gd, 0, none⟩ rfl (cfc (dN c)) _ (blk_all HD5.out) Try.underlying30 rfl (c_inf _) ?_) | (go_at_call 12; ((with_reducible refine (cR _ HB5.out).mono ?_); rintro e w6 ⟨rfl, b6⟩)))
  have HB6 := Lib.hid (bel_via HB5.out b6)
  have HK6 := Lib.hid (kb b6 HK5.out)
  have HP6 := Lib.hid (kb b6 HP5.out)
  clear b6 HB5 HK5 HP5 HD5 y3 y4 cR
  by_cases c1 : a = -1
  · have hm8 : m = 8 := by rw [HPM.out.2, if_pos c1]
    subst c1 hm8
    clear HPM
    go_wp2
    go_ret
    exact ⟨rfl, HB6.out⟩
  by_cases c2 : b = -1
  · have hm8 : m = 3 := by rw [HPM.out.2, if_neg c1, if_pos c2]
    have c1b : (a == -1) = false := by simp [c1]
    subst c2 hm8
    clear HPM
    go_wp2
    all_goals (go_ret; exact ⟨ret_bool (by simp_all), HB6.out⟩)
  have c1b : (a == -1) = false := by simp [c1]
  have c2b : (b == -1) = false := by simp [c2]
  have HC12 := Lib.hid (And.intro c1 c2)
  have cT := fun W => rturn_any k W
  clear c1 c2
  go_upto_region 11 with fail
  refine wp_region_held_drew (S := fun W1 : World => W1.heap[gk]? = some (.cells (KA k) 35 (0, 0))) (by kernel_rfl) HK6.out (fun hS0 => ?_)
  have b0 : Below w6.heap.size w6 w6.drew := bel_dr (Below.refl _ _)
  obtain ⟨wd0, hwd⟩ : ∃ x, x = w6.drew := ⟨_, rfl⟩
  rw [← hwd] at hS0 b0 ⊢
  clear hwd
  refine wpAnyH_take (i := 0) (oi := ⟨some 41, _, _, _, _, _⟩) (v := .agg (KA k)) rfl (by kernel_rfl) (by kernel_rfl) (by kernel_rfl) (fun _ _ _ h => h) (yields_cells (by rfl) 35 _ rfl ⟨gk, 0, none⟩ rfl (KA k) _ (fun W hW => blk_all hW) Try.underlying35 rfl (k_inf _)) hS0 ?_
  try simp only [Act.put, List.setIfInBounds_toArray, List.set_cons_zero, List.set_cons_succ]
  refine wpAnyH_take (i := 2) (oi := ⟨some 43, _, _, _, _, _⟩) (v := .agg (KA k)) rfl (by kernel_rfl) (by kernel_rfl) (by kernel_rfl) (fun _ _ _ h => h) (yields_cells (by rfl) 35 _ rfl ⟨gk, 0, none⟩ rfl (KA k) _ (fun W hW => blk_all hW) Try.underlying35 rfl (k_inf _)) hS0 ?_
  try simp only [Act.put, List.setIfInBounds_toArray, List.set_cons_zero, List.set_cons_succ]
  refine wpAnyH_ready (rs := [1]) (by kernel_rfl) (by simp) ?_
  refine AllReadyH.cons (o := ⟨some 42, _, _, _, _, _⟩) rfl (fun K hK => ?_) AllReadyH.nil
  go_simp
  go_at_call 13
  ((with_reducible refine (cT _).mono ?_); rintro e wd1 ⟨rfl, bT⟩)
  have hS1 := kb bT hS0
  have b1 := bel_via b0 bT
  refine hK.out _ _ hS1 (fun _ => ?_)
  clear hK K
  try simp only [Act.put, List.setIfInBounds_toArray, List.set_cons_zero, List.set_cons_succ]
  refine wpAnyH_take (i := 3) (oi := ⟨some 44, _, _, _, _, _⟩) (v := .bool q) rfl (by kernel_rfl) (by kernel_rfl) (by kernel_rfl) (fun _ _ _ h => h) (.inl ⟨by rfl, fun W hW => by have := heq W; unfold execOp; simp only []; go_simp⟩) hS1 ?_
  try simp only [Act.put, List.setIfInBounds_toArray, List.set_cons_zero, List.set_cons_succ]
  refine wpAnyH_take (i := 4) (oi := ⟨some 40, _, _, _, _, _⟩) (v := .bool q) rfl (by kernel_rfl) (by kernel_rfl) (by kernel_rfl) (fun _ _ _ h => h) (.inl ⟨by rfl, fun W hW => by go_simp⟩) hS1 ?_
  try simp only [Act.put, List.setIfInBounds_toArray, List.set_cons_zero, List.set_cons_succ]
  refine wpAnyH_done (by kernel_rfl) ?_ _
  try simp only [Act.put, List.setIfInBounds_toArray, List.set_cons_zero, List.set_cons_succ]
  have HB7 := Lib.hid (bel_via HB6.out b1)
  have HP7 := Lib.hid (kb b1 HP6.out)
  have HK7 := Lib.hid hS1
  obtain ⟨w7, hw7⟩ : ∃ x, x = wd1 := ⟨_, rfl⟩
  rw [← hw7] at HB7 HP7 HK7 ⊢
  clear hw7 hS1 hS0 b1 b0 HB6 HP6 HK6 cT
  cases q
  · have hpp : p = plP k a b := by rw [HPM.out.1, if_neg HC12.out.1, if_neg HC12.out.2]; rfl
    have hmm : m = 0 := by rw [HPM.out.2, if_neg HC12.out.1, if_neg HC12.out.2]; rfl
    subst hpp hmm
    have HJU := Lib.hid (pl_ju HP7.out)
    have HOU := Lib.hid (pl_ou HP7.out)
    have HOP := Lib.hid (pl_op HP7.out)
    have HBA := Lib.hid (pl_ba HP7.out)
    have HHO := Lib.hid (pl_ho HP7.out)
    have x35 : w7.cell? ⟨gP, 35, none⟩ = some (.int .i64 a) := cell_of_row _ gP 35 _ _ _ HP7.out
    have x36 : w7.cell? ⟨gP, 36, none⟩ = some (.int .i64 b) := cell_of_row _ gP 36 _ _ _ HP7.out
    have eq2 := fun W => eql_ky k k W
    have eq3 := fun W => eql_ky (turnK k) (turnK k) W
    rw [beq_self_eq_true] at eq2 eq3
    clear HPM
    go_upto_region 13 with fail
    try simp only [List.append_eq, List.cons_append, List.nil_append]
    go_wp2_with (first | ((with_reducible refine stop_op (o := ⟨some 51, _, _, _, _, _⟩) ?_); refine Lib.hid ?_; refine wpList_load_cells_on (by rfl) 35 (.tmp 50) rfl ⟨gP, 0, none⟩ rfl (KA (k)) _ (HJU.out) Try.underlying35 rfl (k_inf _) ?_) | ((with_reducible refine stop_op (o := ⟨some 52, _, _, _, _, _⟩) ?_); refine Lib.hid ?_; refine wpList_load_cells_on (by rfl) 35 (.tmp 5) rfl ⟨gk, 0, none⟩ rfl (KA (k)) _ (blk_all HK7.out) Try.underlying35 rfl (k_inf _) ?_) | ((with_reducible refine stop_op (o := ⟨some 57, _, _, _, _, _⟩) ?_); refine Lib.hid ?_; refine wpList_load_cells_on (by rfl) 35 (.tmp 56) rfl ⟨gP, 14, none⟩ rfl (KA (k)) _ (HOU.out) Try.underlying35 rfl (k_inf _) ?_) | ((with_reducible refine stop_op (o := ⟨some 58, _, _, _, _, _⟩) ?_); refine Lib.hid ?_; refine wpList_load_cells_on (by rfl) 35 (.tmp 5) rfl ⟨gk, 0, none⟩ rfl (KA (k)) _ (blk_all HK7.out) Try.underlying35 rfl (k_inf _) ?_) | ((with_reducible refine stop_op (o := ⟨some 63, _, _, _, _, _⟩) ?_); refine Lib.hid ?_; refine wpList_load_cells_on (by rfl) 35 (.tmp 62) rfl ⟨gP, 7, none⟩ rfl (KA (k)) _ (HOP.out) Try.underlying35 rfl (k_inf _) ?_) | ((with_reducible refine stop_op (o := ⟨some 64, _, _, _, _, _⟩) ?_); refine Lib.hid ?_; refine wpList_load_cells_on (by rfl) 35 (.tmp 5) rfl ⟨gk, 0, none⟩ rfl (KA (k)) _ (blk_all HK7.out) Try.underlying35 rfl (k_inf _) ?_) | ((with_reducible refine stop_op (o := ⟨some 69, _, _, _, _, _⟩) ?_); refine Lib.hid ?_; refine wpList_load_cells_on (by rfl) 35 (.tmp 68) rfl ⟨gP, 21, none⟩ rfl (KA (turnK k)) _ (HBA.out) Try.underlying35 rfl (k_inf _) ?_) | ((with_reducible refine stop_op (o := ⟨some 71, _, _, _, _, _⟩) ?_); refine Lib.hid ?_; refine wpList_load_cells_on (by rfl) 35 (.tmp 70) rfl ⟨gP, 28, none⟩ rfl (KA (turnK k)) _ (HHO.out) Try.underlying35 rfl (k_inf _) ?_))
    all_goals (go_ret; exact ⟨ret_bool (by simp_all), HB7.out⟩)
  · have hmm : m = 15 := by rw [HPM.out.2, if_neg HC12.out.1, if_neg HC12.out.2]; rfl
    subst hmm
    clear HPM
    go_wp2
    all_goals (go_ret; exact ⟨ret_bool (by simp_all), HB7.out⟩)
end Go.Proofs.Ytokbmahnjmmcaaa
