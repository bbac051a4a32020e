/- Steps of a draft: back; by-name template (gen_na.py). -/
import Derived.Test.YtokbmahnjmmcaaaNaM2
namespace Go.Proofs.Ytokbmahnjmmcaaa
open Go.RowKit Go.Lib Go.Maps
set_option linter.unusedVariables false
set_option linter.unusedSimpArgs false

def backD (d : DR) : DR := { d with ba := turnK d.ou }
theorem step_alloc {P : Program} {ops : Array Oper} {op : Oper} {a : Act} {w : World} {K : Act → World → Prop} {Q : Exit → Act → World → Prop} {E : Prop} (hgd : op.guard = none) (ty : TypeId) (ho : op.op = .alloc ty)
    (Z : Array Value) (hz : ∀ w, (zeroValue ty).run P w = .ok (.agg Z) w)
    (h : ∀ (w' : World) (g : Nat), w'.heap[g]? = some (.cells Z ty (0, 0)) → Below w.heap.size w w' → w.heap.size ≤ g → K (a.put op.dst (.pointer (some ⟨g, 0, none⟩))) w') : if Region.wanted op (yielded ops a.tmps) = true then Oper.wp P op a w K Q else E := by
  have hw : Region.wanted op (yielded ops a.tmps) = true := by simp [Region.wanted, hgd]
  rw [if_pos hw]
  have h2 := h _ _ (heap_alloc_new w (.cells Z ty)) ((Below.refl _ _).alloc (Nat.le_refl _) _) (Nat.le_refl _)
  unfold Oper.wp
  simp [go_sem, execOp, ho, hz]
  exact h2
set_option maxRecDepth 100000 in
set_option maxHeartbeats 8000000 in
theorem back_any (d : DR) (B : Nat) (g : KR → Bool) (c : Nat) {w : World} (h : DAt w B d) (hM : MapT w d.mt g c) (hk : KyOk (turnK d.ou)) :
    Calls Try.prog 36 #[.pointer (some ⟨B, 0, none⟩)] w (DPost w B (if g (turnK d.ou) || turnK d.ou == d.op then 15 else 0) (backD d)) := by
  unfold DPost
  obtain ⟨rr, hrr⟩ : ∃ rr : Int, rr = if g (turnK d.ou) || turnK d.ou == d.op then 15 else 0 := ⟨_, rfl⟩
  rw [← hrr]
  have HR := Lib.hid hrr
  clear hrr
  have hne : d.mt ≠ B := hM.ne h
  have hlt := h.lt
  have HO := Lib.hid h.k_ou
  have cT := fun W => turn_any d.ou W
  go_enter Try.func36, Try.ntmps36
  go_upto_region 1 with fail
  have HS : Hid (∀ W, Below w.heap.size w W → W.there B 21 7) := Lib.hid (fun W b => (h.bel b).there (by omega))
  go_upto_region 2 with (first | ((with_reducible refine stop_op (o := ⟨some 10, _, _, _, _, _⟩) ?_); refine Lib.hid ?_; refine wpList_load_cells rfl 35 (.tmp 9) rfl ⟨B, 14, none⟩ rfl (KA d.ou) _ HO.out Try.underlying35 rfl (k_inf _) ?_) | (go_at_call 30; ((with_reducible refine (cT _).mono ?_); rintro e w0 ⟨rfl, b0⟩)) | ((with_reducible refine stop_op (o := ⟨none, .store 35 (.tmp 14) (.tmp 11), _, _, _, _⟩) ?_); refine Lib.hid ?_; refine wpList_store_mid rfl 35 (.tmp 14) (.tmp 11) rfl B 21 (KA (turnK d.ou)) rfl rfl (HS.out _ b0) (k_inf _) (k_one _) ?_))
  have h1 := (h.bel b0).set_ba (turnK d.ou)
  have o1 := (off_bel (B := B) b0).trans (setCells_off (KA (turnK d.ou)).toList 21 w0 B)
  have hM1 := (hM.keep (b0.block _ hM.lt)).keep ((setCells_off (KA (turnK d.ou)).toList 21 w0 B).block _ (Nat.lt_of_lt_of_le hM.lt b0.size) hne)
  obtain ⟨w1, hw1⟩ : ∃ x, x = w0.setCells B 21 (KA (turnK d.ou)).toList := ⟨_, rfl⟩
  rw [← hw1] at h1 o1 hM1 ⊢
  clear hw1 HO HS b0
  refine wp_region_held_drew (S := fun W1 : World => ∃ d' : DR, DAt W1 B d' ∧ (d'.mt = d.mt ∧ d'.ba = turnK d.ou ∧ MapT W1 d.mt g c)) (by kernel_rfl) ⟨_, h1.bel (bel_dr (Below.refl _ _)), rfl, rfl, hM1.keep rfl⟩ (fun hH => ?_)
  clear hH
  have hD0 := h1.bel (bel_dr (Below.refl _ _))
  have hF0 := o1.drew
  have bD0 : Below w1.heap.size w1 w1.drew := bel_dr (Below.refl _ _)
  have hM0 := (hM1.keep (w' := w1.drew) rfl)
  obtain ⟨wd0, hwd⟩ : ∃ x, x = w1.drew := ⟨_, rfl⟩
  rw [← hwd] at hD0 hF0 bD0 hM0 ⊢
  clear hwd
  refine wpAnyH_take (i := 0) (oi := ⟨some 16, _, _, _, _, _⟩) (v := .pointer (some ⟨B, 0, none⟩)) rfl (by kernel_rfl) (by kernel_rfl) (by kernel_rfl) (fun _ _ _ h => h) (.inl ⟨by rfl, fun W hW => by go_simp⟩) ⟨_, hD0, rfl, rfl, hM0⟩ ?_
  try simp only [Act.put, List.setIfInBounds_toArray, List.set_cons_zero, List.set_cons_succ]
  refine wpAnyH_take (i := 1) (oi := ⟨some 17, _, _, _, _, _⟩) (v := .pointer (some ⟨B, 0, none⟩)) rfl (by kernel_rfl) (by kernel_rfl) (by kernel_rfl) (fun _ _ _ h => h) (.inl ⟨by rfl, fun W hW => by go_simp⟩) ⟨_, hD0, rfl, rfl, hM0⟩ ?_
  try simp only [Act.put, List.setIfInBounds_toArray, List.set_cons_zero, List.set_cons_succ]
  refine wpAnyH_take (i := 2) (oi := ⟨some 18, _, _, _, _, _⟩) (v := .pointer (some ⟨B, 46, none⟩)) rfl (by kernel_rfl) (by kernel_rfl) (by kernel_rfl) (fun _ _ _ h => h) (.inl ⟨by rfl, fun W hW => by go_simp⟩) ⟨_, hD0, rfl, rfl, hM0⟩ ?_
  try simp only [Act.put, List.setIfInBounds_toArray, List.set_cons_zero, List.set_cons_succ]
  refine wpAnyH_take (i := 3) (oi := ⟨some 19, _, _, _, _, _⟩) (v := .map (some d.mt)) rfl (by kernel_rfl) (by kernel_rfl) (by kernel_rfl) (fun _ _ _ h => h) (.inl ⟨by rfl, fun W hW => by obtain ⟨d2, hd, q1, q2, q3⟩ := hW; have hx : W.cell? ⟨B, 46, none⟩ = some (.map (some d2.mt)) := hd.cell 46 rfl; rw [q1] at hx; go_simp⟩) ⟨_, hD0, rfl, rfl, hM0⟩ ?_
  try simp only [Act.put, List.setIfInBounds_toArray, List.set_cons_zero, List.set_cons_succ]
  refine wpAnyH_take (i := 4) (oi := ⟨some 20, _, _, _, _, _⟩) (v := .pointer (some ⟨B, 0, none⟩)) rfl (by kernel_rfl) (by kernel_rfl) (by kernel_rfl) (fun _ _ _ h => h) (.inl ⟨by rfl, fun W hW => by go_simp⟩) ⟨_, hD0, rfl, rfl, hM0⟩ ?_
  try simp only [Act.put, List.setIfInBounds_toArray, List.set_cons_zero, List.set_cons_succ]
  refine wpAnyH_take (i := 5) (oi := ⟨some 21, _, _, _, _, _⟩) (v := .pointer (some ⟨B, 0, none⟩)) rfl (by kernel_rfl) (by kernel_rfl) (by kernel_rfl) (fun _ _ _ h => h) (.inl ⟨by rfl, fun W hW => by go_simp⟩) ⟨_, hD0, rfl, rfl, hM0⟩ ?_
  try simp only [Act.put, List.setIfInBounds_toArray, List.set_cons_zero, List.set_cons_succ]
  refine wpAnyH_take (i := 6) (oi := ⟨some 22, _, _, _, _, _⟩) (v := .pointer (some ⟨B, 0, none⟩)) rfl (by kernel_rfl) (by kernel_rfl) (by kernel_rfl) (fun _ _ _ h => h) (.inl ⟨by rfl, fun W hW => by go_simp⟩) ⟨_, hD0, rfl, rfl, hM0⟩ ?_
  try simp only [Act.put, List.setIfInBounds_toArray, List.set_cons_zero, List.set_cons_succ]
  refine wpAnyH_take (i := 7) (oi := ⟨some 23, _, _, _, _, _⟩) (v := .pointer (some ⟨B, 21, none⟩)) rfl (by kernel_rfl) (by kernel_rfl) (by kernel_rfl) (fun _ _ _ h => h) (.inl ⟨by rfl, fun W hW => by go_simp⟩) ⟨_, hD0, rfl, rfl, hM0⟩ ?_
  try simp only [Act.put, List.setIfInBounds_toArray, List.set_cons_zero, List.set_cons_succ]
  refine wpAnyH_take (i := 8) (oi := ⟨some 24, _, _, _, _, _⟩) (v := .agg (KA (turnK d.ou))) rfl (by kernel_rfl) (by kernel_rfl) (by kernel_rfl) (fun _ _ _ h => h) (yields_cells (by rfl) 35 _ rfl ⟨B, 21, none⟩ rfl (KA (turnK d.ou)) _ (fun W hW => by obtain ⟨d2, hd, q⟩ := hW; exact q.2.1 ▸ hd.k_ba) Try.underlying35 rfl (k_inf _)) ⟨_, hD0, rfl, rfl, hM0⟩ ?_
  try simp only [Act.put, List.setIfInBounds_toArray, List.set_cons_zero, List.set_cons_succ]
  refine wpAnyH_take (i := 9) (oi := ⟨some 25, _, _, _, _, _⟩) (v := .tuple #[.agg #[], .bool (g (turnK d.ou))]) rfl (by kernel_rfl) (by kernel_rfl) (by kernel_rfl) (fun _ _ _ h => h) (.inl ⟨by rfl, fun W hW => by obtain ⟨d2, hd, q1, q2, q3⟩ := hW; have hx := q3.look hk; unfold execOp; simp only []; go_simp⟩) ⟨_, hD0, rfl, rfl, hM0⟩ ?_
  try simp only [Act.put, List.setIfInBounds_toArray, List.set_cons_zero, List.set_cons_succ]
  refine wpAnyH_take (i := 10) (oi := ⟨some 15, _, _, _, _, _⟩) (v := .tuple #[.agg #[], .bool (g (turnK d.ou))]) rfl (by kernel_rfl) (by kernel_rfl) (by kernel_rfl) (fun _ _ _ h => h) (.inl ⟨by rfl, fun W hW => by go_simp⟩) ⟨_, hD0, rfl, rfl, hM0⟩ ?_
  try simp only [Act.put, List.setIfInBounds_toArray, List.set_cons_zero, List.set_cons_succ]
  refine wpAnyH_take (i := 11) (oi := ⟨some 26, _, _, _, _, _⟩) (v := .agg #[]) rfl (by kernel_rfl) (by kernel_rfl) (by kernel_rfl) (fun _ _ _ h => h) (.inl ⟨by rfl, fun W hW => by go_simp⟩) ⟨_, hD0, rfl, rfl, hM0⟩ ?_
  try simp only [Act.put, List.setIfInBounds_toArray, List.set_cons_zero, List.set_cons_succ]
  refine wpAnyH_take (i := 12) (oi := ⟨some 27, _, _, _, _, _⟩) (v := .bool (g (turnK d.ou))) rfl (by kernel_rfl) (by kernel_rfl) (by kernel_rfl) (fun _ _ _ h => h) (.inl ⟨by rfl, fun W hW => by go_simp⟩) ⟨_, hD0, rfl, rfl, hM0⟩ ?_
  try simp only [Act.put, List.setIfInBounds_toArray, List.set_cons_zero, List.set_cons_succ]
  refine wpAnyH_ready (rs := [13]) (by kernel_rfl) (by simp) ?_
  refine AllReadyH.cons (o := ⟨some 3, _, _, _, _, _⟩) rfl (fun K hK => ?_) AllReadyH.nil
  refine step_alloc rfl 85 rfl #[] zeroN (fun wd1 gS hZ bC1 _ => ?_)
  have hD1 := hD0.bel bC1
  have hF1 := hF0.trans (off_bel bC1)
  have hM1 := hM0.keep (bC1.block _ hM0.lt)
  refine hK.out _ _ ⟨_, hD1, rfl, rfl, hM1⟩ (fun _ => ?_)
  clear hK K
  try simp only [Act.put, List.setIfInBounds_toArray, List.set_cons_zero, List.set_cons_succ]
  refine wpAnyH_ready (rs := [14]) (by kernel_rfl) (by simp) ?_
  refine AllReadyH.cons (o := ⟨none, _, _, _, _, _⟩) rfl (fun K hK => ?_) AllReadyH.nil
  refine step_store_mid rfl 85 (.tmp 3) (.tmp 26) rfl gS 0 #[] rfl rfl (fun j hj => absurd hj (by simp)) (by kernel_rfl) (by simp) ?_
  refine hK.out _ wd1 ⟨_, hD1, rfl, rfl, hM1⟩ (fun _ => ?_)
  clear hK K
  try simp only [Act.put, List.setIfInBounds_toArray, List.set_cons_zero, List.set_cons_succ]
  refine wpAnyH_take (i := 15) (oi := ⟨some 4, _, _, _, _, _⟩) (v := .bool (g (turnK d.ou))) rfl (by kernel_rfl) (by kernel_rfl) (by kernel_rfl) (fun _ _ _ h => h) (.inl ⟨by rfl, fun W hW => by go_simp⟩) ⟨_, hD1, rfl, rfl, hM1⟩ ?_
  try simp only [Act.put, List.setIfInBounds_toArray, List.set_cons_zero, List.set_cons_succ]
  refine wpAnyH_done (by kernel_rfl) ?_ _
  try simp only [Act.put, List.setIfInBounds_toArray, List.set_cons_zero, List.set_cons_succ]
  go_wp2_with fail
  clear hM1 hM0 hD0 hF0 bD0 h1 o1
  generalize hgv : g (turnK d.ou) = b at *
  cases b
  · obtain ⟨x, hx⟩ : ∃ x, x = (turnK d.ou == d.op) := ⟨_, rfl⟩
    have heq := fun W => eql_ky (turnK d.ou) d.op W
    rw [← hx] at heq
    refine wp_region_held_drew (S := fun W1 : World => ∃ d' : DR, DAt W1 B d' ∧ (d'.ba = turnK d.ou ∧ d'.op = d.op)) (by kernel_rfl) ⟨_, hD1.bel (bel_dr (Below.refl _ _)), rfl, rfl⟩ (fun hH => ?_)
    clear hH
    have hD0 := hD1.bel (bel_dr (Below.refl _ _))
    have hF0 := hF1.drew
    have bD0 : Below wd1.heap.size wd1 wd1.drew := bel_dr (Below.refl _ _)
    obtain ⟨wd0, hwd⟩ : ∃ x, x = wd1.drew := ⟨_, rfl⟩
    rw [← hwd] at hD0 hF0 bD0 ⊢
    clear hwd
    refine wpAnyH_take (i := 0) (oi := ⟨some 28, _, _, _, _, _⟩) (v := .bool false) rfl (by kernel_rfl) (by kernel_rfl) (by kernel_rfl) (fun _ _ _ h => h) (.inl ⟨by rfl, fun W hW => by go_simp⟩) ⟨_, hD0, rfl, rfl⟩ ?_
    try simp only [Act.put, List.setIfInBounds_toArray, List.set_cons_zero, List.set_cons_succ]
    refine wpAnyH_take (i := 1) (oi := ⟨some 29, _, _, _, _, _⟩) (v := .bool false) rfl (by kernel_rfl) (by kernel_rfl) (by kernel_rfl) (fun _ _ _ h => h) (.inl ⟨by rfl, fun W hW => by go_simp⟩) ⟨_, hD0, rfl, rfl⟩ ?_
    try simp only [Act.put, List.setIfInBounds_toArray, List.set_cons_zero, List.set_cons_succ]
    refine wpAnyH_take (i := 2) (oi := ⟨some 30, _, _, _, _, _⟩) (v := .pointer (some ⟨B, 0, none⟩)) rfl (by kernel_rfl) (by kernel_rfl) (by kernel_rfl) (fun _ _ _ h => h) (.inl ⟨by rfl, fun W hW => by go_simp⟩) ⟨_, hD0, rfl, rfl⟩ ?_
    try simp only [Act.put, List.setIfInBounds_toArray, List.set_cons_zero, List.set_cons_succ]
    refine wpAnyH_take (i := 3) (oi := ⟨some 31, _, _, _, _, _⟩) (v := .pointer (some ⟨B, 0, none⟩)) rfl (by kernel_rfl) (by kernel_rfl) (by kernel_rfl) (fun _ _ _ h => h) (.inl ⟨by rfl, fun W hW => by go_simp⟩) ⟨_, hD0, rfl, rfl⟩ ?_
    try simp only [Act.put, List.setIfInBounds_toArray, List.set_cons_zero, List.set_cons_succ]
    refine wpAnyH_take (i := 4) (oi := ⟨some 32, _, _, _, _, _⟩) (v := .pointer (some ⟨B, 0, none⟩)) rfl (by kernel_rfl) (by kernel_rfl) (by kernel_rfl) (fun _ _ _ h => h) (.inl ⟨by rfl, fun W hW => by go_simp⟩) ⟨_, hD0, rfl, rfl⟩ ?_
    try simp only [Act.put, List.setIfInBounds_toArray, List.set_cons_zero, List.set_cons_succ]
    refine wpAnyH_take (i := 5) (oi := ⟨some 33, _, _, _, _, _⟩) (v := .pointer (some ⟨B, 21, none⟩)) rfl (by kernel_rfl) (by kernel_rfl) (by kernel_rfl) (fun _ _ _ h => h) (.inl ⟨by rfl, fun W hW => by go_simp⟩) ⟨_, hD0, rfl, rfl⟩ ?_
    try simp only [Act.put, List.setIfInBounds_toArray, List.set_cons_zero, List.set_cons_succ]
    refine wpAnyH_take (i := 6) (oi := ⟨some 34, _, _, _, _, _⟩) (v := .agg (KA (turnK d.ou))) rfl (by kernel_rfl) (by kernel_rfl) (by kernel_rfl) (fun _ _ _ h => h) (yields_cells (by rfl) 35 _ rfl ⟨B, 21, none⟩ rfl (KA (turnK d.ou)) _ (fun W hW => by obtain ⟨d2, hd, q⟩ := hW; exact q.1 ▸ hd.k_ba) Try.underlying35 rfl (k_inf _)) ⟨_, hD0, rfl, rfl⟩ ?_
    try simp only [Act.put, List.setIfInBounds_toArray, List.set_cons_zero, List.set_cons_succ]
    refine wpAnyH_take (i := 7) (oi := ⟨some 35, _, _, _, _, _⟩) (v := .pointer (some ⟨B, 0, none⟩)) rfl (by kernel_rfl) (by kernel_rfl) (by kernel_rfl) (fun _ _ _ h => h) (.inl ⟨by rfl, fun W hW => by go_simp⟩) ⟨_, hD0, rfl, rfl⟩ ?_
    try simp only [Act.put, List.setIfInBounds_toArray, List.set_cons_zero, List.set_cons_succ]
    refine wpAnyH_take (i := 8) (oi := ⟨some 36, _, _, _, _, _⟩) (v := .pointer (some ⟨B, 0, none⟩)) rfl (by kernel_rfl) (by kernel_rfl) (by kernel_rfl) (fun _ _ _ h => h) (.inl ⟨by rfl, fun W hW => by go_simp⟩) ⟨_, hD0, rfl, rfl⟩ ?_
    try simp only [Act.put, List.setIfInBounds_toArray, List.set_cons_zero, List.set_cons_succ]
    refine wpAnyH_take (i := 9) (oi := ⟨some 37, _, _, _, _, _⟩) (v := .pointer (some ⟨B, 0, none⟩)) rfl (by kernel_rfl) (by kernel_rfl) (by kernel_rfl) (fun _ _ _ h => h) (.inl ⟨by rfl, fun W hW => by go_simp⟩) ⟨_, hD0, rfl, rfl⟩ ?_
    try simp only [Act.put, List.setIfInBounds_toArray, List.set_cons_zero, List.set_cons_succ]
    refine wpAnyH_take (i := 10) (oi := ⟨some 38, _, _, _, _, _⟩) (v := .pointer (some ⟨B, 7, none⟩)) rfl (by kernel_rfl) (by kernel_rfl) (by kernel_rfl) (fun _ _ _ h => h) (.inl ⟨by rfl, fun W hW => by go_simp⟩) ⟨_, hD0, rfl, rfl⟩ ?_
    try simp only [Act.put, List.setIfInBounds_toArray, List.set_cons_zero, List.set_cons_succ]
    refine wpAnyH_take (i := 11) (oi := ⟨some 39, _, _, _, _, _⟩) (v := .agg (KA d.op)) rfl (by kernel_rfl) (by kernel_rfl) (by kernel_rfl) (fun _ _ _ h => h) (yields_cells (by rfl) 35 _ rfl ⟨B, 7, none⟩ rfl (KA d.op) _ (fun W hW => by obtain ⟨d2, hd, q⟩ := hW; exact q.2 ▸ hd.k_op) Try.underlying35 rfl (k_inf _)) ⟨_, hD0, rfl, rfl⟩ ?_
    try simp only [Act.put, List.setIfInBounds_toArray, List.set_cons_zero, List.set_cons_succ]
    refine wpAnyH_take (i := 12) (oi := ⟨some 40, _, _, _, _, _⟩) (v := .bool x) rfl (by kernel_rfl) (by kernel_rfl) (by kernel_rfl) (fun _ _ _ h => h) (.inl ⟨by rfl, fun W hW => by have := heq W; unfold execOp; simp only []; go_simp⟩) ⟨_, hD0, rfl, rfl⟩ ?_
    try simp only [Act.put, List.setIfInBounds_toArray, List.set_cons_zero, List.set_cons_succ]
    refine wpAnyH_take (i := 13) (oi := ⟨some 41, _, _, _, _, _⟩) (v := .bool x) rfl (by kernel_rfl) (by kernel_rfl) (by kernel_rfl) (fun _ _ _ h => h) (.inl ⟨by rfl, fun W hW => by go_simp⟩) ⟨_, hD0, rfl, rfl⟩ ?_
    try simp only [Act.put, List.setIfInBounds_toArray, List.set_cons_zero, List.set_cons_succ]
    refine wpAnyH_done (by kernel_rfl) ?_ _
    try simp only [Act.put, List.setIfInBounds_toArray, List.set_cons_zero, List.set_cons_succ]
    have HD := Lib.hid hD0
    have HF := Lib.hid hF0
    have hxx : rr = if x = true then 15 else 0 := by rw [HR.out]; simp [hx]
    have HX := Lib.hid hxx
    clear hxx hx
    cases x
    all_goals (
      go_wp2
      go_ret
      exact ⟨ret_int (by rw [HX.out]; simp), HD.out, HF.out⟩)
  · 
    refine wp_region_held_drew (S := fun W1 : World => ∃ d' : DR, DAt W1 B d' ∧ (d'.ba = turnK d.ou ∧ d'.op = d.op)) (by kernel_rfl) ⟨_, hD1.bel (bel_dr (Below.refl _ _)), rfl, rfl⟩ (fun hH => ?_)
    clear hH
    have hD0 := hD1.bel (bel_dr (Below.refl _ _))
    have hF0 := hF1.drew
    have bD0 : Below wd1.heap.size wd1 wd1.drew := bel_dr (Below.refl _ _)
    obtain ⟨wd0, hwd⟩ : ∃ x, x = wd1.drew := ⟨_, rfl⟩
    rw [← hwd] at hD0 hF0 bD0 ⊢
    clear hwd
    refine wpAnyH_take (i := 0) (oi := ⟨some 28, _, _, _, _, _⟩) (v := .bool true) rfl (by kernel_rfl) (by kernel_rfl) (by kernel_rfl) (fun _ _ _ h => h) (.inl ⟨by rfl, fun W hW => by go_simp⟩) ⟨_, hD0, rfl, rfl⟩ ?_
    try simp only [Act.put, List.setIfInBounds_toArray, List.set_cons_zero, List.set_cons_succ]
    refine wpAnyH_take (i := 1) (oi := ⟨some 29, _, _, _, _, _⟩) (v := .bool true) rfl (by kernel_rfl) (by kernel_rfl) (by kernel_rfl) (fun _ _ _ h => h) (.inl ⟨by rfl, fun W hW => by go_simp⟩) ⟨_, hD0, rfl, rfl⟩ ?_
    try simp only [Act.put, List.setIfInBounds_toArray, List.set_cons_zero, List.set_cons_succ]
    refine wpAnyH_take (i := 2) (oi := ⟨some 30, _, _, _, _, _⟩) (v := undef) rfl (by kernel_rfl) (by kernel_rfl) (by kernel_rfl) (fun _ _ _ h => h) (.inr ⟨by rfl, rfl⟩) ⟨_, hD0, rfl, rfl⟩ ?_
    try simp only [Act.put, List.setIfInBounds_toArray, List.set_cons_zero, List.set_cons_succ]
    refine wpAnyH_take (i := 3) (oi := ⟨some 31, _, _, _, _, _⟩) (v := undef) rfl (by kernel_rfl) (by kernel_rfl) (by kernel_rfl) (fun _ _ _ h => h) (.inr ⟨by rfl, rfl⟩) ⟨_, hD0, rfl, rfl⟩ ?_
    try simp only [Act.put, List.setIfInBounds_toArray, List.set_cons_zero, List.set_cons_succ]
    refine wpAnyH_take (i := 4) (oi := ⟨some 32, _, _, _, _, _⟩) (v := undef) rfl (by kernel_rfl) (by kernel_rfl) (by kernel_rfl) (fun _ _ _ h => h) (.inr ⟨by rfl, rfl⟩) ⟨_, hD0, rfl, rfl⟩ ?_
    try simp only [Act.put, List.setIfInBounds_toArray, List.set_cons_zero, List.set_cons_succ]
    refine wpAnyH_take (i := 5) (oi := ⟨some 33, _, _, _, _, _⟩) (v := undef) rfl (by kernel_rfl) (by kernel_rfl) (by kernel_rfl) (fun _ _ _ h => h) (.inr ⟨by rfl, rfl⟩) ⟨_, hD0, rfl, rfl⟩ ?_
    try simp only [Act.put, List.setIfInBounds_toArray, List.set_cons_zero, List.set_cons_succ]
    refine wpAnyH_take (i := 6) (oi := ⟨some 34, _, _, _, _, _⟩) (v := undef) rfl (by kernel_rfl) (by kernel_rfl) (by kernel_rfl) (fun _ _ _ h => h) (.inr ⟨by rfl, rfl⟩) ⟨_, hD0, rfl, rfl⟩ ?_
    try simp only [Act.put, List.setIfInBounds_toArray, List.set_cons_zero, List.set_cons_succ]
    refine wpAnyH_take (i := 7) (oi := ⟨some 35, _, _, _, _, _⟩) (v := undef) rfl (by kernel_rfl) (by kernel_rfl) (by kernel_rfl) (fun _ _ _ h => h) (.inr ⟨by rfl, rfl⟩) ⟨_, hD0, rfl, rfl⟩ ?_
    try simp only [Act.put, List.setIfInBounds_toArray, List.set_cons_zero, List.set_cons_succ]
    refine wpAnyH_take (i := 8) (oi := ⟨some 36, _, _, _, _, _⟩) (v := undef) rfl (by kernel_rfl) (by kernel_rfl) (by kernel_rfl) (fun _ _ _ h => h) (.inr ⟨by rfl, rfl⟩) ⟨_, hD0, rfl, rfl⟩ ?_
    try simp only [Act.put, List.setIfInBounds_toArray, List.set_cons_zero, List.set_cons_succ]
    refine wpAnyH_take (i := 9) (oi := ⟨some 37, _, _, _, _, _⟩) (v := undef) rfl (by kernel_rfl) (by kernel_rfl) (by kernel_rfl) (fun _ _ _ h => h) (.inr ⟨by rfl, rfl⟩) ⟨_, hD0, rfl, rfl⟩ ?_
    try simp only [Act.put, List.setIfInBounds_toArray, List.set_cons_zero, List.set_cons_succ]
    refine wpAnyH_take (i := 10) (oi := ⟨some 38, _, _, _, _, _⟩) (v := undef) rfl (by kernel_rfl) (by kernel_rfl) (by kernel_rfl) (fun _ _ _ h => h) (.inr ⟨by rfl, rfl⟩) ⟨_, hD0, rfl, rfl⟩ ?_
    try simp only [Act.put, List.setIfInBounds_toArray, List.set_cons_zero, List.set_cons_succ]
    refine wpAnyH_take (i := 11) (oi := ⟨some 39, _, _, _, _, _⟩) (v := undef) rfl (by kernel_rfl) (by kernel_rfl) (by kernel_rfl) (fun _ _ _ h => h) (.inr ⟨by rfl, rfl⟩) ⟨_, hD0, rfl, rfl⟩ ?_
    try simp only [Act.put, List.setIfInBounds_toArray, List.set_cons_zero, List.set_cons_succ]
    refine wpAnyH_take (i := 12) (oi := ⟨some 40, _, _, _, _, _⟩) (v := undef) rfl (by kernel_rfl) (by kernel_rfl) (by kernel_rfl) (fun _ _ _ h => h) (.inr ⟨by rfl, rfl⟩) ⟨_, hD0, rfl, rfl⟩ ?_
    try simp only [Act.put, List.setIfInBounds_toArray, List.set_cons_zero, List.set_cons_succ]
    refine wpAnyH_take (i := 13) (oi := ⟨some 41, _, _, _, _, _⟩) (v := .bool true) rfl (by kernel_rfl) (by kernel_rfl) (by kernel_rfl) (fun _ _ _ h => h) (.inl ⟨by rfl, fun W hW => by go_simp⟩) ⟨_, hD0, rfl, rfl⟩ ?_
    try simp only [Act.put, List.setIfInBounds_toArray, List.set_cons_zero, List.set_cons_succ]
    refine wpAnyH_done (by kernel_rfl) ?_ _
    try simp only [Act.put, List.setIfInBounds_toArray, List.set_cons_zero, List.set_cons_succ]
    have HD := Lib.hid hD0
    have HF := Lib.hid hF0
    go_wp2
    go_ret
    exact ⟨ret_int (by rw [HR.out]; simp), HD.out, HF.out⟩
end Go.Proofs.Ytokbmahnjmmcaaa
