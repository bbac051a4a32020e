/- Steps of a draft: source; by-name template (gen_na.py). -/
import Derived.Test.YtokbmahnjmmcaaaNaM4
namespace Go.Proofs.Ytokbmahnjmmcaaa
open Go.RowKit Go.Lib Go.Maps
set_option linter.unusedVariables false
set_option linter.unusedSimpArgs false

def sourceD (d : DR) : DR := if srcP d.c d.zo d.ju = -1 then hairD { d with ou := d.ju } else match d.c.ns[(srcP d.c d.zo d.ju).toNat]? with
  | none => d
  | some n => if n.kind = 1 then lookD { d with ou := { d.ju with sh := n.oh, sl := n.ol } } n.frm n.til else { d with ou := { d.ju with sh := n.oh, sl := n.ol } }
theorem source_some {d : DR} {k : Nat} {n : NR} (h : srcP d.c d.zo d.ju = (k : Int)) (hn : d.c.ns[k]? = some n) : sourceD d = if n.kind = 1 then lookD { d with ou := { d.ju with sh := n.oh, sl := n.ol } } n.frm n.til else { d with ou := { d.ju with sh := n.oh, sl := n.ol } } := by
  unfold sourceD
  rw [if_neg (by omega)]
  have e : d.c.ns[(srcP d.c d.zo d.ju).toNat]? = some n := by rw [h, Int.toNat_natCast]; exact hn
  simp only [e]
theorem src_place (c : CF) (x : Int) (k : KR) : srcP c x k = -1 ∨ ∃ (i : Nat) (n : NR), srcP c x k = (i : Int) ∧ c.ns[i]? = some n := by
  unfold srcP
  obtain ⟨h1, h2⟩ := pl_lt (fun n => namedP c x n.zn && sourceP c k.sh k.sl n) c.ns
  by_cases e : pl (fun n => namedP c x n.zn && sourceP c k.sh k.sl n) c.ns = -1
  · exact .inl e
  · refine .inr ⟨(pl (fun n => namedP c x n.zn && sourceP c k.sh k.sl n) c.ns).toNat, _, by omega, List.getElem?_eq_getElem (by omega)⟩
set_option maxRecDepth 100000 in
set_option maxHeartbeats 8000000 in
theorem source_step (d : DR) (B : Nat) {w0 w : World} (h : DAt w B d) (hc : d.c.Ok w0) (hb : Below w0.heap.size w0 w) (hB : w0.heap.size ≤ B) (j : Nat) (z : ZR) (hzo : d.zo = (j : Int)) (hz : d.c.zs[j]? = some z) (wo : Word d.op.sh ∧ Word d.op.sl) (wj : Word d.ju.sh ∧ Word d.ju.sl) :
    Calls Try.prog 20 #[.pointer (some ⟨B, 0, none⟩)] w (DPost w B 0 (sourceD d)) := by
  obtain ⟨M, hM⟩ : ∃ M, M = DPost w B 0 (sourceD d) := ⟨_, rfl⟩
  rw [← hM]
  have hlt := h.lt
  have HJ := Lib.hid h.k_ju
  have HTH := Lib.hid (h.there (o := 14) (n := 7) (by omega))
  have HMM := Lib.hid hM
  clear hM
  have hpl := src_place d.c d.zo d.ju
  obtain ⟨i, hi⟩ : ∃ i, i = srcP d.c d.zo d.ju := ⟨_, rfl⟩
  have HI := Lib.hid hi
  have HZO := Lib.hid hzo
  clear hzo
  go_enter Try.func20, Try.ntmps20
  go_upto_region 2 with (first | ((with_reducible refine stop_op (o := ⟨some 10, _, _, _, _, _⟩) ?_); refine Lib.hid ?_; refine wpList_load_cells rfl 35 (.tmp 9) rfl ⟨B, 0, none⟩ rfl (KA d.ju) _ HJ.out Try.underlying35 rfl (k_inf _) ?_) | ((with_reducible refine stop_op (o := ⟨none, .store 35 (.tmp 13) (.tmp 10), _, _, _, _⟩) ?_); refine Lib.hid ?_; refine wpList_store_mid rfl 35 (.tmp 13) (.tmp 10) rfl B 14 (KA d.ju) rfl rfl HTH.out (k_inf _) (k_one _) ?_))
  have h1 := h.set_ou d.ju
  have o1 := setCells_off (KA d.ju).toList 14 w B
  obtain ⟨w1, hw1⟩ : ∃ x, x = w.setCells B 14 (KA d.ju).toList := ⟨_, rfl⟩
  rw [← hw1] at h1 o1 ⊢
  clear hw1 HJ HTH
  have hc1 : d.c.Ok w1 := hc.keep (hb.trans (o1.toBelow hB hb.size))
  have cS := fun (W : World) (hW : Below w1.heap.size w1 W) => source_k d.c d.zo d.ju (hc1.keep hW) wj
  rw [← hi] at cS hpl
  clear hi
  refine wp_region_held_drew (S := fun W1 : World => ∃ d' : DR, DAt W1 B d' ∧ (d'.c = d.c ∧ d'.zo = d.zo ∧ d'.ju = d.ju)) (by kernel_rfl) ⟨_, h1.bel (bel_dr (Below.refl _ _)), rfl, rfl, rfl⟩ (fun hH => ?_)
  clear hH
  have hD0 := h1.bel (bel_dr (Below.refl _ _))
  have hF0 := o1.drew
  have bD0 : Below w1.heap.size w1 w1.drew := bel_dr (Below.refl _ _)
  obtain ⟨wd0, hwd⟩ : ∃ x, x = w1.drew := ⟨_, rfl⟩
  rw [← hwd] at hD0 hF0 bD0 ⊢
  clear hwd
  refine wpAnyH_take (i := 0) (oi := ⟨some 14, _, _, _, _, _⟩) (v := .pointer (some ⟨B, 0, none⟩)) rfl (by kernel_rfl) (by kernel_rfl) (by kernel_rfl) (fun _ _ _ h => h) (.inl ⟨by rfl, fun W hW => by go_simp⟩) ⟨_, hD0, rfl, rfl, rfl⟩ ?_
  try simp only [Act.put, List.setIfInBounds_toArray, List.set_cons_zero, List.set_cons_succ]
  refine wpAnyH_take (i := 1) (oi := ⟨some 15, _, _, _, _, _⟩) (v := .pointer (some ⟨B, 0, none⟩)) rfl (by kernel_rfl) (by kernel_rfl) (by kernel_rfl) (fun _ _ _ h => h) (.inl ⟨by rfl, fun W hW => by go_simp⟩) ⟨_, hD0, rfl, rfl, rfl⟩ ?_
  try simp only [Act.put, List.setIfInBounds_toArray, List.set_cons_zero, List.set_cons_succ]
  refine wpAnyH_take (i := 2) (oi := ⟨some 16, _, _, _, _, _⟩) (v := .pointer (some ⟨B, 37, none⟩)) rfl (by kernel_rfl) (by kernel_rfl) (by kernel_rfl) (fun _ _ _ h => h) (.inl ⟨by rfl, fun W hW => by go_simp⟩) ⟨_, hD0, rfl, rfl, rfl⟩ ?_
  try simp only [Act.put, List.setIfInBounds_toArray, List.set_cons_zero, List.set_cons_succ]
  refine wpAnyH_take (i := 3) (oi := ⟨some 17, _, _, _, _, _⟩) (v := .agg (cfc d.c)) rfl (by kernel_rfl) (by kernel_rfl) (by kernel_rfl) (fun _ _ _ h => h) (yields_cells (by rfl) 30 _ rfl ⟨B, 37, none⟩ rfl (cfc d.c) _ (fun W hW => by obtain ⟨d2, hd, q⟩ := hW; exact q.1 ▸ hd.k_c) Try.underlying30 rfl (c_inf _)) ⟨_, hD0, rfl, rfl, rfl⟩ ?_
  try simp only [Act.put, List.setIfInBounds_toArray, List.set_cons_zero, List.set_cons_succ]
  refine wpAnyH_take (i := 4) (oi := ⟨some 18, _, _, _, _, _⟩) (v := .pointer (some ⟨B, 0, none⟩)) rfl (by kernel_rfl) (by kernel_rfl) (by kernel_rfl) (fun _ _ _ h => h) (.inl ⟨by rfl, fun W hW => by go_simp⟩) ⟨_, hD0, rfl, rfl, rfl⟩ ?_
  try simp only [Act.put, List.setIfInBounds_toArray, List.set_cons_zero, List.set_cons_succ]
  refine wpAnyH_take (i := 5) (oi := ⟨some 19, _, _, _, _, _⟩) (v := .pointer (some ⟨B, 0, none⟩)) rfl (by kernel_rfl) (by kernel_rfl) (by kernel_rfl) (fun _ _ _ h => h) (.inl ⟨by rfl, fun W hW => by go_simp⟩) ⟨_, hD0, rfl, rfl, rfl⟩ ?_
  try simp only [Act.put, List.setIfInBounds_toArray, List.set_cons_zero, List.set_cons_succ]
  refine wpAnyH_take (i := 6) (oi := ⟨some 20, _, _, _, _, _⟩) (v := .pointer (some ⟨B, 0, none⟩)) rfl (by kernel_rfl) (by kernel_rfl) (by kernel_rfl) (fun _ _ _ h => h) (.inl ⟨by rfl, fun W hW => by go_simp⟩) ⟨_, hD0, rfl, rfl, rfl⟩ ?_
  try simp only [Act.put, List.setIfInBounds_toArray, List.set_cons_zero, List.set_cons_succ]
  refine wpAnyH_take (i := 7) (oi := ⟨some 21, _, _, _, _, _⟩) (v := .pointer (some ⟨B, 36, none⟩)) rfl (by kernel_rfl) (by kernel_rfl) (by kernel_rfl) (fun _ _ _ h => h) (.inl ⟨by rfl, fun W hW => by go_simp⟩) ⟨_, hD0, rfl, rfl, rfl⟩ ?_
  try simp only [Act.put, List.setIfInBounds_toArray, List.set_cons_zero, List.set_cons_succ]
  refine wpAnyH_take (i := 8) (oi := ⟨some 22, _, _, _, _, _⟩) (v := .int .i64 d.zo) rfl (by kernel_rfl) (by kernel_rfl) (by kernel_rfl) (fun _ _ _ h => h) (.inl ⟨by rfl, fun W hW => by obtain ⟨d2, hd, q1, q2, q3⟩ := hW; have hx : W.cell? ⟨B, 36, none⟩ = some (.int .i64 d2.zo) := hd.cell 36 rfl; rw [q2] at hx; go_simp⟩) ⟨_, hD0, rfl, rfl, rfl⟩ ?_
  try simp only [Act.put, List.setIfInBounds_toArray, List.set_cons_zero, List.set_cons_succ]
  refine wpAnyH_take (i := 9) (oi := ⟨some 23, _, _, _, _, _⟩) (v := .pointer (some ⟨B, 0, none⟩)) rfl (by kernel_rfl) (by kernel_rfl) (by kernel_rfl) (fun _ _ _ h => h) (.inl ⟨by rfl, fun W hW => by go_simp⟩) ⟨_, hD0, rfl, rfl, rfl⟩ ?_
  try simp only [Act.put, List.setIfInBounds_toArray, List.set_cons_zero, List.set_cons_succ]
  refine wpAnyH_take (i := 10) (oi := ⟨some 24, _, _, _, _, _⟩) (v := .pointer (some ⟨B, 0, none⟩)) rfl (by kernel_rfl) (by kernel_rfl) (by kernel_rfl) (fun _ _ _ h => h) (.inl ⟨by rfl, fun W hW => by go_simp⟩) ⟨_, hD0, rfl, rfl, rfl⟩ ?_
  try simp only [Act.put, List.setIfInBounds_toArray, List.set_cons_zero, List.set_cons_succ]
  refine wpAnyH_take (i := 11) (oi := ⟨some 25, _, _, _, _, _⟩) (v := .pointer (some ⟨B, 0, none⟩)) rfl (by kernel_rfl) (by kernel_rfl) (by kernel_rfl) (fun _ _ _ h => h) (.inl ⟨by rfl, fun W hW => by go_simp⟩) ⟨_, hD0, rfl, rfl, rfl⟩ ?_
  try simp only [Act.put, List.setIfInBounds_toArray, List.set_cons_zero, List.set_cons_succ]
  refine wpAnyH_take (i := 12) (oi := ⟨some 26, _, _, _, _, _⟩) (v := .pointer (some ⟨B, 0, none⟩)) rfl (by kernel_rfl) (by kernel_rfl) (by kernel_rfl) (fun _ _ _ h => h) (.inl ⟨by rfl, fun W hW => by go_simp⟩) ⟨_, hD0, rfl, rfl, rfl⟩ ?_
  try simp only [Act.put, List.setIfInBounds_toArray, List.set_cons_zero, List.set_cons_succ]
  refine wpAnyH_take (i := 13) (oi := ⟨some 27, _, _, _, _, _⟩) (v := .agg (KA d.ju)) rfl (by kernel_rfl) (by kernel_rfl) (by kernel_rfl) (fun _ _ _ h => h) (yields_cells (by rfl) 35 _ rfl ⟨B, 0, none⟩ rfl (KA d.ju) _ (fun W hW => by obtain ⟨d2, hd, q⟩ := hW; exact q.2.2 ▸ hd.k_ju) Try.underlying35 rfl (k_inf _)) ⟨_, hD0, rfl, rfl, rfl⟩ ?_
  try simp only [Act.put, List.setIfInBounds_toArray, List.set_cons_zero, List.set_cons_succ]
  refine wpAnyH_ready (rs := [14]) (by kernel_rfl) (by simp) ?_
  refine AllReadyH.cons (o := ⟨some 28, _, _, _, _, _⟩) rfl (fun K hK => ?_) AllReadyH.nil
  go_simp
  go_at_call 33
  ((with_reducible refine (cS _ bD0).mono ?_); rintro e wd1 ⟨rfl, bC1⟩)
  have hD1 := hD0.bel bC1
  have hF1 := hF0.trans (off_bel bC1)
  refine hK.out _ _ ⟨_, hD1, rfl, rfl, rfl⟩ (fun _ => ?_)
  clear hK K
  try simp only [Act.put, List.setIfInBounds_toArray, List.set_cons_zero, List.set_cons_succ]
  refine wpAnyH_take (i := 15) (oi := ⟨some 3, _, _, _, _, _⟩) (v := .int .i64 i) rfl (by kernel_rfl) (by kernel_rfl) (by kernel_rfl) (fun _ _ _ h => h) (.inl ⟨by rfl, fun W hW => by go_simp⟩) ⟨_, hD1, rfl, rfl, rfl⟩ ?_
  try simp only [Act.put, List.setIfInBounds_toArray, List.set_cons_zero, List.set_cons_succ]
  refine wpAnyH_done (by kernel_rfl) ?_ _
  try simp only [Act.put, List.setIfInBounds_toArray, List.set_cons_zero, List.set_cons_succ]
  obtain ⟨w2, hw2⟩ : ∃ x, x = wd1 := ⟨_, rfl⟩
  rw [← hw2] at hD1 hF1 ⊢
  have hb2 := hb.trans (hF1.toBelow hB hb.size)
  have c47 : w2.cell? ⟨B, 42, none⟩ = some (.slice d.c.nA d.c.nn d.c.nc) := hD1.cell 42 rfl
  have HD := Lib.hid hD1
  have HF := Lib.hid hF1
  have HB := Lib.hid hb2
  clear hw2 hD0 hF0 bD0 hD1 hF1 hb2 cS h1 o1
  rcases hpl with e | ⟨k, n, e, hn⟩
  · subst e
    have cH := hairpin_any _ B HD.out hc HB.out hB j z HZO.out hz wo
    unfold LPost at cH
    go_wp2_with (go_at_call 34; ((with_reducible refine cH.mono ?_); rintro e w3 ⟨v, rfl, hDe, hFe⟩))
    show M (.returned (.int .i64 0)) w3
    rw [HMM.out]
    exact ⟨rfl, by unfold sourceD; rw [if_pos HI.out.symm]; exact hDe, HF.out.trans hFe⟩
  · have hkn : k < d.c.nn := by have := getE hn; have := hc.n.len; omega
    obtain ⟨b, off, hA, hlb, hrow⟩ := hc.n.row (by omega)
    have hnb := hc.n.big
    have r0 := keepc HB.out (hrow k n hn 0 _ rfl)
    have r1 := keepc HB.out (hrow k n hn 1 _ rfl)
    have r2 := keepc HB.out (hrow k n hn 2 _ rfl)
    have r3 := keepc HB.out (hrow k n hn 3 _ rfl)
    have r4 := keepc HB.out (hrow k n hn 4 _ rfl)
    have r5 := keepc HB.out (hrow k n hn 5 _ rfl)
    have r6 := keepc HB.out (hrow k n hn 6 _ rfl)
    have r7 := keepc HB.out (hrow k n hn 7 _ rfl)
    have r8 := keepc HB.out (hrow k n hn 8 _ rfl)
    have r9 := keepc HB.out (hrow k n hn 9 _ rfl)
    simp only [Nat.add_zero] at r0
    have FE : ∀ w', DAt w' B (if n.kind = 1 then lookD { d with ou := { d.ju with sh := n.oh, sl := n.ol } } n.frm n.til else { d with ou := { d.ju with sh := n.oh, sl := n.ol } }) → Off B w w' → M (.returned (.int .i64 0)) w' := fun w' a b => by
      rw [HMM.out]; exact ⟨rfl, by rw [source_some (HI.out.symm.trans e) hn]; exact a, b⟩
    have FE := Lib.hid FE
    subst e
    rw [hA] at c47
    have hki : (k : Int) < (d.c.nn : Int) := by omega
    have hk1 : ((k : Int) == -1) = false := by simp
    clear HI HMM hrow hn hA
    obtain ⟨kind, zn, ob, sv, oh, ol, ih, il, frm, til⟩ := n
    simp only at r0 r1 r2 r3 r4 r5 r6 r7 r8 r9
    have hlw : b < w2.heap.size := Nat.lt_of_lt_of_le hlb HB.out.size
    have HT : Hid (∀ o, (w2.alloc o).there B 15 2) := Lib.hid (fun o => (HD.out.bel (bel_al _ _)).there (by omega))
    go_upto_region 8 with ((with_reducible refine stop_op (o := ⟨none, .store 33 (.tmp 47) (.tmp 43), _, _, _, _⟩) ?_); refine Lib.hid ?_; refine wpList_store_mid rfl 33 (.tmp 47) (.tmp 43) rfl B 15 #[.int .u64 oh, .int .u64 ol] rfl rfl (HT.out _) (by kernel_rfl) (by simp [Value.oneCell']) ?_)
    try simp only [Act.put]
    obtain ⟨w3, hw3⟩ : ∃ x, x = (w2.alloc (.cells #[.int .i64 kind, .string zn, .string ob, .string sv, .int .u64 oh, .int .u64 ol, .int .u64 ih, .int .u64 il, .int .i64 frm, .int .i64 til] 49)).setCells B 15 (#[Value.int .u64 oh, Value.int .u64 ol]).toList := ⟨_, rfl⟩
    have hD3 := (HD.out.bel (bel_al w2 (.cells #[.int .i64 kind, .string zn, .string ob, .string sv, .int .u64 oh, .int .u64 ol, .int .u64 ih, .int .u64 il, .int .i64 frm, .int .i64 til] 49))).set_ous oh ol
    have hF3 := (HF.out.trans (off_bel (bel_al w2 (.cells #[.int .i64 kind, .string zn, .string ob, .string sv, .int .u64 oh, .int .u64 ol, .int .u64 ih, .int .u64 il, .int .i64 frm, .int .i64 til] 49)))).trans (setCells_off (#[Value.int .u64 oh, Value.int .u64 ol]).toList 15 _ B)
    have hG3 : w3.heap[w2.heap.size]? = some (.cells #[.int .i64 kind, .string zn, .string ob, .string sv, .int .u64 oh, .int .u64 ol, .int .u64 ih, .int .u64 il, .int .i64 frm, .int .i64 til] 49 (0, 0)) := by
      rw [hw3, (setCells_off (#[Value.int .u64 oh, Value.int .u64 ol]).toList 15 _ B).block _ (by rw [al_size]; omega) (by have := HD.out.lt; omega)]
      exact al_new rfl _
    rw [← hw3] at hD3 hF3
    change Code.wp _ _ _ _ ((w2.alloc (.cells #[.int .i64 kind, .string zn, .string ob, .string sv, .int .u64 oh, .int .u64 ol, .int .u64 ih, .int .u64 il, .int .i64 frm, .int .i64 til] 49)).setCells B 15 (#[Value.int .u64 oh, Value.int .u64 ol]).toList)
    rw [← hw3]
    have g0 : w3.cell? ⟨w2.heap.size, 0, none⟩ = some (.int .i64 kind) := by rw [cell_of_row _ _ 0 _ _ _ hG3]; rfl
    have g6 : w3.cell? ⟨w2.heap.size, 8, none⟩ = some (.int .i64 frm) := by rw [cell_of_row _ _ 8 _ _ _ hG3]; rfl
    have g7 : w3.cell? ⟨w2.heap.size, 9, none⟩ = some (.int .i64 til) := by rw [cell_of_row _ _ 9 _ _ _ hG3]; rfl
    have cL := look_any _ B frm til hD3
    unfold LPost at cL
    have HD3 := Lib.hid hD3
    have HF3 := Lib.hid hF3
    clear hw3 hD3 hF3 hG3 HT HD HF HB r0 r1 r2 r3 r4 r5 r6 r7 r8 r9 c47 hki hk1
    by_cases hk : kind = 1
    · subst hk
      have FE2 := fun w' a b => FE.out w' (by rw [if_pos rfl]; exact a) b
      have FE2 := Lib.hid FE2
      go_wp2_with (go_at_call 35; ((with_reducible refine cL.mono ?_); rintro e w4 ⟨v, rfl, hDe, hFe⟩))
      exact FE2.out _ hDe (HF3.out.trans hFe)
    · have FE2 := FE.out w3 (by rw [if_neg hk]; exact HD3.out) HF3.out
      have FE2 := Lib.hid FE2
      have hkb : (kind == 1) = false := by simp [hk]
      go_wp2
      exact FE2.out
end Go.Proofs.Ytokbmahnjmmcaaa
