/- A new draft; by-name template (gen_na.py). -/
import Derived.Test.YtokbmahnjmmcaaaNaM6
namespace Go.Proofs.Ytokbmahnjmmcaaa
open Go.RowKit Go.Lib Go.Maps
set_option linter.unusedVariables false
set_option linter.unusedSimpArgs false

def zK : KR := ⟨0, 0, 0, 0, 0, 0, 0⟩
def D1 (c : CF) (inn : Int) (mt : Nat) : DR := ⟨zK, zK, zK, zK, zK, 0, 0, c, inn, mt, 0, false, 0, 0⟩
def D0 (c : CF) (inn : Int) (mt : Nat) (k : KR) : DR := ⟨zK, k, zK, zK, turnK k, 0, 0, c, inn, mt, 0, false, 0, 0⟩
theorem tkG_succ {tk : List KR} {i : Nat} {x : KR} (h : tk[i]? = some x) : ∀ k, tkG (tk.take (i + 1)) k = upT (tkG (tk.take i)) x k := by
  intro k
  unfold tkG upT
  rw [List.take_add_one, h]
  simp only [Option.toList_some, List.contains_eq_any_beq, List.any_append, List.any_cons, List.any_nil, Bool.or_false]
  try rfl
theorem step_update {P : Program} {ops : Array Oper} {op : Oper} {a : Act} {w w' : World} {K : Act → World → Prop} {Q : Exit → Act → World → Prop} {E : Prop} (hgd : op.guard = none) (ty : TypeId) (m k v : Operand) (ho : op.op = .mapUpdate ty m k v)
    (hr : (Instr.mapUpdate ty (a.eval m) (a.eval k) (a.eval v)).run P w = .ok () w') (h : K (a.put op.dst undef) w') : if Region.wanted op (yielded ops a.tmps) = true then Oper.wp P op a w K Q else E := by
  have hw : Region.wanted op (yielded ops a.tmps) = true := by simp [Region.wanted, hgd]
  rw [if_pos hw]
  unfold Oper.wp execOp
  simp only [ho, Sem.run_bind, hr, Result.andThen_ok, Sem.run_pure]
  exact h
def NPost (w : World) (c : CF) (inn : Int) (k : KR) (tk : List KR) (e : Ending) (w' : World) : Prop := ∃ B mt cn, e = .returned (.pointer (some ⟨B, 0, none⟩)) ∧ DAt w' B (D0 c inn mt k) ∧ MapT w' mt (tkG tk) cn ∧ Below w.heap.size w w' ∧ w.heap.size ≤ B
set_option maxRecDepth 100000 in
set_option maxHeartbeats 8000000 in
theorem new_any (c : CF) (inn : Int) (k : KR) (A : Option Addr) (n cap : Nat) (tk : List KR) {w : World} (hS : Sl w 7 krc A n tk) (hk : ∀ x ∈ tk, KyOk x) (hn : n ≤ 1000) (hkk : KyOk k) :
    Calls Try.prog 17 #[.agg (cfc c), .int .i64 inn, .agg (KA k), .slice A n cap] w (NPost w c inn k tk) := by
  have hmm := fun (w1 : World) (n : Nat) => (show (Instr.makeMap 74 (some (.int .i64 n))).run Try.prog w1 = .ok (.map (some w1.heap.size)) (w1.alloc (.map #[] 0)) from by simp [Instr.makeMap, asInt, go_sem])
  obtain ⟨M, hMM⟩ : ∃ M, M = NPost w c inn k tk := ⟨_, rfl⟩
  rw [← hMM]
  have HMM := Lib.hid hMM
  have HS := Lib.hid hS
  have hl := hS.len
  have HL := Lib.hid hl
  clear hMM hS hl
  have hcf : cfc c = #[.slice c.zA c.zn c.zc, .slice c.oA c.on c.oc, .slice c.sA c.sn c.sc, .slice c.lA c.ln c.lc, .slice c.tA c.tn c.tc, .slice c.nA c.nn c.nc, .slice c.uA c.un c.uc, .int .i64 c.dflt] := rfl
  have hkr : KA k = #[.int .i64 k.proto, .int .u64 k.sh, .int .u64 k.sl, .int .u64 k.dh, .int .u64 k.dl, .int .i64 k.sp, .int .i64 k.dp] := rfl
  rw [hcf, hkr]
  clear hcf hkr
  go_enter Try.func17, Try.ntmps17
  go_upto_region 1 with fail
  go_region
  change Exit.then _ _ _ _ (((((w.alloc (.cells (cfc c) 30)).alloc (.cells (KA k) 35)).alloc (.map #[] 0)).alloc (.cells (DA (D1 c inn (w.heap.size + 1 + 1))) 76)).drew)
  obtain ⟨B, hB⟩ : ∃ B, B = w.heap.size + 1 + 1 + 1 := ⟨_, rfl⟩
  obtain ⟨mt, hmt⟩ : ∃ mt, mt = w.heap.size + 1 + 1 := ⟨_, rfl⟩
  obtain ⟨gk, hgk⟩ : ∃ gk, gk = w.heap.size + 1 := ⟨_, rfl⟩
  obtain ⟨w1, hw1⟩ : ∃ x, x = ((((w.alloc (.cells (cfc c) 30)).alloc (.cells (KA k) 35)).alloc (.map #[] 0)).alloc (.cells (DA (D1 c inn (w.heap.size + 1 + 1))) 76)).drew := ⟨_, rfl⟩
  have hD1 : DAt w1 B (D1 c inn mt) := by rw [hw1, hB, hmt]; exact al_new (by simp [al_size]) _
  have hb1 : Below w.heap.size w w1 := by rw [hw1]; exact bel_dr (Below.al (Below.al (Below.al (bel_al _ _) _) _) _)
  have hk1 : w1.heap[gk]? = some (.cells (KA k) 35 (0, 0)) := by
    rw [hw1, hgk]
    exact (al_old (by simp [al_size]) _).trans ((al_old (by simp [al_size]) _).trans (al_new (by simp [al_size]) _))
  have hM1 : MapT w1 mt (tkG (tk.take 0)) 0 := by
    refine MapT.keep (w := ((w.alloc (.cells (cfc c) 30)).alloc (.cells (KA k) 35)).alloc (.map #[] 0)) ?_ ?_
    · rw [show mt = ((w.alloc (.cells (cfc c) 30)).alloc (.cells (KA k) 35)).heap.size by rw [hmt]; simp [al_size]]
      exact ⟨.map [], World.ownsMap_made _ Try.prog 35 nilR, fun _ _ => rfl, fun _ _ h => by simp [tkG] at h, rfl⟩
    · rw [hw1, hmt]; exact al_old (by simp [al_size]) _
  rw [← hw1]
  rw [← hB, ← hmt, ← hgk]
  have hBs : w.heap.size ≤ B := by omega
  have hgB : gk ≠ B := by omega
  have hmB : mt ≠ B := by omega
  have hgm : gk ≠ mt := by omega
  have hmw : w.heap.size ≤ mt := by omega
  have hnI : (n : Int) ≤ 1000 := by omega
  clear hw1 hB hmt hgk hmm
  go_wp2_with fail
  go_loopw [21] (fun v21 wr => ∃ i : Nat, v21 = .int .i64 i ∧ i ≤ n ∧ ∃ cn, Hid (cn ≤ i ∧ MapT wr mt (tkG (tk.take i)) cn ∧ DAt wr B (D1 c inn mt) ∧ wr.heap[gk]? = some (.cells (KA k) 35 (0, 0)) ∧ Below w.heap.size w wr)) (fun v21 _ => n - (intOf v21).toNat)
  case atStart => exact ⟨0, rfl, by omega, 0, Lib.hid ⟨by omega, hM1, hD1, hk1, hb1⟩⟩
  case round =>
    obtain ⟨i, rfl, hi, cn, HI⟩ := hrel
    clear hM1 hD1 hk1 hb1
    by_cases hlt : i < n
    · have hlti : (i : Int) < (n : Int) := by omega
      obtain ⟨b, off, hA, hbl, hrow⟩ := HS.out.row (by omega)
      obtain ⟨x, hx⟩ : ∃ x, tk[i]? = some x := ⟨_, List.getElem?_eq_getElem (by rw [HL.out]; exact hlt)⟩
      have hkx := hk x (List.mem_of_getElem? hx)
      have HX : Hid (∀ j v, (KA x).toList[j]? = some v → wr.cell? ((⟨b, off + i * 7, none⟩ : Addr).add j) = some v) := Lib.hid (fun j v hj => by
        rw [addr_add]
        exact keepc HI.out.2.2.2.2 (hrow i x hx j v hj))
      have hz : (wr.alloc (.cells #[.int .i64 0, .int .u64 0, .int .u64 0, .int .u64 0, .int .u64 0, .int .i64 0, .int .i64 0] 35)).heap[wr.heap.size]? = some (.cells #[.int .i64 0, .int .u64 0, .int .u64 0, .int .u64 0, .int .u64 0, .int .i64 0, .int .i64 0] 35 (0, 0)) := al_new rfl _
      have HZ := Lib.hid hz
      have hnb : n ≤ 9223372036854775807 := by omega
      have hbw : b < wr.heap.size := Nat.lt_of_lt_of_le hbl HI.out.2.2.2.2.size
      subst hA
      clear hrow hz
      go_upto_region 5 with (first | ((with_reducible refine stop_op (o := ⟨some 24, _, _, _, _, _⟩) ?_); refine Lib.hid ?_; refine wpList_load_cells rfl 35 (.tmp 23) rfl ⟨b, off + i * 7, none⟩ rfl (KA x) _ HX.out Try.underlying35 rfl (k_inf _) ?_) | ((with_reducible refine stop_op (o := ⟨none, .store 35 (.tmp 11) (.tmp 24), _, _, _, _⟩) ?_); refine Lib.hid ?_; refine wpList_store_row rfl 35 (.tmp 11) (.tmp 24) rfl wr.heap.size (KA x) rfl rfl 35 #[.int .i64 0, .int .u64 0, .int .u64 0, .int .u64 0, .int .u64 0, .int .i64 0, .int .i64 0] HZ.out (k_inf _) rfl (k_one _) ?_))
      rw [World.setRow_alloc_new]
      try simp only [Act.put]
      have hbx := bel_al wr (.cells (KA x) 35)
      have hGx : (wr.alloc (.cells (KA x) 35)).heap[wr.heap.size]? = some (.cells (KA x) 35 (0, 0)) := al_new rfl _
      obtain ⟨wx, hwx⟩ : ∃ x', x' = wr.alloc (.cells (KA x) 35) := ⟨_, rfl⟩
      obtain ⟨gx, hgx⟩ : ∃ g, g = wr.heap.size := ⟨_, rfl⟩
      rw [← hwx, ← hgx] at hGx
      rw [← hwx] at hbx
      rw [← hwx, ← hgx]
      have hDx := HI.out.2.2.1.bel hbx
      have hgxB : gx ≠ B := by have := HI.out.2.2.1.lt; omega
      clear hwx HZ HX
      refine wp_region_held_drew (S := fun W1 : World => ∃ d' : DR, DAt W1 B d' ∧ (d'.mt = mt ∧ W1.heap[gx]? = some (.cells (KA x) 35 (0, 0)))) (by kernel_rfl) ⟨_, hDx.bel (bel_dr (Below.refl _ _)), rfl, hGx⟩ (fun hH => ?_)
      clear hH
      have hD0 := hDx.bel (bel_dr (Below.refl _ _))
      have hF0 := (Off.refl B wx).drew
      have bD0 : Below wx.heap.size wx wx.drew := bel_dr (Below.refl _ _)
      have hG0 : wx.drew.heap[gx]? = some (.cells (KA x) 35 (0, 0)) := hGx
      obtain ⟨wd0, hwd⟩ : ∃ x, x = wx.drew := ⟨_, rfl⟩
      rw [← hwd] at hD0 hF0 bD0 hG0 ⊢
      clear hwd
      refine wpAnyH_take (i := 0) (oi := ⟨some 25, _, _, _, _, _⟩) (v := .pointer (some ⟨B, 0, none⟩)) rfl (by kernel_rfl) (by kernel_rfl) (by kernel_rfl) (fun _ _ _ h => h) (.inl ⟨by rfl, fun W hW => by go_simp⟩) ⟨_, hD0, rfl, hG0⟩ ?_
      try simp only [Act.put, List.setIfInBounds_toArray, List.set_cons_zero, List.set_cons_succ]
      refine wpAnyH_take (i := 1) (oi := ⟨some 26, _, _, _, _, _⟩) (v := .pointer (some ⟨B, 0, none⟩)) rfl (by kernel_rfl) (by kernel_rfl) (by kernel_rfl) (fun _ _ _ h => h) (.inl ⟨by rfl, fun W hW => by go_simp⟩) ⟨_, hD0, rfl, hG0⟩ ?_
      try simp only [Act.put, List.setIfInBounds_toArray, List.set_cons_zero, List.set_cons_succ]
      refine wpAnyH_take (i := 2) (oi := ⟨some 27, _, _, _, _, _⟩) (v := .pointer (some ⟨B, 46, none⟩)) rfl (by kernel_rfl) (by kernel_rfl) (by kernel_rfl) (fun _ _ _ h => h) (.inl ⟨by rfl, fun W hW => by go_simp⟩) ⟨_, hD0, rfl, hG0⟩ ?_
      try simp only [Act.put, List.setIfInBounds_toArray, List.set_cons_zero, List.set_cons_succ]
      refine wpAnyH_take (i := 3) (oi := ⟨some 28, _, _, _, _, _⟩) (v := .map (some mt)) rfl (by kernel_rfl) (by kernel_rfl) (by kernel_rfl) (fun _ _ _ h => h) (.inl ⟨by rfl, fun W hW => by obtain ⟨d2, hd, q1, q2⟩ := hW; have hx : W.cell? ⟨B, 46, none⟩ = some (.map (some d2.mt)) := hd.cell 46 rfl; rw [q1] at hx; go_simp⟩) ⟨_, hD0, rfl, hG0⟩ ?_
      try simp only [Act.put, List.setIfInBounds_toArray, List.set_cons_zero, List.set_cons_succ]
      refine wpAnyH_take (i := 4) (oi := ⟨some 29, _, _, _, _, _⟩) (v := .agg (KA x)) rfl (by kernel_rfl) (by kernel_rfl) (by kernel_rfl) (fun _ _ _ h => h) (yields_cells (by rfl) 35 _ rfl ⟨gx, 0, none⟩ rfl (KA x) _ (fun W hW => by obtain ⟨d2, hd, q1, q2⟩ := hW; exact blk_all q2) Try.underlying35 rfl (k_inf _)) ⟨_, hD0, rfl, hG0⟩ ?_
      try simp only [Act.put, List.setIfInBounds_toArray, List.set_cons_zero, List.set_cons_succ]
      refine wpAnyH_take (i := 5) (oi := ⟨some 30, _, _, _, _, _⟩) (v := .agg #[]) rfl (by kernel_rfl) (by kernel_rfl) (by kernel_rfl) (fun _ _ _ h => h) (.inl ⟨by rfl, fun W hW => by go_simp⟩) ⟨_, hD0, rfl, hG0⟩ ?_
      try simp only [Act.put, List.setIfInBounds_toArray, List.set_cons_zero, List.set_cons_succ]
      have hMd := (HI.out.2.1.keep (hbx.block _ HI.out.2.1.lt)).keep (bD0.block _ (Nat.lt_of_lt_of_le HI.out.2.1.lt hbx.size))
      obtain ⟨wu, hru, hMu, hOu⟩ := hMd.put (by have := HI.out.1; omega) hkx
      refine wpAnyH_ready (rs := [6]) (by kernel_rfl) (by simp) ?_
      refine AllReadyH.cons (o := ⟨none, _, _, _, _, _⟩) rfl (fun K hK => ?_) AllReadyH.nil
      refine step_update rfl _ (.tmp 28) (.tmp 29) (.tmp 30) rfl hru ?_
      have hDu : DAt wu B (D1 c inn mt) := (hOu.block _ hD0.lt (fun e => hmB e.symm)).trans hD0
      have hGu : wu.heap[gx]? = _ := (hOu.block _ (blk_lt hG0) (fun e => by have := HI.out.2.1.lt; omega)).trans hG0
      refine hK.out _ _ ⟨_, hDu, rfl, hGu⟩ (fun _ => ?_)
      clear hK K
      try simp only [Act.put, List.setIfInBounds_toArray, List.set_cons_zero, List.set_cons_succ]
      refine wpAnyH_done (by kernel_rfl) ?_ _
      try simp only [Act.put, List.setIfInBounds_toArray, List.set_cons_zero, List.set_cons_succ]
      have HE : Hid ((if tkG (tk.take i) x then cn else cn + 1) ≤ i + 1 ∧ MapT wu mt (tkG (tk.take (i + 1))) (if tkG (tk.take i) x then cn else cn + 1) ∧ DAt wu B (D1 c inn mt) ∧ wu.heap[gk]? = some (.cells (KA k) 35 (0, 0)) ∧ Below w.heap.size w wu) := Lib.hid (by
        refine ⟨by have := HI.out.1; split <;> omega, hMu.congr (tkG_succ hx), hDu, ?_, ?_⟩
        · have q1 := kb bD0 (kb hbx HI.out.2.2.2.1)
          exact (hOu.block _ (blk_lt q1) (fun e => hgm e)).trans q1
        · have b2 := bel_via (bel_via HI.out.2.2.2.2 hbx) bD0
          exact b2.trans (hOu.toBelow (A := w.heap.size) (fun j e => by omega) b2.size))
      clear hD0 hF0 bD0 hMd hru hMu hOu hDu hGu hG0 hGx hbx hDx
      go_wp2_with fail
      go_roundw
      case rel => exact ⟨i + 1, by first | rfl | go_num, by omega, _, HE.out |> Lib.hid⟩
      case measure => simp [intOf]; omega
    · have hin : i = n := by omega
      have hG := HI.out.2.2.2.1
      have hDl := HI.out.2.2.1
      have hgl := blk_lt hG
      have hltI : ¬ (i : Int) < (n : Int) := by omega
      clear hlt
      subst hin
      have cT := fun W => turn_any k W
      go_wp2_with fail
      refine wp_region_held_drew (S := fun W1 : World => ∃ d' : DR, DAt W1 B d' ∧ (W1.heap[gk]? = some (.cells (KA k) 35 (0, 0)))) (by kernel_rfl) ⟨_, hDl.bel (bel_dr (Below.refl _ _)), hG⟩ (fun hH => ?_)
      clear hH
      have hD0 := hDl.bel (bel_dr (Below.refl _ _))
      have hF0 := (Off.refl B wr).drew
      have bD0 : Below wr.heap.size wr wr.drew := bel_dr (Below.refl _ _)
      obtain ⟨wd0, hwd⟩ : ∃ x, x = wr.drew := ⟨_, rfl⟩
      rw [← hwd] at hD0 hF0 bD0 ⊢
      clear hwd
      refine wpAnyH_take (i := 0) (oi := ⟨some 32, _, _, _, _, _⟩) (v := .pointer (some ⟨B, 0, none⟩)) rfl (by kernel_rfl) (by kernel_rfl) (by kernel_rfl) (fun _ _ _ h => h) (.inl ⟨by rfl, fun W hW => by go_simp⟩) ⟨_, hD0, (hF0.block gk hgl hgB).trans hG⟩ ?_
      try simp only [Act.put, List.setIfInBounds_toArray, List.set_cons_zero, List.set_cons_succ]
      refine wpAnyH_take (i := 1) (oi := ⟨some 33, _, _, _, _, _⟩) (v := .pointer (some ⟨B, 0, none⟩)) rfl (by kernel_rfl) (by kernel_rfl) (by kernel_rfl) (fun _ _ _ h => h) (.inl ⟨by rfl, fun W hW => by go_simp⟩) ⟨_, hD0, (hF0.block gk hgl hgB).trans hG⟩ ?_
      try simp only [Act.put, List.setIfInBounds_toArray, List.set_cons_zero, List.set_cons_succ]
      refine wpAnyH_take (i := 2) (oi := ⟨some 34, _, _, _, _, _⟩) (v := .agg (KA k)) rfl (by kernel_rfl) (by kernel_rfl) (by kernel_rfl) (fun _ _ _ h => h) (yields_cells (by rfl) 35 _ rfl ⟨gk, 0, none⟩ rfl (KA k) _ (fun W hW => by obtain ⟨d2, hd, q1⟩ := hW; exact blk_all q1) Try.underlying35 rfl (k_inf _)) ⟨_, hD0, (hF0.block gk hgl hgB).trans hG⟩ ?_
      try simp only [Act.put, List.setIfInBounds_toArray, List.set_cons_zero, List.set_cons_succ]
      refine wpAnyH_take (i := 3) (oi := ⟨some 35, _, _, _, _, _⟩) (v := .agg (KA k)) rfl (by kernel_rfl) (by kernel_rfl) (by kernel_rfl) (fun _ _ _ h => h) (yields_cells (by rfl) 35 _ rfl ⟨gk, 0, none⟩ rfl (KA k) _ (fun W hW => by obtain ⟨d2, hd, q1⟩ := hW; exact blk_all q1) Try.underlying35 rfl (k_inf _)) ⟨_, hD0, (hF0.block gk hgl hgB).trans hG⟩ ?_
      try simp only [Act.put, List.setIfInBounds_toArray, List.set_cons_zero, List.set_cons_succ]
      refine wpAnyH_ready (rs := [4]) (by kernel_rfl) (by simp) ?_
      refine AllReadyH.cons (o := ⟨some 36, _, _, _, _, _⟩) rfl (fun K hK => ?_) AllReadyH.nil
      go_simp
      go_at_call 30
      ((with_reducible refine (cT _).mono ?_); rintro e wd1 ⟨rfl, bC1⟩)
      have hD1 := hD0.bel bC1
      have hF1 := hF0.trans (off_bel bC1)
      refine hK.out _ _ ⟨_, hD1, (hF1.block gk hgl hgB).trans hG⟩ (fun _ => ?_)
      clear hK K
      try simp only [Act.put, List.setIfInBounds_toArray, List.set_cons_zero, List.set_cons_succ]
      refine wpAnyH_take (i := 5) (oi := ⟨some 37, _, _, _, _, _⟩) (v := .pointer (some ⟨B, 0, none⟩)) rfl (by kernel_rfl) (by kernel_rfl) (by kernel_rfl) (fun _ _ _ h => h) (.inl ⟨by rfl, fun W hW => by go_simp⟩) ⟨_, hD1, (hF1.block gk hgl hgB).trans hG⟩ ?_
      try simp only [Act.put, List.setIfInBounds_toArray, List.set_cons_zero, List.set_cons_succ]
      refine wpAnyH_take (i := 6) (oi := ⟨some 38, _, _, _, _, _⟩) (v := .pointer (some ⟨B, 0, none⟩)) rfl (by kernel_rfl) (by kernel_rfl) (by kernel_rfl) (fun _ _ _ h => h) (.inl ⟨by rfl, fun W hW => by go_simp⟩) ⟨_, hD1, (hF1.block gk hgl hgB).trans hG⟩ ?_
      try simp only [Act.put, List.setIfInBounds_toArray, List.set_cons_zero, List.set_cons_succ]
      refine wpAnyH_take (i := 7) (oi := ⟨some 39, _, _, _, _, _⟩) (v := .pointer (some ⟨B, 7, none⟩)) rfl (by kernel_rfl) (by kernel_rfl) (by kernel_rfl) (fun _ _ _ h => h) (.inl ⟨by rfl, fun W hW => by go_simp⟩) ⟨_, hD1, (hF1.block gk hgl hgB).trans hG⟩ ?_
      try simp only [Act.put, List.setIfInBounds_toArray, List.set_cons_zero, List.set_cons_succ]
      refine wpAnyH_ready (rs := [8]) (by kernel_rfl) (by simp) ?_
      refine AllReadyH.cons (o := ⟨none, _, _, _, _, _⟩) rfl (fun K hK => ?_) AllReadyH.nil
      refine step_store_mid rfl 35 (.tmp 39) (.tmp 34) rfl B 7 (KA k) rfl rfl (hD1.there (o := 7) (n := 7) (by omega)) (k_inf _) (k_one _) ?_
      have hD2 := hD1.set_op k
      have hF2 := hF1.trans (setCells_off (KA k).toList 7 _ B)
      obtain ⟨wd2, hw2⟩ : ∃ x, x = wd1.setCells B 7 (KA k).toList := ⟨_, rfl⟩
      rw [← hw2] at hD2 hF2 ⊢
      clear hw2
      refine hK.out _ _ ⟨_, hD2, (hF2.block gk hgl hgB).trans hG⟩ (fun _ => ?_)
      clear hK K
      try simp only [Act.put, List.setIfInBounds_toArray, List.set_cons_zero, List.set_cons_succ]
      refine wpAnyH_take (i := 9) (oi := ⟨some 40, _, _, _, _, _⟩) (v := .pointer (some ⟨B, 0, none⟩)) rfl (by kernel_rfl) (by kernel_rfl) (by kernel_rfl) (fun _ _ _ h => h) (.inl ⟨by rfl, fun W hW => by go_simp⟩) ⟨_, hD2, (hF2.block gk hgl hgB).trans hG⟩ ?_
      try simp only [Act.put, List.setIfInBounds_toArray, List.set_cons_zero, List.set_cons_succ]
      refine wpAnyH_take (i := 10) (oi := ⟨some 41, _, _, _, _, _⟩) (v := .pointer (some ⟨B, 0, none⟩)) rfl (by kernel_rfl) (by kernel_rfl) (by kernel_rfl) (fun _ _ _ h => h) (.inl ⟨by rfl, fun W hW => by go_simp⟩) ⟨_, hD2, (hF2.block gk hgl hgB).trans hG⟩ ?_
      try simp only [Act.put, List.setIfInBounds_toArray, List.set_cons_zero, List.set_cons_succ]
      refine wpAnyH_take (i := 11) (oi := ⟨some 42, _, _, _, _, _⟩) (v := .pointer (some ⟨B, 28, none⟩)) rfl (by kernel_rfl) (by kernel_rfl) (by kernel_rfl) (fun _ _ _ h => h) (.inl ⟨by rfl, fun W hW => by go_simp⟩) ⟨_, hD2, (hF2.block gk hgl hgB).trans hG⟩ ?_
      try simp only [Act.put, List.setIfInBounds_toArray, List.set_cons_zero, List.set_cons_succ]
      refine wpAnyH_ready (rs := [12]) (by kernel_rfl) (by simp) ?_
      refine AllReadyH.cons (o := ⟨none, _, _, _, _, _⟩) rfl (fun K hK => ?_) AllReadyH.nil
      refine step_store_mid rfl 35 (.tmp 42) (.tmp 36) rfl B 28 (KA (turnK k)) rfl rfl (hD2.there (o := 28) (n := 7) (by omega)) (k_inf _) (k_one _) ?_
      have hD3 := hD2.set_ho (turnK k)
      have hF3 := hF2.trans (setCells_off (KA (turnK k)).toList 28 _ B)
      obtain ⟨wd3, hw3⟩ : ∃ x, x = wd2.setCells B 28 (KA (turnK k)).toList := ⟨_, rfl⟩
      rw [← hw3] at hD3 hF3 ⊢
      clear hw3
      refine hK.out _ _ ⟨_, hD3, (hF3.block gk hgl hgB).trans hG⟩ (fun _ => ?_)
      clear hK K
      try simp only [Act.put, List.setIfInBounds_toArray, List.set_cons_zero, List.set_cons_succ]
      refine wpAnyH_done (by kernel_rfl) ?_ _
      try simp only [Act.put, List.setIfInBounds_toArray, List.set_cons_zero, List.set_cons_succ]
      have HF := Lib.hid hF3
      have HD := Lib.hid hD3
      have FE : M (.returned (.pointer (some ⟨B, 0, none⟩))) wd3 := by
        rw [HMM.out]
        refine ⟨B, mt, cn, rfl, HD.out, ?_, HI.out.2.2.2.2.trans (HF.out.toBelow hBs HI.out.2.2.2.2.size), hBs⟩
        have hm := HI.out.2.1
        rw [List.take_of_length_le (by rw [HL.out]; exact Nat.le_refl _)] at hm
        exact hm.keep (HF.out.block _ hm.lt hmB)
      have FE := Lib.hid FE
      clear HD HF hD0 hD1 hD2 hD3 hF0 hF1 hF2 hF3 bD0
      go_wp2_with fail
      exact FE.out
end Go.Proofs.Ytokbmahnjmmcaaa
