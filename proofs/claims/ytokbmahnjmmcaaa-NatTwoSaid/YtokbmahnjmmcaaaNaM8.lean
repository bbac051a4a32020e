/- Make: the walk; by-name template (gen_na.py). -/
import Derived.Test.YtokbmahnjmmcaaaNaMP
namespace Go.Proofs.Ytokbmahnjmmcaaa
open Go.RowKit Go.Lib Go.Maps
set_option linter.unusedVariables false
set_option linter.unusedSimpArgs false

theorem p_inf (p : PN) : (Try.prog.info? 38).map (·.size) = some (PA p).size := by rw [show (PA p).size = 37 from rfl]; kernel_rfl
theorem p_one (p : PN) : (PA p).all (·.oneCell') = true := by unfold PA; simp [Value.oneCell']
theorem plan_cells {w : World} {B : Nat} {d : DR} (h : DAt w B d) : ∀ j v, (PA (planD d)).toList[j]? = some v → w.cell? ((⟨B, 0, none⟩ : Addr).add j) = some v := by
  intro j v hv
  rw [addr_add, Nat.zero_add]
  refine h.cell j ?_
  have e : (DA d).toList = (PA (planD d)).toList ++ (DA d).toList.drop 37 := rfl
  rw [← Array.getElem?_toList, e, List.getElem?_append_left (List.getElem?_eq_some_iff.1 hv).1]
  exact hv
/-- the draft ahead of step i. -/
def stD (c : CF) (inn : Int) (k : KR) (mt : Nat) : Nat → DR
  | 0 => D0 c inn mt k
  | 1 => judgeD (D0 c inn mt k)
  | 2 => wayD (judgeD (D0 c inn mt k))
  | _ => d3 c inn k mt
structure LoopSt (w : World) (c : CF) (inn : Int) (k : KR) (tk : List KR) (mt cn B gp : Nat) (i : Nat) (wr : World) : Prop where
  bel : Below w.heap.size w wr
  pb : wr.heap[gp]? = some (.cells (PA zP) 38 (0, 0))
  mp : MapT wr mt (tkG tk) cn
  dr : i < 4 → DAt wr B (stD c inn k mt i)
  rt : 2 ≤ i → (routeP c (judK c k).dh (judK c k).dl).1 ≠ -1 ∧ (routeP c (judK c k).dh (judK c k).dl).2 ≠ -1
  en : i = 4 → ∃ r, portQ (d3 c inn k mt) tk = some r ∧ DAt wr B { d3 c inn k mt with ou := r, ba := turnK r }
theorem LoopSt.next {w : World} {c : CF} {inn : Int} {k : KR} {tk : List KR} {mt cn B gp i : Nat} {wr w5 : World} (h : LoopSt w c inn k tk mt cn B gp i wr) (hBw : w.heap.size ≤ B) (hgB : gp ≠ B) {j : Nat} (hD : j < 4 → DAt w5 B (stD c inn k mt j)) (hF : Off B wr w5)
    (hr : 2 ≤ j → (routeP c (judK c k).dh (judK c k).dl).1 ≠ -1 ∧ (routeP c (judK c k).dh (judK c k).dl).2 ≠ -1) (he : j = 4 → ∃ r, portQ (d3 c inn k mt) tk = some r ∧ DAt w5 B { d3 c inn k mt with ou := r, ba := turnK r }) (hmB : mt ≠ B) : LoopSt w c inn k tk mt cn B gp j w5 :=
  ⟨h.bel.trans (hF.toBelow hBw h.bel.size), (hF.block _ (blk_lt h.pb) hgB).trans h.pb, h.mp.keep (hF.block _ h.mp.lt hmB), hD, hr, he⟩
theorem LoopSt.off {w : World} {c : CF} {inn : Int} {k : KR} {tk : List KR} {mt cn B gp i : Nat} {wr w5 : World} (h : LoopSt w c inn k tk mt cn B gp i wr) (hBw : w.heap.size ≤ B) (hgB : gp ≠ B) (hF : Off B wr w5) : Below w.heap.size w w5 ∧ w5.heap[gp]? = some (.cells (PA zP) 38 (0, 0)) :=
  ⟨h.bel.trans (hF.toBelow hBw h.bel.size), (hF.block _ (blk_lt h.pb) hgB).trans h.pb⟩
theorem port_mt (c : CF) (inn : Int) (k : KR) (tk : List KR) (mt : Nat) : portQ (d3 c inn k mt) tk = portQ (d3 c inn k 0) tk := by
  rw [d3_mt c inn k mt]; rfl
def MPost (w : World) (p : PN × Int) (e : Ending) (w' : World) : Prop := e = .returned (.tuple #[.agg (PA p.1), .int .i64 p.2]) ∧ Below w.heap.size w w'
set_option maxRecDepth 100000 in
set_option maxHeartbeats 8000000 in
theorem make_any (c : CF) (inn : Int) (k : KR) (A : Option Addr) (n cap : Nat) (tk : List KR) {w : World} (hc : c.Ok w) (hk : KyOk k) (hS : Sl w 7 krc A n tk) (hT : ∀ x ∈ tk, KyOk x) (hn : n ≤ 1000) :
    Calls Try.prog 11 #[.agg (cfc c), .int .i64 inn, .agg (KA k), .slice A n cap] w (MPost w (makeP c inn k tk)) := by
  obtain ⟨M, hMM⟩ : ∃ M, M = MPost w (makeP c inn k tk) := ⟨_, rfl⟩
  rw [← hMM]
  have HMM := Lib.hid hMM
  have HSS := Lib.hid hS
  clear hMM hS
  go_enter Try.func11, Try.ntmps11
  go_upto_region 1 with fail
  obtain ⟨gp, hgp⟩ : ∃ g, g = w.heap.size + 1 + 1 := ⟨_, rfl⟩
  obtain ⟨gk, hgk⟩ : ∃ g, g = w.heap.size + 1 := ⟨_, rfl⟩
  obtain ⟨gc, hgc⟩ : ∃ g, g = w.heap.size := ⟨_, rfl⟩
  obtain ⟨w1, hw1⟩ : ∃ x, x = ((w.alloc (.cells (cfc c) 30)).alloc (.cells (KA k) 35)).alloc (.cells #[.int .i64 0, .int .u64 0, .int .u64 0, .int .u64 0, .int .u64 0, .int .i64 0, .int .i64 0, .int .i64 0, .int .u64 0, .int .u64 0, .int .u64 0, .int .u64 0, .int .i64 0, .int .i64 0, .int .i64 0, .int .u64 0, .int .u64 0, .int .u64 0, .int .u64 0, .int .i64 0, .int .i64 0, .int .i64 0, .int .u64 0, .int .u64 0, .int .u64 0, .int .u64 0, .int .i64 0, .int .i64 0, .int .i64 0, .int .u64 0, .int .u64 0, .int .u64 0, .int .u64 0, .int .i64 0, .int .i64 0, .int .i64 0, .int .i64 0] 38) := ⟨_, rfl⟩
  have hb1 : Below w.heap.size w w1 := by rw [hw1]; exact Below.al (Below.al (bel_al _ _) _) _
  have HP1 : Hid (w1.heap[gp]? = some (.cells (PA zP) 38 (0, 0))) := Lib.hid (by rw [hw1, hgp]; exact al_new (by simp [al_size]) _)
  have HK1 : Hid (w1.heap[gk]? = some (.cells (KA k) 35 (0, 0))) := Lib.hid (by
    rw [hw1, hgk]
    exact (al_old (by simp only [al_size]; omega) _).trans (al_new (by simp [al_size]) _))
  have HC1 : Hid (w1.heap[gc]? = some (.cells (cfc c) 30 (0, 0))) := Lib.hid (by
    rw [hw1, hgc]
    exact (al_old (by simp only [al_size]; omega) _).trans ((al_old (by simp only [al_size]; omega) _).trans (al_new rfl _)))
  have hgpw : w.heap.size ≤ gp := by omega
  rw [← hw1]
  rw [← hgp, ← hgk]
  rw [show (Value.pointer (some ⟨w.heap.size, 0, none⟩)) = Value.pointer (some ⟨gc, 0, none⟩) by rw [hgc]]
  have HB1 := Lib.hid hb1
  have cN := new_any c inn k A n cap tk (HSS.out.keep HB1.out) hT hn hk
  unfold NPost at cN
  clear hw1 hgp hgk hgc hb1
  go_upto_region 2 with (first | ((with_reducible refine stop_op (o := ⟨some 14, _, _, _, _, _⟩) ?_); refine Lib.hid ?_; refine wpList_load_cells rfl 30 (.tmp 4) rfl ⟨gc, 0, none⟩ rfl (cfc c) _ (blk_all HC1.out) Try.underlying30 rfl (c_inf _) ?_) | ((with_reducible refine stop_op (o := ⟨some 16, _, _, _, _, _⟩) ?_); refine Lib.hid ?_; refine wpList_load_cells rfl 35 (.tmp 6) rfl ⟨gk, 0, none⟩ rfl (KA k) _ (blk_all HK1.out) Try.underlying35 rfl (k_inf _) ?_) | (go_at_call 17; (with_reducible refine cN.mono ?_); rintro e w2 ⟨B, mt, cn, rfl, hD2, hM2, hb2, hB2⟩))
  have hb2w : Below w.heap.size w w2 := bel_via HB1.out hb2
  have hBw : w.heap.size ≤ B := Nat.le_trans HB1.out.size hB2
  have hgB : gp ≠ B := by have := blk_lt HP1.out; omega
  have hmB : mt ≠ B := hM2.ne hD2
  have HL0 : Hid (LoopSt w c inn k tk mt cn B gp 0 w2) := Lib.hid ⟨hb2w, kb hb2 HP1.out, hM2, fun _ => hD2, fun h => by omega, fun h => by omega⟩
  clear hD2 hM2 hb2 hB2 HP1 HK1 HC1 HB1 cN hb2w HSS hT hn
  go_wp2_with fail
  go_loopw [28] (fun v28 wr => ∃ i : Nat, v28 = .int .i64 i ∧ i ≤ 4 ∧ Hid (LoopSt w c inn k tk mt cn B gp i wr)) (fun v28 _ => 4 - (intOf v28).toNat)
  case atStart => exact ⟨0, rfl, by omega, HL0⟩
  case round =>
    obtain ⟨i, rfl, hi, HL⟩ := hrel
    clear HL0
    have ix0 : ∀ x : World, Sem.run Try.prog (Instr.index 73 (.agg #[.func (Fn.func 18) #[.pointer (some ⟨B, 0, none⟩)] #[], .func (Fn.func 19) #[.pointer (some ⟨B, 0, none⟩)] #[], .func (Fn.func 20) #[.pointer (some ⟨B, 0, none⟩)] #[], .func (Fn.func 21) #[.pointer (some ⟨B, 0, none⟩)] #[]]) (.int .i64 0)) x = .ok (.func (Fn.func 18) #[.pointer (some ⟨B, 0, none⟩)] #[]) x := fun _ => by kernel_rfl
    have ix1 : ∀ x : World, Sem.run Try.prog (Instr.index 73 (.agg #[.func (Fn.func 18) #[.pointer (some ⟨B, 0, none⟩)] #[], .func (Fn.func 19) #[.pointer (some ⟨B, 0, none⟩)] #[], .func (Fn.func 20) #[.pointer (some ⟨B, 0, none⟩)] #[], .func (Fn.func 21) #[.pointer (some ⟨B, 0, none⟩)] #[]]) (.int .i64 1)) x = .ok (.func (Fn.func 19) #[.pointer (some ⟨B, 0, none⟩)] #[]) x := fun _ => by kernel_rfl
    have ix2 : ∀ x : World, Sem.run Try.prog (Instr.index 73 (.agg #[.func (Fn.func 18) #[.pointer (some ⟨B, 0, none⟩)] #[], .func (Fn.func 19) #[.pointer (some ⟨B, 0, none⟩)] #[], .func (Fn.func 20) #[.pointer (some ⟨B, 0, none⟩)] #[], .func (Fn.func 21) #[.pointer (some ⟨B, 0, none⟩)] #[]]) (.int .i64 2)) x = .ok (.func (Fn.func 20) #[.pointer (some ⟨B, 0, none⟩)] #[]) x := fun _ => by kernel_rfl
    have ix3 : ∀ x : World, Sem.run Try.prog (Instr.index 73 (.agg #[.func (Fn.func 18) #[.pointer (some ⟨B, 0, none⟩)] #[], .func (Fn.func 19) #[.pointer (some ⟨B, 0, none⟩)] #[], .func (Fn.func 20) #[.pointer (some ⟨B, 0, none⟩)] #[], .func (Fn.func 21) #[.pointer (some ⟨B, 0, none⟩)] #[]]) (.int .i64 3)) x = .ok (.func (Fn.func 21) #[.pointer (some ⟨B, 0, none⟩)] #[]) x := fun _ => by kernel_rfl
    rcases (show i = 0 ∨ i = 1 ∨ i = 2 ∨ i = 3 ∨ i = 4 by omega) with rfl | rfl | rfl | rfl | rfl
    · obtain ⟨hb, hP, hM, hD, _, _⟩ := HL.out
      have cJ := judge_any _ B (hD (by omega)) hc hb hBw
      unfold DPost at cJ
      have HX := Lib.hid HL.out
      clear hb hP hM hD
      go_wp2_with (go_at_call 18; (go_loud (with_reducible refine cJ.mono ?_)); rintro e w5 ⟨rfl, hD5, hF5⟩)
      exact ⟨⟨1, rfl, by omega, Lib.hid (HX.out.next hBw hgB (fun _ => hD5) hF5 (fun h => by omega) (fun h => by omega) hmB)⟩, by simp [intOf]⟩
    · obtain ⟨hb, hP, hM, hD, _, _⟩ := HL.out
      have cJ := way_any _ B (hD (by omega)) hc hb hBw
      have hw : wayR (stD c inn k mt 1) = if (routeP c (judK c k).dh (judK c k).dl).1 = -1 then 8 else if (routeP c (judK c k).dh (judK c k).dl).2 = -1 then 3 else 0 := rfl
      unfold DPost at cJ
      rw [hw] at cJ
      have HX := Lib.hid HL.out
      clear hb hP hM hD hw
      by_cases c1 : (routeP c (judK c k).dh (judK c k).dl).1 = -1
      · have HE : Hid (makeP c inn k tk = (zP, 8)) := Lib.hid (by unfold makeP; rw [if_pos c1])
        rw [if_pos c1] at cJ
        clear c1
        go_wp2_with (first | (go_at_call 19; (go_loud (with_reducible refine cJ.mono ?_)); rintro e w5 ⟨rfl, hD5, hF5⟩; have HP5 := Lib.hid (HX.out.off hBw hgB hF5)) | ((with_reducible refine stop_op (o := ⟨none, .store 38 (.tmp 8) (.tmp 35), _, _, _, _⟩) ?_); refine Lib.hid ?_; refine wpList_store_row rfl 38 (.tmp 8) (.tmp 35) rfl gp (PA zP) rfl rfl 38 (PA zP) HP5.out.2 (p_inf _) rfl (p_one _) ?_))
        refine bodyPost_ret_by (res_row Try.results11 _ _ gp 38 (PA zP) _ rfl (blk_setRow HP5.out.2 (PA zP)) Try.underlying38 (p_inf _)) rfl ?_
        rw [HMM.out, HE.out]
        exact ⟨rfl, Below.setRow HP5.out.1 hgpw _⟩
      · by_cases c2 : (routeP c (judK c k).dh (judK c k).dl).2 = -1
        · have HE : Hid (makeP c inn k tk = (zP, 3)) := Lib.hid (by unfold makeP; rw [if_neg c1, if_pos c2])
          rw [if_neg c1, if_pos c2] at cJ
          clear c1 c2
          go_wp2_with (first | (go_at_call 19; (go_loud (with_reducible refine cJ.mono ?_)); rintro e w5 ⟨rfl, hD5, hF5⟩; have HP5 := Lib.hid (HX.out.off hBw hgB hF5)) | ((with_reducible refine stop_op (o := ⟨none, .store 38 (.tmp 8) (.tmp 35), _, _, _, _⟩) ?_); refine Lib.hid ?_; refine wpList_store_row rfl 38 (.tmp 8) (.tmp 35) rfl gp (PA zP) rfl rfl 38 (PA zP) HP5.out.2 (p_inf _) rfl (p_one _) ?_))
          refine bodyPost_ret_by (res_row Try.results11 _ _ gp 38 (PA zP) _ rfl (blk_setRow HP5.out.2 (PA zP)) Try.underlying38 (p_inf _)) rfl ?_
          rw [HMM.out, HE.out]
          exact ⟨rfl, Below.setRow HP5.out.1 hgpw _⟩
        · rw [if_neg c1, if_neg c2] at cJ
          have HC := Lib.hid (And.intro c1 c2)
          clear c1 c2
          go_wp2_with (go_at_call 19; (go_loud (with_reducible refine cJ.mono ?_)); rintro e w5 ⟨rfl, hD5, hF5⟩)
          exact ⟨⟨2, by first | rfl | go_num, by omega, Lib.hid (HX.out.next hBw hgB (fun _ => hD5) hF5 (fun _ => HC.out) (fun h => by omega) hmB)⟩, by simp [intOf]⟩
    · obtain ⟨hb, hP, hM, hD, hR, _⟩ := HL.out
      obtain ⟨j, z, hzo, hz⟩ := (route_zone c (judK c k).dh (judK c k).dl).resolve_left (hR (by omega)).2
      have cJ := source_step _ B (hD (by omega)) hc hb hBw j z hzo hz ⟨hk.2.1, hk.2.2.1⟩ ⟨hk.2.1, hk.2.2.1⟩
      unfold DPost at cJ
      have HX := Lib.hid HL.out
      have HR := Lib.hid (hR (by omega))
      clear hb hP hM hD hR hzo hz
      go_wp2_with (go_at_call 20; (go_loud (with_reducible refine cJ.mono ?_)); rintro e w5 ⟨rfl, hD5, hF5⟩)
      exact ⟨⟨3, by first | rfl | go_num, by omega, Lib.hid (HX.out.next hBw hgB (fun _ => hD5) hF5 (fun _ => HR.out) (fun h => by omega) hmB)⟩, by simp [intOf]⟩
    · obtain ⟨hb, hP, hM, hD, hR, _⟩ := HL.out
      obtain ⟨q1, q2, q3⟩ := d3_ok c inn k mt hc hk
      have cJ := port_step (d3 c inn k mt) B tk cn (hD (by omega)) (by rw [d3_mt]; exact hM) q1 (by rw [d3_op]; exact hk.2.2.2.2.2.1) q2 q3
      unfold PPost at cJ
      have HX := Lib.hid HL.out
      have HR := Lib.hid (hR (by omega))
      clear hb hP hM hD hR q1 q2 q3
      cases hq : portQ (d3 c inn k mt) tk with
      | none =>
        rw [hq] at cJ
        simp only at cJ
        have HE : Hid (makeP c inn k tk = (zP, 15)) := Lib.hid (by
          unfold makeP
          rw [if_neg HR.out.1, if_neg HR.out.2, ← port_mt c inn k tk mt, hq])
        clear hq
        go_wp2_with (first | (go_at_call 21; (go_loud (with_reducible refine cJ.mono ?_)); rintro e w5 ⟨hF5, rfl⟩; have HP5 := Lib.hid (HX.out.off hBw hgB hF5)) | ((with_reducible refine stop_op (o := ⟨none, .store 38 (.tmp 8) (.tmp 35), _, _, _, _⟩) ?_); refine Lib.hid ?_; refine wpList_store_row rfl 38 (.tmp 8) (.tmp 35) rfl gp (PA zP) rfl rfl 38 (PA zP) HP5.out.2 (p_inf _) rfl (p_one _) ?_))
        refine bodyPost_ret_by (res_row Try.results11 _ _ gp 38 (PA zP) _ rfl (blk_setRow HP5.out.2 (PA zP)) Try.underlying38 (p_inf _)) rfl ?_
        rw [HMM.out, HE.out]
        exact ⟨rfl, Below.setRow HP5.out.1 hgpw _⟩
      | some r =>
        rw [hq] at cJ
        simp only at cJ
        have HQ := Lib.hid hq
        clear hq
        go_wp2_with (go_at_call 21; (go_loud (with_reducible refine cJ.mono ?_)); rintro e w5 ⟨hF5, rfl, hD5⟩)
        exact ⟨⟨4, by first | rfl | go_num, by omega, Lib.hid (HX.out.next hBw hgB (fun h => by omega) hF5 (fun _ => HR.out) (fun _ => ⟨r, HQ.out, hD5⟩) hmB)⟩, by simp [intOf]⟩
    · obtain ⟨hb, hP, hM, _, hR, hE⟩ := HL.out
      obtain ⟨r, hq, hD⟩ := hE rfl
      have HE : Hid (makeP c inn k tk = (planD { d3 c inn k mt with ou := r, ba := turnK r }, 0)) := Lib.hid (by
        unfold makeP
        rw [if_neg (hR (by omega)).1, if_neg (hR (by omega)).2, ← port_mt c inn k tk mt, hq]
        simp only
        rw [d3_mt c inn k mt]
        rfl)
      have HPC := Lib.hid (plan_cells hD)
      obtain ⟨p, hp⟩ : ∃ p, p = planD { d3 c inn k mt with ou := r, ba := turnK r } := ⟨_, rfl⟩
      rw [← hp] at HE HPC
      have HX := Lib.hid (And.intro hb hP)
      clear hb hP hM hR hE hq hD hp
      go_wp2_with (first | ((with_reducible refine stop_op (o := ⟨some 41, _, _, _, _, _⟩) ?_); refine Lib.hid ?_; refine wpList_load_cells rfl 38 (.tmp 40) rfl ⟨B, 0, none⟩ rfl (PA p) _ HPC.out Try.underlying38 rfl (p_inf _) ?_) | ((with_reducible refine stop_op (o := ⟨none, .store 38 (.tmp 8) (.tmp 41), _, _, _, _⟩) ?_); refine Lib.hid ?_; refine wpList_store_row rfl 38 (.tmp 8) (.tmp 41) rfl gp (PA p) rfl rfl 38 (PA zP) HX.out.2 (p_inf _) rfl (p_one _) ?_))
      refine bodyPost_ret_by (res_row Try.results11 _ _ gp 38 (PA p) _ rfl (blk_setRow HX.out.2 (PA p)) Try.underlying38 (p_inf _)) rfl ?_
      rw [HMM.out, HE.out]
      exact ⟨rfl, Below.setRow HX.out.1 hgpw _⟩
end Go.Proofs.Ytokbmahnjmmcaaa
