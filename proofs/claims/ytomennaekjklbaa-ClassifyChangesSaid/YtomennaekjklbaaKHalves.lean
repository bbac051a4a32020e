/- The program's halves: where a node is cut; by-name template (gen_khalves.py). -/
import Derived.Test.YtomennaekjklbaaKPl
namespace Go.Proofs.Ytomennaekjklbaa
open Go.RowKit Go.Lib Go.Sort
set_option linter.unusedVariables false
set_option linter.unusedSimpArgs false

/-- Results that are two rows. -/
theorem res_rows2 {fn : Func} {p q : Tmp} {ty tz : TypeId} (h : fn.results = #[.cell p ty, .cell q tz]) (tmps : Array Value) (W : World) (g g2 : Nat) (t t2 : TypeId) (cs cs2 : Array Value) (fs fs2) (hp : tmps.getD p undef = .pointer (some ⟨g, 0, none⟩)) (hg : W.heap[g]? = some (.cells cs t (0, 0)))
    (hu : Try.prog.underlying ty = some (.struct fs)) (hi : (Try.prog.info? ty).map (·.size) = some cs.size)
    (hp2 : tmps.getD q undef = .pointer (some ⟨g2, 0, none⟩)) (hg2 : W.heap[g2]? = some (.cells cs2 t2 (0, 0)))
    (hu2 : Try.prog.underlying tz = some (.struct fs2)) (hi2 : (Try.prog.info? tz).map (·.size) = some cs2.size) :
    (results fn tmps).run Try.prog W = .ok (.tuple #[.agg cs, .agg cs2]) W := by
  have hp' : tmps[p]?.getD undef = .pointer (some ⟨g, 0, none⟩) := by simpa using hp
  have hq' : tmps[q]?.getD undef = .pointer (some ⟨g2, 0, none⟩) := by simpa using hp2
  simp [results, h, hp', hq', asAddr, run_loadVar_row W g t ty cs (0, 0) (.struct fs) hg hu rfl hi, run_loadVar_row W g2 t2 tz cs2 (0, 0) (.struct fs2) hg2 hu2 rfl hi2]
def HalvesPost (w : World) (b : Nat → R4) (l : List EN) (e : Ending) (w' : World) : Prop := e = .returned (.tuple #[.agg (bxc (loP b l)), .agg (bxc (hiP b l))]) ∧ Below w.heap.size w w'

set_option maxRecDepth 100000 in
set_option maxHeartbeats 8000000 in
theorem halves_any (A : Option Addr) (n c : Nat) (l : List EN) (b : Nat → R4) (hn : n ≤ 512) (hw : ∀ e ∈ l, WB e.bx) (wb : WB b) (h0 : 0 < (best l b 6).2.length) (hsp : spO b (fldP b l : Nat) (atP b l) = true) (wa : Word (atP b l).h ∧ Word (atP b l).l) (w : World) (hS : Sl w 25 enc25 A n l) :
    Calls Try.prog 44 #[.slice A n c, .agg (bxc b)] w (HalvesPost w b l) := by
  obtain ⟨M, hM⟩ : ∃ M, M = HalvesPost w b l := ⟨_, rfl⟩
  rw [← hM]
  have HM := Lib.hid hM; clear hM
  have iC := inf29 b
  have LP := fun (W : World) (k : Nat) (hk : k < 6) (h : Sl W 25 enc25 A n l) => pts_any A n c l b k hk hn hw W h
  have cs0 := fun W : World => split_any b (fldP b l : Nat) (atP b l) wb wa.1 wa.2 W
  rw [hsp] at cs0
  have iL := inf29 (loP b l)
  have oL := bx_one (loP b l)
  have zL : (#[.int .u64 0, .int .u64 0, .int .u64 0, .int .u64 0, .int .u64 0, .int .u64 0, .int .u64 0, .int .u64 0, .int .u64 0, .int .u64 0, .int .u64 0, .int .u64 0, .int .u64 0, .int .u64 0, .int .u64 0, .int .u64 0, .int .u64 0, .int .u64 0, .int .u64 0, .int .u64 0, .int .u64 0, .int .u64 0, .int .u64 0, .int .u64 0] : Array Value).size = (bxc (loP b l)).size := rfl
  have iH := inf29 (hiP b l)
  have oH := bx_one (hiP b l)
  have zH : (#[.int .u64 0, .int .u64 0, .int .u64 0, .int .u64 0, .int .u64 0, .int .u64 0, .int .u64 0, .int .u64 0, .int .u64 0, .int .u64 0, .int .u64 0, .int .u64 0, .int .u64 0, .int .u64 0, .int .u64 0, .int .u64 0, .int .u64 0, .int .u64 0, .int .u64 0, .int .u64 0, .int .u64 0, .int .u64 0, .int .u64 0, .int .u64 0] : Array Value).size = (bxc (hiP b l)).size := rfl
  have HFIN : M = fun e w' => e = .returned (.tuple #[.agg (bxc (loP b l)), .agg (bxc (hiP b l))]) ∧ Below w.heap.size w w' := by rw [HM.out]; rfl
  have HCS : ∀ W : World, Calls Try.prog 54 #[.agg (bxc b), .int .i64 (fldP b l : Nat), .agg #[.int .u64 (atP b l).h, .int .u64 (atP b l).l]] W fun e w' => e = .returned (.tuple #[.agg (bxc (loP b l)), .agg (bxc (hiP b l)), .bool true]) ∧ Below W.heap.size W w' := cs0
  clear cs0 HM hsp
  have HAT := Lib.hid (rfl : atP b l = atP b l)
  generalize bxc (loP b l) = LV at *
  generalize bxc (hiP b l) = HV at *
  obtain ⟨C, hC⟩ : ∃ C, C = bxc b := ⟨_, rfl⟩
  simp only [← hC] at LP HCS iC
  rw [← hC]
  clear hC
  have iC := Lib.hid iC
  have iL := Lib.hid iL
  have oL := Lib.hid oL
  have zL := Lib.hid zL
  have iH := Lib.hid iH
  have oH := Lib.hid oH
  have zH := Lib.hid zH
  have HFIN := Lib.hid HFIN
  have HS := Lib.hid hS
  clear wb wa HAT
  obtain ⟨hA, hR1, hR2, b0⟩ := bx3 w (.cells C 30) (.cells #[.int .u64 0, .int .u64 0, .int .u64 0, .int .u64 0, .int .u64 0, .int .u64 0, .int .u64 0, .int .u64 0, .int .u64 0, .int .u64 0, .int .u64 0, .int .u64 0, .int .u64 0, .int .u64 0, .int .u64 0, .int .u64 0, .int .u64 0, .int .u64 0, .int .u64 0, .int .u64 0, .int .u64 0, .int .u64 0, .int .u64 0, .int .u64 0] 30) (.cells #[.int .u64 0, .int .u64 0, .int .u64 0, .int .u64 0, .int .u64 0, .int .u64 0, .int .u64 0, .int .u64 0, .int .u64 0, .int .u64 0, .int .u64 0, .int .u64 0, .int .u64 0, .int .u64 0, .int .u64 0, .int .u64 0, .int .u64 0, .int .u64 0, .int .u64 0, .int .u64 0, .int .u64 0, .int .u64 0, .int .u64 0, .int .u64 0] 30)
  obtain ⟨w0, hw0⟩ : ∃ w0, w0 = World.alloc ((w.alloc (.cells C 30)).alloc (.cells #[.int .u64 0, .int .u64 0, .int .u64 0, .int .u64 0, .int .u64 0, .int .u64 0, .int .u64 0, .int .u64 0, .int .u64 0, .int .u64 0, .int .u64 0, .int .u64 0, .int .u64 0, .int .u64 0, .int .u64 0, .int .u64 0, .int .u64 0, .int .u64 0, .int .u64 0, .int .u64 0, .int .u64 0, .int .u64 0, .int .u64 0, .int .u64 0] 30)) (.cells #[.int .u64 0, .int .u64 0, .int .u64 0, .int .u64 0, .int .u64 0, .int .u64 0, .int .u64 0, .int .u64 0, .int .u64 0, .int .u64 0, .int .u64 0, .int .u64 0, .int .u64 0, .int .u64 0, .int .u64 0, .int .u64 0, .int .u64 0, .int .u64 0, .int .u64 0, .int .u64 0, .int .u64 0, .int .u64 0, .int .u64 0, .int .u64 0] 30) := ⟨_, rfl⟩
  rw [← hw0] at hA hR1 hR2 b0
  have Hw0 := Lib.hid hw0; clear hw0
  have hS0 := hS.keep b0
  go_enter Try.func44, Try.ntmps44
  go_upto_region 1 with fail
  rw [← Hw0.out]
  clear Hw0 hS
  go_wp2_with fail
  go_loopw [6, 7, 13] (fun v6 v7 v13 wr => ∃ i : Nat, v13 = .int .i64 i ∧ i ≤ 6 ∧ (∃ f A7 c7 LL, v6 = .int .i64 (f : Nat) ∧ v7 = .slice A7 LL.length c7 ∧ Hid (best l b i = (f, LL)) ∧ Sl wr 2 p2c A7 LL.length LL) ∧ Below w0.heap.size w0 wr) (fun _ _ v13 _ => 6 - (intOf v13).toNat)
  case atStart => exact ⟨0, rfl, by omega, ⟨0, none, 0, [], rfl, rfl, Lib.hid (best_zero l b), ⟨rfl, by simp, fun h => absurd h (Nat.lt_irrefl _)⟩⟩, Below.refl _ _⟩
  case round =>
    obtain ⟨i, rfl, hi, ⟨f, A7, c7, LL, rfl, rfl, HB, hS7⟩, bw⟩ := hrel
    by_cases hlt : i < 6
    · have hlti : (i : Int) < 6 := by omega
      have hdn : decide (i < 6) = true := by simp [hlt]
      have lp := fun (W : World) (h : Sl W 25 enc25 A n l) => LP W i hlt h
      have hst := best_succ l b i
      rw [HB.out] at hst
      unfold bestS at hst
      obtain ⟨PP, hPP⟩ : ∃ PP, PP = rptsL l b i := ⟨_, rfl⟩
      simp only [← hPP] at lp hst
      have HST := Lib.hid hst
      clear hPP hst
      have hA' := blkB bw hA
      have hSw := hS0.keep bw
      have bz := bw
      obtain ⟨wz, hwz⟩ : ∃ x, x = wr := ⟨_, rfl⟩
      rw [← hwz] at hA' hSw bz hS7 ⊢
      clear hwz
      obtain ⟨nl, hnl⟩ : ∃ nl, nl = LL.length := ⟨_, rfl⟩
      rw [← hnl] at hS7 ⊢
      have HNL := Lib.hid hnl; clear hnl
      go_upto_region 7 with (first | (refine wpList_load_row rfl 30 (.tmp 3) rfl w.heap.size rfl 30 C (0, 0) _ hA' Try.underlying30 rfl iC.out ?_) | (go_at_call 53; go_loud (with_reducible refine (lp _ hSw).mono ?_); rintro e wy ⟨AT9, cT9, rfl, hcT, hnT, hST, hb⟩; replace hS7 := hS7.keep hb; replace bz := bel_via bz hb; clear hb hSw lp hA' hcT hnT))
      obtain ⟨np, hnp⟩ : ∃ nl, nl = PP.length := ⟨_, rfl⟩
      rw [← hnp] at hST ⊢
      have HNP := Lib.hid hnp; clear hnp
      by_cases hcmp : nl < np
      · have hd1 : decide (nl < np) = true := by simp [hcmp]
        have hd2 : (nl : Int) < (np : Int) := by omega
        have hR : Hid (best l b (i + 1) = (i, PP)) := Lib.hid (by rw [HST.out, if_pos (by rw [← HNL.out, ← HNP.out]; exact hcmp)])
        go_wp2_with fail
        exact ⟨⟨i + 1, by simp, by omega, ⟨i, AT9, cT9, PP, rfl, by rw [HNP.out], hR, by rw [← HNP.out]; exact hST⟩, bz⟩, by simp [intOf]; omega⟩
      · have hd1 : decide (nl < np) = false := by simp; omega
        have hd2 : ¬ (nl : Int) < (np : Int) := by omega
        have hR : Hid (best l b (i + 1) = (f, LL)) := Lib.hid (by rw [HST.out, if_neg (by rw [← HNL.out, ← HNP.out]; exact hcmp)])
        go_wp2_with fail
        exact ⟨⟨i + 1, by simp, by omega, ⟨f, A7, c7, LL, rfl, by rw [HNL.out], hR, by rw [← HNL.out]; exact hS7⟩, bz⟩, by simp [intOf]; omega⟩
    · obtain rfl : i = 6 := by omega
      have hd0 : decide (6 < 6) = false := by simp
      have hf : fldP b l = f := by unfold fldP; rw [HB.out]
      have hpos : 0 < LL.length := by rw [HB.out] at h0; exact h0
      have hat : LL[LL.length / 2]? = some (atP b l) := by
        unfold atP
        rw [HB.out]
        simp only
        rw [List.getD_eq_getElem?_getD, List.getElem?_eq_getElem (by omega)]
        rfl
      rw [hf] at HCS
      obtain ⟨AT, hAT⟩ : ∃ AT, AT = atP b l := ⟨_, rfl⟩
      simp only [← hAT] at HCS hat
      have cs := HCS
      clear hAT hf HCS
      obtain ⟨b1, o1, hA7, _, hr1⟩ := hS7.row hpos
      have e0 := hr1 _ AT hat 0 _ rfl
      have e1 := hr1 _ AT hat 1 _ rfl
      simp only [Nat.add_zero] at e0
      subst hA7
      clear hr1 hat
      have hlen : LL.length ≤ 1024 := by
        have h1 : LL = (best l b 6).2 := by rw [HB.out]
        rcases (best_is l b 6).2 with h | h
        · rw [h1, h]; simp
        · rw [h1, h]
          have := rpts_len l b (best l b 6).1 l.length (Nat.le_refl _)
          rw [List.take_length] at this
          have := HS.out.len
          omega
      obtain ⟨nl, hnl⟩ : ∃ nl, nl = LL.length := ⟨_, rfl⟩
      rw [← hnl] at hpos e0 e1 hlen ⊢
      clear hnl hS7 HB
      obtain ⟨K2, hK2⟩ : ∃ K, K = nl / 2 := ⟨_, rfl⟩
      rw [← hK2] at e0 e1
      have hk1 : K2 < nl := by omega
      have hk2 : (K2 : Int) < (nl : Int) := by omega
      have hk3 : decide (K2 < nl) = true := by simp [hk1]
      have hk4 : (0 : Int) ≤ (K2 : Int) := by omega
      have hq1 : (nl : Int) / 2 = (K2 : Int) := by omega
      have hq2 : Int.tdiv (nl : Int) 2 = (K2 : Int) := by rw [Int.tdiv_eq_ediv_of_nonneg (by omega)]; exact hq1
      have hq3 : IntKind.i64.wrap (K2 : Int) = (K2 : Int) := IntWalk.i64_in _ (by omega)
      clear hK2
      have e2 := blkB bw hA
      replace hR1 := blkB bw hR1
      replace hR2 := blkB bw hR2
      have bz := bel_via b0 bw
      have hlt0 : w.heap.size + 2 < wr.heap.size := blk_lt hR2
      go_wp2_with fail
      obtain ⟨w4, hw4⟩ : ∃ w4, w4 = wr := ⟨_, rfl⟩
      subst hw4
      have hC1 : ∀ w', Below w4.heap.size w4 w' → (w'.heap[w.heap.size]? = some (.cells C 30) ∧ w'.cell? ⟨b1, o1 + K2 * 2, none⟩ = some (.int .u64 AT.h) ∧ w'.cell? ⟨b1, o1 + K2 * 2 + 1, none⟩ = some (.int .u64 AT.l)) := fun w' h => ⟨blkB h e2, keepc h e0, keepc h e1⟩
      have HC1 := Lib.hid hC1; clear hC1
      clear LP HS h0
      go_cut [10, 11] from 13 to 41 (fun v10 v11 wx => ∃ P Q, v10 = .pointer (some ⟨P, 0, none⟩) ∧ v11 = .pointer (some ⟨Q, 0, none⟩) ∧ P ≠ Q ∧ w4.heap.size ≤ P ∧ w4.heap.size ≤ Q ∧ wx.heap[P]? = some (.cells LV 30) ∧ wx.heap[Q]? = some (.cells HV 30) ∧ Below w4.heap.size w4 wx)
      case first =>
        have hC1 := HC1.out
        have hz : ∀ w, (zeroValue 30).run Try.prog w = .ok (.agg #[.int .u64 0, .int .u64 0, .int .u64 0, .int .u64 0, .int .u64 0, .int .u64 0, .int .u64 0, .int .u64 0, .int .u64 0, .int .u64 0, .int .u64 0, .int .u64 0, .int .u64 0, .int .u64 0, .int .u64 0, .int .u64 0, .int .u64 0, .int .u64 0, .int .u64 0, .int .u64 0, .int .u64 0, .int .u64 0, .int .u64 0, .int .u64 0]) w := fun w => by kernel_rfl
        clear HC1 e0 e1 e2 hR1 hR2 bz b0 hA hS0 bw HFIN
        refine wp_region_held (S := fun w' => Below w4.heap.size w4 w' ∧ (w'.heap[w.heap.size]? = some (.cells C 30) ∧ w'.cell? ⟨b1, o1 + K2 * 2, none⟩ = some (.int .u64 AT.h) ∧ w'.cell? ⟨b1, o1 + K2 * 2 + 1, none⟩ = some (.int .u64 AT.l))) (by kernel_rfl) ?_
        change wpAnyH _ _ _ _ _ _ _ _ (World.drew _)
        have hS0 := keep0 hC1
        generalize w4.drew = wd at hS0 ⊢
        refine wpAnyH_take (i := 0) (oi := ⟨some 29, _, _, _, _, _⟩) (v := .agg C) rfl (by kernel_rfl) (by kernel_rfl) (by kernel_rfl) (fun _ _ _ h => h) (Or.inl ⟨by rfl, fun W hW => exec_row 30 (.tmp 3) rfl w.heap.size rfl 30 C (0, 0) _ hW.2.1 Try.underlying30 rfl iC.out⟩) hS0 ?_
        refine wpAnyH_take (i := 1) (oi := ⟨some 30, _, _, _, _, _⟩) (v := ?_) rfl (by kernel_rfl) (by kernel_rfl) (by kernel_rfl) (fun _ _ _ h => h) (Or.inl ⟨by rfl, ?_⟩) hS0 ?_
        rotate_left 1
        · intro W hW
          obtain ⟨hW0, hW1, hW2, hW3⟩ := hW
          go_simp
          with_reducible rfl
        refine wpAnyH_take (i := 2) (oi := ⟨some 31, _, _, _, _, _⟩) (v := ?_) rfl (by kernel_rfl) (by kernel_rfl) (by kernel_rfl) (fun _ _ _ h => h) (Or.inl ⟨by rfl, ?_⟩) hS0 ?_
        rotate_left 1
        · intro W hW
          obtain ⟨hW0, hW1, hW2, hW3⟩ := hW
          go_simp
          with_reducible rfl
        refine wpAnyH_take (i := 3) (oi := ⟨some 32, _, _, _, _, _⟩) (v := ?_) rfl (by kernel_rfl) (by kernel_rfl) (by kernel_rfl) (fun _ _ _ h => h) (Or.inl ⟨by rfl, ?_⟩) hS0 ?_
        rotate_left 1
        · intro W hW
          obtain ⟨hW0, hW1, hW2, hW3⟩ := hW
          go_simp
          with_reducible rfl
        refine wpAnyH_take (i := 4) (oi := ⟨some 33, _, _, _, _, _⟩) (v := ?_) rfl (by kernel_rfl) (by kernel_rfl) (by kernel_rfl) (fun _ _ _ h => h) (Or.inl ⟨by rfl, ?_⟩) hS0 ?_
        rotate_left 1
        · intro W hW
          obtain ⟨hW0, hW1, hW2, hW3⟩ := hW
          go_simp
          with_reducible rfl
        refine wpAnyH_take (i := 5) (oi := ⟨some 34, _, _, _, _, _⟩) (v := ?_) rfl (by kernel_rfl) (by kernel_rfl) (by kernel_rfl) (fun _ _ _ h => h) (Or.inl ⟨by rfl, ?_⟩) hS0 ?_
        rotate_left 1
        · intro W hW
          obtain ⟨hW0, hW1, hW2, hW3⟩ := hW
          go_simp
          with_reducible rfl
        refine wpAnyH_take (i := 6) (oi := ⟨some 35, _, _, _, _, _⟩) (v := ?_) rfl (by kernel_rfl) (by kernel_rfl) (by kernel_rfl) (fun _ _ _ h => h) (Or.inl ⟨by rfl, ?_⟩) hS0 ?_
        rotate_left 1
        · intro W hW
          obtain ⟨hW0, hW1, hW2, hW3⟩ := hW
          go_simp
          with_reducible rfl
        refine wpAnyH_take (i := 7) (oi := ⟨some 36, _, _, _, _, _⟩) (v := ?_) rfl (by kernel_rfl) (by kernel_rfl) (by kernel_rfl) (fun _ _ _ h => h) (Or.inl ⟨by rfl, ?_⟩) hS0 ?_
        rotate_left 1
        · intro W hW
          obtain ⟨hW0, hW1, hW2, hW3⟩ := hW
          go_simp
          with_reducible rfl
        simp only [Act.put, List.setIfInBounds_toArray, List.set_cons_succ, List.set_cons_zero]
        refine wpAnyH_ready (rs := [8, 13, 14]) (by kernel_rfl) (by simp) ?_
        refine AllReadyH.cons (o := ⟨some 37, _, _, _, _, _⟩) rfl (fun K hK => ?_) (AllReadyH.cons (o := ⟨some 10, _, _, _, _, _⟩) rfl (fun K hK => ?_) (AllReadyH.cons (o := ⟨some 11, _, _, _, _, _⟩) rfl (fun K hK => ?_) AllReadyH.nil))
        · go_simp
          go_at_call 54
          refine (cs _).mono ?_
          rintro e w20 ⟨rfl, hb20⟩
          have hS20 := keepB hC1 hb20 hS0
          refine hK.out _ _ hS20 (fun _ => ?_)
          clear hK K
          refine wpAnyH_take (i := 9) (oi := ⟨some 28, _, _, _, _, _⟩) (v := ?_) rfl (by kernel_rfl) (by kernel_rfl) (by kernel_rfl) (fun _ _ _ h => h) (Or.inl ⟨by rfl, ?_⟩) hS20 ?_
          rotate_left 1
          · intro W hW
            obtain ⟨hW0, hW1, hW2, hW3⟩ := hW
            go_simp
            with_reducible rfl
          refine wpAnyH_take (i := 10) (oi := ⟨some 38, _, _, _, _, _⟩) (v := ?_) rfl (by kernel_rfl) (by kernel_rfl) (by kernel_rfl) (fun _ _ _ h => h) (Or.inl ⟨by rfl, ?_⟩) hS20 ?_
          rotate_left 1
          · intro W hW
            obtain ⟨hW0, hW1, hW2, hW3⟩ := hW
            go_simp
            with_reducible rfl
          refine wpAnyH_take (i := 11) (oi := ⟨some 39, _, _, _, _, _⟩) (v := ?_) rfl (by kernel_rfl) (by kernel_rfl) (by kernel_rfl) (fun _ _ _ h => h) (Or.inl ⟨by rfl, ?_⟩) hS20 ?_
          rotate_left 1
          · intro W hW
            obtain ⟨hW0, hW1, hW2, hW3⟩ := hW
            go_simp
            with_reducible rfl
          refine wpAnyH_take (i := 12) (oi := ⟨some 40, _, _, _, _, _⟩) (v := ?_) rfl (by kernel_rfl) (by kernel_rfl) (by kernel_rfl) (fun _ _ _ h => h) (Or.inl ⟨by rfl, ?_⟩) hS20 ?_
          rotate_left 1
          · intro W hW
            obtain ⟨hW0, hW1, hW2, hW3⟩ := hW
            go_simp
            with_reducible rfl
          simp only [Act.put, List.setIfInBounds_toArray, List.set_cons_succ, List.set_cons_zero]
          refine wpAnyH_ready (rs := [13, 14]) (by kernel_rfl) (by simp) ?_
          refine AllReadyH.cons (o := ⟨some 10, _, _, _, _, _⟩) rfl (fun K hK => ?_) (AllReadyH.cons (o := ⟨some 11, _, _, _, _, _⟩) rfl (fun K hK => ?_) AllReadyH.nil)
          · refine step_alloc rfl 30 rfl #[.int .u64 0, .int .u64 0, .int .u64 0, .int .u64 0, .int .u64 0, .int .u64 0, .int .u64 0, .int .u64 0, .int .u64 0, .int .u64 0, .int .u64 0, .int .u64 0, .int .u64 0, .int .u64 0, .int .u64 0, .int .u64 0, .int .u64 0, .int .u64 0, .int .u64 0, .int .u64 0, .int .u64 0, .int .u64 0, .int .u64 0, .int .u64 0] hz (fun w21 B0 hV0 hb21 hg21 => ?_)
            have hS21 := keepB hC1 hb21 hS20
            have hBs0 : w4.heap.size ≤ B0 := Nat.le_trans hS20.1.size hg21
            refine hK.out _ _ hS21 (fun _ => ?_)
            clear hK K
            simp only [Act.put, List.setIfInBounds_toArray, List.set_cons_succ, List.set_cons_zero]
            refine wpAnyH_ready (rs := [14]) (by kernel_rfl) (by simp) ?_
            refine AllReadyH.cons (o := ⟨some 11, _, _, _, _, _⟩) rfl (fun K hK => ?_) AllReadyH.nil
            refine step_alloc rfl 30 rfl #[.int .u64 0, .int .u64 0, .int .u64 0, .int .u64 0, .int .u64 0, .int .u64 0, .int .u64 0, .int .u64 0, .int .u64 0, .int .u64 0, .int .u64 0, .int .u64 0, .int .u64 0, .int .u64 0, .int .u64 0, .int .u64 0, .int .u64 0, .int .u64 0, .int .u64 0, .int .u64 0, .int .u64 0, .int .u64 0, .int .u64 0, .int .u64 0] hz (fun w22 B1 hV1 hb22 hg22 => ?_)
            have hne : B0 ≠ B1 := by have := blk_lt hV0; omega
            have hS22 := keepB hC1 hb22 hS21
            have hBs1 : w4.heap.size ≤ B1 := Nat.le_trans hS21.1.size hg22
            replace hV0 := hV_keep hb22 hV0
            refine hK.out _ _ hS22 (fun _ => ?_)
            clear hK K
            simp only [Act.put, List.setIfInBounds_toArray, List.set_cons_succ, List.set_cons_zero]
            refine wpAnyH_ready (rs := [15]) (by kernel_rfl) (by simp) ?_
            refine AllReadyH.cons (o := ⟨none, _, _, _, _, _⟩) rfl (fun K hK => ?_) AllReadyH.nil
            refine step_store_row rfl 30 (.tmp 10) (.tmp 38) rfl B0 LV rfl rfl 30 #[.int .u64 0, .int .u64 0, .int .u64 0, .int .u64 0, .int .u64 0, .int .u64 0, .int .u64 0, .int .u64 0, .int .u64 0, .int .u64 0, .int .u64 0, .int .u64 0, .int .u64 0, .int .u64 0, .int .u64 0, .int .u64 0, .int .u64 0, .int .u64 0, .int .u64 0, .int .u64 0, .int .u64 0, .int .u64 0, .int .u64 0, .int .u64 0] hV0 iL.out zL.out oL.out ?_
            have hSa := keepS hC1 (Below.setRow hS22.1 hBs0 LV)
            have hV1' := (setRow_other (C := LV) (Ne.symm hne)).trans hV1
            have hX0 := blk_setRow hV0 LV
            refine hK.out _ _ hSa (fun _ => ?_)
            clear hK K
            refine wpAnyH_ready (rs := [16]) (by kernel_rfl) (by simp) ?_
            refine AllReadyH.cons (o := ⟨none, _, _, _, _, _⟩) rfl (fun K hK => ?_) AllReadyH.nil
            refine step_store_row rfl 30 (.tmp 11) (.tmp 39) rfl B1 HV rfl rfl 30 #[.int .u64 0, .int .u64 0, .int .u64 0, .int .u64 0, .int .u64 0, .int .u64 0, .int .u64 0, .int .u64 0, .int .u64 0, .int .u64 0, .int .u64 0, .int .u64 0, .int .u64 0, .int .u64 0, .int .u64 0, .int .u64 0, .int .u64 0, .int .u64 0, .int .u64 0, .int .u64 0, .int .u64 0, .int .u64 0, .int .u64 0, .int .u64 0] hV1' iH.out zH.out oH.out ?_
            have hSb := keepS hC1 (Below.setRow hSa.1 hBs1 HV)
            have hX0' := (setRow_other (C := HV) hne).trans hX0
            have hX1 := blk_setRow hV1' HV
            refine hK.out _ _ hSb (fun _ => ?_)
            clear hK K
            refine wpAnyH_take (i := 17) (oi := ⟨some 12, _, _, _, _, _⟩) (v := ?_) rfl (by kernel_rfl) (by kernel_rfl) (by kernel_rfl) (fun _ _ _ h => h) (Or.inl ⟨by rfl, ?_⟩) hSb ?_
            rotate_left 1
            · intro W hW
              obtain ⟨hW0, hW1, hW2, hW3⟩ := hW
              go_simp
              with_reducible rfl
            refine wpAnyH_done (by kernel_rfl) ?_ _
            simp only [Act.put, List.setIfInBounds_toArray, List.set_cons_succ, List.set_cons_zero]
            go_wp2_with fail
            go_meet
            exact ⟨_, _, rfl, rfl, hne, hBs0, hBs1, hX0', hX1, hSb.1⟩
          · refine step_alloc rfl 30 rfl #[.int .u64 0, .int .u64 0, .int .u64 0, .int .u64 0, .int .u64 0, .int .u64 0, .int .u64 0, .int .u64 0, .int .u64 0, .int .u64 0, .int .u64 0, .int .u64 0, .int .u64 0, .int .u64 0, .int .u64 0, .int .u64 0, .int .u64 0, .int .u64 0, .int .u64 0, .int .u64 0, .int .u64 0, .int .u64 0, .int .u64 0, .int .u64 0] hz (fun w23 B1 hV1 hb23 hg23 => ?_)
            have hS23 := keepB hC1 hb23 hS20
            have hBs1 : w4.heap.size ≤ B1 := Nat.le_trans hS20.1.size hg23
            refine hK.out _ _ hS23 (fun _ => ?_)
            clear hK K
            simp only [Act.put, List.setIfInBounds_toArray, List.set_cons_succ, List.set_cons_zero]
            refine wpAnyH_ready (rs := [13]) (by kernel_rfl) (by simp) ?_
            refine AllReadyH.cons (o := ⟨some 10, _, _, _, _, _⟩) rfl (fun K hK => ?_) AllReadyH.nil
            refine step_alloc rfl 30 rfl #[.int .u64 0, .int .u64 0, .int .u64 0, .int .u64 0, .int .u64 0, .int .u64 0, .int .u64 0, .int .u64 0, .int .u64 0, .int .u64 0, .int .u64 0, .int .u64 0, .int .u64 0, .int .u64 0, .int .u64 0, .int .u64 0, .int .u64 0, .int .u64 0, .int .u64 0, .int .u64 0, .int .u64 0, .int .u64 0, .int .u64 0, .int .u64 0] hz (fun w24 B0 hV0 hb24 hg24 => ?_)
            have hne : B0 ≠ B1 := by have := blk_lt hV1; omega
            have hS24 := keepB hC1 hb24 hS23
            have hBs0 : w4.heap.size ≤ B0 := Nat.le_trans hS23.1.size hg24
            replace hV1 := hV_keep hb24 hV1
            refine hK.out _ _ hS24 (fun _ => ?_)
            clear hK K
            simp only [Act.put, List.setIfInBounds_toArray, List.set_cons_succ, List.set_cons_zero]
            refine wpAnyH_ready (rs := [15]) (by kernel_rfl) (by simp) ?_
            refine AllReadyH.cons (o := ⟨none, _, _, _, _, _⟩) rfl (fun K hK => ?_) AllReadyH.nil
            refine step_store_row rfl 30 (.tmp 10) (.tmp 38) rfl B0 LV rfl rfl 30 #[.int .u64 0, .int .u64 0, .int .u64 0, .int .u64 0, .int .u64 0, .int .u64 0, .int .u64 0, .int .u64 0, .int .u64 0, .int .u64 0, .int .u64 0, .int .u64 0, .int .u64 0, .int .u64 0, .int .u64 0, .int .u64 0, .int .u64 0, .int .u64 0, .int .u64 0, .int .u64 0, .int .u64 0, .int .u64 0, .int .u64 0, .int .u64 0] hV0 iL.out zL.out oL.out ?_
            have hSa := keepS hC1 (Below.setRow hS24.1 hBs0 LV)
            have hV1' := (setRow_other (C := LV) (Ne.symm hne)).trans hV1
            have hX0 := blk_setRow hV0 LV
            refine hK.out _ _ hSa (fun _ => ?_)
            clear hK K
            refine wpAnyH_ready (rs := [16]) (by kernel_rfl) (by simp) ?_
            refine AllReadyH.cons (o := ⟨none, _, _, _, _, _⟩) rfl (fun K hK => ?_) AllReadyH.nil
            refine step_store_row rfl 30 (.tmp 11) (.tmp 39) rfl B1 HV rfl rfl 30 #[.int .u64 0, .int .u64 0, .int .u64 0, .int .u64 0, .int .u64 0, .int .u64 0, .int .u64 0, .int .u64 0, .int .u64 0, .int .u64 0, .int .u64 0, .int .u64 0, .int .u64 0, .int .u64 0, .int .u64 0, .int .u64 0, .int .u64 0, .int .u64 0, .int .u64 0, .int .u64 0, .int .u64 0, .int .u64 0, .int .u64 0, .int .u64 0] hV1' iH.out zH.out oH.out ?_
            have hSb := keepS hC1 (Below.setRow hSa.1 hBs1 HV)
            have hX0' := (setRow_other (C := HV) hne).trans hX0
            have hX1 := blk_setRow hV1' HV
            refine hK.out _ _ hSb (fun _ => ?_)
            clear hK K
            refine wpAnyH_take (i := 17) (oi := ⟨some 12, _, _, _, _, _⟩) (v := ?_) rfl (by kernel_rfl) (by kernel_rfl) (by kernel_rfl) (fun _ _ _ h => h) (Or.inl ⟨by rfl, ?_⟩) hSb ?_
            rotate_left 1
            · intro W hW
              obtain ⟨hW0, hW1, hW2, hW3⟩ := hW
              go_simp
              with_reducible rfl
            refine wpAnyH_done (by kernel_rfl) ?_ _
            simp only [Act.put, List.setIfInBounds_toArray, List.set_cons_succ, List.set_cons_zero]
            go_wp2_with fail
            go_meet
            exact ⟨_, _, rfl, rfl, hne, hBs0, hBs1, hX0', hX1, hSb.1⟩
        · refine step_alloc rfl 30 rfl #[.int .u64 0, .int .u64 0, .int .u64 0, .int .u64 0, .int .u64 0, .int .u64 0, .int .u64 0, .int .u64 0, .int .u64 0, .int .u64 0, .int .u64 0, .int .u64 0, .int .u64 0, .int .u64 0, .int .u64 0, .int .u64 0, .int .u64 0, .int .u64 0, .int .u64 0, .int .u64 0, .int .u64 0, .int .u64 0, .int .u64 0, .int .u64 0] hz (fun w25 B0 hV0 hb25 hg25 => ?_)
          have hS25 := keepB hC1 hb25 hS0
          have hBs0 : w4.heap.size ≤ B0 := Nat.le_trans hS0.1.size hg25
          refine hK.out _ _ hS25 (fun _ => ?_)
          clear hK K
          simp only [Act.put, List.setIfInBounds_toArray, List.set_cons_succ, List.set_cons_zero]
          refine wpAnyH_ready (rs := [8, 14]) (by kernel_rfl) (by simp) ?_
          refine AllReadyH.cons (o := ⟨some 37, _, _, _, _, _⟩) rfl (fun K hK => ?_) (AllReadyH.cons (o := ⟨some 11, _, _, _, _, _⟩) rfl (fun K hK => ?_) AllReadyH.nil)
          · go_simp
            go_at_call 54
            refine (cs _).mono ?_
            rintro e w26 ⟨rfl, hb26⟩
            have hS26 := keepB hC1 hb26 hS25
            have hV0 := hV_keep hb26 hV0
            refine hK.out _ _ hS26 (fun _ => ?_)
            clear hK K
            refine wpAnyH_take (i := 9) (oi := ⟨some 28, _, _, _, _, _⟩) (v := ?_) rfl (by kernel_rfl) (by kernel_rfl) (by kernel_rfl) (fun _ _ _ h => h) (Or.inl ⟨by rfl, ?_⟩) hS26 ?_
            rotate_left 1
            · intro W hW
              obtain ⟨hW0, hW1, hW2, hW3⟩ := hW
              go_simp
              with_reducible rfl
            refine wpAnyH_take (i := 10) (oi := ⟨some 38, _, _, _, _, _⟩) (v := ?_) rfl (by kernel_rfl) (by kernel_rfl) (by kernel_rfl) (fun _ _ _ h => h) (Or.inl ⟨by rfl, ?_⟩) hS26 ?_
            rotate_left 1
            · intro W hW
              obtain ⟨hW0, hW1, hW2, hW3⟩ := hW
              go_simp
              with_reducible rfl
            refine wpAnyH_take (i := 11) (oi := ⟨some 39, _, _, _, _, _⟩) (v := ?_) rfl (by kernel_rfl) (by kernel_rfl) (by kernel_rfl) (fun _ _ _ h => h) (Or.inl ⟨by rfl, ?_⟩) hS26 ?_
            rotate_left 1
            · intro W hW
              obtain ⟨hW0, hW1, hW2, hW3⟩ := hW
              go_simp
              with_reducible rfl
            refine wpAnyH_take (i := 12) (oi := ⟨some 40, _, _, _, _, _⟩) (v := ?_) rfl (by kernel_rfl) (by kernel_rfl) (by kernel_rfl) (fun _ _ _ h => h) (Or.inl ⟨by rfl, ?_⟩) hS26 ?_
            rotate_left 1
            · intro W hW
              obtain ⟨hW0, hW1, hW2, hW3⟩ := hW
              go_simp
              with_reducible rfl
            simp only [Act.put, List.setIfInBounds_toArray, List.set_cons_succ, List.set_cons_zero]
            refine wpAnyH_ready (rs := [14]) (by kernel_rfl) (by simp) ?_
            refine AllReadyH.cons (o := ⟨some 11, _, _, _, _, _⟩) rfl (fun K hK => ?_) AllReadyH.nil
            refine step_alloc rfl 30 rfl #[.int .u64 0, .int .u64 0, .int .u64 0, .int .u64 0, .int .u64 0, .int .u64 0, .int .u64 0, .int .u64 0, .int .u64 0, .int .u64 0, .int .u64 0, .int .u64 0, .int .u64 0, .int .u64 0, .int .u64 0, .int .u64 0, .int .u64 0, .int .u64 0, .int .u64 0, .int .u64 0, .int .u64 0, .int .u64 0, .int .u64 0, .int .u64 0] hz (fun w27 B1 hV1 hb27 hg27 => ?_)
            have hne : B0 ≠ B1 := by have := blk_lt hV0; omega
            have hS27 := keepB hC1 hb27 hS26
            have hBs1 : w4.heap.size ≤ B1 := Nat.le_trans hS26.1.size hg27
            replace hV0 := hV_keep hb27 hV0
            refine hK.out _ _ hS27 (fun _ => ?_)
            clear hK K
            simp only [Act.put, List.setIfInBounds_toArray, List.set_cons_succ, List.set_cons_zero]
            refine wpAnyH_ready (rs := [15]) (by kernel_rfl) (by simp) ?_
            refine AllReadyH.cons (o := ⟨none, _, _, _, _, _⟩) rfl (fun K hK => ?_) AllReadyH.nil
            refine step_store_row rfl 30 (.tmp 10) (.tmp 38) rfl B0 LV rfl rfl 30 #[.int .u64 0, .int .u64 0, .int .u64 0, .int .u64 0, .int .u64 0, .int .u64 0, .int .u64 0, .int .u64 0, .int .u64 0, .int .u64 0, .int .u64 0, .int .u64 0, .int .u64 0, .int .u64 0, .int .u64 0, .int .u64 0, .int .u64 0, .int .u64 0, .int .u64 0, .int .u64 0, .int .u64 0, .int .u64 0, .int .u64 0, .int .u64 0] hV0 iL.out zL.out oL.out ?_
            have hSa := keepS hC1 (Below.setRow hS27.1 hBs0 LV)
            have hV1' := (setRow_other (C := LV) (Ne.symm hne)).trans hV1
            have hX0 := blk_setRow hV0 LV
            refine hK.out _ _ hSa (fun _ => ?_)
            clear hK K
            refine wpAnyH_ready (rs := [16]) (by kernel_rfl) (by simp) ?_
            refine AllReadyH.cons (o := ⟨none, _, _, _, _, _⟩) rfl (fun K hK => ?_) AllReadyH.nil
            refine step_store_row rfl 30 (.tmp 11) (.tmp 39) rfl B1 HV rfl rfl 30 #[.int .u64 0, .int .u64 0, .int .u64 0, .int .u64 0, .int .u64 0, .int .u64 0, .int .u64 0, .int .u64 0, .int .u64 0, .int .u64 0, .int .u64 0, .int .u64 0, .int .u64 0, .int .u64 0, .int .u64 0, .int .u64 0, .int .u64 0, .int .u64 0, .int .u64 0, .int .u64 0, .int .u64 0, .int .u64 0, .int .u64 0, .int .u64 0] hV1' iH.out zH.out oH.out ?_
            have hSb := keepS hC1 (Below.setRow hSa.1 hBs1 HV)
            have hX0' := (setRow_other (C := HV) hne).trans hX0
            have hX1 := blk_setRow hV1' HV
            refine hK.out _ _ hSb (fun _ => ?_)
            clear hK K
            refine wpAnyH_take (i := 17) (oi := ⟨some 12, _, _, _, _, _⟩) (v := ?_) rfl (by kernel_rfl) (by kernel_rfl) (by kernel_rfl) (fun _ _ _ h => h) (Or.inl ⟨by rfl, ?_⟩) hSb ?_
            rotate_left 1
            · intro W hW
              obtain ⟨hW0, hW1, hW2, hW3⟩ := hW
              go_simp
              with_reducible rfl
            refine wpAnyH_done (by kernel_rfl) ?_ _
            simp only [Act.put, List.setIfInBounds_toArray, List.set_cons_succ, List.set_cons_zero]
            go_wp2_with fail
            go_meet
            exact ⟨_, _, rfl, rfl, hne, hBs0, hBs1, hX0', hX1, hSb.1⟩
          · refine step_alloc rfl 30 rfl #[.int .u64 0, .int .u64 0, .int .u64 0, .int .u64 0, .int .u64 0, .int .u64 0, .int .u64 0, .int .u64 0, .int .u64 0, .int .u64 0, .int .u64 0, .int .u64 0, .int .u64 0, .int .u64 0, .int .u64 0, .int .u64 0, .int .u64 0, .int .u64 0, .int .u64 0, .int .u64 0, .int .u64 0, .int .u64 0, .int .u64 0, .int .u64 0] hz (fun w28 B1 hV1 hb28 hg28 => ?_)
            have hne : B0 ≠ B1 := by have := blk_lt hV0; omega
            have hS28 := keepB hC1 hb28 hS25
            have hBs1 : w4.heap.size ≤ B1 := Nat.le_trans hS25.1.size hg28
            replace hV0 := hV_keep hb28 hV0
            refine hK.out _ _ hS28 (fun _ => ?_)
            clear hK K
            simp only [Act.put, List.setIfInBounds_toArray, List.set_cons_succ, List.set_cons_zero]
            refine wpAnyH_ready (rs := [8]) (by kernel_rfl) (by simp) ?_
            refine AllReadyH.cons (o := ⟨some 37, _, _, _, _, _⟩) rfl (fun K hK => ?_) AllReadyH.nil
            go_simp
            go_at_call 54
            refine (cs _).mono ?_
            rintro e w29 ⟨rfl, hb29⟩
            have hS29 := keepB hC1 hb29 hS28
            have hV0 := hV_keep hb29 hV0
            have hV1 := hV_keep hb29 hV1
            refine hK.out _ _ hS29 (fun _ => ?_)
            clear hK K
            refine wpAnyH_take (i := 9) (oi := ⟨some 28, _, _, _, _, _⟩) (v := ?_) rfl (by kernel_rfl) (by kernel_rfl) (by kernel_rfl) (fun _ _ _ h => h) (Or.inl ⟨by rfl, ?_⟩) hS29 ?_
            rotate_left 1
            · intro W hW
              obtain ⟨hW0, hW1, hW2, hW3⟩ := hW
              go_simp
              with_reducible rfl
            refine wpAnyH_take (i := 10) (oi := ⟨some 38, _, _, _, _, _⟩) (v := ?_) rfl (by kernel_rfl) (by kernel_rfl) (by kernel_rfl) (fun _ _ _ h => h) (Or.inl ⟨by rfl, ?_⟩) hS29 ?_
            rotate_left 1
            · intro W hW
              obtain ⟨hW0, hW1, hW2, hW3⟩ := hW
              go_simp
              with_reducible rfl
            refine wpAnyH_take (i := 11) (oi := ⟨some 39, _, _, _, _, _⟩) (v := ?_) rfl (by kernel_rfl) (by kernel_rfl) (by kernel_rfl) (fun _ _ _ h => h) (Or.inl ⟨by rfl, ?_⟩) hS29 ?_
            rotate_left 1
            · intro W hW
              obtain ⟨hW0, hW1, hW2, hW3⟩ := hW
              go_simp
              with_reducible rfl
            refine wpAnyH_take (i := 12) (oi := ⟨some 40, _, _, _, _, _⟩) (v := ?_) rfl (by kernel_rfl) (by kernel_rfl) (by kernel_rfl) (fun _ _ _ h => h) (Or.inl ⟨by rfl, ?_⟩) hS29 ?_
            rotate_left 1
            · intro W hW
              obtain ⟨hW0, hW1, hW2, hW3⟩ := hW
              go_simp
              with_reducible rfl
            simp only [Act.put, List.setIfInBounds_toArray, List.set_cons_succ, List.set_cons_zero]
            refine wpAnyH_ready (rs := [15]) (by kernel_rfl) (by simp) ?_
            refine AllReadyH.cons (o := ⟨none, _, _, _, _, _⟩) rfl (fun K hK => ?_) AllReadyH.nil
            refine step_store_row rfl 30 (.tmp 10) (.tmp 38) rfl B0 LV rfl rfl 30 #[.int .u64 0, .int .u64 0, .int .u64 0, .int .u64 0, .int .u64 0, .int .u64 0, .int .u64 0, .int .u64 0, .int .u64 0, .int .u64 0, .int .u64 0, .int .u64 0, .int .u64 0, .int .u64 0, .int .u64 0, .int .u64 0, .int .u64 0, .int .u64 0, .int .u64 0, .int .u64 0, .int .u64 0, .int .u64 0, .int .u64 0, .int .u64 0] hV0 iL.out zL.out oL.out ?_
            have hSa := keepS hC1 (Below.setRow hS29.1 hBs0 LV)
            have hV1' := (setRow_other (C := LV) (Ne.symm hne)).trans hV1
            have hX0 := blk_setRow hV0 LV
            refine hK.out _ _ hSa (fun _ => ?_)
            clear hK K
            refine wpAnyH_ready (rs := [16]) (by kernel_rfl) (by simp) ?_
            refine AllReadyH.cons (o := ⟨none, _, _, _, _, _⟩) rfl (fun K hK => ?_) AllReadyH.nil
            refine step_store_row rfl 30 (.tmp 11) (.tmp 39) rfl B1 HV rfl rfl 30 #[.int .u64 0, .int .u64 0, .int .u64 0, .int .u64 0, .int .u64 0, .int .u64 0, .int .u64 0, .int .u64 0, .int .u64 0, .int .u64 0, .int .u64 0, .int .u64 0, .int .u64 0, .int .u64 0, .int .u64 0, .int .u64 0, .int .u64 0, .int .u64 0, .int .u64 0, .int .u64 0, .int .u64 0, .int .u64 0, .int .u64 0, .int .u64 0] hV1' iH.out zH.out oH.out ?_
            have hSb := keepS hC1 (Below.setRow hSa.1 hBs1 HV)
            have hX0' := (setRow_other (C := HV) hne).trans hX0
            have hX1 := blk_setRow hV1' HV
            refine hK.out _ _ hSb (fun _ => ?_)
            clear hK K
            refine wpAnyH_take (i := 17) (oi := ⟨some 12, _, _, _, _, _⟩) (v := ?_) rfl (by kernel_rfl) (by kernel_rfl) (by kernel_rfl) (fun _ _ _ h => h) (Or.inl ⟨by rfl, ?_⟩) hSb ?_
            rotate_left 1
            · intro W hW
              obtain ⟨hW0, hW1, hW2, hW3⟩ := hW
              go_simp
              with_reducible rfl
            refine wpAnyH_done (by kernel_rfl) ?_ _
            simp only [Act.put, List.setIfInBounds_toArray, List.set_cons_succ, List.set_cons_zero]
            go_wp2_with fail
            go_meet
            exact ⟨_, _, rfl, rfl, hne, hBs0, hBs1, hX0', hX1, hSb.1⟩
        · refine step_alloc rfl 30 rfl #[.int .u64 0, .int .u64 0, .int .u64 0, .int .u64 0, .int .u64 0, .int .u64 0, .int .u64 0, .int .u64 0, .int .u64 0, .int .u64 0, .int .u64 0, .int .u64 0, .int .u64 0, .int .u64 0, .int .u64 0, .int .u64 0, .int .u64 0, .int .u64 0, .int .u64 0, .int .u64 0, .int .u64 0, .int .u64 0, .int .u64 0, .int .u64 0] hz (fun w30 B1 hV1 hb30 hg30 => ?_)
          have hS30 := keepB hC1 hb30 hS0
          have hBs1 : w4.heap.size ≤ B1 := Nat.le_trans hS0.1.size hg30
          refine hK.out _ _ hS30 (fun _ => ?_)
          clear hK K
          simp only [Act.put, List.setIfInBounds_toArray, List.set_cons_succ, List.set_cons_zero]
          refine wpAnyH_ready (rs := [8, 13]) (by kernel_rfl) (by simp) ?_
          refine AllReadyH.cons (o := ⟨some 37, _, _, _, _, _⟩) rfl (fun K hK => ?_) (AllReadyH.cons (o := ⟨some 10, _, _, _, _, _⟩) rfl (fun K hK => ?_) AllReadyH.nil)
          · go_simp
            go_at_call 54
            refine (cs _).mono ?_
            rintro e w31 ⟨rfl, hb31⟩
            have hS31 := keepB hC1 hb31 hS30
            have hV1 := hV_keep hb31 hV1
            refine hK.out _ _ hS31 (fun _ => ?_)
            clear hK K
            refine wpAnyH_take (i := 9) (oi := ⟨some 28, _, _, _, _, _⟩) (v := ?_) rfl (by kernel_rfl) (by kernel_rfl) (by kernel_rfl) (fun _ _ _ h => h) (Or.inl ⟨by rfl, ?_⟩) hS31 ?_
            rotate_left 1
            · intro W hW
              obtain ⟨hW0, hW1, hW2, hW3⟩ := hW
              go_simp
              with_reducible rfl
            refine wpAnyH_take (i := 10) (oi := ⟨some 38, _, _, _, _, _⟩) (v := ?_) rfl (by kernel_rfl) (by kernel_rfl) (by kernel_rfl) (fun _ _ _ h => h) (Or.inl ⟨by rfl, ?_⟩) hS31 ?_
            rotate_left 1
            · intro W hW
              obtain ⟨hW0, hW1, hW2, hW3⟩ := hW
              go_simp
              with_reducible rfl
            refine wpAnyH_take (i := 11) (oi := ⟨some 39, _, _, _, _, _⟩) (v := ?_) rfl (by kernel_rfl) (by kernel_rfl) (by kernel_rfl) (fun _ _ _ h => h) (Or.inl ⟨by rfl, ?_⟩) hS31 ?_
            rotate_left 1
            · intro W hW
              obtain ⟨hW0, hW1, hW2, hW3⟩ := hW
              go_simp
              with_reducible rfl
            refine wpAnyH_take (i := 12) (oi := ⟨some 40, _, _, _, _, _⟩) (v := ?_) rfl (by kernel_rfl) (by kernel_rfl) (by kernel_rfl) (fun _ _ _ h => h) (Or.inl ⟨by rfl, ?_⟩) hS31 ?_
            rotate_left 1
            · intro W hW
              obtain ⟨hW0, hW1, hW2, hW3⟩ := hW
              go_simp
              with_reducible rfl
            simp only [Act.put, List.setIfInBounds_toArray, List.set_cons_succ, List.set_cons_zero]
            refine wpAnyH_ready (rs := [13]) (by kernel_rfl) (by simp) ?_
            refine AllReadyH.cons (o := ⟨some 10, _, _, _, _, _⟩) rfl (fun K hK => ?_) AllReadyH.nil
            refine step_alloc rfl 30 rfl #[.int .u64 0, .int .u64 0, .int .u64 0, .int .u64 0, .int .u64 0, .int .u64 0, .int .u64 0, .int .u64 0, .int .u64 0, .int .u64 0, .int .u64 0, .int .u64 0, .int .u64 0, .int .u64 0, .int .u64 0, .int .u64 0, .int .u64 0, .int .u64 0, .int .u64 0, .int .u64 0, .int .u64 0, .int .u64 0, .int .u64 0, .int .u64 0] hz (fun w32 B0 hV0 hb32 hg32 => ?_)
            have hne : B0 ≠ B1 := by have := blk_lt hV1; omega
            have hS32 := keepB hC1 hb32 hS31
            have hBs0 : w4.heap.size ≤ B0 := Nat.le_trans hS31.1.size hg32
            replace hV1 := hV_keep hb32 hV1
            refine hK.out _ _ hS32 (fun _ => ?_)
            clear hK K
            simp only [Act.put, List.setIfInBounds_toArray, List.set_cons_succ, List.set_cons_zero]
            refine wpAnyH_ready (rs := [15]) (by kernel_rfl) (by simp) ?_
            refine AllReadyH.cons (o := ⟨none, _, _, _, _, _⟩) rfl (fun K hK => ?_) AllReadyH.nil
            refine step_store_row rfl 30 (.tmp 10) (.tmp 38) rfl B0 LV rfl rfl 30 #[.int .u64 0, .int .u64 0, .int .u64 0, .int .u64 0, .int .u64 0, .int .u64 0, .int .u64 0, .int .u64 0, .int .u64 0, .int .u64 0, .int .u64 0, .int .u64 0, .int .u64 0, .int .u64 0, .int .u64 0, .int .u64 0, .int .u64 0, .int .u64 0, .int .u64 0, .int .u64 0, .int .u64 0, .int .u64 0, .int .u64 0, .int .u64 0] hV0 iL.out zL.out oL.out ?_
            have hSa := keepS hC1 (Below.setRow hS32.1 hBs0 LV)
            have hV1' := (setRow_other (C := LV) (Ne.symm hne)).trans hV1
            have hX0 := blk_setRow hV0 LV
            refine hK.out _ _ hSa (fun _ => ?_)
            clear hK K
            refine wpAnyH_ready (rs := [16]) (by kernel_rfl) (by simp) ?_
            refine AllReadyH.cons (o := ⟨none, _, _, _, _, _⟩) rfl (fun K hK => ?_) AllReadyH.nil
            refine step_store_row rfl 30 (.tmp 11) (.tmp 39) rfl B1 HV rfl rfl 30 #[.int .u64 0, .int .u64 0, .int .u64 0, .int .u64 0, .int .u64 0, .int .u64 0, .int .u64 0, .int .u64 0, .int .u64 0, .int .u64 0, .int .u64 0, .int .u64 0, .int .u64 0, .int .u64 0, .int .u64 0, .int .u64 0, .int .u64 0, .int .u64 0, .int .u64 0, .int .u64 0, .int .u64 0, .int .u64 0, .int .u64 0, .int .u64 0] hV1' iH.out zH.out oH.out ?_
            have hSb := keepS hC1 (Below.setRow hSa.1 hBs1 HV)
            have hX0' := (setRow_other (C := HV) hne).trans hX0
            have hX1 := blk_setRow hV1' HV
            refine hK.out _ _ hSb (fun _ => ?_)
            clear hK K
            refine wpAnyH_take (i := 17) (oi := ⟨some 12, _, _, _, _, _⟩) (v := ?_) rfl (by kernel_rfl) (by kernel_rfl) (by kernel_rfl) (fun _ _ _ h => h) (Or.inl ⟨by rfl, ?_⟩) hSb ?_
            rotate_left 1
            · intro W hW
              obtain ⟨hW0, hW1, hW2, hW3⟩ := hW
              go_simp
              with_reducible rfl
            refine wpAnyH_done (by kernel_rfl) ?_ _
            simp only [Act.put, List.setIfInBounds_toArray, List.set_cons_succ, List.set_cons_zero]
            go_wp2_with fail
            go_meet
            exact ⟨_, _, rfl, rfl, hne, hBs0, hBs1, hX0', hX1, hSb.1⟩
          · refine step_alloc rfl 30 rfl #[.int .u64 0, .int .u64 0, .int .u64 0, .int .u64 0, .int .u64 0, .int .u64 0, .int .u64 0, .int .u64 0, .int .u64 0, .int .u64 0, .int .u64 0, .int .u64 0, .int .u64 0, .int .u64 0, .int .u64 0, .int .u64 0, .int .u64 0, .int .u64 0, .int .u64 0, .int .u64 0, .int .u64 0, .int .u64 0, .int .u64 0, .int .u64 0] hz (fun w33 B0 hV0 hb33 hg33 => ?_)
            have hne : B0 ≠ B1 := by have := blk_lt hV1; omega
            have hS33 := keepB hC1 hb33 hS30
            have hBs0 : w4.heap.size ≤ B0 := Nat.le_trans hS30.1.size hg33
            replace hV1 := hV_keep hb33 hV1
            refine hK.out _ _ hS33 (fun _ => ?_)
            clear hK K
            simp only [Act.put, List.setIfInBounds_toArray, List.set_cons_succ, List.set_cons_zero]
            refine wpAnyH_ready (rs := [8]) (by kernel_rfl) (by simp) ?_
            refine AllReadyH.cons (o := ⟨some 37, _, _, _, _, _⟩) rfl (fun K hK => ?_) AllReadyH.nil
            go_simp
            go_at_call 54
            refine (cs _).mono ?_
            rintro e w34 ⟨rfl, hb34⟩
            have hS34 := keepB hC1 hb34 hS33
            have hV1 := hV_keep hb34 hV1
            have hV0 := hV_keep hb34 hV0
            refine hK.out _ _ hS34 (fun _ => ?_)
            clear hK K
            refine wpAnyH_take (i := 9) (oi := ⟨some 28, _, _, _, _, _⟩) (v := ?_) rfl (by kernel_rfl) (by kernel_rfl) (by kernel_rfl) (fun _ _ _ h => h) (Or.inl ⟨by rfl, ?_⟩) hS34 ?_
            rotate_left 1
            · intro W hW
              obtain ⟨hW0, hW1, hW2, hW3⟩ := hW
              go_simp
              with_reducible rfl
            refine wpAnyH_take (i := 10) (oi := ⟨some 38, _, _, _, _, _⟩) (v := ?_) rfl (by kernel_rfl) (by kernel_rfl) (by kernel_rfl) (fun _ _ _ h => h) (Or.inl ⟨by rfl, ?_⟩) hS34 ?_
            rotate_left 1
            · intro W hW
              obtain ⟨hW0, hW1, hW2, hW3⟩ := hW
              go_simp
              with_reducible rfl
            refine wpAnyH_take (i := 11) (oi := ⟨some 39, _, _, _, _, _⟩) (v := ?_) rfl (by kernel_rfl) (by kernel_rfl) (by kernel_rfl) (fun _ _ _ h => h) (Or.inl ⟨by rfl, ?_⟩) hS34 ?_
            rotate_left 1
            · intro W hW
              obtain ⟨hW0, hW1, hW2, hW3⟩ := hW
              go_simp
              with_reducible rfl
            refine wpAnyH_take (i := 12) (oi := ⟨some 40, _, _, _, _, _⟩) (v := ?_) rfl (by kernel_rfl) (by kernel_rfl) (by kernel_rfl) (fun _ _ _ h => h) (Or.inl ⟨by rfl, ?_⟩) hS34 ?_
            rotate_left 1
            · intro W hW
              obtain ⟨hW0, hW1, hW2, hW3⟩ := hW
              go_simp
              with_reducible rfl
            simp only [Act.put, List.setIfInBounds_toArray, List.set_cons_succ, List.set_cons_zero]
            refine wpAnyH_ready (rs := [15]) (by kernel_rfl) (by simp) ?_
            refine AllReadyH.cons (o := ⟨none, _, _, _, _, _⟩) rfl (fun K hK => ?_) AllReadyH.nil
            refine step_store_row rfl 30 (.tmp 10) (.tmp 38) rfl B0 LV rfl rfl 30 #[.int .u64 0, .int .u64 0, .int .u64 0, .int .u64 0, .int .u64 0, .int .u64 0, .int .u64 0, .int .u64 0, .int .u64 0, .int .u64 0, .int .u64 0, .int .u64 0, .int .u64 0, .int .u64 0, .int .u64 0, .int .u64 0, .int .u64 0, .int .u64 0, .int .u64 0, .int .u64 0, .int .u64 0, .int .u64 0, .int .u64 0, .int .u64 0] hV0 iL.out zL.out oL.out ?_
            have hSa := keepS hC1 (Below.setRow hS34.1 hBs0 LV)
            have hV1' := (setRow_other (C := LV) (Ne.symm hne)).trans hV1
            have hX0 := blk_setRow hV0 LV
            refine hK.out _ _ hSa (fun _ => ?_)
            clear hK K
            refine wpAnyH_ready (rs := [16]) (by kernel_rfl) (by simp) ?_
            refine AllReadyH.cons (o := ⟨none, _, _, _, _, _⟩) rfl (fun K hK => ?_) AllReadyH.nil
            refine step_store_row rfl 30 (.tmp 11) (.tmp 39) rfl B1 HV rfl rfl 30 #[.int .u64 0, .int .u64 0, .int .u64 0, .int .u64 0, .int .u64 0, .int .u64 0, .int .u64 0, .int .u64 0, .int .u64 0, .int .u64 0, .int .u64 0, .int .u64 0, .int .u64 0, .int .u64 0, .int .u64 0, .int .u64 0, .int .u64 0, .int .u64 0, .int .u64 0, .int .u64 0, .int .u64 0, .int .u64 0, .int .u64 0, .int .u64 0] hV1' iH.out zH.out oH.out ?_
            have hSb := keepS hC1 (Below.setRow hSa.1 hBs1 HV)
            have hX0' := (setRow_other (C := HV) hne).trans hX0
            have hX1 := blk_setRow hV1' HV
            refine hK.out _ _ hSb (fun _ => ?_)
            clear hK K
            refine wpAnyH_take (i := 17) (oi := ⟨some 12, _, _, _, _, _⟩) (v := ?_) rfl (by kernel_rfl) (by kernel_rfl) (by kernel_rfl) (fun _ _ _ h => h) (Or.inl ⟨by rfl, ?_⟩) hSb ?_
            rotate_left 1
            · intro W hW
              obtain ⟨hW0, hW1, hW2, hW3⟩ := hW
              go_simp
              with_reducible rfl
            refine wpAnyH_done (by kernel_rfl) ?_ _
            simp only [Act.put, List.setIfInBounds_toArray, List.set_cons_succ, List.set_cons_zero]
            go_wp2_with fail
            go_meet
            exact ⟨_, _, rfl, rfl, hne, hBs0, hBs1, hX0', hX1, hSb.1⟩
      case rest =>
        obtain ⟨P, Q, rfl, rfl, hPQ, hP, hQ, G0, G1, hbx⟩ := hcut
        replace hR1 := blkB hbx hR1
        replace hR2 := blkB hbx hR2
        replace bz := bel_via bz hbx
        clear HC1 e0 e1 e2 cs
        go_wp2_with fail
        refine wp_region_held (S := fun w' => w'.heap[P]? = some (.cells LV 30) ∧ w'.heap[Q]? = some (.cells HV 30)) (by kernel_rfl) ?_
        change wpAnyH _ _ _ _ _ _ _ _ (World.drew _)
        have hS0 : wc.drew.heap[P]? = some (.cells LV 30) ∧ wc.drew.heap[Q]? = some (.cells HV 30) := ⟨G0, G1⟩
        have F2 : wc.drew.heap[w.heap.size + 1]? = some (.cells #[.int .u64 0, .int .u64 0, .int .u64 0, .int .u64 0, .int .u64 0, .int .u64 0, .int .u64 0, .int .u64 0, .int .u64 0, .int .u64 0, .int .u64 0, .int .u64 0, .int .u64 0, .int .u64 0, .int .u64 0, .int .u64 0, .int .u64 0, .int .u64 0, .int .u64 0, .int .u64 0, .int .u64 0, .int .u64 0, .int .u64 0, .int .u64 0] 30) := hR1
        have F3 : wc.drew.heap[w.heap.size + 2]? = some (.cells #[.int .u64 0, .int .u64 0, .int .u64 0, .int .u64 0, .int .u64 0, .int .u64 0, .int .u64 0, .int .u64 0, .int .u64 0, .int .u64 0, .int .u64 0, .int .u64 0, .int .u64 0, .int .u64 0, .int .u64 0, .int .u64 0, .int .u64 0, .int .u64 0, .int .u64 0, .int .u64 0, .int .u64 0, .int .u64 0, .int .u64 0, .int .u64 0] 30) := hR2
        have bd : Below w.heap.size w wc.drew := Below.dr bz
        generalize wc.drew = wd at hS0 F2 F3 bd ⊢
        refine wpAnyH_take (i := 0) (oi := ⟨some 41, _, _, _, _, _⟩) (v := .agg LV) rfl (by kernel_rfl) (by kernel_rfl) (by kernel_rfl) (fun _ _ _ h => h) (Or.inl ⟨by rfl, fun W hW => exec_row 30 (.tmp 10) rfl P rfl 30 LV (0, 0) _ hW.1 Try.underlying30 rfl iL.out⟩) hS0 ?_
        refine wpAnyH_take (i := 1) (oi := ⟨some 42, _, _, _, _, _⟩) (v := .agg HV) rfl (by kernel_rfl) (by kernel_rfl) (by kernel_rfl) (fun _ _ _ h => h) (Or.inl ⟨by rfl, fun W hW => exec_row 30 (.tmp 11) rfl Q rfl 30 HV (0, 0) _ hW.2 Try.underlying30 rfl iH.out⟩) hS0 ?_
        simp only [Act.put, List.setIfInBounds_toArray, List.set_cons_succ, List.set_cons_zero]
        refine wpAnyH_ready (rs := [2]) (by kernel_rfl) (by simp) ?_
        refine AllReadyH.cons (o := ⟨none, _, _, _, _, _⟩) rfl (fun K hK => ?_) AllReadyH.nil
        refine step_store_row rfl 30 (.tmp 4) (.tmp 41) rfl (w.heap.size + 1) LV rfl rfl 30 #[.int .u64 0, .int .u64 0, .int .u64 0, .int .u64 0, .int .u64 0, .int .u64 0, .int .u64 0, .int .u64 0, .int .u64 0, .int .u64 0, .int .u64 0, .int .u64 0, .int .u64 0, .int .u64 0, .int .u64 0, .int .u64 0, .int .u64 0, .int .u64 0, .int .u64 0, .int .u64 0, .int .u64 0, .int .u64 0, .int .u64 0, .int .u64 0] F2 iL.out zL.out oL.out ?_
        have F3' : (wd.setRow (w.heap.size + 1) LV).heap[w.heap.size + 2]? = some (.cells #[.int .u64 0, .int .u64 0, .int .u64 0, .int .u64 0, .int .u64 0, .int .u64 0, .int .u64 0, .int .u64 0, .int .u64 0, .int .u64 0, .int .u64 0, .int .u64 0, .int .u64 0, .int .u64 0, .int .u64 0, .int .u64 0, .int .u64 0, .int .u64 0, .int .u64 0, .int .u64 0, .int .u64 0, .int .u64 0, .int .u64 0, .int .u64 0] 30) := by rw [setRow_other (by omega)]; exact F3
        have F2' := blk_setRow F2 LV
        have hS1 : (wd.setRow (w.heap.size + 1) LV).heap[P]? = some (.cells LV 30) ∧ (wd.setRow (w.heap.size + 1) LV).heap[Q]? = some (.cells HV 30) := by rw [setRow_other (by omega), setRow_other (by omega)]; exact hS0
        refine hK.out _ _ hS1 (fun _ => ?_)
        clear hK K
        refine wpAnyH_ready (rs := [3]) (by kernel_rfl) (by simp) ?_
        refine AllReadyH.cons (o := ⟨none, _, _, _, _, _⟩) rfl (fun K hK => ?_) AllReadyH.nil
        refine step_store_row rfl 30 (.tmp 5) (.tmp 42) rfl (w.heap.size + 2) HV rfl rfl 30 #[.int .u64 0, .int .u64 0, .int .u64 0, .int .u64 0, .int .u64 0, .int .u64 0, .int .u64 0, .int .u64 0, .int .u64 0, .int .u64 0, .int .u64 0, .int .u64 0, .int .u64 0, .int .u64 0, .int .u64 0, .int .u64 0, .int .u64 0, .int .u64 0, .int .u64 0, .int .u64 0, .int .u64 0, .int .u64 0, .int .u64 0, .int .u64 0] F3' iH.out zH.out oH.out ?_
        have F2'' : ((wd.setRow (w.heap.size + 1) LV).setRow (w.heap.size + 2) HV).heap[w.heap.size + 1]? = some (.cells LV 30) := by rw [setRow_other (by omega)]; exact F2'
        have F3'' := blk_setRow F3' HV
        have hS2 : ((wd.setRow (w.heap.size + 1) LV).setRow (w.heap.size + 2) HV).heap[P]? = some (.cells LV 30) ∧ ((wd.setRow (w.heap.size + 1) LV).setRow (w.heap.size + 2) HV).heap[Q]? = some (.cells HV 30) := ⟨(setRow_other (by omega) _).trans hS1.1, (setRow_other (by omega) _).trans hS1.2⟩
        refine hK.out _ _ hS2 (fun _ => ?_)
        clear hK K
        refine wpAnyH_done (by kernel_rfl) ?_ _
        simp only [Act.put, List.setIfInBounds_toArray, List.set_cons_succ, List.set_cons_zero]
        go_wp2_with fail
        rw [HFIN.out]
        refine bodyPost_ret_by (res_rows2 Try.results44 _ _ (w.heap.size + 1) (w.heap.size + 2) 30 30 LV HV _ _ rfl F2'' Try.underlying30 iL.out rfl F3'' Try.underlying30 iH.out) rfl ⟨rfl, Below.setRow (Below.setRow bd (by omega) _) (by omega) _⟩
end Go.Proofs.Ytomennaekjklbaa
