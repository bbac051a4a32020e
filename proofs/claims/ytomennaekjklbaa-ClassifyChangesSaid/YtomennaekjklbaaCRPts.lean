/- The document's Points: the walk; by-name template (gen_crpts2.py). -/
import Derived.Test.YtomennaekjklbaaCRPtA
namespace Go.Proofs.Ytomennaekjklbaa
open Go.RowKit Go.Lib Go.Sort
set_option linter.unusedVariables false
set_option linter.unusedSimpArgs false

set_option maxRecDepth 100000 in
set_option maxHeartbeats 8000000 in
theorem rpts_any (A : Option Addr) (n c : Nat) (l : List EN) (b : Nat → R4) (k : Nat) (hk : k < 6) (hn : n ≤ 512) (hw : ∀ e ∈ l, WB e.bx) (w : World) (hS : Sl w 25 enc25 A n l) : Calls Try.prog 25 #[.slice A n c, .agg (bxc b), .int .i64 k] w (PtsPost w (rptsL l b k)) := by
  have hlen := hS.len
  obtain ⟨M, hM⟩ : ∃ M, M = PtsPost w (rptsL l b k) := ⟨_, rfl⟩
  rw [← hM]
  have HM := Lib.hid hM; clear hM
  have iC := inf29 b
  obtain ⟨C, hC⟩ : ∃ C, C = bxc b := ⟨_, rfl⟩
  rw [← hC] at iC
  rw [← hC]
  have iC := Lib.hid iC
  have HC := Lib.hid hC; clear hC
  have hk0 : (0 : Int) ≤ (k : Int) := by omega
  have hk1 : (k : Int) < 6 := by omega
  have hd : decide ((k : Int) < 0) = false := by simp
  have hd2 : decide ((6 : Int) ≤ (k : Int)) = false := by simp; omega
  obtain ⟨y0, y1, y2, y3⟩ := BoxAt.of (w := w.alloc (.cells C 30)) (b := b) (t := 30) (by rw [← HC.out]; exact heap_alloc_new w _) k hk
  have Y0 := keepc (Below.al (Below.refl _ _) (.cells #[] 25)) y0
  have Y1 := keepc (Below.al (Below.refl _ _) (.cells #[] 25)) y1
  have Y2 := keepc (Below.al (Below.refl _ _) (.cells #[] 25)) y2
  have Y3 := keepc (Below.al (Below.refl _ _) (.cells #[] 25)) y3
  clear y0 y1 y2 y3
  have HLEN := Lib.hid hlen; clear hlen
  go_enter Try.func25, Try.ntmps25
  go_wp2
  obtain ⟨w0, hw0⟩ : ∃ w0, w0 = World.alloc ((w.alloc (.cells C 30)).alloc (.cells #[] 25)) (.cells #[.int .u64 (b k).fh, .int .u64 (b k).fl, .int .u64 (b k).th, .int .u64 (b k).tl] 27) := ⟨_, rfl⟩
  obtain ⟨A0, A1, A2, b0⟩ := bx3 w (.cells C 30) (.cells #[] 25) (.cells #[.int .u64 (b k).fh, .int .u64 (b k).fl, .int .u64 (b k).th, .int .u64 (b k).tl] 27)
  rw [← hw0] at A0 A1 A2 b0 ⊢
  clear hw0 Y0 Y1 Y2 Y3 A1
  have hS0 := hS.keep b0
  clear hS
  go_loopw [7, 9] (fun v7 v9 wr => ∃ i : Nat, v9 = .int .i64 i ∧ i ≤ n ∧ (∃ A7 c7 LL, v7 = .slice A7 LL.length c7 ∧ Hid (LL = rptsL (l.take i) b k) ∧ LL.length ≤ c7 ∧ (A7 = none → c7 = 0) ∧ Sl wr 2 p2c A7 LL.length LL) ∧ Below w0.heap.size w0 wr) (fun _ v9 _ => n - (intOf v9).toNat)
  case atStart => exact ⟨0, rfl, by omega, ⟨some ⟨w.heap.size + 1, 0, none⟩, 0, [], rfl, Lib.hid (by simp [rptsL]), Nat.le_refl _, (fun h => by cases h), ⟨rfl, by simp, fun h => absurd h (Nat.lt_irrefl _)⟩⟩, Below.refl _ _⟩
  case round =>
    obtain ⟨i, rfl, hi, ⟨A7, c7, LL, rfl, HLL, hc7, hA7, hS7⟩, bw⟩ := hrel
    have hl7 : LL.length ≤ 1024 := by rw [HLL.out]; have := rpts_len l b k i (by rw [HLEN.out]; exact hi); omega
    have hn7 : LL.length ≤ 65536 := by omega
    by_cases hlt : i < n
    · have hml : i < l.length := by rw [HLEN.out]; exact hlt
      obtain ⟨x, hx⟩ : ∃ x, l[i]? = some x := ⟨_, List.getElem?_eq_getElem hml⟩
      obtain ⟨b', off, hA, hbl, hrow⟩ := hS0.row (by omega)
      have hcell := en_cells hrow hx
      have hwx := hw x (List.mem_of_getElem? hx)
      have hstep := rpts_step (b := b) (k := k) hx
      rw [← HLL.out] at hstep
      have HST := Lib.hid hstep; clear hstep hx
      have hlti : (i : Int) < (n : Int) := by omega
      have hdn : decide (i < n) = true := by simp [hlt]
      have iE := inf29 x.bx
      have cm := fun W : World => rmeetBox_any x.bx b W
      have kM := inf29 (mbV x.bx b)
      have oM := bx_one (mbV x.bx b)
      have zM : (#[.int .u64 0, .int .u64 0, .int .u64 0, .int .u64 0, .int .u64 0, .int .u64 0, .int .u64 0, .int .u64 0, .int .u64 0, .int .u64 0, .int .u64 0, .int .u64 0, .int .u64 0, .int .u64 0, .int .u64 0, .int .u64 0, .int .u64 0, .int .u64 0, .int .u64 0, .int .u64 0, .int .u64 0, .int .u64 0, .int .u64 0, .int .u64 0] : Array Value).size = (bxc (mbV x.bx b)).size := rfl
      generalize bxc (mbV x.bx b) = MV at *
      obtain ⟨EB, hEB⟩ : ∃ EB, EB = bxc x.bx := ⟨_, rfl⟩
      rw [← hEB] at cm iE hcell
      rw [← HC.out] at cm
      have HEB := Lib.hid hEB; clear hEB
      have iE := Lib.hid iE
      have kM := Lib.hid kM
      have oM := Lib.hid oM
      have zM := Lib.hid zM
      generalize hO : mbO x.bx b = O at cm
      have HO := Lib.hid hO; clear hO
      have e0 : ∀ j v, EB.toList[j]? = some v → wr.cell? ((⟨b', off + i * 25, none⟩ : Addr).add j) = some v := fun j v hj => keepc bw (hcell j v hj)
      have e1 := blkB bw A0
      have e2 := blkB bw A2
      subst hA
      clear hrow hcell
      have e0 := Lib.hid e0
      go_wp2_with fail
      obtain ⟨w4, hw4⟩ : ∃ w4, w4 = wr := ⟨_, rfl⟩
      subst hw4
      have hC1 : ∀ w', Below w4.heap.size w4 w' → ((∀ j v, EB.toList[j]? = some v → w'.cell? ((⟨b', off + i * 25, none⟩ : Addr).add j) = some v) ∧ w'.heap[w.heap.size]? = some (.cells C 30)) := fun w' h => ⟨fun j v hj => keepc h (e0.out j v hj), blkB h e1⟩
      have HC1 := Lib.hid hC1; clear hC1
      go_cut [11] from 27 to 90 (fun v11 wx => v11 = .bool O ∧ Below w4.heap.size w4 wx)
      case first =>
        have hC1 := HC1.out
        have hz : ∀ w, (zeroValue 30).run Try.prog w = .ok (.agg #[.int .u64 0, .int .u64 0, .int .u64 0, .int .u64 0, .int .u64 0, .int .u64 0, .int .u64 0, .int .u64 0, .int .u64 0, .int .u64 0, .int .u64 0, .int .u64 0, .int .u64 0, .int .u64 0, .int .u64 0, .int .u64 0, .int .u64 0, .int .u64 0, .int .u64 0, .int .u64 0, .int .u64 0, .int .u64 0, .int .u64 0, .int .u64 0]) w := fun w => by kernel_rfl
        refine wp_region_held (S := fun w' => Below w4.heap.size w4 w' ∧ ((∀ j v, EB.toList[j]? = some v → w'.cell? ((⟨b', off + i * 25, none⟩ : Addr).add j) = some v) ∧ w'.heap[w.heap.size]? = some (.cells C 30))) (by kernel_rfl) ?_
        change wpAnyH _ _ _ _ _ _ _ _ (World.drew _)
        have hS0 := keep0 hC1
        generalize w4.drew = wd at hS0 ⊢
        refine wpAnyH_take (i := 0) (oi := ⟨some 34, _, _, _, _, _⟩) (v := ?_) rfl (by kernel_rfl) (by kernel_rfl) (by kernel_rfl) (fun _ _ _ h => h) (Or.inl ⟨by rfl, ?_⟩) hS0 ?_
        rotate_left 1
        · intro W hW
          go_simp
          with_reducible rfl
        refine wpAnyH_take (i := 1) (oi := ⟨some 35, _, _, _, _, _⟩) (v := ?_) rfl (by kernel_rfl) (by kernel_rfl) (by kernel_rfl) (fun _ _ _ h => h) (Or.inl ⟨by rfl, ?_⟩) hS0 ?_
        rotate_left 1
        · intro W hW
          go_simp
          with_reducible rfl
        refine wpAnyH_take (i := 2) (oi := ⟨some 36, _, _, _, _, _⟩) (v := ?_) rfl (by kernel_rfl) (by kernel_rfl) (by kernel_rfl) (fun _ _ _ h => h) (Or.inl ⟨by rfl, ?_⟩) hS0 ?_
        rotate_left 1
        · intro W hW
          go_simp
          with_reducible rfl
        refine wpAnyH_take (i := 3) (oi := ⟨some 37, _, _, _, _, _⟩) (v := ?_) rfl (by kernel_rfl) (by kernel_rfl) (by kernel_rfl) (fun _ _ _ h => h) (Or.inl ⟨by rfl, ?_⟩) hS0 ?_
        rotate_left 1
        · intro W hW
          go_simp
          with_reducible rfl
        refine wpAnyH_take (i := 4) (oi := ⟨some 38, _, _, _, _, _⟩) (v := .agg EB) rfl (by kernel_rfl) (by kernel_rfl) (by kernel_rfl) (fun _ _ _ h => h) (Or.inl ⟨by rfl, fun W hW => exec_cells 30 (.tmp 37) rfl ⟨b', off + i * 25, none⟩ rfl EB _ hW.2.1 Try.underlying30 rfl iE.out⟩) hS0 ?_
        refine wpAnyH_take (i := 5) (oi := ⟨some 39, _, _, _, _, _⟩) (v := .agg C) rfl (by kernel_rfl) (by kernel_rfl) (by kernel_rfl) (fun _ _ _ h => h) (Or.inl ⟨by rfl, fun W hW => exec_row 30 (.tmp 4) rfl w.heap.size rfl 30 C (0, 0) _ hW.2.2 Try.underlying30 rfl iC.out⟩) hS0 ?_
        refine wpAnyH_ready (rs := [6, 10]) (by kernel_rfl) (by simp) ?_
        refine AllReadyH.cons (o := ⟨some 40, _, _, _, _, _⟩) rfl (fun K hK => ?_) (AllReadyH.cons (o := ⟨some 10, _, _, _, _, _⟩) rfl (fun K hK => ?_) AllReadyH.nil)
        · go_simp
          go_at_call 33
          refine (cm _).mono ?_
          rintro e w20 ⟨rfl, hb20⟩
          have hS20 := keepB hC1 hb20 hS0
          refine hK.out _ _ hS20 (fun _ => ?_)
          clear hK K
          refine wpAnyH_take (i := 7) (oi := ⟨some 33, _, _, _, _, _⟩) (v := ?_) rfl (by kernel_rfl) (by kernel_rfl) (by kernel_rfl) (fun _ _ _ h => h) (Or.inl ⟨by rfl, ?_⟩) hS20 ?_
          rotate_left 1
          · intro W hW
            go_simp
            with_reducible rfl
          refine wpAnyH_take (i := 8) (oi := ⟨some 41, _, _, _, _, _⟩) (v := ?_) rfl (by kernel_rfl) (by kernel_rfl) (by kernel_rfl) (fun _ _ _ h => h) (Or.inl ⟨by rfl, ?_⟩) hS20 ?_
          rotate_left 1
          · intro W hW
            go_simp
            with_reducible rfl
          refine wpAnyH_take (i := 9) (oi := ⟨some 42, _, _, _, _, _⟩) (v := ?_) rfl (by kernel_rfl) (by kernel_rfl) (by kernel_rfl) (fun _ _ _ h => h) (Or.inl ⟨by rfl, ?_⟩) hS20 ?_
          rotate_left 1
          · intro W hW
            go_simp
            with_reducible rfl
          refine wpAnyH_ready (rs := [10]) (by kernel_rfl) (by simp) ?_
          refine AllReadyH.cons (o := ⟨some 10, _, _, _, _, _⟩) rfl (fun K hK => ?_) AllReadyH.nil
          refine step_alloc rfl 30 rfl #[.int .u64 0, .int .u64 0, .int .u64 0, .int .u64 0, .int .u64 0, .int .u64 0, .int .u64 0, .int .u64 0, .int .u64 0, .int .u64 0, .int .u64 0, .int .u64 0, .int .u64 0, .int .u64 0, .int .u64 0, .int .u64 0, .int .u64 0, .int .u64 0, .int .u64 0, .int .u64 0, .int .u64 0, .int .u64 0, .int .u64 0, .int .u64 0] hz (fun w21 B hV hb21 hg21 => ?_)
          have hS21 := keepB hC1 hb21 hS20
          have hBs : w4.heap.size ≤ B := Nat.le_trans hS20.1.size hg21
          refine hK.out _ _ hS21 (fun _ => ?_)
          clear hK K
          refine wpAnyH_ready (rs := [11]) (by kernel_rfl) (by simp) ?_
          refine AllReadyH.cons (o := ⟨none, _, _, _, _, _⟩) rfl (fun K hK => ?_) AllReadyH.nil
          refine step_store_row rfl 30 (.tmp 10) (.tmp 41) rfl B MV rfl rfl 30 #[.int .u64 0, .int .u64 0, .int .u64 0, .int .u64 0, .int .u64 0, .int .u64 0, .int .u64 0, .int .u64 0, .int .u64 0, .int .u64 0, .int .u64 0, .int .u64 0, .int .u64 0, .int .u64 0, .int .u64 0, .int .u64 0, .int .u64 0, .int .u64 0, .int .u64 0, .int .u64 0, .int .u64 0, .int .u64 0, .int .u64 0, .int .u64 0] hV kM.out zM.out oM.out ?_
          have hSz := keepS hC1 (Below.setRow hS21.1 hBs MV)
          refine hK.out _ _ hSz (fun _ => ?_)
          clear hK K
          refine wpAnyH_take (i := 12) (oi := ⟨some 11, _, _, _, _, _⟩) (v := ?_) rfl (by kernel_rfl) (by kernel_rfl) (by kernel_rfl) (fun _ _ _ h => h) (Or.inl ⟨by rfl, ?_⟩) hSz ?_
          rotate_left 1
          · intro W hW
            go_simp
            with_reducible rfl
          refine wpAnyH_done (by kernel_rfl) ?_ _
          simp only [Act.put, List.setIfInBounds_toArray, List.set_cons_succ, List.set_cons_zero]
          go_wp2_with fail
          go_meet
          exact ⟨rfl, Below.setRow hS21.1 hBs _⟩
        · refine step_alloc rfl 30 rfl #[.int .u64 0, .int .u64 0, .int .u64 0, .int .u64 0, .int .u64 0, .int .u64 0, .int .u64 0, .int .u64 0, .int .u64 0, .int .u64 0, .int .u64 0, .int .u64 0, .int .u64 0, .int .u64 0, .int .u64 0, .int .u64 0, .int .u64 0, .int .u64 0, .int .u64 0, .int .u64 0, .int .u64 0, .int .u64 0, .int .u64 0, .int .u64 0] hz (fun w20 B hV hb20 hg20 => ?_)
          have hS20 := keepB hC1 hb20 hS0
          have hBs : w4.heap.size ≤ B := Nat.le_trans hS0.1.size hg20
          refine hK.out _ _ hS20 (fun _ => ?_)
          clear hK K
          refine wpAnyH_ready (rs := [6]) (by kernel_rfl) (by simp) ?_
          refine AllReadyH.cons (o := ⟨some 40, _, _, _, _, _⟩) rfl (fun K hK => ?_) AllReadyH.nil
          go_simp
          go_at_call 33
          refine (cm _).mono ?_
          rintro e w21 ⟨rfl, hb21⟩
          have hS21 := keepB hC1 hb21 hS20
          have hV := hV_keep hb21 hV
          refine hK.out _ _ hS21 (fun _ => ?_)
          clear hK K
          refine wpAnyH_take (i := 7) (oi := ⟨some 33, _, _, _, _, _⟩) (v := ?_) rfl (by kernel_rfl) (by kernel_rfl) (by kernel_rfl) (fun _ _ _ h => h) (Or.inl ⟨by rfl, ?_⟩) hS21 ?_
          rotate_left 1
          · intro W hW
            go_simp
            with_reducible rfl
          refine wpAnyH_take (i := 8) (oi := ⟨some 41, _, _, _, _, _⟩) (v := ?_) rfl (by kernel_rfl) (by kernel_rfl) (by kernel_rfl) (fun _ _ _ h => h) (Or.inl ⟨by rfl, ?_⟩) hS21 ?_
          rotate_left 1
          · intro W hW
            go_simp
            with_reducible rfl
          refine wpAnyH_take (i := 9) (oi := ⟨some 42, _, _, _, _, _⟩) (v := ?_) rfl (by kernel_rfl) (by kernel_rfl) (by kernel_rfl) (fun _ _ _ h => h) (Or.inl ⟨by rfl, ?_⟩) hS21 ?_
          rotate_left 1
          · intro W hW
            go_simp
            with_reducible rfl
          refine wpAnyH_ready (rs := [11]) (by kernel_rfl) (by simp) ?_
          refine AllReadyH.cons (o := ⟨none, _, _, _, _, _⟩) rfl (fun K hK => ?_) AllReadyH.nil
          refine step_store_row rfl 30 (.tmp 10) (.tmp 41) rfl B MV rfl rfl 30 #[.int .u64 0, .int .u64 0, .int .u64 0, .int .u64 0, .int .u64 0, .int .u64 0, .int .u64 0, .int .u64 0, .int .u64 0, .int .u64 0, .int .u64 0, .int .u64 0, .int .u64 0, .int .u64 0, .int .u64 0, .int .u64 0, .int .u64 0, .int .u64 0, .int .u64 0, .int .u64 0, .int .u64 0, .int .u64 0, .int .u64 0, .int .u64 0] hV kM.out zM.out oM.out ?_
          have hSz := keepS hC1 (Below.setRow hS21.1 hBs MV)
          refine hK.out _ _ hSz (fun _ => ?_)
          clear hK K
          refine wpAnyH_take (i := 12) (oi := ⟨some 11, _, _, _, _, _⟩) (v := ?_) rfl (by kernel_rfl) (by kernel_rfl) (by kernel_rfl) (fun _ _ _ h => h) (Or.inl ⟨by rfl, ?_⟩) hSz ?_
          rotate_left 1
          · intro W hW
            go_simp
            with_reducible rfl
          refine wpAnyH_done (by kernel_rfl) ?_ _
          simp only [Act.put, List.setIfInBounds_toArray, List.set_cons_succ, List.set_cons_zero]
          go_wp2_with fail
          go_meet
          exact ⟨rfl, Below.setRow hS21.1 hBs _⟩

      case rest =>
        obtain ⟨rfl, hbx⟩ := hcut
        have r8 := blkB hbx e2
        have bz := bel_via bw hbx
        have hS := hS7.keep hbx
        have E0 := en_rng (b := x.bx) (by rw [← HEB.out]; exact fun j v hj => keepc hbx (e0.out j v hj)) k hk
        clear HC1 e1 e2 cm hS7
        have HSTn := HST
        cases O with
        | false =>
          have hst : rptsL (l.take (i + 1)) b k = LL := by rw [HST.out, ptsE_no HO.out]; rfl
          have HST2 := Lib.hid hst; clear hst E0
          go_wp2
          exact ⟨⟨i + 1, by simp, by omega, ⟨A7, c7, LL, rfl, Lib.hid HST2.out.symm, hc7, hA7, hS⟩, bz⟩, by simp [intOf]; omega⟩
        | true =>
          obtain ⟨s0, s1, s2, s3⟩ := E0
          go_upto_region 11 with fail
          obtain ⟨w5, hw5⟩ : ∃ w5, w5 = wc.alloc (.cells #[.int .u64 (x.bx k).fh, .int .u64 (x.bx k).fl, .int .u64 (x.bx k).th, .int .u64 (x.bx k).tl] 27) := ⟨_, rfl⟩
          have x12 : w5.heap[wc.heap.size]? = some (.cells #[.int .u64 (x.bx k).fh, .int .u64 (x.bx k).fl, .int .u64 (x.bx k).th, .int .u64 (x.bx k).tl] 27) := by rw [hw5]; exact heap_alloc_new wc _
          replace r8 := blk_al2 hw5 r8
          replace bz := bel_al2 hw5 bz
          replace hS : Sl w5 2 p2c A7 LL.length LL := by rw [hw5]; exact hS.keep (Below.al (Below.refl _ _) _)
          rw [← hw5]
          clear hw5 s0 s1 s2 s3 hbx
          obtain ⟨a0, a1, a2, a3⟩ := cells4 r8
          obtain ⟨g0, g1, g2, g3⟩ := cells4 x12
          have t1 := fun W : World => ratmost_any (b k).fh (b k).fl (x.bx k).th (x.bx k).tl W
          have t2 := fun W : World => rless_any (x.bx k).th (x.bx k).tl (b k).th (b k).tl W
          have ht12 : icB (b k) (toP (x.bx k)) = (decide (cmpA (b k).fh (b k).fl (x.bx k).th (x.bx k).tl ≤ 0) && decide (cmpA (x.bx k).th (x.bx k).tl (b k).th (b k).tl < 0)) := rfl
          generalize decide (cmpA (b k).fh (b k).fl (x.bx k).th (x.bx k).tl ≤ 0) = X1 at t1 ht12
          generalize decide (cmpA (x.bx k).th (x.bx k).tl (b k).th (b k).tl < 0) = X2 at t2 ht12
          have HT := Lib.hid ht12; clear ht12
          have p0 := fun W : World => rprev_any (x.bx k).fh (x.bx k).fl (hwx k hk).1 (hwx k hk).2.1 W
          have hp0 : prevT (x.bx k).fh (x.bx k).fl = _ := prevT_eq (frP (x.bx k))
          rw [hp0] at p0
          clear hp0
          cases X1 with
          | false =>
            go_upto_region 13 with (first | (go_at_call 35; with_reducible refine (t1 _).mono ?_; rintro e wz ⟨rfl, hb⟩; replace r8 := blkB hb r8; replace x12 := blkB hb x12; replace hS := hS.keep hb; replace bz := bel_via bz hb; obtain ⟨a0, a1, a2, a3⟩ := cells4 r8; obtain ⟨g0, g1, g2, g3⟩ := cells4 x12; clear hb))
            obtain ⟨L1, eL1⟩ : ∃ L1, L1 = LL := ⟨_, rfl⟩
            subst eL1
            have HL1 : Hid True := Lib.hid trivial
            have hL1 : L1.length ≤ 65536 := by omega
            have hcL := hc7
            have hAL := hA7
            cases hpv : prevP (frP (x.bx k)) with
            | none =>
              rw [hpv] at p0
              simp only at p0
              have HPV := Lib.hid hpv; clear hpv
              have hp := ptsE_yes (e := x.bx) (b := b) (k := k) HO.out HT.out HPV.out (pvL_none _)
              have hst : rptsL (l.take (i + 1)) b k = L1 := by rw [HST.out, hp]; first | rfl | (rw [HL1.out]; rfl)
              have HST2 := Lib.hid hst
              clear hp hst
              go_wp2_with (first | (go_at_call 38; with_reducible refine (p0 _).mono ?_; rintro e wz ⟨rfl, hb⟩; replace r8 := blkB hb r8; replace x12 := blkB hb x12; replace hS := hS.keep hb; replace bz := bel_via bz hb; obtain ⟨a0, a1, a2, a3⟩ := cells4 r8; obtain ⟨g0, g1, g2, g3⟩ := cells4 x12; clear hb; have U0 := fun o => keepc (Below.al (Below.refl _ wz) o) a0; have U1 := fun o => keepc (Below.al (Below.refl _ wz) o) a1; have U2 := fun o => keepc (Below.al (Below.refl _ wz) o) a2; have U3 := fun o => keepc (Below.al (Below.refl _ wz) o) a3))
              have hS := hS.keep (Below.al (Below.refl _ wz) (.cells #[.int .u64 0, .int .u64 0] 25))
              have bz := bel_via bz (Below.al (Below.refl _ wz) (.cells #[.int .u64 0, .int .u64 0] 25))
              exact ⟨⟨i + 1, by simp, by omega, ⟨_, _, L1, rfl, Lib.hid HST2.out.symm, hcL, hAL, hS⟩, bz⟩, by simp [intOf]; omega⟩
            | some q =>
              rw [hpv] at p0
              simp only at p0
              have HPV := Lib.hid hpv; clear hpv
              have q1 := fun W : World => ratmost_any (b k).fh (b k).fl q.h q.l W
              have q2 := fun W : World => rless_any q.h q.l (b k).th (b k).tl W
              have hq12 : icB (b k) q = (decide (cmpA (b k).fh (b k).fl q.h q.l ≤ 0) && decide (cmpA q.h q.l (b k).th (b k).tl < 0)) := rfl
              generalize decide (cmpA (b k).fh (b k).fl q.h q.l ≤ 0) = Y1 at q1 hq12
              generalize decide (cmpA q.h q.l (b k).th (b k).tl < 0) = Y2 at q2 hq12
              have HQ := Lib.hid hq12; clear hq12
              cases Y1 with
              | false =>
                have hp := ptsE_yes (e := x.bx) (b := b) (k := k) HO.out HT.out HPV.out (pvL_some HQ.out)
                have hst : rptsL (l.take (i + 1)) b k = L1 := by rw [HST.out, hp]; first | rfl | (rw [HL1.out]; rfl)
                have HST2 := Lib.hid hst
                clear hp hst
                go_wp2_with (first | (go_at_call 38; with_reducible refine (p0 _).mono ?_; rintro e wz ⟨rfl, hb⟩; replace r8 := blkB hb r8; replace x12 := blkB hb x12; replace hS := hS.keep hb; replace bz := bel_via bz hb; obtain ⟨a0, a1, a2, a3⟩ := cells4 r8; obtain ⟨g0, g1, g2, g3⟩ := cells4 x12; clear hb; have U0 := fun o => keepc (Below.al (Below.refl _ wz) o) a0; have U1 := fun o => keepc (Below.al (Below.refl _ wz) o) a1; have U2 := fun o => keepc (Below.al (Below.refl _ wz) o) a2; have U3 := fun o => keepc (Below.al (Below.refl _ wz) o) a3) | (go_at_call 35; with_reducible refine (q1 _).mono ?_; rintro e wy ⟨rfl, hb⟩; replace r8 := blkB hb (blk_al r8 _); have d13 := blkB hb (heap_alloc_new wz _); replace hS := (hS.keep (Below.al (Below.refl _ _) _)).keep hb; replace bz := bel_via (bel_via bz (Below.al (Below.refl _ _) _)) hb; obtain ⟨a0, a1, a2, a3⟩ := cells4 r8; obtain ⟨d0, d1, _, _⟩ := cells2 d13; clear hb; obtain ⟨wz, hwz⟩ : ∃ x, x = wy := ⟨_, rfl⟩; subst hwz))
                exact ⟨⟨i + 1, by simp, by omega, ⟨_, _, L1, rfl, Lib.hid HST2.out.symm, hcL, hAL, hS⟩, bz⟩, by simp [intOf]; omega⟩
              | true =>
                cases Y2 with
                | false =>
                  have hp := ptsE_yes (e := x.bx) (b := b) (k := k) HO.out HT.out HPV.out (pvL_some HQ.out)
                  have hst : rptsL (l.take (i + 1)) b k = L1 := by rw [HST.out, hp]; first | rfl | (rw [HL1.out]; rfl)
                  have HST2 := Lib.hid hst
                  clear hp hst
                  go_wp2_with (first | (go_at_call 38; with_reducible refine (p0 _).mono ?_; rintro e wz ⟨rfl, hb⟩; replace r8 := blkB hb r8; replace x12 := blkB hb x12; replace hS := hS.keep hb; replace bz := bel_via bz hb; obtain ⟨a0, a1, a2, a3⟩ := cells4 r8; obtain ⟨g0, g1, g2, g3⟩ := cells4 x12; clear hb; have U0 := fun o => keepc (Below.al (Below.refl _ wz) o) a0; have U1 := fun o => keepc (Below.al (Below.refl _ wz) o) a1; have U2 := fun o => keepc (Below.al (Below.refl _ wz) o) a2; have U3 := fun o => keepc (Below.al (Below.refl _ wz) o) a3) | (go_at_call 35; with_reducible refine (q1 _).mono ?_; rintro e wy ⟨rfl, hb⟩; replace r8 := blkB hb (blk_al r8 _); have d13 := blkB hb (heap_alloc_new wz _); replace hS := (hS.keep (Below.al (Below.refl _ _) _)).keep hb; replace bz := bel_via (bel_via bz (Below.al (Below.refl _ _) _)) hb; obtain ⟨a0, a1, a2, a3⟩ := cells4 r8; obtain ⟨d0, d1, _, _⟩ := cells2 d13; clear hb; obtain ⟨wz, hwz⟩ : ∃ x, x = wy := ⟨_, rfl⟩; subst hwz) | (go_at_call 36; with_reducible refine (q2 _).mono ?_; rintro e wz ⟨rfl, hb⟩; replace r8 := blkB hb r8; replace d13 := blkB hb d13; replace hS := hS.keep hb; replace bz := bel_via bz hb; obtain ⟨a0, a1, a2, a3⟩ := cells4 r8; obtain ⟨d0, d1, _, _⟩ := cells2 d13; clear hb))
                  exact ⟨⟨i + 1, by simp, by omega, ⟨_, _, L1, rfl, Lib.hid HST2.out.symm, hcL, hAL, hS⟩, bz⟩, by simp [intOf]; omega⟩
                | true =>
                  have hp := ptsE_yes (e := x.bx) (b := b) (k := k) HO.out HT.out HPV.out (pvL_some HQ.out)
                  have hst : rptsL (l.take (i + 1)) b k = addP L1 q := by rw [HST.out, hp]; first | rfl | (rw [HL1.out]; rfl)
                  have HST2 := Lib.hid hst
                  clear hp hst
                  go_wp2_with (first | (go_at_call 38; with_reducible refine (p0 _).mono ?_; rintro e wz ⟨rfl, hb⟩; replace r8 := blkB hb r8; replace x12 := blkB hb x12; replace hS := hS.keep hb; replace bz := bel_via bz hb; obtain ⟨a0, a1, a2, a3⟩ := cells4 r8; obtain ⟨g0, g1, g2, g3⟩ := cells4 x12; clear hb; have U0 := fun o => keepc (Below.al (Below.refl _ wz) o) a0; have U1 := fun o => keepc (Below.al (Below.refl _ wz) o) a1; have U2 := fun o => keepc (Below.al (Below.refl _ wz) o) a2; have U3 := fun o => keepc (Below.al (Below.refl _ wz) o) a3) | (go_at_call 35; with_reducible refine (q1 _).mono ?_; rintro e wy ⟨rfl, hb⟩; replace r8 := blkB hb (blk_al r8 _); have d13 := blkB hb (heap_alloc_new wz _); replace hS := (hS.keep (Below.al (Below.refl _ _) _)).keep hb; replace bz := bel_via (bel_via bz (Below.al (Below.refl _ _) _)) hb; obtain ⟨a0, a1, a2, a3⟩ := cells4 r8; obtain ⟨d0, d1, _, _⟩ := cells2 d13; clear hb; obtain ⟨wz, hwz⟩ : ∃ x, x = wy := ⟨_, rfl⟩; subst hwz) | (go_at_call 36; with_reducible refine (q2 _).mono ?_; rintro e wz ⟨rfl, hb⟩; replace r8 := blkB hb r8; replace d13 := blkB hb d13; replace hS := hS.keep hb; replace bz := bel_via bz hb; obtain ⟨a0, a1, a2, a3⟩ := cells4 r8; obtain ⟨d0, d1, _, _⟩ := cells2 d13; clear hb) | (go_at_call 37; go_loud (with_reducible refine (radd_any _ _ _ L1 q hL1 hcL hAL _ hS).mono ?_); rintro e wz ⟨A2, c2, rfl, hc2, hS, hb⟩; replace bz := bel_via bz hb; clear hb))
                  exact ⟨⟨i + 1, by simp, by omega, ⟨_, _, addP L1 q, rfl, Lib.hid HST2.out.symm, hc2, (fun h => by subst h; exact absurd (hS.row (add_ne L1 q)) (by rintro ⟨b1, off1, h1, _⟩; cases h1)), hS⟩, bz⟩, by simp [intOf]; omega⟩
          | true =>
            cases X2 with
            | false =>
              go_upto_region 13 with (first | (go_at_call 35; with_reducible refine (t1 _).mono ?_; rintro e wz ⟨rfl, hb⟩; replace r8 := blkB hb r8; replace x12 := blkB hb x12; replace hS := hS.keep hb; replace bz := bel_via bz hb; obtain ⟨a0, a1, a2, a3⟩ := cells4 r8; obtain ⟨g0, g1, g2, g3⟩ := cells4 x12; clear hb) | (go_at_call 36; with_reducible refine (t2 _).mono ?_; rintro e wz ⟨rfl, hb⟩; replace r8 := blkB hb r8; replace x12 := blkB hb x12; replace hS := hS.keep hb; replace bz := bel_via bz hb; obtain ⟨a0, a1, a2, a3⟩ := cells4 r8; obtain ⟨g0, g1, g2, g3⟩ := cells4 x12; clear hb))
              obtain ⟨L1, eL1⟩ : ∃ L1, L1 = LL := ⟨_, rfl⟩
              subst eL1
              have HL1 : Hid True := Lib.hid trivial
              have hL1 : L1.length ≤ 65536 := by omega
              have hcL := hc7
              have hAL := hA7
              cases hpv : prevP (frP (x.bx k)) with
              | none =>
                rw [hpv] at p0
                simp only at p0
                have HPV := Lib.hid hpv; clear hpv
                have hp := ptsE_yes (e := x.bx) (b := b) (k := k) HO.out HT.out HPV.out (pvL_none _)
                have hst : rptsL (l.take (i + 1)) b k = L1 := by rw [HST.out, hp]; first | rfl | (rw [HL1.out]; rfl)
                have HST2 := Lib.hid hst
                clear hp hst
                go_wp2_with (first | (go_at_call 38; with_reducible refine (p0 _).mono ?_; rintro e wz ⟨rfl, hb⟩; replace r8 := blkB hb r8; replace x12 := blkB hb x12; replace hS := hS.keep hb; replace bz := bel_via bz hb; obtain ⟨a0, a1, a2, a3⟩ := cells4 r8; obtain ⟨g0, g1, g2, g3⟩ := cells4 x12; clear hb; have U0 := fun o => keepc (Below.al (Below.refl _ wz) o) a0; have U1 := fun o => keepc (Below.al (Below.refl _ wz) o) a1; have U2 := fun o => keepc (Below.al (Below.refl _ wz) o) a2; have U3 := fun o => keepc (Below.al (Below.refl _ wz) o) a3))
                have hS := hS.keep (Below.al (Below.refl _ wz) (.cells #[.int .u64 0, .int .u64 0] 25))
                have bz := bel_via bz (Below.al (Below.refl _ wz) (.cells #[.int .u64 0, .int .u64 0] 25))
                exact ⟨⟨i + 1, by simp, by omega, ⟨_, _, L1, rfl, Lib.hid HST2.out.symm, hcL, hAL, hS⟩, bz⟩, by simp [intOf]; omega⟩
              | some q =>
                rw [hpv] at p0
                simp only at p0
                have HPV := Lib.hid hpv; clear hpv
                have q1 := fun W : World => ratmost_any (b k).fh (b k).fl q.h q.l W
                have q2 := fun W : World => rless_any q.h q.l (b k).th (b k).tl W
                have hq12 : icB (b k) q = (decide (cmpA (b k).fh (b k).fl q.h q.l ≤ 0) && decide (cmpA q.h q.l (b k).th (b k).tl < 0)) := rfl
                generalize decide (cmpA (b k).fh (b k).fl q.h q.l ≤ 0) = Y1 at q1 hq12
                generalize decide (cmpA q.h q.l (b k).th (b k).tl < 0) = Y2 at q2 hq12
                have HQ := Lib.hid hq12; clear hq12
                cases Y1 with
                | false =>
                  have hp := ptsE_yes (e := x.bx) (b := b) (k := k) HO.out HT.out HPV.out (pvL_some HQ.out)
                  have hst : rptsL (l.take (i + 1)) b k = L1 := by rw [HST.out, hp]; first | rfl | (rw [HL1.out]; rfl)
                  have HST2 := Lib.hid hst
                  clear hp hst
                  go_wp2_with (first | (go_at_call 38; with_reducible refine (p0 _).mono ?_; rintro e wz ⟨rfl, hb⟩; replace r8 := blkB hb r8; replace x12 := blkB hb x12; replace hS := hS.keep hb; replace bz := bel_via bz hb; obtain ⟨a0, a1, a2, a3⟩ := cells4 r8; obtain ⟨g0, g1, g2, g3⟩ := cells4 x12; clear hb; have U0 := fun o => keepc (Below.al (Below.refl _ wz) o) a0; have U1 := fun o => keepc (Below.al (Below.refl _ wz) o) a1; have U2 := fun o => keepc (Below.al (Below.refl _ wz) o) a2; have U3 := fun o => keepc (Below.al (Below.refl _ wz) o) a3) | (go_at_call 35; with_reducible refine (q1 _).mono ?_; rintro e wy ⟨rfl, hb⟩; replace r8 := blkB hb (blk_al r8 _); have d13 := blkB hb (heap_alloc_new wz _); replace hS := (hS.keep (Below.al (Below.refl _ _) _)).keep hb; replace bz := bel_via (bel_via bz (Below.al (Below.refl _ _) _)) hb; obtain ⟨a0, a1, a2, a3⟩ := cells4 r8; obtain ⟨d0, d1, _, _⟩ := cells2 d13; clear hb; obtain ⟨wz, hwz⟩ : ∃ x, x = wy := ⟨_, rfl⟩; subst hwz))
                  exact ⟨⟨i + 1, by simp, by omega, ⟨_, _, L1, rfl, Lib.hid HST2.out.symm, hcL, hAL, hS⟩, bz⟩, by simp [intOf]; omega⟩
                | true =>
                  cases Y2 with
                  | false =>
                    have hp := ptsE_yes (e := x.bx) (b := b) (k := k) HO.out HT.out HPV.out (pvL_some HQ.out)
                    have hst : rptsL (l.take (i + 1)) b k = L1 := by rw [HST.out, hp]; first | rfl | (rw [HL1.out]; rfl)
                    have HST2 := Lib.hid hst
                    clear hp hst
                    go_wp2_with (first | (go_at_call 38; with_reducible refine (p0 _).mono ?_; rintro e wz ⟨rfl, hb⟩; replace r8 := blkB hb r8; replace x12 := blkB hb x12; replace hS := hS.keep hb; replace bz := bel_via bz hb; obtain ⟨a0, a1, a2, a3⟩ := cells4 r8; obtain ⟨g0, g1, g2, g3⟩ := cells4 x12; clear hb; have U0 := fun o => keepc (Below.al (Below.refl _ wz) o) a0; have U1 := fun o => keepc (Below.al (Below.refl _ wz) o) a1; have U2 := fun o => keepc (Below.al (Below.refl _ wz) o) a2; have U3 := fun o => keepc (Below.al (Below.refl _ wz) o) a3) | (go_at_call 35; with_reducible refine (q1 _).mono ?_; rintro e wy ⟨rfl, hb⟩; replace r8 := blkB hb (blk_al r8 _); have d13 := blkB hb (heap_alloc_new wz _); replace hS := (hS.keep (Below.al (Below.refl _ _) _)).keep hb; replace bz := bel_via (bel_via bz (Below.al (Below.refl _ _) _)) hb; obtain ⟨a0, a1, a2, a3⟩ := cells4 r8; obtain ⟨d0, d1, _, _⟩ := cells2 d13; clear hb; obtain ⟨wz, hwz⟩ : ∃ x, x = wy := ⟨_, rfl⟩; subst hwz) | (go_at_call 36; with_reducible refine (q2 _).mono ?_; rintro e wz ⟨rfl, hb⟩; replace r8 := blkB hb r8; replace d13 := blkB hb d13; replace hS := hS.keep hb; replace bz := bel_via bz hb; obtain ⟨a0, a1, a2, a3⟩ := cells4 r8; obtain ⟨d0, d1, _, _⟩ := cells2 d13; clear hb))
                    exact ⟨⟨i + 1, by simp, by omega, ⟨_, _, L1, rfl, Lib.hid HST2.out.symm, hcL, hAL, hS⟩, bz⟩, by simp [intOf]; omega⟩
                  | true =>
                    have hp := ptsE_yes (e := x.bx) (b := b) (k := k) HO.out HT.out HPV.out (pvL_some HQ.out)
                    have hst : rptsL (l.take (i + 1)) b k = addP L1 q := by rw [HST.out, hp]; first | rfl | (rw [HL1.out]; rfl)
                    have HST2 := Lib.hid hst
                    clear hp hst
                    go_wp2_with (first | (go_at_call 38; with_reducible refine (p0 _).mono ?_; rintro e wz ⟨rfl, hb⟩; replace r8 := blkB hb r8; replace x12 := blkB hb x12; replace hS := hS.keep hb; replace bz := bel_via bz hb; obtain ⟨a0, a1, a2, a3⟩ := cells4 r8; obtain ⟨g0, g1, g2, g3⟩ := cells4 x12; clear hb; have U0 := fun o => keepc (Below.al (Below.refl _ wz) o) a0; have U1 := fun o => keepc (Below.al (Below.refl _ wz) o) a1; have U2 := fun o => keepc (Below.al (Below.refl _ wz) o) a2; have U3 := fun o => keepc (Below.al (Below.refl _ wz) o) a3) | (go_at_call 35; with_reducible refine (q1 _).mono ?_; rintro e wy ⟨rfl, hb⟩; replace r8 := blkB hb (blk_al r8 _); have d13 := blkB hb (heap_alloc_new wz _); replace hS := (hS.keep (Below.al (Below.refl _ _) _)).keep hb; replace bz := bel_via (bel_via bz (Below.al (Below.refl _ _) _)) hb; obtain ⟨a0, a1, a2, a3⟩ := cells4 r8; obtain ⟨d0, d1, _, _⟩ := cells2 d13; clear hb; obtain ⟨wz, hwz⟩ : ∃ x, x = wy := ⟨_, rfl⟩; subst hwz) | (go_at_call 36; with_reducible refine (q2 _).mono ?_; rintro e wz ⟨rfl, hb⟩; replace r8 := blkB hb r8; replace d13 := blkB hb d13; replace hS := hS.keep hb; replace bz := bel_via bz hb; obtain ⟨a0, a1, a2, a3⟩ := cells4 r8; obtain ⟨d0, d1, _, _⟩ := cells2 d13; clear hb) | (go_at_call 37; go_loud (with_reducible refine (radd_any _ _ _ L1 q hL1 hcL hAL _ hS).mono ?_); rintro e wz ⟨A2, c2, rfl, hc2, hS, hb⟩; replace bz := bel_via bz hb; clear hb))
                    exact ⟨⟨i + 1, by simp, by omega, ⟨_, _, addP L1 q, rfl, Lib.hid HST2.out.symm, hc2, (fun h => by subst h; exact absurd (hS.row (add_ne L1 q)) (by rintro ⟨b1, off1, h1, _⟩; cases h1)), hS⟩, bz⟩, by simp [intOf]; omega⟩
            | true =>
              go_upto_region 13 with (first | (go_at_call 35; with_reducible refine (t1 _).mono ?_; rintro e wz ⟨rfl, hb⟩; replace r8 := blkB hb r8; replace x12 := blkB hb x12; replace hS := hS.keep hb; replace bz := bel_via bz hb; obtain ⟨a0, a1, a2, a3⟩ := cells4 r8; obtain ⟨g0, g1, g2, g3⟩ := cells4 x12; clear hb) | (go_at_call 36; with_reducible refine (t2 _).mono ?_; rintro e wz ⟨rfl, hb⟩; replace r8 := blkB hb r8; replace x12 := blkB hb x12; replace hS := hS.keep hb; replace bz := bel_via bz hb; obtain ⟨a0, a1, a2, a3⟩ := cells4 r8; obtain ⟨g0, g1, g2, g3⟩ := cells4 x12; clear hb) | (go_at_call 37; go_loud (with_reducible refine (radd_any _ _ _ LL ⟨(x.bx k).th, (x.bx k).tl⟩ hn7 hc7 hA7 _ hS).mono ?_); rintro e wz ⟨AA, ca, rfl, hc1, hS, hb⟩; replace r8 := blkB hb r8; replace x12 := blkB hb x12; replace bz := bel_via bz hb; obtain ⟨a0, a1, a2, a3⟩ := cells4 r8; obtain ⟨g0, g1, g2, g3⟩ := cells4 x12; clear hb))
              obtain ⟨L1, eL1⟩ : ∃ L1, L1 = addP LL ⟨(x.bx k).th, (x.bx k).tl⟩ := ⟨_, rfl⟩
              have hL1 : L1.length ≤ 65536 := by rw [eL1]; have := addP_len LL ⟨(x.bx k).th, (x.bx k).tl⟩; omega
              have hcL : L1.length ≤ ca := by rw [eL1]; exact hc1
              have hAL : AA = none → ca = 0 := fun h => by subst h; exact absurd (hS.row (add_ne LL ⟨(x.bx k).th, (x.bx k).tl⟩)) (by rintro ⟨b1, off1, h1, _⟩; cases h1)
              rw [← eL1] at hS ⊢
              have HL1 := Lib.hid eL1; clear eL1
              cases hpv : prevP (frP (x.bx k)) with
              | none =>
                rw [hpv] at p0
                simp only at p0
                have HPV := Lib.hid hpv; clear hpv
                have hp := ptsE_yes (e := x.bx) (b := b) (k := k) HO.out HT.out HPV.out (pvL_none _)
                have hst : rptsL (l.take (i + 1)) b k = L1 := by rw [HST.out, hp]; first | rfl | (rw [HL1.out]; rfl)
                have HST2 := Lib.hid hst
                clear hp hst
                go_wp2_with (first | (go_at_call 38; with_reducible refine (p0 _).mono ?_; rintro e wz ⟨rfl, hb⟩; replace r8 := blkB hb r8; replace x12 := blkB hb x12; replace hS := hS.keep hb; replace bz := bel_via bz hb; obtain ⟨a0, a1, a2, a3⟩ := cells4 r8; obtain ⟨g0, g1, g2, g3⟩ := cells4 x12; clear hb; have U0 := fun o => keepc (Below.al (Below.refl _ wz) o) a0; have U1 := fun o => keepc (Below.al (Below.refl _ wz) o) a1; have U2 := fun o => keepc (Below.al (Below.refl _ wz) o) a2; have U3 := fun o => keepc (Below.al (Below.refl _ wz) o) a3))
                have hS := hS.keep (Below.al (Below.refl _ wz) (.cells #[.int .u64 0, .int .u64 0] 25))
                have bz := bel_via bz (Below.al (Below.refl _ wz) (.cells #[.int .u64 0, .int .u64 0] 25))
                exact ⟨⟨i + 1, by simp, by omega, ⟨_, _, L1, rfl, Lib.hid HST2.out.symm, hcL, hAL, hS⟩, bz⟩, by simp [intOf]; omega⟩
              | some q =>
                rw [hpv] at p0
                simp only at p0
                have HPV := Lib.hid hpv; clear hpv
                have q1 := fun W : World => ratmost_any (b k).fh (b k).fl q.h q.l W
                have q2 := fun W : World => rless_any q.h q.l (b k).th (b k).tl W
                have hq12 : icB (b k) q = (decide (cmpA (b k).fh (b k).fl q.h q.l ≤ 0) && decide (cmpA q.h q.l (b k).th (b k).tl < 0)) := rfl
                generalize decide (cmpA (b k).fh (b k).fl q.h q.l ≤ 0) = Y1 at q1 hq12
                generalize decide (cmpA q.h q.l (b k).th (b k).tl < 0) = Y2 at q2 hq12
                have HQ := Lib.hid hq12; clear hq12
                cases Y1 with
                | false =>
                  have hp := ptsE_yes (e := x.bx) (b := b) (k := k) HO.out HT.out HPV.out (pvL_some HQ.out)
                  have hst : rptsL (l.take (i + 1)) b k = L1 := by rw [HST.out, hp]; first | rfl | (rw [HL1.out]; rfl)
                  have HST2 := Lib.hid hst
                  clear hp hst
                  go_wp2_with (first | (go_at_call 38; with_reducible refine (p0 _).mono ?_; rintro e wz ⟨rfl, hb⟩; replace r8 := blkB hb r8; replace x12 := blkB hb x12; replace hS := hS.keep hb; replace bz := bel_via bz hb; obtain ⟨a0, a1, a2, a3⟩ := cells4 r8; obtain ⟨g0, g1, g2, g3⟩ := cells4 x12; clear hb; have U0 := fun o => keepc (Below.al (Below.refl _ wz) o) a0; have U1 := fun o => keepc (Below.al (Below.refl _ wz) o) a1; have U2 := fun o => keepc (Below.al (Below.refl _ wz) o) a2; have U3 := fun o => keepc (Below.al (Below.refl _ wz) o) a3) | (go_at_call 35; with_reducible refine (q1 _).mono ?_; rintro e wy ⟨rfl, hb⟩; replace r8 := blkB hb (blk_al r8 _); have d13 := blkB hb (heap_alloc_new wz _); replace hS := (hS.keep (Below.al (Below.refl _ _) _)).keep hb; replace bz := bel_via (bel_via bz (Below.al (Below.refl _ _) _)) hb; obtain ⟨a0, a1, a2, a3⟩ := cells4 r8; obtain ⟨d0, d1, _, _⟩ := cells2 d13; clear hb; obtain ⟨wz, hwz⟩ : ∃ x, x = wy := ⟨_, rfl⟩; subst hwz))
                  exact ⟨⟨i + 1, by simp, by omega, ⟨_, _, L1, rfl, Lib.hid HST2.out.symm, hcL, hAL, hS⟩, bz⟩, by simp [intOf]; omega⟩
                | true =>
                  cases Y2 with
                  | false =>
                    have hp := ptsE_yes (e := x.bx) (b := b) (k := k) HO.out HT.out HPV.out (pvL_some HQ.out)
                    have hst : rptsL (l.take (i + 1)) b k = L1 := by rw [HST.out, hp]; first | rfl | (rw [HL1.out]; rfl)
                    have HST2 := Lib.hid hst
                    clear hp hst
                    go_wp2_with (first | (go_at_call 38; with_reducible refine (p0 _).mono ?_; rintro e wz ⟨rfl, hb⟩; replace r8 := blkB hb r8; replace x12 := blkB hb x12; replace hS := hS.keep hb; replace bz := bel_via bz hb; obtain ⟨a0, a1, a2, a3⟩ := cells4 r8; obtain ⟨g0, g1, g2, g3⟩ := cells4 x12; clear hb; have U0 := fun o => keepc (Below.al (Below.refl _ wz) o) a0; have U1 := fun o => keepc (Below.al (Below.refl _ wz) o) a1; have U2 := fun o => keepc (Below.al (Below.refl _ wz) o) a2; have U3 := fun o => keepc (Below.al (Below.refl _ wz) o) a3) | (go_at_call 35; with_reducible refine (q1 _).mono ?_; rintro e wy ⟨rfl, hb⟩; replace r8 := blkB hb (blk_al r8 _); have d13 := blkB hb (heap_alloc_new wz _); replace hS := (hS.keep (Below.al (Below.refl _ _) _)).keep hb; replace bz := bel_via (bel_via bz (Below.al (Below.refl _ _) _)) hb; obtain ⟨a0, a1, a2, a3⟩ := cells4 r8; obtain ⟨d0, d1, _, _⟩ := cells2 d13; clear hb; obtain ⟨wz, hwz⟩ : ∃ x, x = wy := ⟨_, rfl⟩; subst hwz) | (go_at_call 36; with_reducible refine (q2 _).mono ?_; rintro e wz ⟨rfl, hb⟩; replace r8 := blkB hb r8; replace d13 := blkB hb d13; replace hS := hS.keep hb; replace bz := bel_via bz hb; obtain ⟨a0, a1, a2, a3⟩ := cells4 r8; obtain ⟨d0, d1, _, _⟩ := cells2 d13; clear hb))
                    exact ⟨⟨i + 1, by simp, by omega, ⟨_, _, L1, rfl, Lib.hid HST2.out.symm, hcL, hAL, hS⟩, bz⟩, by simp [intOf]; omega⟩
                  | true =>
                    have hp := ptsE_yes (e := x.bx) (b := b) (k := k) HO.out HT.out HPV.out (pvL_some HQ.out)
                    have hst : rptsL (l.take (i + 1)) b k = addP L1 q := by rw [HST.out, hp]; first | rfl | (rw [HL1.out]; rfl)
                    have HST2 := Lib.hid hst
                    clear hp hst
                    go_wp2_with (first | (go_at_call 38; with_reducible refine (p0 _).mono ?_; rintro e wz ⟨rfl, hb⟩; replace r8 := blkB hb r8; replace x12 := blkB hb x12; replace hS := hS.keep hb; replace bz := bel_via bz hb; obtain ⟨a0, a1, a2, a3⟩ := cells4 r8; obtain ⟨g0, g1, g2, g3⟩ := cells4 x12; clear hb; have U0 := fun o => keepc (Below.al (Below.refl _ wz) o) a0; have U1 := fun o => keepc (Below.al (Below.refl _ wz) o) a1; have U2 := fun o => keepc (Below.al (Below.refl _ wz) o) a2; have U3 := fun o => keepc (Below.al (Below.refl _ wz) o) a3) | (go_at_call 35; with_reducible refine (q1 _).mono ?_; rintro e wy ⟨rfl, hb⟩; replace r8 := blkB hb (blk_al r8 _); have d13 := blkB hb (heap_alloc_new wz _); replace hS := (hS.keep (Below.al (Below.refl _ _) _)).keep hb; replace bz := bel_via (bel_via bz (Below.al (Below.refl _ _) _)) hb; obtain ⟨a0, a1, a2, a3⟩ := cells4 r8; obtain ⟨d0, d1, _, _⟩ := cells2 d13; clear hb; obtain ⟨wz, hwz⟩ : ∃ x, x = wy := ⟨_, rfl⟩; subst hwz) | (go_at_call 36; with_reducible refine (q2 _).mono ?_; rintro e wz ⟨rfl, hb⟩; replace r8 := blkB hb r8; replace d13 := blkB hb d13; replace hS := hS.keep hb; replace bz := bel_via bz hb; obtain ⟨a0, a1, a2, a3⟩ := cells4 r8; obtain ⟨d0, d1, _, _⟩ := cells2 d13; clear hb) | (go_at_call 37; go_loud (with_reducible refine (radd_any _ _ _ L1 q hL1 hcL hAL _ hS).mono ?_); rintro e wz ⟨A2, c2, rfl, hc2, hS, hb⟩; replace bz := bel_via bz hb; clear hb))
                    exact ⟨⟨i + 1, by simp, by omega, ⟨_, _, addP L1 q, rfl, Lib.hid HST2.out.symm, hc2, (fun h => by subst h; exact absurd (hS.row (add_ne L1 q)) (by rintro ⟨b1, off1, h1, _⟩; cases h1)), hS⟩, bz⟩, by simp [intOf]; omega⟩
    · obtain rfl : i = n := by omega
      have hd0 : decide (i < i) = false := by simp
      have hdi : decide ((i : Int) < (i : Int)) = false := by simp
      have htk : l.take i = l := by rw [← HLEN.out]; exact List.take_length
      have FIN : M (.returned (.slice A7 LL.length c7)) wr := by
        rw [HM.out]
        have e : rptsL l b k = LL := by rw [HLL.out, htk]
        rw [e]
        exact ⟨A7, c7, rfl, hc7, hA7, hS7, bel_via b0 bw⟩
      have FIN := Lib.hid FIN
      clear htk
      go_wp2
      first | exact FIN.out | (go_ret; exact FIN.out)
end Go.Proofs.Ytomennaekjklbaa
