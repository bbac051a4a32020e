/- The document's left: what is left of a node's entries; by-name template (gen_krleft.py). -/
import Derived.Test.YtomennaekjklbaaKLeft
namespace Go.Proofs.Ytomennaekjklbaa
open Go.RowKit Go.Lib Go.Sort
set_option linter.unusedVariables false
set_option linter.unusedSimpArgs false

theorem left_cons (b : Nat → R4) (x : EN) (r : List EN) : leftP b (x :: r) = if mbO x.bx b then (if cvB x.bx b then [x] else x :: leftP b r) else leftP b r := rfl
set_option maxRecDepth 100000 in
set_option maxHeartbeats 8000000 in
theorem rleft_any (A : Option Addr) (n c : Nat) (l : List EN) (b : Nat → R4) (hn : n ≤ 4096) (w : World) (hS : Sl w 25 enc25 A n l) : Calls Try.prog 24 #[.slice A n c, .agg (bxc b)] w (LeftPost w (leftP b l)) := by
  obtain ⟨M, hM⟩ : ∃ M, M = LeftPost w (leftP b l) := ⟨_, rfl⟩
  rw [← hM]
  have HM := Lib.hid hM; clear hM
  obtain ⟨iu, hiu, hu0, hu1, hu2⟩ := info_parts en_info
  have iC := inf29 b
  obtain ⟨C, hC⟩ : ∃ C, C = bxc b := ⟨_, rfl⟩
  rw [← hC] at iC ⊢
  have iC := Lib.hid iC
  have HC := Lib.hid hC; clear hC
  have hA := heap_alloc_new w (.cells C 30)
  have b0 := Below.al (Below.refl w.heap.size w) (.cells C 30)
  have HL := Lib.hid hS.len
  have hS0 := hS.keep b0
  go_enter Try.func24, Try.ntmps24
  go_upto_region 1 with fail
  obtain ⟨w0, hw0⟩ : ∃ w0, w0 = w.alloc (.cells C 30) := ⟨_, rfl⟩
  rw [← hw0] at hA b0 hS0 ⊢
  clear hw0 hS
  go_upto_region 2 with (refine wpList_bs0 rfl rfl ?_)
  have hown8 : (w0.alloc (.cells #[] 32)).ownsRow w0.heap.size 32 25 (.slice (some ⟨w0.heap.size, 0, none⟩) 0 0) 0 (([] : List EN).flatMap enc25) := World.ownsRow_made w0 #[] 0 (Nat.le_refl _) (by unfold maxLen; omega) rfl
  have b8 := Below.al (Below.refl w0.heap.size w0) (.cells #[] 32)
  obtain ⟨w8, hw8⟩ : ∃ x, x = w0.alloc (.cells #[] 32) := ⟨_, rfl⟩
  rw [← hw8] at hown8 b8 ⊢
  clear hw8
  go_wp2_with fail
  go_loopw [5, 6] (fun v5 v6 wr => ∃ i : Nat, v6 = .int .i64 i ∧ i ≤ n ∧ (∃ LL, Hid (leftP b l = LL ++ leftP b (l.drop i)) ∧ Hid (LL.length ≤ i) ∧ wr.ownsRow w0.heap.size 32 25 v5 LL.length (LL.flatMap enc25)) ∧ Below w0.heap.size w0 wr) (fun _ v6 _ => n - (intOf v6).toNat)
  case atStart => exact ⟨0, rfl, by omega, ⟨[], Lib.hid (by simp), Lib.hid (Nat.le_refl _), hown8⟩, b8⟩
  case round =>
    obtain ⟨i, rfl, hi, ⟨LL, HLL, HLE, hown⟩, bw⟩ := hrel
    clear hown8 b8
    have hll : LL.length ≤ 4096 := by have := HLE.out; omega
    have HFIN : ∀ (W : World) (v : Value) (L : List EN), leftP b l = L → W.ownsRow w0.heap.size 32 25 v L.length (L.flatMap enc25) → Below w0.heap.size w0 W → M (.returned v) W := by
      intro W v L hL hown hb
      rw [HM.out, hL]
      obtain ⟨A3, c3, rfl, hS3, hnew⟩ := sl_of_own (k := 25) (enc := enc25) en25_len hown rfl
      exact ⟨A3, c3, rfl, own_cap hown, hS3, fun h => by subst h; exact own_nil hown, fun b' off sp h => Nat.le_trans b0.size (hnew b' off sp h), bel_via b0 hb⟩
    have HFIN := Lib.hid HFIN
    by_cases hlt : i < n
    · have hml : i < l.length := by rw [HL.out]; exact hlt
      obtain ⟨x, hx⟩ : ∃ x, l[i]? = some x := ⟨_, List.getElem?_eq_getElem hml⟩
      obtain ⟨b', off, hA1, _, hrow⟩ := hS0.row (by omega)
      have hcell := en_cells hrow hx
      have hcell2 := en_row hrow hx
      have hdr : l.drop i = x :: l.drop (i + 1) := by
        rw [List.drop_eq_getElem_cons hml]
        rw [List.getElem?_eq_getElem hml] at hx
        cases hx; rfl
      have hst := HLL.out
      rw [hdr, left_cons] at hst
      have HST := Lib.hid hst; clear hst hdr hx
      have hlti : (i : Int) < (n : Int) := by omega
      have hdn : decide (i < n) = true := by simp [hlt]
      have iE := inf47 x
      have iX := inf29 x.bx
      have cm := fun W : World => rmeetBox_any x.bx b W
      have cv := fun W : World => rcovers_any x.bx b W
      rw [rcvB_eq] at cv
      have kM := inf29 (mbV x.bx b)
      have oM := bx_one (mbV x.bx b)
      have zM : (#[.int .u64 0, .int .u64 0, .int .u64 0, .int .u64 0, .int .u64 0, .int .u64 0, .int .u64 0, .int .u64 0, .int .u64 0, .int .u64 0, .int .u64 0, .int .u64 0, .int .u64 0, .int .u64 0, .int .u64 0, .int .u64 0, .int .u64 0, .int .u64 0, .int .u64 0, .int .u64 0, .int .u64 0, .int .u64 0, .int .u64 0, .int .u64 0] : Array Value).size = (bxc (mbV x.bx b)).size := rfl
      have hnw := fun W : World => en_news W x 32
      obtain ⟨EA, hEA⟩ : ∃ EA, EA = enA x := ⟨_, rfl⟩
      rw [← hEA] at iE hcell2
      simp only [← hEA] at hnw
      have HEA := Lib.hid hEA; clear hEA
      generalize bxc (mbV x.bx b) = MV at *
      generalize bxc x.bx = EB at *
      simp only [← HC.out] at cm cv
      have iE := Lib.hid iE
      have iX := Lib.hid iX
      have kM := Lib.hid kM
      have oM := Lib.hid oM
      have zM := Lib.hid zM
      have hnw := Lib.hid hnw
      obtain ⟨O, hO⟩ : ∃ O, O = mbO x.bx b := ⟨_, rfl⟩
      obtain ⟨V, hV9⟩ : ∃ V, V = cvB x.bx b := ⟨_, rfl⟩
      simp only [← hO, ← hV9] at cm cv HST
      clear hO hV9
      have e0 : ∀ j v, EB.toList[j]? = some v → wr.cell? ((⟨b', off + i * 25, none⟩ : Addr).add j) = some v := fun j v hj => keepc bw (hcell j v hj)
      have f0 : ∀ j v, EA.toList[j]? = some v → wr.cell? ((⟨b', off + i * 25, none⟩ : Addr).add j) = some v := fun j v hj => keepc bw (hcell2 j v hj)
      have e1 := blkB bw hA
      subst hA1
      have hcel0 := Lib.hid hcell
      clear hrow hcell hcell2
      have e0 := Lib.hid e0
      have f0 := Lib.hid f0
      go_wp2_with fail
      obtain ⟨w4, hw4⟩ : ∃ w4, w4 = wr := ⟨_, rfl⟩
      subst hw4
      have hC1 : ∀ w', Below w4.heap.size w4 w' → ((∀ j v, EB.toList[j]? = some v → w'.cell? ((⟨b', off + i * 25, none⟩ : Addr).add j) = some v) ∧ w'.heap[w.heap.size]? = some (.cells C 30)) := fun w' h => ⟨fun j v hj => keepc h (e0.out j v hj), blkB h e1⟩
      have HC1 := Lib.hid hC1; clear hC1
      go_cut [8] from 10 to 42 (fun v8 wx => v8 = .bool O ∧ Below w4.heap.size w4 wx)
      case first =>
        have hC1 := HC1.out
        have hz : ∀ w, (zeroValue 30).run Try.prog w = .ok (.agg #[.int .u64 0, .int .u64 0, .int .u64 0, .int .u64 0, .int .u64 0, .int .u64 0, .int .u64 0, .int .u64 0, .int .u64 0, .int .u64 0, .int .u64 0, .int .u64 0, .int .u64 0, .int .u64 0, .int .u64 0, .int .u64 0, .int .u64 0, .int .u64 0, .int .u64 0, .int .u64 0, .int .u64 0, .int .u64 0, .int .u64 0, .int .u64 0]) w := fun w => by kernel_rfl
        clear HC1 e0 f0 e1 cv HFIN hown bw hA hS0 HST hnw
        refine wp_region_held (S := fun w' => Below w4.heap.size w4 w' ∧ ((∀ j v, EB.toList[j]? = some v → w'.cell? ((⟨b', off + i * 25, none⟩ : Addr).add j) = some v) ∧ w'.heap[w.heap.size]? = some (.cells C 30))) (by kernel_rfl) ?_
        change wpAnyH _ _ _ _ _ _ _ _ (World.drew _)
        have hS0 := keep0 hC1
        generalize w4.drew = wd at hS0 ⊢
        refine wpAnyH_take (i := 0) (oi := ⟨some 17, _, _, _, _, _⟩) (v := ?_) rfl (by kernel_rfl) (by kernel_rfl) (by kernel_rfl) (fun _ _ _ h => h) (Or.inl ⟨by rfl, ?_⟩) hS0 ?_
        rotate_left 1
        · intro W hW
          go_simp
          with_reducible rfl
        refine wpAnyH_take (i := 1) (oi := ⟨some 18, _, _, _, _, _⟩) (v := ?_) rfl (by kernel_rfl) (by kernel_rfl) (by kernel_rfl) (fun _ _ _ h => h) (Or.inl ⟨by rfl, ?_⟩) hS0 ?_
        rotate_left 1
        · intro W hW
          go_simp
          with_reducible rfl
        refine wpAnyH_take (i := 2) (oi := ⟨some 19, _, _, _, _, _⟩) (v := ?_) rfl (by kernel_rfl) (by kernel_rfl) (by kernel_rfl) (fun _ _ _ h => h) (Or.inl ⟨by rfl, ?_⟩) hS0 ?_
        rotate_left 1
        · intro W hW
          go_simp
          with_reducible rfl
        refine wpAnyH_take (i := 3) (oi := ⟨some 20, _, _, _, _, _⟩) (v := ?_) rfl (by kernel_rfl) (by kernel_rfl) (by kernel_rfl) (fun _ _ _ h => h) (Or.inl ⟨by rfl, ?_⟩) hS0 ?_
        rotate_left 1
        · intro W hW
          go_simp
          with_reducible rfl
        refine wpAnyH_take (i := 4) (oi := ⟨some 21, _, _, _, _, _⟩) (v := .agg EB) rfl (by kernel_rfl) (by kernel_rfl) (by kernel_rfl) (fun _ _ _ h => h) (Or.inl ⟨by rfl, fun W hW => exec_cells 30 (.tmp 20) rfl ⟨b', off + i * 25, none⟩ rfl EB _ hW.2.1 Try.underlying30 rfl iX.out⟩) hS0 ?_
        refine wpAnyH_take (i := 5) (oi := ⟨some 22, _, _, _, _, _⟩) (v := .agg C) rfl (by kernel_rfl) (by kernel_rfl) (by kernel_rfl) (fun _ _ _ h => h) (Or.inl ⟨by rfl, fun W hW => exec_row 30 (.tmp 3) rfl w.heap.size rfl 30 C (0, 0) _ hW.2.2 Try.underlying30 rfl iC.out⟩) hS0 ?_
        simp only [Act.put, List.setIfInBounds_toArray, List.set_cons_succ, List.set_cons_zero]
        refine wpAnyH_ready (rs := [6, 10]) (by kernel_rfl) (by simp) ?_
        refine AllReadyH.cons (o := ⟨some 23, _, _, _, _, _⟩) rfl (fun K hK => ?_) (AllReadyH.cons (o := ⟨some 7, _, _, _, _, _⟩) rfl (fun K hK => ?_) AllReadyH.nil)
        · go_simp
          go_at_call 33
          refine (cm _).mono ?_
          rintro e w20 ⟨rfl, hb20⟩
          have hS20 := keepB hC1 hb20 hS0
          refine hK.out _ _ hS20 (fun _ => ?_)
          clear hK K
          refine wpAnyH_take (i := 7) (oi := ⟨some 16, _, _, _, _, _⟩) (v := ?_) rfl (by kernel_rfl) (by kernel_rfl) (by kernel_rfl) (fun _ _ _ h => h) (Or.inl ⟨by rfl, ?_⟩) hS20 ?_
          rotate_left 1
          · intro W hW
            go_simp
            with_reducible rfl
          refine wpAnyH_take (i := 8) (oi := ⟨some 24, _, _, _, _, _⟩) (v := ?_) rfl (by kernel_rfl) (by kernel_rfl) (by kernel_rfl) (fun _ _ _ h => h) (Or.inl ⟨by rfl, ?_⟩) hS20 ?_
          rotate_left 1
          · intro W hW
            go_simp
            with_reducible rfl
          refine wpAnyH_take (i := 9) (oi := ⟨some 25, _, _, _, _, _⟩) (v := ?_) rfl (by kernel_rfl) (by kernel_rfl) (by kernel_rfl) (fun _ _ _ h => h) (Or.inl ⟨by rfl, ?_⟩) hS20 ?_
          rotate_left 1
          · intro W hW
            go_simp
            with_reducible rfl
          simp only [Act.put, List.setIfInBounds_toArray, List.set_cons_succ, List.set_cons_zero]
          refine wpAnyH_ready (rs := [10]) (by kernel_rfl) (by simp) ?_
          refine AllReadyH.cons (o := ⟨some 7, _, _, _, _, _⟩) rfl (fun K hK => ?_) AllReadyH.nil
          refine step_alloc rfl 30 rfl #[.int .u64 0, .int .u64 0, .int .u64 0, .int .u64 0, .int .u64 0, .int .u64 0, .int .u64 0, .int .u64 0, .int .u64 0, .int .u64 0, .int .u64 0, .int .u64 0, .int .u64 0, .int .u64 0, .int .u64 0, .int .u64 0, .int .u64 0, .int .u64 0, .int .u64 0, .int .u64 0, .int .u64 0, .int .u64 0, .int .u64 0, .int .u64 0] hz (fun w21 B hV hb21 hg21 => ?_)
          have hS21 := keepB hC1 hb21 hS20
          have hBs : w4.heap.size ≤ B := Nat.le_trans hS20.1.size hg21
          refine hK.out _ _ hS21 (fun _ => ?_)
          clear hK K
          simp only [Act.put, List.setIfInBounds_toArray, List.set_cons_succ, List.set_cons_zero]
          refine wpAnyH_ready (rs := [11]) (by kernel_rfl) (by simp) ?_
          refine AllReadyH.cons (o := ⟨none, _, _, _, _, _⟩) rfl (fun K hK => ?_) AllReadyH.nil
          refine step_store_row rfl 30 (.tmp 7) (.tmp 24) rfl B MV rfl rfl 30 #[.int .u64 0, .int .u64 0, .int .u64 0, .int .u64 0, .int .u64 0, .int .u64 0, .int .u64 0, .int .u64 0, .int .u64 0, .int .u64 0, .int .u64 0, .int .u64 0, .int .u64 0, .int .u64 0, .int .u64 0, .int .u64 0, .int .u64 0, .int .u64 0, .int .u64 0, .int .u64 0, .int .u64 0, .int .u64 0, .int .u64 0, .int .u64 0] hV kM.out zM.out oM.out ?_
          have hSz := keepS hC1 (Below.setRow hS21.1 hBs MV)
          refine hK.out _ _ hSz (fun _ => ?_)
          clear hK K
          refine wpAnyH_take (i := 12) (oi := ⟨some 8, _, _, _, _, _⟩) (v := ?_) rfl (by kernel_rfl) (by kernel_rfl) (by kernel_rfl) (fun _ _ _ h => h) (Or.inl ⟨by rfl, ?_⟩) hSz ?_
          rotate_left 1
          · intro W hW
            go_simp
            with_reducible rfl
          refine wpAnyH_done (by kernel_rfl) ?_ _
          simp only [Act.put, List.setIfInBounds_toArray, List.set_cons_succ, List.set_cons_zero]
          go_wp2_with fail
          go_meet
          exact ⟨rfl, Below.setRow hS21.1 hBs _⟩
        · refine step_alloc rfl 30 rfl #[.int .u64 0, .int .u64 0, .int .u64 0, .int .u64 0, .int .u64 0, .int .u64 0, .int .u64 0, .int .u64 0, .int .u64 0, .int .u64 0, .int .u64 0, .int .u64 0, .int .u64 0, .int .u64 0, .int .u64 0, .int .u64 0, .int .u64 0, .int .u64 0, .int .u64 0, .int .u64 0, .int .u64 0, .int .u64 0, .int .u64 0, .int .u64 0] hz (fun w20 B hV hb20 hg20 => ?_)
          have hS20 := keepB hC1 hb20 hS0
          have hBs : w4.heap.size ≤ B := Nat.le_trans hS0.1.size hg20
          refine hK.out _ _ hS20 (fun _ => ?_)
          clear hK K
          simp only [Act.put, List.setIfInBounds_toArray, List.set_cons_succ, List.set_cons_zero]
          refine wpAnyH_ready (rs := [6]) (by kernel_rfl) (by simp) ?_
          refine AllReadyH.cons (o := ⟨some 23, _, _, _, _, _⟩) rfl (fun K hK => ?_) AllReadyH.nil
          go_simp
          go_at_call 33
          refine (cm _).mono ?_
          rintro e w21 ⟨rfl, hb21⟩
          have hS21 := keepB hC1 hb21 hS20
          have hV := hV_keep hb21 hV
          refine hK.out _ _ hS21 (fun _ => ?_)
          clear hK K
          refine wpAnyH_take (i := 7) (oi := ⟨some 16, _, _, _, _, _⟩) (v := ?_) rfl (by kernel_rfl) (by kernel_rfl) (by kernel_rfl) (fun _ _ _ h => h) (Or.inl ⟨by rfl, ?_⟩) hS21 ?_
          rotate_left 1
          · intro W hW
            go_simp
            with_reducible rfl
          refine wpAnyH_take (i := 8) (oi := ⟨some 24, _, _, _, _, _⟩) (v := ?_) rfl (by kernel_rfl) (by kernel_rfl) (by kernel_rfl) (fun _ _ _ h => h) (Or.inl ⟨by rfl, ?_⟩) hS21 ?_
          rotate_left 1
          · intro W hW
            go_simp
            with_reducible rfl
          refine wpAnyH_take (i := 9) (oi := ⟨some 25, _, _, _, _, _⟩) (v := ?_) rfl (by kernel_rfl) (by kernel_rfl) (by kernel_rfl) (fun _ _ _ h => h) (Or.inl ⟨by rfl, ?_⟩) hS21 ?_
          rotate_left 1
          · intro W hW
            go_simp
            with_reducible rfl
          simp only [Act.put, List.setIfInBounds_toArray, List.set_cons_succ, List.set_cons_zero]
          refine wpAnyH_ready (rs := [11]) (by kernel_rfl) (by simp) ?_
          refine AllReadyH.cons (o := ⟨none, _, _, _, _, _⟩) rfl (fun K hK => ?_) AllReadyH.nil
          refine step_store_row rfl 30 (.tmp 7) (.tmp 24) rfl B MV rfl rfl 30 #[.int .u64 0, .int .u64 0, .int .u64 0, .int .u64 0, .int .u64 0, .int .u64 0, .int .u64 0, .int .u64 0, .int .u64 0, .int .u64 0, .int .u64 0, .int .u64 0, .int .u64 0, .int .u64 0, .int .u64 0, .int .u64 0, .int .u64 0, .int .u64 0, .int .u64 0, .int .u64 0, .int .u64 0, .int .u64 0, .int .u64 0, .int .u64 0] hV kM.out zM.out oM.out ?_
          have hSz := keepS hC1 (Below.setRow hS21.1 hBs MV)
          refine hK.out _ _ hSz (fun _ => ?_)
          clear hK K
          refine wpAnyH_take (i := 12) (oi := ⟨some 8, _, _, _, _, _⟩) (v := ?_) rfl (by kernel_rfl) (by kernel_rfl) (by kernel_rfl) (fun _ _ _ h => h) (Or.inl ⟨by rfl, ?_⟩) hSz ?_
          rotate_left 1
          · intro W hW
            go_simp
            with_reducible rfl
          refine wpAnyH_done (by kernel_rfl) ?_ _
          simp only [Act.put, List.setIfInBounds_toArray, List.set_cons_succ, List.set_cons_zero]
          go_wp2_with fail
          go_meet
          exact ⟨rfl, Below.setRow hS21.1 hBs _⟩
      case rest =>
        obtain ⟨rfl, hbx⟩ := hcut
        have e1 := blkB hbx e1
        have hown := own_bel hown hbx
        have bw := bel_via bw hbx
        have e0 : ∀ j v, EB.toList[j]? = some v → wc.cell? ((⟨b', off + i * 25, none⟩ : Addr).add j) = some v := fun j v hj => keepc hbx (e0.out j v hj)
        have f0 : ∀ j v, EA.toList[j]? = some v → wc.cell? ((⟨b', off + i * 25, none⟩ : Addr).add j) = some v := fun j v hj => keepc hbx (f0.out j v hj)
        have e0 := Lib.hid e0
        have f0 := Lib.hid f0
        clear HC1 cm hbx
        cases O with
        | false =>
          have hst : leftP b l = LL ++ leftP b (l.drop (i + 1)) := by have h := HST.out; simpa using h
          have HS2 := Lib.hid hst; clear hst
          go_wp2_with fail
          exact ⟨⟨i + 1, by simp, by omega, ⟨LL, HS2, Lib.hid (by have := HLE.out; omega), hown⟩, bw⟩, by simp [intOf]; omega⟩
        | true =>
          have hownA := own_bel hown (Below.al (Below.refl _ wc) (.cells EA 32))
          have hbsA : w0.heap.size ≤ (wc.alloc (.cells EA 32)).heap.size := by rw [al_size]; have := bw.size; omega
          have bwA : Below w0.heap.size w0 (wc.alloc (.cells EA 32)) := bel_via bw (Below.al (Below.refl _ wc) _)
          have h1 := Lib.hid (hnw.out wc)
          have h2 := Lib.hid (en25_one x)
          have hb91 : (LL.length + 1) * 200 ≤ 140737488355328 := by omega
          have h963 : LL.length + 1 ≤ maxLen := by unfold maxLen; omega
          have ho10 := Lib.hid (own_gt hownA)
          go_wp2_with (first | (refine wpList_load_cells rfl 32 (.tmp 31) rfl ⟨b', off + i * 25, none⟩ rfl EA _ f0.out Try.underlying32 rfl iE.out ?_) | (refine wpList_bs1' rfl (.tmp 32) x EA HEA.out rfl rfl ?_) | (at_builtin; go_loud (refine wpList_append_own _ rfl _ _ 22 rfl w0.heap.size 32 iu (.agg #[.int .u64 0, .int .u64 0, .int .u64 0, .int .u64 0, .int .u64 0, .int .u64 0, .int .u64 0, .int .u64 0, .int .u64 0, .int .u64 0, .int .u64 0, .int .u64 0, .int .u64 0, .int .u64 0, .int .u64 0, .int .u64 0, .int .u64 0, .int .u64 0, .int .u64 0, .int .u64 0, .int .u64 0, .int .u64 0, .int .u64 0, .int .u64 0, .int .i64 0]) 25 200 Try.underlying22 hiu hu0 hu1 hu2 rfl (by decide) _ _ _ rfl hownA ⟨wc.heap.size, 0, none⟩ 1 1 (enc25 x) rfl rfl h1.out h2.out h963 hb91 hbsA ?_)))
          intro v10 w10 hown10 hg10 _
          have bw10 : Below w0.heap.size w0 w10 := bwA.grown hg10 hbsA ho10.out
          have hown11 : w10.ownsRow w0.heap.size 32 25 v10 (LL ++ [x]).length ((LL ++ [x]).flatMap enc25) := by simpa using hown10
          -- the entry's box, and the node's, lie as they lay
          have e0' : ∀ j v, EB.toList[j]? = some v → w10.cell? ((⟨b', off + i * 25, none⟩ : Addr).add j) = some v := fun j v hj => keepc bw10 (hcel0.out j v hj)
          have e1' := blkB bw10 hA
          have e0' := Lib.hid e0'
          clear hown10 hg10 hownA h1 h2 hbsA bwA
          go_upto_region 8 with fail
          have q := fun d os => Calls.regrown_of (cv (grow (redrawn w10 d) os))
          refine wp_region_quiet_below (by kernel_rfl) (by kernel_rfl) ?_
          repeat (first | go_big_quiet_skip | (refine quiet_load_cells (by rfl) 30 (.tmp 38) rfl ⟨b', off + i * 25, none⟩ rfl EB _ (rg_cells e0'.out) Try.underlying30 rfl iX.out ?_; simp only [Act.put, List.setIfInBounds_toArray, List.set_cons_succ, List.set_cons_zero]) | (refine quiet_load_row (by rfl) 30 (.tmp 3) rfl w.heap.size rfl 30 C (0, 0) _ (rg_heap e1') Try.underlying30 rfl iC.out ?_; simp only [Act.put, List.setIfInBounds_toArray, List.set_cons_succ, List.set_cons_zero]) | quiet_step (first | (go_at_call 34; with_reducible exact q _ _)))
          refine wpQuiet_nil ?_
          intro _ hw'
          obtain ⟨⟨dq, osq⟩, hw''⟩ := hw'
          subst hw''
          have hbq := below_regrown w10 dq osq
          obtain ⟨wq, hwy⟩ : ∃ x, x = grow (redrawn w10 dq) osq := ⟨_, rfl⟩
          rw [← hwy] at hbq ⊢
          clear hwy q cv
          have hownq := own_bel hown11 hbq
          have bwq := bel_via bw10 hbq
          cases V with
          | true =>
            have hst : leftP b l = LL ++ [x] := by have h := HST.out; simpa using h
            have F := Lib.hid (HFIN.out _ _ _ hst hownq bwq)
            clear hst
            go_wp2_with fail
            first | exact F.out | (simp [bodyPost, results, Try.results24, go_sem]; exact F.out) | (go_ret; exact F.out)
          | false =>
            have hst : leftP b l = (LL ++ [x]) ++ leftP b (l.drop (i + 1)) := by have h := HST.out; simpa using h
            have HS2 := Lib.hid hst; clear hst
            go_wp2_with fail
            refine ⟨?_, by simp [intOf]; omega⟩
            first | exact ⟨i + 1, by simp, by omega, ⟨LL ++ [x], HS2, Lib.hid (by simp; exact HLE.out), hownq⟩, bwq⟩ | ((repeat apply Exists.intro); exact ⟨⟨i + 1, by simp, by omega, ⟨LL ++ [x], HS2, Lib.hid (by simp; exact HLE.out), hownq⟩, bwq⟩, rfl⟩)
    · obtain rfl : i = n := by omega
      have hd0 : decide (i < i) = false := by simp
      have hdi : decide ((i : Int) < (i : Int)) = false := by simp
      have hst : leftP b l = LL := by have h := HLL.out; rw [List.drop_of_length_le (by rw [HL.out]; exact Nat.le_refl _)] at h; simpa [leftP] using h
      have F := Lib.hid (HFIN.out _ _ _ hst hown bw)
      clear hst
      go_wp2_with fail
      first | exact F.out | (simp [bodyPost, results, Try.results24, go_sem]; exact F.out) | (go_ret; exact F.out)
end Go.Proofs.Ytomennaekjklbaa
