/- Boxes: how they are split, where they may be; the program's; by-name template (gen_csplit.py). -/
import Derived.Test.YtomennaekjklbaaCSplit
namespace Go.Proofs.Ytomennaekjklbaa
open Go.RowKit Go.Lib Go.Sort
set_option linter.unusedVariables false
set_option linter.unusedSimpArgs false

set_option maxRecDepth 100000 in
set_option maxHeartbeats 8000000 in
theorem split_yes (b : Nat → R4) (k : Nat) (hk : k < 6) (p : P2) (hX : icB (b k) p = true) (wb : WB b) (h0 : Word p.h) (h1 : Word p.l) (w : World) : Calls Try.prog 54 #[.agg (bxc b), .int .i64 k, .agg #[.int .u64 p.h, .int .u64 p.l]] w fun e w' => e = .returned (.tuple #[.agg (bxc (upd b k ⟨(b k).fh, (b k).fl, p.h, p.l⟩)), .agg (bxc (upd b k ⟨(nx p).h, (nx p).l, (b k).th, (b k).tl⟩)), .bool true]) ∧ Below w.heap.size w w' := by
  have cn := fun W : World => next_any p.h p.l h0 h1 W
  rw [nextT_ok p (ic_next hX (wb k hk).2.2.1 (wb k hk).2.2.2)] at cn
  clear h0 h1 wb
  obtain ⟨LV, hLV⟩ : ∃ V, V = bxc (upd b k ⟨(b k).fh, (b k).fl, p.h, p.l⟩) := ⟨_, rfl⟩
  obtain ⟨HV, hHV⟩ : ∃ V, V = bxc (upd b k ⟨(nx p).h, (nx p).l, (b k).th, (b k).tl⟩) := ⟨_, rfl⟩
  rw [← hLV, ← hHV]
  have HLV := Lib.hid hLV; clear hLV
  have HHV := Lib.hid hHV; clear hHV
  obtain ⟨C, hC⟩ : ∃ C, C = bxc b := ⟨_, rfl⟩
  obtain ⟨Z, hZ⟩ : ∃ Z, Z = bxc (fun _ => zr4) := ⟨_, rfl⟩
  rw [← hC]
  have HC := Lib.hid hC; clear hC
  have HZ := Lib.hid hZ; clear hZ
  have ci := isField_any (k : Int)
  rw [show (decide (0 ≤ (k : Int)) && decide ((k : Int) < 6)) = true by simp; omega] at ci
  have cc := isCut_any (b k) p
  rw [hX] at cc
  clear hX
  have hk0 : (0 : Int) ≤ (k : Int) := by omega
  have hk1 : (k : Int) < 6 := by omega
  go_enter Try.func54, Try.ntmps54
  go_wp2_with fail
  obtain ⟨w0, hw0⟩ : ∃ w0, w0 = World.alloc (World.alloc ((w.alloc (.cells C 30)).alloc (.cells #[.int .u64 p.h, .int .u64 p.l] 25)) (.cells #[.int .u64 0, .int .u64 0, .int .u64 0, .int .u64 0, .int .u64 0, .int .u64 0, .int .u64 0, .int .u64 0, .int .u64 0, .int .u64 0, .int .u64 0, .int .u64 0, .int .u64 0, .int .u64 0, .int .u64 0, .int .u64 0, .int .u64 0, .int .u64 0, .int .u64 0, .int .u64 0, .int .u64 0, .int .u64 0, .int .u64 0, .int .u64 0] 30)) (.cells #[.int .u64 0, .int .u64 0, .int .u64 0, .int .u64 0, .int .u64 0, .int .u64 0, .int .u64 0, .int .u64 0, .int .u64 0, .int .u64 0, .int .u64 0, .int .u64 0, .int .u64 0, .int .u64 0, .int .u64 0, .int .u64 0, .int .u64 0, .int .u64 0, .int .u64 0, .int .u64 0, .int .u64 0, .int .u64 0, .int .u64 0, .int .u64 0] 30) := ⟨_, rfl⟩
  have A0 : w0.heap[w.heap.size]? = some (.cells C 30) := by rw [hw0]; exact blk_al (blk_al (blk_al (heap_alloc_new w _) _) _) _
  have A1 : w0.heap[w.heap.size + 1]? = some (.cells #[.int .u64 p.h, .int .u64 p.l] 25) := by rw [hw0]; exact blk_al (blk_al (al_new (al_size _ _).symm _) _) _
  have A2 : w0.heap[w.heap.size + 2]? = some (.cells Z 30) := by rw [hw0, HZ.out, bxc_zero]; exact blk_al (al_new (by rw [al_size, al_size]) _) _
  have A3 : w0.heap[w.heap.size + 3]? = some (.cells Z 30) := by rw [hw0, HZ.out, bxc_zero]; exact al_new (by rw [al_size, al_size, al_size]) _
  have b0 : Below w.heap.size w w0 := by rw [hw0]; exact Below.al (Below.al (Below.al (Below.al (Below.refl _ _) _) _) _) _
  rw [← hw0]
  clear hw0
  obtain ⟨y0, y1, y2, y3⟩ := BoxAt.of (b := b) (by rw [← HC.out]; exact A0) k hk
  obtain ⟨z0, z1, _, _⟩ := cells2 A1
  have k_y0 := cell_regrown y0
  have k_y1 := cell_regrown y1
  have k_y2 := cell_regrown y2
  have k_y3 := cell_regrown y3
  have k_z0 := cell_regrown z0
  have k_z1 := cell_regrown z1
  have q := fun d os => Calls.regrown_of (ci (grow (redrawn w0 d) os))
  have q2 := fun d os => Calls.regrown_of (cc (grow (redrawn w0 d) os))
  clear y0 y1 y2 y3 z0 z1
  refine wp_region_quiet_below (by kernel_rfl) (by kernel_rfl) ?_
  repeat (first | go_big_quiet_skip | quiet_step (first | (go_at_call 58; with_reducible exact q _ _) | (go_at_call 60; with_reducible exact q2 _ _)))
  refine wpQuiet_nil ?_
  intro _ hw'
  obtain ⟨⟨dq, osq⟩, hw''⟩ := hw'
  subst hw''
  have D0 := blkB (below_regrown w0 dq osq) A0
  have D1 := blkB (below_regrown w0 dq osq) A1
  have D2 := blkB (below_regrown w0 dq osq) A2
  have D3 := blkB (below_regrown w0 dq osq) A3
  have bd := bel_via b0 (below_regrown w0 dq osq)
  obtain ⟨w3, hw3⟩ : ∃ x, x = grow (redrawn w0 dq) osq := ⟨_, rfl⟩
  rw [← hw3] at D0 D1 D2 D3 bd ⊢
  clear hw3 A0 A1 A2 A3 b0 ci q cc q2 k_y0 k_y1 k_y2 k_y3 k_z0 k_z1
  go_wp2_with fail
  go_cut [9, 10] from 25 to 27 (fun v9 v10 wx => ∃ P Q, v9 = .pointer (some ⟨P, 0, none⟩) ∧ v10 = .pointer (some ⟨Q, 0, none⟩) ∧ w3.heap.size ≤ P ∧ w3.heap.size ≤ Q ∧ P ≠ Q ∧ Below w3.heap.size w3 wx ∧ wx.heap[P]? = some (.cells C 30 (0, 0)) ∧ wx.heap[Q]? = some (.cells C 30 (0, 0)))
  case first =>
    have hz : ∀ w, (zeroValue 30).run Try.prog w = .ok (.agg #[.int .u64 0, .int .u64 0, .int .u64 0, .int .u64 0, .int .u64 0, .int .u64 0, .int .u64 0, .int .u64 0, .int .u64 0, .int .u64 0, .int .u64 0, .int .u64 0, .int .u64 0, .int .u64 0, .int .u64 0, .int .u64 0, .int .u64 0, .int .u64 0, .int .u64 0, .int .u64 0, .int .u64 0, .int .u64 0, .int .u64 0, .int .u64 0]) w := fun w => by kernel_rfl
    have i29 : (Try.prog.info? 30).map (·.size) = some C.size := by rw [HC.out]; exact inf29 _
    have i1 : C.all (·.oneCell') = true := by rw [HC.out]; exact bx_one _
    have zC : (#[.int .u64 0, .int .u64 0, .int .u64 0, .int .u64 0, .int .u64 0, .int .u64 0, .int .u64 0, .int .u64 0, .int .u64 0, .int .u64 0, .int .u64 0, .int .u64 0, .int .u64 0, .int .u64 0, .int .u64 0, .int .u64 0, .int .u64 0, .int .u64 0, .int .u64 0, .int .u64 0, .int .u64 0, .int .u64 0, .int .u64 0, .int .u64 0] : Array Value).size = C.size := by rw [HC.out]; rfl
    have i29 := Lib.hid i29
    have i1 := Lib.hid i1
    have zC := Lib.hid zC
    have hC1 : ∀ w', Below w3.heap.size w3 w' → w'.heap[w.heap.size]? = some (.cells C 30) := fun w' h => blkB h D0
    refine wp_region_held (S := fun w' => Below w3.heap.size w3 w' ∧ w'.heap[w.heap.size]? = some (.cells C 30)) (by kernel_rfl) ?_
    change wpAnyH _ _ _ _ _ _ _ _ (World.drew _)
    have hS0 := keep0 hC1
    generalize w3.drew = wd at hS0 ⊢
    refine wpAnyH_take (i := 0) (oi := ⟨some 25, _, _, _, _, _⟩) (v := .agg C) rfl (by kernel_rfl) (by kernel_rfl) (by kernel_rfl) (fun _ _ _ h => h) (Or.inl ⟨by rfl, fun W hW => exec_row 30 (.tmp 3) rfl w.heap.size rfl 30 C (0, 0) _ hW.2 Try.underlying30 rfl i29.out⟩) hS0 ?_
    refine wpAnyH_take (i := 1) (oi := ⟨some 26, _, _, _, _, _⟩) (v := .agg C) rfl (by kernel_rfl) (by kernel_rfl) (by kernel_rfl) (fun _ _ _ h => h) (Or.inl ⟨by rfl, fun W hW => exec_row 30 (.tmp 3) rfl w.heap.size rfl 30 C (0, 0) _ hW.2 Try.underlying30 rfl i29.out⟩) hS0 ?_
    refine wpAnyH_ready (rs := [2, 3]) (by kernel_rfl) (by simp) ?_
    refine AllReadyH.cons (o := ⟨some 9, _, _, _, _, _⟩) rfl (fun K hK => ?_) (AllReadyH.cons (o := ⟨some 10, _, _, _, _, _⟩) rfl (fun K hK => ?_) AllReadyH.nil)
    · refine step_alloc rfl 30 rfl #[.int .u64 0, .int .u64 0, .int .u64 0, .int .u64 0, .int .u64 0, .int .u64 0, .int .u64 0, .int .u64 0, .int .u64 0, .int .u64 0, .int .u64 0, .int .u64 0, .int .u64 0, .int .u64 0, .int .u64 0, .int .u64 0, .int .u64 0, .int .u64 0, .int .u64 0, .int .u64 0, .int .u64 0, .int .u64 0, .int .u64 0, .int .u64 0] hz (fun w20 P hVP hb20 hg20 => ?_)
      have hS20 := keepB hC1 hb20 hS0
      have hsP : w3.heap.size ≤ P := Nat.le_trans hS0.1.size hg20
      refine hK.out _ _ hS20 (fun _ => ?_)
      clear hK K
      refine wpAnyH_ready (rs := [3]) (by kernel_rfl) (by simp) ?_
      refine AllReadyH.cons (o := ⟨some 10, _, _, _, _, _⟩) rfl (fun K hK => ?_) AllReadyH.nil
      refine step_alloc rfl 30 rfl #[.int .u64 0, .int .u64 0, .int .u64 0, .int .u64 0, .int .u64 0, .int .u64 0, .int .u64 0, .int .u64 0, .int .u64 0, .int .u64 0, .int .u64 0, .int .u64 0, .int .u64 0, .int .u64 0, .int .u64 0, .int .u64 0, .int .u64 0, .int .u64 0, .int .u64 0, .int .u64 0, .int .u64 0, .int .u64 0, .int .u64 0, .int .u64 0] hz (fun w21 Q hVQ hb21 hg21 => ?_)
      have hS21 := keepB hC1 hb21 hS20
      have hsQ : w3.heap.size ≤ Q := Nat.le_trans hS20.1.size hg21
      have hVPold := hVP
      have hVP := hV_keep hb21 hVP
      have hne : P ≠ Q := by exact fun e => absurd hg21 (by have := blk_lt hVPold; omega)
      refine hK.out _ _ hS21 (fun _ => ?_)
      clear hK K
      refine wpAnyH_ready (rs := [4]) (by kernel_rfl) (by simp) ?_
      refine AllReadyH.cons (o := ⟨none, _, _, _, _, _⟩) rfl (fun K hK => ?_) AllReadyH.nil
      refine step_store_row rfl 30 (.tmp 9) (.tmp 25) rfl P C rfl rfl 30 #[.int .u64 0, .int .u64 0, .int .u64 0, .int .u64 0, .int .u64 0, .int .u64 0, .int .u64 0, .int .u64 0, .int .u64 0, .int .u64 0, .int .u64 0, .int .u64 0, .int .u64 0, .int .u64 0, .int .u64 0, .int .u64 0, .int .u64 0, .int .u64 0, .int .u64 0, .int .u64 0, .int .u64 0, .int .u64 0, .int .u64 0, .int .u64 0] hVP i29.out zC.out i1.out ?_
      have hS22 := keepS hC1 (Below.setRow hS21.1 hsP C)
      have hVP := blk_setRow hVP C
      have hVQ : (w21.setRow P C).heap[Q]? = some (.cells #[.int .u64 0, .int .u64 0, .int .u64 0, .int .u64 0, .int .u64 0, .int .u64 0, .int .u64 0, .int .u64 0, .int .u64 0, .int .u64 0, .int .u64 0, .int .u64 0, .int .u64 0, .int .u64 0, .int .u64 0, .int .u64 0, .int .u64 0, .int .u64 0, .int .u64 0, .int .u64 0, .int .u64 0, .int .u64 0, .int .u64 0, .int .u64 0] 30) := by rw [setRow_other (Ne.symm hne)]; exact hVQ
      refine hK.out _ _ hS22 (fun _ => ?_)
      clear hK K
      refine wpAnyH_ready (rs := [5]) (by kernel_rfl) (by simp) ?_
      refine AllReadyH.cons (o := ⟨none, _, _, _, _, _⟩) rfl (fun K hK => ?_) AllReadyH.nil
      refine step_store_row rfl 30 (.tmp 10) (.tmp 26) rfl Q C rfl rfl 30 #[.int .u64 0, .int .u64 0, .int .u64 0, .int .u64 0, .int .u64 0, .int .u64 0, .int .u64 0, .int .u64 0, .int .u64 0, .int .u64 0, .int .u64 0, .int .u64 0, .int .u64 0, .int .u64 0, .int .u64 0, .int .u64 0, .int .u64 0, .int .u64 0, .int .u64 0, .int .u64 0, .int .u64 0, .int .u64 0, .int .u64 0, .int .u64 0] hVQ i29.out zC.out i1.out ?_
      have hS23 := keepS hC1 (Below.setRow hS22.1 hsQ C)
      have hVP2 : ((w21.setRow P C).setRow Q C).heap[P]? = some (.cells C 30) := by rw [setRow_other hne]; exact hVP
      refine hK.out _ _ hS23 (fun _ => ?_)
      clear hK K
      refine wpAnyH_done (by kernel_rfl) ?_ _
      simp only [Act.put, List.setIfInBounds_toArray, List.set_cons_succ, List.set_cons_zero]
      go_wp2_with fail
      go_meet
      exact ⟨P, Q, rfl, rfl, hsP, hsQ, hne, hS23.1, hVP2, blk_setRow hVQ C⟩
    · refine step_alloc rfl 30 rfl #[.int .u64 0, .int .u64 0, .int .u64 0, .int .u64 0, .int .u64 0, .int .u64 0, .int .u64 0, .int .u64 0, .int .u64 0, .int .u64 0, .int .u64 0, .int .u64 0, .int .u64 0, .int .u64 0, .int .u64 0, .int .u64 0, .int .u64 0, .int .u64 0, .int .u64 0, .int .u64 0, .int .u64 0, .int .u64 0, .int .u64 0, .int .u64 0] hz (fun w20 Q hVQ hb20 hg20 => ?_)
      have hS20 := keepB hC1 hb20 hS0
      have hsQ : w3.heap.size ≤ Q := Nat.le_trans hS0.1.size hg20
      refine hK.out _ _ hS20 (fun _ => ?_)
      clear hK K
      refine wpAnyH_ready (rs := [2]) (by kernel_rfl) (by simp) ?_
      refine AllReadyH.cons (o := ⟨some 9, _, _, _, _, _⟩) rfl (fun K hK => ?_) AllReadyH.nil
      refine step_alloc rfl 30 rfl #[.int .u64 0, .int .u64 0, .int .u64 0, .int .u64 0, .int .u64 0, .int .u64 0, .int .u64 0, .int .u64 0, .int .u64 0, .int .u64 0, .int .u64 0, .int .u64 0, .int .u64 0, .int .u64 0, .int .u64 0, .int .u64 0, .int .u64 0, .int .u64 0, .int .u64 0, .int .u64 0, .int .u64 0, .int .u64 0, .int .u64 0, .int .u64 0] hz (fun w21 P hVP hb21 hg21 => ?_)
      have hS21 := keepB hC1 hb21 hS20
      have hsP : w3.heap.size ≤ P := Nat.le_trans hS20.1.size hg21
      have hVQold := hVQ
      have hVQ := hV_keep hb21 hVQ
      have hne : P ≠ Q := by exact fun e => absurd hg21 (by have := blk_lt hVQold; omega)
      refine hK.out _ _ hS21 (fun _ => ?_)
      clear hK K
      refine wpAnyH_ready (rs := [4]) (by kernel_rfl) (by simp) ?_
      refine AllReadyH.cons (o := ⟨none, _, _, _, _, _⟩) rfl (fun K hK => ?_) AllReadyH.nil
      refine step_store_row rfl 30 (.tmp 9) (.tmp 25) rfl P C rfl rfl 30 #[.int .u64 0, .int .u64 0, .int .u64 0, .int .u64 0, .int .u64 0, .int .u64 0, .int .u64 0, .int .u64 0, .int .u64 0, .int .u64 0, .int .u64 0, .int .u64 0, .int .u64 0, .int .u64 0, .int .u64 0, .int .u64 0, .int .u64 0, .int .u64 0, .int .u64 0, .int .u64 0, .int .u64 0, .int .u64 0, .int .u64 0, .int .u64 0] hVP i29.out zC.out i1.out ?_
      have hS22 := keepS hC1 (Below.setRow hS21.1 hsP C)
      have hVP := blk_setRow hVP C
      have hVQ : (w21.setRow P C).heap[Q]? = some (.cells #[.int .u64 0, .int .u64 0, .int .u64 0, .int .u64 0, .int .u64 0, .int .u64 0, .int .u64 0, .int .u64 0, .int .u64 0, .int .u64 0, .int .u64 0, .int .u64 0, .int .u64 0, .int .u64 0, .int .u64 0, .int .u64 0, .int .u64 0, .int .u64 0, .int .u64 0, .int .u64 0, .int .u64 0, .int .u64 0, .int .u64 0, .int .u64 0] 30) := by rw [setRow_other (Ne.symm hne)]; exact hVQ
      refine hK.out _ _ hS22 (fun _ => ?_)
      clear hK K
      refine wpAnyH_ready (rs := [5]) (by kernel_rfl) (by simp) ?_
      refine AllReadyH.cons (o := ⟨none, _, _, _, _, _⟩) rfl (fun K hK => ?_) AllReadyH.nil
      refine step_store_row rfl 30 (.tmp 10) (.tmp 26) rfl Q C rfl rfl 30 #[.int .u64 0, .int .u64 0, .int .u64 0, .int .u64 0, .int .u64 0, .int .u64 0, .int .u64 0, .int .u64 0, .int .u64 0, .int .u64 0, .int .u64 0, .int .u64 0, .int .u64 0, .int .u64 0, .int .u64 0, .int .u64 0, .int .u64 0, .int .u64 0, .int .u64 0, .int .u64 0, .int .u64 0, .int .u64 0, .int .u64 0, .int .u64 0] hVQ i29.out zC.out i1.out ?_
      have hS23 := keepS hC1 (Below.setRow hS22.1 hsQ C)
      have hVP2 : ((w21.setRow P C).setRow Q C).heap[P]? = some (.cells C 30) := by rw [setRow_other hne]; exact hVP
      refine hK.out _ _ hS23 (fun _ => ?_)
      clear hK K
      refine wpAnyH_done (by kernel_rfl) ?_ _
      simp only [Act.put, List.setIfInBounds_toArray, List.set_cons_succ, List.set_cons_zero]
      go_wp2_with fail
      go_meet
      exact ⟨P, Q, rfl, rfl, hsP, hsQ, hne, hS23.1, hVP2, blk_setRow hVQ C⟩

  case rest =>
    obtain ⟨P, Q, rfl, rfl, hsP, hsQ, hne, hbx, hVP, hVQ⟩ := hcut
    have hl3 := blk_lt D3
    have D1 := blkB hbx D1
    have D2 := blkB hbx D2
    have D3 := blkB hbx D3
    have bc := bel_via bd hbx
    clear hbx D0 bd
    obtain ⟨z0, z1, _, _⟩ := cells2 D1
    obtain ⟨y0, y1, y2, y3⟩ := BoxAt.of (b := b) (by rw [← HC.out]; exact hVP) k hk
    have f0 := fr4 hVP
    have hP0 : w.heap.size + 1 ≠ P := by omega
    have hP2 : w.heap.size + 2 ≠ P := by omega
    have hP3 : w.heap.size + 3 ≠ P := by omega
    have hQ0 : w.heap.size + 1 ≠ Q := by omega
    have hQ2 : w.heap.size + 2 ≠ Q := by omega
    have hQ3 : w.heap.size + 3 ≠ Q := by omega
    have hlP : w.heap.size ≤ P := by omega
    have hlQ : w.heap.size ≤ Q := by omega
    go_wp2_with fail
    obtain ⟨w6, hw6⟩ : ∃ x, x = (wc.setCell ⟨P, k * 4 + 2, none⟩ (.int .u64 p.h)).setCell ⟨P, k * 4 + 3, none⟩ (.int .u64 p.l) := ⟨_, rfl⟩
    have E0 : w6.heap[P]? = some (.cells (bxc (upd b k ⟨(b k).fh, (b k).fl, p.h, p.l⟩)) 30 (0, 0)) := by rw [hw6]; exact bset2 (b := b) (by rw [← HC.out]; exact hVP) k hk _ _
    have E1 : w6.heap[Q]? = some (.cells C 30 (0, 0)) := by rw [hw6, set_other (Ne.symm hne), set_other (Ne.symm hne)]; exact hVQ
    have E4 : w6.heap[w.heap.size + 1]? = some (.cells #[.int .u64 p.h, .int .u64 p.l] 25) := by rw [hw6, set_other hP0, set_other hP0]; exact D1
    have E2 : w6.heap[w.heap.size + 2]? = some (.cells Z 30) := by rw [hw6, set_other hP2, set_other hP2]; exact D2
    have E3 : w6.heap[w.heap.size + 3]? = some (.cells Z 30) := by rw [hw6, set_other hP3, set_other hP3]; exact D3
    have b6 : Below w.heap.size w w6 := by rw [hw6]; exact below_set (below_set bc hlP _ _) hlP _ _
    rw [← hw6]
    clear hw6 y0 y1 y2 y3 z0 z1 f0 hVP hVQ D1 D2 D3 bc
    refine (cn _).mono ?_
    rintro e w7 ⟨rfl, hb7⟩
    have E0 := blkB hb7 E0
    have E1 := blkB hb7 E1
    have E2 := blkB hb7 E2
    have E3 := blkB hb7 E3
    have b7 := bel_via b6 hb7
    clear hb7 b6 E4 cn
    obtain ⟨y0, y1, y2, y3⟩ := BoxAt.of (b := b) (by rw [← HC.out]; exact E1) k hk
    have f0 := fr4 E1
    have hQ := Lib.hid (bset2f (b := b) (by rw [← HC.out]; exact E1) k hk (nx p).h (nx p).l)

    go_wp2_with fail
    obtain ⟨w8, hw8⟩ : ∃ x, x = (w7.setCell ⟨Q, k * 4, none⟩ (.int .u64 (nx p).h)).setCell ⟨Q, k * 4 + 1, none⟩ (.int .u64 (nx p).l) := ⟨_, rfl⟩
    have G0 : w8.heap[P]? = some (.cells LV 30 (0, 0)) := by rw [hw8, set_other hne, set_other hne, HLV.out]; exact E0
    have G1 : w8.heap[Q]? = some (.cells HV 30 (0, 0)) := by rw [hw8, HHV.out]; exact hQ.out
    have G2 : w8.heap[w.heap.size + 2]? = some (.cells Z 30 (0, 0)) := by rw [hw8, set_other hQ2, set_other hQ2]; exact E2
    have G3 : w8.heap[w.heap.size + 3]? = some (.cells Z 30 (0, 0)) := by rw [hw8, set_other hQ3, set_other hQ3]; exact E3
    have b8 : Below w.heap.size w w8 := by rw [hw8]; exact below_set (below_set b7 hlQ _ _) hlQ _ _
    rw [← hw8]
    clear hw8 y0 y1 y2 y3 f0 hQ E0 E1 E2 E3 b7
    have iL : (Try.prog.info? 30).map (·.size) = some LV.size := by rw [HLV.out]; exact inf29 _
    have iH : (Try.prog.info? 30).map (·.size) = some HV.size := by rw [HHV.out]; exact inf29 _
    have oL : LV.all (·.oneCell') = true := by rw [HLV.out]; exact bx_one _
    have oH : HV.all (·.oneCell') = true := by rw [HHV.out]; exact bx_one _
    have zL : Z.size = LV.size := by rw [HZ.out, HLV.out]; rfl
    have zH : Z.size = HV.size := by rw [HZ.out, HHV.out]; rfl
    have iL := Lib.hid iL
    have iH := Lib.hid iH
    have oL := Lib.hid oL
    have oH := Lib.hid oH
    have zL := Lib.hid zL
    have zH := Lib.hid zH
    have hS0 : Below w8.heap.size w8 w8.drew ∧ True := ⟨Below.dr (Below.refl _ _), trivial⟩
    refine wp_region_held (S := fun w' => w'.heap[P]? = some (.cells LV 30) ∧ w'.heap[Q]? = some (.cells HV 30)) (by kernel_rfl) ?_
    change wpAnyH _ _ _ _ _ _ _ _ (World.drew _)
    have hS0 : w8.drew.heap[P]? = some (.cells LV 30) ∧ w8.drew.heap[Q]? = some (.cells HV 30) := ⟨G0, G1⟩
    have F2 : w8.drew.heap[w.heap.size + 2]? = some (.cells Z 30) := G2
    have F3 : w8.drew.heap[w.heap.size + 3]? = some (.cells Z 30) := G3
    have bd : Below w.heap.size w w8.drew := Below.dr b8
    generalize w8.drew = wd at hS0 F2 F3 bd ⊢
    refine wpAnyH_take (i := 0) (oi := ⟨some 41, _, _, _, _, _⟩) (v := .agg LV) rfl (by kernel_rfl) (by kernel_rfl) (by kernel_rfl) (fun _ _ _ h => h) (Or.inl ⟨by rfl, fun W hW => exec_row 30 (.tmp 9) rfl P rfl 30 LV (0, 0) _ hW.1 Try.underlying30 rfl iL.out⟩) hS0 ?_
    refine wpAnyH_take (i := 1) (oi := ⟨some 42, _, _, _, _, _⟩) (v := .agg HV) rfl (by kernel_rfl) (by kernel_rfl) (by kernel_rfl) (fun _ _ _ h => h) (Or.inl ⟨by rfl, fun W hW => exec_row 30 (.tmp 10) rfl Q rfl 30 HV (0, 0) _ hW.2 Try.underlying30 rfl iH.out⟩) hS0 ?_
    refine wpAnyH_ready (rs := [2]) (by kernel_rfl) (by simp) ?_
    refine AllReadyH.cons (o := ⟨none, _, _, _, _, _⟩) rfl (fun K hK => ?_) AllReadyH.nil
    refine step_store_row rfl 30 (.tmp 6) (.tmp 41) rfl (w.heap.size + 2) LV rfl rfl 30 Z F2 iL.out zL.out oL.out ?_
    have F3' : (wd.setRow (w.heap.size + 2) LV).heap[w.heap.size + 3]? = some (.cells Z 30) := by rw [setRow_other (by omega)]; exact F3
    have F2' := blk_setRow F2 LV
    have hS1 : (wd.setRow (w.heap.size + 2) LV).heap[P]? = some (.cells LV 30) ∧ (wd.setRow (w.heap.size + 2) LV).heap[Q]? = some (.cells HV 30) := by rw [setRow_other (Ne.symm hP2), setRow_other (Ne.symm hQ2)]; exact hS0
    refine hK.out _ _ hS1 (fun _ => ?_)
    clear hK K
    refine wpAnyH_ready (rs := [3]) (by kernel_rfl) (by simp) ?_
    refine AllReadyH.cons (o := ⟨none, _, _, _, _, _⟩) rfl (fun K hK => ?_) AllReadyH.nil
    refine step_store_row rfl 30 (.tmp 7) (.tmp 42) rfl (w.heap.size + 3) HV rfl rfl 30 Z F3' iH.out zH.out oH.out ?_
    have F2'' : ((wd.setRow (w.heap.size + 2) LV).setRow (w.heap.size + 3) HV).heap[w.heap.size + 2]? = some (.cells LV 30) := by rw [setRow_other (by omega)]; exact F2'
    have F3'' := blk_setRow F3' HV
    have hS2 : ((wd.setRow (w.heap.size + 2) LV).setRow (w.heap.size + 3) HV).heap[P]? = some (.cells LV 30) ∧ ((wd.setRow (w.heap.size + 2) LV).setRow (w.heap.size + 3) HV).heap[Q]? = some (.cells HV 30) := by rw [setRow_other (Ne.symm hP3), setRow_other (Ne.symm hQ3)]; exact hS1
    refine hK.out _ _ hS2 (fun _ => ?_)
    clear hK K
    refine wpAnyH_take (i := 4) (oi := ⟨some 8, _, _, _, _, _⟩) (v := .bool true) rfl (by kernel_rfl) (by kernel_rfl) (by kernel_rfl) (fun _ _ _ h => h) (Or.inl ⟨by rfl, fun W hW => by go_simp⟩) hS2 ?_
    refine wpAnyH_done (by kernel_rfl) ?_ _
    simp only [Act.put, List.setIfInBounds_toArray, List.set_cons_succ, List.set_cons_zero]
    go_wp2_with fail
    refine bodyPost_ret_by (res_row3 Try.results54 _ _ (w.heap.size + 2) (w.heap.size + 3) 30 30 LV HV _ _ rfl F2'' Try.underlying30 iL.out rfl F3'' Try.underlying30 iH.out) rfl ⟨rfl, Below.setRow (Below.setRow bd (by omega) _) (by omega) _⟩


/-- Split, any input. -/
theorem split_any (b : Nat → R4) (f : Int) (p : P2) (wb : WB b) (h0 : Word p.h) (h1 : Word p.l) (w : World) : Calls Try.prog 54 #[.agg (bxc b), .int .i64 f, .agg #[.int .u64 p.h, .int .u64 p.l]] w fun e w' => e = .returned (.tuple #[.agg (bxc (spL b f p)), .agg (bxc (spH b f p)), .bool (spO b f p)]) ∧ Below w.heap.size w w' := by
  cases hf : (decide (0 ≤ f) && decide (f < 6)) with
  | false =>
    have e : spO b f p = false := by unfold spO; rw [hf]; rfl
    rw [(sp_no e).1, (sp_no e).2, e]
    exact split_out b f p hf w
  | true =>
    simp only [Bool.and_eq_true, decide_eq_true_eq] at hf
    obtain ⟨k, rfl⟩ := Int.eq_ofNat_of_zero_le hf.1
    have hk : k < 6 := by omega
    cases hX : icB (b k) p with
    | false =>
      have e := sp_none (b := b) (k := k) (p := p) hX
      rw [(sp_no e).1, (sp_no e).2, e]
      exact split_no b k hk p hX w
    | true =>
      obtain ⟨e1, e2, e3⟩ := sp_yes (b := b) hk hX
      rw [e1, e2, e3]
      exact split_yes b k hk p hX wb h0 h1 w
end Go.Proofs.Ytomennaekjklbaa
