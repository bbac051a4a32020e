/- WindowClosed: the walk; by-name template (gen_wi2.py). -/
import Derived.Test.YtdgodndaaenafabWiK
namespace Go.Proofs.Ytdgodndaaenafab
open Go.RowKit Go.Lib Go.Sort
set_option linter.unusedVariables false
set_option linter.unusedSimpArgs false

set_option maxRecDepth 100000 in
set_option maxHeartbeats 8000000 in
theorem closed_any (f : TR) (A : Option Addr) (n cap : Nat) (l : List WS) (w : World) (hS : Sl w 11 wscells A n l) : Calls Try.prog 4 #[.agg (TA f), .slice A n cap] w (LawPost w) := by
  have HSl := Lib.hid hS
  have hLl := hS.len
  have hbig := hS.big
  obtain ⟨W, hW⟩ : ∃ W, W = w.alloc (.cells (TA f) 24) := ⟨_, rfl⟩
  have HW : Hid (W = w.alloc (.cells (TA f) 24)) := Lib.hid hW
  have HB : Hid (Below w.heap.size w W) := Lib.hid (by rw [hW]; exact bel_al _ _)
  have HT : Hid (W.heap[w.heap.size]? = some (.cells (TA f) 24 (0, 0))) := Lib.hid (by rw [hW]; exact blk_new w _)
  clear hW hS
  by_cases hn : 4096 < n
  · have hnI : (4096 : Int) < (n : Int) := by omega
    have hnD : decide (4096 < n) = true := decide_eq_true hn
    have hnD2 : decide ((4096 : Int) < (n : Int)) = true := decide_eq_true hnI
    go_enter Try.func4, Try.ntmps4
    go_upto_region 1 with fail
    rw [← HW.out]
    go_wp2_with fail
    go_ret
    exact ⟨rfl, HB.out⟩
  · have hnI : ¬ (4096 : Int) < (n : Int) := by omega
    have hnD : decide (4096 < n) = false := decide_eq_false hn
    have hnD2 : decide ((4096 : Int) < (n : Int)) = false := decide_eq_false hnI
    have cO := fun w1 : World => openC f w1
    have cP := fun w1 : World => ropenC f w1
    have hOP : (openP f).2 = false → (openP f).1 = zcn := by unfold openP; split <;> simp
    have hOQ : (openP f).2 = true → liveC (openP f).1 := by unfold openP; split <;> simp [liveC]
    have HOP := Lib.hid hOP
    have HOQ := Lib.hid hOQ
    clear hOP hOQ
    generalize (openP f).1 = O at *
    generalize (openP f).2 = is at *
    go_enter Try.func4, Try.ntmps4
    go_upto_region 1 with fail
    rw [← HW.out]
    go_upto_region 4 with (first | ((with_reducible refine stop_op (o := ⟨some 16, _, _, _, _, _⟩) ?_); refine Lib.hid ?_; refine wpList_load_cells rfl 24 (.tmp 2) rfl ⟨w.heap.size, 0, none⟩ rfl (TA f) _ (blk_all HT.out) Try.underlying24 rfl (ta_inf f) ?_) | (go_at_call 7; ((with_reducible refine (cO _).mono ?_); rintro e w2 ⟨rfl, b2⟩); have HB2 := Lib.hid (bel_blk2 HB.out b2); have HT1 := Lib.hid (kb b2 HT.out); clear b2) | ((with_reducible refine stop_op (o := ⟨none, _, _, _, _, _⟩) ?_); refine Lib.hid ?_; refine wpList_store_row rfl 29 (.tmp 5) (.tmp 18) rfl w2.heap.size (CA O) rfl rfl 29 (CA zcn) (zrow w2) (ca_inf _) rfl (ca_one _) ?_; rw [World.setRow_alloc_new]))
    obtain ⟨w3, hw3⟩ : ∃ x, x = w2.alloc (.cells (CA O) 29) := ⟨_, rfl⟩
    have HC3 : Hid (w3.heap[w2.heap.size]? = some (.cells (CA O) 29 (0, 0))) := Lib.hid (by rw [hw3]; exact blk_new w2 _)
    have b3 : Below w2.heap.size w2 w3 := by rw [hw3]; exact bel_al _ _
    rw [← hw3]
    clear hw3
    have HB3 := Lib.hid (bel_blk2 HB2.out b3)
    have HT1 := Lib.hid (kb b3 HT1.out)
    have hBC : w.heap.size ≤ w2.heap.size := HB2.out.size
    obtain ⟨BC, hBCe⟩ : ∃ x, x = w2.heap.size := ⟨_, rfl⟩
    rw [← hBCe] at HC3 hBC ⊢
    clear b3 HT HB HW hBCe
    go_upto_region 5 with (first | ((with_reducible refine stop_op (o := ⟨some 21, _, _, _, _, _⟩) ?_); refine Lib.hid ?_; refine wpList_load_cells rfl 24 (.tmp 2) rfl ⟨w.heap.size, 0, none⟩ rfl (TA f) _ (blk_all HT1.out) Try.underlying24 rfl (ta_inf f) ?_) | (go_at_call 9; ((with_reducible refine (cP _).mono ?_); rintro e w4 ⟨rfl, b4⟩); have HB4 := Lib.hid (bel_blk2 HB3.out b4); have HC4 := Lib.hid (kb b4 HC3.out); clear b4) | ((with_reducible refine stop_op (o := ⟨none, _, _, _, _, _⟩) ?_); refine Lib.hid ?_; refine wpList_store_row rfl 35 (.tmp 7) (.tmp 23) rfl w4.heap.size (CA O) rfl rfl 35 (CA zcn) (rzrow w4) (rca_inf _) rfl (ca_one _) ?_; rw [World.setRow_alloc_new]))
    obtain ⟨w5, hw5⟩ : ∃ x, x = w4.alloc (.cells (CA O) 35) := ⟨_, rfl⟩
    have b5 : Below w4.heap.size w4 w5 := by rw [hw5]; exact bel_al _ _
    rw [← hw5]
    clear hw5
    have HC5 := Lib.hid (kb b5 HC4.out)
    have HB5 := Lib.hid (bel_blk2 HB4.out b5)
    clear b5 HB4 HC4 HB3 HC3 HB2 cO cP
    cases is
    · have hO := HOP.out rfl
      subst hO
      have eqz : ∀ W1 : World, (binOp .eql 29 (.agg (CA zcn)) (.agg #[.int .i64 0, .bool false, .int .u32 0, .int .u32 0, .bool false, .bool false, .int .u32 0, .int .u32 0, .bool false])).run Try.prog W1 = .ok (.bool true) W1 := fun W1 => by kernel_rfl
      go_wp2_with (first | ((with_reducible refine stop_op (o := ⟨some 30, _, _, _, _, _⟩) ?_); refine Lib.hid ?_; refine wpList_load_cells rfl 29 (.tmp 5) rfl ⟨BC, 0, none⟩ rfl (CA zcn) _ (blk_all HC5.out) Try.underlying29 rfl (ca_inf _) ?_))
      go_ret
      exact ⟨rfl, HB5.out⟩
    · have hlive := Lib.hid (HOQ.out rfl)
      have cL := fun (c : CN) (w1 : World) => life_any c w1
      have z9 : ∀ w, (zeroValue 29).run Try.prog w = .ok (.agg #[.int .i64 0, .bool false, .int .u32 0, .int .u32 0, .bool false, .bool false, .int .u32 0, .int .u32 0, .bool false]) w := fun w => by kernel_rfl
      clear HOP HOQ
      go_wp2_with fail
      go_loopw [9] (fun v9 wr => ∃ (k : Nat) (c : CN), v9 = .int .i64 k ∧ k ≤ n ∧ Hid (liveC c) ∧ Hid (wr.heap[BC]? = some (.cells (CA c) 29 (0, 0))) ∧ Hid (Below w.heap.size w wr)) (fun v9 _ => n - (intOf v9).toNat)
      case atStart => exact ⟨0, O, rfl, by omega, hlive, HC5, HB5⟩
      case round =>
        obtain ⟨k, c, rfl, hk, HL, HC, HBr⟩ := hrel
        clear hlive HC5 HB5
        by_cases hlt : k < n
        · have hlti : (k : Int) < (n : Int) := by omega
          have hdn : decide (k < n) = true := by simp [hlt]
          obtain ⟨gb, off, s, rfl, hs, hgb, hks⟩ := ws_row HSl.out hlt
          have hKS := hks wr HBr.out BC c HC.out
          have HKSW := Lib.hid hks
          clear hks
          have cX := fun w1 : World => next_any c s.back s.t w1
          have HCl : Hid ((nextP c s.back s.t).2 = true → hb s.t 4 = true → (nextP c s.back s.t).1.st = 5) := Lib.hid (fun h h4 => next_closed s.back h h4)
          have HLv : Hid (((nextP c s.back s.t).2 && hb s.t 4) = false → liveC (nextP c s.back s.t).1) := Lib.hid (fun h => next_lives s.back HL.out h)
          generalize (nextP c s.back s.t).1 = N at *
          generalize (nextP c s.back s.t).2 = ok at *
          go_upto_region 12 with fail
          go_cut [10, 11] (fun v10 v11 wx => ∃ Bn, v10 = .pointer (some ⟨Bn, 0, none⟩) ∧ v11 = .bool ok ∧ wx.heap[Bn]? = some (.cells (CA N) 29 (0, 0)) ∧ wr.heap.size ≤ Bn ∧ Below wr.heap.size wr wx)
          case first =>
            have hBCl := blk_lt HC.out
            have hgbl : gb < wr.heap.size := Nat.lt_of_lt_of_le hgb HBr.out.size
            refine wp_region_held_drew (S := fun W1 : World => KS W1 BC gb (off + k * 11) c s) (by kernel_rfl) (hKS.below (bel_dr (Below.refl _ _))) (fun hH => ?_)
            have hH0 := hKS.below (bel_dr (Below.refl _ _))
            have hb0 : Below wr.heap.size wr wr.drew := bel_dr (Below.refl _ _)
            obtain ⟨wd, hwd⟩ : ∃ x, x = wr.drew := ⟨_, rfl⟩
            rw [← hwd] at hH0 hb0 hH ⊢
            clear hwd
            refine wpAnyH_take (i := 0) (oi := ⟨some 40, _, _, _, _, _⟩) (v := .agg (CA c)) rfl (by kernel_rfl) (by kernel_rfl) (by kernel_rfl) (fun _ _ _ h => h) (yields_rowK (by rfl) 29 _ rfl BC rfl (CA c) 29 _ (fun W hW => hW.cb) Try.underlying29 rfl (ca_inf c)) hH0 ?_
            try simp only [Act.put, List.setIfInBounds_toArray, List.set_cons_zero, List.set_cons_succ]
            refine wpAnyH_take (i := 1) (oi := ⟨some 41, _, _, _, _, _⟩) (v := .slice (some ⟨gb, off, none⟩) n cap) rfl (by kernel_rfl) (by kernel_rfl) (by kernel_rfl) (fun _ _ _ h => h) (.inl ⟨by rfl, fun W hW => by go_simp⟩) hH0 ?_
            try simp only [Act.put, List.setIfInBounds_toArray, List.set_cons_zero, List.set_cons_succ]
            refine wpAnyH_take (i := 2) (oi := ⟨some 42, _, _, _, _, _⟩) (v := .int .i64 k) rfl (by kernel_rfl) (by kernel_rfl) (by kernel_rfl) (fun _ _ _ h => h) (.inl ⟨by rfl, fun W hW => by go_simp⟩) hH0 ?_
            try simp only [Act.put, List.setIfInBounds_toArray, List.set_cons_zero, List.set_cons_succ]
            refine wpAnyH_take (i := 3) (oi := ⟨some 43, _, _, _, _, _⟩) (v := .pointer (some ⟨gb, off + k * 11, none⟩)) rfl (by kernel_rfl) (by kernel_rfl) (by kernel_rfl) (fun _ _ _ h => h) (.inl ⟨by rfl, fun W hW => by go_simp⟩) hH0 ?_
            try simp only [Act.put, List.setIfInBounds_toArray, List.set_cons_zero, List.set_cons_succ]
            refine wpAnyH_take (i := 4) (oi := ⟨some 44, _, _, _, _, _⟩) (v := .pointer (some ⟨gb, off + k * 11, none⟩)) rfl (by kernel_rfl) (by kernel_rfl) (by kernel_rfl) (fun _ _ _ h => h) (.inl ⟨by rfl, fun W hW => by go_simp⟩) hH0 ?_
            try simp only [Act.put, List.setIfInBounds_toArray, List.set_cons_zero, List.set_cons_succ]
            refine wpAnyH_take (i := 5) (oi := ⟨some 45, _, _, _, _, _⟩) (v := .bool s.back) rfl (by kernel_rfl) (by kernel_rfl) (by kernel_rfl) (fun _ _ _ h => h) (.inl ⟨by rfl, fun W hW => by have := hW.bb; go_simp⟩) hH0 ?_
            try simp only [Act.put, List.setIfInBounds_toArray, List.set_cons_zero, List.set_cons_succ]
            refine wpAnyH_take (i := 6) (oi := ⟨some 46, _, _, _, _, _⟩) (v := .slice (some ⟨gb, off, none⟩) n cap) rfl (by kernel_rfl) (by kernel_rfl) (by kernel_rfl) (fun _ _ _ h => h) (.inl ⟨by rfl, fun W hW => by go_simp⟩) hH0 ?_
            try simp only [Act.put, List.setIfInBounds_toArray, List.set_cons_zero, List.set_cons_succ]
            refine wpAnyH_take (i := 7) (oi := ⟨some 47, _, _, _, _, _⟩) (v := .int .i64 k) rfl (by kernel_rfl) (by kernel_rfl) (by kernel_rfl) (fun _ _ _ h => h) (.inl ⟨by rfl, fun W hW => by go_simp⟩) hH0 ?_
            try simp only [Act.put, List.setIfInBounds_toArray, List.set_cons_zero, List.set_cons_succ]
            refine wpAnyH_take (i := 8) (oi := ⟨some 48, _, _, _, _, _⟩) (v := .pointer (some ⟨gb, off + k * 11, none⟩)) rfl (by kernel_rfl) (by kernel_rfl) (by kernel_rfl) (fun _ _ _ h => h) (.inl ⟨by rfl, fun W hW => by go_simp⟩) hH0 ?_
            try simp only [Act.put, List.setIfInBounds_toArray, List.set_cons_zero, List.set_cons_succ]
            refine wpAnyH_take (i := 9) (oi := ⟨some 49, _, _, _, _, _⟩) (v := .pointer (some ⟨gb, off + k * 11 + 1, none⟩)) rfl (by kernel_rfl) (by kernel_rfl) (by kernel_rfl) (fun _ _ _ h => h) (.inl ⟨by rfl, fun W hW => by go_simp⟩) hH0 ?_
            try simp only [Act.put, List.setIfInBounds_toArray, List.set_cons_zero, List.set_cons_succ]
            refine wpAnyH_take (i := 10) (oi := ⟨some 50, _, _, _, _, _⟩) (v := .agg (TA s.t)) rfl (by kernel_rfl) (by kernel_rfl) (by kernel_rfl) (fun _ _ _ h => h) (yields_cells (by rfl) 24 _ rfl ⟨gb, off + k * 11 + 1, none⟩ rfl (TA s.t) _ (fun W hW => hW.tb) Try.underlying24 rfl (ta_inf s.t)) hH0 ?_
            try simp only [Act.put, List.setIfInBounds_toArray, List.set_cons_zero, List.set_cons_succ]
            refine wpAnyH_ready (rs := [11, 15]) (by kernel_rfl) (by simp) ?_
            refine AllReadyH.cons (o := ⟨some 51, _, _, _, _, _⟩) rfl (fun K hK => ?_) (AllReadyH.cons (o := ⟨some 10, _, _, _, _, _⟩) rfl (fun K hK => ?_) AllReadyH.nil)
            · go_simp
              go_at_call 10
              ((with_reducible refine (cX _).mono ?_); rintro e w20 ⟨rfl, b20⟩)
              have hS20 := hH0.below b20
              have hb20 := bel_blk2 hb0 b20
              refine hK.out _ _ hS20 (fun _ => ?_)
              clear hK K
              try simp only [Act.put, List.setIfInBounds_toArray, List.set_cons_zero, List.set_cons_succ]
              refine wpAnyH_take (i := 12) (oi := ⟨some 39, _, _, _, _, _⟩) (v := .tuple #[.agg (CA N), .bool ok]) rfl (by kernel_rfl) (by kernel_rfl) (by kernel_rfl) (fun _ _ _ h => h) (.inl ⟨by rfl, fun W hW => by go_simp⟩) hS20 ?_
              try simp only [Act.put, List.setIfInBounds_toArray, List.set_cons_zero, List.set_cons_succ]
              refine wpAnyH_take (i := 13) (oi := ⟨some 52, _, _, _, _, _⟩) (v := .agg (CA N)) rfl (by kernel_rfl) (by kernel_rfl) (by kernel_rfl) (fun _ _ _ h => h) (.inl ⟨by rfl, fun W hW => by go_simp⟩) hS20 ?_
              try simp only [Act.put, List.setIfInBounds_toArray, List.set_cons_zero, List.set_cons_succ]
              refine wpAnyH_take (i := 14) (oi := ⟨some 53, _, _, _, _, _⟩) (v := .bool ok) rfl (by kernel_rfl) (by kernel_rfl) (by kernel_rfl) (fun _ _ _ h => h) (.inl ⟨by rfl, fun W hW => by go_simp⟩) hS20 ?_
              try simp only [Act.put, List.setIfInBounds_toArray, List.set_cons_zero, List.set_cons_succ]
              refine wpAnyH_ready (rs := [15]) (by kernel_rfl) (by simp) ?_
              refine AllReadyH.cons (o := ⟨some 10, _, _, _, _, _⟩) rfl (fun K hK => ?_) AllReadyH.nil
              refine step_alloc rfl 29 rfl #[.int .i64 0, .bool false, .int .u32 0, .int .u32 0, .bool false, .bool false, .int .u32 0, .int .u32 0, .bool false] z9 (fun w21 Bn hV b21 g21 => ?_)
              have hS21 := hS20.below b21
              have hb21 := bel_blk2 hb20 b21
              have hBn : wr.heap.size ≤ Bn := Nat.le_trans hb20.size g21
              refine hK.out _ _ hS21 (fun _ => ?_)
              clear hK K
              try simp only [Act.put, List.setIfInBounds_toArray, List.set_cons_zero, List.set_cons_succ]
              refine wpAnyH_ready (rs := [16]) (by kernel_rfl) (by simp) ?_
              refine AllReadyH.cons (o := ⟨none, _, _, _, _, _⟩) rfl (fun K hK => ?_) AllReadyH.nil
              refine step_store_row rfl 29 (.tmp 10) (.tmp 52) rfl Bn (CA N) rfl rfl 29 #[.int .i64 0, .bool false, .int .u32 0, .int .u32 0, .bool false, .bool false, .int .u32 0, .int .u32 0, .bool false] hV (ca_inf N) rfl (ca_one N) ?_
              have hSz := hS21.row (B := Bn) (by omega) (by omega) (CA N)
              have hbz := Below.setRow hb21 hBn (CA N)
              have hVz := blk_setRow hV (CA N)
              refine hK.out _ _ hSz (fun _ => ?_)
              clear hK K
              try simp only [Act.put, List.setIfInBounds_toArray, List.set_cons_zero, List.set_cons_succ]
              refine wpAnyH_take (i := 17) (oi := ⟨some 11, _, _, _, _, _⟩) (v := .bool ok) rfl (by kernel_rfl) (by kernel_rfl) (by kernel_rfl) (fun _ _ _ h => h) (.inl ⟨by rfl, fun W hW => by go_simp⟩) hSz ?_
              try simp only [Act.put, List.setIfInBounds_toArray, List.set_cons_zero, List.set_cons_succ]
              refine wpAnyH_done (by kernel_rfl) ?_ _
              try simp only [Act.put, List.setIfInBounds_toArray, List.set_cons_zero, List.set_cons_succ]
              go_wp2_with fail
              go_meet
              exact ⟨Bn, rfl, rfl, hVz, hBn, hbz⟩
            · refine step_alloc rfl 29 rfl #[.int .i64 0, .bool false, .int .u32 0, .int .u32 0, .bool false, .bool false, .int .u32 0, .int .u32 0, .bool false] z9 (fun w20 Bn hV b20 g20 => ?_)
              have hS20 := hH0.below b20
              have hb20 := bel_blk2 hb0 b20
              have hBn : wr.heap.size ≤ Bn := Nat.le_trans hb0.size g20
              refine hK.out _ _ hS20 (fun _ => ?_)
              clear hK K
              try simp only [Act.put, List.setIfInBounds_toArray, List.set_cons_zero, List.set_cons_succ]
              refine wpAnyH_ready (rs := [11]) (by kernel_rfl) (by simp) ?_
              refine AllReadyH.cons (o := ⟨some 51, _, _, _, _, _⟩) rfl (fun K hK => ?_) AllReadyH.nil
              go_simp
              go_at_call 10
              ((with_reducible refine (cX _).mono ?_); rintro e w21 ⟨rfl, b21⟩)
              have hS21 := hS20.below b21
              have hb21 := bel_blk2 hb20 b21
              have hV := kb b21 hV
              refine hK.out _ _ hS21 (fun _ => ?_)
              clear hK K
              try simp only [Act.put, List.setIfInBounds_toArray, List.set_cons_zero, List.set_cons_succ]
              refine wpAnyH_take (i := 12) (oi := ⟨some 39, _, _, _, _, _⟩) (v := .tuple #[.agg (CA N), .bool ok]) rfl (by kernel_rfl) (by kernel_rfl) (by kernel_rfl) (fun _ _ _ h => h) (.inl ⟨by rfl, fun W hW => by go_simp⟩) hS21 ?_
              try simp only [Act.put, List.setIfInBounds_toArray, List.set_cons_zero, List.set_cons_succ]
              refine wpAnyH_take (i := 13) (oi := ⟨some 52, _, _, _, _, _⟩) (v := .agg (CA N)) rfl (by kernel_rfl) (by kernel_rfl) (by kernel_rfl) (fun _ _ _ h => h) (.inl ⟨by rfl, fun W hW => by go_simp⟩) hS21 ?_
              try simp only [Act.put, List.setIfInBounds_toArray, List.set_cons_zero, List.set_cons_succ]
              refine wpAnyH_take (i := 14) (oi := ⟨some 53, _, _, _, _, _⟩) (v := .bool ok) rfl (by kernel_rfl) (by kernel_rfl) (by kernel_rfl) (fun _ _ _ h => h) (.inl ⟨by rfl, fun W hW => by go_simp⟩) hS21 ?_
              try simp only [Act.put, List.setIfInBounds_toArray, List.set_cons_zero, List.set_cons_succ]
              refine wpAnyH_ready (rs := [16]) (by kernel_rfl) (by simp) ?_
              refine AllReadyH.cons (o := ⟨none, _, _, _, _, _⟩) rfl (fun K hK => ?_) AllReadyH.nil
              refine step_store_row rfl 29 (.tmp 10) (.tmp 52) rfl Bn (CA N) rfl rfl 29 #[.int .i64 0, .bool false, .int .u32 0, .int .u32 0, .bool false, .bool false, .int .u32 0, .int .u32 0, .bool false] hV (ca_inf N) rfl (ca_one N) ?_
              have hSz := hS21.row (B := Bn) (by omega) (by omega) (CA N)
              have hbz := Below.setRow hb21 hBn (CA N)
              have hVz := blk_setRow hV (CA N)
              refine hK.out _ _ hSz (fun _ => ?_)
              clear hK K
              try simp only [Act.put, List.setIfInBounds_toArray, List.set_cons_zero, List.set_cons_succ]
              refine wpAnyH_take (i := 17) (oi := ⟨some 11, _, _, _, _, _⟩) (v := .bool ok) rfl (by kernel_rfl) (by kernel_rfl) (by kernel_rfl) (fun _ _ _ h => h) (.inl ⟨by rfl, fun W hW => by go_simp⟩) hSz ?_
              try simp only [Act.put, List.setIfInBounds_toArray, List.set_cons_zero, List.set_cons_succ]
              refine wpAnyH_done (by kernel_rfl) ?_ _
              try simp only [Act.put, List.setIfInBounds_toArray, List.set_cons_zero, List.set_cons_succ]
              go_wp2_with fail
              go_meet
              exact ⟨Bn, rfl, rfl, hVz, hBn, hbz⟩

          case rest =>
            obtain ⟨Bn, rfl, rfl, hN, hBn, bx⟩ := hcut
            have hKS2 := hKS.below bx
            have HC2 := Lib.hid hKS2.cb
            have hfl := hKS2.fl
            have n0 : wc.cell? ⟨Bn, 0, none⟩ = some (.int .i64 N.st) := blk_cell hN rfl
            have HN := Lib.hid hN
            have HBx := Lib.hid (bel_blk2 HBr.out bx)
            have hBCn : BC ≠ Bn := by have := blk_lt HC.out; omega
            clear hKS hKS2 hN bx cX HC
            rcases h4 : (ok && hb s.t 4) with _ | _
            · have HLn := Lib.hid (HLv.out h4)
              have hn5 : (N.st == 5) = false := by have := HLn.out; unfold liveC at this; simp; omega
              cases ok
              · clear h4
                go_wp2_with (first | ((with_reducible refine stop_op (o := ⟨some 76, _, _, _, _, _⟩) ?_); refine Lib.hid ?_; refine wpList_load_cells rfl 29 (.tmp 10) rfl ⟨Bn, 0, none⟩ rfl (CA N) _ (blk_all HN.out) Try.underlying29 rfl (ca_inf _) ?_) | ((with_reducible refine stop_op (o := ⟨none, _, _, _, _, _⟩) ?_); refine Lib.hid ?_; refine wpList_store_row rfl 29 (.tmp 5) (.tmp 76) rfl (BC) (CA N) rfl rfl 29 (CA c) (HC2.out) (ca_inf _) rfl (ca_one _) ?_))
                go_roundw
                case rel => exact ⟨k + 1, N, by go_num, by omega, HLn, Lib.hid (blk_setRow HC2.out _), Lib.hid (Below.setRow HBx.out (by omega) _)⟩
                case measure => simp [intOf]; omega
              · have hf4 : (bits .and .i64 s.t.fl 4 != 0) = false := by simpa [hb] using h4
                clear h4
                go_wp2_with (first | ((with_reducible refine stop_op (o := ⟨some 76, _, _, _, _, _⟩) ?_); refine Lib.hid ?_; refine wpList_load_cells rfl 29 (.tmp 10) rfl ⟨Bn, 0, none⟩ rfl (CA N) _ (blk_all HN.out) Try.underlying29 rfl (ca_inf _) ?_) | ((with_reducible refine stop_op (o := ⟨none, _, _, _, _, _⟩) ?_); refine Lib.hid ?_; refine wpList_store_row rfl 29 (.tmp 5) (.tmp 76) rfl (BC) (CA N) rfl rfl 29 (CA c) (HC2.out) (ca_inf _) rfl (ca_one _) ?_))
                go_roundw
                case rel => exact ⟨k + 1, N, by go_num, by omega, HLn, Lib.hid (blk_setRow HC2.out _), Lib.hid (Below.setRow HBx.out (by omega) _)⟩
                case measure => simp [intOf]; omega
            · have hok : ok = true := by cases ok <;> simp_all
              subst hok
              have h44 : hb s.t 4 = true := by simpa using h4
              have hf4 : (bits .and .i64 s.t.fl 4 != 0) = true := h44
              have hst := HCl.out rfl h44
              have cL5 := fun w1 : World => cL N w1
              rw [hst] at n0 cL5
              rw [show lifeP 5 = 2 from by decide] at cL5
              clear h4 h44 hst
              go_wp2_with (first | ((with_reducible refine stop_op (o := ⟨some 69, _, _, _, _, _⟩) ?_); refine Lib.hid ?_; refine wpList_load_cells_on (by kernel_rfl) 29 (.tmp 10) rfl ⟨Bn, 0, none⟩ rfl (CA N) _ (blk_all HN.out) Try.underlying29 rfl (ca_inf _) ?_) | (go_at_call 11; ((with_reducible refine (cL5 _).mono ?_); rintro e w7 ⟨rfl, b7⟩)))
              go_ret
              exact ⟨rfl, bel_blk2 HBx.out b7⟩
        · obtain rfl : k = n := by omega
          have hlti : decide ((k : Int) < (k : Int)) = false := by simp
          have cL5 := fun w1 : World => cL c w1
          have hge := life_ge HL.out
          have hgd : decide (10 ≤ lifeP c.st) = true := by simpa using hge
          generalize lifeP c.st = LC at *
          go_wp2_with (first | ((with_reducible refine stop_op (o := ⟨some 77, _, _, _, _, _⟩) ?_); refine Lib.hid ?_; refine wpList_load_cells rfl 29 (.tmp 5) rfl ⟨BC, 0, none⟩ rfl (CA c) _ (blk_all HC.out) Try.underlying29 rfl (ca_inf _) ?_) | (go_at_call 11; ((with_reducible refine (cL5 _).mono ?_); rintro e w7 ⟨rfl, b7⟩)))
          go_ret
          exact ⟨by simp [hgd], bel_blk2 HBr.out b7⟩
end Go.Proofs.Ytdgodndaaenafab
