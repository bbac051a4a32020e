/- WindowOpens: the walk; by-name template (gen_wi2.py). -/
import Derived.Test.YtdgodndaaenafabWiK
import Derived.Test.YtdgodndaaenafabWiOq
namespace Go.Proofs.Ytdgodndaaenafab
open Go.RowKit Go.Lib Go.Sort
set_option linter.unusedVariables false
set_option linter.unusedSimpArgs false

set_option maxRecDepth 100000 in
set_option maxHeartbeats 16000000 in
theorem opensL_any (a b w1 w2 : Int) (A : Option Addr) (n cap : Nat) (l : List WS) (w : World) (ha : u32ok a) (hb' : u32ok b) (hw1 : u16ok w1) (hw2 : u16ok w2) (hS : Sl w 11 wscells A n l) : Calls Try.prog 6 #[.int .u32 a, .int .u32 b, .int .u16 w1, .int .u16 w2, .slice A n cap] w (LawPost w) := by
  have HSl := Lib.hid hS
  have hLl := hS.len
  have hbig := hS.big
  clear hS
  by_cases hn : 4096 < n
  · have hnI : (4096 : Int) < (n : Int) := by omega
    have hnD : decide (4096 < n) = true := decide_eq_true hn
    have hnD2 : decide ((4096 : Int) < (n : Int)) = true := decide_eq_true hnI
    clear ha hb' hw1 hw2
    go_enter Try.func6, Try.ntmps6
    go_wp2_with fail
    go_ret
    exact ⟨rfl, Below.refl _ _⟩
  · have hnI : ¬ (4096 : Int) < (n : Int) := by omega
    have hnD : decide (4096 < n) = false := decide_eq_false hn
    have hnD2 : decide ((4096 : Int) < (n : Int)) = false := decide_eq_false hnI
    obtain ⟨ha0, ha1⟩ := ha
    obtain ⟨hb0, hb1⟩ := hb'
    obtain ⟨hp0, hp1⟩ := hw1
    obtain ⟨hq0, hq1⟩ := hw2
    obtain ⟨C, X, Y, hC, hC1, hX, hX1, hY, hY1⟩ := opens_head ha0 ha1 hb0 hb1 hp0 hp1 hq0 hq1
    have cO := fun W1 : World => openC (mkT a 0 2 w1) W1
    have cX1 := fun W1 : World => next_any C true (mkT b ((a + 1) % 4294967296) 18 w2) W1
    have cX2 := fun W1 : World => next_any X false (mkT ((a + 1) % 4294967296) ((b + 1) % 4294967296) 16 w1) W1
    rw [hC] at cO
    rw [hX] at cX1
    rw [hY] at cX2
    simp only [TA, mkT] at cO cX1 cX2
    have HC1 := Lib.hid hC1
    have HX1 := Lib.hid hX1
    have HY1 := Lib.hid hY1
    clear hC hX hY hC1 hX1 hY1
    have wa : IntKind.i64.wrap w1 = w1 := by rw [IntKind.wrap_i64]; omega
    have wb : IntKind.i64.wrap w2 = w2 := by rw [IntKind.wrap_i64]; omega
    go_enter Try.func6, Try.ntmps6
    go_upto_region 4 with (first | (go_at_call 7; ((with_reducible refine (cO _).mono ?_); rintro e w2' ⟨rfl, b2⟩)) | ((with_reducible refine stop_op (o := ⟨none, _, _, _, _, _⟩) ?_); refine Lib.hid ?_; refine wpList_store_row rfl 29 (.tmp 11) (.tmp 31) rfl w2'.heap.size (CA C) rfl rfl 29 (CA zcn) (zrow w2') (ca_inf _) rfl (ca_one _) ?_; rw [World.setRow_alloc_new]))
    obtain ⟨w3, hw3⟩ : ∃ x, x = w2'.alloc (.cells (CA C) 29) := ⟨_, rfl⟩
    have H3 : Hid (w3.heap[w2'.heap.size]? = some (.cells (CA C) 29 (0, 0))) := Lib.hid (by rw [hw3]; exact blk_new w2' _)
    have b3 : Below w2'.heap.size w2' w3 := by rw [hw3]; exact bel_al _ _
    rw [← hw3]
    clear hw3
    obtain ⟨B3, hB3⟩ : ∃ x, x = w2'.heap.size := ⟨_, rfl⟩
    rw [← hB3] at H3 ⊢
    have HB3 := Lib.hid (bel_blk2 b2 b3)
    have e0 : w3.cell? ⟨B3, 0, none⟩ = some (.int .i64 1) := by rw [← HC1.out]; exact blk_cell H3.out rfl
    have hB3w : w.heap.size ≤ B3 := by rw [hB3]; exact b2.size
    clear b2 b3 hB3
    go_upto_region 7 with (first | ((with_reducible refine stop_op (o := ⟨some 41, _, _, _, _, _⟩) ?_); refine Lib.hid ?_; refine wpList_load_cells rfl 29 (.tmp 11) rfl ⟨B3, 0, none⟩ rfl (CA C) _ (blk_all H3.out) Try.underlying29 rfl (ca_inf _) ?_) | (go_at_call 10; ((with_reducible refine (cX1 _).mono ?_); rintro e w4 ⟨rfl, bb⟩)) | ((with_reducible refine stop_op (o := ⟨none, _, _, _, _, _⟩) ?_); refine Lib.hid ?_; refine wpList_store_row rfl 29 (.tmp 13) (.tmp 49) rfl w4.heap.size (CA X) rfl rfl 29 (CA zcn) (zrow w4) (ca_inf _) rfl (ca_one _) ?_; rw [World.setRow_alloc_new]))
    obtain ⟨w5, hw5⟩ : ∃ x, x = w4.alloc (.cells (CA X) 29) := ⟨_, rfl⟩
    have H5 : Hid (w5.heap[w4.heap.size]? = some (.cells (CA X) 29 (0, 0))) := Lib.hid (by rw [hw5]; exact blk_new w4 _)
    have b5 : Below w4.heap.size w4 w5 := by rw [hw5]; exact bel_al _ _
    rw [← hw5]
    clear hw5
    obtain ⟨B5, hB5⟩ : ∃ x, x = w4.heap.size := ⟨_, rfl⟩
    rw [← hB5] at H5 ⊢
    have H35 := Lib.hid (kb b5 (kb bb H3.out))
    have HB5 := Lib.hid (bel_blk2 (bel_blk2 HB3.out bb) b5)
    clear bb b5 hB5 e0
    go_upto_region 8 with (first | ((with_reducible refine stop_op (o := ⟨some 52, _, _, _, _, _⟩) ?_); refine Lib.hid ?_; refine wpList_load_cells rfl 29 (.tmp 13) rfl ⟨B5, 0, none⟩ rfl (CA X) _ (blk_all H5.out) Try.underlying29 rfl (ca_inf _) ?_) | (go_at_call 10; ((with_reducible refine (cX2 _).mono ?_); rintro e w6 ⟨rfl, bb⟩)) | ((with_reducible refine stop_op (o := ⟨none, _, _, _, _, _⟩) ?_); refine Lib.hid ?_; refine wpList_store_row rfl 29 (.tmp 15) (.tmp 61) rfl w6.heap.size (CA Y) rfl rfl 29 (CA zcn) (zrow w6) (ca_inf _) rfl (ca_one _) ?_; rw [World.setRow_alloc_new]))
    obtain ⟨w7, hw7⟩ : ∃ x, x = w6.alloc (.cells (CA Y) 29) := ⟨_, rfl⟩
    have H7 : Hid (w7.heap[w6.heap.size]? = some (.cells (CA Y) 29 (0, 0))) := Lib.hid (by rw [hw7]; exact blk_new w6 _)
    have b7 : Below w6.heap.size w6 w7 := by rw [hw7]; exact bel_al _ _
    rw [← hw7]
    clear hw7
    obtain ⟨B7, hB7⟩ : ∃ x, x = w6.heap.size := ⟨_, rfl⟩
    rw [← hB7] at H7 ⊢
    have H37 := Lib.hid (kb b7 (kb bb H35.out))
    have H57 := kb b7 (kb bb H5.out)
    have HB7 := Lib.hid (bel_blk2 (bel_blk2 HB5.out bb) b7)
    have x0 : w7.cell? ⟨B5, 0, none⟩ = some (.int .i64 2) := by rw [← HX1.out]; exact blk_cell H57 rfl
    have y0 : w7.cell? ⟨B7, 0, none⟩ = some (.int .i64 3) := by rw [← HY1.out]; exact blk_cell H7.out rfl
    clear bb b7 hB7 H57 cO cX1 cX2 HB3 HB5 H35 H3
    go_upto_region 10 with fail
    clear x0 y0 wa wb
    go_wp2_with fail
    obtain ⟨BC, hBC⟩ : ∃ x, x = B3 := ⟨_, rfl⟩
    rw [← hBC] at H37 hB3w ⊢
    clear hBC
    have z9 : ∀ w, (zeroValue 29).run Try.prog w = .ok (.agg #[.int .i64 0, .bool false, .int .u32 0, .int .u32 0, .bool false, .bool false, .int .u32 0, .int .u32 0, .bool false]) w := fun w => by kernel_rfl
    go_loopw [17, 18] (fun v17 v18 wr => ∃ (k : Nat) (c : CN) (ans : Bool), v17 = .bool ans ∧ v18 = .int .i64 k ∧ k ≤ n ∧ Hid (c.st = 2 → ans = true) ∧ Hid (wr.heap[BC]? = some (.cells (CA c) 29 (0, 0))) ∧ Hid (Below w.heap.size w wr)) (fun _ v18 _ => n - (intOf v18).toNat)
    case atStart => exact ⟨0, C, false, rfl, rfl, by omega, Lib.hid (fun h => by rw [HC1.out] at h; cases h), H37, HB7⟩
    case round =>
      obtain ⟨k, c, ans, rfl, rfl, hk, HA, HC, HBr⟩ := hrel
      clear H37 HB7 H5 H7 HC1 HX1 HY1
      have hBCw := hB3w
      by_cases hlt : k < n
      · have hlti : (k : Int) < (n : Int) := by omega
        have hdn : decide (k < n) = true := by simp [hlt]
        obtain ⟨gb, off, s, rfl, hs, hgb, hks⟩ := ws_row HSl.out hlt
        have hKS := hks wr HBr.out BC c HC.out
        clear hks
        have cX := fun w1 : World => next_any c s.back s.t w1
        have F2 : Hid ((nextP c s.back s.t).2 = true → (nextP c s.back s.t).1.st = 2 → c.st = 1 → s.back = true ∧ s.t.ak = c.a.e ∧ (bits .and .i64 s.t.fl 18 == 18) = true) := Lib.hid (fun x y z => next_two s.back x y z)
        have F3 : Hid ((nextP c s.back s.t).2 = true → (nextP c s.back s.t).1.st = 3 → c.st ≠ 3 → c.st = 2 ∧ s.back = false ∧ (bits .and .i64 s.t.fl 16 == 0) = false) := Lib.hid (fun x y z => next_three s.back x y z)
        have FW : Hid ((nextP c s.back s.t).1.st = 2 → c.st = 2 ∨ ((nextP c s.back s.t).2 = true ∧ c.st = 1)) := Lib.hid (fun x => next_was s.back x)
        generalize (nextP c s.back s.t).1 = N at *
        generalize (nextP c s.back s.t).2 = ok at *
        go_upto_region 14 with fail
        go_cut [19, 20] (fun v19 v20 wx => ∃ Bn, v19 = .pointer (some ⟨Bn, 0, none⟩) ∧ v20 = .bool ok ∧ wx.heap[Bn]? = some (.cells (CA N) 29 (0, 0)) ∧ wr.heap.size ≤ Bn ∧ Below wr.heap.size wr wx)
        case first =>
          have hBCl := blk_lt HC.out
          have hgbl : gb < wr.heap.size := Nat.lt_of_lt_of_le hgb HBr.out.size
          refine wp_region_held_drew (S := fun W1 : World => KS W1 BC gb (off + k * 11) c s) (by kernel_rfl) (hKS.below (bel_dr (Below.refl _ _))) (fun hH => ?_)
          have hH0 := hKS.below (bel_dr (Below.refl _ _))
          have hb0 : Below wr.heap.size wr wr.drew := bel_dr (Below.refl _ _)
          obtain ⟨wd, hwd⟩ : ∃ x, x = wr.drew := ⟨_, rfl⟩
          rw [← hwd] at hH0 hb0 hH ⊢
          clear hwd
          refine wpAnyH_take (i := 0) (oi := ⟨some 86, _, _, _, _, _⟩) (v := .agg (CA c)) rfl (by kernel_rfl) (by kernel_rfl) (by kernel_rfl) (fun _ _ _ h => h) (yields_rowK (by rfl) 29 _ rfl BC rfl (CA c) 29 _ (fun W hW => hW.cb) Try.underlying29 rfl (ca_inf c)) hH0 ?_
          try simp only [Act.put, List.setIfInBounds_toArray, List.set_cons_zero, List.set_cons_succ]
          refine wpAnyH_take (i := 1) (oi := ⟨some 87, _, _, _, _, _⟩) (v := .slice (some ⟨gb, off, none⟩) n cap) rfl (by kernel_rfl) (by kernel_rfl) (by kernel_rfl) (fun _ _ _ h => h) (.inl ⟨by rfl, fun W hW => by go_simp⟩) hH0 ?_
          try simp only [Act.put, List.setIfInBounds_toArray, List.set_cons_zero, List.set_cons_succ]
          refine wpAnyH_take (i := 2) (oi := ⟨some 88, _, _, _, _, _⟩) (v := .int .i64 k) rfl (by kernel_rfl) (by kernel_rfl) (by kernel_rfl) (fun _ _ _ h => h) (.inl ⟨by rfl, fun W hW => by go_simp⟩) hH0 ?_
          try simp only [Act.put, List.setIfInBounds_toArray, List.set_cons_zero, List.set_cons_succ]
          refine wpAnyH_take (i := 3) (oi := ⟨some 89, _, _, _, _, _⟩) (v := .pointer (some ⟨gb, off + k * 11, none⟩)) rfl (by kernel_rfl) (by kernel_rfl) (by kernel_rfl) (fun _ _ _ h => h) (.inl ⟨by rfl, fun W hW => by go_simp⟩) hH0 ?_
          try simp only [Act.put, List.setIfInBounds_toArray, List.set_cons_zero, List.set_cons_succ]
          refine wpAnyH_take (i := 4) (oi := ⟨some 90, _, _, _, _, _⟩) (v := .pointer (some ⟨gb, off + k * 11, none⟩)) rfl (by kernel_rfl) (by kernel_rfl) (by kernel_rfl) (fun _ _ _ h => h) (.inl ⟨by rfl, fun W hW => by go_simp⟩) hH0 ?_
          try simp only [Act.put, List.setIfInBounds_toArray, List.set_cons_zero, List.set_cons_succ]
          refine wpAnyH_take (i := 5) (oi := ⟨some 91, _, _, _, _, _⟩) (v := .bool s.back) rfl (by kernel_rfl) (by kernel_rfl) (by kernel_rfl) (fun _ _ _ h => h) (.inl ⟨by rfl, fun W hW => by have := hW.bb; go_simp⟩) hH0 ?_
          try simp only [Act.put, List.setIfInBounds_toArray, List.set_cons_zero, List.set_cons_succ]
          refine wpAnyH_take (i := 6) (oi := ⟨some 92, _, _, _, _, _⟩) (v := .slice (some ⟨gb, off, none⟩) n cap) rfl (by kernel_rfl) (by kernel_rfl) (by kernel_rfl) (fun _ _ _ h => h) (.inl ⟨by rfl, fun W hW => by go_simp⟩) hH0 ?_
          try simp only [Act.put, List.setIfInBounds_toArray, List.set_cons_zero, List.set_cons_succ]
          refine wpAnyH_take (i := 7) (oi := ⟨some 93, _, _, _, _, _⟩) (v := .int .i64 k) rfl (by kernel_rfl) (by kernel_rfl) (by kernel_rfl) (fun _ _ _ h => h) (.inl ⟨by rfl, fun W hW => by go_simp⟩) hH0 ?_
          try simp only [Act.put, List.setIfInBounds_toArray, List.set_cons_zero, List.set_cons_succ]
          refine wpAnyH_take (i := 8) (oi := ⟨some 94, _, _, _, _, _⟩) (v := .pointer (some ⟨gb, off + k * 11, none⟩)) rfl (by kernel_rfl) (by kernel_rfl) (by kernel_rfl) (fun _ _ _ h => h) (.inl ⟨by rfl, fun W hW => by go_simp⟩) hH0 ?_
          try simp only [Act.put, List.setIfInBounds_toArray, List.set_cons_zero, List.set_cons_succ]
          refine wpAnyH_take (i := 9) (oi := ⟨some 95, _, _, _, _, _⟩) (v := .pointer (some ⟨gb, off + k * 11 + 1, none⟩)) rfl (by kernel_rfl) (by kernel_rfl) (by kernel_rfl) (fun _ _ _ h => h) (.inl ⟨by rfl, fun W hW => by go_simp⟩) hH0 ?_
          try simp only [Act.put, List.setIfInBounds_toArray, List.set_cons_zero, List.set_cons_succ]
          refine wpAnyH_take (i := 10) (oi := ⟨some 96, _, _, _, _, _⟩) (v := .agg (TA s.t)) rfl (by kernel_rfl) (by kernel_rfl) (by kernel_rfl) (fun _ _ _ h => h) (yields_cells (by rfl) 24 _ rfl ⟨gb, off + k * 11 + 1, none⟩ rfl (TA s.t) _ (fun W hW => hW.tb) Try.underlying24 rfl (ta_inf s.t)) hH0 ?_
          try simp only [Act.put, List.setIfInBounds_toArray, List.set_cons_zero, List.set_cons_succ]
          refine wpAnyH_ready (rs := [11, 15]) (by kernel_rfl) (by simp) ?_
          refine AllReadyH.cons (o := ⟨some 97, _, _, _, _, _⟩) rfl (fun K hK => ?_) (AllReadyH.cons (o := ⟨some 19, _, _, _, _, _⟩) rfl (fun K hK => ?_) AllReadyH.nil)
          · go_simp
            go_at_call 10
            ((with_reducible refine (cX _).mono ?_); rintro e w20 ⟨rfl, b20⟩)
            have hS20 := hH0.below b20
            have hb20 := bel_blk2 hb0 b20
            refine hK.out _ _ hS20 (fun _ => ?_)
            clear hK K
            try simp only [Act.put, List.setIfInBounds_toArray, List.set_cons_zero, List.set_cons_succ]
            refine wpAnyH_take (i := 12) (oi := ⟨some 85, _, _, _, _, _⟩) (v := .tuple #[.agg (CA N), .bool ok]) rfl (by kernel_rfl) (by kernel_rfl) (by kernel_rfl) (fun _ _ _ h => h) (.inl ⟨by rfl, fun W hW => by go_simp⟩) hS20 ?_
            try simp only [Act.put, List.setIfInBounds_toArray, List.set_cons_zero, List.set_cons_succ]
            refine wpAnyH_take (i := 13) (oi := ⟨some 98, _, _, _, _, _⟩) (v := .agg (CA N)) rfl (by kernel_rfl) (by kernel_rfl) (by kernel_rfl) (fun _ _ _ h => h) (.inl ⟨by rfl, fun W hW => by go_simp⟩) hS20 ?_
            try simp only [Act.put, List.setIfInBounds_toArray, List.set_cons_zero, List.set_cons_succ]
            refine wpAnyH_take (i := 14) (oi := ⟨some 99, _, _, _, _, _⟩) (v := .bool ok) rfl (by kernel_rfl) (by kernel_rfl) (by kernel_rfl) (fun _ _ _ h => h) (.inl ⟨by rfl, fun W hW => by go_simp⟩) hS20 ?_
            try simp only [Act.put, List.setIfInBounds_toArray, List.set_cons_zero, List.set_cons_succ]
            refine wpAnyH_ready (rs := [15]) (by kernel_rfl) (by simp) ?_
            refine AllReadyH.cons (o := ⟨some 19, _, _, _, _, _⟩) rfl (fun K hK => ?_) AllReadyH.nil
            refine step_alloc rfl 29 rfl #[.int .i64 0, .bool false, .int .u32 0, .int .u32 0, .bool false, .bool false, .int .u32 0, .int .u32 0, .bool false] z9 (fun w21 Bn hV b21 g21 => ?_)
            have hS21 := hS20.below b21
            have hb21 := bel_blk2 hb20 b21
            have hBn : wr.heap.size ≤ Bn := Nat.le_trans hb20.size g21
            refine hK.out _ _ hS21 (fun _ => ?_)
            clear hK K
            try simp only [Act.put, List.setIfInBounds_toArray, List.set_cons_zero, List.set_cons_succ]
            refine wpAnyH_ready (rs := [16]) (by kernel_rfl) (by simp) ?_
            refine AllReadyH.cons (o := ⟨none, _, _, _, _, _⟩) rfl (fun K hK => ?_) AllReadyH.nil
            refine step_store_row rfl 29 (.tmp 19) (.tmp 98) rfl Bn (CA N) rfl rfl 29 #[.int .i64 0, .bool false, .int .u32 0, .int .u32 0, .bool false, .bool false, .int .u32 0, .int .u32 0, .bool false] hV (ca_inf N) rfl (ca_one N) ?_
            have hSz := hS21.row (B := Bn) (by omega) (by omega) (CA N)
            have hbz := Below.setRow hb21 hBn (CA N)
            have hVz := blk_setRow hV (CA N)
            refine hK.out _ _ hSz (fun _ => ?_)
            clear hK K
            try simp only [Act.put, List.setIfInBounds_toArray, List.set_cons_zero, List.set_cons_succ]
            refine wpAnyH_take (i := 17) (oi := ⟨some 20, _, _, _, _, _⟩) (v := .bool ok) rfl (by kernel_rfl) (by kernel_rfl) (by kernel_rfl) (fun _ _ _ h => h) (.inl ⟨by rfl, fun W hW => by go_simp⟩) hSz ?_
            try simp only [Act.put, List.setIfInBounds_toArray, List.set_cons_zero, List.set_cons_succ]
            refine wpAnyH_done (by kernel_rfl) ?_ _
            try simp only [Act.put, List.setIfInBounds_toArray, List.set_cons_zero, List.set_cons_succ]
            go_wp2_with fail
            go_meet
            exact ⟨Bn, rfl, rfl, hVz, hBn, hbz⟩
          · refine step_alloc rfl 29 rfl #[.int .i64 0, .bool false, .int .u32 0, .int .u32 0, .bool false, .bool false, .int .u32 0, .int .u32 0, .bool false] z9 (fun w20 Bn hV b20 g20 => ?_)
            have hS20 := hH0.below b20
            have hb20 := bel_blk2 hb0 b20
            have hBn : wr.heap.size ≤ Bn := Nat.le_trans hb0.size g20
            refine hK.out _ _ hS20 (fun _ => ?_)
            clear hK K
            try simp only [Act.put, List.setIfInBounds_toArray, List.set_cons_zero, List.set_cons_succ]
            refine wpAnyH_ready (rs := [11]) (by kernel_rfl) (by simp) ?_
            refine AllReadyH.cons (o := ⟨some 97, _, _, _, _, _⟩) rfl (fun K hK => ?_) AllReadyH.nil
            go_simp
            go_at_call 10
            ((with_reducible refine (cX _).mono ?_); rintro e w21 ⟨rfl, b21⟩)
            have hS21 := hS20.below b21
            have hb21 := bel_blk2 hb20 b21
            have hV := kb b21 hV
            refine hK.out _ _ hS21 (fun _ => ?_)
            clear hK K
            try simp only [Act.put, List.setIfInBounds_toArray, List.set_cons_zero, List.set_cons_succ]
            refine wpAnyH_take (i := 12) (oi := ⟨some 85, _, _, _, _, _⟩) (v := .tuple #[.agg (CA N), .bool ok]) rfl (by kernel_rfl) (by kernel_rfl) (by kernel_rfl) (fun _ _ _ h => h) (.inl ⟨by rfl, fun W hW => by go_simp⟩) hS21 ?_
            try simp only [Act.put, List.setIfInBounds_toArray, List.set_cons_zero, List.set_cons_succ]
            refine wpAnyH_take (i := 13) (oi := ⟨some 98, _, _, _, _, _⟩) (v := .agg (CA N)) rfl (by kernel_rfl) (by kernel_rfl) (by kernel_rfl) (fun _ _ _ h => h) (.inl ⟨by rfl, fun W hW => by go_simp⟩) hS21 ?_
            try simp only [Act.put, List.setIfInBounds_toArray, List.set_cons_zero, List.set_cons_succ]
            refine wpAnyH_take (i := 14) (oi := ⟨some 99, _, _, _, _, _⟩) (v := .bool ok) rfl (by kernel_rfl) (by kernel_rfl) (by kernel_rfl) (fun _ _ _ h => h) (.inl ⟨by rfl, fun W hW => by go_simp⟩) hS21 ?_
            try simp only [Act.put, List.setIfInBounds_toArray, List.set_cons_zero, List.set_cons_succ]
            refine wpAnyH_ready (rs := [16]) (by kernel_rfl) (by simp) ?_
            refine AllReadyH.cons (o := ⟨none, _, _, _, _, _⟩) rfl (fun K hK => ?_) AllReadyH.nil
            refine step_store_row rfl 29 (.tmp 19) (.tmp 98) rfl Bn (CA N) rfl rfl 29 #[.int .i64 0, .bool false, .int .u32 0, .int .u32 0, .bool false, .bool false, .int .u32 0, .int .u32 0, .bool false] hV (ca_inf N) rfl (ca_one N) ?_
            have hSz := hS21.row (B := Bn) (by omega) (by omega) (CA N)
            have hbz := Below.setRow hb21 hBn (CA N)
            have hVz := blk_setRow hV (CA N)
            refine hK.out _ _ hSz (fun _ => ?_)
            clear hK K
            try simp only [Act.put, List.setIfInBounds_toArray, List.set_cons_zero, List.set_cons_succ]
            refine wpAnyH_take (i := 17) (oi := ⟨some 20, _, _, _, _, _⟩) (v := .bool ok) rfl (by kernel_rfl) (by kernel_rfl) (by kernel_rfl) (fun _ _ _ h => h) (.inl ⟨by rfl, fun W hW => by go_simp⟩) hSz ?_
            try simp only [Act.put, List.setIfInBounds_toArray, List.set_cons_zero, List.set_cons_succ]
            refine wpAnyH_done (by kernel_rfl) ?_ _
            try simp only [Act.put, List.setIfInBounds_toArray, List.set_cons_zero, List.set_cons_succ]
            go_wp2_with fail
            go_meet
            exact ⟨Bn, rfl, rfl, hVz, hBn, hbz⟩

        case rest =>
          obtain ⟨Bn, rfl, rfl, hN, hBn, bx⟩ := hcut
          have hKS2 := hKS.below bx
          have HC2 := Lib.hid hKS2.cb
          have hfl := hKS2.fl
          have hbb := hKS2.bb
          have n0 : wc.cell? ⟨Bn, 0, none⟩ = some (.int .i64 N.st) := blk_cell hN rfl
          have e0 : wc.cell? ⟨BC, 0, none⟩ = some (.int .i64 c.st) := blk_cell hKS2.cb rfl
          have HN := Lib.hid hN
          have HBx := Lib.hid (bel_blk2 HBr.out bx)
          have HK := Lib.hid hKS2
          have hBCn : BC ≠ Bn := by have := blk_lt HC.out; omega
          clear hKS hKS2 hN bx cX HC
          cases ok
          · have HA2 : Hid (N.st = 2 → ans = true) := Lib.hid (fun h => by
              rcases FW.out h with h | h
              · exact HA.out h
              · cases h.1)
            go_wp2_with (first | ((with_reducible refine stop_op (o := ⟨some 168, _, _, _, _, _⟩) ?_); refine Lib.hid ?_; refine wpList_load_cells rfl 29 (.tmp 19) rfl ⟨Bn, 0, none⟩ rfl (CA N) _ (blk_all HN.out) Try.underlying29 rfl (ca_inf _) ?_) | ((with_reducible refine stop_op (o := ⟨none, _, _, _, _, _⟩) ?_); refine Lib.hid ?_; refine wpList_store_row rfl 29 (.tmp 11) (.tmp 168) rfl (BC) (CA N) rfl rfl 29 (CA c) (HC2.out) (ca_inf _) rfl (ca_one _) ?_))
            go_roundw
            case rel => exact ⟨k + 1, N, ans, rfl, by go_num, by omega, HA2, Lib.hid (blk_setRow HC2.out _), Lib.hid (Below.setRow HBx.out hBCw _)⟩
            case measure => simp [intOf]; omega

          · by_cases h2 : N.st = 2
            · by_cases h1 : c.st = 1
              · obtain ⟨p1, p2, p3⟩ := F2.out rfl h2 h1
                have p3n : (bits .and .i64 s.t.fl 18 != 18) = false := by simp [bne, p3]
                rw [h2] at n0
                rw [h1] at e0
                rw [p1] at hbb
                have HH2 := Lib.hid h2
                clear h1 h2 p3 p1 F2 F3
                go_upto_region 17 with (first | ((with_reducible refine stop_op (o := ⟨some 115, _, _, _, _, _⟩) ?_); refine Lib.hid ?_; refine wpList_load_cells rfl 24 (.tmp 114) rfl ⟨gb, off + k * 11 + 1, none⟩ rfl (TA s.t) _ HK.out.tb Try.underlying24 rfl (ta_inf s.t) ?_) | ((with_reducible refine stop_op (o := ⟨none, _, _, _, _, _⟩) ?_); refine Lib.hid ?_; refine wpList_store_row rfl 24 (.tmp 21) (.tmp 115) rfl wc.heap.size (TA s.t) rfl rfl 24 #[.int .i64 0, .int .i64 0, .int .u32 0, .int .u32 0, .int .i64 0, .int .i64 0, .int .i64 0, .int .i64 0, .int .i64 0, .int .i64 0] (blk_new wc _) (ta_inf _) rfl (ta_one _) ?_; rw [World.setRow_alloc_new]))
                have P2 := Lib.hid p2
                clear p2
                obtain ⟨w9, hw9⟩ : ∃ x, x = wc.alloc (.cells (TA s.t) 24) := ⟨_, rfl⟩
                have H9 : Hid (w9.heap[wc.heap.size]? = some (.cells (TA s.t) 24 (0, 0))) := Lib.hid (by rw [hw9]; exact blk_new wc _)
                have b9 : Below wc.heap.size wc w9 := by rw [hw9]; exact bel_al _ _
                rw [← hw9]
                clear hw9
                obtain ⟨B9, hB9⟩ : ∃ x, x = wc.heap.size := ⟨_, rfl⟩
                rw [← hB9] at H9 ⊢
                have HT := Lib.hid H9.out
                have HC9 := Lib.hid (kb b9 HC2.out)
                have HN9 := Lib.hid (kb b9 HN.out)
                have HBx := Lib.hid (bel_blk2 HBx.out b9)
                have q1 : w9.cell? ⟨B9, 3, none⟩ = some (.int .u32 c.a.e) := by rw [← P2.out]; exact blk_cell HT.out rfl
                have q2 : w9.cell? ⟨B9, 4, none⟩ = some (.int .i64 s.t.fl) := blk_cell HT.out rfl
                have q3 : w9.cell? ⟨BC, 2, none⟩ = some (.int .u32 c.a.e) := blk_cell HC9.out rfl
                have q4 := keepc b9 hbb
                have q5 := keepc b9 n0
                clear n0 e0 hbb hfl b9 hB9 HC2 HN
                have HC2 := HC9
                have HN := HN9
                clear HC9 HN9
                go_wp2_with (first | ((with_reducible refine stop_op (o := ⟨some 168, _, _, _, _, _⟩) ?_); refine Lib.hid ?_; refine wpList_load_cells rfl 29 (.tmp 19) rfl ⟨Bn, 0, none⟩ rfl (CA N) _ (blk_all HN.out) Try.underlying29 rfl (ca_inf _) ?_) | ((with_reducible refine stop_op (o := ⟨none, _, _, _, _, _⟩) ?_); refine Lib.hid ?_; refine wpList_store_row rfl 29 (.tmp 11) (.tmp 168) rfl (BC) (CA N) rfl rfl 29 (CA c) (HC2.out) (ca_inf _) rfl (ca_one _) ?_))
                go_roundw
                case rel => exact ⟨k + 1, N, true, rfl, by go_num, by omega, Lib.hid (fun _ => rfl), Lib.hid (blk_setRow HC2.out _), Lib.hid (Below.setRow HBx.out hBCw _)⟩
                case measure => simp [intOf]; omega

              · have HA2 : Hid (N.st = 2 → ans = true) := Lib.hid (fun h => by
                  rcases FW.out h with h | h
                  · exact HA.out h
                  · exact absurd h.2 h1)
                have h1b : (c.st == 1) = false := by simpa using h1
                rw [h2] at n0
                clear h2 h1
                go_wp2_with (first | ((with_reducible refine stop_op (o := ⟨some 168, _, _, _, _, _⟩) ?_); refine Lib.hid ?_; refine wpList_load_cells rfl 29 (.tmp 19) rfl ⟨Bn, 0, none⟩ rfl (CA N) _ (blk_all HN.out) Try.underlying29 rfl (ca_inf _) ?_) | ((with_reducible refine stop_op (o := ⟨none, _, _, _, _, _⟩) ?_); refine Lib.hid ?_; refine wpList_store_row rfl 29 (.tmp 11) (.tmp 168) rfl (BC) (CA N) rfl rfl 29 (CA c) (HC2.out) (ca_inf _) rfl (ca_one _) ?_))
                go_roundw
                case rel => exact ⟨k + 1, N, ans, rfl, by go_num, by omega, HA2, Lib.hid (blk_setRow HC2.out _), Lib.hid (Below.setRow HBx.out hBCw _)⟩
                case measure => simp [intOf]; omega

            · have h2b : (N.st == 2) = false := by simpa using h2
              have HA2 : Hid (N.st = 2 → ans = true) := Lib.hid (fun h => absurd h h2)
              by_cases h3 : N.st = 3
              · by_cases h4 : c.st = 3
                · rw [h3] at n0
                  rw [h4] at e0
                  clear h2 h3 h4 h2b
                  go_wp2_with (first | ((with_reducible refine stop_op (o := ⟨some 168, _, _, _, _, _⟩) ?_); refine Lib.hid ?_; refine wpList_load_cells rfl 29 (.tmp 19) rfl ⟨Bn, 0, none⟩ rfl (CA N) _ (blk_all HN.out) Try.underlying29 rfl (ca_inf _) ?_) | ((with_reducible refine stop_op (o := ⟨none, _, _, _, _, _⟩) ?_); refine Lib.hid ?_; refine wpList_store_row rfl 29 (.tmp 11) (.tmp 168) rfl (BC) (CA N) rfl rfl 29 (CA c) (HC2.out) (ca_inf _) rfl (ca_one _) ?_))
                  go_roundw
                  case rel => exact ⟨k + 1, N, ans, rfl, by go_num, by omega, HA2, Lib.hid (blk_setRow HC2.out _), Lib.hid (Below.setRow HBx.out hBCw _)⟩
                  case measure => simp [intOf]; omega

                · obtain ⟨p1, p2, p3⟩ := F3.out rfl h3 h4
                  have hans := HA.out p1
                  subst hans
                  have h4b : (c.st != 3) = true := by simp [h4]
                  rw [h3] at n0
                  rw [p1] at e0
                  rw [p2] at hbb
                  clear h2 h3 h4 h2b p1 p2 h4b
                  go_wp2_with (first | ((with_reducible refine stop_op (o := ⟨some 168, _, _, _, _, _⟩) ?_); refine Lib.hid ?_; refine wpList_load_cells rfl 29 (.tmp 19) rfl ⟨Bn, 0, none⟩ rfl (CA N) _ (blk_all HN.out) Try.underlying29 rfl (ca_inf _) ?_) | ((with_reducible refine stop_op (o := ⟨none, _, _, _, _, _⟩) ?_); refine Lib.hid ?_; refine wpList_store_row rfl 29 (.tmp 11) (.tmp 168) rfl (BC) (CA N) rfl rfl 29 (CA c) (HC2.out) (ca_inf _) rfl (ca_one _) ?_))
                  go_roundw
                  case rel => exact ⟨k + 1, N, true, rfl, by go_num, by omega, HA2, Lib.hid (blk_setRow HC2.out _), Lib.hid (Below.setRow HBx.out hBCw _)⟩
                  case measure => simp [intOf]; omega

              · have h3b : (N.st == 3) = false := by simpa using h3
                clear h2 h3
                go_wp2_with (first | ((with_reducible refine stop_op (o := ⟨some 168, _, _, _, _, _⟩) ?_); refine Lib.hid ?_; refine wpList_load_cells rfl 29 (.tmp 19) rfl ⟨Bn, 0, none⟩ rfl (CA N) _ (blk_all HN.out) Try.underlying29 rfl (ca_inf _) ?_) | ((with_reducible refine stop_op (o := ⟨none, _, _, _, _, _⟩) ?_); refine Lib.hid ?_; refine wpList_store_row rfl 29 (.tmp 11) (.tmp 168) rfl (BC) (CA N) rfl rfl 29 (CA c) (HC2.out) (ca_inf _) rfl (ca_one _) ?_))
                go_roundw
                case rel => exact ⟨k + 1, N, ans, rfl, by go_num, by omega, HA2, Lib.hid (blk_setRow HC2.out _), Lib.hid (Below.setRow HBx.out hBCw _)⟩
                case measure => simp [intOf]; omega

      · obtain rfl : k = n := by omega
        have hlti : decide ((k : Int) < (k : Int)) = false := by simp
        go_wp2_with fail
        go_ret
        exact ⟨rfl, HBr.out⟩
end Go.Proofs.Ytdgodndaaenafab
