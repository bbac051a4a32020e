/- The state behind; what opens; by-name template (gen_wi2.py). -/
import Derived.Test.YtdgodndaaenafabWiL
namespace Go.Proofs.Ytdgodndaaenafab
open Go.RowKit Go.Lib
set_option linter.unusedVariables false
set_option linter.unusedSimpArgs false

theorem behind_any (c : CN) (t : TR) (en : Int) (ofA : Bool) (w : World) : Calls Try.prog 25 #[.agg (CA c), .agg (SG t en), .bool ofA] w fun e w' => e = .returned (.int .i64 (stateP c.st c.a.fin c.b.fin ofA t)) ∧ Below w.heap.size w w' := by
  have hh4 := fun (w1 : World) => has_any t en 4 w1
  have hh16 := fun (w1 : World) => has_any t en 16 w1
  obtain ⟨W, hW⟩ : ∃ W, W = (w.alloc (.cells (CA c) 29)).alloc (.cells (SG t en) 51) := ⟨_, rfl⟩
  have hb1 : Below w.heap.size w W := by rw [hW]; exact Below.al (bel_al _ _) (by simp) _
  have C1 : W.heap[w.heap.size]? = some (.cells (CA c) 29 (0, 0)) := by rw [hW]; exact blk_al (blk_new w _)
  have B1 : W.heap[w.heap.size + 1]? = some (.cells (SG t en) 51 (0, 0)) := by rw [hW]; exact blk_new2 _ _ (by simp)
  have hWs : w.heap.size ≤ W.heap.size := hb1.size
  have HB1 := Lib.hid B1
  have HC := Lib.hid C1
  clear C1 B1
  obtain ⟨Z, hZ⟩ : ∃ Z, Z = stateP c.st c.a.fin c.b.fin ofA t := ⟨_, rfl⟩
  rw [← hZ]
  unfold stateP at hZ
  rcases h4 : hb t 4 with _ | _
  · rw [h4] at hh4 hZ
    rcases hfa : c.a.fin with _ | _
    · have HA := Lib.hid hfa
      rcases hfb : c.b.fin with _ | _
      · have HF := Lib.hid hfb
        rw [hfa, hfb] at hZ
        clear hfa hfb h4
        by_cases hst : c.st = 2
        · have HS := Lib.hid hst
          cases ofA
          · have FIN : Hid (Z = 2) := Lib.hid (by rw [hZ, hst]; simp)
            clear hZ hst
            go_enter Try.func25, Try.ntmps25
            go_upto_region 1 with fail
            rw [← hW]
            clear hW
            go_wp2_with (first | ((with_reducible refine stop_op (o := ⟨some 8, _, _, _, _, _⟩) ?_); refine Lib.hid ?_; refine wpList_load_cells rfl 51 (.tmp 4) rfl ⟨w.heap.size + 1, 0, none⟩ rfl (SG t en) _ (blk_all HB1.out) Try.underlying51 rfl (sg_inf t _) ?_) | (go_at_call 19; with_reducible refine (hh4 _).mono ?_; rintro e w1 ⟨rfl, b1⟩; have hC1 := kb b1 HC.out; have hB1 := kb b1 HB1.out; obtain ⟨e0, e1, e2, e3, e4, e5, e6, e7, e8⟩ := ca_cells hC1; rw [HS.out] at e0; rw [HA.out] at e4; rw [HF.out] at e8))
            go_ret
            exact ⟨by rw [FIN.out] <;> rfl, hb1.trans (b1.mono hWs)⟩
          · rcases h16 : hb t 16 with _ | _
            · rw [h16] at hh16
              have FIN : Hid (Z = 2) := Lib.hid (by rw [hZ, hst, h16]; simp)
              clear hZ hst h16
              go_enter Try.func25, Try.ntmps25
              go_upto_region 1 with fail
              rw [← hW]
              clear hW
              go_wp2_with (first | ((with_reducible refine stop_op (o := ⟨some 8, _, _, _, _, _⟩) ?_); refine Lib.hid ?_; refine wpList_load_cells rfl 51 (.tmp 4) rfl ⟨w.heap.size + 1, 0, none⟩ rfl (SG t en) _ (blk_all HB1.out) Try.underlying51 rfl (sg_inf t _) ?_) | ((with_reducible refine stop_op (o := ⟨some 27, _, _, _, _, _⟩) ?_); refine Lib.hid ?_; refine wpList_load_cells_on (by kernel_rfl) 51 (.tmp 4) rfl ⟨w.heap.size + 1, 0, none⟩ rfl (SG t en) _ (blk_all hB1) Try.underlying51 rfl (sg_inf t _) ?_) | (go_at_call 19; with_reducible refine (hh4 _).mono ?_; rintro e w1 ⟨rfl, b1⟩; have hC1 := kb b1 HC.out; have hB1 := kb b1 HB1.out; obtain ⟨e0, e1, e2, e3, e4, e5, e6, e7, e8⟩ := ca_cells hC1; rw [HS.out] at e0; rw [HA.out] at e4; rw [HF.out] at e8) | (go_at_call 19; refine (hh16 _).mono ?_; rintro e w2 ⟨rfl, b2⟩; have g0 := keepc b2 e0))
              go_ret
              exact ⟨by rw [FIN.out] <;> rfl, (hb1.trans (b1.mono hWs)).trans (b2.mono (Nat.le_trans hWs b1.size))⟩
            · rw [h16] at hh16
              have FIN : Hid (Z = 3) := Lib.hid (by rw [hZ, hst, h16]; simp)
              clear hZ hst h16
              go_enter Try.func25, Try.ntmps25
              go_upto_region 1 with fail
              rw [← hW]
              clear hW
              go_wp2_with (first | ((with_reducible refine stop_op (o := ⟨some 8, _, _, _, _, _⟩) ?_); refine Lib.hid ?_; refine wpList_load_cells rfl 51 (.tmp 4) rfl ⟨w.heap.size + 1, 0, none⟩ rfl (SG t en) _ (blk_all HB1.out) Try.underlying51 rfl (sg_inf t _) ?_) | ((with_reducible refine stop_op (o := ⟨some 27, _, _, _, _, _⟩) ?_); refine Lib.hid ?_; refine wpList_load_cells_on (by kernel_rfl) 51 (.tmp 4) rfl ⟨w.heap.size + 1, 0, none⟩ rfl (SG t en) _ (blk_all hB1) Try.underlying51 rfl (sg_inf t _) ?_) | (go_at_call 19; with_reducible refine (hh4 _).mono ?_; rintro e w1 ⟨rfl, b1⟩; have hC1 := kb b1 HC.out; have hB1 := kb b1 HB1.out; obtain ⟨e0, e1, e2, e3, e4, e5, e6, e7, e8⟩ := ca_cells hC1; rw [HS.out] at e0; rw [HA.out] at e4; rw [HF.out] at e8) | (go_at_call 19; refine (hh16 _).mono ?_; rintro e w2 ⟨rfl, b2⟩; have g0 := keepc b2 e0))
              go_ret
              exact ⟨by rw [FIN.out] <;> rfl, (hb1.trans (b1.mono hWs)).trans (b2.mono (Nat.le_trans hWs b1.size))⟩
        · have FIN : Hid (Z = c.st) := Lib.hid (by rw [hZ]; simp [hst])
          have hs2 : (c.st == 2) = false := by simpa using hst
          clear hZ hst
          go_enter Try.func25, Try.ntmps25
          go_upto_region 1 with fail
          rw [← hW]
          clear hW
          go_wp2_with (first | ((with_reducible refine stop_op (o := ⟨some 8, _, _, _, _, _⟩) ?_); refine Lib.hid ?_; refine wpList_load_cells rfl 51 (.tmp 4) rfl ⟨w.heap.size + 1, 0, none⟩ rfl (SG t en) _ (blk_all HB1.out) Try.underlying51 rfl (sg_inf t _) ?_) | (go_at_call 19; with_reducible refine (hh4 _).mono ?_; rintro e w1 ⟨rfl, b1⟩; have hC1 := kb b1 HC.out; have hB1 := kb b1 HB1.out; obtain ⟨e0, e1, e2, e3, e4, e5, e6, e7, e8⟩ := ca_cells hC1; rw [HA.out] at e4; rw [HF.out] at e8))
          go_ret
          exact ⟨by rw [FIN.out] <;> rfl, hb1.trans (b1.mono hWs)⟩
      · have HF := Lib.hid hfb
        have FIN : Hid (Z = 4) := Lib.hid (by rw [hZ, hfa, hfb]; simp)
        clear hZ hfa hfb h4
        go_enter Try.func25, Try.ntmps25
        go_upto_region 1 with fail
        rw [← hW]
        clear hW
        go_wp2_with (first | ((with_reducible refine stop_op (o := ⟨some 8, _, _, _, _, _⟩) ?_); refine Lib.hid ?_; refine wpList_load_cells rfl 51 (.tmp 4) rfl ⟨w.heap.size + 1, 0, none⟩ rfl (SG t en) _ (blk_all HB1.out) Try.underlying51 rfl (sg_inf t _) ?_) | (go_at_call 19; with_reducible refine (hh4 _).mono ?_; rintro e w1 ⟨rfl, b1⟩; have hC1 := kb b1 HC.out; have hB1 := kb b1 HB1.out; obtain ⟨e0, e1, e2, e3, e4, e5, e6, e7, e8⟩ := ca_cells hC1; rw [HA.out] at e4; rw [HF.out] at e8))
        go_ret
        exact ⟨by rw [FIN.out] <;> rfl, hb1.trans (b1.mono hWs)⟩
    · have HA := Lib.hid hfa
      have FIN : Hid (Z = 4) := Lib.hid (by rw [hZ, hfa]; simp)
      clear hZ hfa h4
      go_enter Try.func25, Try.ntmps25
      go_upto_region 1 with fail
      rw [← hW]
      clear hW
      go_wp2_with (first | ((with_reducible refine stop_op (o := ⟨some 8, _, _, _, _, _⟩) ?_); refine Lib.hid ?_; refine wpList_load_cells rfl 51 (.tmp 4) rfl ⟨w.heap.size + 1, 0, none⟩ rfl (SG t en) _ (blk_all HB1.out) Try.underlying51 rfl (sg_inf t _) ?_) | (go_at_call 19; with_reducible refine (hh4 _).mono ?_; rintro e w1 ⟨rfl, b1⟩; have hC1 := kb b1 HC.out; have hB1 := kb b1 HB1.out; obtain ⟨e0, e1, e2, e3, e4, e5, e6, e7, e8⟩ := ca_cells hC1; rw [HA.out] at e4))
      go_ret
      exact ⟨by rw [FIN.out] <;> rfl, hb1.trans (b1.mono hWs)⟩
  · rw [h4] at hh4
    have FIN : Hid (Z = 5) := Lib.hid (by rw [hZ, h4]; simp)
    clear hZ h4
    go_enter Try.func25, Try.ntmps25
    go_upto_region 1 with fail
    rw [← hW]
    clear hW
    go_wp2_with (first | ((with_reducible refine stop_op (o := ⟨some 8, _, _, _, _, _⟩) ?_); refine Lib.hid ?_; refine wpList_load_cells rfl 51 (.tmp 4) rfl ⟨w.heap.size + 1, 0, none⟩ rfl (SG t en) _ (blk_all HB1.out) Try.underlying51 rfl (sg_inf t _) ?_) | (go_at_call 19; with_reducible refine (hh4 _).mono ?_; rintro e w1 ⟨rfl, b1⟩; have hC1 := kb b1 HC.out; have hB1 := kb b1 HB1.out; obtain ⟨e0, e1, e2, e3, e4, e5, e6, e7, e8⟩ := ca_cells hC1))
    go_ret
    exact ⟨by rw [FIN.out] <;> rfl, hb1.trans (b1.mono hWs)⟩
theorem life_any (c : CN) (w : World) : Calls Try.prog 11 #[.agg (CA c)] w fun e w' => e = .returned (.int .i64 (lifeP c.st)) ∧ Below w.heap.size w w' := by
  have hb1 : Below w.heap.size w (w.alloc (.cells (CA c) 29)) := bel_al _ _
  unfold CA lifeP at *
  generalize c.st = st at *
  go_enter Try.func11, Try.ntmps11
  go_wp2
  all_goals (go_ret; exact ⟨ret_int (by simp_all), hb1⟩)
/-- the first i flags are as they are where t opens. -/
def okI (t : TR) (i : Nat) : Bool := (decide (i < 1) || hb t 2) && (decide (i < 2) || !hb t 1) && (decide (i < 3) || !hb t 4) && (decide (i < 4) || !hb t 16)
set_option maxRecDepth 100000 in
set_option maxHeartbeats 2000000 in
theorem opens_any (t : TR) (en : Int) (w : World) : Calls Try.prog 15 #[.agg (SG t en)] w fun e w' => e = .returned (.bool (opensP t)) ∧ Below w.heap.size w w' := by
  have hh := fun (k : Int) (w1 : World) => has_any t en k w1
  obtain ⟨W, hW⟩ : ∃ W, W = w.alloc (.cells (SG t en) 51) := ⟨_, rfl⟩
  have hb1 : Below w.heap.size w W := by rw [hW]; exact bel_al _ _
  have B1 : W.heap[w.heap.size]? = some (.cells (SG t en) 51 (0, 0)) := by rw [hW]; exact blk_new w _
  have HB1 := Lib.hid B1
  have HB := Lib.hid hb1
  clear B1 hb1
  have F4 : Hid (okI t 4 = true → opensP t = (t.da == 0)) := Lib.hid (fun h => by unfold okI at h; unfold opensP; simp at h; simp [h])
  have F0 : Hid (hb t 2 = false → opensP t = false) := Lib.hid (fun h => by unfold opensP; simp [h])
  have F1 : Hid (hb t 1 = true → opensP t = false) := Lib.hid (fun h => by unfold opensP; simp [h])
  have F2 : Hid (hb t 4 = true → opensP t = false) := Lib.hid (fun h => by unfold opensP; simp [h])
  have F3 : Hid (hb t 16 = true → opensP t = false) := Lib.hid (fun h => by unfold opensP; simp [h])
  have ix : ∀ x : World, Sem.run Try.prog (Instr.index 66 (.agg #[.int .i64 2, .int .i64 1, .int .i64 4, .int .i64 16]) (.int .i64 0)) x = .ok (.int .i64 2) x := fun _ => by kernel_rfl
  have iy : ∀ x : World, Sem.run Try.prog (Instr.index 66 (.agg #[.int .i64 2, .int .i64 1, .int .i64 4, .int .i64 16]) (.int .i64 1)) x = .ok (.int .i64 1) x := fun _ => by kernel_rfl
  have iz : ∀ x : World, Sem.run Try.prog (Instr.index 66 (.agg #[.int .i64 2, .int .i64 1, .int .i64 4, .int .i64 16]) (.int .i64 2)) x = .ok (.int .i64 4) x := fun _ => by kernel_rfl
  have iu : ∀ x : World, Sem.run Try.prog (Instr.index 66 (.agg #[.int .i64 2, .int .i64 1, .int .i64 4, .int .i64 16]) (.int .i64 3)) x = .ok (.int .i64 16) x := fun _ => by kernel_rfl
  generalize opensP t = O at *
  go_enter Try.func15, Try.ntmps15
  go_upto_region 1 with fail
  rw [← hW]
  clear hW
  go_wp2_with fail
  go_loopw [6] (fun v wr => ∃ (i : Nat) (q : Int), q = i ∧ v = .int .i64 q ∧ i ≤ 4 ∧ Hid (okI t i = true) ∧ Hid (wr.heap[w.heap.size]? = some (.cells (SG t en) 51 (0, 0))) ∧ Below w.heap.size w wr) (fun v _ => 4 - (intOf v).toNat)
  case atStart => exact ⟨0, 0, rfl, rfl, by omega, Lib.hid rfl, HB1, HB.out⟩
  case round =>
    obtain ⟨i, q, hq, rfl, hi, hO, hS, hW⟩ := hrel
    obtain rfl | rfl | rfl | rfl | rfl : i = 0 ∨ i = 1 ∨ i = 2 ∨ i = 3 ∨ i = 4 := by omega
    · obtain rfl : q = 0 := by simpa using hq
      clear hq
      replace hh := hh 2
      rcases hx : hb t 2 with _ | _
      · rw [hx] at hh
        have O1 : Hid (O = false) := Lib.hid (F0.out hx)
        clear hx
        go_wp2_with (first | ((with_reducible refine stop_op (o := ⟨some 9, _, _, _, _, _⟩) ?_); refine Lib.hid ?_; refine wpList_load_cells rfl 51 (.tmp 1) rfl ⟨w.heap.size, 0, none⟩ rfl (SG t en) _ (blk_all hS.out) Try.underlying51 rfl (sg_inf t _) ?_) | (go_at_call 19; refine (hh _).mono ?_; rintro e w1 ⟨rfl, b1⟩; have hB1 := Lib.hid (kb b1 hS.out); have hW1 := hW.trans (b1.mono hW.size)))
        go_ret
        exact ⟨by rw [O1.out] <;> rfl, hW1⟩
      · rw [hx] at hh
        have O1 : Hid (okI t 1 = true) := Lib.hid (by have := hO.out; unfold okI at this ⊢; simp at this ⊢; simp [this, hx])
        clear hx
        go_wp2_with (first | ((with_reducible refine stop_op (o := ⟨some 9, _, _, _, _, _⟩) ?_); refine Lib.hid ?_; refine wpList_load_cells rfl 51 (.tmp 1) rfl ⟨w.heap.size, 0, none⟩ rfl (SG t en) _ (blk_all hS.out) Try.underlying51 rfl (sg_inf t _) ?_) | (go_at_call 19; refine (hh _).mono ?_; rintro e w1 ⟨rfl, b1⟩; have hB1 := Lib.hid (kb b1 hS.out); have hW1 := hW.trans (b1.mono hW.size)))
        go_roundw
        case rel => exact ⟨1, 1, rfl, rfl, by omega, O1, hB1, hW1⟩
        case measure => simp [intOf]
    · obtain rfl : q = 1 := by simpa using hq
      clear hq
      replace hh := hh 1
      rcases hx : hb t 1 with _ | _
      · rw [hx] at hh
        have O1 : Hid (okI t 2 = true) := Lib.hid (by have := hO.out; unfold okI at this ⊢; simp at this ⊢; simp [this, hx])
        clear hx
        go_wp2_with (first | ((with_reducible refine stop_op (o := ⟨some 9, _, _, _, _, _⟩) ?_); refine Lib.hid ?_; refine wpList_load_cells rfl 51 (.tmp 1) rfl ⟨w.heap.size, 0, none⟩ rfl (SG t en) _ (blk_all hS.out) Try.underlying51 rfl (sg_inf t _) ?_) | (go_at_call 19; refine (hh _).mono ?_; rintro e w1 ⟨rfl, b1⟩; have hB1 := Lib.hid (kb b1 hS.out); have hW1 := hW.trans (b1.mono hW.size)))
        go_roundw
        case rel => exact ⟨2, 2, rfl, rfl, by omega, O1, hB1, hW1⟩
        case measure => simp [intOf]
      · rw [hx] at hh
        have O1 : Hid (O = false) := Lib.hid (F1.out hx)
        clear hx
        go_wp2_with (first | ((with_reducible refine stop_op (o := ⟨some 9, _, _, _, _, _⟩) ?_); refine Lib.hid ?_; refine wpList_load_cells rfl 51 (.tmp 1) rfl ⟨w.heap.size, 0, none⟩ rfl (SG t en) _ (blk_all hS.out) Try.underlying51 rfl (sg_inf t _) ?_) | (go_at_call 19; refine (hh _).mono ?_; rintro e w1 ⟨rfl, b1⟩; have hB1 := Lib.hid (kb b1 hS.out); have hW1 := hW.trans (b1.mono hW.size)))
        go_ret
        exact ⟨by rw [O1.out] <;> rfl, hW1⟩
    · obtain rfl : q = 2 := by simpa using hq
      clear hq
      replace hh := hh 4
      rcases hx : hb t 4 with _ | _
      · rw [hx] at hh
        have O1 : Hid (okI t 3 = true) := Lib.hid (by have := hO.out; unfold okI at this ⊢; simp at this ⊢; simp [this, hx])
        clear hx
        go_wp2_with (first | ((with_reducible refine stop_op (o := ⟨some 9, _, _, _, _, _⟩) ?_); refine Lib.hid ?_; refine wpList_load_cells rfl 51 (.tmp 1) rfl ⟨w.heap.size, 0, none⟩ rfl (SG t en) _ (blk_all hS.out) Try.underlying51 rfl (sg_inf t _) ?_) | (go_at_call 19; refine (hh _).mono ?_; rintro e w1 ⟨rfl, b1⟩; have hB1 := Lib.hid (kb b1 hS.out); have hW1 := hW.trans (b1.mono hW.size)))
        go_roundw
        case rel => exact ⟨3, 3, rfl, rfl, by omega, O1, hB1, hW1⟩
        case measure => simp [intOf]
      · rw [hx] at hh
        have O1 : Hid (O = false) := Lib.hid (F2.out hx)
        clear hx
        go_wp2_with (first | ((with_reducible refine stop_op (o := ⟨some 9, _, _, _, _, _⟩) ?_); refine Lib.hid ?_; refine wpList_load_cells rfl 51 (.tmp 1) rfl ⟨w.heap.size, 0, none⟩ rfl (SG t en) _ (blk_all hS.out) Try.underlying51 rfl (sg_inf t _) ?_) | (go_at_call 19; refine (hh _).mono ?_; rintro e w1 ⟨rfl, b1⟩; have hB1 := Lib.hid (kb b1 hS.out); have hW1 := hW.trans (b1.mono hW.size)))
        go_ret
        exact ⟨by rw [O1.out] <;> rfl, hW1⟩
    · obtain rfl : q = 3 := by simpa using hq
      clear hq
      replace hh := hh 16
      rcases hx : hb t 16 with _ | _
      · rw [hx] at hh
        have O1 : Hid (okI t 4 = true) := Lib.hid (by have := hO.out; unfold okI at this ⊢; simp at this ⊢; simp [this, hx])
        clear hx
        go_wp2_with (first | ((with_reducible refine stop_op (o := ⟨some 9, _, _, _, _, _⟩) ?_); refine Lib.hid ?_; refine wpList_load_cells rfl 51 (.tmp 1) rfl ⟨w.heap.size, 0, none⟩ rfl (SG t en) _ (blk_all hS.out) Try.underlying51 rfl (sg_inf t _) ?_) | (go_at_call 19; refine (hh _).mono ?_; rintro e w1 ⟨rfl, b1⟩; have hB1 := Lib.hid (kb b1 hS.out); have hW1 := hW.trans (b1.mono hW.size)))
        go_roundw
        case rel => exact ⟨4, 4, rfl, rfl, by omega, O1, hB1, hW1⟩
        case measure => simp [intOf]
      · rw [hx] at hh
        have O1 : Hid (O = false) := Lib.hid (F3.out hx)
        clear hx
        go_wp2_with (first | ((with_reducible refine stop_op (o := ⟨some 9, _, _, _, _, _⟩) ?_); refine Lib.hid ?_; refine wpList_load_cells rfl 51 (.tmp 1) rfl ⟨w.heap.size, 0, none⟩ rfl (SG t en) _ (blk_all hS.out) Try.underlying51 rfl (sg_inf t _) ?_) | (go_at_call 19; refine (hh _).mono ?_; rintro e w1 ⟨rfl, b1⟩; have hB1 := Lib.hid (kb b1 hS.out); have hW1 := hW.trans (b1.mono hW.size)))
        go_ret
        exact ⟨by rw [O1.out] <;> rfl, hW1⟩
    · obtain rfl : q = 4 := by simpa using hq
      have d9 : wr.cell? ⟨w.heap.size, 9, none⟩ = some (.int .i64 t.da) := blk_cell hS.out rfl
      have FIN : Hid (O = (t.da == 0)) := Lib.hid (F4.out hO.out)
      clear hq hh
      go_wp2_with fail
      go_ret
      exact ⟨by rw [FIN.out] <;> rfl, hW⟩
end Go.Proofs.Ytdgodndaaenafab
