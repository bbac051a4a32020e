/- What a rule chooses: the document's; by-name template (gen_rof.py). -/
import Derived.Test.YtplfmgcgniledaaRChoose
namespace Go.Proofs.Ytplfmgcgniledaa
open Go.Shelf Go.RowKit Go.Lib Go.Sort
set_option linter.unusedVariables false
set_option linter.unusedSimpArgs false

set_option maxHeartbeats 4000000 in
set_option maxRecDepth 100000 in
theorem of_none (c : CF) {w : World} :
    Calls Try.prog 42 #[.agg (cfc c), .int .i64 (-1)] w fun e w' => e = .returned (.agg #[.int .i64 c.dflt, .int .i64 (-1), .int .i64 (-1), .bool false]) ∧ Below w.heap.size w w' := by
  simp only [cfc]
  go_enter Try.func42, Try.ntmps42
  go_wp2
  exact bodyPost_ret (v := .agg #[.int .i64 c.dflt, .int .i64 (-1), .int .i64 (-1), .bool false]) (by simp [results, Try.results42, go_sem]) rfl ⟨rfl, by repeat (first | exact Below.refl _ _ | apply Below.dr | apply Below.al)⟩

theorem cell_set3 {w : World} {B b o o2 : Nat} {v : Value} (h : b ≠ B) : (w.setCell ⟨B, o, none⟩ v).cell? ⟨b, o2, none⟩ = w.cell? ⟨b, o2, none⟩ :=
  World.cell?_of_block (w := w) (set_other h o v)
/-- What the loop over the limits has found. -/
def LimAt (p : LR → Bool) (l : List LR) (k : Nat) (lv : Int) : Prop := (lv = -1 ∧ ∀ (j : Nat) (x : LR), j < k → l[j]? = some x → p x = false) ∨ (∃ (q : Nat) (x : LR), q < k ∧ lv = q ∧ l[q]? = some x ∧ p x = true ∧ ∀ (j : Nat) (y : LR), j < q → l[j]? = some y → p y = false)

set_option maxHeartbeats 16000000 in
set_option maxRecDepth 100000 in
theorem of_some (c : CF) (j : Nat) (u : UR) {w : World} (hc : c.Ok w) (hj : c.us[j]? = some u) :
    Calls Try.prog 42 #[.agg (cfc c), .int .i64 (j : Nat)] w fun e w' => e = .returned (.agg #[.int .i64 u.act, .int .i64 (j : Nat), .int .i64 (limP c u.lim), .bool u.proxy]) ∧ Below w.heap.size w w' := by
  have hjn : j < c.un := by have := getE hj; have := hc.u.len; omega
  have hjni : (j : Int) < (c.un : Int) := by omega
  obtain ⟨b, off, hA, hlt, hrow⟩ := hc.u.row (by omega)
  have hbig := hc.u.big
  have hlbig := hc.l.big
  have hlenL := hc.l.len
  have HlenL := Lib.hid hlenL
  have r0 : w.cell? ⟨b, off + j * 8, none⟩ = some (.string u.inz) := hrow j u hj 0 _ rfl
  have r1 := hrow j u hj 1 _ rfl
  have r2 := hrow j u hj 2 _ rfl
  have r3 := hrow j u hj 3 _ rfl
  have r4 := hrow j u hj 4 _ rfl
  have r5 := hrow j u hj 5 _ rfl
  have r6 := hrow j u hj 6 _ rfl
  have r7 := hrow j u hj 7 _ rfl
  have hLS := hc.l
  obtain ⟨V, hV⟩ : ∃ V, V = limP c u.lim := ⟨_, rfl⟩
  rw [← hV]
  unfold limP at hV
  obtain ⟨n0, n1, n2, n3, n4, n5, n6, n7⟩ := u
  simp only at hV r0 r1 r2 r3 r4 r5 r6 r7 ⊢
  have HV := Lib.hid hV
  clear hV hrow hj hc hlenL
  simp only [cfc, hA]
  have hjd : decide ((j : Int) < 0) = false := by simp
  go_enter Try.func42, Try.ntmps42
  by_cases ha : n6.toList = []
  · have hab : n6.toList.isEmpty = true := by simp [ha]
    have hab2 : (n6.toList != []) = false := by simp [ha]
    have hv : V = -1 := by rw [HV.out, if_pos ha]
    subst hv
    clear HV
    go_wp2
    refine wp_loop_rounds 1 ?_
    rw [rounds_succ]
    go_wp2
    all_goals exact bodyPost_ret (v := .agg #[.int .i64 n5, .int .i64 (j : Nat), .int .i64 (-1), .bool n7]) (by simp [results, Try.results42, go_sem]) rfl ⟨rfl, by repeat (first | exact Below.refl _ _ | apply Below.dr | apply Below.al)⟩
  · have hab : n6.toList.isEmpty = false := by simpa using ha
    have hab2 : (n6.toList != []) = true := by simp [ha]
    have hab3 : (!n6.toList.isEmpty) = true := by simp [ha]
    have hv : V = pl (fun l => eqs l.nm n6) c.ls := by rw [HV.out, if_neg ha]
    have HV2 := Lib.hid hv
    clear HV hv ha
    go_wp2
    obtain ⟨W4, hW4⟩ : ∃ W4, W4 = (((w.alloc (.cells #[.slice c.zA c.zn c.zc, .slice c.oA c.on c.oc, .slice c.sA c.sn c.sc, .slice c.lA c.ln c.lc, .slice c.tA c.tn c.tc, .slice c.nA c.nn c.nc, .slice (some ⟨b, off, none⟩) c.un c.uc, .int .i64 c.dflt] 35)).alloc (.cells #[.int .i64 0, .int .i64 0, .int .i64 0, .bool false] 59)).alloc (.cells #[.string n0, .string n1, .string n2, .string n3, .string n4, .int .i64 n5, .string n6, .bool n7] 63)).alloc (.cells #[.int .i64 n5, .int .i64 (j : Nat), .int .i64 (-1), .bool n7] 59) := ⟨_, rfl⟩
    rw [← hW4]
    have hb4 : Below w.heap.size w W4 := by rw [hW4]; repeat (first | exact Below.refl _ _ | apply Below.dr | apply Below.al)
    have hX4 : W4.heap[w.heap.size + 1 + 1 + 1]? = some (.cells #[.int .i64 n5, .int .i64 (j : Nat), .int .i64 (-1), .bool n7] 59 (0, 0)) := by rw [hW4]; exact al_new (by simp) _
    have hR4 : W4.heap[w.heap.size + 1]? = some (.cells #[.int .i64 0, .int .i64 0, .int .i64 0, .bool false] 59 (0, 0)) := by rw [hW4]; exact (al_old (by simp) _).trans ((al_old (by simp) _).trans (al_new (by simp) _))
    have hL4 : W4.cell? ⟨w.heap.size, 3, none⟩ = some (.slice c.lA c.ln c.lc) := by rw [hW4]; simp [go_sem, World.cell?_alloc_past]
    have hN4 : W4.cell? ⟨w.heap.size + 1 + 1, 6, none⟩ = some (.string n6) := by rw [hW4]; simp [go_sem, World.cell?_alloc_past]
    clear hW4 r0 r1 r2 r3 r4 r5 r6 r7
    go_loopw [7] (fun vi wr => ∃ (k : Nat) (lv : Int), k ≤ c.ln ∧ vi = .int .i64 k ∧ Below w.heap.size w wr ∧ wr.heap[w.heap.size + 1 + 1 + 1]? = some (.cells #[.int .i64 n5, .int .i64 (j : Nat), .int .i64 lv, .bool n7] 59 (0, 0)) ∧ wr.heap[w.heap.size + 1]? = some (.cells #[.int .i64 0, .int .i64 0, .int .i64 0, .bool false] 59 (0, 0)) ∧ wr.cell? ⟨w.heap.size, 3, none⟩ = some (.slice c.lA c.ln c.lc) ∧ wr.cell? ⟨w.heap.size + 1 + 1, 6, none⟩ = some (.string n6) ∧ LimAt (fun l => eqs l.nm n6) c.ls k lv) (fun vi _ => c.ln - (intOf vi).toNat)
    case atStart => exact ⟨0, -1, by omega, rfl, hb4, hX4, hR4, hL4, hN4, .inl ⟨rfl, fun j z hj => absurd hj (Nat.not_lt_zero _)⟩⟩
    case round =>
      obtain ⟨k, lv, hk, rfl, hbr, hX, hR, hL, hN, hLim⟩ := hrel
      clear hb4 hX4 hR4 hL4 hN4
      have HLim := Lib.hid hLim
      by_cases hltk : k < c.ln
      · have hltki : (k : Int) < (c.ln : Int) := by omega
        obtain ⟨b2, off2, hA2, hblt2, hrow2⟩ := hLS.row (by omega)
        obtain ⟨x, hx⟩ : ∃ x, c.ls[k]? = some x := ⟨_, List.getElem?_eq_getElem (by rw [HlenL.out]; omega)⟩
        have q0 : wr.cell? ⟨b2, off2 + k * 4, none⟩ = some (.string x.nm) := keepc hbr (hrow2 k x hx 0 _ rfl)
        obtain ⟨X0, X1, X2, X3, _⟩ := cells4 hX
        have hneg : -1 ≤ lv := by rcases hLim with ⟨h, _⟩ | ⟨q, _, _, h, _⟩ <;> omega
        have HX := Lib.hid hx
        have hA3 := hA2
        rw [hA2] at hL
        have HA3 := Lib.hid hA3
        clear hx hrow2 hLS hLim hA2 hA3
        have g0 := cell_regrown q0
        have g1 := cell_regrown X2
        have g2 := cell_regrown hL
        have g3 := cell_regrown hN
        go_wp2
        clear q0 X0 X1 X2 X3
        by_cases he : x.nm.toList = n6.toList
        · have heb : (x.nm.toList == n6.toList) = true := by simp [he]
          have hee : eqs x.nm n6 = true := heb
          have HE := Lib.hid hee
          clear he hee
          by_cases hl0 : lv < 0
          · obtain rfl : lv = -1 := by omega
            refine wp_region_quiet_below (by kernel_rfl) (by kernel_rfl) ?_
            repeat (first | go_big_quiet_skip | quiet_step (fail))
            refine wpQuiet_nil ?_
            intro _ hw'
            obtain ⟨⟨dq, osq⟩, hw''⟩ := hw'
            subst hw''
            have hX2 : (grow (redrawn wr dq) osq).heap[w.heap.size + 1 + 1 + 1]? = _ := ((below_regrown wr dq osq).block _ (Array.getElem?_eq_some_iff.1 hX).1).trans hX
            have hR2 : (grow (redrawn wr dq) osq).heap[w.heap.size + 1]? = _ := ((below_regrown wr dq osq).block _ (Array.getElem?_eq_some_iff.1 hR).1).trans hR
            have hL2 := keepc (below_regrown wr dq osq) hL
            have hN2 := keepc (below_regrown wr dq osq) hN
            have hbz := bel_via hbr (below_regrown wr dq osq)
            generalize grow (redrawn wr dq) osq = wz at *
            clear g0 g1 g2 g3 hX hR hL hN hbr
            obtain ⟨X0, X1, X2, X3, Z0, Z1, Z2, Z3⟩ := cells4 hX2
            go_wp2
            go_roundw
            case rel =>
              refine ⟨k + 1, (k : Nat), by omega, by go_num, below_set hbz (by omega) 2 _, by simp [World.setCell, Array.getElem?_modify, hX2], (set_other (by omega) _ _).trans hR2, ?_, ?_, .inr ⟨k, x, by omega, rfl, HX.out, HE.out, ?_⟩⟩
              · rw [HA3.out]; rw [cell_set3 (by omega)]; exact hL2
              · rw [cell_set3 (by omega)]; exact hN2
              · rcases HLim.out with ⟨_, h⟩ | ⟨q, _, _, h, _⟩
                · exact h
                · omega
            case measure => simp [intOf]; omega
          · have hl0d : decide (lv < 0) = false := by simp [hl0]
            refine wp_region_quiet_below (by kernel_rfl) (by kernel_rfl) ?_
            repeat (first | go_big_quiet_skip | quiet_step (fail))
            refine wpQuiet_nil ?_
            intro _ hw'
            obtain ⟨⟨dq, osq⟩, hw''⟩ := hw'
            subst hw''
            go_wp2
            go_roundw
            case rel =>
              refine ⟨k + 1, lv, by omega, by go_num, bel_via hbr (below_regrown _ _ _), ((below_regrown wr dq osq).block _ (Array.getElem?_eq_some_iff.1 hX).1).trans hX, ((below_regrown wr dq osq).block _ (Array.getElem?_eq_some_iff.1 hR).1).trans hR, by rw [HA3.out]; exact keepc (below_regrown wr dq osq) hL, keepc (below_regrown wr dq osq) hN, ?_⟩
              rcases HLim.out with ⟨h, _⟩ | ⟨q, y, h1, h2, h3, h4, h5⟩
              · omega
              · exact .inr ⟨q, y, by omega, h2, h3, h4, h5⟩
            case measure => simp [intOf]; omega
        · have heb : (x.nm.toList == n6.toList) = false := by simp [he]
          have hee : eqs x.nm n6 = false := heb
          have HE := Lib.hid hee
          clear he hee
          refine wp_region_quiet_below (by kernel_rfl) (by kernel_rfl) ?_
          repeat (first | go_big_quiet_skip | quiet_step (fail))
          refine wpQuiet_nil ?_
          intro _ hw'
          obtain ⟨⟨dq, osq⟩, hw''⟩ := hw'
          subst hw''
          go_wp2
          go_roundw
          case rel =>
            refine ⟨k + 1, lv, by omega, by go_num, bel_via hbr (below_regrown _ _ _), ((below_regrown wr dq osq).block _ (Array.getElem?_eq_some_iff.1 hX).1).trans hX, ((below_regrown wr dq osq).block _ (Array.getElem?_eq_some_iff.1 hR).1).trans hR, by rw [HA3.out]; exact keepc (below_regrown wr dq osq) hL, keepc (below_regrown wr dq osq) hN, ?_⟩
            rcases HLim.out with ⟨h, h2⟩ | ⟨q, y, h1, h2, h3, h4, h5⟩
            · refine .inl ⟨h, fun m z hm hz => ?_⟩
              by_cases e : m = k
              · subst e; rw [HX.out] at hz; cases hz; exact HE.out
              · exact h2 m z (by omega) hz
            · exact .inr ⟨q, y, by omega, h2, h3, h4, h5⟩
          case measure => simp [intOf]; omega
      · obtain rfl : k = c.ln := by omega
        have hend : V = lv := by
          rw [HV2.out]
          rcases hLim with ⟨h, h2⟩ | ⟨q, y, h1, h2, h3, h4, h5⟩
          · rw [h]; exact pl_miss fun m z hz => h2 m z (by rw [← HlenL.out]; exact getE hz) hz
          · rw [h2]; exact pl_hit h3 h4 h5
        subst hend
        clear hltk hLim HLim HV2
        obtain ⟨X0, X1, X2, X3, _⟩ := cells4 hX
        obtain ⟨R0, R1, R2, R3, Z0, Z1, Z2, Z3⟩ := cells4 hR
        have hltR : w.heap.size + 1 < wr.heap.size := World.block_lt_of_cell? _ _ R0
        go_wp2
        have hR2 := heap_set4 hR (.int .i64 n5) (.int .i64 (j : Nat)) (.int .i64 V) (.bool n7)
        have hb2 := below_set (below_set (below_set (below_set hbr (B := w.heap.size + 1) (by omega) 0 (.int .i64 n5)) (B := w.heap.size + 1) (by omega) 1 (.int .i64 (j : Nat))) (B := w.heap.size + 1) (by omega) 2 (.int .i64 V)) (B := w.heap.size + 1) (by omega) 3 (.bool n7)
        generalize (((wr.setCell ⟨w.heap.size + 1, 0, none⟩ (.int .i64 n5)).setCell ⟨w.heap.size + 1, 1, none⟩ (.int .i64 (j : Nat))).setCell ⟨w.heap.size + 1, 2, none⟩ (.int .i64 V)).setCell ⟨w.heap.size + 1, 3, none⟩ (.bool n7) = wf at *
        obtain ⟨f0, f1, f2, f3, _⟩ := cells4 hR2
        exact bodyPost_ret (v := .agg #[.int .i64 n5, .int .i64 (j : Nat), .int .i64 V, .bool n7]) (by simp [results, Try.results42, go_sem, f0, f1, f2, f3]) rfl ⟨rfl, hb2⟩
end Go.Proofs.Ytplfmgcgniledaa
