/- What is chosen: the document's; by-name template (gen_rrchoose.py). -/
import Derived.Test.YtplfmgcgniledaaROf
namespace Go.Proofs.Ytplfmgcgniledaa
open Go.Shelf Go.RowKit Go.Lib Go.Sort
set_option linter.unusedVariables false
set_option linter.unusedSimpArgs false

set_option maxHeartbeats 16000000 in
set_option maxRecDepth 100000 in
theorem rchoose_any (c : CF) (hi ho : Int) (k : KR) {w : World} (hc : c.Ok w) :
    Calls Try.prog 19 #[.agg (cfc c), .agg (Value.int .i64 hi :: .int .i64 ho :: krc k).toArray] w fun e w' => e = .returned (chooseT c hi ho k) ∧ Below w.heap.size w w' := by
  obtain ⟨w0, hw0⟩ : ∃ w0, w0 = ((w.alloc (.cells (cfc c) 35)).alloc (.cells (Value.int .i64 hi :: .int .i64 ho :: krc k).toArray 57)).alloc (.cells #[.int .i64 0, .int .i64 0, .int .i64 0, .bool false] 59) := ⟨_, rfl⟩
  have hb : Below w.heap.size w w0 := by rw [hw0]; exact Below.al (Below.al (Below.al (Below.refl _ _) _) _) _
  have hC : ∀ w', Below w0.heap.size w0 w' → CfB w' w.heap.size c ∧ HdB w' (w.heap.size + 1) hi ho k := by
    intro w' h
    refine ⟨CfB.keep ?_ h, HdB.keep ?_ h⟩
    · rw [hw0]; exact ((CfB.made w c).keep (Below.al (Below.refl _ _) _)).keep (Below.al (Below.refl _ _) _)
    · rw [hw0]; have := (HdB.made (w.alloc (.cells (cfc c) 35)) hi ho k).keep (Below.al (Below.refl _ _) (.cells #[.int .i64 0, .int .i64 0, .int .i64 0, .bool false] 59)); simpa using this
  have hR : ∀ w', Below w0.heap.size w0 w' → w'.heap[w.heap.size + 1 + 1]? = some (.cells #[.int .i64 0, .int .i64 0, .int .i64 0, .bool false] 59 (0, 0)) := fun w' h => by
    rw [h.block _ (by rw [hw0]; simp), hw0]; exact al_new (by simp) _
  have hS := hc.u.keep hb
  have hbig := hS.big
  have hlen := hS.len
  have Hlen := Lib.hid hlen
  have hok := fun (W : World) (hW : Below w0.heap.size w0 W) => (hc.keep hb).keep hW
  obtain ⟨V, hV⟩ : ∃ V, V = chooseT c hi ho k := ⟨_, rfl⟩
  rw [← hV]
  unfold chooseT at hV
  have HV := Lib.hid hV
  clear hV hc hlen
  obtain ⟨kp, ksh, ksl, kdh, kdl, ksp, kdp⟩ := k
  simp only [krc] at hw0 ⊢
  simp only [cfc] at hw0 ⊢
  go_enter Try.func19, Try.ntmps19
  go_wp2
  rw [← hw0]
  clear hw0
  go_loopw [5] (fun vi wr => ∃ i : Nat, i ≤ c.un ∧ vi = .int .i64 i ∧ Below w0.heap.size w0 wr ∧ Aside (∀ (j : Nat) (u : UR), j < i → c.us[j]? = some u → matchP c u hi ho ⟨kp, ksh, ksl, kdh, kdl, ksp, kdp⟩ = false)) (fun vi _ => c.un - (intOf vi).toNat)
  case atStart => exact ⟨0, by omega, rfl, Below.refl _ _, fun j z hj => absurd hj (Nat.not_lt_zero _)⟩
  case round =>
    obtain ⟨i, hi5, rfl, hbr, N⟩ := hrel
    obtain ⟨⟨c0, c1, c2, c3, c4, c5, c6, c7⟩, i0, o0, k0, k1, k2, k3, k4, k5, k6⟩ := hC wr hbr
    simp only [Nat.reduceAdd] at k0 k1 k2 k3 k4 k5 k6
    have hm0 : w.heap.size < wr.heap.size := World.block_lt_of_cell? _ _ c0
    have hm1 : w.heap.size + 1 < wr.heap.size := World.block_lt_of_cell? _ _ i0
    have hb1 := bel_via hb hbr
    by_cases hlt : i < c.un
    · have hlti : (i : Int) < (c.un : Int) := by omega
      obtain ⟨b, off, hA, hblt, hrow⟩ := hS.row (by omega)
      obtain ⟨u, hu⟩ : ∃ s, c.us[i]? = some s := ⟨_, List.getElem?_eq_getElem (by rw [Hlen.out]; omega)⟩
      have r0 : wr.cell? ⟨b, off + i * 8, none⟩ = some (.string u.inz) := keepc hbr (hrow i u hu 0 _ rfl)
      have r1 := keepc hbr (hrow i u hu 1 _ rfl)
      have r2 := keepc hbr (hrow i u hu 2 _ rfl)
      have r3 := keepc hbr (hrow i u hu 3 _ rfl)
      have r4 := keepc hbr (hrow i u hu 4 _ rfl)
      have r5 := keepc hbr (hrow i u hu 5 _ rfl)
      have r6 := keepc hbr (hrow i u hu 6 _ rfl)
      have r7 := keepc hbr (hrow i u hu 7 _ rfl)
      have hlt1 : b < wr.heap.size := Nat.lt_of_lt_of_le hblt hbr.size
      have HU := Lib.hid hu
      have cq0 := fun d os => Calls.regrown_of (rmatch_any c u hi ho ⟨kp, ksh, ksl, kdh, kdl, ksp, kdp⟩ (w := grow (redrawn wr d) os) (hok _ (bel_via hbr (below_regrown wr d os))))
      have co := fun (W : World) (hW : Below w0.heap.size w0 W) => of_some c i u (hok W hW) hu
      have HA := Lib.hid hA
      rw [hA] at c6
      clear hu hrow hS hok hblt hA
      have hcm : ∀ R, matchP c u hi ho ⟨kp, ksh, ksl, kdh, kdl, ksp, kdp⟩ = R → matchP c u hi ho ⟨kp, ksh, ksl, kdh, kdl, ksp, kdp⟩ = R := fun _ h => h
      obtain ⟨Q, hQ⟩ : ∃ Q, Q = matchP c u hi ho ⟨kp, ksh, ksl, kdh, kdl, ksp, kdp⟩ := ⟨_, rfl⟩
      rw [← hQ] at cq0
      obtain ⟨n0, n1, n2, n3, n4, n5, n6, n7⟩ := u
      simp only at r0 r1 r2 r3 r4 r5 r6 r7
      simp only [cfc, urc, krc] at cq0 co
      rw [HA.out] at cq0 co
      have HQ := Lib.hid hQ
      clear hQ hcm
      have g0 := cell_regrown c0
      have g1 := cell_regrown c1
      have g2 := cell_regrown c2
      have g3 := cell_regrown c3
      have g4 := cell_regrown c4
      have g5 := cell_regrown c5
      have g6 := cell_regrown c6
      have g7 := cell_regrown c7
      have g8 := cell_regrown i0
      have g9 := cell_regrown o0
      have g10 := cell_regrown k0
      have g11 := cell_regrown k1
      have g12 := cell_regrown k2
      have g13 := cell_regrown k3
      have g14 := cell_regrown k4
      have g15 := cell_regrown k5
      have g16 := cell_regrown k6
      have g17 := cell_regrown r0
      have g18 := cell_regrown r1
      have g19 := cell_regrown r2
      have g20 := cell_regrown r3
      have g21 := cell_regrown r4
      have g22 := cell_regrown r5
      have g23 := cell_regrown r6
      have g24 := cell_regrown r7
      go_wp2
      clear r0 r1 r2 r3 r4 r5 r6 r7 c0 c1 c2 c3 c4 c5 c6 c7 i0 o0 k0 k1 k2 k3 k4 k5 k6
      cases Q with
      | false =>
        refine wp_region_quiet_below (by kernel_rfl) (by kernel_rfl) ?_
        repeat (first | go_big_quiet_skip | quiet_step (first | (go_at_call 41; with_reducible exact cq0 _ _)))
        refine wpQuiet_nil ?_
        intro _ hw'
        obtain ⟨⟨dq, osq⟩, hw''⟩ := hw'
        subst hw''
        go_wp2
        go_roundw
        case rel =>
          refine ⟨i + 1, by omega, by go_num, bel_via hbr (below_regrown _ _ _), fun j z2 hj hz2 => ?_⟩
          by_cases e : j = i
          · subst e
            rw [HU.out] at hz2; cases hz2
            exact HQ.out.symm
          · exact N.out j z2 (by omega) hz2
        case measure => simp [intOf]; omega
      | true =>
        refine wp_region_quiet_below (by kernel_rfl) (by kernel_rfl) ?_
        repeat (first | go_big_quiet_skip | quiet_step (first | (go_at_call 41; with_reducible exact cq0 _ _)))
        refine wpQuiet_nil ?_
        intro _ hw'
        obtain ⟨⟨dq, osq⟩, hw''⟩ := hw'
        subst hw''
        have hbz := bel_via hbr (below_regrown wr dq osq)
        generalize grow (redrawn wr dq) osq = wz at *
        obtain ⟨⟨c0, c1, c2, c3, c4, c5, c6, c7⟩, _⟩ := hC wz hbz
        rw [HA.out] at c6
        have hv : V = .agg #[.int .i64 n5, .int .i64 (i : Nat), .int .i64 (limP c n6), .bool n7] := by
          rw [HV.out, find_hit (p := fun u => matchP c u hi ho ⟨kp, ksh, ksl, kdh, kdl, ksp, kdp⟩) HU.out HQ.out.symm N.out, pl_hit (p := fun u => matchP c u hi ho ⟨kp, ksh, ksl, kdh, kdl, ksp, kdp⟩) HU.out HQ.out.symm N.out]
        generalize limP c n6 = L at *
        have HV2 := Lib.hid hv
        have co1 := co wz hbz
        clear hv HV HQ HU N co cq0 g0 g1 g2 g3 g4 g5 g6 g7 g8 g9 g10 g11 g12 g13 g14 g15 g16 g17 g18 g19 g20 g21 g22 g23 g24
        go_wp2_with (go_at_call 42; with_reducible refine co1.mono ?_; rintro e w5 ⟨rfl, hb5⟩; refine Hid.out ?_)
        have hbw5 := bel_via hbz hb5
        have hR5 := hR w5 hbw5
        obtain ⟨R0, R1, R2, R3, Z0, Z1, Z2, Z3⟩ := cells4 hR5
        have hltR : w.heap.size + 1 + 1 < w5.heap.size := World.block_lt_of_cell? _ _ R0
        have hbw6 := bel_via hb hbw5
        clear hb5 hbw5 hR hC
        refine Lib.hid ?_
        go_wp2
        have hR6 := heap_set4 hR5 (.int .i64 n5) (.int .i64 (i : Nat)) (.int .i64 L) (.bool n7)
        have hb6 := below_set (below_set (below_set (below_set hbw6 (B := w.heap.size + 1 + 1) (by omega) 0 (.int .i64 n5)) (B := w.heap.size + 1 + 1) (by omega) 1 (.int .i64 (i : Nat))) (B := w.heap.size + 1 + 1) (by omega) 2 (.int .i64 L)) (B := w.heap.size + 1 + 1) (by omega) 3 (.bool n7)
        generalize (((w5.setCell ⟨w.heap.size + 1 + 1, 0, none⟩ (.int .i64 n5)).setCell ⟨w.heap.size + 1 + 1, 1, none⟩ (.int .i64 (i : Nat))).setCell ⟨w.heap.size + 1 + 1, 2, none⟩ (.int .i64 L)).setCell ⟨w.heap.size + 1 + 1, 3, none⟩ (.bool n7) = wf at *
        obtain ⟨f0, f1, f2, f3, _⟩ := cells4 hR6
        exact bodyPost_ret (v := .agg #[.int .i64 n5, .int .i64 (i : Nat), .int .i64 L, .bool n7]) (by simp [results, Try.results19, go_sem, f0, f1, f2, f3]) rfl ⟨by rw [HV2.out], hb6⟩
    · obtain rfl : i = c.un := by omega
      clear hlt
      have hv : V = .agg #[.int .i64 c.dflt, .int .i64 (-1), .int .i64 (-1), .bool false] := by
        rw [HV.out, find_miss (p := fun u => matchP c u hi ho ⟨kp, ksh, ksl, kdh, kdl, ksp, kdp⟩) fun j z hz => N.out j z (by rw [← Hlen.out]; exact getE hz) hz]
      have HV2 := Lib.hid hv
      have co := of_none c (w := wr)
      simp only [cfc] at co
      clear hv HV N hok hS
      go_wp2_with (go_at_call 42; with_reducible refine co.mono ?_; rintro e w5 ⟨rfl, hb5⟩; refine Hid.out ?_)
      have hbw5 := bel_via hbr hb5
      have hR5 := hR w5 hbw5
      obtain ⟨R0, R1, R2, R3, Z0, Z1, Z2, Z3⟩ := cells4 hR5
      have hltR : w.heap.size + 1 + 1 < w5.heap.size := World.block_lt_of_cell? _ _ R0
      have hbw6 := bel_via hb hbw5
      clear hb5 hbw5 hR hC
      refine Lib.hid ?_
      go_wp2
      have hR6 := heap_set4 hR5 (.int .i64 c.dflt) (.int .i64 (-1)) (.int .i64 (-1)) (.bool false)
      have hb6 := below_set (below_set (below_set (below_set hbw6 (B := w.heap.size + 1 + 1) (by omega) 0 (.int .i64 c.dflt)) (B := w.heap.size + 1 + 1) (by omega) 1 (.int .i64 (-1))) (B := w.heap.size + 1 + 1) (by omega) 2 (.int .i64 (-1))) (B := w.heap.size + 1 + 1) (by omega) 3 (.bool false)
      generalize (((w5.setCell ⟨w.heap.size + 1 + 1, 0, none⟩ (.int .i64 c.dflt)).setCell ⟨w.heap.size + 1 + 1, 1, none⟩ (.int .i64 (-1))).setCell ⟨w.heap.size + 1 + 1, 2, none⟩ (.int .i64 (-1))).setCell ⟨w.heap.size + 1 + 1, 3, none⟩ (.bool false) = wf at *
      obtain ⟨f0, f1, f2, f3, _⟩ := cells4 hR6
      exact bodyPost_ret (v := .agg #[.int .i64 c.dflt, .int .i64 (-1), .int .i64 (-1), .bool false]) (by simp [results, Try.results19, go_sem, f0, f1, f2, f3]) rfl ⟨by rw [HV2.out], hb6⟩
end Go.Proofs.Ytplfmgcgniledaa
