/- RulesPlaces: the walk of the law; by-name template (gen_rplaces.py). -/
import Derived.Test.YtplfmgcgniledaaRHeavy
import Derived.Test.YtplfmgcgniledaaRRoute
namespace Go.Proofs.Ytplfmgcgniledaa
open Go.Shelf Go.RowKit Go.Lib Go.Sort
set_option linter.unusedVariables false
set_option linter.unusedSimpArgs false

set_option maxHeartbeats 4000000 in
set_option maxRecDepth 100000 in
theorem places_any (c : CF) (x : Int) (ah al : Int) {w : World} (hc : c.Ok w) (hf : c.Fit) :
    Calls Try.prog 5 #[.agg (cfc c), .int .i64 x, .agg #[.int .u64 ah, .int .u64 al]] w fun e w' => e = .returned (.bool true) ∧ Below w.heap.size w w' := by
  obtain ⟨w0, hw0⟩ : ∃ w0, w0 = (w.alloc (.cells (cfc c) 35)).alloc (.cells #[.int .u64 ah, .int .u64 al] 24) := ⟨_, rfl⟩
  have hb : Below w.heap.size w w0 := by rw [hw0]; exact Below.al (Below.al (Below.refl _ _) _) _
  have hC : ∀ w', Below w0.heap.size w0 w' → CfB w' w.heap.size c ∧ w'.cell? ⟨w.heap.size + 1, 0, none⟩ = some (.int .u64 ah) ∧ w'.cell? ⟨w.heap.size + 1, 1, none⟩ = some (.int .u64 al) := by
    intro w' h
    refine ⟨CfB.keep ?_ h, keepc h ?_, keepc h ?_⟩
    · rw [hw0]; exact (CfB.made w c).keep (Below.al (Below.refl _ _) _)
    · rw [hw0]; simp [go_sem, World.cell?_alloc_past]
    · rw [hw0]; simp [go_sem, World.cell?_alloc_past]
  have hok := fun (W : World) (hW : Below w0.heap.size w0 W) => (hc.keep hb).keep hW
  have ch := heavy_any c (hok w0 (Below.refl _ _)) hf
  have cd := fun W hW => route_any c ah al (hok W hW)
  have cr := fun W hW => rroute_any c ah al (hok W hW)
  have cs := fun W hW => zone_any c x (hok W hW)
  have ct := fun W hW => rzone_any c x (hok W hW)
  unfold routeT at cd cr
  generalize (routeP c ah al).1 = p at *
  generalize (routeP c ah al).2 = q at *
  generalize zoneP c x = S at cs ct
  clear hc hf hok
  obtain ⟨⟨c0, c1, c2, c3, c4, c5, c6, c7⟩, a0, a1⟩ := hC w0 (Below.refl _ _)
  simp only [cfc] at *
  subst hw0
  go_enter Try.func5, Try.ntmps5
  go_wp2_with fail
  refine ch.mono ?_
  rintro e w1 ⟨hv, rfl, -, hb1⟩
  cases hv with
  | true =>
    go_wp2
    go_ret
    exact ⟨rfl, bel_via hb hb1⟩
  | false =>
    obtain ⟨⟨d0, d1, d2, d3, d4, d5, d6, d7⟩, e0, e1⟩ := hC w1 hb1
    have cd1 := cd w1 hb1
    clear c0 c1 c2 c3 c4 c5 c6 c7 a0 a1 cd ch
    go_wp2_with (go_at_call 12; with_reducible refine cd1.mono ?_; rintro e w2 ⟨rfl, hb2⟩; refine Hid.out ?_)
    have hb12 := bel_via hb1 hb2
    obtain ⟨⟨c0, c1, c2, c3, c4, c5, c6, c7⟩, a0, a1⟩ := hC _ hb12
    have cr1 := cr _ hb12
    clear d0 d1 d2 d3 d4 d5 d6 d7 e0 e1 cr hb2 cd1
    refine Lib.hid ?_
    go_wp2_with (go_at_call 13; with_reducible refine cr1.mono ?_; rintro e wz ⟨rfl, hb4⟩; refine Hid.out ?_)
    have hb6 := bel_via hb12 hb4
    obtain ⟨⟨d0, d1, d2, d3, d4, d5, d6, d7⟩, e0, e1⟩ := hC _ hb6
    have cs1 := fun W hW => cs W (bel_via hb6 hW)
    have ct1 := fun W hW => ct W (bel_via hb6 hW)
    have hbz := bel_via hb hb6
    clear c0 c1 c2 c3 c4 c5 c6 c7 a0 a1 cs ct hC hb hb1 hb4 hb6 hb12 cr1
    refine Lib.hid ?_
    go_wp2
    have g0 := cell_regrown d0
    have g1 := cell_regrown d1
    have g2 := cell_regrown d2
    have g3 := cell_regrown d3
    have g4 := cell_regrown d4
    have g5 := cell_regrown d5
    have g6 := cell_regrown d6
    have g7 := cell_regrown d7
    have qs := fun d os => Calls.regrown_of (cs1 (grow (redrawn wz d) os) (below_regrown _ _ _))
    have qt := fun d os => Calls.regrown_of (ct1 (grow (redrawn wz d) os) (below_regrown _ _ _))
    clear cs1 ct1 d0 d1 d2 d3 d4 d5 d6 d7 e0 e1
    refine wp_region_quiet_below (by kernel_rfl) (by kernel_rfl) ?_
    repeat (first | go_big_quiet_skip | quiet_step (first | (go_at_call 14; with_reducible exact qs _ _) | (go_at_call 15; with_reducible exact qt _ _)))
    refine wpQuiet_nil ?_
    intro _ hw'
    obtain ⟨⟨dq, osq⟩, hw''⟩ := hw'
    subst hw''
    go_wp2
    go_ret
    exact ⟨by simp, bel_via hbz (below_regrown _ _ _)⟩
end Go.Proofs.Ytplfmgcgniledaa
