/- RulesNats, RulesPlaces: the walks of the laws; by-name template. -/
import Derived.Test.YtplfmgcgniledaaRHeavy
import Derived.Test.YtplfmgcgniledaaRDoc3
import Derived.Test.YtplfmgcgniledaaRDoc4
import Derived.Test.YtplfmgcgniledaaRRoute
namespace Go.Proofs.Ytplfmgcgniledaa
open Go.Shelf Go.RowKit Go.Lib Go.Sort
set_option linter.unusedVariables false
set_option linter.unusedSimpArgs false

theorem destT_form (c : CF) (k : KR) : ∃ a b p i : Int, destT c k = .tuple #[.agg #[.int .u64 a, .int .u64 b], .int .i64 p, .int .i64 i] := by
  unfold destT
  split
  · exact ⟨_, _, _, _, rfl⟩
  · exact ⟨_, _, _, _, rfl⟩

set_option maxHeartbeats 4000000 in
set_option maxRecDepth 100000 in
theorem nats_any (c : CF) (x : Int) (k : KR) {w : World} (hc : c.Ok w) (hf : c.Fit) (ha : Word k.sh ∧ Word k.sl) :
    Calls Try.prog 6 #[.agg (cfc c), .int .i64 x, .agg (krc k).toArray] w fun e w' => e = .returned (.bool true) ∧ Below w.heap.size w w' := by
  obtain ⟨w0, hw0⟩ : ∃ w0, w0 = (w.alloc (.cells (cfc c) 35)).alloc (.cells (krc k).toArray 26) := ⟨_, rfl⟩
  have hb : Below w.heap.size w w0 := by rw [hw0]; exact Below.al (Below.al (Below.refl _ _) _) _
  have hC : ∀ w', Below w0.heap.size w0 w' → CfB w' w.heap.size c ∧ KeB w' (w.heap.size + 1) 0 k := by
    intro w' h
    refine ⟨CfB.keep ?_ h, KeB.keep ?_ h⟩
    · rw [hw0]; exact (CfB.made w c).keep (Below.al (Below.refl _ _) _)
    · rw [hw0]; have := KeB.made (w.alloc (.cells (cfc c) 35)) k; simpa using this
  have hok := fun (W : World) (hW : Below w0.heap.size w0 W) => (hc.keep hb).keep hW
  have ch := heavy_any c (hok w0 (Below.refl _ _)) hf
  have cd := fun W hW => dest_any c k (hok W hW)
  have cr := fun W hW => rdest_any c k (hok W hW)
  have cs := fun W hW => source_any c x k (hok W hW) ha
  have ct := fun W hW => rsource_any c x k (hok W hW) ha
  obtain ⟨a, b, p, i, hT⟩ := destT_form c k
  rw [hT] at cd cr
  generalize srcP c x k = S at cs ct
  clear hc hf ha hok hT
  obtain ⟨⟨c0, c1, c2, c3, c4, c5, c6, c7⟩, k0, k1, k2, k3, k4, k5, k6⟩ := hC w0 (Below.refl _ _)
  obtain ⟨kp, ksh, ksl, kdh, kdl, ksp, kdp⟩ := k
  simp only [cfc, krc, Nat.zero_add] at *
  subst hw0
  go_enter Try.func6, Try.ntmps6
  go_wp2_with fail
  refine ch.mono ?_
  rintro e w1 ⟨hv, rfl, -, hb1⟩
  cases hv with
  | true =>
    go_wp2
    go_ret
    exact ⟨rfl, bel_via hb hb1⟩
  | false =>
    obtain ⟨⟨d0, d1, d2, d3, d4, d5, d6, d7⟩, e0, e1, e2, e3, e4, e5, e6⟩ := hC w1 hb1
    simp only [Nat.zero_add] at e0 e1 e2 e3 e4 e5 e6
    have cd1 := cd w1 hb1
    clear c0 c1 c2 c3 c4 c5 c6 c7 k0 k1 k2 k3 k4 k5 k6 cd ch
    go_wp2_with (go_at_call 9; with_reducible refine cd1.mono ?_; rintro e w2 ⟨rfl, hb2⟩; refine Hid.out ?_)
    have hb12 := bel_via hb1 hb2
    have hb3 : Below _ _ (w2.alloc (.cells #[.int .u64 a, .int .u64 b] 24)) := bel_via hb12 (Below.al (Below.refl _ _) _)
    obtain ⟨⟨c0, c1, c2, c3, c4, c5, c6, c7⟩, k0, k1, k2, k3, k4, k5, k6⟩ := hC _ hb3
    simp only [Nat.zero_add] at k0 k1 k2 k3 k4 k5 k6
    have cr1 := cr _ hb3
    have q0 : (w2.alloc (.cells #[.int .u64 a, .int .u64 b] 24)).cell? ⟨w2.heap.size, 0, none⟩ = some (.int .u64 a) := by simp [go_sem]
    have q1 : (w2.alloc (.cells #[.int .u64 a, .int .u64 b] 24)).cell? ⟨w2.heap.size, 1, none⟩ = some (.int .u64 b) := by simp [go_sem]
    clear d0 d1 d2 d3 d4 d5 d6 d7 e0 e1 e2 e3 e4 e5 e6 cr hb2 cd1 hb12
    refine Lib.hid ?_
    go_wp2_with (go_at_call 16; with_reducible refine cr1.mono ?_; rintro e w4 ⟨rfl, hb4⟩; refine Hid.out ?_)
    have hb5 : Below _ _ (w4.alloc (.cells #[.int .u64 a, .int .u64 b] 24)) := bel_via hb4 (Below.al (Below.refl _ _) _)
    have hb6 := bel_via hb3 hb5
    obtain ⟨⟨d0, d1, d2, d3, d4, d5, d6, d7⟩, e0, e1, e2, e3, e4, e5, e6⟩ := hC _ hb6
    simp only [Nat.zero_add] at e0 e1 e2 e3 e4 e5 e6
    have r0 := keepc hb5 q0
    have r1 := keepc hb5 q1
    have s0 : (w4.alloc (.cells #[.int .u64 a, .int .u64 b] 24)).cell? ⟨w4.heap.size, 0, none⟩ = some (.int .u64 a) := by simp [go_sem]
    have s1 : (w4.alloc (.cells #[.int .u64 a, .int .u64 b] 24)).cell? ⟨w4.heap.size, 1, none⟩ = some (.int .u64 b) := by simp [go_sem]
    have cs1 := fun W hW => cs W (bel_via hb6 hW)
    have ct1 := fun W hW => ct W (bel_via hb6 hW)
    have hbz := bel_via hb hb6
    clear c0 c1 c2 c3 c4 c5 c6 c7 k0 k1 k2 k3 k4 k5 k6 q0 q1 cs ct hC hb hb1 hb3 hb4 hb5 hb6 cr1
    refine Lib.hid ?_
    go_wp2
    generalize w4.alloc (.cells #[.int .u64 a, .int .u64 b] 24) = wz at *
    have g0 := cell_regrown d0
    have g1 := cell_regrown d1
    have g2 := cell_regrown d2
    have g3 := cell_regrown d3
    have g4 := cell_regrown d4
    have g5 := cell_regrown d5
    have g6 := cell_regrown d6
    have g7 := cell_regrown d7
    have g8 := cell_regrown e0
    have g9 := cell_regrown e1
    have g10 := cell_regrown e2
    have g11 := cell_regrown e3
    have g12 := cell_regrown e4
    have g13 := cell_regrown e5
    have g14 := cell_regrown e6
    have g15 := cell_regrown r0
    have g16 := cell_regrown r1
    have g17 := cell_regrown s0
    have g18 := cell_regrown s1
    have qs := fun d os => Calls.regrown_of (cs1 (grow (redrawn wz d) os) (below_regrown _ _ _))
    have qt := fun d os => Calls.regrown_of (ct1 (grow (redrawn wz d) os) (below_regrown _ _ _))
    clear cs1 ct1 d0 d1 d2 d3 d4 d5 d6 d7 e0 e1 e2 e3 e4 e5 e6 r0 r1 s0 s1
    refine wp_region_quiet_below (by kernel_rfl) (by kernel_rfl) ?_
    repeat (first | go_big_quiet_skip | quiet_step (first | (go_at_call 10; with_reducible exact qs _ _) | (go_at_call 17; with_reducible exact qt _ _)))
    refine wpQuiet_nil ?_
    intro _ hw'
    obtain ⟨⟨dq, osq⟩, hw''⟩ := hw'
    subst hw''
    go_wp2
    go_ret
    exact ⟨by simp, bel_via hbz (below_regrown _ _ _)⟩
end Go.Proofs.Ytplfmgcgniledaa
