/- The transport headers, the document's; by-name template (gen_wrtr.py). -/
import Derived.Test.YtpmbdjdhgcjkfaaWRTcp
import Derived.StillTailTactics
namespace Go.Proofs.Ytpmbdjdhgcjkfaa
open Go.RowKit Go.Sort
set_option linter.unusedVariables false
set_option linter.unusedSimpArgs false


set_option maxHeartbeats 2000000 in
set_option maxRecDepth 100000 in
theorem rudp_a (A : Option Addr) (n c : Nat) (vv : Bool) (vhd vtt vttl vp vsH vsL vdH vdL : Int) (vfr : Bool) (vid voff : Int) (vmo : Bool) (hn : n < 8) {w : World} :
    Calls Try.prog 57 #[.slice A n c, .agg #[.bool vv, .int .i64 vhd, .int .i64 vtt, .int .i64 vttl, .int .i64 vp, .int .u64 vsH, .int .u64 vsL, .int .u64 vdH, .int .u64 vdL, .bool vfr, .int .u32 vid, .int .i64 voff, .bool vmo]] w fun e w' => e = .returned (.tuple #[.agg (tcells ztw), .int .i64 40]) ∧ Below w.heap.size w w' := by
  have hi : (n : Int) < 8 := by omega
  simp only [tcells, ztw]
  go_enter Try.func57, Try.ntmps57
  go_wp2_with (with_reducible refine stop_op (o := ⟨some 8, _, _, _, _, _⟩) ?_)
  obtain ⟨w3, hw3⟩ : ∃ x, x = (w.alloc (.cells #[.bool vv, .int .i64 vhd, .int .i64 vtt, .int .i64 vttl, .int .i64 vp, .int .u64 vsH, .int .u64 vsL, .int .u64 vdH, .int .u64 vdL, .bool vfr, .int .u32 vid, .int .i64 voff, .bool vmo] 43)).alloc (.cells #[.int .i64 0, .int .i64 0, .int .u32 0, .int .u32 0, .int .i64 0, .int .i64 0, .int .i64 0, .int .i64 0, .int .i64 0, .int .i64 0] 53) := ⟨_, rfl⟩
  have hV : w3.heap[w.heap.size]? = some (.cells #[.bool vv, .int .i64 vhd, .int .i64 vtt, .int .i64 vttl, .int .i64 vp, .int .u64 vsH, .int .u64 vsL, .int .u64 vdH, .int .u64 vdL, .bool vfr, .int .u32 vid, .int .i64 voff, .bool vmo] 43 (0, 0)) := by rw [hw3]; exact (al_oldw (by first | (simp; done) | (simp; omega)) _).trans (al_neww rfl _)
  have hR : w3.heap[w.heap.size + 1]? = some (.cells #[.int .i64 0, .int .i64 0, .int .u32 0, .int .u32 0, .int .i64 0, .int .i64 0, .int .i64 0, .int .i64 0, .int .i64 0, .int .i64 0] 53 (0, 0)) := by rw [hw3]; exact al_neww (by simp) _
  have bw : Below w.heap.size w w3 := by rw [hw3]; exact Below.al (Below.al (Below.refl _ _) _) _
  rw [← hw3]
  clear hw3
  obtain ⟨⟨v0, v1, v2, v3, v4, v5, v6, v7, v8, v9, v10, v11, v12⟩, _⟩ := cells13 hV
  obtain ⟨⟨r0, r1, r2, r3, r4, r5, r6, r7, r8, r9⟩, q0, q1, q2, q3, q4, q5, q6, q7, q8, q9⟩ := cells10 hR
  refine Lib.hid ?_
  go_wp2
  refine bodyPost_ret_by (res_row Try.results57 _ _ (w.heap.size + 1) 53 #[.int .i64 0, .int .i64 0, .int .u32 0, .int .u32 0, .int .i64 0, .int .i64 0, .int .i64 0, .int .i64 0, .int .i64 0, .int .i64 0] _ rfl (heap_set10w hR (.int .i64 0) (.int .i64 0) (.int .u32 0) (.int .u32 0) (.int .i64 0) (.int .i64 0) (.int .i64 0) (.int .i64 0) (.int .i64 0) (.int .i64 0)) Try.underlying53 (by kernel_rfl)) rfl ⟨rfl, ?_⟩
  exact below_set10 bw (by omega) _ _ _ _ _ _ _ _ _ _

set_option maxHeartbeats 2000000 in
set_option maxRecDepth 100000 in
theorem rudp_b (g o c n : Nat) (l : List UInt8) (vv : Bool) (vhd vtt vttl vp vsH vsL vdH vdL : Int) (vfr : Bool) (vid voff : Int) (vmo : Bool) (hn : l.length = n) (h8 : 8 ≤ n) (hc : n ≤ c) (hcm : c ≤ 9223372036854775807) {w : World} (hb : Byt w g o l) (hx : nbN l 4 2 ≠ n) :
    Calls Try.prog 57 #[.slice (some ⟨g, o, none⟩) n c, .agg #[.bool vv, .int .i64 vhd, .int .i64 vtt, .int .i64 vttl, .int .i64 vp, .int .u64 vsH, .int .u64 vsL, .int .u64 vdH, .int .u64 vdL, .bool vfr, .int .u32 vid, .int .i64 voff, .bool vmo]] w fun e w' => e = .returned (.tuple #[.agg (tcells ztw), .int .i64 42]) ∧ Below w.heap.size w w' := by
  have hi : ¬ (n : Int) < 8 := by omega
  have hi2 : decide ((n : Int) < 8) = false := by simp; omega
  have hi3 : decide (n < 8) = false := by simp; omega
  have s4 : ∀ W, (Instr.slice 22 (.slice (some ⟨g, o, none⟩) n c) (some (.int .i64 4)) (some (.int .i64 6)) none).run Try.prog W = .ok (.slice (some ⟨g, o + 4, none⟩) 2 (c - 4)) W := cut_lh g o n c 4 6 (by omega) (by omega) (by omega) hcm
  have n4 := gett g o n c 4 2 l hn (by omega) (by omega) hb
  have h4 := nb2_lt l 4
  generalize nbN l 4 2 = Z at *
  have Q4 : ((Z : Int) != (n : Int)) = true := by simp; omega
  simp only [tcells, ztw]
  clear hx hb hn
  go_enter Try.func57, Try.ntmps57
  go_wp2_with (with_reducible refine stop_op (o := ⟨some 8, _, _, _, _, _⟩) ?_)
  obtain ⟨w3, hw3⟩ : ∃ x, x = (w.alloc (.cells #[.bool vv, .int .i64 vhd, .int .i64 vtt, .int .i64 vttl, .int .i64 vp, .int .u64 vsH, .int .u64 vsL, .int .u64 vdH, .int .u64 vdL, .bool vfr, .int .u32 vid, .int .i64 voff, .bool vmo] 43)).alloc (.cells #[.int .i64 0, .int .i64 0, .int .u32 0, .int .u32 0, .int .i64 0, .int .i64 0, .int .i64 0, .int .i64 0, .int .i64 0, .int .i64 0] 53) := ⟨_, rfl⟩
  have hV : w3.heap[w.heap.size]? = some (.cells #[.bool vv, .int .i64 vhd, .int .i64 vtt, .int .i64 vttl, .int .i64 vp, .int .u64 vsH, .int .u64 vsL, .int .u64 vdH, .int .u64 vdL, .bool vfr, .int .u32 vid, .int .i64 voff, .bool vmo] 43 (0, 0)) := by rw [hw3]; exact (al_oldw (by first | (simp; done) | (simp; omega)) _).trans (al_neww rfl _)
  have hR : w3.heap[w.heap.size + 1]? = some (.cells #[.int .i64 0, .int .i64 0, .int .u32 0, .int .u32 0, .int .i64 0, .int .i64 0, .int .i64 0, .int .i64 0, .int .i64 0, .int .i64 0] 53 (0, 0)) := by rw [hw3]; exact al_neww (by simp) _
  have bw : Below w.heap.size w w3 := by rw [hw3]; exact Below.al (Below.al (Below.refl _ _) _) _
  rw [← hw3]
  clear hw3
  obtain ⟨⟨v0, v1, v2, v3, v4, v5, v6, v7, v8, v9, v10, v11, v12⟩, _⟩ := cells13 hV
  obtain ⟨⟨r0, r1, r2, r3, r4, r5, r6, r7, r8, r9⟩, q0, q1, q2, q3, q4, q5, q6, q7, q8, q9⟩ := cells10 hR
  refine Lib.hid ?_
  have m4 := n4 _ bw
  go_wp2_with (go_at_call 44; (with_reducible refine m4.mono ?_); rintro e w' ⟨rfl, hw'⟩; (have hw'' := hw'.symm); subst hw'')
  refine bodyPost_ret_by (res_row Try.results57 _ _ (w.heap.size + 1) 53 #[.int .i64 0, .int .i64 0, .int .u32 0, .int .u32 0, .int .i64 0, .int .i64 0, .int .i64 0, .int .i64 0, .int .i64 0, .int .i64 0] _ rfl (heap_set10w hR (.int .i64 0) (.int .i64 0) (.int .u32 0) (.int .u32 0) (.int .i64 0) (.int .i64 0) (.int .i64 0) (.int .i64 0) (.int .i64 0) (.int .i64 0)) Try.underlying53 (by kernel_rfl)) rfl ⟨rfl, ?_⟩
  exact below_set10 bw (by omega) _ _ _ _ _ _ _ _ _ _

set_option maxHeartbeats 2000000 in
set_option maxRecDepth 100000 in
theorem rudp_c (g o c n : Nat) (l : List UInt8) (vhd vtt vttl vp vsH vsL vdH vdL : Int) (vfr : Bool) (vid voff : Int) (vmo : Bool) (hn : l.length = n) (h8 : 8 ≤ n) (hc : n ≤ c) (hcm : c ≤ 9223372036854775807) {w : World} (hb : Byt w g o l) (hx : nbN l 4 2 = n) (hk : nbN l 6 2 = 0) :
    Calls Try.prog 57 #[.slice (some ⟨g, o, none⟩) n c, .agg #[.bool true, .int .i64 vhd, .int .i64 vtt, .int .i64 vttl, .int .i64 vp, .int .u64 vsH, .int .u64 vsL, .int .u64 vdH, .int .u64 vdL, .bool vfr, .int .u32 vid, .int .i64 voff, .bool vmo]] w fun e w' => e = .returned (.tuple #[.agg (tcells ztw), .int .i64 43]) ∧ Below w.heap.size w w' := by
  have hi : ¬ (n : Int) < 8 := by omega
  have hi2 : decide ((n : Int) < 8) = false := by simp; omega
  have hi3 : decide (n < 8) = false := by simp; omega
  have s4 : ∀ W, (Instr.slice 22 (.slice (some ⟨g, o, none⟩) n c) (some (.int .i64 4)) (some (.int .i64 6)) none).run Try.prog W = .ok (.slice (some ⟨g, o + 4, none⟩) 2 (c - 4)) W := cut_lh g o n c 4 6 (by omega) (by omega) (by omega) hcm
  have n4 := gett g o n c 4 2 l hn (by omega) (by omega) hb
  have h4 := nb2_lt l 4
  generalize nbN l 4 2 = Z at *
  have Q4 : ((Z : Int) != (n : Int)) = false := by simp; omega
  have s6 : ∀ W, (Instr.slice 22 (.slice (some ⟨g, o, none⟩) n c) (some (.int .i64 6)) (some (.int .i64 8)) none).run Try.prog W = .ok (.slice (some ⟨g, o + 6, none⟩) 2 (c - 6)) W := cut_lh g o n c 6 8 (by omega) (by omega) (by omega) hcm
  have n6 := gett g o n c 6 2 l hn (by omega) (by omega) hb
  have h6 := nb2_lt l 6
  generalize nbN l 6 2 = K at *
  have Q6 : ((K : Int) == 0) = true := by simp; omega
  have Q7 : ((K : Int) != 0) = false := by simp; omega
  simp only [tcells, ztw]
  clear hx hk hb hn
  go_enter Try.func57, Try.ntmps57
  go_wp2_with (with_reducible refine stop_op (o := ⟨some 8, _, _, _, _, _⟩) ?_)
  obtain ⟨w3, hw3⟩ : ∃ x, x = (w.alloc (.cells #[.bool true, .int .i64 vhd, .int .i64 vtt, .int .i64 vttl, .int .i64 vp, .int .u64 vsH, .int .u64 vsL, .int .u64 vdH, .int .u64 vdL, .bool vfr, .int .u32 vid, .int .i64 voff, .bool vmo] 43)).alloc (.cells #[.int .i64 0, .int .i64 0, .int .u32 0, .int .u32 0, .int .i64 0, .int .i64 0, .int .i64 0, .int .i64 0, .int .i64 0, .int .i64 0] 53) := ⟨_, rfl⟩
  have hV : w3.heap[w.heap.size]? = some (.cells #[.bool true, .int .i64 vhd, .int .i64 vtt, .int .i64 vttl, .int .i64 vp, .int .u64 vsH, .int .u64 vsL, .int .u64 vdH, .int .u64 vdL, .bool vfr, .int .u32 vid, .int .i64 voff, .bool vmo] 43 (0, 0)) := by rw [hw3]; exact (al_oldw (by first | (simp; done) | (simp; omega)) _).trans (al_neww rfl _)
  have hR : w3.heap[w.heap.size + 1]? = some (.cells #[.int .i64 0, .int .i64 0, .int .u32 0, .int .u32 0, .int .i64 0, .int .i64 0, .int .i64 0, .int .i64 0, .int .i64 0, .int .i64 0] 53 (0, 0)) := by rw [hw3]; exact al_neww (by simp) _
  have bw : Below w.heap.size w w3 := by rw [hw3]; exact Below.al (Below.al (Below.refl _ _) _) _
  rw [← hw3]
  clear hw3
  obtain ⟨⟨v0, v1, v2, v3, v4, v5, v6, v7, v8, v9, v10, v11, v12⟩, _⟩ := cells13 hV
  obtain ⟨⟨r0, r1, r2, r3, r4, r5, r6, r7, r8, r9⟩, q0, q1, q2, q3, q4, q5, q6, q7, q8, q9⟩ := cells10 hR
  refine Lib.hid ?_
  have m4 := n4 _ bw
  have m6 := n6 _ bw
  go_wp2_with (first | (go_at_call 44; (with_reducible refine m4.mono ?_); rintro e w' ⟨rfl, hw'⟩; (have hw'' := hw'.symm); subst hw'') | (go_at_call 44; (with_reducible refine m6.mono ?_); rintro e w' ⟨rfl, hw'⟩; (have hw'' := hw'.symm); subst hw''))
  refine bodyPost_ret_by (res_row Try.results57 _ _ (w.heap.size + 1) 53 #[.int .i64 0, .int .i64 0, .int .u32 0, .int .u32 0, .int .i64 0, .int .i64 0, .int .i64 0, .int .i64 0, .int .i64 0, .int .i64 0] _ rfl (heap_set10w hR (.int .i64 0) (.int .i64 0) (.int .u32 0) (.int .u32 0) (.int .i64 0) (.int .i64 0) (.int .i64 0) (.int .i64 0) (.int .i64 0) (.int .i64 0)) Try.underlying53 (by kernel_rfl)) rfl ⟨rfl, ?_⟩
  exact below_set10 bw (by omega) _ _ _ _ _ _ _ _ _ _

set_option maxHeartbeats 2000000 in
set_option maxRecDepth 100000 in
theorem rudp_d (g o c n : Nat) (l : List UInt8) (vhd vtt vttl vp vsH vsL vdH vdL : Int) (vfr : Bool) (vid voff : Int) (vmo : Bool) (hn : l.length = n) (h8 : 8 ≤ n) (hc : n ≤ c) (hcm : c ≤ 9223372036854775807) {w : World} (hb : Byt w g o l) (hx : nbN l 4 2 = n) (hk : nbN l 6 2 = 0) (hh0 : 0 ≤ vhd) (hh1 : vhd ≤ 65536) :
    Calls Try.prog 57 #[.slice (some ⟨g, o, none⟩) n c, .agg #[.bool false, .int .i64 vhd, .int .i64 vtt, .int .i64 vttl, .int .i64 vp, .int .u64 vsH, .int .u64 vsL, .int .u64 vdH, .int .u64 vdL, .bool vfr, .int .u32 vid, .int .i64 voff, .bool vmo]] w fun e w' => e = .returned (.tuple #[.agg (tcells { fieldsP l false 17 with head := vhd + 8, data := 0 }), .int .i64 0]) ∧ Below w.heap.size w w' := by
  have hi : ¬ (n : Int) < 8 := by omega
  have hi2 : decide ((n : Int) < 8) = false := by simp; omega
  have hi3 : decide (n < 8) = false := by simp; omega
  have s4 : ∀ W, (Instr.slice 22 (.slice (some ⟨g, o, none⟩) n c) (some (.int .i64 4)) (some (.int .i64 6)) none).run Try.prog W = .ok (.slice (some ⟨g, o + 4, none⟩) 2 (c - 4)) W := cut_lh g o n c 4 6 (by omega) (by omega) (by omega) hcm
  have n4 := gett g o n c 4 2 l hn (by omega) (by omega) hb
  have h4 := nb2_lt l 4
  generalize nbN l 4 2 = Z at *
  have Q4 : ((Z : Int) != (n : Int)) = false := by simp; omega
  have s6 : ∀ W, (Instr.slice 22 (.slice (some ⟨g, o, none⟩) n c) (some (.int .i64 6)) (some (.int .i64 8)) none).run Try.prog W = .ok (.slice (some ⟨g, o + 6, none⟩) 2 (c - 6)) W := cut_lh g o n c 6 8 (by omega) (by omega) (by omega) hcm
  have n6 := gett g o n c 6 2 l hn (by omega) (by omega) hb
  have h6 := nb2_lt l 6
  generalize nbN l 6 2 = K at *
  have Q6 : ((K : Int) == 0) = true := by simp; omega
  have Q7 : ((K : Int) != 0) = false := by simp; omega
  rw [show fieldsP l false 17 = ⟨nbN l 0 2, nbN l 2 2, 0, 0, 0, 0, 0, 0, 0, 0⟩ by simp [fieldsP]]
  have s0 : ∀ W, (Instr.slice 22 (.slice (some ⟨g, o, none⟩) n c) none (some (.int .i64 2)) none).run Try.prog W = .ok (.slice (some ⟨g, o, none⟩) 2 c) W := cut_h g o n c 2 (by omega) hcm
  have n0 := get0 g o n c 2 l hn (by omega) (by omega) hb
  have s2 : ∀ W, (Instr.slice 22 (.slice (some ⟨g, o, none⟩) n c) (some (.int .i64 2)) (some (.int .i64 4)) none).run Try.prog W = .ok (.slice (some ⟨g, o + 2, none⟩) 2 (c - 2)) W := cut_lh g o n c 2 4 (by omega) (by omega) (by omega) hcm
  have n2 := gett g o n c 2 2 l hn (by omega) (by omega) hb
  generalize nbN l 0 2 = S0 at *
  generalize nbN l 2 2 = S2 at *
  have wh : IntKind.i64.wrap (vhd + 8) = vhd + 8 := by rw [IntKind.wrap_i64]; omega
  have cb := True.intro
  simp only [tcells]
  clear hx hk hb hn
  go_enter Try.func57, Try.ntmps57
  go_wp2_with (with_reducible refine stop_op (o := ⟨some 8, _, _, _, _, _⟩) ?_)
  obtain ⟨w3, hw3⟩ : ∃ x, x = (w.alloc (.cells #[.bool false, .int .i64 vhd, .int .i64 vtt, .int .i64 vttl, .int .i64 vp, .int .u64 vsH, .int .u64 vsL, .int .u64 vdH, .int .u64 vdL, .bool vfr, .int .u32 vid, .int .i64 voff, .bool vmo] 43)).alloc (.cells #[.int .i64 0, .int .i64 0, .int .u32 0, .int .u32 0, .int .i64 0, .int .i64 0, .int .i64 0, .int .i64 0, .int .i64 0, .int .i64 0] 53) := ⟨_, rfl⟩
  have hV : w3.heap[w.heap.size]? = some (.cells #[.bool false, .int .i64 vhd, .int .i64 vtt, .int .i64 vttl, .int .i64 vp, .int .u64 vsH, .int .u64 vsL, .int .u64 vdH, .int .u64 vdL, .bool vfr, .int .u32 vid, .int .i64 voff, .bool vmo] 43 (0, 0)) := by rw [hw3]; exact (al_oldw (by first | (simp; done) | (simp; omega)) _).trans (al_neww rfl _)
  have hR : w3.heap[w.heap.size + 1]? = some (.cells #[.int .i64 0, .int .i64 0, .int .u32 0, .int .u32 0, .int .i64 0, .int .i64 0, .int .i64 0, .int .i64 0, .int .i64 0, .int .i64 0] 53 (0, 0)) := by rw [hw3]; exact al_neww (by simp) _
  have bw : Below w.heap.size w w3 := by rw [hw3]; exact Below.al (Below.al (Below.refl _ _) _) _
  rw [← hw3]
  clear hw3
  obtain ⟨⟨v0, v1, v2, v3, v4, v5, v6, v7, v8, v9, v10, v11, v12⟩, _⟩ := cells13 hV
  obtain ⟨⟨r0, r1, r2, r3, r4, r5, r6, r7, r8, r9⟩, q0, q1, q2, q3, q4, q5, q6, q7, q8, q9⟩ := cells10 hR
  refine Lib.hid ?_
  have m4 := n4 _ bw
  have m6 := n6 _ bw
  go_wp2_with (first | (go_at_call 44; (with_reducible refine m4.mono ?_); rintro e w' ⟨rfl, hw'⟩; (have hw'' := hw'.symm); subst hw'') | (go_at_call 44; (with_reducible refine m6.mono ?_); rintro e w' ⟨rfl, hw'⟩; (have hw'' := hw'.symm); subst hw'') | fail)
  clear m4 m6
  have m0 := n0 w3.drew (Below.dr bw)
  have m2 := n2 w3.drew (Below.dr bw)
  clear n0 n2 cb
  refine wp_region_still_tail 10 (by kernel_rfl) (by kernel_rfl) ?_
  simp only [List.take_succ_cons, List.take_zero, List.drop_succ_cons, List.drop_zero]
  still_step
  still_step
  still_call m0
  still_step
  still_step
  still_call m2
  still_step
  still_step
  still_step
  still_step
  try refine wpStill_nil ?_
  change wpList _ _ _ _ _ w3.drew
  have hVn : w3.drew.heap[w.heap.size]? = some (.cells #[.bool false, .int .i64 vhd, .int .i64 vtt, .int .i64 vttl, .int .i64 vp, .int .u64 vsH, .int .u64 vsL, .int .u64 vdH, .int .u64 vdL, .bool vfr, .int .u32 vid, .int .i64 voff, .bool vmo] 43 (0, 0)) := hV
  have hRn : w3.drew.heap[w.heap.size + 1]? = some (.cells #[.int .i64 0, .int .i64 0, .int .u32 0, .int .u32 0, .int .i64 0, .int .i64 0, .int .i64 0, .int .i64 0, .int .i64 0, .int .i64 0] 53 (0, 0)) := hR
  have bwn := Below.dr bw
  clear m0 m2 r0 r1 r2 r3 r4 r5 r6 r7 r8 r9 q0 q1 q2 q3 q4 q5 q6 q7 q8 q9 v0 v1 v2 v3 v4 v5 v6 v7 v8 v9 v10 v11 v12
  generalize w3.drew = w5 at *
  have hV := hVn
  have hR := hRn
  have bw := bwn
  clear hVn hRn bwn
  obtain ⟨⟨r0, r1, r2, r3, r4, r5, r6, r7, r8, r9⟩, q0, q1, q2, q3, q4, q5, q6, q7, q8, q9⟩ := cells10 hR
  go_wp2
  refine bodyPost_ret_by (res_row Try.results57 _ _ (w.heap.size + 1) 53 #[.int .i64 (S0 : Int), .int .i64 (S2 : Int), .int .u32 0, .int .u32 0, .int .i64 0, .int .i64 0, .int .i64 0, .int .i64 0, .int .i64 (vhd + 8), .int .i64 0] _ rfl (heap_set10w hR (.int .i64 (S0 : Int)) (.int .i64 (S2 : Int)) (.int .u32 0) (.int .u32 0) (.int .i64 0) (.int .i64 0) (.int .i64 0) (.int .i64 0) (.int .i64 (vhd + 8)) (.int .i64 0)) Try.underlying53 (by kernel_rfl)) rfl ⟨rfl, ?_⟩
  exact below_set10 bw (by omega) _ _ _ _ _ _ _ _ _ _

set_option maxHeartbeats 2000000 in
set_option maxRecDepth 100000 in
theorem rudp_e (g o c n : Nat) (l : List UInt8) (vv : Bool) (vhd vtt vttl vp vsH vsL vdH vdL : Int) (vfr : Bool) (vid voff : Int) (vmo : Bool) (hn : l.length = n) (h8 : 8 ≤ n) (hc : n ≤ c) (hcm : c ≤ 9223372036854775807) {w : World} (hb : Byt w g o l) (hx : nbN l 4 2 = n) (hk : nbN l 6 2 ≠ 0) (S : Nat) (cb : ∀ W : World, Below w.heap.size w W → Calls Try.prog 73 #[.agg #[.int .u64 vsH, .int .u64 vsL], .agg #[.int .u64 vdH, .int .u64 vdL], .int .i64 vp, .slice (some ⟨g, o, none⟩) n c] W fun e w' => e = .returned (.int .i64 (S : Nat)) ∧ Below W.heap.size W w') (hS : S ≠ 0) :
    Calls Try.prog 57 #[.slice (some ⟨g, o, none⟩) n c, .agg #[.bool vv, .int .i64 vhd, .int .i64 vtt, .int .i64 vttl, .int .i64 vp, .int .u64 vsH, .int .u64 vsL, .int .u64 vdH, .int .u64 vdL, .bool vfr, .int .u32 vid, .int .i64 voff, .bool vmo]] w fun e w' => e = .returned (.tuple #[.agg (tcells ztw), .int .i64 43]) ∧ Below w.heap.size w w' := by
  have hi : ¬ (n : Int) < 8 := by omega
  have hi2 : decide ((n : Int) < 8) = false := by simp; omega
  have hi3 : decide (n < 8) = false := by simp; omega
  have s4 : ∀ W, (Instr.slice 22 (.slice (some ⟨g, o, none⟩) n c) (some (.int .i64 4)) (some (.int .i64 6)) none).run Try.prog W = .ok (.slice (some ⟨g, o + 4, none⟩) 2 (c - 4)) W := cut_lh g o n c 4 6 (by omega) (by omega) (by omega) hcm
  have n4 := gett g o n c 4 2 l hn (by omega) (by omega) hb
  have h4 := nb2_lt l 4
  generalize nbN l 4 2 = Z at *
  have Q4 : ((Z : Int) != (n : Int)) = false := by simp; omega
  have s6 : ∀ W, (Instr.slice 22 (.slice (some ⟨g, o, none⟩) n c) (some (.int .i64 6)) (some (.int .i64 8)) none).run Try.prog W = .ok (.slice (some ⟨g, o + 6, none⟩) 2 (c - 6)) W := cut_lh g o n c 6 8 (by omega) (by omega) (by omega) hcm
  have n6 := gett g o n c 6 2 l hn (by omega) (by omega) hb
  have h6 := nb2_lt l 6
  generalize nbN l 6 2 = K at *
  have Q6 : ((K : Int) == 0) = false := by simp; omega
  have Q7 : ((K : Int) != 0) = true := by simp; omega
  have Q0 : ((S : Int) != 0) = true := by simp; omega
  simp only [tcells, ztw]
  clear hx hk hb hn hS
  go_enter Try.func57, Try.ntmps57
  go_wp2_with (with_reducible refine stop_op (o := ⟨some 8, _, _, _, _, _⟩) ?_)
  obtain ⟨w3, hw3⟩ : ∃ x, x = (w.alloc (.cells #[.bool vv, .int .i64 vhd, .int .i64 vtt, .int .i64 vttl, .int .i64 vp, .int .u64 vsH, .int .u64 vsL, .int .u64 vdH, .int .u64 vdL, .bool vfr, .int .u32 vid, .int .i64 voff, .bool vmo] 43)).alloc (.cells #[.int .i64 0, .int .i64 0, .int .u32 0, .int .u32 0, .int .i64 0, .int .i64 0, .int .i64 0, .int .i64 0, .int .i64 0, .int .i64 0] 53) := ⟨_, rfl⟩
  have hV : w3.heap[w.heap.size]? = some (.cells #[.bool vv, .int .i64 vhd, .int .i64 vtt, .int .i64 vttl, .int .i64 vp, .int .u64 vsH, .int .u64 vsL, .int .u64 vdH, .int .u64 vdL, .bool vfr, .int .u32 vid, .int .i64 voff, .bool vmo] 43 (0, 0)) := by rw [hw3]; exact (al_oldw (by first | (simp; done) | (simp; omega)) _).trans (al_neww rfl _)
  have hR : w3.heap[w.heap.size + 1]? = some (.cells #[.int .i64 0, .int .i64 0, .int .u32 0, .int .u32 0, .int .i64 0, .int .i64 0, .int .i64 0, .int .i64 0, .int .i64 0, .int .i64 0] 53 (0, 0)) := by rw [hw3]; exact al_neww (by simp) _
  have bw : Below w.heap.size w w3 := by rw [hw3]; exact Below.al (Below.al (Below.refl _ _) _) _
  rw [← hw3]
  clear hw3
  obtain ⟨⟨v0, v1, v2, v3, v4, v5, v6, v7, v8, v9, v10, v11, v12⟩, _⟩ := cells13 hV
  obtain ⟨⟨r0, r1, r2, r3, r4, r5, r6, r7, r8, r9⟩, q0, q1, q2, q3, q4, q5, q6, q7, q8, q9⟩ := cells10 hR
  refine Lib.hid ?_
  have m4 := n4 _ bw
  have m6 := n6 _ bw
  go_wp2_with (first | (go_at_call 44; (with_reducible refine m4.mono ?_); rintro e w' ⟨rfl, hw'⟩; (have hw'' := hw'.symm); subst hw'') | (go_at_call 44; (with_reducible refine m6.mono ?_); rintro e w' ⟨rfl, hw'⟩; (have hw'' := hw'.symm); subst hw'') | (go_at_call 73; refine (cb _ bw).mono ?_; rintro e w4 ⟨rfl, hbx⟩; refine Hid.out ?_))
  clear m4 m6
  have hVn := blkKeep2 hbx hV
  have hRn := blkKeep2 hbx hR
  have bwn : Below w.heap.size w w4 := bw.trans (hbx.mono bw.size)
  clear hbx hV hR bw r0 r1 r2 r3 r4 r5 r6 r7 r8 r9 q0 q1 q2 q3 q4 q5 q6 q7 q8 q9 v0 v1 v2 v3 v4 v5 v6 v7 v8 v9 v10 v11 v12
  have hV := hVn
  have hR := hRn
  have bw := bwn
  clear hVn hRn bwn
  obtain ⟨⟨v0, v1, v2, v3, v4, v5, v6, v7, v8, v9, v10, v11, v12⟩, _⟩ := cells13 hV
  obtain ⟨⟨r0, r1, r2, r3, r4, r5, r6, r7, r8, r9⟩, q0, q1, q2, q3, q4, q5, q6, q7, q8, q9⟩ := cells10 hR
  refine Lib.hid ?_
  go_wp2
  refine bodyPost_ret_by (res_row Try.results57 _ _ (w.heap.size + 1) 53 #[.int .i64 0, .int .i64 0, .int .u32 0, .int .u32 0, .int .i64 0, .int .i64 0, .int .i64 0, .int .i64 0, .int .i64 0, .int .i64 0] _ rfl (heap_set10w hR (.int .i64 0) (.int .i64 0) (.int .u32 0) (.int .u32 0) (.int .i64 0) (.int .i64 0) (.int .i64 0) (.int .i64 0) (.int .i64 0) (.int .i64 0)) Try.underlying53 (by kernel_rfl)) rfl ⟨rfl, ?_⟩
  exact below_set10 bw (by omega) _ _ _ _ _ _ _ _ _ _

set_option maxHeartbeats 2000000 in
set_option maxRecDepth 100000 in
theorem rudp_f (g o c n : Nat) (l : List UInt8) (vv : Bool) (vhd vtt vttl vp vsH vsL vdH vdL : Int) (vfr : Bool) (vid voff : Int) (vmo : Bool) (hn : l.length = n) (h8 : 8 ≤ n) (hc : n ≤ c) (hcm : c ≤ 9223372036854775807) {w : World} (hb : Byt w g o l) (hx : nbN l 4 2 = n) (hk : nbN l 6 2 ≠ 0) (hh0 : 0 ≤ vhd) (hh1 : vhd ≤ 65536) (S : Nat) (cb : ∀ W : World, Below w.heap.size w W → Calls Try.prog 73 #[.agg #[.int .u64 vsH, .int .u64 vsL], .agg #[.int .u64 vdH, .int .u64 vdL], .int .i64 vp, .slice (some ⟨g, o, none⟩) n c] W fun e w' => e = .returned (.int .i64 (S : Nat)) ∧ Below W.heap.size W w') (hS : S = 0) :
    Calls Try.prog 57 #[.slice (some ⟨g, o, none⟩) n c, .agg #[.bool vv, .int .i64 vhd, .int .i64 vtt, .int .i64 vttl, .int .i64 vp, .int .u64 vsH, .int .u64 vsL, .int .u64 vdH, .int .u64 vdL, .bool vfr, .int .u32 vid, .int .i64 voff, .bool vmo]] w fun e w' => e = .returned (.tuple #[.agg (tcells { fieldsP l vv 17 with head := vhd + 8, data := 0 }), .int .i64 0]) ∧ Below w.heap.size w w' := by
  have hi : ¬ (n : Int) < 8 := by omega
  have hi2 : decide ((n : Int) < 8) = false := by simp; omega
  have hi3 : decide (n < 8) = false := by simp; omega
  have s4 : ∀ W, (Instr.slice 22 (.slice (some ⟨g, o, none⟩) n c) (some (.int .i64 4)) (some (.int .i64 6)) none).run Try.prog W = .ok (.slice (some ⟨g, o + 4, none⟩) 2 (c - 4)) W := cut_lh g o n c 4 6 (by omega) (by omega) (by omega) hcm
  have n4 := gett g o n c 4 2 l hn (by omega) (by omega) hb
  have h4 := nb2_lt l 4
  generalize nbN l 4 2 = Z at *
  have Q4 : ((Z : Int) != (n : Int)) = false := by simp; omega
  have s6 : ∀ W, (Instr.slice 22 (.slice (some ⟨g, o, none⟩) n c) (some (.int .i64 6)) (some (.int .i64 8)) none).run Try.prog W = .ok (.slice (some ⟨g, o + 6, none⟩) 2 (c - 6)) W := cut_lh g o n c 6 8 (by omega) (by omega) (by omega) hcm
  have n6 := gett g o n c 6 2 l hn (by omega) (by omega) hb
  have h6 := nb2_lt l 6
  generalize nbN l 6 2 = K at *
  have Q6 : ((K : Int) == 0) = false := by simp; omega
  have Q7 : ((K : Int) != 0) = true := by simp; omega
  have Q0 : ((S : Int) != 0) = false := by simp; omega
  rw [show fieldsP l vv 17 = ⟨nbN l 0 2, nbN l 2 2, 0, 0, 0, 0, 0, 0, 0, 0⟩ by simp [fieldsP]]
  have s0 : ∀ W, (Instr.slice 22 (.slice (some ⟨g, o, none⟩) n c) none (some (.int .i64 2)) none).run Try.prog W = .ok (.slice (some ⟨g, o, none⟩) 2 c) W := cut_h g o n c 2 (by omega) hcm
  have n0 := get0 g o n c 2 l hn (by omega) (by omega) hb
  have s2 : ∀ W, (Instr.slice 22 (.slice (some ⟨g, o, none⟩) n c) (some (.int .i64 2)) (some (.int .i64 4)) none).run Try.prog W = .ok (.slice (some ⟨g, o + 2, none⟩) 2 (c - 2)) W := cut_lh g o n c 2 4 (by omega) (by omega) (by omega) hcm
  have n2 := gett g o n c 2 2 l hn (by omega) (by omega) hb
  generalize nbN l 0 2 = S0 at *
  generalize nbN l 2 2 = S2 at *
  have wh : IntKind.i64.wrap (vhd + 8) = vhd + 8 := by rw [IntKind.wrap_i64]; omega
  simp only [tcells]
  clear hx hk hb hn hS
  go_enter Try.func57, Try.ntmps57
  go_wp2_with (with_reducible refine stop_op (o := ⟨some 8, _, _, _, _, _⟩) ?_)
  obtain ⟨w3, hw3⟩ : ∃ x, x = (w.alloc (.cells #[.bool vv, .int .i64 vhd, .int .i64 vtt, .int .i64 vttl, .int .i64 vp, .int .u64 vsH, .int .u64 vsL, .int .u64 vdH, .int .u64 vdL, .bool vfr, .int .u32 vid, .int .i64 voff, .bool vmo] 43)).alloc (.cells #[.int .i64 0, .int .i64 0, .int .u32 0, .int .u32 0, .int .i64 0, .int .i64 0, .int .i64 0, .int .i64 0, .int .i64 0, .int .i64 0] 53) := ⟨_, rfl⟩
  have hV : w3.heap[w.heap.size]? = some (.cells #[.bool vv, .int .i64 vhd, .int .i64 vtt, .int .i64 vttl, .int .i64 vp, .int .u64 vsH, .int .u64 vsL, .int .u64 vdH, .int .u64 vdL, .bool vfr, .int .u32 vid, .int .i64 voff, .bool vmo] 43 (0, 0)) := by rw [hw3]; exact (al_oldw (by first | (simp; done) | (simp; omega)) _).trans (al_neww rfl _)
  have hR : w3.heap[w.heap.size + 1]? = some (.cells #[.int .i64 0, .int .i64 0, .int .u32 0, .int .u32 0, .int .i64 0, .int .i64 0, .int .i64 0, .int .i64 0, .int .i64 0, .int .i64 0] 53 (0, 0)) := by rw [hw3]; exact al_neww (by simp) _
  have bw : Below w.heap.size w w3 := by rw [hw3]; exact Below.al (Below.al (Below.refl _ _) _) _
  rw [← hw3]
  clear hw3
  obtain ⟨⟨v0, v1, v2, v3, v4, v5, v6, v7, v8, v9, v10, v11, v12⟩, _⟩ := cells13 hV
  obtain ⟨⟨r0, r1, r2, r3, r4, r5, r6, r7, r8, r9⟩, q0, q1, q2, q3, q4, q5, q6, q7, q8, q9⟩ := cells10 hR
  refine Lib.hid ?_
  have m4 := n4 _ bw
  have m6 := n6 _ bw
  go_wp2_with (first | (go_at_call 44; (with_reducible refine m4.mono ?_); rintro e w' ⟨rfl, hw'⟩; (have hw'' := hw'.symm); subst hw'') | (go_at_call 44; (with_reducible refine m6.mono ?_); rintro e w' ⟨rfl, hw'⟩; (have hw'' := hw'.symm); subst hw'') | (go_at_call 73; refine (cb _ bw).mono ?_; rintro e w4 ⟨rfl, hbx⟩; refine Hid.out ?_) | fail)
  clear m4 m6
  have hVn := blkKeep2 hbx hV
  have hRn := blkKeep2 hbx hR
  have bwn : Below w.heap.size w w4 := bw.trans (hbx.mono bw.size)
  clear hbx hV hR bw r0 r1 r2 r3 r4 r5 r6 r7 r8 r9 q0 q1 q2 q3 q4 q5 q6 q7 q8 q9 v0 v1 v2 v3 v4 v5 v6 v7 v8 v9 v10 v11 v12
  have hV := hVn
  have hR := hRn
  have bw := bwn
  clear hVn hRn bwn
  obtain ⟨⟨v0, v1, v2, v3, v4, v5, v6, v7, v8, v9, v10, v11, v12⟩, _⟩ := cells13 hV
  obtain ⟨⟨r0, r1, r2, r3, r4, r5, r6, r7, r8, r9⟩, q0, q1, q2, q3, q4, q5, q6, q7, q8, q9⟩ := cells10 hR
  refine Lib.hid ?_
  go_wp2_with fail
  have m0 := n0 w4.drew (Below.dr bw)
  have m2 := n2 w4.drew (Below.dr bw)
  clear n0 n2 cb
  refine wp_region_still_tail 10 (by kernel_rfl) (by kernel_rfl) ?_
  simp only [List.take_succ_cons, List.take_zero, List.drop_succ_cons, List.drop_zero]
  still_step
  still_step
  still_call m0
  still_step
  still_step
  still_call m2
  still_step
  still_step
  still_step
  still_step
  try refine wpStill_nil ?_
  change wpList _ _ _ _ _ w4.drew
  have hVn : w4.drew.heap[w.heap.size]? = some (.cells #[.bool vv, .int .i64 vhd, .int .i64 vtt, .int .i64 vttl, .int .i64 vp, .int .u64 vsH, .int .u64 vsL, .int .u64 vdH, .int .u64 vdL, .bool vfr, .int .u32 vid, .int .i64 voff, .bool vmo] 43 (0, 0)) := hV
  have hRn : w4.drew.heap[w.heap.size + 1]? = some (.cells #[.int .i64 0, .int .i64 0, .int .u32 0, .int .u32 0, .int .i64 0, .int .i64 0, .int .i64 0, .int .i64 0, .int .i64 0, .int .i64 0] 53 (0, 0)) := hR
  have bwn := Below.dr bw
  clear m0 m2 r0 r1 r2 r3 r4 r5 r6 r7 r8 r9 q0 q1 q2 q3 q4 q5 q6 q7 q8 q9 v0 v1 v2 v3 v4 v5 v6 v7 v8 v9 v10 v11 v12
  generalize w4.drew = w5 at *
  have hV := hVn
  have hR := hRn
  have bw := bwn
  clear hVn hRn bwn
  obtain ⟨⟨r0, r1, r2, r3, r4, r5, r6, r7, r8, r9⟩, q0, q1, q2, q3, q4, q5, q6, q7, q8, q9⟩ := cells10 hR
  go_wp2
  refine bodyPost_ret_by (res_row Try.results57 _ _ (w.heap.size + 1) 53 #[.int .i64 (S0 : Int), .int .i64 (S2 : Int), .int .u32 0, .int .u32 0, .int .i64 0, .int .i64 0, .int .i64 0, .int .i64 0, .int .i64 (vhd + 8), .int .i64 0] _ rfl (heap_set10w hR (.int .i64 (S0 : Int)) (.int .i64 (S2 : Int)) (.int .u32 0) (.int .u32 0) (.int .i64 0) (.int .i64 0) (.int .i64 0) (.int .i64 0) (.int .i64 (vhd + 8)) (.int .i64 0)) Try.underlying53 (by kernel_rfl)) rfl ⟨rfl, ?_⟩
  exact below_set10 bw (by omega) _ _ _ _ _ _ _ _ _ _
end Go.Proofs.Ytpmbdjdhgcjkfaa
