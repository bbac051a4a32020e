/- The transport headers, the document's; by-name template (gen_wrtr.py). -/
import Derived.Test.YtpmbdjdhgcjkfaaWRTot
import Derived.Test.YtpmbdjdhgcjkfaaWTrans
import Derived.StillTailTactics
namespace Go.Proofs.Ytpmbdjdhgcjkfaa
open Go.RowKit Go.Sort
set_option linter.unusedVariables false
set_option linter.unusedSimpArgs false

theorem gett (g o n c f m : Nat) (l : List UInt8) (hn : l.length = n) (h8 : m ≤ 4) (h : f + m ≤ n) {w : World} (hb : Byt w g o l) (W : World) (hW : Below w.heap.size w W) :
    Calls Try.prog 44 #[.slice (some ⟨g, o + f, none⟩) m (c - f)] W fun e w' => e = .returned (.int .i64 (nbN l f m : Nat)) ∧ w' = W :=
  (get_any g (o + f) (c - f) m _ (by rw [List.length_take, List.length_drop]; omega) h8 ((hb.below hW).sub f m)).mono fun e w' h => ⟨h.1, h.2.symm⟩
theorem get0 (g o n c m : Nat) (l : List UInt8) (hn : l.length = n) (h8 : m ≤ 4) (h : m ≤ n) {w : World} (hb : Byt w g o l) (W : World) (hW : Below w.heap.size w W) :
    Calls Try.prog 44 #[.slice (some ⟨g, o, none⟩) m c] W fun e w' => e = .returned (.int .i64 (nbN l 0 m : Nat)) ∧ w' = W := by
  have := gett g o n c 0 m l hn h8 (by omega) hb W hW
  rw [Nat.add_zero, Nat.sub_zero] at this
  exact this
theorem nbl4 (l : List UInt8) (o : Nat) : nbN l o 4 < 4294967296 := nbN_lt l o 4

set_option maxHeartbeats 2000000 in
set_option maxRecDepth 100000 in
theorem rtcp_a (A : Option Addr) (n c : Nat) (vv : Bool) (vhd vtt vttl vp vsH vsL vdH vdL : Int) (vfr : Bool) (vid voff : Int) (vmo : Bool) (hn : n < 20) {w : World} :
    Calls Try.prog 56 #[.slice A n c, .agg #[.bool vv, .int .i64 vhd, .int .i64 vtt, .int .i64 vttl, .int .i64 vp, .int .u64 vsH, .int .u64 vsL, .int .u64 vdH, .int .u64 vdL, .bool vfr, .int .u32 vid, .int .i64 voff, .bool vmo]] w fun e w' => e = .returned (.tuple #[.agg (tcells ztw), .int .i64 40]) ∧ Below w.heap.size w w' := by
  have hi : (n : Int) < 20 := by omega
  simp only [tcells, ztw]
  go_enter Try.func56, Try.ntmps56
  go_wp2_with (with_reducible refine stop_op (o := ⟨some 9, _, _, _, _, _⟩) ?_)
  obtain ⟨w3, hw3⟩ : ∃ x, x = (w.alloc (.cells #[.bool vv, .int .i64 vhd, .int .i64 vtt, .int .i64 vttl, .int .i64 vp, .int .u64 vsH, .int .u64 vsL, .int .u64 vdH, .int .u64 vdL, .bool vfr, .int .u32 vid, .int .i64 voff, .bool vmo] 43)).alloc (.cells #[.int .i64 0, .int .i64 0, .int .u32 0, .int .u32 0, .int .i64 0, .int .i64 0, .int .i64 0, .int .i64 0, .int .i64 0, .int .i64 0] 53) := ⟨_, rfl⟩
  have hV : w3.heap[w.heap.size]? = some (.cells #[.bool vv, .int .i64 vhd, .int .i64 vtt, .int .i64 vttl, .int .i64 vp, .int .u64 vsH, .int .u64 vsL, .int .u64 vdH, .int .u64 vdL, .bool vfr, .int .u32 vid, .int .i64 voff, .bool vmo] 43 (0, 0)) := by rw [hw3]; exact (al_oldw (by first | (simp; done) | (simp; omega)) _).trans (al_neww rfl _)
  have hR : w3.heap[w.heap.size + 1]? = some (.cells #[.int .i64 0, .int .i64 0, .int .u32 0, .int .u32 0, .int .i64 0, .int .i64 0, .int .i64 0, .int .i64 0, .int .i64 0, .int .i64 0] 53 (0, 0)) := by rw [hw3]; exact al_neww (by simp) _
  have bw : Below w.heap.size w w3 := by rw [hw3]; exact Below.al (Below.al (Below.refl _ _) _) _
  rw [← hw3]
  clear hw3
  obtain ⟨⟨v0, v1, v2, v3, v4, v5, v6, v7, v8, v9, v10, v11, v12⟩, _⟩ := cells13 hV
  obtain ⟨⟨r0, r1, r2, r3, r4, r5, r6, r7, r8, r9⟩, q0, q1, q2, q3, q4, q5, q6, q7, q8, q9⟩ := cells10 hR
  refine Lib.hid ?_
  go_wp2
  refine bodyPost_ret_by (res_row Try.results56 _ _ (w.heap.size + 1) 53 #[.int .i64 0, .int .i64 0, .int .u32 0, .int .u32 0, .int .i64 0, .int .i64 0, .int .i64 0, .int .i64 0, .int .i64 0, .int .i64 0] _ rfl (heap_set10w hR (.int .i64 0) (.int .i64 0) (.int .u32 0) (.int .u32 0) (.int .i64 0) (.int .i64 0) (.int .i64 0) (.int .i64 0) (.int .i64 0) (.int .i64 0)) Try.underlying53 (by kernel_rfl)) rfl ⟨rfl, ?_⟩
  exact below_set10 bw (by omega) _ _ _ _ _ _ _ _ _ _

set_option maxHeartbeats 2000000 in
set_option maxRecDepth 100000 in
theorem rtcp_b (g o c n : Nat) (l : List UInt8) (vv : Bool) (vhd vtt vttl vp vsH vsL vdH vdL : Int) (vfr : Bool) (vid voff : Int) (vmo : Bool) (hn : l.length = n) (h8 : 20 ≤ n) (hc : n ≤ c) (hcm : c ≤ 9223372036854775807) {w : World} (hb : Byt w g o l) (hx : byN l 12 / 16 * 4 < 20) :
    Calls Try.prog 56 #[.slice (some ⟨g, o, none⟩) n c, .agg #[.bool vv, .int .i64 vhd, .int .i64 vtt, .int .i64 vttl, .int .i64 vp, .int .u64 vsH, .int .u64 vsL, .int .u64 vdH, .int .u64 vdL, .bool vfr, .int .u32 vid, .int .i64 voff, .bool vmo]] w fun e w' => e = .returned (.tuple #[.agg (tcells ztw), .int .i64 42]) ∧ Below w.heap.size w w' := by
  have hi : ¬ (n : Int) < 20 := by omega
  have hi2 : decide ((n : Int) < 20) = false := by simp; omega
  have hi3 : decide (n < 20) = false := by simp; omega
  have c12 := by_cell hb hn 12 (by omega)
  have x12 := byN_lt l 12
  have j12 : (12 : Int) < (n : Int) := by omega
  have k12 : 12 < n := by omega
  generalize byN l 12 = X at *
  obtain ⟨M, hM⟩ : ∃ M, M = X / 16 := ⟨_, rfl⟩
  have M1 : (X : Int) / 16 = (M : Int) := by omega
  have M2 : (X : Int).tdiv 16 = (M : Int) := by rw [Int.tdiv_eq_ediv_of_nonneg (by omega)]; exact M1
  have M3 : (M : Int) < 16 := by omega
  have M4 : IntKind.u8.wrap (M : Int) = (M : Int) := by rw [IntKind.wrap_u8]; omega
  have M5 : IntKind.i64.wrap (M : Int) = (M : Int) := by rw [IntKind.wrap_i64]; omega
  have M6 : IntKind.i64.wrap ((M : Int) * 4) = (M : Int) * 4 := by rw [IntKind.wrap_i64]; omega
  have Xi : (X : Int) < 256 := by omega
  rw [← hM] at hx
  have D1 : decide ((M : Int) * 4 < 20) = true := by simp; omega
  have D2 : (M : Int) * 4 < 20 := by omega
  simp only [tcells, ztw]
  clear hM hx hb hn
  go_enter Try.func56, Try.ntmps56
  go_wp2_with (with_reducible refine stop_op (o := ⟨some 9, _, _, _, _, _⟩) ?_)
  obtain ⟨w3, hw3⟩ : ∃ x, x = (w.alloc (.cells #[.bool vv, .int .i64 vhd, .int .i64 vtt, .int .i64 vttl, .int .i64 vp, .int .u64 vsH, .int .u64 vsL, .int .u64 vdH, .int .u64 vdL, .bool vfr, .int .u32 vid, .int .i64 voff, .bool vmo] 43)).alloc (.cells #[.int .i64 0, .int .i64 0, .int .u32 0, .int .u32 0, .int .i64 0, .int .i64 0, .int .i64 0, .int .i64 0, .int .i64 0, .int .i64 0] 53) := ⟨_, rfl⟩
  have hV : w3.heap[w.heap.size]? = some (.cells #[.bool vv, .int .i64 vhd, .int .i64 vtt, .int .i64 vttl, .int .i64 vp, .int .u64 vsH, .int .u64 vsL, .int .u64 vdH, .int .u64 vdL, .bool vfr, .int .u32 vid, .int .i64 voff, .bool vmo] 43 (0, 0)) := by rw [hw3]; exact (al_oldw (by first | (simp; done) | (simp; omega)) _).trans (al_neww rfl _)
  have hR : w3.heap[w.heap.size + 1]? = some (.cells #[.int .i64 0, .int .i64 0, .int .u32 0, .int .u32 0, .int .i64 0, .int .i64 0, .int .i64 0, .int .i64 0, .int .i64 0, .int .i64 0] 53 (0, 0)) := by rw [hw3]; exact al_neww (by simp) _
  have bw : Below w.heap.size w w3 := by rw [hw3]; exact Below.al (Below.al (Below.refl _ _) _) _
  rw [← hw3]
  clear hw3
  obtain ⟨⟨v0, v1, v2, v3, v4, v5, v6, v7, v8, v9, v10, v11, v12⟩, _⟩ := cells13 hV
  obtain ⟨⟨r0, r1, r2, r3, r4, r5, r6, r7, r8, r9⟩, q0, q1, q2, q3, q4, q5, q6, q7, q8, q9⟩ := cells10 hR
  refine Lib.hid ?_
  have d12 := keepc bw c12
  clear c12
  go_wp2
  refine bodyPost_ret_by (res_row Try.results56 _ _ (w.heap.size + 1) 53 #[.int .i64 0, .int .i64 0, .int .u32 0, .int .u32 0, .int .i64 0, .int .i64 0, .int .i64 0, .int .i64 0, .int .i64 0, .int .i64 0] _ rfl (heap_set10w hR (.int .i64 0) (.int .i64 0) (.int .u32 0) (.int .u32 0) (.int .i64 0) (.int .i64 0) (.int .i64 0) (.int .i64 0) (.int .i64 0) (.int .i64 0)) Try.underlying53 (by kernel_rfl)) rfl ⟨rfl, ?_⟩
  exact below_set10 bw (by omega) _ _ _ _ _ _ _ _ _ _

set_option maxHeartbeats 2000000 in
set_option maxRecDepth 100000 in
theorem rtcp_c (g o c n : Nat) (l : List UInt8) (vv : Bool) (vhd vtt vttl vp vsH vsL vdH vdL : Int) (vfr : Bool) (vid voff : Int) (vmo : Bool) (hn : l.length = n) (h8 : 20 ≤ n) (hc : n ≤ c) (hcm : c ≤ 9223372036854775807) {w : World} (hb : Byt w g o l) (hx : ¬ byN l 12 / 16 * 4 < 20) (hy : n < byN l 12 / 16 * 4) :
    Calls Try.prog 56 #[.slice (some ⟨g, o, none⟩) n c, .agg #[.bool vv, .int .i64 vhd, .int .i64 vtt, .int .i64 vttl, .int .i64 vp, .int .u64 vsH, .int .u64 vsL, .int .u64 vdH, .int .u64 vdL, .bool vfr, .int .u32 vid, .int .i64 voff, .bool vmo]] w fun e w' => e = .returned (.tuple #[.agg (tcells ztw), .int .i64 40]) ∧ Below w.heap.size w w' := by
  have hi : ¬ (n : Int) < 20 := by omega
  have hi2 : decide ((n : Int) < 20) = false := by simp; omega
  have hi3 : decide (n < 20) = false := by simp; omega
  have c12 := by_cell hb hn 12 (by omega)
  have x12 := byN_lt l 12
  have j12 : (12 : Int) < (n : Int) := by omega
  have k12 : 12 < n := by omega
  generalize byN l 12 = X at *
  obtain ⟨M, hM⟩ : ∃ M, M = X / 16 := ⟨_, rfl⟩
  have M1 : (X : Int) / 16 = (M : Int) := by omega
  have M2 : (X : Int).tdiv 16 = (M : Int) := by rw [Int.tdiv_eq_ediv_of_nonneg (by omega)]; exact M1
  have M3 : (M : Int) < 16 := by omega
  have M4 : IntKind.u8.wrap (M : Int) = (M : Int) := by rw [IntKind.wrap_u8]; omega
  have M5 : IntKind.i64.wrap (M : Int) = (M : Int) := by rw [IntKind.wrap_i64]; omega
  have M6 : IntKind.i64.wrap ((M : Int) * 4) = (M : Int) * 4 := by rw [IntKind.wrap_i64]; omega
  have Xi : (X : Int) < 256 := by omega
  rw [← hM] at hx hy
  have D1 : decide ((M : Int) * 4 < 20) = false := by simp; omega
  have D2 : ¬ (M : Int) * 4 < 20 := by omega
  have E1 : decide ((n : Int) < (M : Int) * 4) = true := by simp; omega
  have E2 : (n : Int) < (M : Int) * 4 := by omega
  simp only [tcells, ztw]
  clear hM hx hy hb hn
  go_enter Try.func56, Try.ntmps56
  go_wp2_with (with_reducible refine stop_op (o := ⟨some 9, _, _, _, _, _⟩) ?_)
  obtain ⟨w3, hw3⟩ : ∃ x, x = (w.alloc (.cells #[.bool vv, .int .i64 vhd, .int .i64 vtt, .int .i64 vttl, .int .i64 vp, .int .u64 vsH, .int .u64 vsL, .int .u64 vdH, .int .u64 vdL, .bool vfr, .int .u32 vid, .int .i64 voff, .bool vmo] 43)).alloc (.cells #[.int .i64 0, .int .i64 0, .int .u32 0, .int .u32 0, .int .i64 0, .int .i64 0, .int .i64 0, .int .i64 0, .int .i64 0, .int .i64 0] 53) := ⟨_, rfl⟩
  have hV : w3.heap[w.heap.size]? = some (.cells #[.bool vv, .int .i64 vhd, .int .i64 vtt, .int .i64 vttl, .int .i64 vp, .int .u64 vsH, .int .u64 vsL, .int .u64 vdH, .int .u64 vdL, .bool vfr, .int .u32 vid, .int .i64 voff, .bool vmo] 43 (0, 0)) := by rw [hw3]; exact (al_oldw (by first | (simp; done) | (simp; omega)) _).trans (al_neww rfl _)
  have hR : w3.heap[w.heap.size + 1]? = some (.cells #[.int .i64 0, .int .i64 0, .int .u32 0, .int .u32 0, .int .i64 0, .int .i64 0, .int .i64 0, .int .i64 0, .int .i64 0, .int .i64 0] 53 (0, 0)) := by rw [hw3]; exact al_neww (by simp) _
  have bw : Below w.heap.size w w3 := by rw [hw3]; exact Below.al (Below.al (Below.refl _ _) _) _
  rw [← hw3]
  clear hw3
  obtain ⟨⟨v0, v1, v2, v3, v4, v5, v6, v7, v8, v9, v10, v11, v12⟩, _⟩ := cells13 hV
  obtain ⟨⟨r0, r1, r2, r3, r4, r5, r6, r7, r8, r9⟩, q0, q1, q2, q3, q4, q5, q6, q7, q8, q9⟩ := cells10 hR
  refine Lib.hid ?_
  have d12 := keepc bw c12
  clear c12
  go_wp2
  refine bodyPost_ret_by (res_row Try.results56 _ _ (w.heap.size + 1) 53 #[.int .i64 0, .int .i64 0, .int .u32 0, .int .u32 0, .int .i64 0, .int .i64 0, .int .i64 0, .int .i64 0, .int .i64 0, .int .i64 0] _ rfl (heap_set10w hR (.int .i64 0) (.int .i64 0) (.int .u32 0) (.int .u32 0) (.int .i64 0) (.int .i64 0) (.int .i64 0) (.int .i64 0) (.int .i64 0) (.int .i64 0)) Try.underlying53 (by kernel_rfl)) rfl ⟨rfl, ?_⟩
  exact below_set10 bw (by omega) _ _ _ _ _ _ _ _ _ _

set_option maxHeartbeats 2000000 in
set_option maxRecDepth 100000 in
theorem rtcp_d (g o c n : Nat) (l : List UInt8) (vv : Bool) (vhd vtt vttl vp vsH vsL vdH vdL : Int) (vfr : Bool) (vid voff : Int) (vmo : Bool) (hn : l.length = n) (h8 : 20 ≤ n) (hc : n ≤ c) (hcm : c ≤ 9223372036854775807) {w : World} (hb : Byt w g o l) (hx : ¬ byN l 12 / 16 * 4 < 20) (hy : ¬ n < byN l 12 / 16 * 4) (S : Nat) (cb : ∀ W : World, Below w.heap.size w W → Calls Try.prog 73 #[.agg #[.int .u64 vsH, .int .u64 vsL], .agg #[.int .u64 vdH, .int .u64 vdL], .int .i64 vp, .slice (some ⟨g, o, none⟩) n c] W fun e w' => e = .returned (.int .i64 (S : Nat)) ∧ Below W.heap.size W w') (hS : S ≠ 0) :
    Calls Try.prog 56 #[.slice (some ⟨g, o, none⟩) n c, .agg #[.bool vv, .int .i64 vhd, .int .i64 vtt, .int .i64 vttl, .int .i64 vp, .int .u64 vsH, .int .u64 vsL, .int .u64 vdH, .int .u64 vdL, .bool vfr, .int .u32 vid, .int .i64 voff, .bool vmo]] w fun e w' => e = .returned (.tuple #[.agg (tcells ztw), .int .i64 43]) ∧ Below w.heap.size w w' := by
  have hi : ¬ (n : Int) < 20 := by omega
  have hi2 : decide ((n : Int) < 20) = false := by simp; omega
  have hi3 : decide (n < 20) = false := by simp; omega
  have c12 := by_cell hb hn 12 (by omega)
  have x12 := byN_lt l 12
  have j12 : (12 : Int) < (n : Int) := by omega
  have k12 : 12 < n := by omega
  generalize byN l 12 = X at *
  obtain ⟨M, hM⟩ : ∃ M, M = X / 16 := ⟨_, rfl⟩
  have M1 : (X : Int) / 16 = (M : Int) := by omega
  have M2 : (X : Int).tdiv 16 = (M : Int) := by rw [Int.tdiv_eq_ediv_of_nonneg (by omega)]; exact M1
  have M3 : (M : Int) < 16 := by omega
  have M4 : IntKind.u8.wrap (M : Int) = (M : Int) := by rw [IntKind.wrap_u8]; omega
  have M5 : IntKind.i64.wrap (M : Int) = (M : Int) := by rw [IntKind.wrap_i64]; omega
  have M6 : IntKind.i64.wrap ((M : Int) * 4) = (M : Int) * 4 := by rw [IntKind.wrap_i64]; omega
  have Xi : (X : Int) < 256 := by omega
  rw [← hM] at hx hy
  have D1 : decide ((M : Int) * 4 < 20) = false := by simp; omega
  have D2 : ¬ (M : Int) * 4 < 20 := by omega
  have E1 : decide ((n : Int) < (M : Int) * 4) = false := by simp; omega
  have E2 : ¬ (n : Int) < (M : Int) * 4 := by omega
  have q0 : ((S : Int) != 0) = true := by simp; omega
  simp only [tcells, ztw]
  clear hM hx hy hb hn hS
  go_enter Try.func56, Try.ntmps56
  go_wp2_with (with_reducible refine stop_op (o := ⟨some 9, _, _, _, _, _⟩) ?_)
  obtain ⟨w3, hw3⟩ : ∃ x, x = (w.alloc (.cells #[.bool vv, .int .i64 vhd, .int .i64 vtt, .int .i64 vttl, .int .i64 vp, .int .u64 vsH, .int .u64 vsL, .int .u64 vdH, .int .u64 vdL, .bool vfr, .int .u32 vid, .int .i64 voff, .bool vmo] 43)).alloc (.cells #[.int .i64 0, .int .i64 0, .int .u32 0, .int .u32 0, .int .i64 0, .int .i64 0, .int .i64 0, .int .i64 0, .int .i64 0, .int .i64 0] 53) := ⟨_, rfl⟩
  have hV : w3.heap[w.heap.size]? = some (.cells #[.bool vv, .int .i64 vhd, .int .i64 vtt, .int .i64 vttl, .int .i64 vp, .int .u64 vsH, .int .u64 vsL, .int .u64 vdH, .int .u64 vdL, .bool vfr, .int .u32 vid, .int .i64 voff, .bool vmo] 43 (0, 0)) := by rw [hw3]; exact (al_oldw (by first | (simp; done) | (simp; omega)) _).trans (al_neww rfl _)
  have hR : w3.heap[w.heap.size + 1]? = some (.cells #[.int .i64 0, .int .i64 0, .int .u32 0, .int .u32 0, .int .i64 0, .int .i64 0, .int .i64 0, .int .i64 0, .int .i64 0, .int .i64 0] 53 (0, 0)) := by rw [hw3]; exact al_neww (by simp) _
  have bw : Below w.heap.size w w3 := by rw [hw3]; exact Below.al (Below.al (Below.refl _ _) _) _
  rw [← hw3]
  clear hw3
  obtain ⟨⟨v0, v1, v2, v3, v4, v5, v6, v7, v8, v9, v10, v11, v12⟩, _⟩ := cells13 hV
  obtain ⟨⟨r0, r1, r2, r3, r4, r5, r6, r7, r8, r9⟩, q0, q1, q2, q3, q4, q5, q6, q7, q8, q9⟩ := cells10 hR
  refine Lib.hid ?_
  have d12 := keepc bw c12
  clear c12
  go_wp2_with (go_at_call 73; refine (cb _ bw).mono ?_; rintro e w4 ⟨rfl, hbx⟩; refine Hid.out ?_)
  have hVn := blkKeep2 hbx hV
  have hRn := blkKeep2 hbx hR
  have bwn : Below w.heap.size w w4 := bw.trans (hbx.mono bw.size)
  clear hbx hV hR bw r0 r1 r2 r3 r4 r5 r6 r7 r8 r9 q0 q1 q2 q3 q4 q5 q6 q7 q8 q9 v0 v1 v2 v3 v4 v5 v6 v7 v8 v9 v10 v11 v12
  have hV := hVn
  have hR := hRn
  have bw := bwn
  clear hVn hRn bwn
  obtain ⟨⟨v0, v1, v2, v3, v4, v5, v6, v7, v8, v9, v10, v11, v12⟩, _⟩ := cells13 hV
  obtain ⟨⟨r0, r1, r2, r3, r4, r5, r6, r7, r8, r9⟩, q0, q1, q2, q3, q4, q5, q6, q7, q8, q9⟩ := cells10 hR
  refine Lib.hid ?_
  clear d12
  go_wp2
  refine bodyPost_ret_by (res_row Try.results56 _ _ (w.heap.size + 1) 53 #[.int .i64 0, .int .i64 0, .int .u32 0, .int .u32 0, .int .i64 0, .int .i64 0, .int .i64 0, .int .i64 0, .int .i64 0, .int .i64 0] _ rfl (heap_set10w hR (.int .i64 0) (.int .i64 0) (.int .u32 0) (.int .u32 0) (.int .i64 0) (.int .i64 0) (.int .i64 0) (.int .i64 0) (.int .i64 0) (.int .i64 0)) Try.underlying53 (by kernel_rfl)) rfl ⟨rfl, ?_⟩
  exact below_set10 bw (by omega) _ _ _ _ _ _ _ _ _ _

set_option maxHeartbeats 2000000 in
set_option maxRecDepth 100000 in
theorem rtcp_e (g o c n : Nat) (l : List UInt8) (vv : Bool) (vhd vtt vttl vp vsH vsL vdH vdL : Int) (vfr : Bool) (vid voff : Int) (vmo : Bool) (hn : l.length = n) (h8 : 20 ≤ n) (hc : n ≤ c) (hcm : c ≤ 9223372036854775807) {w : World} (hb : Byt w g o l) (hx : ¬ byN l 12 / 16 * 4 < 20) (hy : ¬ n < byN l 12 / 16 * 4) (hh0 : 0 ≤ vhd) (hh1 : vhd ≤ 65536) (S : Nat) (cb : ∀ W : World, Below w.heap.size w W → Calls Try.prog 73 #[.agg #[.int .u64 vsH, .int .u64 vsL], .agg #[.int .u64 vdH, .int .u64 vdL], .int .i64 vp, .slice (some ⟨g, o, none⟩) n c] W fun e w' => e = .returned (.int .i64 (S : Nat)) ∧ Below W.heap.size W w') (hS : S = 0) :
    Calls Try.prog 56 #[.slice (some ⟨g, o, none⟩) n c, .agg #[.bool vv, .int .i64 vhd, .int .i64 vtt, .int .i64 vttl, .int .i64 vp, .int .u64 vsH, .int .u64 vsL, .int .u64 vdH, .int .u64 vdL, .bool vfr, .int .u32 vid, .int .i64 voff, .bool vmo]] w fun e w' => e = .returned (.tuple #[.agg (tcells { fieldsP l vv 6 with head := vhd + ((byN l 12 / 16 * 4 : Nat) : Int), data := 0 }), .int .i64 0]) ∧ Below w.heap.size w w' := by
  have hi : ¬ (n : Int) < 20 := by omega
  have hi2 : decide ((n : Int) < 20) = false := by simp; omega
  have hi3 : decide (n < 20) = false := by simp; omega
  have s0 : ∀ W, (Instr.slice 22 (.slice (some ⟨g, o, none⟩) n c) none (some (.int .i64 2)) none).run Try.prog W = .ok (.slice (some ⟨g, o, none⟩) 2 c) W := cut_h g o n c 2 (by omega) hcm
  have n0 := get0 g o n c 2 l hn (by omega) (by omega) hb
  have s2 : ∀ W, (Instr.slice 22 (.slice (some ⟨g, o, none⟩) n c) (some (.int .i64 2)) (some (.int .i64 4)) none).run Try.prog W = .ok (.slice (some ⟨g, o + 2, none⟩) 2 (c - 2)) W := cut_lh g o n c 2 4 (by omega) (by omega) (by omega) hcm
  have n2 := gett g o n c 2 2 l hn (by omega) (by omega) hb
  have s4 : ∀ W, (Instr.slice 22 (.slice (some ⟨g, o, none⟩) n c) (some (.int .i64 4)) (some (.int .i64 8)) none).run Try.prog W = .ok (.slice (some ⟨g, o + 4, none⟩) 4 (c - 4)) W := cut_lh g o n c 4 8 (by omega) (by omega) (by omega) hcm
  have n4 := gett g o n c 4 4 l hn (by omega) (by omega) hb
  have s8 : ∀ W, (Instr.slice 22 (.slice (some ⟨g, o, none⟩) n c) (some (.int .i64 8)) (some (.int .i64 12)) none).run Try.prog W = .ok (.slice (some ⟨g, o + 8, none⟩) 4 (c - 8)) W := cut_lh g o n c 8 12 (by omega) (by omega) (by omega) hcm
  have n8 := gett g o n c 8 4 l hn (by omega) (by omega) hb
  have s14 : ∀ W, (Instr.slice 22 (.slice (some ⟨g, o, none⟩) n c) (some (.int .i64 14)) (some (.int .i64 16)) none).run Try.prog W = .ok (.slice (some ⟨g, o + 14, none⟩) 2 (c - 14)) W := cut_lh g o n c 14 16 (by omega) (by omega) (by omega) hcm
  have n14 := gett g o n c 14 2 l hn (by omega) (by omega) hb
  have c13 := by_cell hb hn 13 (by omega)
  have x13 := byN_lt l 13
  have j13 : (13 : Int) < (n : Int) := by omega
  have k13 : 13 < n := by omega
  have c12 := by_cell hb hn 12 (by omega)
  have x12 := byN_lt l 12
  have j12 : (12 : Int) < (n : Int) := by omega
  have k12 : 12 < n := by omega
  have h1 := nbl4 l 4
  have h2 := nbl4 l 8
  simp only [fieldsP, if_true]
  generalize nbN l 0 2 = S0 at *
  generalize nbN l 2 2 = S2 at *
  generalize nbN l 4 4 = SQ at *
  generalize nbN l 8 4 = AK at *
  generalize byN l 13 = FL at *
  generalize nbN l 14 2 = WI at *
  generalize byN l 12 = X at *
  obtain ⟨M, hM⟩ : ∃ M, M = X / 16 := ⟨_, rfl⟩
  have M1 : (X : Int) / 16 = (M : Int) := by omega
  have M2 : (X : Int).tdiv 16 = (M : Int) := by rw [Int.tdiv_eq_ediv_of_nonneg (by omega)]; exact M1
  have M3 : (M : Int) < 16 := by omega
  have M4 : IntKind.u8.wrap (M : Int) = (M : Int) := by rw [IntKind.wrap_u8]; omega
  have M5 : IntKind.i64.wrap (M : Int) = (M : Int) := by rw [IntKind.wrap_i64]; omega
  have M6 : IntKind.i64.wrap ((M : Int) * 4) = (M : Int) * 4 := by rw [IntKind.wrap_i64]; omega
  have Xi : (X : Int) < 256 := by omega
  rw [← hM] at hx hy
  have D1 : decide ((M : Int) * 4 < 20) = false := by simp; omega
  have D2 : ¬ (M : Int) * 4 < 20 := by omega
  have E1 : decide ((n : Int) < (M : Int) * 4) = false := by simp; omega
  have E2 : ¬ (n : Int) < (M : Int) * 4 := by omega
  have q0 : ((S : Int) != 0) = false := by simp; omega
  have wh : IntKind.i64.wrap (vhd + (M : Int) * 4) = vhd + (M : Int) * 4 := by rw [IntKind.wrap_i64]; omega
  have wq : IntKind.u32.wrap (SQ : Int) = (SQ : Int) := by rw [IntKind.wrap_u32]; omega
  have wa : IntKind.u32.wrap (AK : Int) = (AK : Int) := by rw [IntKind.wrap_u32]; omega
  have wf : IntKind.i64.wrap (FL : Int) = (FL : Int) := by rw [IntKind.wrap_i64]; omega
  rw [← hM, show ((M * 4 : Nat) : Int) = (M : Int) * 4 by omega]
  simp only [tcells]
  clear hM hx hy hb hn hS h1 h2 x13
  go_enter Try.func56, Try.ntmps56
  go_wp2_with (with_reducible refine stop_op (o := ⟨some 9, _, _, _, _, _⟩) ?_)
  obtain ⟨w3, hw3⟩ : ∃ x, x = (w.alloc (.cells #[.bool vv, .int .i64 vhd, .int .i64 vtt, .int .i64 vttl, .int .i64 vp, .int .u64 vsH, .int .u64 vsL, .int .u64 vdH, .int .u64 vdL, .bool vfr, .int .u32 vid, .int .i64 voff, .bool vmo] 43)).alloc (.cells #[.int .i64 0, .int .i64 0, .int .u32 0, .int .u32 0, .int .i64 0, .int .i64 0, .int .i64 0, .int .i64 0, .int .i64 0, .int .i64 0] 53) := ⟨_, rfl⟩
  have hV : w3.heap[w.heap.size]? = some (.cells #[.bool vv, .int .i64 vhd, .int .i64 vtt, .int .i64 vttl, .int .i64 vp, .int .u64 vsH, .int .u64 vsL, .int .u64 vdH, .int .u64 vdL, .bool vfr, .int .u32 vid, .int .i64 voff, .bool vmo] 43 (0, 0)) := by rw [hw3]; exact (al_oldw (by first | (simp; done) | (simp; omega)) _).trans (al_neww rfl _)
  have hR : w3.heap[w.heap.size + 1]? = some (.cells #[.int .i64 0, .int .i64 0, .int .u32 0, .int .u32 0, .int .i64 0, .int .i64 0, .int .i64 0, .int .i64 0, .int .i64 0, .int .i64 0] 53 (0, 0)) := by rw [hw3]; exact al_neww (by simp) _
  have bw : Below w.heap.size w w3 := by rw [hw3]; exact Below.al (Below.al (Below.refl _ _) _) _
  rw [← hw3]
  clear hw3
  obtain ⟨⟨v0, v1, v2, v3, v4, v5, v6, v7, v8, v9, v10, v11, v12⟩, _⟩ := cells13 hV
  obtain ⟨⟨r0, r1, r2, r3, r4, r5, r6, r7, r8, r9⟩, q0, q1, q2, q3, q4, q5, q6, q7, q8, q9⟩ := cells10 hR
  refine Lib.hid ?_
  have d12 := keepc bw c12
  clear c12
  go_wp2_with (first | (go_at_call 73; refine (cb _ bw).mono ?_; rintro e w4 ⟨rfl, hbx⟩; refine Hid.out ?_) | fail)
  have hVn := blkKeep2 hbx hV
  have hRn := blkKeep2 hbx hR
  have bwn : Below w.heap.size w w4 := bw.trans (hbx.mono bw.size)
  clear hbx hV hR bw r0 r1 r2 r3 r4 r5 r6 r7 r8 r9 q0 q1 q2 q3 q4 q5 q6 q7 q8 q9 v0 v1 v2 v3 v4 v5 v6 v7 v8 v9 v10 v11 v12
  have hV := hVn
  have hR := hRn
  have bw := bwn
  clear hVn hRn bwn
  obtain ⟨⟨v0, v1, v2, v3, v4, v5, v6, v7, v8, v9, v10, v11, v12⟩, _⟩ := cells13 hV
  obtain ⟨⟨r0, r1, r2, r3, r4, r5, r6, r7, r8, r9⟩, q0, q1, q2, q3, q4, q5, q6, q7, q8, q9⟩ := cells10 hR
  refine Lib.hid ?_
  clear d12
  have d13 := keepc bw c13
  go_wp2_with fail
  have m0 := n0 w4.drew (Below.dr bw)
  have m2 := n2 w4.drew (Below.dr bw)
  have m4 := n4 w4.drew (Below.dr bw)
  have m8 := n8 w4.drew (Below.dr bw)
  have m14 := n14 w4.drew (Below.dr bw)
  clear n0 n2 n4 n8 n14 cb
  refine wp_region_still_tail 26 (by kernel_rfl) (by kernel_rfl) ?_
  simp only [List.take_succ_cons, List.take_zero, List.drop_succ_cons, List.drop_zero]
  still_step
  still_step
  still_call m0
  still_step
  still_step
  still_call m2
  still_step
  still_step
  still_call m4
  still_step
  still_step
  still_step
  still_call m8
  still_step
  still_step
  still_step
  still_step
  still_step
  still_step
  still_step
  still_call m14
  still_step
  still_step
  still_step
  still_step
  still_step
  try refine wpStill_nil ?_
  change wpList _ _ _ _ _ w4.drew
  have hVn : w4.drew.heap[w.heap.size]? = some (.cells #[.bool vv, .int .i64 vhd, .int .i64 vtt, .int .i64 vttl, .int .i64 vp, .int .u64 vsH, .int .u64 vsL, .int .u64 vdH, .int .u64 vdL, .bool vfr, .int .u32 vid, .int .i64 voff, .bool vmo] 43 (0, 0)) := hV
  have hRn : w4.drew.heap[w.heap.size + 1]? = some (.cells #[.int .i64 0, .int .i64 0, .int .u32 0, .int .u32 0, .int .i64 0, .int .i64 0, .int .i64 0, .int .i64 0, .int .i64 0, .int .i64 0] 53 (0, 0)) := hR
  have bwn := Below.dr bw
  clear m0 m2 m4 m8 m14 r0 r1 r2 r3 r4 r5 r6 r7 r8 r9 q0 q1 q2 q3 q4 q5 q6 q7 q8 q9 v0 v1 v2 v3 v4 v5 v6 v7 v8 v9 v10 v11 v12
  generalize w4.drew = w5 at *
  have hV := hVn
  have hR := hRn
  have bw := bwn
  clear hVn hRn bwn
  obtain ⟨⟨r0, r1, r2, r3, r4, r5, r6, r7, r8, r9⟩, q0, q1, q2, q3, q4, q5, q6, q7, q8, q9⟩ := cells10 hR
  clear d13
  go_wp2
  refine bodyPost_ret_by (res_row Try.results56 _ _ (w.heap.size + 1) 53 #[.int .i64 (S0 : Int), .int .i64 (S2 : Int), .int .u32 (SQ : Int), .int .u32 (AK : Int), .int .i64 (FL : Int), .int .i64 (WI : Int), .int .i64 0, .int .i64 0, .int .i64 (vhd + (M : Int) * 4), .int .i64 0] _ rfl (heap_set10w hR (.int .i64 (S0 : Int)) (.int .i64 (S2 : Int)) (.int .u32 (SQ : Int)) (.int .u32 (AK : Int)) (.int .i64 (FL : Int)) (.int .i64 (WI : Int)) (.int .i64 0) (.int .i64 0) (.int .i64 (vhd + (M : Int) * 4)) (.int .i64 0)) Try.underlying53 (by kernel_rfl)) rfl ⟨rfl, ?_⟩
  exact below_set10 bw (by omega) _ _ _ _ _ _ _ _ _ _
end Go.Proofs.Ytpmbdjdhgcjkfaa
