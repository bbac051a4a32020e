/- The transport headers, the document's; by-name template (gen_wrtr.py). -/
import Derived.Test.YtpmbdjdhgcjkfaaWRTcp
import Derived.StillTailTactics
namespace Go.Proofs.Ytpmbdjdhgcjkfaa
open Go.RowKit Go.Sort
set_option linter.unusedVariables false
set_option linter.unusedSimpArgs false


theorem recho_any (v6 : Bool) (k : Int) (w : World) : Calls Try.prog 45 #[.bool v6, .int .i64 k] w fun e w' => e = .returned (.bool (echoP v6 k)) ∧ w = w' := by
  unfold echoP
  cases v6
  · by_cases h : k = 8
    · subst h
      go_enter Try.func45, Try.ntmps45
      go_wp2
      go_ret
      exact ⟨rfl, rfl⟩
    · have hb : (k == 8) = false := by simp [h]
      by_cases h0 : k = 0
      · subst h0
        go_enter Try.func45, Try.ntmps45
        go_wp2
        go_ret
        exact ⟨rfl, rfl⟩
      · have hb0 : (k == 0) = false := by simp [h0]
        go_enter Try.func45, Try.ntmps45
        go_wp2
        go_ret
        exact ⟨by simp [h, h0], rfl⟩
  · by_cases h : k = 128
    · subst h
      go_enter Try.func45, Try.ntmps45
      go_wp2
      go_ret
      exact ⟨rfl, rfl⟩
    · have hb : (k == 128) = false := by simp [h]
      by_cases h0 : k = 129
      · subst h0
        go_enter Try.func45, Try.ntmps45
        go_wp2
        go_ret
        exact ⟨rfl, rfl⟩
      · have hb0 : (k == 129) = false := by simp [h0]
        go_enter Try.func45, Try.ntmps45
        go_wp2
        go_ret
        exact ⟨by simp [h, h0], rfl⟩

set_option maxHeartbeats 2000000 in
set_option maxRecDepth 100000 in
theorem ricmp_a (A : Option Addr) (n c : Nat) (vv : Bool) (vhd vtt vttl vp vsH vsL vdH vdL : Int) (vfr : Bool) (vid voff : Int) (vmo : Bool) (hn : n < 8) {w : World} :
    Calls Try.prog 58 #[.slice A n c, .agg #[.bool vv, .int .i64 vhd, .int .i64 vtt, .int .i64 vttl, .int .i64 vp, .int .u64 vsH, .int .u64 vsL, .int .u64 vdH, .int .u64 vdL, .bool vfr, .int .u32 vid, .int .i64 voff, .bool vmo]] w fun e w' => e = .returned (.tuple #[.agg (tcells ztw), .int .i64 40]) ∧ Below w.heap.size w w' := by
  have hi : (n : Int) < 8 := by omega
  simp only [tcells, ztw]
  go_enter Try.func58, Try.ntmps58
  go_wp2_with (with_reducible refine stop_op (o := ⟨some 9, _, _, _, _, _⟩) ?_)
  obtain ⟨w3, hw3⟩ : ∃ x, x = (w.alloc (.cells #[.bool vv, .int .i64 vhd, .int .i64 vtt, .int .i64 vttl, .int .i64 vp, .int .u64 vsH, .int .u64 vsL, .int .u64 vdH, .int .u64 vdL, .bool vfr, .int .u32 vid, .int .i64 voff, .bool vmo] 43)).alloc (.cells #[.int .i64 0, .int .i64 0, .int .u32 0, .int .u32 0, .int .i64 0, .int .i64 0, .int .i64 0, .int .i64 0, .int .i64 0, .int .i64 0] 53) := ⟨_, rfl⟩
  have hV : w3.heap[w.heap.size]? = some (.cells #[.bool vv, .int .i64 vhd, .int .i64 vtt, .int .i64 vttl, .int .i64 vp, .int .u64 vsH, .int .u64 vsL, .int .u64 vdH, .int .u64 vdL, .bool vfr, .int .u32 vid, .int .i64 voff, .bool vmo] 43 (0, 0)) := by rw [hw3]; exact (al_oldw (by first | (simp; done) | (simp; omega)) _).trans (al_neww rfl _)
  have hR : w3.heap[w.heap.size + 1]? = some (.cells #[.int .i64 0, .int .i64 0, .int .u32 0, .int .u32 0, .int .i64 0, .int .i64 0, .int .i64 0, .int .i64 0, .int .i64 0, .int .i64 0] 53 (0, 0)) := by rw [hw3]; exact al_neww (by simp) _
  have bw : Below w.heap.size w w3 := by rw [hw3]; exact Below.al (Below.al (Below.refl _ _) _) _
  rw [← hw3]
  clear hw3
  obtain ⟨⟨v0, v1, v2, v3, v4, v5, v6, v7, v8, v9, v10, v11, v12⟩, _⟩ := cells13 hV
  obtain ⟨⟨r0, r1, r2, r3, r4, r5, r6, r7, r8, r9⟩, q0, q1, q2, q3, q4, q5, q6, q7, q8, q9⟩ := cells10 hR
  refine Lib.hid ?_
  go_wp2
  refine bodyPost_ret_by (res_row Try.results58 _ _ (w.heap.size + 1) 53 #[.int .i64 0, .int .i64 0, .int .u32 0, .int .u32 0, .int .i64 0, .int .i64 0, .int .i64 0, .int .i64 0, .int .i64 0, .int .i64 0] _ rfl (heap_set10w hR (.int .i64 0) (.int .i64 0) (.int .u32 0) (.int .u32 0) (.int .i64 0) (.int .i64 0) (.int .i64 0) (.int .i64 0) (.int .i64 0) (.int .i64 0)) Try.underlying53 (by kernel_rfl)) rfl ⟨rfl, ?_⟩
  exact below_set10 bw (by omega) _ _ _ _ _ _ _ _ _ _

set_option maxHeartbeats 2000000 in
set_option maxRecDepth 100000 in
theorem ricmp_b (g o c n : Nat) (l : List UInt8) (vv : Bool) (vhd vtt vttl vp vsH vsL vdH vdL : Int) (vfr : Bool) (vid voff : Int) (vmo : Bool) (hn : l.length = n) (h8 : 8 ≤ n) (hc : n ≤ c) (hcm : c ≤ 9223372036854775807) {w : World} (hb : Byt w g o l) (S : Nat) (cb : ∀ W : World, Below w.heap.size w W → Calls Try.prog 73 #[.agg #[.int .u64 vsH, .int .u64 vsL], .agg #[.int .u64 vdH, .int .u64 vdL], .int .i64 vp, .slice (some ⟨g, o, none⟩) n c] W fun e w' => e = .returned (.int .i64 (S : Nat)) ∧ Below W.heap.size W w') (hS : S ≠ 0) :
    Calls Try.prog 58 #[.slice (some ⟨g, o, none⟩) n c, .agg #[.bool vv, .int .i64 vhd, .int .i64 vtt, .int .i64 vttl, .int .i64 vp, .int .u64 vsH, .int .u64 vsL, .int .u64 vdH, .int .u64 vdL, .bool vfr, .int .u32 vid, .int .i64 voff, .bool vmo]] w fun e w' => e = .returned (.tuple #[.agg (tcells ztw), .int .i64 43]) ∧ Below w.heap.size w w' := by
  have hi : ¬ (n : Int) < 8 := by omega
  have hi2 : decide ((n : Int) < 8) = false := by simp; omega
  have hi3 : decide (n < 8) = false := by simp; omega
  have Q0 : ((S : Int) != 0) = true := by simp; omega
  simp only [tcells, ztw]
  clear hb hn hS
  go_enter Try.func58, Try.ntmps58
  go_wp2_with (with_reducible refine stop_op (o := ⟨some 9, _, _, _, _, _⟩) ?_)
  obtain ⟨w3, hw3⟩ : ∃ x, x = (w.alloc (.cells #[.bool vv, .int .i64 vhd, .int .i64 vtt, .int .i64 vttl, .int .i64 vp, .int .u64 vsH, .int .u64 vsL, .int .u64 vdH, .int .u64 vdL, .bool vfr, .int .u32 vid, .int .i64 voff, .bool vmo] 43)).alloc (.cells #[.int .i64 0, .int .i64 0, .int .u32 0, .int .u32 0, .int .i64 0, .int .i64 0, .int .i64 0, .int .i64 0, .int .i64 0, .int .i64 0] 53) := ⟨_, rfl⟩
  have hV : w3.heap[w.heap.size]? = some (.cells #[.bool vv, .int .i64 vhd, .int .i64 vtt, .int .i64 vttl, .int .i64 vp, .int .u64 vsH, .int .u64 vsL, .int .u64 vdH, .int .u64 vdL, .bool vfr, .int .u32 vid, .int .i64 voff, .bool vmo] 43 (0, 0)) := by rw [hw3]; exact (al_oldw (by first | (simp; done) | (simp; omega)) _).trans (al_neww rfl _)
  have hR : w3.heap[w.heap.size + 1]? = some (.cells #[.int .i64 0, .int .i64 0, .int .u32 0, .int .u32 0, .int .i64 0, .int .i64 0, .int .i64 0, .int .i64 0, .int .i64 0, .int .i64 0] 53 (0, 0)) := by rw [hw3]; exact al_neww (by simp) _
  have bw : Below w.heap.size w w3 := by rw [hw3]; exact Below.al (Below.al (Below.refl _ _) _) _
  rw [← hw3]
  clear hw3
  obtain ⟨⟨v0, v1, v2, v3, v4, v5, v6, v7, v8, v9, v10, v11, v12⟩, _⟩ := cells13 hV
  obtain ⟨⟨r0, r1, r2, r3, r4, r5, r6, r7, r8, r9⟩, q0, q1, q2, q3, q4, q5, q6, q7, q8, q9⟩ := cells10 hR
  refine Lib.hid ?_
  go_wp2_with (go_at_call 73; refine (cb _ bw).mono ?_; rintro e w4 ⟨rfl, hbx⟩; refine Hid.out ?_)
  have hVn := blkKeep2 hbx hV
  have hRn := blkKeep2 hbx hR
  have bwn : Below w.heap.size w w4 := bw.trans (hbx.mono bw.size)
  clear hbx hV hR bw r0 r1 r2 r3 r4 r5 r6 r7 r8 r9 q0 q1 q2 q3 q4 q5 q6 q7 q8 q9 v0 v1 v2 v3 v4 v5 v6 v7 v8 v9 v10 v11 v12
  have hV := hVn
  have hR := hRn
  have bw := bwn
  clear hVn hRn bwn
  obtain ⟨⟨v0, v1, v2, v3, v4, v5, v6, v7, v8, v9, v10, v11, v12⟩, _⟩ := cells13 hV
  obtain ⟨⟨r0, r1, r2, r3, r4, r5, r6, r7, r8, r9⟩, q0, q1, q2, q3, q4, q5, q6, q7, q8, q9⟩ := cells10 hR
  refine Lib.hid ?_
  go_wp2
  refine bodyPost_ret_by (res_row Try.results58 _ _ (w.heap.size + 1) 53 #[.int .i64 0, .int .i64 0, .int .u32 0, .int .u32 0, .int .i64 0, .int .i64 0, .int .i64 0, .int .i64 0, .int .i64 0, .int .i64 0] _ rfl (heap_set10w hR (.int .i64 0) (.int .i64 0) (.int .u32 0) (.int .u32 0) (.int .i64 0) (.int .i64 0) (.int .i64 0) (.int .i64 0) (.int .i64 0) (.int .i64 0)) Try.underlying53 (by kernel_rfl)) rfl ⟨rfl, ?_⟩
  exact below_set10 bw (by omega) _ _ _ _ _ _ _ _ _ _

set_option maxHeartbeats 2000000 in
set_option maxRecDepth 100000 in
theorem ricmp_c (g o c n : Nat) (l : List UInt8) (vv : Bool) (vhd vtt vttl vp vsH vsL vdH vdL : Int) (vfr : Bool) (vid voff : Int) (vmo : Bool) (hn : l.length = n) (h8 : 8 ≤ n) (hc : n ≤ c) (hcm : c ≤ 9223372036854775807) {w : World} (hb : Byt w g o l) (he : echoP vv (byN l 0) = false) (hh0 : 0 ≤ vhd) (hh1 : vhd ≤ 65536) (S : Nat) (cb : ∀ W : World, Below w.heap.size w W → Calls Try.prog 73 #[.agg #[.int .u64 vsH, .int .u64 vsL], .agg #[.int .u64 vdH, .int .u64 vdL], .int .i64 vp, .slice (some ⟨g, o, none⟩) n c] W fun e w' => e = .returned (.int .i64 (S : Nat)) ∧ Below W.heap.size W w') (hS : S = 0) :
    Calls Try.prog 58 #[.slice (some ⟨g, o, none⟩) n c, .agg #[.bool vv, .int .i64 vhd, .int .i64 vtt, .int .i64 vttl, .int .i64 vp, .int .u64 vsH, .int .u64 vsL, .int .u64 vdH, .int .u64 vdL, .bool vfr, .int .u32 vid, .int .i64 voff, .bool vmo]] w fun e w' => e = .returned (.tuple #[.agg (tcells { (⟨0, 0, 0, 0, 0, 0, byN l 0, byN l 1, 0, 0⟩ : TW) with head := vhd + 8, data := 0 }), .int .i64 0]) ∧ Below w.heap.size w w' := by
  have hi : ¬ (n : Int) < 8 := by omega
  have hi2 : decide ((n : Int) < 8) = false := by simp; omega
  have hi3 : decide (n < 8) = false := by simp; omega
  have Q0 : ((S : Int) != 0) = false := by simp; omega
  have ce := fun (W : World) => recho_any vv (byN l 0) W
  rw [he] at ce
  have c0 := by_cell hb hn 0 (by omega)
  rw [Nat.add_zero] at c0
  have c1 := by_cell hb hn 1 (by omega)
  have x0 := byN_lt l 0
  have x1 := byN_lt l 1
  have j0 : (0 : Int) < (n : Int) := by omega
  have k0 : 0 < n := by omega
  have j1 : (1 : Int) < (n : Int) := by omega
  have k1 : 1 < n := by omega
  generalize byN l 0 = T0 at *
  generalize byN l 1 = T1 at *
  have t0i : (T0 : Int) < 256 := by omega
  have t1i : (T1 : Int) < 256 := by omega
  have wt0 : IntKind.i64.wrap (T0 : Int) = (T0 : Int) := by rw [IntKind.wrap_i64]; omega
  have wt1 : IntKind.i64.wrap (T1 : Int) = (T1 : Int) := by rw [IntKind.wrap_i64]; omega
  have wh : IntKind.i64.wrap (vhd + 8) = vhd + 8 := by rw [IntKind.wrap_i64]; omega
  simp only [tcells]
  clear hb hn hS he x0 x1
  go_enter Try.func58, Try.ntmps58
  go_wp2_with (with_reducible refine stop_op (o := ⟨some 9, _, _, _, _, _⟩) ?_)
  obtain ⟨w3, hw3⟩ : ∃ x, x = (w.alloc (.cells #[.bool vv, .int .i64 vhd, .int .i64 vtt, .int .i64 vttl, .int .i64 vp, .int .u64 vsH, .int .u64 vsL, .int .u64 vdH, .int .u64 vdL, .bool vfr, .int .u32 vid, .int .i64 voff, .bool vmo] 43)).alloc (.cells #[.int .i64 0, .int .i64 0, .int .u32 0, .int .u32 0, .int .i64 0, .int .i64 0, .int .i64 0, .int .i64 0, .int .i64 0, .int .i64 0] 53) := ⟨_, rfl⟩
  have hV : w3.heap[w.heap.size]? = some (.cells #[.bool vv, .int .i64 vhd, .int .i64 vtt, .int .i64 vttl, .int .i64 vp, .int .u64 vsH, .int .u64 vsL, .int .u64 vdH, .int .u64 vdL, .bool vfr, .int .u32 vid, .int .i64 voff, .bool vmo] 43 (0, 0)) := by rw [hw3]; exact (al_oldw (by first | (simp; done) | (simp; omega)) _).trans (al_neww rfl _)
  have hR : w3.heap[w.heap.size + 1]? = some (.cells #[.int .i64 0, .int .i64 0, .int .u32 0, .int .u32 0, .int .i64 0, .int .i64 0, .int .i64 0, .int .i64 0, .int .i64 0, .int .i64 0] 53 (0, 0)) := by rw [hw3]; exact al_neww (by simp) _
  have bw : Below w.heap.size w w3 := by rw [hw3]; exact Below.al (Below.al (Below.refl _ _) _) _
  rw [← hw3]
  clear hw3
  obtain ⟨⟨v0, v1, v2, v3, v4, v5, v6, v7, v8, v9, v10, v11, v12⟩, _⟩ := cells13 hV
  obtain ⟨⟨r0, r1, r2, r3, r4, r5, r6, r7, r8, r9⟩, q0, q1, q2, q3, q4, q5, q6, q7, q8, q9⟩ := cells10 hR
  refine Lib.hid ?_
  go_wp2_with (first | (go_at_call 73; refine (cb _ bw).mono ?_; rintro e w4 ⟨rfl, hbx⟩; refine Hid.out ?_) | fail)
  have hVn := blkKeep2 hbx hV
  have hRn := blkKeep2 hbx hR
  have bwn : Below w.heap.size w w4 := bw.trans (hbx.mono bw.size)
  clear hbx hV hR bw r0 r1 r2 r3 r4 r5 r6 r7 r8 r9 q0 q1 q2 q3 q4 q5 q6 q7 q8 q9 v0 v1 v2 v3 v4 v5 v6 v7 v8 v9 v10 v11 v12
  have hV := hVn
  have hR := hRn
  have bw := bwn
  clear hVn hRn bwn
  obtain ⟨⟨v0, v1, v2, v3, v4, v5, v6, v7, v8, v9, v10, v11, v12⟩, _⟩ := cells13 hV
  obtain ⟨⟨r0, r1, r2, r3, r4, r5, r6, r7, r8, r9⟩, q0, q1, q2, q3, q4, q5, q6, q7, q8, q9⟩ := cells10 hR
  refine Lib.hid ?_
  go_wp2_with fail
  have e0 := keepc bw c0
  have e1 := keepc bw c1
  clear c0 c1
  have bA : Below w4.heap.size w4 (w4.alloc (.cells #[.int .i64 0, .int .i64 0, .int .u32 0, .int .u32 0, .int .i64 0, .int .i64 0, .int .i64 0, .int .i64 0, .int .i64 0, .int .i64 0] 53)).drew := Below.dr (Below.al (Below.refl _ _) _)
  have f0 := keepc bA e0
  have f1 := keepc bA e1
  have f2 := keepc bA v1
  clear bA
  go_region
  clear e0 e1 f0 f1 f2
  obtain ⟨w5, hw5⟩ : ∃ x, x = (w4.alloc (.cells #[.int .i64 0, .int .i64 0, .int .u32 0, .int .u32 0, .int .i64 0, .int .i64 0, .int .i64 (T0 : Int), .int .i64 (T1 : Int), .int .i64 (vhd + 8), .int .i64 0] 53)).drew := ⟨_, rfl⟩
  have hT : w5.heap[w4.heap.size]? = some (.cells #[.int .i64 0, .int .i64 0, .int .u32 0, .int .u32 0, .int .i64 0, .int .i64 0, .int .i64 (T0 : Int), .int .i64 (T1 : Int), .int .i64 (vhd + 8), .int .i64 0] 53 (0, 0)) := by rw [hw5]; exact al_neww rfl _
  have hbx : Below w4.heap.size w4 w5 := by rw [hw5]; exact Below.dr (Below.al (Below.refl _ _) _)
  have hz4 : w.heap.size + 1 < w4.heap.size := (Array.getElem?_eq_some_iff.1 hR).1
  rw [← hw5]
  clear hw5
  have hVn := blkKeep2 hbx hV
  have hRn := blkKeep2 hbx hR
  have bwn : Below w.heap.size w w5 := bw.trans (hbx.mono bw.size)
  clear hbx hV hR bw r0 r1 r2 r3 r4 r5 r6 r7 r8 r9 q0 q1 q2 q3 q4 q5 q6 q7 q8 q9 v0 v1 v2 v3 v4 v5 v6 v7 v8 v9 v10 v11 v12
  have hV := hVn
  have hR := hRn
  have bw := bwn
  clear hVn hRn bwn
  obtain ⟨⟨v0, v1, v2, v3, v4, v5, v6, v7, v8, v9, v10, v11, v12⟩, _⟩ := cells13 hV
  obtain ⟨⟨t0, t1, t2, t3, t4, t5, t6, t7, t8, t9⟩, p0, p1, p2, p3, p4, p5, p6, p7, p8, p9⟩ := cells10 hT
  obtain ⟨⟨r0, r1, r2, r3, r4, r5, r6, r7, r8, r9⟩, q0, q1, q2, q3, q4, q5, q6, q7, q8, q9⟩ := cells10 hR
  go_wp2_with (go_at_call 45; refine (ce _).mono ?_; rintro e w' ⟨rfl, rfl⟩)
  refine bodyPost_ret_by (res_row Try.results58 _ _ (w.heap.size + 1) 53 #[.int .i64 0, .int .i64 0, .int .u32 0, .int .u32 0, .int .i64 0, .int .i64 0, .int .i64 (T0 : Int), .int .i64 (T1 : Int), .int .i64 (vhd + 8), .int .i64 0] _ rfl (heap_set10w hR (.int .i64 0) (.int .i64 0) (.int .u32 0) (.int .u32 0) (.int .i64 0) (.int .i64 0) (.int .i64 (T0 : Int)) (.int .i64 (T1 : Int)) (.int .i64 (vhd + 8)) (.int .i64 0)) Try.underlying53 (by kernel_rfl)) rfl ⟨rfl, ?_⟩
  exact below_set10 bw (by omega) _ _ _ _ _ _ _ _ _ _

set_option maxHeartbeats 2000000 in
set_option maxRecDepth 100000 in
theorem ricmp_d (g o c n : Nat) (l : List UInt8) (vv : Bool) (vhd vtt vttl vp vsH vsL vdH vdL : Int) (vfr : Bool) (vid voff : Int) (vmo : Bool) (hn : l.length = n) (h8 : 8 ≤ n) (hc : n ≤ c) (hcm : c ≤ 9223372036854775807) {w : World} (hb : Byt w g o l) (he : echoP vv (byN l 0) = true) (hh0 : 0 ≤ vhd) (hh1 : vhd ≤ 65536) (S : Nat) (cb : ∀ W : World, Below w.heap.size w W → Calls Try.prog 73 #[.agg #[.int .u64 vsH, .int .u64 vsL], .agg #[.int .u64 vdH, .int .u64 vdL], .int .i64 vp, .slice (some ⟨g, o, none⟩) n c] W fun e w' => e = .returned (.int .i64 (S : Nat)) ∧ Below W.heap.size W w') (hS : S = 0) :
    Calls Try.prog 58 #[.slice (some ⟨g, o, none⟩) n c, .agg #[.bool vv, .int .i64 vhd, .int .i64 vtt, .int .i64 vttl, .int .i64 vp, .int .u64 vsH, .int .u64 vsL, .int .u64 vdH, .int .u64 vdL, .bool vfr, .int .u32 vid, .int .i64 voff, .bool vmo]] w fun e w' => e = .returned (.tuple #[.agg (tcells { (⟨nbN l 4 2, nbN l 4 2, 0, 0, 0, 0, byN l 0, byN l 1, 0, 0⟩ : TW) with head := vhd + 8, data := 0 }), .int .i64 0]) ∧ Below w.heap.size w w' := by
  have hi : ¬ (n : Int) < 8 := by omega
  have hi2 : decide ((n : Int) < 8) = false := by simp; omega
  have hi3 : decide (n < 8) = false := by simp; omega
  have Q0 : ((S : Int) != 0) = false := by simp; omega
  have ce := fun (W : World) => recho_any vv (byN l 0) W
  rw [he] at ce
  have s4 : ∀ W, (Instr.slice 22 (.slice (some ⟨g, o, none⟩) n c) (some (.int .i64 4)) (some (.int .i64 6)) none).run Try.prog W = .ok (.slice (some ⟨g, o + 4, none⟩) 2 (c - 4)) W := cut_lh g o n c 4 6 (by omega) (by omega) (by omega) hcm
  have n4 := gett g o n c 4 2 l hn (by omega) (by omega) hb
  generalize nbN l 4 2 = S4 at *
  have c0 := by_cell hb hn 0 (by omega)
  rw [Nat.add_zero] at c0
  have c1 := by_cell hb hn 1 (by omega)
  have x0 := byN_lt l 0
  have x1 := byN_lt l 1
  have j0 : (0 : Int) < (n : Int) := by omega
  have k0 : 0 < n := by omega
  have j1 : (1 : Int) < (n : Int) := by omega
  have k1 : 1 < n := by omega
  generalize byN l 0 = T0 at *
  generalize byN l 1 = T1 at *
  have t0i : (T0 : Int) < 256 := by omega
  have t1i : (T1 : Int) < 256 := by omega
  have wt0 : IntKind.i64.wrap (T0 : Int) = (T0 : Int) := by rw [IntKind.wrap_i64]; omega
  have wt1 : IntKind.i64.wrap (T1 : Int) = (T1 : Int) := by rw [IntKind.wrap_i64]; omega
  have wh : IntKind.i64.wrap (vhd + 8) = vhd + 8 := by rw [IntKind.wrap_i64]; omega
  simp only [tcells]
  clear hb hn hS he x0 x1
  go_enter Try.func58, Try.ntmps58
  go_wp2_with (with_reducible refine stop_op (o := ⟨some 9, _, _, _, _, _⟩) ?_)
  obtain ⟨w3, hw3⟩ : ∃ x, x = (w.alloc (.cells #[.bool vv, .int .i64 vhd, .int .i64 vtt, .int .i64 vttl, .int .i64 vp, .int .u64 vsH, .int .u64 vsL, .int .u64 vdH, .int .u64 vdL, .bool vfr, .int .u32 vid, .int .i64 voff, .bool vmo] 43)).alloc (.cells #[.int .i64 0, .int .i64 0, .int .u32 0, .int .u32 0, .int .i64 0, .int .i64 0, .int .i64 0, .int .i64 0, .int .i64 0, .int .i64 0] 53) := ⟨_, rfl⟩
  have hV : w3.heap[w.heap.size]? = some (.cells #[.bool vv, .int .i64 vhd, .int .i64 vtt, .int .i64 vttl, .int .i64 vp, .int .u64 vsH, .int .u64 vsL, .int .u64 vdH, .int .u64 vdL, .bool vfr, .int .u32 vid, .int .i64 voff, .bool vmo] 43 (0, 0)) := by rw [hw3]; exact (al_oldw (by first | (simp; done) | (simp; omega)) _).trans (al_neww rfl _)
  have hR : w3.heap[w.heap.size + 1]? = some (.cells #[.int .i64 0, .int .i64 0, .int .u32 0, .int .u32 0, .int .i64 0, .int .i64 0, .int .i64 0, .int .i64 0, .int .i64 0, .int .i64 0] 53 (0, 0)) := by rw [hw3]; exact al_neww (by simp) _
  have bw : Below w.heap.size w w3 := by rw [hw3]; exact Below.al (Below.al (Below.refl _ _) _) _
  rw [← hw3]
  clear hw3
  obtain ⟨⟨v0, v1, v2, v3, v4, v5, v6, v7, v8, v9, v10, v11, v12⟩, _⟩ := cells13 hV
  obtain ⟨⟨r0, r1, r2, r3, r4, r5, r6, r7, r8, r9⟩, q0, q1, q2, q3, q4, q5, q6, q7, q8, q9⟩ := cells10 hR
  refine Lib.hid ?_
  go_wp2_with (first | (go_at_call 73; refine (cb _ bw).mono ?_; rintro e w4 ⟨rfl, hbx⟩; refine Hid.out ?_) | fail)
  have hVn := blkKeep2 hbx hV
  have hRn := blkKeep2 hbx hR
  have bwn : Below w.heap.size w w4 := bw.trans (hbx.mono bw.size)
  clear hbx hV hR bw r0 r1 r2 r3 r4 r5 r6 r7 r8 r9 q0 q1 q2 q3 q4 q5 q6 q7 q8 q9 v0 v1 v2 v3 v4 v5 v6 v7 v8 v9 v10 v11 v12
  have hV := hVn
  have hR := hRn
  have bw := bwn
  clear hVn hRn bwn
  obtain ⟨⟨v0, v1, v2, v3, v4, v5, v6, v7, v8, v9, v10, v11, v12⟩, _⟩ := cells13 hV
  obtain ⟨⟨r0, r1, r2, r3, r4, r5, r6, r7, r8, r9⟩, q0, q1, q2, q3, q4, q5, q6, q7, q8, q9⟩ := cells10 hR
  refine Lib.hid ?_
  go_wp2_with fail
  have e0 := keepc bw c0
  have e1 := keepc bw c1
  clear c0 c1
  have bA : Below w4.heap.size w4 (w4.alloc (.cells #[.int .i64 0, .int .i64 0, .int .u32 0, .int .u32 0, .int .i64 0, .int .i64 0, .int .i64 0, .int .i64 0, .int .i64 0, .int .i64 0] 53)).drew := Below.dr (Below.al (Below.refl _ _) _)
  have f0 := keepc bA e0
  have f1 := keepc bA e1
  have f2 := keepc bA v1
  clear bA
  go_region
  clear e0 e1 f0 f1 f2
  obtain ⟨w5, hw5⟩ : ∃ x, x = (w4.alloc (.cells #[.int .i64 0, .int .i64 0, .int .u32 0, .int .u32 0, .int .i64 0, .int .i64 0, .int .i64 (T0 : Int), .int .i64 (T1 : Int), .int .i64 (vhd + 8), .int .i64 0] 53)).drew := ⟨_, rfl⟩
  have hT : w5.heap[w4.heap.size]? = some (.cells #[.int .i64 0, .int .i64 0, .int .u32 0, .int .u32 0, .int .i64 0, .int .i64 0, .int .i64 (T0 : Int), .int .i64 (T1 : Int), .int .i64 (vhd + 8), .int .i64 0] 53 (0, 0)) := by rw [hw5]; exact al_neww rfl _
  have hbx : Below w4.heap.size w4 w5 := by rw [hw5]; exact Below.dr (Below.al (Below.refl _ _) _)
  have hz4 : w.heap.size + 1 < w4.heap.size := (Array.getElem?_eq_some_iff.1 hR).1
  rw [← hw5]
  clear hw5
  have hVn := blkKeep2 hbx hV
  have hRn := blkKeep2 hbx hR
  have bwn : Below w.heap.size w w5 := bw.trans (hbx.mono bw.size)
  clear hbx hV hR bw r0 r1 r2 r3 r4 r5 r6 r7 r8 r9 q0 q1 q2 q3 q4 q5 q6 q7 q8 q9 v0 v1 v2 v3 v4 v5 v6 v7 v8 v9 v10 v11 v12
  have hV := hVn
  have hR := hRn
  have bw := bwn
  clear hVn hRn bwn
  obtain ⟨⟨v0, v1, v2, v3, v4, v5, v6, v7, v8, v9, v10, v11, v12⟩, _⟩ := cells13 hV
  obtain ⟨⟨t0, t1, t2, t3, t4, t5, t6, t7, t8, t9⟩, p0, p1, p2, p3, p4, p5, p6, p7, p8, p9⟩ := cells10 hT
  have m4 := n4 _ bw
  go_wp2_with (first | (go_at_call 45; refine (ce _).mono ?_; rintro e w' ⟨rfl, rfl⟩) | (go_at_call 44; (with_reducible refine m4.mono ?_); rintro e w' ⟨rfl, hw'⟩; (have hw'' := hw'.symm); subst hw'') | (with_reducible refine stop_op (o := ⟨some 42, _, _, _, _, _⟩) ?_))
  obtain ⟨w6, hwn⟩ : ∃ x, x = w5.setCell ⟨w4.heap.size, 0, none⟩ (.int .i64 (S4 : Int)) := ⟨_, rfl⟩
  have hTn : w6.heap[w4.heap.size]? = some (.cells #[.int .i64 (S4 : Int), .int .i64 0, .int .u32 0, .int .u32 0, .int .i64 0, .int .i64 0, .int .i64 (T0 : Int), .int .i64 (T1 : Int), .int .i64 (vhd + 8), .int .i64 0] 53 (0, 0)) := by rw [hwn, heap_setw hT 0 _]; kernel_rfl
  have hRn : w6.heap[w.heap.size + 1]? = some (.cells #[.int .i64 0, .int .i64 0, .int .u32 0, .int .u32 0, .int .i64 0, .int .i64 0, .int .i64 0, .int .i64 0, .int .i64 0, .int .i64 0] 53 (0, 0)) := by rw [hwn, set_other (by omega)]; exact hR
  have bwn : Below w.heap.size w w6 := by rw [hwn]; exact below_set bw (by omega) 0 _
  rw [← hwn]
  clear hwn hV hR hT bw m4 v0 v1 v2 v3 v4 v5 v6 v7 v8 v9 v10 v11 v12 t0 t1 t2 t3 t4 t5 t6 t7 t8 t9 p0 p1 p2 p3 p4 p5 p6 p7 p8 p9
  have hR := hRn
  have hT := hTn
  have bw := bwn
  clear hRn hTn bwn
  obtain ⟨⟨t0, t1, t2, t3, t4, t5, t6, t7, t8, t9⟩, p0, p1, p2, p3, p4, p5, p6, p7, p8, p9⟩ := cells10 hT
  refine Lib.hid ?_
  go_wp2_with (with_reducible refine stop_op (o := ⟨some 45, _, _, _, _, _⟩) ?_)
  obtain ⟨w7, hwn⟩ : ∃ x, x = w6.setCell ⟨w4.heap.size, 1, none⟩ (.int .i64 (S4 : Int)) := ⟨_, rfl⟩
  have hTn : w7.heap[w4.heap.size]? = some (.cells #[.int .i64 (S4 : Int), .int .i64 (S4 : Int), .int .u32 0, .int .u32 0, .int .i64 0, .int .i64 0, .int .i64 (T0 : Int), .int .i64 (T1 : Int), .int .i64 (vhd + 8), .int .i64 0] 53 (0, 0)) := by rw [hwn, heap_setw hT 1 _]; kernel_rfl
  have hRn : w7.heap[w.heap.size + 1]? = some (.cells #[.int .i64 0, .int .i64 0, .int .u32 0, .int .u32 0, .int .i64 0, .int .i64 0, .int .i64 0, .int .i64 0, .int .i64 0, .int .i64 0] 53 (0, 0)) := by rw [hwn, set_other (by omega)]; exact hR
  have bwn : Below w.heap.size w w7 := by rw [hwn]; exact below_set bw (by omega) 1 _
  rw [← hwn]
  clear hwn hR hT bw t0 t1 t2 t3 t4 t5 t6 t7 t8 t9 p0 p1 p2 p3 p4 p5 p6 p7 p8 p9
  have hR := hRn
  have hT := hTn
  have bw := bwn
  clear hRn hTn bwn
  obtain ⟨⟨t0, t1, t2, t3, t4, t5, t6, t7, t8, t9⟩, p0, p1, p2, p3, p4, p5, p6, p7, p8, p9⟩ := cells10 hT
  obtain ⟨⟨r0, r1, r2, r3, r4, r5, r6, r7, r8, r9⟩, q0, q1, q2, q3, q4, q5, q6, q7, q8, q9⟩ := cells10 hR
  refine Lib.hid ?_
  go_wp2
  refine bodyPost_ret_by (res_row Try.results58 _ _ (w.heap.size + 1) 53 #[.int .i64 (S4 : Int), .int .i64 (S4 : Int), .int .u32 0, .int .u32 0, .int .i64 0, .int .i64 0, .int .i64 (T0 : Int), .int .i64 (T1 : Int), .int .i64 (vhd + 8), .int .i64 0] _ rfl (heap_set10w hR (.int .i64 (S4 : Int)) (.int .i64 (S4 : Int)) (.int .u32 0) (.int .u32 0) (.int .i64 0) (.int .i64 0) (.int .i64 (T0 : Int)) (.int .i64 (T1 : Int)) (.int .i64 (vhd + 8)) (.int .i64 0)) Try.underlying53 (by kernel_rfl)) rfl ⟨rfl, ?_⟩
  exact below_set10 bw (by omega) _ _ _ _ _ _ _ _ _ _
end Go.Proofs.Ytpmbdjdhgcjkfaa
