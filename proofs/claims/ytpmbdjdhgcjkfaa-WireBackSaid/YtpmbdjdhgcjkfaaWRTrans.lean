/- Transport: the document's; by-name template (gen_wrtrans.py). -/
import Derived.Test.YtpmbdjdhgcjkfaaWRUdp
import Derived.Test.YtpmbdjdhgcjkfaaWRIcmp
namespace Go.Proofs.Ytpmbdjdhgcjkfaa
open Go.RowKit Go.Sort
set_option linter.unusedVariables false
set_option linter.unusedSimpArgs false

set_option maxHeartbeats 2000000 in
set_option maxRecDepth 100000 in
theorem rt_a (A : Option Addr) (n c : Nat) (hn : n ≤ 9223372036854775807) (vv : Bool) (vhd vtt vttl vp vsH vsL vdH vdL : Int) (vfr : Bool) (vid voff : Int) (vmo : Bool) {w : World} (h : vhd < 0) :
    Calls Try.prog 18 #[.slice A n c, .agg #[.bool vv, .int .i64 vhd, .int .i64 vtt, .int .i64 vttl, .int .i64 vp, .int .u64 vsH, .int .u64 vsL, .int .u64 vdH, .int .u64 vdL, .bool vfr, .int .u32 vid, .int .i64 voff, .bool vmo]] w fun e w' => e = .returned (.tuple #[.agg (tcells ztw), .int .i64 42]) ∧ Below w.heap.size w w' := by
  have d : decide (vhd < 0) = true := by simpa using h
  simp only [tcells, ztw]
  go_enter Try.func18, Try.ntmps18
  go_wp2_with (with_reducible refine stop_op (o := ⟨some 11, _, _, _, _, _⟩) ?_)
  obtain ⟨w3, hw3⟩ : ∃ x, x = (w.alloc (.cells #[.bool vv, .int .i64 vhd, .int .i64 vtt, .int .i64 vttl, .int .i64 vp, .int .u64 vsH, .int .u64 vsL, .int .u64 vdH, .int .u64 vdL, .bool vfr, .int .u32 vid, .int .i64 voff, .bool vmo] 43)).alloc (.cells #[.int .i64 0, .int .i64 0, .int .u32 0, .int .u32 0, .int .i64 0, .int .i64 0, .int .i64 0, .int .i64 0, .int .i64 0, .int .i64 0] 53) := ⟨_, rfl⟩
  have hV : w3.heap[w.heap.size]? = some (.cells #[.bool vv, .int .i64 vhd, .int .i64 vtt, .int .i64 vttl, .int .i64 vp, .int .u64 vsH, .int .u64 vsL, .int .u64 vdH, .int .u64 vdL, .bool vfr, .int .u32 vid, .int .i64 voff, .bool vmo] 43 (0, 0)) := by rw [hw3]; exact (al_oldw (by first | (simp; done) | (simp; omega)) _).trans (al_neww rfl _)
  have hR : w3.heap[w.heap.size + 1]? = some (.cells #[.int .i64 0, .int .i64 0, .int .u32 0, .int .u32 0, .int .i64 0, .int .i64 0, .int .i64 0, .int .i64 0, .int .i64 0, .int .i64 0] 53 (0, 0)) := by rw [hw3]; exact al_neww (by simp) _
  have bw : Below w.heap.size w w3 := by rw [hw3]; exact Below.al (Below.al (Below.refl _ _) _) _
  rw [← hw3]
  clear hw3
  obtain ⟨⟨v0, v1, v2, v3, v4, v5, v6, v7, v8, v9, v10, v11, v12⟩, _⟩ := cells13 hV
  obtain ⟨⟨r0, r1, r2, r3, r4, r5, r6, r7, r8, r9⟩, q0, q1, q2, q3, q4, q5, q6, q7, q8, q9⟩ := cells10 hR
  refine Lib.hid ?_
  go_wp2
  refine bodyPost_ret_by (res_row Try.results18 _ _ (w.heap.size + 1) 53 #[.int .i64 0, .int .i64 0, .int .u32 0, .int .u32 0, .int .i64 0, .int .i64 0, .int .i64 0, .int .i64 0, .int .i64 0, .int .i64 0] _ rfl (heap_set10w hR (.int .i64 0) (.int .i64 0) (.int .u32 0) (.int .u32 0) (.int .i64 0) (.int .i64 0) (.int .i64 0) (.int .i64 0) (.int .i64 0) (.int .i64 0)) Try.underlying53 (by kernel_rfl)) rfl ⟨rfl, ?_⟩
  exact below_set10 bw (by omega) _ _ _ _ _ _ _ _ _ _

set_option maxHeartbeats 2000000 in
set_option maxRecDepth 100000 in
theorem rt_b (A : Option Addr) (n c : Nat) (hn : n ≤ 9223372036854775807) (vv : Bool) (vhd vtt vttl vp vsH vsL vdH vdL : Int) (vfr : Bool) (vid voff : Int) (vmo : Bool) {w : World} (h0 : 0 ≤ vhd) (h : vtt < vhd) :
    Calls Try.prog 18 #[.slice A n c, .agg #[.bool vv, .int .i64 vhd, .int .i64 vtt, .int .i64 vttl, .int .i64 vp, .int .u64 vsH, .int .u64 vsL, .int .u64 vdH, .int .u64 vdL, .bool vfr, .int .u32 vid, .int .i64 voff, .bool vmo]] w fun e w' => e = .returned (.tuple #[.agg (tcells ztw), .int .i64 42]) ∧ Below w.heap.size w w' := by
  have d : decide (vhd < 0) = false := by simp; omega
  have d9 : ¬ vhd < 0 := by omega
  have e : decide (vtt < vhd) = true := by simpa using h
  simp only [tcells, ztw]
  go_enter Try.func18, Try.ntmps18
  go_wp2_with (with_reducible refine stop_op (o := ⟨some 11, _, _, _, _, _⟩) ?_)
  obtain ⟨w3, hw3⟩ : ∃ x, x = (w.alloc (.cells #[.bool vv, .int .i64 vhd, .int .i64 vtt, .int .i64 vttl, .int .i64 vp, .int .u64 vsH, .int .u64 vsL, .int .u64 vdH, .int .u64 vdL, .bool vfr, .int .u32 vid, .int .i64 voff, .bool vmo] 43)).alloc (.cells #[.int .i64 0, .int .i64 0, .int .u32 0, .int .u32 0, .int .i64 0, .int .i64 0, .int .i64 0, .int .i64 0, .int .i64 0, .int .i64 0] 53) := ⟨_, rfl⟩
  have hV : w3.heap[w.heap.size]? = some (.cells #[.bool vv, .int .i64 vhd, .int .i64 vtt, .int .i64 vttl, .int .i64 vp, .int .u64 vsH, .int .u64 vsL, .int .u64 vdH, .int .u64 vdL, .bool vfr, .int .u32 vid, .int .i64 voff, .bool vmo] 43 (0, 0)) := by rw [hw3]; exact (al_oldw (by first | (simp; done) | (simp; omega)) _).trans (al_neww rfl _)
  have hR : w3.heap[w.heap.size + 1]? = some (.cells #[.int .i64 0, .int .i64 0, .int .u32 0, .int .u32 0, .int .i64 0, .int .i64 0, .int .i64 0, .int .i64 0, .int .i64 0, .int .i64 0] 53 (0, 0)) := by rw [hw3]; exact al_neww (by simp) _
  have bw : Below w.heap.size w w3 := by rw [hw3]; exact Below.al (Below.al (Below.refl _ _) _) _
  rw [← hw3]
  clear hw3
  obtain ⟨⟨v0, v1, v2, v3, v4, v5, v6, v7, v8, v9, v10, v11, v12⟩, _⟩ := cells13 hV
  obtain ⟨⟨r0, r1, r2, r3, r4, r5, r6, r7, r8, r9⟩, q0, q1, q2, q3, q4, q5, q6, q7, q8, q9⟩ := cells10 hR
  refine Lib.hid ?_
  go_wp2
  refine bodyPost_ret_by (res_row Try.results18 _ _ (w.heap.size + 1) 53 #[.int .i64 0, .int .i64 0, .int .u32 0, .int .u32 0, .int .i64 0, .int .i64 0, .int .i64 0, .int .i64 0, .int .i64 0, .int .i64 0] _ rfl (heap_set10w hR (.int .i64 0) (.int .i64 0) (.int .u32 0) (.int .u32 0) (.int .i64 0) (.int .i64 0) (.int .i64 0) (.int .i64 0) (.int .i64 0) (.int .i64 0)) Try.underlying53 (by kernel_rfl)) rfl ⟨rfl, ?_⟩
  exact below_set10 bw (by omega) _ _ _ _ _ _ _ _ _ _

set_option maxHeartbeats 2000000 in
set_option maxRecDepth 100000 in
theorem rt_c (A : Option Addr) (n c : Nat) (hn : n ≤ 9223372036854775807) (vv : Bool) (vhd vtt vttl vp vsH vsL vdH vdL : Int) (vfr : Bool) (vid voff : Int) (vmo : Bool) {w : World} (h0 : 0 ≤ vhd) (h1 : vhd ≤ vtt) (h : (n : Int) < vtt) :
    Calls Try.prog 18 #[.slice A n c, .agg #[.bool vv, .int .i64 vhd, .int .i64 vtt, .int .i64 vttl, .int .i64 vp, .int .u64 vsH, .int .u64 vsL, .int .u64 vdH, .int .u64 vdL, .bool vfr, .int .u32 vid, .int .i64 voff, .bool vmo]] w fun e w' => e = .returned (.tuple #[.agg (tcells ztw), .int .i64 42]) ∧ Below w.heap.size w w' := by
  have d : decide (vhd < 0) = false := by simp; omega
  have d9 : ¬ vhd < 0 := by omega
  have e : decide (vtt < vhd) = false := by simp; omega
  have e9 : ¬ vtt < vhd := by omega
  have f : decide ((n : Int) < vtt) = true := by simpa using h
  simp only [tcells, ztw]
  go_enter Try.func18, Try.ntmps18
  go_wp2_with (with_reducible refine stop_op (o := ⟨some 11, _, _, _, _, _⟩) ?_)
  obtain ⟨w3, hw3⟩ : ∃ x, x = (w.alloc (.cells #[.bool vv, .int .i64 vhd, .int .i64 vtt, .int .i64 vttl, .int .i64 vp, .int .u64 vsH, .int .u64 vsL, .int .u64 vdH, .int .u64 vdL, .bool vfr, .int .u32 vid, .int .i64 voff, .bool vmo] 43)).alloc (.cells #[.int .i64 0, .int .i64 0, .int .u32 0, .int .u32 0, .int .i64 0, .int .i64 0, .int .i64 0, .int .i64 0, .int .i64 0, .int .i64 0] 53) := ⟨_, rfl⟩
  have hV : w3.heap[w.heap.size]? = some (.cells #[.bool vv, .int .i64 vhd, .int .i64 vtt, .int .i64 vttl, .int .i64 vp, .int .u64 vsH, .int .u64 vsL, .int .u64 vdH, .int .u64 vdL, .bool vfr, .int .u32 vid, .int .i64 voff, .bool vmo] 43 (0, 0)) := by rw [hw3]; exact (al_oldw (by first | (simp; done) | (simp; omega)) _).trans (al_neww rfl _)
  have hR : w3.heap[w.heap.size + 1]? = some (.cells #[.int .i64 0, .int .i64 0, .int .u32 0, .int .u32 0, .int .i64 0, .int .i64 0, .int .i64 0, .int .i64 0, .int .i64 0, .int .i64 0] 53 (0, 0)) := by rw [hw3]; exact al_neww (by simp) _
  have bw : Below w.heap.size w w3 := by rw [hw3]; exact Below.al (Below.al (Below.refl _ _) _) _
  rw [← hw3]
  clear hw3
  obtain ⟨⟨v0, v1, v2, v3, v4, v5, v6, v7, v8, v9, v10, v11, v12⟩, _⟩ := cells13 hV
  obtain ⟨⟨r0, r1, r2, r3, r4, r5, r6, r7, r8, r9⟩, q0, q1, q2, q3, q4, q5, q6, q7, q8, q9⟩ := cells10 hR
  refine Lib.hid ?_
  go_wp2
  refine bodyPost_ret_by (res_row Try.results18 _ _ (w.heap.size + 1) 53 #[.int .i64 0, .int .i64 0, .int .u32 0, .int .u32 0, .int .i64 0, .int .i64 0, .int .i64 0, .int .i64 0, .int .i64 0, .int .i64 0] _ rfl (heap_set10w hR (.int .i64 0) (.int .i64 0) (.int .u32 0) (.int .u32 0) (.int .i64 0) (.int .i64 0) (.int .i64 0) (.int .i64 0) (.int .i64 0) (.int .i64 0)) Try.underlying53 (by kernel_rfl)) rfl ⟨rfl, ?_⟩
  exact below_set10 bw (by omega) _ _ _ _ _ _ _ _ _ _

set_option maxHeartbeats 2000000 in
set_option maxRecDepth 100000 in
theorem rt_d (A : Option Addr) (n c : Nat) (hn : n ≤ 9223372036854775807) (vv : Bool) (vhd vtt vttl vp vsH vsL vdH vdL : Int) (vid voff : Int) (vmo : Bool) {w : World} (h0 : 0 ≤ vhd) (h1 : vhd ≤ vtt) (h2 : vtt ≤ (n : Int)) :
    Calls Try.prog 18 #[.slice A n c, .agg #[.bool vv, .int .i64 vhd, .int .i64 vtt, .int .i64 vttl, .int .i64 vp, .int .u64 vsH, .int .u64 vsL, .int .u64 vdH, .int .u64 vdL, .bool true, .int .u32 vid, .int .i64 voff, .bool vmo]] w fun e w' => e = .returned (.tuple #[.agg (tcells ztw), .int .i64 42]) ∧ Below w.heap.size w w' := by
  have d : decide (vhd < 0) = false := by simp; omega
  have d9 : ¬ vhd < 0 := by omega
  have e : decide (vtt < vhd) = false := by simp; omega
  have e9 : ¬ vtt < vhd := by omega
  have f : decide ((n : Int) < vtt) = false := by simp; omega
  have f9 : ¬ (n : Int) < vtt := by omega
  simp only [tcells, ztw]
  go_enter Try.func18, Try.ntmps18
  go_wp2_with (with_reducible refine stop_op (o := ⟨some 11, _, _, _, _, _⟩) ?_)
  obtain ⟨w3, hw3⟩ : ∃ x, x = (w.alloc (.cells #[.bool vv, .int .i64 vhd, .int .i64 vtt, .int .i64 vttl, .int .i64 vp, .int .u64 vsH, .int .u64 vsL, .int .u64 vdH, .int .u64 vdL, .bool true, .int .u32 vid, .int .i64 voff, .bool vmo] 43)).alloc (.cells #[.int .i64 0, .int .i64 0, .int .u32 0, .int .u32 0, .int .i64 0, .int .i64 0, .int .i64 0, .int .i64 0, .int .i64 0, .int .i64 0] 53) := ⟨_, rfl⟩
  have hV : w3.heap[w.heap.size]? = some (.cells #[.bool vv, .int .i64 vhd, .int .i64 vtt, .int .i64 vttl, .int .i64 vp, .int .u64 vsH, .int .u64 vsL, .int .u64 vdH, .int .u64 vdL, .bool true, .int .u32 vid, .int .i64 voff, .bool vmo] 43 (0, 0)) := by rw [hw3]; exact (al_oldw (by first | (simp; done) | (simp; omega)) _).trans (al_neww rfl _)
  have hR : w3.heap[w.heap.size + 1]? = some (.cells #[.int .i64 0, .int .i64 0, .int .u32 0, .int .u32 0, .int .i64 0, .int .i64 0, .int .i64 0, .int .i64 0, .int .i64 0, .int .i64 0] 53 (0, 0)) := by rw [hw3]; exact al_neww (by simp) _
  have bw : Below w.heap.size w w3 := by rw [hw3]; exact Below.al (Below.al (Below.refl _ _) _) _
  rw [← hw3]
  clear hw3
  obtain ⟨⟨v0, v1, v2, v3, v4, v5, v6, v7, v8, v9, v10, v11, v12⟩, _⟩ := cells13 hV
  obtain ⟨⟨r0, r1, r2, r3, r4, r5, r6, r7, r8, r9⟩, q0, q1, q2, q3, q4, q5, q6, q7, q8, q9⟩ := cells10 hR
  refine Lib.hid ?_
  go_wp2
  refine bodyPost_ret_by (res_row Try.results18 _ _ (w.heap.size + 1) 53 #[.int .i64 0, .int .i64 0, .int .u32 0, .int .u32 0, .int .i64 0, .int .i64 0, .int .i64 0, .int .i64 0, .int .i64 0, .int .i64 0] _ rfl (heap_set10w hR (.int .i64 0) (.int .i64 0) (.int .u32 0) (.int .u32 0) (.int .i64 0) (.int .i64 0) (.int .i64 0) (.int .i64 0) (.int .i64 0) (.int .i64 0)) Try.underlying53 (by kernel_rfl)) rfl ⟨rfl, ?_⟩
  exact below_set10 bw (by omega) _ _ _ _ _ _ _ _ _ _

set_option maxHeartbeats 2000000 in
set_option maxRecDepth 100000 in
theorem rt_6x (A : Option Addr) (n c hd tt : Nat) (l : List UInt8) (vv : Bool) (vttl vsH vsL vdH vdL : Int) (vid voff : Int) (vmo : Bool) {w : World} (hb : BytArg w A n c l) (h1 : hd ≤ tt) (h2 : tt ≤ n) (hm : n ≤ 65536) (tf : TW) (er : Int) (A' : Option Addr) (sl : ∀ W, (Instr.slice 22 (.slice A n c) (some (.int .i64 (hd : Nat))) (some (.int .i64 (tt : Nat))) none).run Try.prog W = .ok (.slice A' (tt - hd) (c - hd)) W) (ct : ∀ W : World, Below w.heap.size w W → Calls Try.prog 56 #[.slice A' (tt - hd) (c - hd), .agg #[.bool vv, .int .i64 (hd : Nat), .int .i64 (tt : Nat), .int .i64 vttl, .int .i64 6, .int .u64 vsH, .int .u64 vsL, .int .u64 vdH, .int .u64 vdL, .bool false, .int .u32 vid, .int .i64 voff, .bool vmo]] W fun e w' => e = .returned (.tuple #[.agg (tcells tf), .int .i64 er]) ∧ Below W.heap.size W w') (he : er ≠ 0) :
    Calls Try.prog 18 #[.slice A n c, .agg #[.bool vv, .int .i64 (hd : Nat), .int .i64 (tt : Nat), .int .i64 vttl, .int .i64 6, .int .u64 vsH, .int .u64 vsL, .int .u64 vdH, .int .u64 vdL, .bool false, .int .u32 vid, .int .i64 voff, .bool vmo]] w fun e w' => e = .returned (.tuple #[.agg (tcells ztw), .int .i64 er]) ∧ Below w.heap.size w w' := by
  obtain ⟨hn, hc, hcm, _⟩ := id hb
  unfold maxLen at hcm
  have d : decide ((hd : Int) < 0) = false := by simp
  have d9 : ¬ (hd : Int) < 0 := by omega
  have e : decide ((tt : Int) < (hd : Int)) = false := by simp; omega
  have e8 : decide (tt < hd) = false := by simp; omega
  have e9 : ¬ (tt : Int) < (hd : Int) := by omega
  have f : decide ((n : Int) < (tt : Int)) = false := by simp; omega
  have f8 : decide (n < tt) = false := by simp; omega
  have f9 : ¬ (n : Int) < (tt : Int) := by omega
  have x1 : (hd : Int) ≤ 65536 := by omega
  have x2 : (tt : Int) ≤ 65536 := by omega
  have e0 : (er != 0) = true := by simpa using he
  simp only [tcells, ztw] at *
  clear hb hn
  go_enter Try.func18, Try.ntmps18
  go_wp2_with (with_reducible refine stop_op (o := ⟨some 11, _, _, _, _, _⟩) ?_)
  obtain ⟨w3, hw3⟩ : ∃ x, x = (w.alloc (.cells #[.bool vv, .int .i64 (hd : Nat), .int .i64 (tt : Nat), .int .i64 vttl, .int .i64 6, .int .u64 vsH, .int .u64 vsL, .int .u64 vdH, .int .u64 vdL, .bool false, .int .u32 vid, .int .i64 voff, .bool vmo] 43)).alloc (.cells #[.int .i64 0, .int .i64 0, .int .u32 0, .int .u32 0, .int .i64 0, .int .i64 0, .int .i64 0, .int .i64 0, .int .i64 0, .int .i64 0] 53) := ⟨_, rfl⟩
  have hV : w3.heap[w.heap.size]? = some (.cells #[.bool vv, .int .i64 (hd : Nat), .int .i64 (tt : Nat), .int .i64 vttl, .int .i64 6, .int .u64 vsH, .int .u64 vsL, .int .u64 vdH, .int .u64 vdL, .bool false, .int .u32 vid, .int .i64 voff, .bool vmo] 43 (0, 0)) := by rw [hw3]; exact (al_oldw (by first | (simp; done) | (simp; omega)) _).trans (al_neww rfl _)
  have hR : w3.heap[w.heap.size + 1]? = some (.cells #[.int .i64 0, .int .i64 0, .int .u32 0, .int .u32 0, .int .i64 0, .int .i64 0, .int .i64 0, .int .i64 0, .int .i64 0, .int .i64 0] 53 (0, 0)) := by rw [hw3]; exact al_neww (by simp) _
  have bw : Below w.heap.size w w3 := by rw [hw3]; exact Below.al (Below.al (Below.refl _ _) _) _
  rw [← hw3]
  clear hw3
  obtain ⟨⟨v0, v1, v2, v3, v4, v5, v6, v7, v8, v9, v10, v11, v12⟩, _⟩ := cells13 hV
  obtain ⟨⟨r0, r1, r2, r3, r4, r5, r6, r7, r8, r9⟩, q0, q1, q2, q3, q4, q5, q6, q7, q8, q9⟩ := cells10 hR
  refine Lib.hid ?_
  go_wp2_with (with_reducible refine stop_op (o := ⟨some 41, _, _, _, _, _⟩) ?_)
  obtain ⟨w4, hwn⟩ : ∃ x, x = w3.alloc (.cells #[.int .i64 0, .int .i64 0, .int .u32 0, .int .u32 0, .int .i64 0, .int .i64 0, .int .i64 0, .int .i64 0, .int .i64 (hd : Nat), .int .i64 0] 53) := ⟨_, rfl⟩
  have hT : w4.heap[w3.heap.size]? = some (.cells #[.int .i64 0, .int .i64 0, .int .u32 0, .int .u32 0, .int .i64 0, .int .i64 0, .int .i64 0, .int .i64 0, .int .i64 (hd : Nat), .int .i64 0] 53 (0, 0)) := by rw [hwn]; exact al_neww rfl _
  have hz3 : w.heap.size + 1 < w3.heap.size := (Array.getElem?_eq_some_iff.1 hR).1
  have hbx : Below w3.heap.size w3 w4 := by rw [hwn]; exact Below.al (Below.refl _ _) _
  rw [← hwn]
  clear hwn
  have hVn := blkKeep2 hbx hV
  have hRn := blkKeep2 hbx hR
  have bwn : Below w.heap.size w w4 := bw.trans (hbx.mono bw.size)
  clear hbx hV hR bw r0 r1 r2 r3 r4 r5 r6 r7 r8 r9 q0 q1 q2 q3 q4 q5 q6 q7 q8 q9 v0 v1 v2 v3 v4 v5 v6 v7 v8 v9 v10 v11 v12
  have hV := hVn
  have hR := hRn
  have bw := bwn
  clear hVn hRn bwn
  obtain ⟨⟨v0, v1, v2, v3, v4, v5, v6, v7, v8, v9, v10, v11, v12⟩, _⟩ := cells13 hV
  refine Lib.hid ?_
  go_wp2_with (first | (go_at_call 56; refine (ct _ bw).mono ?_; rintro e w5 ⟨rfl, hbx⟩; refine Hid.out ?_))
  have hTn := blkKeep2 hbx hT
  have hVn := blkKeep2 hbx hV
  have hRn := blkKeep2 hbx hR
  have bwn : Below w.heap.size w w5 := bw.trans (hbx.mono bw.size)
  clear hbx hV hR bw  v0 v1 v2 v3 v4 v5 v6 v7 v8 v9 v10 v11 v12
  have hV := hVn
  have hR := hRn
  have bw := bwn
  clear hVn hRn bwn
  clear hT
  have hT := hTn
  clear hTn ct
  obtain ⟨⟨v0, v1, v2, v3, v4, v5, v6, v7, v8, v9, v10, v11, v12⟩, _⟩ := cells13 hV
  obtain ⟨⟨t0, t1, t2, t3, t4, t5, t6, t7, t8, t9⟩, p0, p1, p2, p3, p4, p5, p6, p7, p8, p9⟩ := cells10 hT
  refine Lib.hid ?_
  go_wp2_with (with_reducible refine stop_op (o := ⟨some 68, _, _, _, _, _⟩) ?_)
  obtain ⟨w6, hwn⟩ : ∃ x, x = ((((((((((w5.setCell ⟨w3.heap.size, 0, none⟩ (.int .i64 tf.sport)).setCell ⟨w3.heap.size, 1, none⟩ (.int .i64 tf.dport)).setCell ⟨w3.heap.size, 2, none⟩ (.int .u32 tf.seq)).setCell ⟨w3.heap.size, 3, none⟩ (.int .u32 tf.ack)).setCell ⟨w3.heap.size, 4, none⟩ (.int .i64 tf.flags)).setCell ⟨w3.heap.size, 5, none⟩ (.int .i64 tf.win)).setCell ⟨w3.heap.size, 6, none⟩ (.int .i64 tf.type)).setCell ⟨w3.heap.size, 7, none⟩ (.int .i64 tf.code)).setCell ⟨w3.heap.size, 8, none⟩ (.int .i64 tf.head)).setCell ⟨w3.heap.size, 9, none⟩ (.int .i64 tf.data)) := ⟨_, rfl⟩
  have hTn : w6.heap[w3.heap.size]? = some (.cells #[.int .i64 tf.sport, .int .i64 tf.dport, .int .u32 tf.seq, .int .u32 tf.ack, .int .i64 tf.flags, .int .i64 tf.win, .int .i64 tf.type, .int .i64 tf.code, .int .i64 tf.head, .int .i64 tf.data] 53 (0, 0)) := by rw [hwn]; exact heap_set10w hT _ _ _ _ _ _ _ _ _ _
  have hRn : w6.heap[w.heap.size + 1]? = some (.cells #[.int .i64 0, .int .i64 0, .int .u32 0, .int .u32 0, .int .i64 0, .int .i64 0, .int .i64 0, .int .i64 0, .int .i64 0, .int .i64 0] 53 (0, 0)) := by rw [hwn, set_other (by omega), set_other (by omega), set_other (by omega), set_other (by omega), set_other (by omega), set_other (by omega), set_other (by omega), set_other (by omega), set_other (by omega), set_other (by omega)]; exact hR
  have hVn : w6.heap[w.heap.size]? = some (.cells #[.bool vv, .int .i64 (hd : Nat), .int .i64 (tt : Nat), .int .i64 vttl, .int .i64 6, .int .u64 vsH, .int .u64 vsL, .int .u64 vdH, .int .u64 vdL, .bool false, .int .u32 vid, .int .i64 voff, .bool vmo] 43 (0, 0)) := by rw [hwn, set_other (by omega), set_other (by omega), set_other (by omega), set_other (by omega), set_other (by omega), set_other (by omega), set_other (by omega), set_other (by omega), set_other (by omega), set_other (by omega)]; exact hV
  have bwn : Below w.heap.size w w6 := by rw [hwn]; exact below_set10 bw (by omega) _ _ _ _ _ _ _ _ _ _
  rw [← hwn]
  clear hwn hV hR hT bw v0 v1 v2 v3 v4 v5 v6 v7 v8 v9 v10 v11 v12 t0 t1 t2 t3 t4 t5 t6 t7 t8 t9 p0 p1 p2 p3 p4 p5 p6 p7 p8 p9
  have hR := hRn
  have hV := hVn
  have hT := hTn
  have bw := bwn
  clear hRn hTn hVn bwn
  obtain ⟨⟨v0, v1, v2, v3, v4, v5, v6, v7, v8, v9, v10, v11, v12⟩, _⟩ := cells13 hV
  obtain ⟨⟨t0, t1, t2, t3, t4, t5, t6, t7, t8, t9⟩, p0, p1, p2, p3, p4, p5, p6, p7, p8, p9⟩ := cells10 hT
  obtain ⟨⟨r0, r1, r2, r3, r4, r5, r6, r7, r8, r9⟩, q0, q1, q2, q3, q4, q5, q6, q7, q8, q9⟩ := cells10 hR
  refine Lib.hid ?_
  go_wp2
  refine bodyPost_ret_by (res_row Try.results18 _ _ (w.heap.size + 1) 53 #[.int .i64 0, .int .i64 0, .int .u32 0, .int .u32 0, .int .i64 0, .int .i64 0, .int .i64 0, .int .i64 0, .int .i64 0, .int .i64 0] _ rfl (heap_set10w hR (.int .i64 0) (.int .i64 0) (.int .u32 0) (.int .u32 0) (.int .i64 0) (.int .i64 0) (.int .i64 0) (.int .i64 0) (.int .i64 0) (.int .i64 0)) Try.underlying53 (by kernel_rfl)) rfl ⟨rfl, ?_⟩
  exact below_set10 bw (by omega) _ _ _ _ _ _ _ _ _ _

set_option maxHeartbeats 2000000 in
set_option maxRecDepth 100000 in
theorem rt_6 (A : Option Addr) (n c hd tt : Nat) (l : List UInt8) (vv : Bool) (vttl vsH vsL vdH vdL : Int) (vid voff : Int) (vmo : Bool) {w : World} (hb : BytArg w A n c l) (h1 : hd ≤ tt) (h2 : tt ≤ n) (hm : n ≤ 65536) (tf : TW) (er : Int) (A' : Option Addr) (sl : ∀ W, (Instr.slice 22 (.slice A n c) (some (.int .i64 (hd : Nat))) (some (.int .i64 (tt : Nat))) none).run Try.prog W = .ok (.slice A' (tt - hd) (c - hd)) W) (ct : ∀ W : World, Below w.heap.size w W → Calls Try.prog 56 #[.slice A' (tt - hd) (c - hd), .agg #[.bool vv, .int .i64 (hd : Nat), .int .i64 (tt : Nat), .int .i64 vttl, .int .i64 6, .int .u64 vsH, .int .u64 vsL, .int .u64 vdH, .int .u64 vdL, .bool false, .int .u32 vid, .int .i64 voff, .bool vmo]] W fun e w' => e = .returned (.tuple #[.agg (tcells tf), .int .i64 er]) ∧ Below W.heap.size W w') (he : er = 0) (hz0 : 0 ≤ tf.head) (hz1 : tf.head < 200000) :
    Calls Try.prog 18 #[.slice A n c, .agg #[.bool vv, .int .i64 (hd : Nat), .int .i64 (tt : Nat), .int .i64 vttl, .int .i64 6, .int .u64 vsH, .int .u64 vsL, .int .u64 vdH, .int .u64 vdL, .bool false, .int .u32 vid, .int .i64 voff, .bool vmo]] w fun e w' => e = .returned (.tuple #[.agg (tcells { tf with data := (tt : Int) - tf.head }), .int .i64 0]) ∧ Below w.heap.size w w' := by
  obtain ⟨hn, hc, hcm, _⟩ := id hb
  unfold maxLen at hcm
  have d : decide ((hd : Int) < 0) = false := by simp
  have d9 : ¬ (hd : Int) < 0 := by omega
  have e : decide ((tt : Int) < (hd : Int)) = false := by simp; omega
  have e8 : decide (tt < hd) = false := by simp; omega
  have e9 : ¬ (tt : Int) < (hd : Int) := by omega
  have f : decide ((n : Int) < (tt : Int)) = false := by simp; omega
  have f8 : decide (n < tt) = false := by simp; omega
  have f9 : ¬ (n : Int) < (tt : Int) := by omega
  have x1 : (hd : Int) ≤ 65536 := by omega
  have x2 : (tt : Int) ≤ 65536 := by omega
  subst he
  have x3 : IntKind.i64.wrap ((tt : Int) - tf.head) = (tt : Int) - tf.head := by rw [IntKind.wrap_i64]; omega
  simp only [tcells] at *
  clear hb hn
  go_enter Try.func18, Try.ntmps18
  go_wp2_with (with_reducible refine stop_op (o := ⟨some 11, _, _, _, _, _⟩) ?_)
  obtain ⟨w3, hw3⟩ : ∃ x, x = (w.alloc (.cells #[.bool vv, .int .i64 (hd : Nat), .int .i64 (tt : Nat), .int .i64 vttl, .int .i64 6, .int .u64 vsH, .int .u64 vsL, .int .u64 vdH, .int .u64 vdL, .bool false, .int .u32 vid, .int .i64 voff, .bool vmo] 43)).alloc (.cells #[.int .i64 0, .int .i64 0, .int .u32 0, .int .u32 0, .int .i64 0, .int .i64 0, .int .i64 0, .int .i64 0, .int .i64 0, .int .i64 0] 53) := ⟨_, rfl⟩
  have hV : w3.heap[w.heap.size]? = some (.cells #[.bool vv, .int .i64 (hd : Nat), .int .i64 (tt : Nat), .int .i64 vttl, .int .i64 6, .int .u64 vsH, .int .u64 vsL, .int .u64 vdH, .int .u64 vdL, .bool false, .int .u32 vid, .int .i64 voff, .bool vmo] 43 (0, 0)) := by rw [hw3]; exact (al_oldw (by first | (simp; done) | (simp; omega)) _).trans (al_neww rfl _)
  have hR : w3.heap[w.heap.size + 1]? = some (.cells #[.int .i64 0, .int .i64 0, .int .u32 0, .int .u32 0, .int .i64 0, .int .i64 0, .int .i64 0, .int .i64 0, .int .i64 0, .int .i64 0] 53 (0, 0)) := by rw [hw3]; exact al_neww (by simp) _
  have bw : Below w.heap.size w w3 := by rw [hw3]; exact Below.al (Below.al (Below.refl _ _) _) _
  rw [← hw3]
  clear hw3
  obtain ⟨⟨v0, v1, v2, v3, v4, v5, v6, v7, v8, v9, v10, v11, v12⟩, _⟩ := cells13 hV
  obtain ⟨⟨r0, r1, r2, r3, r4, r5, r6, r7, r8, r9⟩, q0, q1, q2, q3, q4, q5, q6, q7, q8, q9⟩ := cells10 hR
  refine Lib.hid ?_
  go_wp2_with (with_reducible refine stop_op (o := ⟨some 41, _, _, _, _, _⟩) ?_)
  obtain ⟨w4, hwn⟩ : ∃ x, x = w3.alloc (.cells #[.int .i64 0, .int .i64 0, .int .u32 0, .int .u32 0, .int .i64 0, .int .i64 0, .int .i64 0, .int .i64 0, .int .i64 (hd : Nat), .int .i64 0] 53) := ⟨_, rfl⟩
  have hT : w4.heap[w3.heap.size]? = some (.cells #[.int .i64 0, .int .i64 0, .int .u32 0, .int .u32 0, .int .i64 0, .int .i64 0, .int .i64 0, .int .i64 0, .int .i64 (hd : Nat), .int .i64 0] 53 (0, 0)) := by rw [hwn]; exact al_neww rfl _
  have hz3 : w.heap.size + 1 < w3.heap.size := (Array.getElem?_eq_some_iff.1 hR).1
  have hbx : Below w3.heap.size w3 w4 := by rw [hwn]; exact Below.al (Below.refl _ _) _
  rw [← hwn]
  clear hwn
  have hVn := blkKeep2 hbx hV
  have hRn := blkKeep2 hbx hR
  have bwn : Below w.heap.size w w4 := bw.trans (hbx.mono bw.size)
  clear hbx hV hR bw r0 r1 r2 r3 r4 r5 r6 r7 r8 r9 q0 q1 q2 q3 q4 q5 q6 q7 q8 q9 v0 v1 v2 v3 v4 v5 v6 v7 v8 v9 v10 v11 v12
  have hV := hVn
  have hR := hRn
  have bw := bwn
  clear hVn hRn bwn
  obtain ⟨⟨v0, v1, v2, v3, v4, v5, v6, v7, v8, v9, v10, v11, v12⟩, _⟩ := cells13 hV
  refine Lib.hid ?_
  go_wp2_with (first | (go_at_call 56; refine (ct _ bw).mono ?_; rintro e w5 ⟨rfl, hbx⟩; refine Hid.out ?_))
  have hTn := blkKeep2 hbx hT
  have hVn := blkKeep2 hbx hV
  have hRn := blkKeep2 hbx hR
  have bwn : Below w.heap.size w w5 := bw.trans (hbx.mono bw.size)
  clear hbx hV hR bw  v0 v1 v2 v3 v4 v5 v6 v7 v8 v9 v10 v11 v12
  have hV := hVn
  have hR := hRn
  have bw := bwn
  clear hVn hRn bwn
  clear hT
  have hT := hTn
  clear hTn ct
  obtain ⟨⟨v0, v1, v2, v3, v4, v5, v6, v7, v8, v9, v10, v11, v12⟩, _⟩ := cells13 hV
  obtain ⟨⟨t0, t1, t2, t3, t4, t5, t6, t7, t8, t9⟩, p0, p1, p2, p3, p4, p5, p6, p7, p8, p9⟩ := cells10 hT
  refine Lib.hid ?_
  go_wp2_with (with_reducible refine stop_op (o := ⟨some 68, _, _, _, _, _⟩) ?_)
  obtain ⟨w6, hwn⟩ : ∃ x, x = ((((((((((w5.setCell ⟨w3.heap.size, 0, none⟩ (.int .i64 tf.sport)).setCell ⟨w3.heap.size, 1, none⟩ (.int .i64 tf.dport)).setCell ⟨w3.heap.size, 2, none⟩ (.int .u32 tf.seq)).setCell ⟨w3.heap.size, 3, none⟩ (.int .u32 tf.ack)).setCell ⟨w3.heap.size, 4, none⟩ (.int .i64 tf.flags)).setCell ⟨w3.heap.size, 5, none⟩ (.int .i64 tf.win)).setCell ⟨w3.heap.size, 6, none⟩ (.int .i64 tf.type)).setCell ⟨w3.heap.size, 7, none⟩ (.int .i64 tf.code)).setCell ⟨w3.heap.size, 8, none⟩ (.int .i64 tf.head)).setCell ⟨w3.heap.size, 9, none⟩ (.int .i64 tf.data)) := ⟨_, rfl⟩
  have hTn : w6.heap[w3.heap.size]? = some (.cells #[.int .i64 tf.sport, .int .i64 tf.dport, .int .u32 tf.seq, .int .u32 tf.ack, .int .i64 tf.flags, .int .i64 tf.win, .int .i64 tf.type, .int .i64 tf.code, .int .i64 tf.head, .int .i64 tf.data] 53 (0, 0)) := by rw [hwn]; exact heap_set10w hT _ _ _ _ _ _ _ _ _ _
  have hRn : w6.heap[w.heap.size + 1]? = some (.cells #[.int .i64 0, .int .i64 0, .int .u32 0, .int .u32 0, .int .i64 0, .int .i64 0, .int .i64 0, .int .i64 0, .int .i64 0, .int .i64 0] 53 (0, 0)) := by rw [hwn, set_other (by omega), set_other (by omega), set_other (by omega), set_other (by omega), set_other (by omega), set_other (by omega), set_other (by omega), set_other (by omega), set_other (by omega), set_other (by omega)]; exact hR
  have hVn : w6.heap[w.heap.size]? = some (.cells #[.bool vv, .int .i64 (hd : Nat), .int .i64 (tt : Nat), .int .i64 vttl, .int .i64 6, .int .u64 vsH, .int .u64 vsL, .int .u64 vdH, .int .u64 vdL, .bool false, .int .u32 vid, .int .i64 voff, .bool vmo] 43 (0, 0)) := by rw [hwn, set_other (by omega), set_other (by omega), set_other (by omega), set_other (by omega), set_other (by omega), set_other (by omega), set_other (by omega), set_other (by omega), set_other (by omega), set_other (by omega)]; exact hV
  have bwn : Below w.heap.size w w6 := by rw [hwn]; exact below_set10 bw (by omega) _ _ _ _ _ _ _ _ _ _
  rw [← hwn]
  clear hwn hV hR hT bw v0 v1 v2 v3 v4 v5 v6 v7 v8 v9 v10 v11 v12 t0 t1 t2 t3 t4 t5 t6 t7 t8 t9 p0 p1 p2 p3 p4 p5 p6 p7 p8 p9
  have hR := hRn
  have hV := hVn
  have hT := hTn
  have bw := bwn
  clear hRn hTn hVn bwn
  obtain ⟨⟨v0, v1, v2, v3, v4, v5, v6, v7, v8, v9, v10, v11, v12⟩, _⟩ := cells13 hV
  obtain ⟨⟨t0, t1, t2, t3, t4, t5, t6, t7, t8, t9⟩, p0, p1, p2, p3, p4, p5, p6, p7, p8, p9⟩ := cells10 hT
  obtain ⟨⟨r0, r1, r2, r3, r4, r5, r6, r7, r8, r9⟩, q0, q1, q2, q3, q4, q5, q6, q7, q8, q9⟩ := cells10 hR
  refine Lib.hid ?_
  go_wp2_with (with_reducible refine stop_op (o := ⟨some 77, _, _, _, _, _⟩) ?_)
  obtain ⟨w7, hwn⟩ : ∃ x, x = w6.setCell ⟨w3.heap.size, 9, none⟩ (.int .i64 ((tt : Int) - tf.head)) := ⟨_, rfl⟩
  have hTn : w7.heap[w3.heap.size]? = some (.cells #[.int .i64 tf.sport, .int .i64 tf.dport, .int .u32 tf.seq, .int .u32 tf.ack, .int .i64 tf.flags, .int .i64 tf.win, .int .i64 tf.type, .int .i64 tf.code, .int .i64 tf.head, .int .i64 ((tt : Int) - tf.head)] 53 (0, 0)) := by rw [hwn, heap_setw hT 9 _]; kernel_rfl
  have hRn : w7.heap[w.heap.size + 1]? = some (.cells #[.int .i64 0, .int .i64 0, .int .u32 0, .int .u32 0, .int .i64 0, .int .i64 0, .int .i64 0, .int .i64 0, .int .i64 0, .int .i64 0] 53 (0, 0)) := by rw [hwn, set_other (by omega)]; exact hR
  have bwn : Below w.heap.size w w7 := by rw [hwn]; exact below_set bw (by omega) 9 _
  rw [← hwn]
  clear hwn hV hR hT bw v0 v1 v2 v3 v4 v5 v6 v7 v8 v9 v10 v11 v12 t0 t1 t2 t3 t4 t5 t6 t7 t8 t9 p0 p1 p2 p3 p4 p5 p6 p7 p8 p9 r0 r1 r2 r3 r4 r5 r6 r7 r8 r9 q0 q1 q2 q3 q4 q5 q6 q7 q8 q9
  have hR := hRn
  have hT := hTn
  have bw := bwn
  clear hRn hTn bwn
  obtain ⟨⟨t0, t1, t2, t3, t4, t5, t6, t7, t8, t9⟩, p0, p1, p2, p3, p4, p5, p6, p7, p8, p9⟩ := cells10 hT
  obtain ⟨⟨r0, r1, r2, r3, r4, r5, r6, r7, r8, r9⟩, q0, q1, q2, q3, q4, q5, q6, q7, q8, q9⟩ := cells10 hR
  refine Lib.hid ?_
  go_wp2
  refine bodyPost_ret_by (res_row Try.results18 _ _ (w.heap.size + 1) 53 #[.int .i64 tf.sport, .int .i64 tf.dport, .int .u32 tf.seq, .int .u32 tf.ack, .int .i64 tf.flags, .int .i64 tf.win, .int .i64 tf.type, .int .i64 tf.code, .int .i64 tf.head, .int .i64 ((tt : Int) - tf.head)] _ rfl (heap_set10w hR (.int .i64 tf.sport) (.int .i64 tf.dport) (.int .u32 tf.seq) (.int .u32 tf.ack) (.int .i64 tf.flags) (.int .i64 tf.win) (.int .i64 tf.type) (.int .i64 tf.code) (.int .i64 tf.head) (.int .i64 ((tt : Int) - tf.head))) Try.underlying53 (by kernel_rfl)) rfl ⟨rfl, ?_⟩
  exact below_set10 bw (by omega) _ _ _ _ _ _ _ _ _ _

set_option maxHeartbeats 2000000 in
set_option maxRecDepth 100000 in
theorem rt_17x (A : Option Addr) (n c hd tt : Nat) (l : List UInt8) (vv : Bool) (vttl vsH vsL vdH vdL : Int) (vid voff : Int) (vmo : Bool) {w : World} (hb : BytArg w A n c l) (h1 : hd ≤ tt) (h2 : tt ≤ n) (hm : n ≤ 65536) (tf : TW) (er : Int) (A' : Option Addr) (sl : ∀ W, (Instr.slice 22 (.slice A n c) (some (.int .i64 (hd : Nat))) (some (.int .i64 (tt : Nat))) none).run Try.prog W = .ok (.slice A' (tt - hd) (c - hd)) W) (ct : ∀ W : World, Below w.heap.size w W → Calls Try.prog 57 #[.slice A' (tt - hd) (c - hd), .agg #[.bool vv, .int .i64 (hd : Nat), .int .i64 (tt : Nat), .int .i64 vttl, .int .i64 17, .int .u64 vsH, .int .u64 vsL, .int .u64 vdH, .int .u64 vdL, .bool false, .int .u32 vid, .int .i64 voff, .bool vmo]] W fun e w' => e = .returned (.tuple #[.agg (tcells tf), .int .i64 er]) ∧ Below W.heap.size W w') (he : er ≠ 0) :
    Calls Try.prog 18 #[.slice A n c, .agg #[.bool vv, .int .i64 (hd : Nat), .int .i64 (tt : Nat), .int .i64 vttl, .int .i64 17, .int .u64 vsH, .int .u64 vsL, .int .u64 vdH, .int .u64 vdL, .bool false, .int .u32 vid, .int .i64 voff, .bool vmo]] w fun e w' => e = .returned (.tuple #[.agg (tcells ztw), .int .i64 er]) ∧ Below w.heap.size w w' := by
  obtain ⟨hn, hc, hcm, _⟩ := id hb
  unfold maxLen at hcm
  have d : decide ((hd : Int) < 0) = false := by simp
  have d9 : ¬ (hd : Int) < 0 := by omega
  have e : decide ((tt : Int) < (hd : Int)) = false := by simp; omega
  have e8 : decide (tt < hd) = false := by simp; omega
  have e9 : ¬ (tt : Int) < (hd : Int) := by omega
  have f : decide ((n : Int) < (tt : Int)) = false := by simp; omega
  have f8 : decide (n < tt) = false := by simp; omega
  have f9 : ¬ (n : Int) < (tt : Int) := by omega
  have x1 : (hd : Int) ≤ 65536 := by omega
  have x2 : (tt : Int) ≤ 65536 := by omega
  have e0 : (er != 0) = true := by simpa using he
  simp only [tcells, ztw] at *
  clear hb hn
  go_enter Try.func18, Try.ntmps18
  go_wp2_with (with_reducible refine stop_op (o := ⟨some 11, _, _, _, _, _⟩) ?_)
  obtain ⟨w3, hw3⟩ : ∃ x, x = (w.alloc (.cells #[.bool vv, .int .i64 (hd : Nat), .int .i64 (tt : Nat), .int .i64 vttl, .int .i64 17, .int .u64 vsH, .int .u64 vsL, .int .u64 vdH, .int .u64 vdL, .bool false, .int .u32 vid, .int .i64 voff, .bool vmo] 43)).alloc (.cells #[.int .i64 0, .int .i64 0, .int .u32 0, .int .u32 0, .int .i64 0, .int .i64 0, .int .i64 0, .int .i64 0, .int .i64 0, .int .i64 0] 53) := ⟨_, rfl⟩
  have hV : w3.heap[w.heap.size]? = some (.cells #[.bool vv, .int .i64 (hd : Nat), .int .i64 (tt : Nat), .int .i64 vttl, .int .i64 17, .int .u64 vsH, .int .u64 vsL, .int .u64 vdH, .int .u64 vdL, .bool false, .int .u32 vid, .int .i64 voff, .bool vmo] 43 (0, 0)) := by rw [hw3]; exact (al_oldw (by first | (simp; done) | (simp; omega)) _).trans (al_neww rfl _)
  have hR : w3.heap[w.heap.size + 1]? = some (.cells #[.int .i64 0, .int .i64 0, .int .u32 0, .int .u32 0, .int .i64 0, .int .i64 0, .int .i64 0, .int .i64 0, .int .i64 0, .int .i64 0] 53 (0, 0)) := by rw [hw3]; exact al_neww (by simp) _
  have bw : Below w.heap.size w w3 := by rw [hw3]; exact Below.al (Below.al (Below.refl _ _) _) _
  rw [← hw3]
  clear hw3
  obtain ⟨⟨v0, v1, v2, v3, v4, v5, v6, v7, v8, v9, v10, v11, v12⟩, _⟩ := cells13 hV
  obtain ⟨⟨r0, r1, r2, r3, r4, r5, r6, r7, r8, r9⟩, q0, q1, q2, q3, q4, q5, q6, q7, q8, q9⟩ := cells10 hR
  refine Lib.hid ?_
  go_wp2_with (with_reducible refine stop_op (o := ⟨some 41, _, _, _, _, _⟩) ?_)
  obtain ⟨w4, hwn⟩ : ∃ x, x = w3.alloc (.cells #[.int .i64 0, .int .i64 0, .int .u32 0, .int .u32 0, .int .i64 0, .int .i64 0, .int .i64 0, .int .i64 0, .int .i64 (hd : Nat), .int .i64 0] 53) := ⟨_, rfl⟩
  have hT : w4.heap[w3.heap.size]? = some (.cells #[.int .i64 0, .int .i64 0, .int .u32 0, .int .u32 0, .int .i64 0, .int .i64 0, .int .i64 0, .int .i64 0, .int .i64 (hd : Nat), .int .i64 0] 53 (0, 0)) := by rw [hwn]; exact al_neww rfl _
  have hz3 : w.heap.size + 1 < w3.heap.size := (Array.getElem?_eq_some_iff.1 hR).1
  have hbx : Below w3.heap.size w3 w4 := by rw [hwn]; exact Below.al (Below.refl _ _) _
  rw [← hwn]
  clear hwn
  have hVn := blkKeep2 hbx hV
  have hRn := blkKeep2 hbx hR
  have bwn : Below w.heap.size w w4 := bw.trans (hbx.mono bw.size)
  clear hbx hV hR bw r0 r1 r2 r3 r4 r5 r6 r7 r8 r9 q0 q1 q2 q3 q4 q5 q6 q7 q8 q9 v0 v1 v2 v3 v4 v5 v6 v7 v8 v9 v10 v11 v12
  have hV := hVn
  have hR := hRn
  have bw := bwn
  clear hVn hRn bwn
  obtain ⟨⟨v0, v1, v2, v3, v4, v5, v6, v7, v8, v9, v10, v11, v12⟩, _⟩ := cells13 hV
  refine Lib.hid ?_
  go_wp2_with (first | (go_at_call 57; refine (ct _ bw).mono ?_; rintro e w5 ⟨rfl, hbx⟩; refine Hid.out ?_))
  have hTn := blkKeep2 hbx hT
  have hVn := blkKeep2 hbx hV
  have hRn := blkKeep2 hbx hR
  have bwn : Below w.heap.size w w5 := bw.trans (hbx.mono bw.size)
  clear hbx hV hR bw  v0 v1 v2 v3 v4 v5 v6 v7 v8 v9 v10 v11 v12
  have hV := hVn
  have hR := hRn
  have bw := bwn
  clear hVn hRn bwn
  clear hT
  have hT := hTn
  clear hTn ct
  obtain ⟨⟨v0, v1, v2, v3, v4, v5, v6, v7, v8, v9, v10, v11, v12⟩, _⟩ := cells13 hV
  obtain ⟨⟨t0, t1, t2, t3, t4, t5, t6, t7, t8, t9⟩, p0, p1, p2, p3, p4, p5, p6, p7, p8, p9⟩ := cells10 hT
  refine Lib.hid ?_
  go_wp2_with (with_reducible refine stop_op (o := ⟨some 68, _, _, _, _, _⟩) ?_)
  obtain ⟨w6, hwn⟩ : ∃ x, x = ((((((((((w5.setCell ⟨w3.heap.size, 0, none⟩ (.int .i64 tf.sport)).setCell ⟨w3.heap.size, 1, none⟩ (.int .i64 tf.dport)).setCell ⟨w3.heap.size, 2, none⟩ (.int .u32 tf.seq)).setCell ⟨w3.heap.size, 3, none⟩ (.int .u32 tf.ack)).setCell ⟨w3.heap.size, 4, none⟩ (.int .i64 tf.flags)).setCell ⟨w3.heap.size, 5, none⟩ (.int .i64 tf.win)).setCell ⟨w3.heap.size, 6, none⟩ (.int .i64 tf.type)).setCell ⟨w3.heap.size, 7, none⟩ (.int .i64 tf.code)).setCell ⟨w3.heap.size, 8, none⟩ (.int .i64 tf.head)).setCell ⟨w3.heap.size, 9, none⟩ (.int .i64 tf.data)) := ⟨_, rfl⟩
  have hTn : w6.heap[w3.heap.size]? = some (.cells #[.int .i64 tf.sport, .int .i64 tf.dport, .int .u32 tf.seq, .int .u32 tf.ack, .int .i64 tf.flags, .int .i64 tf.win, .int .i64 tf.type, .int .i64 tf.code, .int .i64 tf.head, .int .i64 tf.data] 53 (0, 0)) := by rw [hwn]; exact heap_set10w hT _ _ _ _ _ _ _ _ _ _
  have hRn : w6.heap[w.heap.size + 1]? = some (.cells #[.int .i64 0, .int .i64 0, .int .u32 0, .int .u32 0, .int .i64 0, .int .i64 0, .int .i64 0, .int .i64 0, .int .i64 0, .int .i64 0] 53 (0, 0)) := by rw [hwn, set_other (by omega), set_other (by omega), set_other (by omega), set_other (by omega), set_other (by omega), set_other (by omega), set_other (by omega), set_other (by omega), set_other (by omega), set_other (by omega)]; exact hR
  have hVn : w6.heap[w.heap.size]? = some (.cells #[.bool vv, .int .i64 (hd : Nat), .int .i64 (tt : Nat), .int .i64 vttl, .int .i64 17, .int .u64 vsH, .int .u64 vsL, .int .u64 vdH, .int .u64 vdL, .bool false, .int .u32 vid, .int .i64 voff, .bool vmo] 43 (0, 0)) := by rw [hwn, set_other (by omega), set_other (by omega), set_other (by omega), set_other (by omega), set_other (by omega), set_other (by omega), set_other (by omega), set_other (by omega), set_other (by omega), set_other (by omega)]; exact hV
  have bwn : Below w.heap.size w w6 := by rw [hwn]; exact below_set10 bw (by omega) _ _ _ _ _ _ _ _ _ _
  rw [← hwn]
  clear hwn hV hR hT bw v0 v1 v2 v3 v4 v5 v6 v7 v8 v9 v10 v11 v12 t0 t1 t2 t3 t4 t5 t6 t7 t8 t9 p0 p1 p2 p3 p4 p5 p6 p7 p8 p9
  have hR := hRn
  have hV := hVn
  have hT := hTn
  have bw := bwn
  clear hRn hTn hVn bwn
  obtain ⟨⟨v0, v1, v2, v3, v4, v5, v6, v7, v8, v9, v10, v11, v12⟩, _⟩ := cells13 hV
  obtain ⟨⟨t0, t1, t2, t3, t4, t5, t6, t7, t8, t9⟩, p0, p1, p2, p3, p4, p5, p6, p7, p8, p9⟩ := cells10 hT
  obtain ⟨⟨r0, r1, r2, r3, r4, r5, r6, r7, r8, r9⟩, q0, q1, q2, q3, q4, q5, q6, q7, q8, q9⟩ := cells10 hR
  refine Lib.hid ?_
  go_wp2
  refine bodyPost_ret_by (res_row Try.results18 _ _ (w.heap.size + 1) 53 #[.int .i64 0, .int .i64 0, .int .u32 0, .int .u32 0, .int .i64 0, .int .i64 0, .int .i64 0, .int .i64 0, .int .i64 0, .int .i64 0] _ rfl (heap_set10w hR (.int .i64 0) (.int .i64 0) (.int .u32 0) (.int .u32 0) (.int .i64 0) (.int .i64 0) (.int .i64 0) (.int .i64 0) (.int .i64 0) (.int .i64 0)) Try.underlying53 (by kernel_rfl)) rfl ⟨rfl, ?_⟩
  exact below_set10 bw (by omega) _ _ _ _ _ _ _ _ _ _

set_option maxHeartbeats 2000000 in
set_option maxRecDepth 100000 in
theorem rt_17 (A : Option Addr) (n c hd tt : Nat) (l : List UInt8) (vv : Bool) (vttl vsH vsL vdH vdL : Int) (vid voff : Int) (vmo : Bool) {w : World} (hb : BytArg w A n c l) (h1 : hd ≤ tt) (h2 : tt ≤ n) (hm : n ≤ 65536) (tf : TW) (er : Int) (A' : Option Addr) (sl : ∀ W, (Instr.slice 22 (.slice A n c) (some (.int .i64 (hd : Nat))) (some (.int .i64 (tt : Nat))) none).run Try.prog W = .ok (.slice A' (tt - hd) (c - hd)) W) (ct : ∀ W : World, Below w.heap.size w W → Calls Try.prog 57 #[.slice A' (tt - hd) (c - hd), .agg #[.bool vv, .int .i64 (hd : Nat), .int .i64 (tt : Nat), .int .i64 vttl, .int .i64 17, .int .u64 vsH, .int .u64 vsL, .int .u64 vdH, .int .u64 vdL, .bool false, .int .u32 vid, .int .i64 voff, .bool vmo]] W fun e w' => e = .returned (.tuple #[.agg (tcells tf), .int .i64 er]) ∧ Below W.heap.size W w') (he : er = 0) (hz0 : 0 ≤ tf.head) (hz1 : tf.head < 200000) :
    Calls Try.prog 18 #[.slice A n c, .agg #[.bool vv, .int .i64 (hd : Nat), .int .i64 (tt : Nat), .int .i64 vttl, .int .i64 17, .int .u64 vsH, .int .u64 vsL, .int .u64 vdH, .int .u64 vdL, .bool false, .int .u32 vid, .int .i64 voff, .bool vmo]] w fun e w' => e = .returned (.tuple #[.agg (tcells { tf with data := (tt : Int) - tf.head }), .int .i64 0]) ∧ Below w.heap.size w w' := by
  obtain ⟨hn, hc, hcm, _⟩ := id hb
  unfold maxLen at hcm
  have d : decide ((hd : Int) < 0) = false := by simp
  have d9 : ¬ (hd : Int) < 0 := by omega
  have e : decide ((tt : Int) < (hd : Int)) = false := by simp; omega
  have e8 : decide (tt < hd) = false := by simp; omega
  have e9 : ¬ (tt : Int) < (hd : Int) := by omega
  have f : decide ((n : Int) < (tt : Int)) = false := by simp; omega
  have f8 : decide (n < tt) = false := by simp; omega
  have f9 : ¬ (n : Int) < (tt : Int) := by omega
  have x1 : (hd : Int) ≤ 65536 := by omega
  have x2 : (tt : Int) ≤ 65536 := by omega
  subst he
  have x3 : IntKind.i64.wrap ((tt : Int) - tf.head) = (tt : Int) - tf.head := by rw [IntKind.wrap_i64]; omega
  simp only [tcells] at *
  clear hb hn
  go_enter Try.func18, Try.ntmps18
  go_wp2_with (with_reducible refine stop_op (o := ⟨some 11, _, _, _, _, _⟩) ?_)
  obtain ⟨w3, hw3⟩ : ∃ x, x = (w.alloc (.cells #[.bool vv, .int .i64 (hd : Nat), .int .i64 (tt : Nat), .int .i64 vttl, .int .i64 17, .int .u64 vsH, .int .u64 vsL, .int .u64 vdH, .int .u64 vdL, .bool false, .int .u32 vid, .int .i64 voff, .bool vmo] 43)).alloc (.cells #[.int .i64 0, .int .i64 0, .int .u32 0, .int .u32 0, .int .i64 0, .int .i64 0, .int .i64 0, .int .i64 0, .int .i64 0, .int .i64 0] 53) := ⟨_, rfl⟩
  have hV : w3.heap[w.heap.size]? = some (.cells #[.bool vv, .int .i64 (hd : Nat), .int .i64 (tt : Nat), .int .i64 vttl, .int .i64 17, .int .u64 vsH, .int .u64 vsL, .int .u64 vdH, .int .u64 vdL, .bool false, .int .u32 vid, .int .i64 voff, .bool vmo] 43 (0, 0)) := by rw [hw3]; exact (al_oldw (by first | (simp; done) | (simp; omega)) _).trans (al_neww rfl _)
  have hR : w3.heap[w.heap.size + 1]? = some (.cells #[.int .i64 0, .int .i64 0, .int .u32 0, .int .u32 0, .int .i64 0, .int .i64 0, .int .i64 0, .int .i64 0, .int .i64 0, .int .i64 0] 53 (0, 0)) := by rw [hw3]; exact al_neww (by simp) _
  have bw : Below w.heap.size w w3 := by rw [hw3]; exact Below.al (Below.al (Below.refl _ _) _) _
  rw [← hw3]
  clear hw3
  obtain ⟨⟨v0, v1, v2, v3, v4, v5, v6, v7, v8, v9, v10, v11, v12⟩, _⟩ := cells13 hV
  obtain ⟨⟨r0, r1, r2, r3, r4, r5, r6, r7, r8, r9⟩, q0, q1, q2, q3, q4, q5, q6, q7, q8, q9⟩ := cells10 hR
  refine Lib.hid ?_
  go_wp2_with (with_reducible refine stop_op (o := ⟨some 41, _, _, _, _, _⟩) ?_)
  obtain ⟨w4, hwn⟩ : ∃ x, x = w3.alloc (.cells #[.int .i64 0, .int .i64 0, .int .u32 0, .int .u32 0, .int .i64 0, .int .i64 0, .int .i64 0, .int .i64 0, .int .i64 (hd : Nat), .int .i64 0] 53) := ⟨_, rfl⟩
  have hT : w4.heap[w3.heap.size]? = some (.cells #[.int .i64 0, .int .i64 0, .int .u32 0, .int .u32 0, .int .i64 0, .int .i64 0, .int .i64 0, .int .i64 0, .int .i64 (hd : Nat), .int .i64 0] 53 (0, 0)) := by rw [hwn]; exact al_neww rfl _
  have hz3 : w.heap.size + 1 < w3.heap.size := (Array.getElem?_eq_some_iff.1 hR).1
  have hbx : Below w3.heap.size w3 w4 := by rw [hwn]; exact Below.al (Below.refl _ _) _
  rw [← hwn]
  clear hwn
  have hVn := blkKeep2 hbx hV
  have hRn := blkKeep2 hbx hR
  have bwn : Below w.heap.size w w4 := bw.trans (hbx.mono bw.size)
  clear hbx hV hR bw r0 r1 r2 r3 r4 r5 r6 r7 r8 r9 q0 q1 q2 q3 q4 q5 q6 q7 q8 q9 v0 v1 v2 v3 v4 v5 v6 v7 v8 v9 v10 v11 v12
  have hV := hVn
  have hR := hRn
  have bw := bwn
  clear hVn hRn bwn
  obtain ⟨⟨v0, v1, v2, v3, v4, v5, v6, v7, v8, v9, v10, v11, v12⟩, _⟩ := cells13 hV
  refine Lib.hid ?_
  go_wp2_with (first | (go_at_call 57; refine (ct _ bw).mono ?_; rintro e w5 ⟨rfl, hbx⟩; refine Hid.out ?_))
  have hTn := blkKeep2 hbx hT
  have hVn := blkKeep2 hbx hV
  have hRn := blkKeep2 hbx hR
  have bwn : Below w.heap.size w w5 := bw.trans (hbx.mono bw.size)
  clear hbx hV hR bw  v0 v1 v2 v3 v4 v5 v6 v7 v8 v9 v10 v11 v12
  have hV := hVn
  have hR := hRn
  have bw := bwn
  clear hVn hRn bwn
  clear hT
  have hT := hTn
  clear hTn ct
  obtain ⟨⟨v0, v1, v2, v3, v4, v5, v6, v7, v8, v9, v10, v11, v12⟩, _⟩ := cells13 hV
  obtain ⟨⟨t0, t1, t2, t3, t4, t5, t6, t7, t8, t9⟩, p0, p1, p2, p3, p4, p5, p6, p7, p8, p9⟩ := cells10 hT
  refine Lib.hid ?_
  go_wp2_with (with_reducible refine stop_op (o := ⟨some 68, _, _, _, _, _⟩) ?_)
  obtain ⟨w6, hwn⟩ : ∃ x, x = ((((((((((w5.setCell ⟨w3.heap.size, 0, none⟩ (.int .i64 tf.sport)).setCell ⟨w3.heap.size, 1, none⟩ (.int .i64 tf.dport)).setCell ⟨w3.heap.size, 2, none⟩ (.int .u32 tf.seq)).setCell ⟨w3.heap.size, 3, none⟩ (.int .u32 tf.ack)).setCell ⟨w3.heap.size, 4, none⟩ (.int .i64 tf.flags)).setCell ⟨w3.heap.size, 5, none⟩ (.int .i64 tf.win)).setCell ⟨w3.heap.size, 6, none⟩ (.int .i64 tf.type)).setCell ⟨w3.heap.size, 7, none⟩ (.int .i64 tf.code)).setCell ⟨w3.heap.size, 8, none⟩ (.int .i64 tf.head)).setCell ⟨w3.heap.size, 9, none⟩ (.int .i64 tf.data)) := ⟨_, rfl⟩
  have hTn : w6.heap[w3.heap.size]? = some (.cells #[.int .i64 tf.sport, .int .i64 tf.dport, .int .u32 tf.seq, .int .u32 tf.ack, .int .i64 tf.flags, .int .i64 tf.win, .int .i64 tf.type, .int .i64 tf.code, .int .i64 tf.head, .int .i64 tf.data] 53 (0, 0)) := by rw [hwn]; exact heap_set10w hT _ _ _ _ _ _ _ _ _ _
  have hRn : w6.heap[w.heap.size + 1]? = some (.cells #[.int .i64 0, .int .i64 0, .int .u32 0, .int .u32 0, .int .i64 0, .int .i64 0, .int .i64 0, .int .i64 0, .int .i64 0, .int .i64 0] 53 (0, 0)) := by rw [hwn, set_other (by omega), set_other (by omega), set_other (by omega), set_other (by omega), set_other (by omega), set_other (by omega), set_other (by omega), set_other (by omega), set_other (by omega), set_other (by omega)]; exact hR
  have hVn : w6.heap[w.heap.size]? = some (.cells #[.bool vv, .int .i64 (hd : Nat), .int .i64 (tt : Nat), .int .i64 vttl, .int .i64 17, .int .u64 vsH, .int .u64 vsL, .int .u64 vdH, .int .u64 vdL, .bool false, .int .u32 vid, .int .i64 voff, .bool vmo] 43 (0, 0)) := by rw [hwn, set_other (by omega), set_other (by omega), set_other (by omega), set_other (by omega), set_other (by omega), set_other (by omega), set_other (by omega), set_other (by omega), set_other (by omega), set_other (by omega)]; exact hV
  have bwn : Below w.heap.size w w6 := by rw [hwn]; exact below_set10 bw (by omega) _ _ _ _ _ _ _ _ _ _
  rw [← hwn]
  clear hwn hV hR hT bw v0 v1 v2 v3 v4 v5 v6 v7 v8 v9 v10 v11 v12 t0 t1 t2 t3 t4 t5 t6 t7 t8 t9 p0 p1 p2 p3 p4 p5 p6 p7 p8 p9
  have hR := hRn
  have hV := hVn
  have hT := hTn
  have bw := bwn
  clear hRn hTn hVn bwn
  obtain ⟨⟨v0, v1, v2, v3, v4, v5, v6, v7, v8, v9, v10, v11, v12⟩, _⟩ := cells13 hV
  obtain ⟨⟨t0, t1, t2, t3, t4, t5, t6, t7, t8, t9⟩, p0, p1, p2, p3, p4, p5, p6, p7, p8, p9⟩ := cells10 hT
  obtain ⟨⟨r0, r1, r2, r3, r4, r5, r6, r7, r8, r9⟩, q0, q1, q2, q3, q4, q5, q6, q7, q8, q9⟩ := cells10 hR
  refine Lib.hid ?_
  go_wp2_with (with_reducible refine stop_op (o := ⟨some 77, _, _, _, _, _⟩) ?_)
  obtain ⟨w7, hwn⟩ : ∃ x, x = w6.setCell ⟨w3.heap.size, 9, none⟩ (.int .i64 ((tt : Int) - tf.head)) := ⟨_, rfl⟩
  have hTn : w7.heap[w3.heap.size]? = some (.cells #[.int .i64 tf.sport, .int .i64 tf.dport, .int .u32 tf.seq, .int .u32 tf.ack, .int .i64 tf.flags, .int .i64 tf.win, .int .i64 tf.type, .int .i64 tf.code, .int .i64 tf.head, .int .i64 ((tt : Int) - tf.head)] 53 (0, 0)) := by rw [hwn, heap_setw hT 9 _]; kernel_rfl
  have hRn : w7.heap[w.heap.size + 1]? = some (.cells #[.int .i64 0, .int .i64 0, .int .u32 0, .int .u32 0, .int .i64 0, .int .i64 0, .int .i64 0, .int .i64 0, .int .i64 0, .int .i64 0] 53 (0, 0)) := by rw [hwn, set_other (by omega)]; exact hR
  have bwn : Below w.heap.size w w7 := by rw [hwn]; exact below_set bw (by omega) 9 _
  rw [← hwn]
  clear hwn hV hR hT bw v0 v1 v2 v3 v4 v5 v6 v7 v8 v9 v10 v11 v12 t0 t1 t2 t3 t4 t5 t6 t7 t8 t9 p0 p1 p2 p3 p4 p5 p6 p7 p8 p9 r0 r1 r2 r3 r4 r5 r6 r7 r8 r9 q0 q1 q2 q3 q4 q5 q6 q7 q8 q9
  have hR := hRn
  have hT := hTn
  have bw := bwn
  clear hRn hTn bwn
  obtain ⟨⟨t0, t1, t2, t3, t4, t5, t6, t7, t8, t9⟩, p0, p1, p2, p3, p4, p5, p6, p7, p8, p9⟩ := cells10 hT
  obtain ⟨⟨r0, r1, r2, r3, r4, r5, r6, r7, r8, r9⟩, q0, q1, q2, q3, q4, q5, q6, q7, q8, q9⟩ := cells10 hR
  refine Lib.hid ?_
  go_wp2
  refine bodyPost_ret_by (res_row Try.results18 _ _ (w.heap.size + 1) 53 #[.int .i64 tf.sport, .int .i64 tf.dport, .int .u32 tf.seq, .int .u32 tf.ack, .int .i64 tf.flags, .int .i64 tf.win, .int .i64 tf.type, .int .i64 tf.code, .int .i64 tf.head, .int .i64 ((tt : Int) - tf.head)] _ rfl (heap_set10w hR (.int .i64 tf.sport) (.int .i64 tf.dport) (.int .u32 tf.seq) (.int .u32 tf.ack) (.int .i64 tf.flags) (.int .i64 tf.win) (.int .i64 tf.type) (.int .i64 tf.code) (.int .i64 tf.head) (.int .i64 ((tt : Int) - tf.head))) Try.underlying53 (by kernel_rfl)) rfl ⟨rfl, ?_⟩
  exact below_set10 bw (by omega) _ _ _ _ _ _ _ _ _ _

set_option maxHeartbeats 2000000 in
set_option maxRecDepth 100000 in
theorem rt_1x (A : Option Addr) (n c hd tt : Nat) (l : List UInt8) (vv : Bool) (vttl vsH vsL vdH vdL : Int) (vid voff : Int) (vmo : Bool) {w : World} (hb : BytArg w A n c l) (h1 : hd ≤ tt) (h2 : tt ≤ n) (hm : n ≤ 65536) (tf : TW) (er : Int) (A' : Option Addr) (sl : ∀ W, (Instr.slice 22 (.slice A n c) (some (.int .i64 (hd : Nat))) (some (.int .i64 (tt : Nat))) none).run Try.prog W = .ok (.slice A' (tt - hd) (c - hd)) W) (ct : ∀ W : World, Below w.heap.size w W → Calls Try.prog 58 #[.slice A' (tt - hd) (c - hd), .agg #[.bool vv, .int .i64 (hd : Nat), .int .i64 (tt : Nat), .int .i64 vttl, .int .i64 1, .int .u64 vsH, .int .u64 vsL, .int .u64 vdH, .int .u64 vdL, .bool false, .int .u32 vid, .int .i64 voff, .bool vmo]] W fun e w' => e = .returned (.tuple #[.agg (tcells tf), .int .i64 er]) ∧ Below W.heap.size W w') (he : er ≠ 0) :
    Calls Try.prog 18 #[.slice A n c, .agg #[.bool vv, .int .i64 (hd : Nat), .int .i64 (tt : Nat), .int .i64 vttl, .int .i64 1, .int .u64 vsH, .int .u64 vsL, .int .u64 vdH, .int .u64 vdL, .bool false, .int .u32 vid, .int .i64 voff, .bool vmo]] w fun e w' => e = .returned (.tuple #[.agg (tcells ztw), .int .i64 er]) ∧ Below w.heap.size w w' := by
  obtain ⟨hn, hc, hcm, _⟩ := id hb
  unfold maxLen at hcm
  have d : decide ((hd : Int) < 0) = false := by simp
  have d9 : ¬ (hd : Int) < 0 := by omega
  have e : decide ((tt : Int) < (hd : Int)) = false := by simp; omega
  have e8 : decide (tt < hd) = false := by simp; omega
  have e9 : ¬ (tt : Int) < (hd : Int) := by omega
  have f : decide ((n : Int) < (tt : Int)) = false := by simp; omega
  have f8 : decide (n < tt) = false := by simp; omega
  have f9 : ¬ (n : Int) < (tt : Int) := by omega
  have x1 : (hd : Int) ≤ 65536 := by omega
  have x2 : (tt : Int) ≤ 65536 := by omega
  have e0 : (er != 0) = true := by simpa using he
  simp only [tcells, ztw] at *
  clear hb hn
  go_enter Try.func18, Try.ntmps18
  go_wp2_with (with_reducible refine stop_op (o := ⟨some 11, _, _, _, _, _⟩) ?_)
  obtain ⟨w3, hw3⟩ : ∃ x, x = (w.alloc (.cells #[.bool vv, .int .i64 (hd : Nat), .int .i64 (tt : Nat), .int .i64 vttl, .int .i64 1, .int .u64 vsH, .int .u64 vsL, .int .u64 vdH, .int .u64 vdL, .bool false, .int .u32 vid, .int .i64 voff, .bool vmo] 43)).alloc (.cells #[.int .i64 0, .int .i64 0, .int .u32 0, .int .u32 0, .int .i64 0, .int .i64 0, .int .i64 0, .int .i64 0, .int .i64 0, .int .i64 0] 53) := ⟨_, rfl⟩
  have hV : w3.heap[w.heap.size]? = some (.cells #[.bool vv, .int .i64 (hd : Nat), .int .i64 (tt : Nat), .int .i64 vttl, .int .i64 1, .int .u64 vsH, .int .u64 vsL, .int .u64 vdH, .int .u64 vdL, .bool false, .int .u32 vid, .int .i64 voff, .bool vmo] 43 (0, 0)) := by rw [hw3]; exact (al_oldw (by first | (simp; done) | (simp; omega)) _).trans (al_neww rfl _)
  have hR : w3.heap[w.heap.size + 1]? = some (.cells #[.int .i64 0, .int .i64 0, .int .u32 0, .int .u32 0, .int .i64 0, .int .i64 0, .int .i64 0, .int .i64 0, .int .i64 0, .int .i64 0] 53 (0, 0)) := by rw [hw3]; exact al_neww (by simp) _
  have bw : Below w.heap.size w w3 := by rw [hw3]; exact Below.al (Below.al (Below.refl _ _) _) _
  rw [← hw3]
  clear hw3
  obtain ⟨⟨v0, v1, v2, v3, v4, v5, v6, v7, v8, v9, v10, v11, v12⟩, _⟩ := cells13 hV
  obtain ⟨⟨r0, r1, r2, r3, r4, r5, r6, r7, r8, r9⟩, q0, q1, q2, q3, q4, q5, q6, q7, q8, q9⟩ := cells10 hR
  refine Lib.hid ?_
  go_wp2_with (with_reducible refine stop_op (o := ⟨some 41, _, _, _, _, _⟩) ?_)
  obtain ⟨w4, hwn⟩ : ∃ x, x = w3.alloc (.cells #[.int .i64 0, .int .i64 0, .int .u32 0, .int .u32 0, .int .i64 0, .int .i64 0, .int .i64 0, .int .i64 0, .int .i64 (hd : Nat), .int .i64 0] 53) := ⟨_, rfl⟩
  have hT : w4.heap[w3.heap.size]? = some (.cells #[.int .i64 0, .int .i64 0, .int .u32 0, .int .u32 0, .int .i64 0, .int .i64 0, .int .i64 0, .int .i64 0, .int .i64 (hd : Nat), .int .i64 0] 53 (0, 0)) := by rw [hwn]; exact al_neww rfl _
  have hz3 : w.heap.size + 1 < w3.heap.size := (Array.getElem?_eq_some_iff.1 hR).1
  have hbx : Below w3.heap.size w3 w4 := by rw [hwn]; exact Below.al (Below.refl _ _) _
  rw [← hwn]
  clear hwn
  have hVn := blkKeep2 hbx hV
  have hRn := blkKeep2 hbx hR
  have bwn : Below w.heap.size w w4 := bw.trans (hbx.mono bw.size)
  clear hbx hV hR bw r0 r1 r2 r3 r4 r5 r6 r7 r8 r9 q0 q1 q2 q3 q4 q5 q6 q7 q8 q9 v0 v1 v2 v3 v4 v5 v6 v7 v8 v9 v10 v11 v12
  have hV := hVn
  have hR := hRn
  have bw := bwn
  clear hVn hRn bwn
  obtain ⟨⟨v0, v1, v2, v3, v4, v5, v6, v7, v8, v9, v10, v11, v12⟩, _⟩ := cells13 hV
  refine Lib.hid ?_
  go_wp2_with (first | (go_at_call 58; refine (ct _ bw).mono ?_; rintro e w5 ⟨rfl, hbx⟩; refine Hid.out ?_))
  have hTn := blkKeep2 hbx hT
  have hVn := blkKeep2 hbx hV
  have hRn := blkKeep2 hbx hR
  have bwn : Below w.heap.size w w5 := bw.trans (hbx.mono bw.size)
  clear hbx hV hR bw  v0 v1 v2 v3 v4 v5 v6 v7 v8 v9 v10 v11 v12
  have hV := hVn
  have hR := hRn
  have bw := bwn
  clear hVn hRn bwn
  clear hT
  have hT := hTn
  clear hTn ct
  obtain ⟨⟨v0, v1, v2, v3, v4, v5, v6, v7, v8, v9, v10, v11, v12⟩, _⟩ := cells13 hV
  obtain ⟨⟨t0, t1, t2, t3, t4, t5, t6, t7, t8, t9⟩, p0, p1, p2, p3, p4, p5, p6, p7, p8, p9⟩ := cells10 hT
  refine Lib.hid ?_
  go_wp2_with (with_reducible refine stop_op (o := ⟨some 68, _, _, _, _, _⟩) ?_)
  obtain ⟨w6, hwn⟩ : ∃ x, x = ((((((((((w5.setCell ⟨w3.heap.size, 0, none⟩ (.int .i64 tf.sport)).setCell ⟨w3.heap.size, 1, none⟩ (.int .i64 tf.dport)).setCell ⟨w3.heap.size, 2, none⟩ (.int .u32 tf.seq)).setCell ⟨w3.heap.size, 3, none⟩ (.int .u32 tf.ack)).setCell ⟨w3.heap.size, 4, none⟩ (.int .i64 tf.flags)).setCell ⟨w3.heap.size, 5, none⟩ (.int .i64 tf.win)).setCell ⟨w3.heap.size, 6, none⟩ (.int .i64 tf.type)).setCell ⟨w3.heap.size, 7, none⟩ (.int .i64 tf.code)).setCell ⟨w3.heap.size, 8, none⟩ (.int .i64 tf.head)).setCell ⟨w3.heap.size, 9, none⟩ (.int .i64 tf.data)) := ⟨_, rfl⟩
  have hTn : w6.heap[w3.heap.size]? = some (.cells #[.int .i64 tf.sport, .int .i64 tf.dport, .int .u32 tf.seq, .int .u32 tf.ack, .int .i64 tf.flags, .int .i64 tf.win, .int .i64 tf.type, .int .i64 tf.code, .int .i64 tf.head, .int .i64 tf.data] 53 (0, 0)) := by rw [hwn]; exact heap_set10w hT _ _ _ _ _ _ _ _ _ _
  have hRn : w6.heap[w.heap.size + 1]? = some (.cells #[.int .i64 0, .int .i64 0, .int .u32 0, .int .u32 0, .int .i64 0, .int .i64 0, .int .i64 0, .int .i64 0, .int .i64 0, .int .i64 0] 53 (0, 0)) := by rw [hwn, set_other (by omega), set_other (by omega), set_other (by omega), set_other (by omega), set_other (by omega), set_other (by omega), set_other (by omega), set_other (by omega), set_other (by omega), set_other (by omega)]; exact hR
  have hVn : w6.heap[w.heap.size]? = some (.cells #[.bool vv, .int .i64 (hd : Nat), .int .i64 (tt : Nat), .int .i64 vttl, .int .i64 1, .int .u64 vsH, .int .u64 vsL, .int .u64 vdH, .int .u64 vdL, .bool false, .int .u32 vid, .int .i64 voff, .bool vmo] 43 (0, 0)) := by rw [hwn, set_other (by omega), set_other (by omega), set_other (by omega), set_other (by omega), set_other (by omega), set_other (by omega), set_other (by omega), set_other (by omega), set_other (by omega), set_other (by omega)]; exact hV
  have bwn : Below w.heap.size w w6 := by rw [hwn]; exact below_set10 bw (by omega) _ _ _ _ _ _ _ _ _ _
  rw [← hwn]
  clear hwn hV hR hT bw v0 v1 v2 v3 v4 v5 v6 v7 v8 v9 v10 v11 v12 t0 t1 t2 t3 t4 t5 t6 t7 t8 t9 p0 p1 p2 p3 p4 p5 p6 p7 p8 p9
  have hR := hRn
  have hV := hVn
  have hT := hTn
  have bw := bwn
  clear hRn hTn hVn bwn
  obtain ⟨⟨v0, v1, v2, v3, v4, v5, v6, v7, v8, v9, v10, v11, v12⟩, _⟩ := cells13 hV
  obtain ⟨⟨t0, t1, t2, t3, t4, t5, t6, t7, t8, t9⟩, p0, p1, p2, p3, p4, p5, p6, p7, p8, p9⟩ := cells10 hT
  obtain ⟨⟨r0, r1, r2, r3, r4, r5, r6, r7, r8, r9⟩, q0, q1, q2, q3, q4, q5, q6, q7, q8, q9⟩ := cells10 hR
  refine Lib.hid ?_
  go_wp2
  refine bodyPost_ret_by (res_row Try.results18 _ _ (w.heap.size + 1) 53 #[.int .i64 0, .int .i64 0, .int .u32 0, .int .u32 0, .int .i64 0, .int .i64 0, .int .i64 0, .int .i64 0, .int .i64 0, .int .i64 0] _ rfl (heap_set10w hR (.int .i64 0) (.int .i64 0) (.int .u32 0) (.int .u32 0) (.int .i64 0) (.int .i64 0) (.int .i64 0) (.int .i64 0) (.int .i64 0) (.int .i64 0)) Try.underlying53 (by kernel_rfl)) rfl ⟨rfl, ?_⟩
  exact below_set10 bw (by omega) _ _ _ _ _ _ _ _ _ _

set_option maxHeartbeats 2000000 in
set_option maxRecDepth 100000 in
theorem rt_1 (A : Option Addr) (n c hd tt : Nat) (l : List UInt8) (vv : Bool) (vttl vsH vsL vdH vdL : Int) (vid voff : Int) (vmo : Bool) {w : World} (hb : BytArg w A n c l) (h1 : hd ≤ tt) (h2 : tt ≤ n) (hm : n ≤ 65536) (tf : TW) (er : Int) (A' : Option Addr) (sl : ∀ W, (Instr.slice 22 (.slice A n c) (some (.int .i64 (hd : Nat))) (some (.int .i64 (tt : Nat))) none).run Try.prog W = .ok (.slice A' (tt - hd) (c - hd)) W) (ct : ∀ W : World, Below w.heap.size w W → Calls Try.prog 58 #[.slice A' (tt - hd) (c - hd), .agg #[.bool vv, .int .i64 (hd : Nat), .int .i64 (tt : Nat), .int .i64 vttl, .int .i64 1, .int .u64 vsH, .int .u64 vsL, .int .u64 vdH, .int .u64 vdL, .bool false, .int .u32 vid, .int .i64 voff, .bool vmo]] W fun e w' => e = .returned (.tuple #[.agg (tcells tf), .int .i64 er]) ∧ Below W.heap.size W w') (he : er = 0) (hz0 : 0 ≤ tf.head) (hz1 : tf.head < 200000) :
    Calls Try.prog 18 #[.slice A n c, .agg #[.bool vv, .int .i64 (hd : Nat), .int .i64 (tt : Nat), .int .i64 vttl, .int .i64 1, .int .u64 vsH, .int .u64 vsL, .int .u64 vdH, .int .u64 vdL, .bool false, .int .u32 vid, .int .i64 voff, .bool vmo]] w fun e w' => e = .returned (.tuple #[.agg (tcells { tf with data := (tt : Int) - tf.head }), .int .i64 0]) ∧ Below w.heap.size w w' := by
  obtain ⟨hn, hc, hcm, _⟩ := id hb
  unfold maxLen at hcm
  have d : decide ((hd : Int) < 0) = false := by simp
  have d9 : ¬ (hd : Int) < 0 := by omega
  have e : decide ((tt : Int) < (hd : Int)) = false := by simp; omega
  have e8 : decide (tt < hd) = false := by simp; omega
  have e9 : ¬ (tt : Int) < (hd : Int) := by omega
  have f : decide ((n : Int) < (tt : Int)) = false := by simp; omega
  have f8 : decide (n < tt) = false := by simp; omega
  have f9 : ¬ (n : Int) < (tt : Int) := by omega
  have x1 : (hd : Int) ≤ 65536 := by omega
  have x2 : (tt : Int) ≤ 65536 := by omega
  subst he
  have x3 : IntKind.i64.wrap ((tt : Int) - tf.head) = (tt : Int) - tf.head := by rw [IntKind.wrap_i64]; omega
  simp only [tcells] at *
  clear hb hn
  go_enter Try.func18, Try.ntmps18
  go_wp2_with (with_reducible refine stop_op (o := ⟨some 11, _, _, _, _, _⟩) ?_)
  obtain ⟨w3, hw3⟩ : ∃ x, x = (w.alloc (.cells #[.bool vv, .int .i64 (hd : Nat), .int .i64 (tt : Nat), .int .i64 vttl, .int .i64 1, .int .u64 vsH, .int .u64 vsL, .int .u64 vdH, .int .u64 vdL, .bool false, .int .u32 vid, .int .i64 voff, .bool vmo] 43)).alloc (.cells #[.int .i64 0, .int .i64 0, .int .u32 0, .int .u32 0, .int .i64 0, .int .i64 0, .int .i64 0, .int .i64 0, .int .i64 0, .int .i64 0] 53) := ⟨_, rfl⟩
  have hV : w3.heap[w.heap.size]? = some (.cells #[.bool vv, .int .i64 (hd : Nat), .int .i64 (tt : Nat), .int .i64 vttl, .int .i64 1, .int .u64 vsH, .int .u64 vsL, .int .u64 vdH, .int .u64 vdL, .bool false, .int .u32 vid, .int .i64 voff, .bool vmo] 43 (0, 0)) := by rw [hw3]; exact (al_oldw (by first | (simp; done) | (simp; omega)) _).trans (al_neww rfl _)
  have hR : w3.heap[w.heap.size + 1]? = some (.cells #[.int .i64 0, .int .i64 0, .int .u32 0, .int .u32 0, .int .i64 0, .int .i64 0, .int .i64 0, .int .i64 0, .int .i64 0, .int .i64 0] 53 (0, 0)) := by rw [hw3]; exact al_neww (by simp) _
  have bw : Below w.heap.size w w3 := by rw [hw3]; exact Below.al (Below.al (Below.refl _ _) _) _
  rw [← hw3]
  clear hw3
  obtain ⟨⟨v0, v1, v2, v3, v4, v5, v6, v7, v8, v9, v10, v11, v12⟩, _⟩ := cells13 hV
  obtain ⟨⟨r0, r1, r2, r3, r4, r5, r6, r7, r8, r9⟩, q0, q1, q2, q3, q4, q5, q6, q7, q8, q9⟩ := cells10 hR
  refine Lib.hid ?_
  go_wp2_with (with_reducible refine stop_op (o := ⟨some 41, _, _, _, _, _⟩) ?_)
  obtain ⟨w4, hwn⟩ : ∃ x, x = w3.alloc (.cells #[.int .i64 0, .int .i64 0, .int .u32 0, .int .u32 0, .int .i64 0, .int .i64 0, .int .i64 0, .int .i64 0, .int .i64 (hd : Nat), .int .i64 0] 53) := ⟨_, rfl⟩
  have hT : w4.heap[w3.heap.size]? = some (.cells #[.int .i64 0, .int .i64 0, .int .u32 0, .int .u32 0, .int .i64 0, .int .i64 0, .int .i64 0, .int .i64 0, .int .i64 (hd : Nat), .int .i64 0] 53 (0, 0)) := by rw [hwn]; exact al_neww rfl _
  have hz3 : w.heap.size + 1 < w3.heap.size := (Array.getElem?_eq_some_iff.1 hR).1
  have hbx : Below w3.heap.size w3 w4 := by rw [hwn]; exact Below.al (Below.refl _ _) _
  rw [← hwn]
  clear hwn
  have hVn := blkKeep2 hbx hV
  have hRn := blkKeep2 hbx hR
  have bwn : Below w.heap.size w w4 := bw.trans (hbx.mono bw.size)
  clear hbx hV hR bw r0 r1 r2 r3 r4 r5 r6 r7 r8 r9 q0 q1 q2 q3 q4 q5 q6 q7 q8 q9 v0 v1 v2 v3 v4 v5 v6 v7 v8 v9 v10 v11 v12
  have hV := hVn
  have hR := hRn
  have bw := bwn
  clear hVn hRn bwn
  obtain ⟨⟨v0, v1, v2, v3, v4, v5, v6, v7, v8, v9, v10, v11, v12⟩, _⟩ := cells13 hV
  refine Lib.hid ?_
  go_wp2_with (first | (go_at_call 58; refine (ct _ bw).mono ?_; rintro e w5 ⟨rfl, hbx⟩; refine Hid.out ?_))
  have hTn := blkKeep2 hbx hT
  have hVn := blkKeep2 hbx hV
  have hRn := blkKeep2 hbx hR
  have bwn : Below w.heap.size w w5 := bw.trans (hbx.mono bw.size)
  clear hbx hV hR bw  v0 v1 v2 v3 v4 v5 v6 v7 v8 v9 v10 v11 v12
  have hV := hVn
  have hR := hRn
  have bw := bwn
  clear hVn hRn bwn
  clear hT
  have hT := hTn
  clear hTn ct
  obtain ⟨⟨v0, v1, v2, v3, v4, v5, v6, v7, v8, v9, v10, v11, v12⟩, _⟩ := cells13 hV
  obtain ⟨⟨t0, t1, t2, t3, t4, t5, t6, t7, t8, t9⟩, p0, p1, p2, p3, p4, p5, p6, p7, p8, p9⟩ := cells10 hT
  refine Lib.hid ?_
  go_wp2_with (with_reducible refine stop_op (o := ⟨some 68, _, _, _, _, _⟩) ?_)
  obtain ⟨w6, hwn⟩ : ∃ x, x = ((((((((((w5.setCell ⟨w3.heap.size, 0, none⟩ (.int .i64 tf.sport)).setCell ⟨w3.heap.size, 1, none⟩ (.int .i64 tf.dport)).setCell ⟨w3.heap.size, 2, none⟩ (.int .u32 tf.seq)).setCell ⟨w3.heap.size, 3, none⟩ (.int .u32 tf.ack)).setCell ⟨w3.heap.size, 4, none⟩ (.int .i64 tf.flags)).setCell ⟨w3.heap.size, 5, none⟩ (.int .i64 tf.win)).setCell ⟨w3.heap.size, 6, none⟩ (.int .i64 tf.type)).setCell ⟨w3.heap.size, 7, none⟩ (.int .i64 tf.code)).setCell ⟨w3.heap.size, 8, none⟩ (.int .i64 tf.head)).setCell ⟨w3.heap.size, 9, none⟩ (.int .i64 tf.data)) := ⟨_, rfl⟩
  have hTn : w6.heap[w3.heap.size]? = some (.cells #[.int .i64 tf.sport, .int .i64 tf.dport, .int .u32 tf.seq, .int .u32 tf.ack, .int .i64 tf.flags, .int .i64 tf.win, .int .i64 tf.type, .int .i64 tf.code, .int .i64 tf.head, .int .i64 tf.data] 53 (0, 0)) := by rw [hwn]; exact heap_set10w hT _ _ _ _ _ _ _ _ _ _
  have hRn : w6.heap[w.heap.size + 1]? = some (.cells #[.int .i64 0, .int .i64 0, .int .u32 0, .int .u32 0, .int .i64 0, .int .i64 0, .int .i64 0, .int .i64 0, .int .i64 0, .int .i64 0] 53 (0, 0)) := by rw [hwn, set_other (by omega), set_other (by omega), set_other (by omega), set_other (by omega), set_other (by omega), set_other (by omega), set_other (by omega), set_other (by omega), set_other (by omega), set_other (by omega)]; exact hR
  have hVn : w6.heap[w.heap.size]? = some (.cells #[.bool vv, .int .i64 (hd : Nat), .int .i64 (tt : Nat), .int .i64 vttl, .int .i64 1, .int .u64 vsH, .int .u64 vsL, .int .u64 vdH, .int .u64 vdL, .bool false, .int .u32 vid, .int .i64 voff, .bool vmo] 43 (0, 0)) := by rw [hwn, set_other (by omega), set_other (by omega), set_other (by omega), set_other (by omega), set_other (by omega), set_other (by omega), set_other (by omega), set_other (by omega), set_other (by omega), set_other (by omega)]; exact hV
  have bwn : Below w.heap.size w w6 := by rw [hwn]; exact below_set10 bw (by omega) _ _ _ _ _ _ _ _ _ _
  rw [← hwn]
  clear hwn hV hR hT bw v0 v1 v2 v3 v4 v5 v6 v7 v8 v9 v10 v11 v12 t0 t1 t2 t3 t4 t5 t6 t7 t8 t9 p0 p1 p2 p3 p4 p5 p6 p7 p8 p9
  have hR := hRn
  have hV := hVn
  have hT := hTn
  have bw := bwn
  clear hRn hTn hVn bwn
  obtain ⟨⟨v0, v1, v2, v3, v4, v5, v6, v7, v8, v9, v10, v11, v12⟩, _⟩ := cells13 hV
  obtain ⟨⟨t0, t1, t2, t3, t4, t5, t6, t7, t8, t9⟩, p0, p1, p2, p3, p4, p5, p6, p7, p8, p9⟩ := cells10 hT
  obtain ⟨⟨r0, r1, r2, r3, r4, r5, r6, r7, r8, r9⟩, q0, q1, q2, q3, q4, q5, q6, q7, q8, q9⟩ := cells10 hR
  refine Lib.hid ?_
  go_wp2_with (with_reducible refine stop_op (o := ⟨some 77, _, _, _, _, _⟩) ?_)
  obtain ⟨w7, hwn⟩ : ∃ x, x = w6.setCell ⟨w3.heap.size, 9, none⟩ (.int .i64 ((tt : Int) - tf.head)) := ⟨_, rfl⟩
  have hTn : w7.heap[w3.heap.size]? = some (.cells #[.int .i64 tf.sport, .int .i64 tf.dport, .int .u32 tf.seq, .int .u32 tf.ack, .int .i64 tf.flags, .int .i64 tf.win, .int .i64 tf.type, .int .i64 tf.code, .int .i64 tf.head, .int .i64 ((tt : Int) - tf.head)] 53 (0, 0)) := by rw [hwn, heap_setw hT 9 _]; kernel_rfl
  have hRn : w7.heap[w.heap.size + 1]? = some (.cells #[.int .i64 0, .int .i64 0, .int .u32 0, .int .u32 0, .int .i64 0, .int .i64 0, .int .i64 0, .int .i64 0, .int .i64 0, .int .i64 0] 53 (0, 0)) := by rw [hwn, set_other (by omega)]; exact hR
  have bwn : Below w.heap.size w w7 := by rw [hwn]; exact below_set bw (by omega) 9 _
  rw [← hwn]
  clear hwn hV hR hT bw v0 v1 v2 v3 v4 v5 v6 v7 v8 v9 v10 v11 v12 t0 t1 t2 t3 t4 t5 t6 t7 t8 t9 p0 p1 p2 p3 p4 p5 p6 p7 p8 p9 r0 r1 r2 r3 r4 r5 r6 r7 r8 r9 q0 q1 q2 q3 q4 q5 q6 q7 q8 q9
  have hR := hRn
  have hT := hTn
  have bw := bwn
  clear hRn hTn bwn
  obtain ⟨⟨t0, t1, t2, t3, t4, t5, t6, t7, t8, t9⟩, p0, p1, p2, p3, p4, p5, p6, p7, p8, p9⟩ := cells10 hT
  obtain ⟨⟨r0, r1, r2, r3, r4, r5, r6, r7, r8, r9⟩, q0, q1, q2, q3, q4, q5, q6, q7, q8, q9⟩ := cells10 hR
  refine Lib.hid ?_
  go_wp2
  refine bodyPost_ret_by (res_row Try.results18 _ _ (w.heap.size + 1) 53 #[.int .i64 tf.sport, .int .i64 tf.dport, .int .u32 tf.seq, .int .u32 tf.ack, .int .i64 tf.flags, .int .i64 tf.win, .int .i64 tf.type, .int .i64 tf.code, .int .i64 tf.head, .int .i64 ((tt : Int) - tf.head)] _ rfl (heap_set10w hR (.int .i64 tf.sport) (.int .i64 tf.dport) (.int .u32 tf.seq) (.int .u32 tf.ack) (.int .i64 tf.flags) (.int .i64 tf.win) (.int .i64 tf.type) (.int .i64 tf.code) (.int .i64 tf.head) (.int .i64 ((tt : Int) - tf.head))) Try.underlying53 (by kernel_rfl)) rfl ⟨rfl, ?_⟩
  exact below_set10 bw (by omega) _ _ _ _ _ _ _ _ _ _

set_option maxHeartbeats 2000000 in
set_option maxRecDepth 100000 in
theorem rt_58x (A : Option Addr) (n c hd tt : Nat) (l : List UInt8) (vv : Bool) (vttl vsH vsL vdH vdL : Int) (vid voff : Int) (vmo : Bool) {w : World} (hb : BytArg w A n c l) (h1 : hd ≤ tt) (h2 : tt ≤ n) (hm : n ≤ 65536) (tf : TW) (er : Int) (A' : Option Addr) (sl : ∀ W, (Instr.slice 22 (.slice A n c) (some (.int .i64 (hd : Nat))) (some (.int .i64 (tt : Nat))) none).run Try.prog W = .ok (.slice A' (tt - hd) (c - hd)) W) (ct : ∀ W : World, Below w.heap.size w W → Calls Try.prog 58 #[.slice A' (tt - hd) (c - hd), .agg #[.bool vv, .int .i64 (hd : Nat), .int .i64 (tt : Nat), .int .i64 vttl, .int .i64 58, .int .u64 vsH, .int .u64 vsL, .int .u64 vdH, .int .u64 vdL, .bool false, .int .u32 vid, .int .i64 voff, .bool vmo]] W fun e w' => e = .returned (.tuple #[.agg (tcells tf), .int .i64 er]) ∧ Below W.heap.size W w') (he : er ≠ 0) :
    Calls Try.prog 18 #[.slice A n c, .agg #[.bool vv, .int .i64 (hd : Nat), .int .i64 (tt : Nat), .int .i64 vttl, .int .i64 58, .int .u64 vsH, .int .u64 vsL, .int .u64 vdH, .int .u64 vdL, .bool false, .int .u32 vid, .int .i64 voff, .bool vmo]] w fun e w' => e = .returned (.tuple #[.agg (tcells ztw), .int .i64 er]) ∧ Below w.heap.size w w' := by
  obtain ⟨hn, hc, hcm, _⟩ := id hb
  unfold maxLen at hcm
  have d : decide ((hd : Int) < 0) = false := by simp
  have d9 : ¬ (hd : Int) < 0 := by omega
  have e : decide ((tt : Int) < (hd : Int)) = false := by simp; omega
  have e8 : decide (tt < hd) = false := by simp; omega
  have e9 : ¬ (tt : Int) < (hd : Int) := by omega
  have f : decide ((n : Int) < (tt : Int)) = false := by simp; omega
  have f8 : decide (n < tt) = false := by simp; omega
  have f9 : ¬ (n : Int) < (tt : Int) := by omega
  have x1 : (hd : Int) ≤ 65536 := by omega
  have x2 : (tt : Int) ≤ 65536 := by omega
  have e0 : (er != 0) = true := by simpa using he
  simp only [tcells, ztw] at *
  clear hb hn
  go_enter Try.func18, Try.ntmps18
  go_wp2_with (with_reducible refine stop_op (o := ⟨some 11, _, _, _, _, _⟩) ?_)
  obtain ⟨w3, hw3⟩ : ∃ x, x = (w.alloc (.cells #[.bool vv, .int .i64 (hd : Nat), .int .i64 (tt : Nat), .int .i64 vttl, .int .i64 58, .int .u64 vsH, .int .u64 vsL, .int .u64 vdH, .int .u64 vdL, .bool false, .int .u32 vid, .int .i64 voff, .bool vmo] 43)).alloc (.cells #[.int .i64 0, .int .i64 0, .int .u32 0, .int .u32 0, .int .i64 0, .int .i64 0, .int .i64 0, .int .i64 0, .int .i64 0, .int .i64 0] 53) := ⟨_, rfl⟩
  have hV : w3.heap[w.heap.size]? = some (.cells #[.bool vv, .int .i64 (hd : Nat), .int .i64 (tt : Nat), .int .i64 vttl, .int .i64 58, .int .u64 vsH, .int .u64 vsL, .int .u64 vdH, .int .u64 vdL, .bool false, .int .u32 vid, .int .i64 voff, .bool vmo] 43 (0, 0)) := by rw [hw3]; exact (al_oldw (by first | (simp; done) | (simp; omega)) _).trans (al_neww rfl _)
  have hR : w3.heap[w.heap.size + 1]? = some (.cells #[.int .i64 0, .int .i64 0, .int .u32 0, .int .u32 0, .int .i64 0, .int .i64 0, .int .i64 0, .int .i64 0, .int .i64 0, .int .i64 0] 53 (0, 0)) := by rw [hw3]; exact al_neww (by simp) _
  have bw : Below w.heap.size w w3 := by rw [hw3]; exact Below.al (Below.al (Below.refl _ _) _) _
  rw [← hw3]
  clear hw3
  obtain ⟨⟨v0, v1, v2, v3, v4, v5, v6, v7, v8, v9, v10, v11, v12⟩, _⟩ := cells13 hV
  obtain ⟨⟨r0, r1, r2, r3, r4, r5, r6, r7, r8, r9⟩, q0, q1, q2, q3, q4, q5, q6, q7, q8, q9⟩ := cells10 hR
  refine Lib.hid ?_
  go_wp2_with (with_reducible refine stop_op (o := ⟨some 41, _, _, _, _, _⟩) ?_)
  obtain ⟨w4, hwn⟩ : ∃ x, x = w3.alloc (.cells #[.int .i64 0, .int .i64 0, .int .u32 0, .int .u32 0, .int .i64 0, .int .i64 0, .int .i64 0, .int .i64 0, .int .i64 (hd : Nat), .int .i64 0] 53) := ⟨_, rfl⟩
  have hT : w4.heap[w3.heap.size]? = some (.cells #[.int .i64 0, .int .i64 0, .int .u32 0, .int .u32 0, .int .i64 0, .int .i64 0, .int .i64 0, .int .i64 0, .int .i64 (hd : Nat), .int .i64 0] 53 (0, 0)) := by rw [hwn]; exact al_neww rfl _
  have hz3 : w.heap.size + 1 < w3.heap.size := (Array.getElem?_eq_some_iff.1 hR).1
  have hbx : Below w3.heap.size w3 w4 := by rw [hwn]; exact Below.al (Below.refl _ _) _
  rw [← hwn]
  clear hwn
  have hVn := blkKeep2 hbx hV
  have hRn := blkKeep2 hbx hR
  have bwn : Below w.heap.size w w4 := bw.trans (hbx.mono bw.size)
  clear hbx hV hR bw r0 r1 r2 r3 r4 r5 r6 r7 r8 r9 q0 q1 q2 q3 q4 q5 q6 q7 q8 q9 v0 v1 v2 v3 v4 v5 v6 v7 v8 v9 v10 v11 v12
  have hV := hVn
  have hR := hRn
  have bw := bwn
  clear hVn hRn bwn
  obtain ⟨⟨v0, v1, v2, v3, v4, v5, v6, v7, v8, v9, v10, v11, v12⟩, _⟩ := cells13 hV
  refine Lib.hid ?_
  go_wp2_with (first | (go_at_call 58; refine (ct _ bw).mono ?_; rintro e w5 ⟨rfl, hbx⟩; refine Hid.out ?_))
  have hTn := blkKeep2 hbx hT
  have hVn := blkKeep2 hbx hV
  have hRn := blkKeep2 hbx hR
  have bwn : Below w.heap.size w w5 := bw.trans (hbx.mono bw.size)
  clear hbx hV hR bw  v0 v1 v2 v3 v4 v5 v6 v7 v8 v9 v10 v11 v12
  have hV := hVn
  have hR := hRn
  have bw := bwn
  clear hVn hRn bwn
  clear hT
  have hT := hTn
  clear hTn ct
  obtain ⟨⟨v0, v1, v2, v3, v4, v5, v6, v7, v8, v9, v10, v11, v12⟩, _⟩ := cells13 hV
  obtain ⟨⟨t0, t1, t2, t3, t4, t5, t6, t7, t8, t9⟩, p0, p1, p2, p3, p4, p5, p6, p7, p8, p9⟩ := cells10 hT
  refine Lib.hid ?_
  go_wp2_with (with_reducible refine stop_op (o := ⟨some 68, _, _, _, _, _⟩) ?_)
  obtain ⟨w6, hwn⟩ : ∃ x, x = ((((((((((w5.setCell ⟨w3.heap.size, 0, none⟩ (.int .i64 tf.sport)).setCell ⟨w3.heap.size, 1, none⟩ (.int .i64 tf.dport)).setCell ⟨w3.heap.size, 2, none⟩ (.int .u32 tf.seq)).setCell ⟨w3.heap.size, 3, none⟩ (.int .u32 tf.ack)).setCell ⟨w3.heap.size, 4, none⟩ (.int .i64 tf.flags)).setCell ⟨w3.heap.size, 5, none⟩ (.int .i64 tf.win)).setCell ⟨w3.heap.size, 6, none⟩ (.int .i64 tf.type)).setCell ⟨w3.heap.size, 7, none⟩ (.int .i64 tf.code)).setCell ⟨w3.heap.size, 8, none⟩ (.int .i64 tf.head)).setCell ⟨w3.heap.size, 9, none⟩ (.int .i64 tf.data)) := ⟨_, rfl⟩
  have hTn : w6.heap[w3.heap.size]? = some (.cells #[.int .i64 tf.sport, .int .i64 tf.dport, .int .u32 tf.seq, .int .u32 tf.ack, .int .i64 tf.flags, .int .i64 tf.win, .int .i64 tf.type, .int .i64 tf.code, .int .i64 tf.head, .int .i64 tf.data] 53 (0, 0)) := by rw [hwn]; exact heap_set10w hT _ _ _ _ _ _ _ _ _ _
  have hRn : w6.heap[w.heap.size + 1]? = some (.cells #[.int .i64 0, .int .i64 0, .int .u32 0, .int .u32 0, .int .i64 0, .int .i64 0, .int .i64 0, .int .i64 0, .int .i64 0, .int .i64 0] 53 (0, 0)) := by rw [hwn, set_other (by omega), set_other (by omega), set_other (by omega), set_other (by omega), set_other (by omega), set_other (by omega), set_other (by omega), set_other (by omega), set_other (by omega), set_other (by omega)]; exact hR
  have hVn : w6.heap[w.heap.size]? = some (.cells #[.bool vv, .int .i64 (hd : Nat), .int .i64 (tt : Nat), .int .i64 vttl, .int .i64 58, .int .u64 vsH, .int .u64 vsL, .int .u64 vdH, .int .u64 vdL, .bool false, .int .u32 vid, .int .i64 voff, .bool vmo] 43 (0, 0)) := by rw [hwn, set_other (by omega), set_other (by omega), set_other (by omega), set_other (by omega), set_other (by omega), set_other (by omega), set_other (by omega), set_other (by omega), set_other (by omega), set_other (by omega)]; exact hV
  have bwn : Below w.heap.size w w6 := by rw [hwn]; exact below_set10 bw (by omega) _ _ _ _ _ _ _ _ _ _
  rw [← hwn]
  clear hwn hV hR hT bw v0 v1 v2 v3 v4 v5 v6 v7 v8 v9 v10 v11 v12 t0 t1 t2 t3 t4 t5 t6 t7 t8 t9 p0 p1 p2 p3 p4 p5 p6 p7 p8 p9
  have hR := hRn
  have hV := hVn
  have hT := hTn
  have bw := bwn
  clear hRn hTn hVn bwn
  obtain ⟨⟨v0, v1, v2, v3, v4, v5, v6, v7, v8, v9, v10, v11, v12⟩, _⟩ := cells13 hV
  obtain ⟨⟨t0, t1, t2, t3, t4, t5, t6, t7, t8, t9⟩, p0, p1, p2, p3, p4, p5, p6, p7, p8, p9⟩ := cells10 hT
  obtain ⟨⟨r0, r1, r2, r3, r4, r5, r6, r7, r8, r9⟩, q0, q1, q2, q3, q4, q5, q6, q7, q8, q9⟩ := cells10 hR
  refine Lib.hid ?_
  go_wp2
  refine bodyPost_ret_by (res_row Try.results18 _ _ (w.heap.size + 1) 53 #[.int .i64 0, .int .i64 0, .int .u32 0, .int .u32 0, .int .i64 0, .int .i64 0, .int .i64 0, .int .i64 0, .int .i64 0, .int .i64 0] _ rfl (heap_set10w hR (.int .i64 0) (.int .i64 0) (.int .u32 0) (.int .u32 0) (.int .i64 0) (.int .i64 0) (.int .i64 0) (.int .i64 0) (.int .i64 0) (.int .i64 0)) Try.underlying53 (by kernel_rfl)) rfl ⟨rfl, ?_⟩
  exact below_set10 bw (by omega) _ _ _ _ _ _ _ _ _ _

set_option maxHeartbeats 2000000 in
set_option maxRecDepth 100000 in
theorem rt_58 (A : Option Addr) (n c hd tt : Nat) (l : List UInt8) (vv : Bool) (vttl vsH vsL vdH vdL : Int) (vid voff : Int) (vmo : Bool) {w : World} (hb : BytArg w A n c l) (h1 : hd ≤ tt) (h2 : tt ≤ n) (hm : n ≤ 65536) (tf : TW) (er : Int) (A' : Option Addr) (sl : ∀ W, (Instr.slice 22 (.slice A n c) (some (.int .i64 (hd : Nat))) (some (.int .i64 (tt : Nat))) none).run Try.prog W = .ok (.slice A' (tt - hd) (c - hd)) W) (ct : ∀ W : World, Below w.heap.size w W → Calls Try.prog 58 #[.slice A' (tt - hd) (c - hd), .agg #[.bool vv, .int .i64 (hd : Nat), .int .i64 (tt : Nat), .int .i64 vttl, .int .i64 58, .int .u64 vsH, .int .u64 vsL, .int .u64 vdH, .int .u64 vdL, .bool false, .int .u32 vid, .int .i64 voff, .bool vmo]] W fun e w' => e = .returned (.tuple #[.agg (tcells tf), .int .i64 er]) ∧ Below W.heap.size W w') (he : er = 0) (hz0 : 0 ≤ tf.head) (hz1 : tf.head < 200000) :
    Calls Try.prog 18 #[.slice A n c, .agg #[.bool vv, .int .i64 (hd : Nat), .int .i64 (tt : Nat), .int .i64 vttl, .int .i64 58, .int .u64 vsH, .int .u64 vsL, .int .u64 vdH, .int .u64 vdL, .bool false, .int .u32 vid, .int .i64 voff, .bool vmo]] w fun e w' => e = .returned (.tuple #[.agg (tcells { tf with data := (tt : Int) - tf.head }), .int .i64 0]) ∧ Below w.heap.size w w' := by
  obtain ⟨hn, hc, hcm, _⟩ := id hb
  unfold maxLen at hcm
  have d : decide ((hd : Int) < 0) = false := by simp
  have d9 : ¬ (hd : Int) < 0 := by omega
  have e : decide ((tt : Int) < (hd : Int)) = false := by simp; omega
  have e8 : decide (tt < hd) = false := by simp; omega
  have e9 : ¬ (tt : Int) < (hd : Int) := by omega
  have f : decide ((n : Int) < (tt : Int)) = false := by simp; omega
  have f8 : decide (n < tt) = false := by simp; omega
  have f9 : ¬ (n : Int) < (tt : Int) := by omega
  have x1 : (hd : Int) ≤ 65536 := by omega
  have x2 : (tt : Int) ≤ 65536 := by omega
  subst he
  have x3 : IntKind.i64.wrap ((tt : Int) - tf.head) = (tt : Int) - tf.head := by rw [IntKind.wrap_i64]; omega
  simp only [tcells] at *
  clear hb hn
  go_enter Try.func18, Try.ntmps18
  go_wp2_with (with_reducible refine stop_op (o := ⟨some 11, _, _, _, _, _⟩) ?_)
  obtain ⟨w3, hw3⟩ : ∃ x, x = (w.alloc (.cells #[.bool vv, .int .i64 (hd : Nat), .int .i64 (tt : Nat), .int .i64 vttl, .int .i64 58, .int .u64 vsH, .int .u64 vsL, .int .u64 vdH, .int .u64 vdL, .bool false, .int .u32 vid, .int .i64 voff, .bool vmo] 43)).alloc (.cells #[.int .i64 0, .int .i64 0, .int .u32 0, .int .u32 0, .int .i64 0, .int .i64 0, .int .i64 0, .int .i64 0, .int .i64 0, .int .i64 0] 53) := ⟨_, rfl⟩
  have hV : w3.heap[w.heap.size]? = some (.cells #[.bool vv, .int .i64 (hd : Nat), .int .i64 (tt : Nat), .int .i64 vttl, .int .i64 58, .int .u64 vsH, .int .u64 vsL, .int .u64 vdH, .int .u64 vdL, .bool false, .int .u32 vid, .int .i64 voff, .bool vmo] 43 (0, 0)) := by rw [hw3]; exact (al_oldw (by first | (simp; done) | (simp; omega)) _).trans (al_neww rfl _)
  have hR : w3.heap[w.heap.size + 1]? = some (.cells #[.int .i64 0, .int .i64 0, .int .u32 0, .int .u32 0, .int .i64 0, .int .i64 0, .int .i64 0, .int .i64 0, .int .i64 0, .int .i64 0] 53 (0, 0)) := by rw [hw3]; exact al_neww (by simp) _
  have bw : Below w.heap.size w w3 := by rw [hw3]; exact Below.al (Below.al (Below.refl _ _) _) _
  rw [← hw3]
  clear hw3
  obtain ⟨⟨v0, v1, v2, v3, v4, v5, v6, v7, v8, v9, v10, v11, v12⟩, _⟩ := cells13 hV
  obtain ⟨⟨r0, r1, r2, r3, r4, r5, r6, r7, r8, r9⟩, q0, q1, q2, q3, q4, q5, q6, q7, q8, q9⟩ := cells10 hR
  refine Lib.hid ?_
  go_wp2_with (with_reducible refine stop_op (o := ⟨some 41, _, _, _, _, _⟩) ?_)
  obtain ⟨w4, hwn⟩ : ∃ x, x = w3.alloc (.cells #[.int .i64 0, .int .i64 0, .int .u32 0, .int .u32 0, .int .i64 0, .int .i64 0, .int .i64 0, .int .i64 0, .int .i64 (hd : Nat), .int .i64 0] 53) := ⟨_, rfl⟩
  have hT : w4.heap[w3.heap.size]? = some (.cells #[.int .i64 0, .int .i64 0, .int .u32 0, .int .u32 0, .int .i64 0, .int .i64 0, .int .i64 0, .int .i64 0, .int .i64 (hd : Nat), .int .i64 0] 53 (0, 0)) := by rw [hwn]; exact al_neww rfl _
  have hz3 : w.heap.size + 1 < w3.heap.size := (Array.getElem?_eq_some_iff.1 hR).1
  have hbx : Below w3.heap.size w3 w4 := by rw [hwn]; exact Below.al (Below.refl _ _) _
  rw [← hwn]
  clear hwn
  have hVn := blkKeep2 hbx hV
  have hRn := blkKeep2 hbx hR
  have bwn : Below w.heap.size w w4 := bw.trans (hbx.mono bw.size)
  clear hbx hV hR bw r0 r1 r2 r3 r4 r5 r6 r7 r8 r9 q0 q1 q2 q3 q4 q5 q6 q7 q8 q9 v0 v1 v2 v3 v4 v5 v6 v7 v8 v9 v10 v11 v12
  have hV := hVn
  have hR := hRn
  have bw := bwn
  clear hVn hRn bwn
  obtain ⟨⟨v0, v1, v2, v3, v4, v5, v6, v7, v8, v9, v10, v11, v12⟩, _⟩ := cells13 hV
  refine Lib.hid ?_
  go_wp2_with (first | (go_at_call 58; refine (ct _ bw).mono ?_; rintro e w5 ⟨rfl, hbx⟩; refine Hid.out ?_))
  have hTn := blkKeep2 hbx hT
  have hVn := blkKeep2 hbx hV
  have hRn := blkKeep2 hbx hR
  have bwn : Below w.heap.size w w5 := bw.trans (hbx.mono bw.size)
  clear hbx hV hR bw  v0 v1 v2 v3 v4 v5 v6 v7 v8 v9 v10 v11 v12
  have hV := hVn
  have hR := hRn
  have bw := bwn
  clear hVn hRn bwn
  clear hT
  have hT := hTn
  clear hTn ct
  obtain ⟨⟨v0, v1, v2, v3, v4, v5, v6, v7, v8, v9, v10, v11, v12⟩, _⟩ := cells13 hV
  obtain ⟨⟨t0, t1, t2, t3, t4, t5, t6, t7, t8, t9⟩, p0, p1, p2, p3, p4, p5, p6, p7, p8, p9⟩ := cells10 hT
  refine Lib.hid ?_
  go_wp2_with (with_reducible refine stop_op (o := ⟨some 68, _, _, _, _, _⟩) ?_)
  obtain ⟨w6, hwn⟩ : ∃ x, x = ((((((((((w5.setCell ⟨w3.heap.size, 0, none⟩ (.int .i64 tf.sport)).setCell ⟨w3.heap.size, 1, none⟩ (.int .i64 tf.dport)).setCell ⟨w3.heap.size, 2, none⟩ (.int .u32 tf.seq)).setCell ⟨w3.heap.size, 3, none⟩ (.int .u32 tf.ack)).setCell ⟨w3.heap.size, 4, none⟩ (.int .i64 tf.flags)).setCell ⟨w3.heap.size, 5, none⟩ (.int .i64 tf.win)).setCell ⟨w3.heap.size, 6, none⟩ (.int .i64 tf.type)).setCell ⟨w3.heap.size, 7, none⟩ (.int .i64 tf.code)).setCell ⟨w3.heap.size, 8, none⟩ (.int .i64 tf.head)).setCell ⟨w3.heap.size, 9, none⟩ (.int .i64 tf.data)) := ⟨_, rfl⟩
  have hTn : w6.heap[w3.heap.size]? = some (.cells #[.int .i64 tf.sport, .int .i64 tf.dport, .int .u32 tf.seq, .int .u32 tf.ack, .int .i64 tf.flags, .int .i64 tf.win, .int .i64 tf.type, .int .i64 tf.code, .int .i64 tf.head, .int .i64 tf.data] 53 (0, 0)) := by rw [hwn]; exact heap_set10w hT _ _ _ _ _ _ _ _ _ _
  have hRn : w6.heap[w.heap.size + 1]? = some (.cells #[.int .i64 0, .int .i64 0, .int .u32 0, .int .u32 0, .int .i64 0, .int .i64 0, .int .i64 0, .int .i64 0, .int .i64 0, .int .i64 0] 53 (0, 0)) := by rw [hwn, set_other (by omega), set_other (by omega), set_other (by omega), set_other (by omega), set_other (by omega), set_other (by omega), set_other (by omega), set_other (by omega), set_other (by omega), set_other (by omega)]; exact hR
  have hVn : w6.heap[w.heap.size]? = some (.cells #[.bool vv, .int .i64 (hd : Nat), .int .i64 (tt : Nat), .int .i64 vttl, .int .i64 58, .int .u64 vsH, .int .u64 vsL, .int .u64 vdH, .int .u64 vdL, .bool false, .int .u32 vid, .int .i64 voff, .bool vmo] 43 (0, 0)) := by rw [hwn, set_other (by omega), set_other (by omega), set_other (by omega), set_other (by omega), set_other (by omega), set_other (by omega), set_other (by omega), set_other (by omega), set_other (by omega), set_other (by omega)]; exact hV
  have bwn : Below w.heap.size w w6 := by rw [hwn]; exact below_set10 bw (by omega) _ _ _ _ _ _ _ _ _ _
  rw [← hwn]
  clear hwn hV hR hT bw v0 v1 v2 v3 v4 v5 v6 v7 v8 v9 v10 v11 v12 t0 t1 t2 t3 t4 t5 t6 t7 t8 t9 p0 p1 p2 p3 p4 p5 p6 p7 p8 p9
  have hR := hRn
  have hV := hVn
  have hT := hTn
  have bw := bwn
  clear hRn hTn hVn bwn
  obtain ⟨⟨v0, v1, v2, v3, v4, v5, v6, v7, v8, v9, v10, v11, v12⟩, _⟩ := cells13 hV
  obtain ⟨⟨t0, t1, t2, t3, t4, t5, t6, t7, t8, t9⟩, p0, p1, p2, p3, p4, p5, p6, p7, p8, p9⟩ := cells10 hT
  obtain ⟨⟨r0, r1, r2, r3, r4, r5, r6, r7, r8, r9⟩, q0, q1, q2, q3, q4, q5, q6, q7, q8, q9⟩ := cells10 hR
  refine Lib.hid ?_
  go_wp2_with (with_reducible refine stop_op (o := ⟨some 77, _, _, _, _, _⟩) ?_)
  obtain ⟨w7, hwn⟩ : ∃ x, x = w6.setCell ⟨w3.heap.size, 9, none⟩ (.int .i64 ((tt : Int) - tf.head)) := ⟨_, rfl⟩
  have hTn : w7.heap[w3.heap.size]? = some (.cells #[.int .i64 tf.sport, .int .i64 tf.dport, .int .u32 tf.seq, .int .u32 tf.ack, .int .i64 tf.flags, .int .i64 tf.win, .int .i64 tf.type, .int .i64 tf.code, .int .i64 tf.head, .int .i64 ((tt : Int) - tf.head)] 53 (0, 0)) := by rw [hwn, heap_setw hT 9 _]; kernel_rfl
  have hRn : w7.heap[w.heap.size + 1]? = some (.cells #[.int .i64 0, .int .i64 0, .int .u32 0, .int .u32 0, .int .i64 0, .int .i64 0, .int .i64 0, .int .i64 0, .int .i64 0, .int .i64 0] 53 (0, 0)) := by rw [hwn, set_other (by omega)]; exact hR
  have bwn : Below w.heap.size w w7 := by rw [hwn]; exact below_set bw (by omega) 9 _
  rw [← hwn]
  clear hwn hV hR hT bw v0 v1 v2 v3 v4 v5 v6 v7 v8 v9 v10 v11 v12 t0 t1 t2 t3 t4 t5 t6 t7 t8 t9 p0 p1 p2 p3 p4 p5 p6 p7 p8 p9 r0 r1 r2 r3 r4 r5 r6 r7 r8 r9 q0 q1 q2 q3 q4 q5 q6 q7 q8 q9
  have hR := hRn
  have hT := hTn
  have bw := bwn
  clear hRn hTn bwn
  obtain ⟨⟨t0, t1, t2, t3, t4, t5, t6, t7, t8, t9⟩, p0, p1, p2, p3, p4, p5, p6, p7, p8, p9⟩ := cells10 hT
  obtain ⟨⟨r0, r1, r2, r3, r4, r5, r6, r7, r8, r9⟩, q0, q1, q2, q3, q4, q5, q6, q7, q8, q9⟩ := cells10 hR
  refine Lib.hid ?_
  go_wp2
  refine bodyPost_ret_by (res_row Try.results18 _ _ (w.heap.size + 1) 53 #[.int .i64 tf.sport, .int .i64 tf.dport, .int .u32 tf.seq, .int .u32 tf.ack, .int .i64 tf.flags, .int .i64 tf.win, .int .i64 tf.type, .int .i64 tf.code, .int .i64 tf.head, .int .i64 ((tt : Int) - tf.head)] _ rfl (heap_set10w hR (.int .i64 tf.sport) (.int .i64 tf.dport) (.int .u32 tf.seq) (.int .u32 tf.ack) (.int .i64 tf.flags) (.int .i64 tf.win) (.int .i64 tf.type) (.int .i64 tf.code) (.int .i64 tf.head) (.int .i64 ((tt : Int) - tf.head))) Try.underlying53 (by kernel_rfl)) rfl ⟨rfl, ?_⟩
  exact below_set10 bw (by omega) _ _ _ _ _ _ _ _ _ _

set_option maxHeartbeats 2000000 in
set_option maxRecDepth 100000 in
theorem rt_o (A : Option Addr) (n c hd tt : Nat) (l : List UInt8) (vv : Bool) (vttl vp vsH vsL vdH vdL : Int) (vid voff : Int) (vmo : Bool) {w : World} (hb : BytArg w A n c l) (h1 : hd ≤ tt) (h2 : tt ≤ n) (hm : n ≤ 65536) (A' : Option Addr) (sl : ∀ W, (Instr.slice 22 (.slice A n c) (some (.int .i64 (hd : Nat))) (some (.int .i64 (tt : Nat))) none).run Try.prog W = .ok (.slice A' (tt - hd) (c - hd)) W) (h6 : vp ≠ 6) (h17 : vp ≠ 17) (h1' : vp ≠ 1) (h58 : vp ≠ 58) :
    Calls Try.prog 18 #[.slice A n c, .agg #[.bool vv, .int .i64 (hd : Nat), .int .i64 (tt : Nat), .int .i64 vttl, .int .i64 vp, .int .u64 vsH, .int .u64 vsL, .int .u64 vdH, .int .u64 vdL, .bool false, .int .u32 vid, .int .i64 voff, .bool vmo]] w fun e w' => e = .returned (.tuple #[.agg (tcells { ztw with head := (hd : Int), data := (tt : Int) - (hd : Int) }), .int .i64 0]) ∧ Below w.heap.size w w' := by
  obtain ⟨hn, hc, hcm, _⟩ := id hb
  unfold maxLen at hcm
  have d : decide ((hd : Int) < 0) = false := by simp
  have d9 : ¬ (hd : Int) < 0 := by omega
  have e : decide ((tt : Int) < (hd : Int)) = false := by simp; omega
  have e8 : decide (tt < hd) = false := by simp; omega
  have e9 : ¬ (tt : Int) < (hd : Int) := by omega
  have f : decide ((n : Int) < (tt : Int)) = false := by simp; omega
  have f8 : decide (n < tt) = false := by simp; omega
  have f9 : ¬ (n : Int) < (tt : Int) := by omega
  have x1 : (hd : Int) ≤ 65536 := by omega
  have x2 : (tt : Int) ≤ 65536 := by omega
  have b6 : (vp == 6) = false := by simp [h6]
  have b17 : (vp == 17) = false := by simp [h17]
  have b1 : (vp == 1) = false := by simp [h1']
  have b58 : (vp == 58) = false := by simp [h58]
  have x3 : IntKind.i64.wrap ((tt : Int) - (hd : Int)) = (tt : Int) - (hd : Int) := by rw [IntKind.wrap_i64]; omega
  simp only [tcells, ztw] at *
  clear hb hn h6 h17 h1' h58
  go_enter Try.func18, Try.ntmps18
  go_wp2_with (with_reducible refine stop_op (o := ⟨some 11, _, _, _, _, _⟩) ?_)
  obtain ⟨w3, hw3⟩ : ∃ x, x = (w.alloc (.cells #[.bool vv, .int .i64 (hd : Nat), .int .i64 (tt : Nat), .int .i64 vttl, .int .i64 vp, .int .u64 vsH, .int .u64 vsL, .int .u64 vdH, .int .u64 vdL, .bool false, .int .u32 vid, .int .i64 voff, .bool vmo] 43)).alloc (.cells #[.int .i64 0, .int .i64 0, .int .u32 0, .int .u32 0, .int .i64 0, .int .i64 0, .int .i64 0, .int .i64 0, .int .i64 0, .int .i64 0] 53) := ⟨_, rfl⟩
  have hV : w3.heap[w.heap.size]? = some (.cells #[.bool vv, .int .i64 (hd : Nat), .int .i64 (tt : Nat), .int .i64 vttl, .int .i64 vp, .int .u64 vsH, .int .u64 vsL, .int .u64 vdH, .int .u64 vdL, .bool false, .int .u32 vid, .int .i64 voff, .bool vmo] 43 (0, 0)) := by rw [hw3]; exact (al_oldw (by first | (simp; done) | (simp; omega)) _).trans (al_neww rfl _)
  have hR : w3.heap[w.heap.size + 1]? = some (.cells #[.int .i64 0, .int .i64 0, .int .u32 0, .int .u32 0, .int .i64 0, .int .i64 0, .int .i64 0, .int .i64 0, .int .i64 0, .int .i64 0] 53 (0, 0)) := by rw [hw3]; exact al_neww (by simp) _
  have bw : Below w.heap.size w w3 := by rw [hw3]; exact Below.al (Below.al (Below.refl _ _) _) _
  rw [← hw3]
  clear hw3
  obtain ⟨⟨v0, v1, v2, v3, v4, v5, v6, v7, v8, v9, v10, v11, v12⟩, _⟩ := cells13 hV
  obtain ⟨⟨r0, r1, r2, r3, r4, r5, r6, r7, r8, r9⟩, q0, q1, q2, q3, q4, q5, q6, q7, q8, q9⟩ := cells10 hR
  refine Lib.hid ?_
  go_wp2_with (with_reducible refine stop_op (o := ⟨some 41, _, _, _, _, _⟩) ?_)
  obtain ⟨w4, hwn⟩ : ∃ x, x = w3.alloc (.cells #[.int .i64 0, .int .i64 0, .int .u32 0, .int .u32 0, .int .i64 0, .int .i64 0, .int .i64 0, .int .i64 0, .int .i64 (hd : Nat), .int .i64 0] 53) := ⟨_, rfl⟩
  have hT : w4.heap[w3.heap.size]? = some (.cells #[.int .i64 0, .int .i64 0, .int .u32 0, .int .u32 0, .int .i64 0, .int .i64 0, .int .i64 0, .int .i64 0, .int .i64 (hd : Nat), .int .i64 0] 53 (0, 0)) := by rw [hwn]; exact al_neww rfl _
  have hz3 : w.heap.size + 1 < w3.heap.size := (Array.getElem?_eq_some_iff.1 hR).1
  have hbx : Below w3.heap.size w3 w4 := by rw [hwn]; exact Below.al (Below.refl _ _) _
  rw [← hwn]
  clear hwn
  have hVn := blkKeep2 hbx hV
  have hRn := blkKeep2 hbx hR
  have bwn : Below w.heap.size w w4 := bw.trans (hbx.mono bw.size)
  clear hbx hV hR bw r0 r1 r2 r3 r4 r5 r6 r7 r8 r9 q0 q1 q2 q3 q4 q5 q6 q7 q8 q9 v0 v1 v2 v3 v4 v5 v6 v7 v8 v9 v10 v11 v12
  have hV := hVn
  have hR := hRn
  have bw := bwn
  clear hVn hRn bwn
  obtain ⟨⟨v0, v1, v2, v3, v4, v5, v6, v7, v8, v9, v10, v11, v12⟩, _⟩ := cells13 hV
  refine Lib.hid ?_
  obtain ⟨⟨t0, t1, t2, t3, t4, t5, t6, t7, t8, t9⟩, p0, p1, p2, p3, p4, p5, p6, p7, p8, p9⟩ := cells10 hT
  obtain ⟨⟨r0, r1, r2, r3, r4, r5, r6, r7, r8, r9⟩, q0, q1, q2, q3, q4, q5, q6, q7, q8, q9⟩ := cells10 hR
  go_wp2_with (with_reducible refine stop_op (o := ⟨some 77, _, _, _, _, _⟩) ?_)
  obtain ⟨w7, hwn⟩ : ∃ x, x = w4.setCell ⟨w3.heap.size, 9, none⟩ (.int .i64 ((tt : Int) - (hd : Int))) := ⟨_, rfl⟩
  have hTn : w7.heap[w3.heap.size]? = some (.cells #[.int .i64 0, .int .i64 0, .int .u32 0, .int .u32 0, .int .i64 0, .int .i64 0, .int .i64 0, .int .i64 0, .int .i64 (hd : Nat), .int .i64 ((tt : Int) - (hd : Int))] 53 (0, 0)) := by rw [hwn, heap_setw hT 9 _]; kernel_rfl
  have hRn : w7.heap[w.heap.size + 1]? = some (.cells #[.int .i64 0, .int .i64 0, .int .u32 0, .int .u32 0, .int .i64 0, .int .i64 0, .int .i64 0, .int .i64 0, .int .i64 0, .int .i64 0] 53 (0, 0)) := by rw [hwn, set_other (by omega)]; exact hR
  have bwn : Below w.heap.size w w7 := by rw [hwn]; exact below_set bw (by omega) 9 _
  rw [← hwn]
  clear hwn hV hR hT bw v0 v1 v2 v3 v4 v5 v6 v7 v8 v9 v10 v11 v12 t0 t1 t2 t3 t4 t5 t6 t7 t8 t9 p0 p1 p2 p3 p4 p5 p6 p7 p8 p9 r0 r1 r2 r3 r4 r5 r6 r7 r8 r9 q0 q1 q2 q3 q4 q5 q6 q7 q8 q9
  have hR := hRn
  have hT := hTn
  have bw := bwn
  clear hRn hTn bwn
  obtain ⟨⟨t0, t1, t2, t3, t4, t5, t6, t7, t8, t9⟩, p0, p1, p2, p3, p4, p5, p6, p7, p8, p9⟩ := cells10 hT
  obtain ⟨⟨r0, r1, r2, r3, r4, r5, r6, r7, r8, r9⟩, q0, q1, q2, q3, q4, q5, q6, q7, q8, q9⟩ := cells10 hR
  refine Lib.hid ?_
  go_wp2
  refine bodyPost_ret_by (res_row Try.results18 _ _ (w.heap.size + 1) 53 #[.int .i64 0, .int .i64 0, .int .u32 0, .int .u32 0, .int .i64 0, .int .i64 0, .int .i64 0, .int .i64 0, .int .i64 (hd : Nat), .int .i64 ((tt : Int) - (hd : Int))] _ rfl (heap_set10w hR (.int .i64 0) (.int .i64 0) (.int .u32 0) (.int .u32 0) (.int .i64 0) (.int .i64 0) (.int .i64 0) (.int .i64 0) (.int .i64 (hd : Nat)) (.int .i64 ((tt : Int) - (hd : Int)))) Try.underlying53 (by kernel_rfl)) rfl ⟨rfl, ?_⟩
  exact below_set10 bw (by omega) _ _ _ _ _ _ _ _ _ _
end Go.Proofs.Ytpmbdjdhgcjkfaa
