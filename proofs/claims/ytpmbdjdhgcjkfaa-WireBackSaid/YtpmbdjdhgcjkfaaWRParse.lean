/- Network headers: the document's Parse; by-name template (gen_wrparse.py). -/
import Derived.Test.YtpmbdjdhgcjkfaaWR6
namespace Go.Proofs.Ytpmbdjdhgcjkfaa
open Go.RowKit Go.Sort
set_option linter.unusedVariables false
set_option linter.unusedSimpArgs false

set_option maxHeartbeats 2000000 in
set_option maxRecDepth 100000 in
theorem rq_nil (A : Option Addr) (n c : Nat) (h : n = 0) {w : World} :
    Calls Try.prog 13 #[.slice A n c] w fun e w' => e = .returned (.tuple #[.agg (vcells zvw), .int .i64 40]) ∧ Below w.heap.size w w' := by
  subst h
  simp only [vcells, zvw]
  go_enter Try.func13, Try.ntmps13
  go_wp2_with (with_reducible refine stop_op (o := ⟨some 7, _, _, _, _, _⟩) ?_)
  obtain ⟨w1, hw1⟩ : ∃ v, v = w.alloc (.cells #[.bool false, .int .i64 0, .int .i64 0, .int .i64 0, .int .i64 0, .int .u64 0, .int .u64 0, .int .u64 0, .int .u64 0, .bool false, .int .u32 0, .int .i64 0, .bool false] 43) := ⟨_, rfl⟩
  have hR : w1.heap[w.heap.size]? = some (.cells #[.bool false, .int .i64 0, .int .i64 0, .int .i64 0, .int .i64 0, .int .u64 0, .int .u64 0, .int .u64 0, .int .u64 0, .bool false, .int .u32 0, .int .i64 0, .bool false] 43 (0, 0)) := by rw [hw1]; exact al_neww rfl _
  have bw1 : Below w.heap.size w w1 := by rw [hw1]; exact Below.al (Below.refl _ _) _
  have hz1 : w.heap.size < w1.heap.size := (Array.getElem?_eq_some_iff.1 hR).1
  rw [← hw1]
  clear hw1
  obtain ⟨⟨r0, r1, r2, r3, r4, r5, r6, r7, r8, r9, r10, r11, r12⟩, q0, q1, q2, q3, q4, q5, q6, q7, q8, q9, q10, q11, q12⟩ := cells13 hR
  refine Lib.hid ?_
  go_wp2
  refine bodyPost_ret_by (res_row Try.results13 _ _ w.heap.size 43 #[.bool false, .int .i64 0, .int .i64 0, .int .i64 0, .int .i64 0, .int .u64 0, .int .u64 0, .int .u64 0, .int .u64 0, .bool false, .int .u32 0, .int .i64 0, .bool false] _ rfl (heap_set13w hR (.bool false) (.int .i64 0) (.int .i64 0) (.int .i64 0) (.int .i64 0) (.int .u64 0) (.int .u64 0) (.int .u64 0) (.int .u64 0) (.bool false) (.int .u32 0) (.int .i64 0) (.bool false)) Try.underlying43 (by kernel_rfl)) rfl ⟨rfl, ?_⟩
  exact below_set13 bw1 (by omega) _ _ _ _ _ _ _ _ _ _ _ _ _

set_option maxHeartbeats 2000000 in
set_option maxRecDepth 100000 in
theorem rq_big (A : Option Addr) (n c : Nat) (h : 2048 < n) (hm : n ≤ 9223372036854775807) {w : World} :
    Calls Try.prog 13 #[.slice A n c] w fun e w' => e = .returned (.tuple #[.agg (vcells zvw), .int .i64 42]) ∧ Below w.heap.size w w' := by
  have h0 : ((n : Int) == 0) = false := by simp; omega
  have h1 : decide ((2048 : Int) < (n : Int)) = true := by simp; omega
  have h2 : decide (2048 < n) = true := by simp; omega
  have h3 : (2048 : Int) < (n : Int) := by omega
  simp only [vcells, zvw]
  go_enter Try.func13, Try.ntmps13
  go_wp2_with (with_reducible refine stop_op (o := ⟨some 7, _, _, _, _, _⟩) ?_)
  obtain ⟨w1, hw1⟩ : ∃ v, v = w.alloc (.cells #[.bool false, .int .i64 0, .int .i64 0, .int .i64 0, .int .i64 0, .int .u64 0, .int .u64 0, .int .u64 0, .int .u64 0, .bool false, .int .u32 0, .int .i64 0, .bool false] 43) := ⟨_, rfl⟩
  have hR : w1.heap[w.heap.size]? = some (.cells #[.bool false, .int .i64 0, .int .i64 0, .int .i64 0, .int .i64 0, .int .u64 0, .int .u64 0, .int .u64 0, .int .u64 0, .bool false, .int .u32 0, .int .i64 0, .bool false] 43 (0, 0)) := by rw [hw1]; exact al_neww rfl _
  have bw1 : Below w.heap.size w w1 := by rw [hw1]; exact Below.al (Below.refl _ _) _
  have hz1 : w.heap.size < w1.heap.size := (Array.getElem?_eq_some_iff.1 hR).1
  rw [← hw1]
  clear hw1
  obtain ⟨⟨r0, r1, r2, r3, r4, r5, r6, r7, r8, r9, r10, r11, r12⟩, q0, q1, q2, q3, q4, q5, q6, q7, q8, q9, q10, q11, q12⟩ := cells13 hR
  refine Lib.hid ?_
  go_wp2
  refine bodyPost_ret_by (res_row Try.results13 _ _ w.heap.size 43 #[.bool false, .int .i64 0, .int .i64 0, .int .i64 0, .int .i64 0, .int .u64 0, .int .u64 0, .int .u64 0, .int .u64 0, .bool false, .int .u32 0, .int .i64 0, .bool false] _ rfl (heap_set13w hR (.bool false) (.int .i64 0) (.int .i64 0) (.int .i64 0) (.int .i64 0) (.int .u64 0) (.int .u64 0) (.int .u64 0) (.int .u64 0) (.bool false) (.int .u32 0) (.int .i64 0) (.bool false)) Try.underlying43 (by kernel_rfl)) rfl ⟨rfl, ?_⟩
  exact below_set13 bw1 (by omega) _ _ _ _ _ _ _ _ _ _ _ _ _

set_option maxHeartbeats 2000000 in
set_option maxRecDepth 100000 in
theorem rq_no (g o c n : Nat) (l : List UInt8) (hn : l.length = n) (h0 : 0 < n) (h1 : n ≤ 2048) (hc : n ≤ c) (hcm : c ≤ 9223372036854775807) (h2 : byN l 0 / 16 ≠ 4) (h3 : byN l 0 / 16 ≠ 6) {w : World} (hb : Byt w g o l) :
    Calls Try.prog 13 #[.slice (some ⟨g, o, none⟩) n c] w fun e w' => e = .returned (.tuple #[.agg (vcells zvw), .int .i64 41]) ∧ Below w.heap.size w w' := by
  have i0 : ((n : Int) == 0) = false := by simp; omega
  have i1 : decide ((2048 : Int) < (n : Int)) = false := by simp; omega
  have i2 : decide (2048 < n) = false := by simp; omega
  have i3 : ¬ (2048 : Int) < (n : Int) := by omega
  have i4 : (0 : Int) < (n : Int) := by omega
  have c0 := by_cell hb hn 0 h0
  rw [Nat.add_zero] at c0
  have x8 := byN_lt l 0
  have e4 : (((byN l 0 : Nat) : Int) / 16 == 4) = false := by simp; omega
  have e6 : (((byN l 0 : Nat) : Int) / 16 == 6) = false := by simp; omega
  generalize byN l 0 = X at *
  have x8i : (X : Int) < 256 := by omega
  clear hb hn
  simp only [vcells, zvw]
  go_enter Try.func13, Try.ntmps13
  go_wp2_with (with_reducible refine stop_op (o := ⟨some 7, _, _, _, _, _⟩) ?_)
  obtain ⟨w1, hw1⟩ : ∃ v, v = w.alloc (.cells #[.bool false, .int .i64 0, .int .i64 0, .int .i64 0, .int .i64 0, .int .u64 0, .int .u64 0, .int .u64 0, .int .u64 0, .bool false, .int .u32 0, .int .i64 0, .bool false] 43) := ⟨_, rfl⟩
  have hR : w1.heap[w.heap.size]? = some (.cells #[.bool false, .int .i64 0, .int .i64 0, .int .i64 0, .int .i64 0, .int .u64 0, .int .u64 0, .int .u64 0, .int .u64 0, .bool false, .int .u32 0, .int .i64 0, .bool false] 43 (0, 0)) := by rw [hw1]; exact al_neww rfl _
  have bw1 : Below w.heap.size w w1 := by rw [hw1]; exact Below.al (Below.refl _ _) _
  have hz1 : w.heap.size < w1.heap.size := (Array.getElem?_eq_some_iff.1 hR).1
  rw [← hw1]
  clear hw1
  obtain ⟨⟨r0, r1, r2, r3, r4, r5, r6, r7, r8, r9, r10, r11, r12⟩, q0, q1, q2, q3, q4, q5, q6, q7, q8, q9, q10, q11, q12⟩ := cells13 hR
  refine Lib.hid ?_
  go_wp2_with (with_reducible refine stop_op (o := ⟨some 17, _, _, _, _, _⟩) ?_)
  obtain ⟨w2, hw2⟩ : ∃ v, v = w1.alloc (.cells #[.bool false, .int .i64 0, .int .i64 0, .int .i64 0, .int .i64 0, .int .u64 0, .int .u64 0, .int .u64 0, .int .u64 0, .bool false, .int .u32 0, .int .i64 0, .bool false] 43) := ⟨_, rfl⟩
  have hV : w2.heap[w1.heap.size]? = some (.cells #[.bool false, .int .i64 0, .int .i64 0, .int .i64 0, .int .i64 0, .int .u64 0, .int .u64 0, .int .u64 0, .int .u64 0, .bool false, .int .u32 0, .int .i64 0, .bool false] 43 (0, 0)) := by rw [hw2]; exact al_neww rfl _
  have hRn : w2.heap[w.heap.size]? = some (.cells #[.bool false, .int .i64 0, .int .i64 0, .int .i64 0, .int .i64 0, .int .u64 0, .int .u64 0, .int .u64 0, .int .u64 0, .bool false, .int .u32 0, .int .i64 0, .bool false] 43 (0, 0)) := by rw [hw2, al_oldw hz1]; exact hR
  have bw2 : Below w.heap.size w w2 := by rw [hw2]; exact Below.al bw1 _
  have c1 := keepc bw2 c0
  have hne : w.heap.size ≠ w1.heap.size := by omega
  have hle : w.heap.size ≤ w1.heap.size := by omega
  rw [← hw2]
  clear hw2 hR c0 r0 r1 r2 r3 r4 r5 r6 r7 r8 r9 r10 r11 r12 q0 q1 q2 q3 q4 q5 q6 q7 q8 q9 q10 q11 q12
  have hR := hRn
  clear hRn
  obtain ⟨⟨r0, r1, r2, r3, r4, r5, r6, r7, r8, r9, r10, r11, r12⟩, q0, q1, q2, q3, q4, q5, q6, q7, q8, q9, q10, q11, q12⟩ := cells13 hR
  obtain ⟨⟨t0, t1, t2, t3, t4, t5, t6, t7, t8, t9, t10, t11, t12⟩, u0, u1, u2, u3, u4, u5, u6, u7, u8, u9, u10, u11, u12⟩ := cells13 hV
  refine Lib.hid ?_
  go_wp2
  refine bodyPost_ret_by (res_row Try.results13 _ _ w.heap.size 43 #[.bool false, .int .i64 0, .int .i64 0, .int .i64 0, .int .i64 0, .int .u64 0, .int .u64 0, .int .u64 0, .int .u64 0, .bool false, .int .u32 0, .int .i64 0, .bool false] _ rfl (heap_set13w hR (.bool false) (.int .i64 0) (.int .i64 0) (.int .i64 0) (.int .i64 0) (.int .u64 0) (.int .u64 0) (.int .u64 0) (.int .u64 0) (.bool false) (.int .u32 0) (.int .i64 0) (.bool false)) Try.underlying43 (by kernel_rfl)) rfl ⟨rfl, ?_⟩
  exact below_set13 bw2 (by omega) _ _ _ _ _ _ _ _ _ _ _ _ _

set_option maxHeartbeats 2000000 in
set_option maxRecDepth 100000 in
theorem rq4_err (g o c n : Nat) (l : List UInt8) (hn : l.length = n) (h0 : 0 < n) (h1 : n ≤ 2048) (hc : n ≤ c) (hcm : c ≤ 9223372036854775807) (h2 : byN l 0 / 16 = 4) (h3 : (parse4P l).2 ≠ 0) {w : World} (hb : Byt w g o l) :
    Calls Try.prog 13 #[.slice (some ⟨g, o, none⟩) n c] w fun e w' => e = .returned (.tuple #[.agg (vcells zvw), .int .i64 (parse4P l).2]) ∧ Below w.heap.size w w' := by
  have i0 : ((n : Int) == 0) = false := by simp; omega
  have i1 : decide ((2048 : Int) < (n : Int)) = false := by simp; omega
  have i2 : decide (2048 < n) = false := by simp; omega
  have i3 : ¬ (2048 : Int) < (n : Int) := by omega
  have i4 : (0 : Int) < (n : Int) := by omega
  have c0 := by_cell hb hn 0 h0
  rw [Nat.add_zero] at c0
  have x8 := byN_lt l 0
  have e4 : (((byN l 0 : Nat) : Int) / 16 == 4) = true := by simp; omega
  have cc := fun (W : World) (h : Below w.heap.size w W) => rparse4_any g o c n l hn hc hcm (hb.below h)
  generalize byN l 0 = X at *
  have x8i : (X : Int) < 256 := by omega
  clear hb hn
  generalize parse4P l = r at *
  obtain ⟨v, er⟩ := r
  simp only [vcells] at *
  have e0 : (er != 0) = true := by simpa using h3
  clear h3
  simp only [zvw]
  go_enter Try.func13, Try.ntmps13
  go_wp2_with (with_reducible refine stop_op (o := ⟨some 7, _, _, _, _, _⟩) ?_)
  obtain ⟨w1, hw1⟩ : ∃ v, v = w.alloc (.cells #[.bool false, .int .i64 0, .int .i64 0, .int .i64 0, .int .i64 0, .int .u64 0, .int .u64 0, .int .u64 0, .int .u64 0, .bool false, .int .u32 0, .int .i64 0, .bool false] 43) := ⟨_, rfl⟩
  have hR : w1.heap[w.heap.size]? = some (.cells #[.bool false, .int .i64 0, .int .i64 0, .int .i64 0, .int .i64 0, .int .u64 0, .int .u64 0, .int .u64 0, .int .u64 0, .bool false, .int .u32 0, .int .i64 0, .bool false] 43 (0, 0)) := by rw [hw1]; exact al_neww rfl _
  have bw1 : Below w.heap.size w w1 := by rw [hw1]; exact Below.al (Below.refl _ _) _
  have hz1 : w.heap.size < w1.heap.size := (Array.getElem?_eq_some_iff.1 hR).1
  rw [← hw1]
  clear hw1
  obtain ⟨⟨r0, r1, r2, r3, r4, r5, r6, r7, r8, r9, r10, r11, r12⟩, q0, q1, q2, q3, q4, q5, q6, q7, q8, q9, q10, q11, q12⟩ := cells13 hR
  refine Lib.hid ?_
  go_wp2_with (with_reducible refine stop_op (o := ⟨some 17, _, _, _, _, _⟩) ?_)
  obtain ⟨w2, hw2⟩ : ∃ v, v = w1.alloc (.cells #[.bool false, .int .i64 0, .int .i64 0, .int .i64 0, .int .i64 0, .int .u64 0, .int .u64 0, .int .u64 0, .int .u64 0, .bool false, .int .u32 0, .int .i64 0, .bool false] 43) := ⟨_, rfl⟩
  have hV : w2.heap[w1.heap.size]? = some (.cells #[.bool false, .int .i64 0, .int .i64 0, .int .i64 0, .int .i64 0, .int .u64 0, .int .u64 0, .int .u64 0, .int .u64 0, .bool false, .int .u32 0, .int .i64 0, .bool false] 43 (0, 0)) := by rw [hw2]; exact al_neww rfl _
  have hRn : w2.heap[w.heap.size]? = some (.cells #[.bool false, .int .i64 0, .int .i64 0, .int .i64 0, .int .i64 0, .int .u64 0, .int .u64 0, .int .u64 0, .int .u64 0, .bool false, .int .u32 0, .int .i64 0, .bool false] 43 (0, 0)) := by rw [hw2, al_oldw hz1]; exact hR
  have bw2 : Below w.heap.size w w2 := by rw [hw2]; exact Below.al bw1 _
  have c1 := keepc bw2 c0
  have hne : w.heap.size ≠ w1.heap.size := by omega
  have hle : w.heap.size ≤ w1.heap.size := by omega
  rw [← hw2]
  clear hw2 hR c0 r0 r1 r2 r3 r4 r5 r6 r7 r8 r9 r10 r11 r12 q0 q1 q2 q3 q4 q5 q6 q7 q8 q9 q10 q11 q12
  have hR := hRn
  clear hRn
  obtain ⟨⟨r0, r1, r2, r3, r4, r5, r6, r7, r8, r9, r10, r11, r12⟩, q0, q1, q2, q3, q4, q5, q6, q7, q8, q9, q10, q11, q12⟩ := cells13 hR
  obtain ⟨⟨t0, t1, t2, t3, t4, t5, t6, t7, t8, t9, t10, t11, t12⟩, u0, u1, u2, u3, u4, u5, u6, u7, u8, u9, u10, u11, u12⟩ := cells13 hV
  refine Lib.hid ?_
  go_wp2_with (go_at_call 49; refine (cc _ bw2).mono ?_; rintro e w3 ⟨rfl, hb3⟩; refine Hid.out ?_)
  have bw3 : Below w.heap.size w w3 := bw2.trans (hb3.mono bw2.size)
  have hVn := hV_keep hb3 hV
  have hRn := hV_keep hb3 hR
  clear hb3 cc hR hV bw2 c1 t0 t1 t2 t3 t4 t5 t6 t7 t8 t9 t10 t11 t12 u0 u1 u2 u3 u4 u5 u6 u7 u8 u9 u10 u11 u12 r0 r1 r2 r3 r4 r5 r6 r7 r8 r9 r10 r11 r12 q0 q1 q2 q3 q4 q5 q6 q7 q8 q9 q10 q11 q12
  have hR := hRn
  have hV := hVn
  clear hRn hVn
  obtain ⟨⟨r0, r1, r2, r3, r4, r5, r6, r7, r8, r9, r10, r11, r12⟩, q0, q1, q2, q3, q4, q5, q6, q7, q8, q9, q10, q11, q12⟩ := cells13 hR
  obtain ⟨⟨t0, t1, t2, t3, t4, t5, t6, t7, t8, t9, t10, t11, t12⟩, u0, u1, u2, u3, u4, u5, u6, u7, u8, u9, u10, u11, u12⟩ := cells13 hV
  refine Lib.hid ?_
  go_wp2_with (with_reducible refine stop_op (o := ⟨some 34, _, _, _, _, _⟩) ?_)
  obtain ⟨w4, hw4⟩ : ∃ x, x = ((((((((((((w3.setCell ⟨w1.heap.size, 0, none⟩ (.bool v.v6)).setCell ⟨w1.heap.size, 1, none⟩ (.int .i64 v.head)).setCell ⟨w1.heap.size, 2, none⟩ (.int .i64 v.total)).setCell ⟨w1.heap.size, 3, none⟩ (.int .i64 v.ttl)).setCell ⟨w1.heap.size, 4, none⟩ (.int .i64 v.proto)).setCell ⟨w1.heap.size, 5, none⟩ (.int .u64 v.srcH)).setCell ⟨w1.heap.size, 6, none⟩ (.int .u64 v.srcL)).setCell ⟨w1.heap.size, 7, none⟩ (.int .u64 v.dstH)).setCell ⟨w1.heap.size, 8, none⟩ (.int .u64 v.dstL)).setCell ⟨w1.heap.size, 9, none⟩ (.bool v.frag)).setCell ⟨w1.heap.size, 10, none⟩ (.int .u32 v.id)).setCell ⟨w1.heap.size, 11, none⟩ (.int .i64 v.off)).setCell ⟨w1.heap.size, 12, none⟩ (.bool v.more) := ⟨_, rfl⟩
  have hVn : w4.heap[w1.heap.size]? = some (.cells #[.bool v.v6, .int .i64 v.head, .int .i64 v.total, .int .i64 v.ttl, .int .i64 v.proto, .int .u64 v.srcH, .int .u64 v.srcL, .int .u64 v.dstH, .int .u64 v.dstL, .bool v.frag, .int .u32 v.id, .int .i64 v.off, .bool v.more] 43 (0, 0)) := by rw [hw4]; exact heap_set13w hV _ _ _ _ _ _ _ _ _ _ _ _ _
  have hRn : w4.heap[w.heap.size]? = some (.cells #[.bool false, .int .i64 0, .int .i64 0, .int .i64 0, .int .i64 0, .int .u64 0, .int .u64 0, .int .u64 0, .int .u64 0, .bool false, .int .u32 0, .int .i64 0, .bool false] 43 (0, 0)) := by rw [hw4]; simp only [set_other (Ne.symm hne)]; exact hR
  have bw4 : Below w.heap.size w w4 := by rw [hw4]; exact below_set13 bw3 hle _ _ _ _ _ _ _ _ _ _ _ _ _
  rw [← hw4]
  clear hw4 hR hV bw3 t0 t1 t2 t3 t4 t5 t6 t7 t8 t9 t10 t11 t12 u0 u1 u2 u3 u4 u5 u6 u7 u8 u9 u10 u11 u12 r0 r1 r2 r3 r4 r5 r6 r7 r8 r9 r10 r11 r12 q0 q1 q2 q3 q4 q5 q6 q7 q8 q9 q10 q11 q12
  have hR := hRn
  have hV := hVn
  clear hRn hVn
  obtain ⟨⟨r0, r1, r2, r3, r4, r5, r6, r7, r8, r9, r10, r11, r12⟩, q0, q1, q2, q3, q4, q5, q6, q7, q8, q9, q10, q11, q12⟩ := cells13 hR
  obtain ⟨⟨t0, t1, t2, t3, t4, t5, t6, t7, t8, t9, t10, t11, t12⟩, u0, u1, u2, u3, u4, u5, u6, u7, u8, u9, u10, u11, u12⟩ := cells13 hV
  refine Lib.hid ?_
  go_wp2
  refine bodyPost_ret_by (res_row Try.results13 _ _ w.heap.size 43 #[.bool false, .int .i64 0, .int .i64 0, .int .i64 0, .int .i64 0, .int .u64 0, .int .u64 0, .int .u64 0, .int .u64 0, .bool false, .int .u32 0, .int .i64 0, .bool false] _ rfl (heap_set13w hR (.bool false) (.int .i64 0) (.int .i64 0) (.int .i64 0) (.int .i64 0) (.int .u64 0) (.int .u64 0) (.int .u64 0) (.int .u64 0) (.bool false) (.int .u32 0) (.int .i64 0) (.bool false)) Try.underlying43 (by kernel_rfl)) rfl ⟨rfl, ?_⟩
  exact below_set13 bw4 (by omega) _ _ _ _ _ _ _ _ _ _ _ _ _

set_option maxHeartbeats 2000000 in
set_option maxRecDepth 100000 in
theorem rq4_far (g o c n : Nat) (l : List UInt8) (hn : l.length = n) (h0 : 0 < n) (h1 : n ≤ 2048) (hc : n ≤ c) (hcm : c ≤ 9223372036854775807) (h2 : byN l 0 / 16 = 4) (h3 : (parse4P l).2 = 0) (h4 : 65535 < (parse4P l).1.off + (parse4P l).1.total - (parse4P l).1.head) {w : World} (hb : Byt w g o l) :
    Calls Try.prog 13 #[.slice (some ⟨g, o, none⟩) n c] w fun e w' => e = .returned (.tuple #[.agg (vcells zvw), .int .i64 42]) ∧ Below w.heap.size w w' := by
  have i0 : ((n : Int) == 0) = false := by simp; omega
  have i1 : decide ((2048 : Int) < (n : Int)) = false := by simp; omega
  have i2 : decide (2048 < n) = false := by simp; omega
  have i3 : ¬ (2048 : Int) < (n : Int) := by omega
  have i4 : (0 : Int) < (n : Int) := by omega
  have c0 := by_cell hb hn 0 h0
  rw [Nat.add_zero] at c0
  have x8 := byN_lt l 0
  have e4 : (((byN l 0 : Nat) : Int) / 16 == 4) = true := by simp; omega
  have cc := fun (W : World) (h : Below w.heap.size w W) => rparse4_any g o c n l hn hc hcm (hb.below h)
  have hbd : 0 ≤ (parse4P l).1.off ∧ (parse4P l).1.off ≤ 65535 ∧ 20 ≤ (parse4P l).1.head ∧ (parse4P l).1.head ≤ 48 ∧ (parse4P l).1.head ≤ (parse4P l).1.total ∧ (parse4P l).1.total ≤ l.length := by
    have e := parseP_4 (by omega) (by omega) h2
    have := innerP_bounds (l := l) (by rw [e]; exact h3)
    rw [e] at this
    omega
  rw [hn] at hbd
  generalize byN l 0 = X at *
  have x8i : (X : Int) < 256 := by omega
  clear hb hn
  generalize parse4P l = r at *
  obtain ⟨v, er⟩ := r
  simp only [vcells] at *
  obtain rfl : er = 0 := h3
  obtain ⟨d0, d1, d2, d3, d4, d5⟩ := hbd
  have s1 : IntKind.i64.wrap (v.off + v.total) = v.off + v.total := by rw [IntKind.wrap_i64]; omega
  have s2 : IntKind.i64.wrap (v.off + v.total - v.head) = v.off + v.total - v.head := by rw [IntKind.wrap_i64]; omega
  have s3 : 0 ≤ v.off + v.total := by omega
  have s4 : v.off + v.total < 70000 := by omega
  have s5 : 0 ≤ v.head := by omega
  have s6 : v.head < 100 := by omega
  have e1 : decide (65535 < v.off + v.total - v.head) = true := by simp; omega
  have e2 : 65535 < v.off + v.total - v.head := h4
  clear h4
  simp only [zvw]
  go_enter Try.func13, Try.ntmps13
  go_wp2_with (with_reducible refine stop_op (o := ⟨some 7, _, _, _, _, _⟩) ?_)
  obtain ⟨w1, hw1⟩ : ∃ v, v = w.alloc (.cells #[.bool false, .int .i64 0, .int .i64 0, .int .i64 0, .int .i64 0, .int .u64 0, .int .u64 0, .int .u64 0, .int .u64 0, .bool false, .int .u32 0, .int .i64 0, .bool false] 43) := ⟨_, rfl⟩
  have hR : w1.heap[w.heap.size]? = some (.cells #[.bool false, .int .i64 0, .int .i64 0, .int .i64 0, .int .i64 0, .int .u64 0, .int .u64 0, .int .u64 0, .int .u64 0, .bool false, .int .u32 0, .int .i64 0, .bool false] 43 (0, 0)) := by rw [hw1]; exact al_neww rfl _
  have bw1 : Below w.heap.size w w1 := by rw [hw1]; exact Below.al (Below.refl _ _) _
  have hz1 : w.heap.size < w1.heap.size := (Array.getElem?_eq_some_iff.1 hR).1
  rw [← hw1]
  clear hw1
  obtain ⟨⟨r0, r1, r2, r3, r4, r5, r6, r7, r8, r9, r10, r11, r12⟩, q0, q1, q2, q3, q4, q5, q6, q7, q8, q9, q10, q11, q12⟩ := cells13 hR
  refine Lib.hid ?_
  go_wp2_with (with_reducible refine stop_op (o := ⟨some 17, _, _, _, _, _⟩) ?_)
  obtain ⟨w2, hw2⟩ : ∃ v, v = w1.alloc (.cells #[.bool false, .int .i64 0, .int .i64 0, .int .i64 0, .int .i64 0, .int .u64 0, .int .u64 0, .int .u64 0, .int .u64 0, .bool false, .int .u32 0, .int .i64 0, .bool false] 43) := ⟨_, rfl⟩
  have hV : w2.heap[w1.heap.size]? = some (.cells #[.bool false, .int .i64 0, .int .i64 0, .int .i64 0, .int .i64 0, .int .u64 0, .int .u64 0, .int .u64 0, .int .u64 0, .bool false, .int .u32 0, .int .i64 0, .bool false] 43 (0, 0)) := by rw [hw2]; exact al_neww rfl _
  have hRn : w2.heap[w.heap.size]? = some (.cells #[.bool false, .int .i64 0, .int .i64 0, .int .i64 0, .int .i64 0, .int .u64 0, .int .u64 0, .int .u64 0, .int .u64 0, .bool false, .int .u32 0, .int .i64 0, .bool false] 43 (0, 0)) := by rw [hw2, al_oldw hz1]; exact hR
  have bw2 : Below w.heap.size w w2 := by rw [hw2]; exact Below.al bw1 _
  have c1 := keepc bw2 c0
  have hne : w.heap.size ≠ w1.heap.size := by omega
  have hle : w.heap.size ≤ w1.heap.size := by omega
  rw [← hw2]
  clear hw2 hR c0 r0 r1 r2 r3 r4 r5 r6 r7 r8 r9 r10 r11 r12 q0 q1 q2 q3 q4 q5 q6 q7 q8 q9 q10 q11 q12
  have hR := hRn
  clear hRn
  obtain ⟨⟨r0, r1, r2, r3, r4, r5, r6, r7, r8, r9, r10, r11, r12⟩, q0, q1, q2, q3, q4, q5, q6, q7, q8, q9, q10, q11, q12⟩ := cells13 hR
  obtain ⟨⟨t0, t1, t2, t3, t4, t5, t6, t7, t8, t9, t10, t11, t12⟩, u0, u1, u2, u3, u4, u5, u6, u7, u8, u9, u10, u11, u12⟩ := cells13 hV
  refine Lib.hid ?_
  go_wp2_with (go_at_call 49; refine (cc _ bw2).mono ?_; rintro e w3 ⟨rfl, hb3⟩; refine Hid.out ?_)
  have bw3 : Below w.heap.size w w3 := bw2.trans (hb3.mono bw2.size)
  have hVn := hV_keep hb3 hV
  have hRn := hV_keep hb3 hR
  clear hb3 cc hR hV bw2 c1 t0 t1 t2 t3 t4 t5 t6 t7 t8 t9 t10 t11 t12 u0 u1 u2 u3 u4 u5 u6 u7 u8 u9 u10 u11 u12 r0 r1 r2 r3 r4 r5 r6 r7 r8 r9 r10 r11 r12 q0 q1 q2 q3 q4 q5 q6 q7 q8 q9 q10 q11 q12
  have hR := hRn
  have hV := hVn
  clear hRn hVn
  obtain ⟨⟨r0, r1, r2, r3, r4, r5, r6, r7, r8, r9, r10, r11, r12⟩, q0, q1, q2, q3, q4, q5, q6, q7, q8, q9, q10, q11, q12⟩ := cells13 hR
  obtain ⟨⟨t0, t1, t2, t3, t4, t5, t6, t7, t8, t9, t10, t11, t12⟩, u0, u1, u2, u3, u4, u5, u6, u7, u8, u9, u10, u11, u12⟩ := cells13 hV
  refine Lib.hid ?_
  go_wp2_with (with_reducible refine stop_op (o := ⟨some 34, _, _, _, _, _⟩) ?_)
  obtain ⟨w4, hw4⟩ : ∃ x, x = ((((((((((((w3.setCell ⟨w1.heap.size, 0, none⟩ (.bool v.v6)).setCell ⟨w1.heap.size, 1, none⟩ (.int .i64 v.head)).setCell ⟨w1.heap.size, 2, none⟩ (.int .i64 v.total)).setCell ⟨w1.heap.size, 3, none⟩ (.int .i64 v.ttl)).setCell ⟨w1.heap.size, 4, none⟩ (.int .i64 v.proto)).setCell ⟨w1.heap.size, 5, none⟩ (.int .u64 v.srcH)).setCell ⟨w1.heap.size, 6, none⟩ (.int .u64 v.srcL)).setCell ⟨w1.heap.size, 7, none⟩ (.int .u64 v.dstH)).setCell ⟨w1.heap.size, 8, none⟩ (.int .u64 v.dstL)).setCell ⟨w1.heap.size, 9, none⟩ (.bool v.frag)).setCell ⟨w1.heap.size, 10, none⟩ (.int .u32 v.id)).setCell ⟨w1.heap.size, 11, none⟩ (.int .i64 v.off)).setCell ⟨w1.heap.size, 12, none⟩ (.bool v.more) := ⟨_, rfl⟩
  have hVn : w4.heap[w1.heap.size]? = some (.cells #[.bool v.v6, .int .i64 v.head, .int .i64 v.total, .int .i64 v.ttl, .int .i64 v.proto, .int .u64 v.srcH, .int .u64 v.srcL, .int .u64 v.dstH, .int .u64 v.dstL, .bool v.frag, .int .u32 v.id, .int .i64 v.off, .bool v.more] 43 (0, 0)) := by rw [hw4]; exact heap_set13w hV _ _ _ _ _ _ _ _ _ _ _ _ _
  have hRn : w4.heap[w.heap.size]? = some (.cells #[.bool false, .int .i64 0, .int .i64 0, .int .i64 0, .int .i64 0, .int .u64 0, .int .u64 0, .int .u64 0, .int .u64 0, .bool false, .int .u32 0, .int .i64 0, .bool false] 43 (0, 0)) := by rw [hw4]; simp only [set_other (Ne.symm hne)]; exact hR
  have bw4 : Below w.heap.size w w4 := by rw [hw4]; exact below_set13 bw3 hle _ _ _ _ _ _ _ _ _ _ _ _ _
  rw [← hw4]
  clear hw4 hR hV bw3 t0 t1 t2 t3 t4 t5 t6 t7 t8 t9 t10 t11 t12 u0 u1 u2 u3 u4 u5 u6 u7 u8 u9 u10 u11 u12 r0 r1 r2 r3 r4 r5 r6 r7 r8 r9 r10 r11 r12 q0 q1 q2 q3 q4 q5 q6 q7 q8 q9 q10 q11 q12
  have hR := hRn
  have hV := hVn
  clear hRn hVn
  obtain ⟨⟨r0, r1, r2, r3, r4, r5, r6, r7, r8, r9, r10, r11, r12⟩, q0, q1, q2, q3, q4, q5, q6, q7, q8, q9, q10, q11, q12⟩ := cells13 hR
  obtain ⟨⟨t0, t1, t2, t3, t4, t5, t6, t7, t8, t9, t10, t11, t12⟩, u0, u1, u2, u3, u4, u5, u6, u7, u8, u9, u10, u11, u12⟩ := cells13 hV
  refine Lib.hid ?_
  go_wp2
  refine bodyPost_ret_by (res_row Try.results13 _ _ w.heap.size 43 #[.bool false, .int .i64 0, .int .i64 0, .int .i64 0, .int .i64 0, .int .u64 0, .int .u64 0, .int .u64 0, .int .u64 0, .bool false, .int .u32 0, .int .i64 0, .bool false] _ rfl (heap_set13w hR (.bool false) (.int .i64 0) (.int .i64 0) (.int .i64 0) (.int .i64 0) (.int .u64 0) (.int .u64 0) (.int .u64 0) (.int .u64 0) (.bool false) (.int .u32 0) (.int .i64 0) (.bool false)) Try.underlying43 (by kernel_rfl)) rfl ⟨rfl, ?_⟩
  exact below_set13 bw4 (by omega) _ _ _ _ _ _ _ _ _ _ _ _ _

set_option maxHeartbeats 2000000 in
set_option maxRecDepth 100000 in
theorem rq4_bad (g o c n : Nat) (l : List UInt8) (hn : l.length = n) (h0 : 0 < n) (h1 : n ≤ 2048) (hc : n ≤ c) (hcm : c ≤ 9223372036854775807) (h2 : byN l 0 / 16 = 4) (h3 : (parse4P l).2 = 0) (h4 : (parse4P l).1.off + (parse4P l).1.total - (parse4P l).1.head ≤ 65535) (h5 : carriesP (parse4P l).1.v6 (parse4P l).1.proto = false) {w : World} (hb : Byt w g o l) :
    Calls Try.prog 13 #[.slice (some ⟨g, o, none⟩) n c] w fun e w' => e = .returned (.tuple #[.agg (vcells zvw), .int .i64 42]) ∧ Below w.heap.size w w' := by
  have i0 : ((n : Int) == 0) = false := by simp; omega
  have i1 : decide ((2048 : Int) < (n : Int)) = false := by simp; omega
  have i2 : decide (2048 < n) = false := by simp; omega
  have i3 : ¬ (2048 : Int) < (n : Int) := by omega
  have i4 : (0 : Int) < (n : Int) := by omega
  have c0 := by_cell hb hn 0 h0
  rw [Nat.add_zero] at c0
  have x8 := byN_lt l 0
  have e4 : (((byN l 0 : Nat) : Int) / 16 == 4) = true := by simp; omega
  have cc := fun (W : World) (h : Below w.heap.size w W) => rparse4_any g o c n l hn hc hcm (hb.below h)
  have hbd : 0 ≤ (parse4P l).1.off ∧ (parse4P l).1.off ≤ 65535 ∧ 20 ≤ (parse4P l).1.head ∧ (parse4P l).1.head ≤ 48 ∧ (parse4P l).1.head ≤ (parse4P l).1.total ∧ (parse4P l).1.total ≤ l.length := by
    have e := parseP_4 (by omega) (by omega) h2
    have := innerP_bounds (l := l) (by rw [e]; exact h3)
    rw [e] at this
    omega
  rw [hn] at hbd
  generalize byN l 0 = X at *
  have x8i : (X : Int) < 256 := by omega
  clear hb hn
  generalize parse4P l = r at *
  obtain ⟨v, er⟩ := r
  simp only [vcells] at *
  obtain rfl : er = 0 := h3
  obtain ⟨d0, d1, d2, d3, d4, d5⟩ := hbd
  have s1 : IntKind.i64.wrap (v.off + v.total) = v.off + v.total := by rw [IntKind.wrap_i64]; omega
  have s2 : IntKind.i64.wrap (v.off + v.total - v.head) = v.off + v.total - v.head := by rw [IntKind.wrap_i64]; omega
  have s3 : 0 ≤ v.off + v.total := by omega
  have s4 : v.off + v.total < 70000 := by omega
  have s5 : 0 ≤ v.head := by omega
  have s6 : v.head < 100 := by omega
  have e1 : decide (65535 < v.off + v.total - v.head) = false := by simp; omega
  have e2 : ¬ 65535 < v.off + v.total - v.head := by omega
  clear h4
  simp only [zvw]
  cases h6 : v.v6 with
  | false =>
    have h5b : (v.proto == 58) = true := by simp only [carriesP, h6, Bool.false_eq_true, if_false] at h5; by_cases h : v.proto = 58 <;> simp [h] at h5 ⊢
    clear h5
    rw [h6] at cc
    clear h6
    go_enter Try.func13, Try.ntmps13
    go_wp2_with (with_reducible refine stop_op (o := ⟨some 7, _, _, _, _, _⟩) ?_)
    obtain ⟨w1, hw1⟩ : ∃ v, v = w.alloc (.cells #[.bool false, .int .i64 0, .int .i64 0, .int .i64 0, .int .i64 0, .int .u64 0, .int .u64 0, .int .u64 0, .int .u64 0, .bool false, .int .u32 0, .int .i64 0, .bool false] 43) := ⟨_, rfl⟩
    have hR : w1.heap[w.heap.size]? = some (.cells #[.bool false, .int .i64 0, .int .i64 0, .int .i64 0, .int .i64 0, .int .u64 0, .int .u64 0, .int .u64 0, .int .u64 0, .bool false, .int .u32 0, .int .i64 0, .bool false] 43 (0, 0)) := by rw [hw1]; exact al_neww rfl _
    have bw1 : Below w.heap.size w w1 := by rw [hw1]; exact Below.al (Below.refl _ _) _
    have hz1 : w.heap.size < w1.heap.size := (Array.getElem?_eq_some_iff.1 hR).1
    rw [← hw1]
    clear hw1
    obtain ⟨⟨r0, r1, r2, r3, r4, r5, r6, r7, r8, r9, r10, r11, r12⟩, q0, q1, q2, q3, q4, q5, q6, q7, q8, q9, q10, q11, q12⟩ := cells13 hR
    refine Lib.hid ?_
    go_wp2_with (with_reducible refine stop_op (o := ⟨some 17, _, _, _, _, _⟩) ?_)
    obtain ⟨w2, hw2⟩ : ∃ v, v = w1.alloc (.cells #[.bool false, .int .i64 0, .int .i64 0, .int .i64 0, .int .i64 0, .int .u64 0, .int .u64 0, .int .u64 0, .int .u64 0, .bool false, .int .u32 0, .int .i64 0, .bool false] 43) := ⟨_, rfl⟩
    have hV : w2.heap[w1.heap.size]? = some (.cells #[.bool false, .int .i64 0, .int .i64 0, .int .i64 0, .int .i64 0, .int .u64 0, .int .u64 0, .int .u64 0, .int .u64 0, .bool false, .int .u32 0, .int .i64 0, .bool false] 43 (0, 0)) := by rw [hw2]; exact al_neww rfl _
    have hRn : w2.heap[w.heap.size]? = some (.cells #[.bool false, .int .i64 0, .int .i64 0, .int .i64 0, .int .i64 0, .int .u64 0, .int .u64 0, .int .u64 0, .int .u64 0, .bool false, .int .u32 0, .int .i64 0, .bool false] 43 (0, 0)) := by rw [hw2, al_oldw hz1]; exact hR
    have bw2 : Below w.heap.size w w2 := by rw [hw2]; exact Below.al bw1 _
    have c1 := keepc bw2 c0
    have hne : w.heap.size ≠ w1.heap.size := by omega
    have hle : w.heap.size ≤ w1.heap.size := by omega
    rw [← hw2]
    clear hw2 hR c0 r0 r1 r2 r3 r4 r5 r6 r7 r8 r9 r10 r11 r12 q0 q1 q2 q3 q4 q5 q6 q7 q8 q9 q10 q11 q12
    have hR := hRn
    clear hRn
    obtain ⟨⟨r0, r1, r2, r3, r4, r5, r6, r7, r8, r9, r10, r11, r12⟩, q0, q1, q2, q3, q4, q5, q6, q7, q8, q9, q10, q11, q12⟩ := cells13 hR
    obtain ⟨⟨t0, t1, t2, t3, t4, t5, t6, t7, t8, t9, t10, t11, t12⟩, u0, u1, u2, u3, u4, u5, u6, u7, u8, u9, u10, u11, u12⟩ := cells13 hV
    refine Lib.hid ?_
    go_wp2_with (go_at_call 49; refine (cc _ bw2).mono ?_; rintro e w3 ⟨rfl, hb3⟩; refine Hid.out ?_)
    have bw3 : Below w.heap.size w w3 := bw2.trans (hb3.mono bw2.size)
    have hVn := hV_keep hb3 hV
    have hRn := hV_keep hb3 hR
    clear hb3 cc hR hV bw2 c1 t0 t1 t2 t3 t4 t5 t6 t7 t8 t9 t10 t11 t12 u0 u1 u2 u3 u4 u5 u6 u7 u8 u9 u10 u11 u12 r0 r1 r2 r3 r4 r5 r6 r7 r8 r9 r10 r11 r12 q0 q1 q2 q3 q4 q5 q6 q7 q8 q9 q10 q11 q12
    have hR := hRn
    have hV := hVn
    clear hRn hVn
    obtain ⟨⟨r0, r1, r2, r3, r4, r5, r6, r7, r8, r9, r10, r11, r12⟩, q0, q1, q2, q3, q4, q5, q6, q7, q8, q9, q10, q11, q12⟩ := cells13 hR
    obtain ⟨⟨t0, t1, t2, t3, t4, t5, t6, t7, t8, t9, t10, t11, t12⟩, u0, u1, u2, u3, u4, u5, u6, u7, u8, u9, u10, u11, u12⟩ := cells13 hV
    refine Lib.hid ?_
    go_wp2_with (with_reducible refine stop_op (o := ⟨some 34, _, _, _, _, _⟩) ?_)
    obtain ⟨w4, hw4⟩ : ∃ x, x = ((((((((((((w3.setCell ⟨w1.heap.size, 0, none⟩ (.bool false)).setCell ⟨w1.heap.size, 1, none⟩ (.int .i64 v.head)).setCell ⟨w1.heap.size, 2, none⟩ (.int .i64 v.total)).setCell ⟨w1.heap.size, 3, none⟩ (.int .i64 v.ttl)).setCell ⟨w1.heap.size, 4, none⟩ (.int .i64 v.proto)).setCell ⟨w1.heap.size, 5, none⟩ (.int .u64 v.srcH)).setCell ⟨w1.heap.size, 6, none⟩ (.int .u64 v.srcL)).setCell ⟨w1.heap.size, 7, none⟩ (.int .u64 v.dstH)).setCell ⟨w1.heap.size, 8, none⟩ (.int .u64 v.dstL)).setCell ⟨w1.heap.size, 9, none⟩ (.bool v.frag)).setCell ⟨w1.heap.size, 10, none⟩ (.int .u32 v.id)).setCell ⟨w1.heap.size, 11, none⟩ (.int .i64 v.off)).setCell ⟨w1.heap.size, 12, none⟩ (.bool v.more) := ⟨_, rfl⟩
    have hVn : w4.heap[w1.heap.size]? = some (.cells #[.bool false, .int .i64 v.head, .int .i64 v.total, .int .i64 v.ttl, .int .i64 v.proto, .int .u64 v.srcH, .int .u64 v.srcL, .int .u64 v.dstH, .int .u64 v.dstL, .bool v.frag, .int .u32 v.id, .int .i64 v.off, .bool v.more] 43 (0, 0)) := by rw [hw4]; exact heap_set13w hV _ _ _ _ _ _ _ _ _ _ _ _ _
    have hRn : w4.heap[w.heap.size]? = some (.cells #[.bool false, .int .i64 0, .int .i64 0, .int .i64 0, .int .i64 0, .int .u64 0, .int .u64 0, .int .u64 0, .int .u64 0, .bool false, .int .u32 0, .int .i64 0, .bool false] 43 (0, 0)) := by rw [hw4]; simp only [set_other (Ne.symm hne)]; exact hR
    have bw4 : Below w.heap.size w w4 := by rw [hw4]; exact below_set13 bw3 hle _ _ _ _ _ _ _ _ _ _ _ _ _
    rw [← hw4]
    clear hw4 hR hV bw3 t0 t1 t2 t3 t4 t5 t6 t7 t8 t9 t10 t11 t12 u0 u1 u2 u3 u4 u5 u6 u7 u8 u9 u10 u11 u12 r0 r1 r2 r3 r4 r5 r6 r7 r8 r9 r10 r11 r12 q0 q1 q2 q3 q4 q5 q6 q7 q8 q9 q10 q11 q12
    have hR := hRn
    have hV := hVn
    clear hRn hVn
    obtain ⟨⟨r0, r1, r2, r3, r4, r5, r6, r7, r8, r9, r10, r11, r12⟩, q0, q1, q2, q3, q4, q5, q6, q7, q8, q9, q10, q11, q12⟩ := cells13 hR
    obtain ⟨⟨t0, t1, t2, t3, t4, t5, t6, t7, t8, t9, t10, t11, t12⟩, u0, u1, u2, u3, u4, u5, u6, u7, u8, u9, u10, u11, u12⟩ := cells13 hV
    refine Lib.hid ?_
    go_wp2
    refine bodyPost_ret_by (res_row Try.results13 _ _ w.heap.size 43 #[.bool false, .int .i64 0, .int .i64 0, .int .i64 0, .int .i64 0, .int .u64 0, .int .u64 0, .int .u64 0, .int .u64 0, .bool false, .int .u32 0, .int .i64 0, .bool false] _ rfl (heap_set13w hR (.bool false) (.int .i64 0) (.int .i64 0) (.int .i64 0) (.int .i64 0) (.int .u64 0) (.int .u64 0) (.int .u64 0) (.int .u64 0) (.bool false) (.int .u32 0) (.int .i64 0) (.bool false)) Try.underlying43 (by kernel_rfl)) rfl ⟨rfl, ?_⟩
    exact below_set13 bw4 (by omega) _ _ _ _ _ _ _ _ _ _ _ _ _
  | true =>
    have h5b : (v.proto == 1) = true := by simp only [carriesP, h6, if_true] at h5; by_cases h : v.proto = 1 <;> simp [h] at h5 ⊢
    clear h5
    rw [h6] at cc
    clear h6
    go_enter Try.func13, Try.ntmps13
    go_wp2_with (with_reducible refine stop_op (o := ⟨some 7, _, _, _, _, _⟩) ?_)
    obtain ⟨w1, hw1⟩ : ∃ v, v = w.alloc (.cells #[.bool false, .int .i64 0, .int .i64 0, .int .i64 0, .int .i64 0, .int .u64 0, .int .u64 0, .int .u64 0, .int .u64 0, .bool false, .int .u32 0, .int .i64 0, .bool false] 43) := ⟨_, rfl⟩
    have hR : w1.heap[w.heap.size]? = some (.cells #[.bool false, .int .i64 0, .int .i64 0, .int .i64 0, .int .i64 0, .int .u64 0, .int .u64 0, .int .u64 0, .int .u64 0, .bool false, .int .u32 0, .int .i64 0, .bool false] 43 (0, 0)) := by rw [hw1]; exact al_neww rfl _
    have bw1 : Below w.heap.size w w1 := by rw [hw1]; exact Below.al (Below.refl _ _) _
    have hz1 : w.heap.size < w1.heap.size := (Array.getElem?_eq_some_iff.1 hR).1
    rw [← hw1]
    clear hw1
    obtain ⟨⟨r0, r1, r2, r3, r4, r5, r6, r7, r8, r9, r10, r11, r12⟩, q0, q1, q2, q3, q4, q5, q6, q7, q8, q9, q10, q11, q12⟩ := cells13 hR
    refine Lib.hid ?_
    go_wp2_with (with_reducible refine stop_op (o := ⟨some 17, _, _, _, _, _⟩) ?_)
    obtain ⟨w2, hw2⟩ : ∃ v, v = w1.alloc (.cells #[.bool false, .int .i64 0, .int .i64 0, .int .i64 0, .int .i64 0, .int .u64 0, .int .u64 0, .int .u64 0, .int .u64 0, .bool false, .int .u32 0, .int .i64 0, .bool false] 43) := ⟨_, rfl⟩
    have hV : w2.heap[w1.heap.size]? = some (.cells #[.bool false, .int .i64 0, .int .i64 0, .int .i64 0, .int .i64 0, .int .u64 0, .int .u64 0, .int .u64 0, .int .u64 0, .bool false, .int .u32 0, .int .i64 0, .bool false] 43 (0, 0)) := by rw [hw2]; exact al_neww rfl _
    have hRn : w2.heap[w.heap.size]? = some (.cells #[.bool false, .int .i64 0, .int .i64 0, .int .i64 0, .int .i64 0, .int .u64 0, .int .u64 0, .int .u64 0, .int .u64 0, .bool false, .int .u32 0, .int .i64 0, .bool false] 43 (0, 0)) := by rw [hw2, al_oldw hz1]; exact hR
    have bw2 : Below w.heap.size w w2 := by rw [hw2]; exact Below.al bw1 _
    have c1 := keepc bw2 c0
    have hne : w.heap.size ≠ w1.heap.size := by omega
    have hle : w.heap.size ≤ w1.heap.size := by omega
    rw [← hw2]
    clear hw2 hR c0 r0 r1 r2 r3 r4 r5 r6 r7 r8 r9 r10 r11 r12 q0 q1 q2 q3 q4 q5 q6 q7 q8 q9 q10 q11 q12
    have hR := hRn
    clear hRn
    obtain ⟨⟨r0, r1, r2, r3, r4, r5, r6, r7, r8, r9, r10, r11, r12⟩, q0, q1, q2, q3, q4, q5, q6, q7, q8, q9, q10, q11, q12⟩ := cells13 hR
    obtain ⟨⟨t0, t1, t2, t3, t4, t5, t6, t7, t8, t9, t10, t11, t12⟩, u0, u1, u2, u3, u4, u5, u6, u7, u8, u9, u10, u11, u12⟩ := cells13 hV
    refine Lib.hid ?_
    go_wp2_with (go_at_call 49; refine (cc _ bw2).mono ?_; rintro e w3 ⟨rfl, hb3⟩; refine Hid.out ?_)
    have bw3 : Below w.heap.size w w3 := bw2.trans (hb3.mono bw2.size)
    have hVn := hV_keep hb3 hV
    have hRn := hV_keep hb3 hR
    clear hb3 cc hR hV bw2 c1 t0 t1 t2 t3 t4 t5 t6 t7 t8 t9 t10 t11 t12 u0 u1 u2 u3 u4 u5 u6 u7 u8 u9 u10 u11 u12 r0 r1 r2 r3 r4 r5 r6 r7 r8 r9 r10 r11 r12 q0 q1 q2 q3 q4 q5 q6 q7 q8 q9 q10 q11 q12
    have hR := hRn
    have hV := hVn
    clear hRn hVn
    obtain ⟨⟨r0, r1, r2, r3, r4, r5, r6, r7, r8, r9, r10, r11, r12⟩, q0, q1, q2, q3, q4, q5, q6, q7, q8, q9, q10, q11, q12⟩ := cells13 hR
    obtain ⟨⟨t0, t1, t2, t3, t4, t5, t6, t7, t8, t9, t10, t11, t12⟩, u0, u1, u2, u3, u4, u5, u6, u7, u8, u9, u10, u11, u12⟩ := cells13 hV
    refine Lib.hid ?_
    go_wp2_with (with_reducible refine stop_op (o := ⟨some 34, _, _, _, _, _⟩) ?_)
    obtain ⟨w4, hw4⟩ : ∃ x, x = ((((((((((((w3.setCell ⟨w1.heap.size, 0, none⟩ (.bool true)).setCell ⟨w1.heap.size, 1, none⟩ (.int .i64 v.head)).setCell ⟨w1.heap.size, 2, none⟩ (.int .i64 v.total)).setCell ⟨w1.heap.size, 3, none⟩ (.int .i64 v.ttl)).setCell ⟨w1.heap.size, 4, none⟩ (.int .i64 v.proto)).setCell ⟨w1.heap.size, 5, none⟩ (.int .u64 v.srcH)).setCell ⟨w1.heap.size, 6, none⟩ (.int .u64 v.srcL)).setCell ⟨w1.heap.size, 7, none⟩ (.int .u64 v.dstH)).setCell ⟨w1.heap.size, 8, none⟩ (.int .u64 v.dstL)).setCell ⟨w1.heap.size, 9, none⟩ (.bool v.frag)).setCell ⟨w1.heap.size, 10, none⟩ (.int .u32 v.id)).setCell ⟨w1.heap.size, 11, none⟩ (.int .i64 v.off)).setCell ⟨w1.heap.size, 12, none⟩ (.bool v.more) := ⟨_, rfl⟩
    have hVn : w4.heap[w1.heap.size]? = some (.cells #[.bool true, .int .i64 v.head, .int .i64 v.total, .int .i64 v.ttl, .int .i64 v.proto, .int .u64 v.srcH, .int .u64 v.srcL, .int .u64 v.dstH, .int .u64 v.dstL, .bool v.frag, .int .u32 v.id, .int .i64 v.off, .bool v.more] 43 (0, 0)) := by rw [hw4]; exact heap_set13w hV _ _ _ _ _ _ _ _ _ _ _ _ _
    have hRn : w4.heap[w.heap.size]? = some (.cells #[.bool false, .int .i64 0, .int .i64 0, .int .i64 0, .int .i64 0, .int .u64 0, .int .u64 0, .int .u64 0, .int .u64 0, .bool false, .int .u32 0, .int .i64 0, .bool false] 43 (0, 0)) := by rw [hw4]; simp only [set_other (Ne.symm hne)]; exact hR
    have bw4 : Below w.heap.size w w4 := by rw [hw4]; exact below_set13 bw3 hle _ _ _ _ _ _ _ _ _ _ _ _ _
    rw [← hw4]
    clear hw4 hR hV bw3 t0 t1 t2 t3 t4 t5 t6 t7 t8 t9 t10 t11 t12 u0 u1 u2 u3 u4 u5 u6 u7 u8 u9 u10 u11 u12 r0 r1 r2 r3 r4 r5 r6 r7 r8 r9 r10 r11 r12 q0 q1 q2 q3 q4 q5 q6 q7 q8 q9 q10 q11 q12
    have hR := hRn
    have hV := hVn
    clear hRn hVn
    obtain ⟨⟨r0, r1, r2, r3, r4, r5, r6, r7, r8, r9, r10, r11, r12⟩, q0, q1, q2, q3, q4, q5, q6, q7, q8, q9, q10, q11, q12⟩ := cells13 hR
    obtain ⟨⟨t0, t1, t2, t3, t4, t5, t6, t7, t8, t9, t10, t11, t12⟩, u0, u1, u2, u3, u4, u5, u6, u7, u8, u9, u10, u11, u12⟩ := cells13 hV
    refine Lib.hid ?_
    go_wp2
    refine bodyPost_ret_by (res_row Try.results13 _ _ w.heap.size 43 #[.bool false, .int .i64 0, .int .i64 0, .int .i64 0, .int .i64 0, .int .u64 0, .int .u64 0, .int .u64 0, .int .u64 0, .bool false, .int .u32 0, .int .i64 0, .bool false] _ rfl (heap_set13w hR (.bool false) (.int .i64 0) (.int .i64 0) (.int .i64 0) (.int .i64 0) (.int .u64 0) (.int .u64 0) (.int .u64 0) (.int .u64 0) (.bool false) (.int .u32 0) (.int .i64 0) (.bool false)) Try.underlying43 (by kernel_rfl)) rfl ⟨rfl, ?_⟩
    exact below_set13 bw4 (by omega) _ _ _ _ _ _ _ _ _ _ _ _ _

set_option maxHeartbeats 2000000 in
set_option maxRecDepth 100000 in
theorem rq4_ok (g o c n : Nat) (l : List UInt8) (hn : l.length = n) (h0 : 0 < n) (h1 : n ≤ 2048) (hc : n ≤ c) (hcm : c ≤ 9223372036854775807) (h2 : byN l 0 / 16 = 4) (h3 : (parse4P l).2 = 0) (h4 : (parse4P l).1.off + (parse4P l).1.total - (parse4P l).1.head ≤ 65535) (h5 : carriesP (parse4P l).1.v6 (parse4P l).1.proto = true) {w : World} (hb : Byt w g o l) :
    Calls Try.prog 13 #[.slice (some ⟨g, o, none⟩) n c] w fun e w' => e = .returned (.tuple #[.agg (vcells (parse4P l).1), .int .i64 0]) ∧ Below w.heap.size w w' := by
  have i0 : ((n : Int) == 0) = false := by simp; omega
  have i1 : decide ((2048 : Int) < (n : Int)) = false := by simp; omega
  have i2 : decide (2048 < n) = false := by simp; omega
  have i3 : ¬ (2048 : Int) < (n : Int) := by omega
  have i4 : (0 : Int) < (n : Int) := by omega
  have c0 := by_cell hb hn 0 h0
  rw [Nat.add_zero] at c0
  have x8 := byN_lt l 0
  have e4 : (((byN l 0 : Nat) : Int) / 16 == 4) = true := by simp; omega
  have cc := fun (W : World) (h : Below w.heap.size w W) => rparse4_any g o c n l hn hc hcm (hb.below h)
  have hbd : 0 ≤ (parse4P l).1.off ∧ (parse4P l).1.off ≤ 65535 ∧ 20 ≤ (parse4P l).1.head ∧ (parse4P l).1.head ≤ 48 ∧ (parse4P l).1.head ≤ (parse4P l).1.total ∧ (parse4P l).1.total ≤ l.length := by
    have e := parseP_4 (by omega) (by omega) h2
    have := innerP_bounds (l := l) (by rw [e]; exact h3)
    rw [e] at this
    omega
  rw [hn] at hbd
  generalize byN l 0 = X at *
  have x8i : (X : Int) < 256 := by omega
  clear hb hn
  generalize parse4P l = r at *
  obtain ⟨v, er⟩ := r
  simp only [vcells] at *
  obtain rfl : er = 0 := h3
  obtain ⟨d0, d1, d2, d3, d4, d5⟩ := hbd
  have s1 : IntKind.i64.wrap (v.off + v.total) = v.off + v.total := by rw [IntKind.wrap_i64]; omega
  have s2 : IntKind.i64.wrap (v.off + v.total - v.head) = v.off + v.total - v.head := by rw [IntKind.wrap_i64]; omega
  have s3 : 0 ≤ v.off + v.total := by omega
  have s4 : v.off + v.total < 70000 := by omega
  have s5 : 0 ≤ v.head := by omega
  have s6 : v.head < 100 := by omega
  have e1 : decide (65535 < v.off + v.total - v.head) = false := by simp; omega
  have e2 : ¬ 65535 < v.off + v.total - v.head := by omega
  clear h4
  cases h6 : v.v6 with
  | false =>
    have h5b : (v.proto == 58) = false := by simp only [carriesP, h6, Bool.false_eq_true, if_false] at h5; by_cases h : v.proto = 58 <;> simp [h] at h5 ⊢
    clear h5
    rw [h6] at cc
    clear h6
    go_enter Try.func13, Try.ntmps13
    go_wp2_with (with_reducible refine stop_op (o := ⟨some 7, _, _, _, _, _⟩) ?_)
    obtain ⟨w1, hw1⟩ : ∃ v, v = w.alloc (.cells #[.bool false, .int .i64 0, .int .i64 0, .int .i64 0, .int .i64 0, .int .u64 0, .int .u64 0, .int .u64 0, .int .u64 0, .bool false, .int .u32 0, .int .i64 0, .bool false] 43) := ⟨_, rfl⟩
    have hR : w1.heap[w.heap.size]? = some (.cells #[.bool false, .int .i64 0, .int .i64 0, .int .i64 0, .int .i64 0, .int .u64 0, .int .u64 0, .int .u64 0, .int .u64 0, .bool false, .int .u32 0, .int .i64 0, .bool false] 43 (0, 0)) := by rw [hw1]; exact al_neww rfl _
    have bw1 : Below w.heap.size w w1 := by rw [hw1]; exact Below.al (Below.refl _ _) _
    have hz1 : w.heap.size < w1.heap.size := (Array.getElem?_eq_some_iff.1 hR).1
    rw [← hw1]
    clear hw1
    obtain ⟨⟨r0, r1, r2, r3, r4, r5, r6, r7, r8, r9, r10, r11, r12⟩, q0, q1, q2, q3, q4, q5, q6, q7, q8, q9, q10, q11, q12⟩ := cells13 hR
    refine Lib.hid ?_
    go_wp2_with (with_reducible refine stop_op (o := ⟨some 17, _, _, _, _, _⟩) ?_)
    obtain ⟨w2, hw2⟩ : ∃ v, v = w1.alloc (.cells #[.bool false, .int .i64 0, .int .i64 0, .int .i64 0, .int .i64 0, .int .u64 0, .int .u64 0, .int .u64 0, .int .u64 0, .bool false, .int .u32 0, .int .i64 0, .bool false] 43) := ⟨_, rfl⟩
    have hV : w2.heap[w1.heap.size]? = some (.cells #[.bool false, .int .i64 0, .int .i64 0, .int .i64 0, .int .i64 0, .int .u64 0, .int .u64 0, .int .u64 0, .int .u64 0, .bool false, .int .u32 0, .int .i64 0, .bool false] 43 (0, 0)) := by rw [hw2]; exact al_neww rfl _
    have hRn : w2.heap[w.heap.size]? = some (.cells #[.bool false, .int .i64 0, .int .i64 0, .int .i64 0, .int .i64 0, .int .u64 0, .int .u64 0, .int .u64 0, .int .u64 0, .bool false, .int .u32 0, .int .i64 0, .bool false] 43 (0, 0)) := by rw [hw2, al_oldw hz1]; exact hR
    have bw2 : Below w.heap.size w w2 := by rw [hw2]; exact Below.al bw1 _
    have c1 := keepc bw2 c0
    have hne : w.heap.size ≠ w1.heap.size := by omega
    have hle : w.heap.size ≤ w1.heap.size := by omega
    rw [← hw2]
    clear hw2 hR c0 r0 r1 r2 r3 r4 r5 r6 r7 r8 r9 r10 r11 r12 q0 q1 q2 q3 q4 q5 q6 q7 q8 q9 q10 q11 q12
    have hR := hRn
    clear hRn
    obtain ⟨⟨r0, r1, r2, r3, r4, r5, r6, r7, r8, r9, r10, r11, r12⟩, q0, q1, q2, q3, q4, q5, q6, q7, q8, q9, q10, q11, q12⟩ := cells13 hR
    obtain ⟨⟨t0, t1, t2, t3, t4, t5, t6, t7, t8, t9, t10, t11, t12⟩, u0, u1, u2, u3, u4, u5, u6, u7, u8, u9, u10, u11, u12⟩ := cells13 hV
    refine Lib.hid ?_
    go_wp2_with (go_at_call 49; refine (cc _ bw2).mono ?_; rintro e w3 ⟨rfl, hb3⟩; refine Hid.out ?_)
    have bw3 : Below w.heap.size w w3 := bw2.trans (hb3.mono bw2.size)
    have hVn := hV_keep hb3 hV
    have hRn := hV_keep hb3 hR
    clear hb3 cc hR hV bw2 c1 t0 t1 t2 t3 t4 t5 t6 t7 t8 t9 t10 t11 t12 u0 u1 u2 u3 u4 u5 u6 u7 u8 u9 u10 u11 u12 r0 r1 r2 r3 r4 r5 r6 r7 r8 r9 r10 r11 r12 q0 q1 q2 q3 q4 q5 q6 q7 q8 q9 q10 q11 q12
    have hR := hRn
    have hV := hVn
    clear hRn hVn
    obtain ⟨⟨r0, r1, r2, r3, r4, r5, r6, r7, r8, r9, r10, r11, r12⟩, q0, q1, q2, q3, q4, q5, q6, q7, q8, q9, q10, q11, q12⟩ := cells13 hR
    obtain ⟨⟨t0, t1, t2, t3, t4, t5, t6, t7, t8, t9, t10, t11, t12⟩, u0, u1, u2, u3, u4, u5, u6, u7, u8, u9, u10, u11, u12⟩ := cells13 hV
    refine Lib.hid ?_
    go_wp2_with (with_reducible refine stop_op (o := ⟨some 34, _, _, _, _, _⟩) ?_)
    obtain ⟨w4, hw4⟩ : ∃ x, x = ((((((((((((w3.setCell ⟨w1.heap.size, 0, none⟩ (.bool false)).setCell ⟨w1.heap.size, 1, none⟩ (.int .i64 v.head)).setCell ⟨w1.heap.size, 2, none⟩ (.int .i64 v.total)).setCell ⟨w1.heap.size, 3, none⟩ (.int .i64 v.ttl)).setCell ⟨w1.heap.size, 4, none⟩ (.int .i64 v.proto)).setCell ⟨w1.heap.size, 5, none⟩ (.int .u64 v.srcH)).setCell ⟨w1.heap.size, 6, none⟩ (.int .u64 v.srcL)).setCell ⟨w1.heap.size, 7, none⟩ (.int .u64 v.dstH)).setCell ⟨w1.heap.size, 8, none⟩ (.int .u64 v.dstL)).setCell ⟨w1.heap.size, 9, none⟩ (.bool v.frag)).setCell ⟨w1.heap.size, 10, none⟩ (.int .u32 v.id)).setCell ⟨w1.heap.size, 11, none⟩ (.int .i64 v.off)).setCell ⟨w1.heap.size, 12, none⟩ (.bool v.more) := ⟨_, rfl⟩
    have hVn : w4.heap[w1.heap.size]? = some (.cells #[.bool false, .int .i64 v.head, .int .i64 v.total, .int .i64 v.ttl, .int .i64 v.proto, .int .u64 v.srcH, .int .u64 v.srcL, .int .u64 v.dstH, .int .u64 v.dstL, .bool v.frag, .int .u32 v.id, .int .i64 v.off, .bool v.more] 43 (0, 0)) := by rw [hw4]; exact heap_set13w hV _ _ _ _ _ _ _ _ _ _ _ _ _
    have hRn : w4.heap[w.heap.size]? = some (.cells #[.bool false, .int .i64 0, .int .i64 0, .int .i64 0, .int .i64 0, .int .u64 0, .int .u64 0, .int .u64 0, .int .u64 0, .bool false, .int .u32 0, .int .i64 0, .bool false] 43 (0, 0)) := by rw [hw4]; simp only [set_other (Ne.symm hne)]; exact hR
    have bw4 : Below w.heap.size w w4 := by rw [hw4]; exact below_set13 bw3 hle _ _ _ _ _ _ _ _ _ _ _ _ _
    rw [← hw4]
    clear hw4 hR hV bw3 t0 t1 t2 t3 t4 t5 t6 t7 t8 t9 t10 t11 t12 u0 u1 u2 u3 u4 u5 u6 u7 u8 u9 u10 u11 u12 r0 r1 r2 r3 r4 r5 r6 r7 r8 r9 r10 r11 r12 q0 q1 q2 q3 q4 q5 q6 q7 q8 q9 q10 q11 q12
    have hR := hRn
    have hV := hVn
    clear hRn hVn
    obtain ⟨⟨r0, r1, r2, r3, r4, r5, r6, r7, r8, r9, r10, r11, r12⟩, q0, q1, q2, q3, q4, q5, q6, q7, q8, q9, q10, q11, q12⟩ := cells13 hR
    obtain ⟨⟨t0, t1, t2, t3, t4, t5, t6, t7, t8, t9, t10, t11, t12⟩, u0, u1, u2, u3, u4, u5, u6, u7, u8, u9, u10, u11, u12⟩ := cells13 hV
    refine Lib.hid ?_
    go_wp2
    refine bodyPost_ret_by (res_row Try.results13 _ _ w.heap.size 43 #[.bool false, .int .i64 v.head, .int .i64 v.total, .int .i64 v.ttl, .int .i64 v.proto, .int .u64 v.srcH, .int .u64 v.srcL, .int .u64 v.dstH, .int .u64 v.dstL, .bool v.frag, .int .u32 v.id, .int .i64 v.off, .bool v.more] _ rfl (heap_set13w hR (.bool false) (.int .i64 v.head) (.int .i64 v.total) (.int .i64 v.ttl) (.int .i64 v.proto) (.int .u64 v.srcH) (.int .u64 v.srcL) (.int .u64 v.dstH) (.int .u64 v.dstL) (.bool v.frag) (.int .u32 v.id) (.int .i64 v.off) (.bool v.more)) Try.underlying43 (by kernel_rfl)) rfl ⟨rfl, ?_⟩
    exact below_set13 bw4 (by omega) _ _ _ _ _ _ _ _ _ _ _ _ _
  | true =>
    have h5b : (v.proto == 1) = false := by simp only [carriesP, h6, if_true] at h5; by_cases h : v.proto = 1 <;> simp [h] at h5 ⊢
    clear h5
    rw [h6] at cc
    clear h6
    go_enter Try.func13, Try.ntmps13
    go_wp2_with (with_reducible refine stop_op (o := ⟨some 7, _, _, _, _, _⟩) ?_)
    obtain ⟨w1, hw1⟩ : ∃ v, v = w.alloc (.cells #[.bool false, .int .i64 0, .int .i64 0, .int .i64 0, .int .i64 0, .int .u64 0, .int .u64 0, .int .u64 0, .int .u64 0, .bool false, .int .u32 0, .int .i64 0, .bool false] 43) := ⟨_, rfl⟩
    have hR : w1.heap[w.heap.size]? = some (.cells #[.bool false, .int .i64 0, .int .i64 0, .int .i64 0, .int .i64 0, .int .u64 0, .int .u64 0, .int .u64 0, .int .u64 0, .bool false, .int .u32 0, .int .i64 0, .bool false] 43 (0, 0)) := by rw [hw1]; exact al_neww rfl _
    have bw1 : Below w.heap.size w w1 := by rw [hw1]; exact Below.al (Below.refl _ _) _
    have hz1 : w.heap.size < w1.heap.size := (Array.getElem?_eq_some_iff.1 hR).1
    rw [← hw1]
    clear hw1
    obtain ⟨⟨r0, r1, r2, r3, r4, r5, r6, r7, r8, r9, r10, r11, r12⟩, q0, q1, q2, q3, q4, q5, q6, q7, q8, q9, q10, q11, q12⟩ := cells13 hR
    refine Lib.hid ?_
    go_wp2_with (with_reducible refine stop_op (o := ⟨some 17, _, _, _, _, _⟩) ?_)
    obtain ⟨w2, hw2⟩ : ∃ v, v = w1.alloc (.cells #[.bool false, .int .i64 0, .int .i64 0, .int .i64 0, .int .i64 0, .int .u64 0, .int .u64 0, .int .u64 0, .int .u64 0, .bool false, .int .u32 0, .int .i64 0, .bool false] 43) := ⟨_, rfl⟩
    have hV : w2.heap[w1.heap.size]? = some (.cells #[.bool false, .int .i64 0, .int .i64 0, .int .i64 0, .int .i64 0, .int .u64 0, .int .u64 0, .int .u64 0, .int .u64 0, .bool false, .int .u32 0, .int .i64 0, .bool false] 43 (0, 0)) := by rw [hw2]; exact al_neww rfl _
    have hRn : w2.heap[w.heap.size]? = some (.cells #[.bool false, .int .i64 0, .int .i64 0, .int .i64 0, .int .i64 0, .int .u64 0, .int .u64 0, .int .u64 0, .int .u64 0, .bool false, .int .u32 0, .int .i64 0, .bool false] 43 (0, 0)) := by rw [hw2, al_oldw hz1]; exact hR
    have bw2 : Below w.heap.size w w2 := by rw [hw2]; exact Below.al bw1 _
    have c1 := keepc bw2 c0
    have hne : w.heap.size ≠ w1.heap.size := by omega
    have hle : w.heap.size ≤ w1.heap.size := by omega
    rw [← hw2]
    clear hw2 hR c0 r0 r1 r2 r3 r4 r5 r6 r7 r8 r9 r10 r11 r12 q0 q1 q2 q3 q4 q5 q6 q7 q8 q9 q10 q11 q12
    have hR := hRn
    clear hRn
    obtain ⟨⟨r0, r1, r2, r3, r4, r5, r6, r7, r8, r9, r10, r11, r12⟩, q0, q1, q2, q3, q4, q5, q6, q7, q8, q9, q10, q11, q12⟩ := cells13 hR
    obtain ⟨⟨t0, t1, t2, t3, t4, t5, t6, t7, t8, t9, t10, t11, t12⟩, u0, u1, u2, u3, u4, u5, u6, u7, u8, u9, u10, u11, u12⟩ := cells13 hV
    refine Lib.hid ?_
    go_wp2_with (go_at_call 49; refine (cc _ bw2).mono ?_; rintro e w3 ⟨rfl, hb3⟩; refine Hid.out ?_)
    have bw3 : Below w.heap.size w w3 := bw2.trans (hb3.mono bw2.size)
    have hVn := hV_keep hb3 hV
    have hRn := hV_keep hb3 hR
    clear hb3 cc hR hV bw2 c1 t0 t1 t2 t3 t4 t5 t6 t7 t8 t9 t10 t11 t12 u0 u1 u2 u3 u4 u5 u6 u7 u8 u9 u10 u11 u12 r0 r1 r2 r3 r4 r5 r6 r7 r8 r9 r10 r11 r12 q0 q1 q2 q3 q4 q5 q6 q7 q8 q9 q10 q11 q12
    have hR := hRn
    have hV := hVn
    clear hRn hVn
    obtain ⟨⟨r0, r1, r2, r3, r4, r5, r6, r7, r8, r9, r10, r11, r12⟩, q0, q1, q2, q3, q4, q5, q6, q7, q8, q9, q10, q11, q12⟩ := cells13 hR
    obtain ⟨⟨t0, t1, t2, t3, t4, t5, t6, t7, t8, t9, t10, t11, t12⟩, u0, u1, u2, u3, u4, u5, u6, u7, u8, u9, u10, u11, u12⟩ := cells13 hV
    refine Lib.hid ?_
    go_wp2_with (with_reducible refine stop_op (o := ⟨some 34, _, _, _, _, _⟩) ?_)
    obtain ⟨w4, hw4⟩ : ∃ x, x = ((((((((((((w3.setCell ⟨w1.heap.size, 0, none⟩ (.bool true)).setCell ⟨w1.heap.size, 1, none⟩ (.int .i64 v.head)).setCell ⟨w1.heap.size, 2, none⟩ (.int .i64 v.total)).setCell ⟨w1.heap.size, 3, none⟩ (.int .i64 v.ttl)).setCell ⟨w1.heap.size, 4, none⟩ (.int .i64 v.proto)).setCell ⟨w1.heap.size, 5, none⟩ (.int .u64 v.srcH)).setCell ⟨w1.heap.size, 6, none⟩ (.int .u64 v.srcL)).setCell ⟨w1.heap.size, 7, none⟩ (.int .u64 v.dstH)).setCell ⟨w1.heap.size, 8, none⟩ (.int .u64 v.dstL)).setCell ⟨w1.heap.size, 9, none⟩ (.bool v.frag)).setCell ⟨w1.heap.size, 10, none⟩ (.int .u32 v.id)).setCell ⟨w1.heap.size, 11, none⟩ (.int .i64 v.off)).setCell ⟨w1.heap.size, 12, none⟩ (.bool v.more) := ⟨_, rfl⟩
    have hVn : w4.heap[w1.heap.size]? = some (.cells #[.bool true, .int .i64 v.head, .int .i64 v.total, .int .i64 v.ttl, .int .i64 v.proto, .int .u64 v.srcH, .int .u64 v.srcL, .int .u64 v.dstH, .int .u64 v.dstL, .bool v.frag, .int .u32 v.id, .int .i64 v.off, .bool v.more] 43 (0, 0)) := by rw [hw4]; exact heap_set13w hV _ _ _ _ _ _ _ _ _ _ _ _ _
    have hRn : w4.heap[w.heap.size]? = some (.cells #[.bool false, .int .i64 0, .int .i64 0, .int .i64 0, .int .i64 0, .int .u64 0, .int .u64 0, .int .u64 0, .int .u64 0, .bool false, .int .u32 0, .int .i64 0, .bool false] 43 (0, 0)) := by rw [hw4]; simp only [set_other (Ne.symm hne)]; exact hR
    have bw4 : Below w.heap.size w w4 := by rw [hw4]; exact below_set13 bw3 hle _ _ _ _ _ _ _ _ _ _ _ _ _
    rw [← hw4]
    clear hw4 hR hV bw3 t0 t1 t2 t3 t4 t5 t6 t7 t8 t9 t10 t11 t12 u0 u1 u2 u3 u4 u5 u6 u7 u8 u9 u10 u11 u12 r0 r1 r2 r3 r4 r5 r6 r7 r8 r9 r10 r11 r12 q0 q1 q2 q3 q4 q5 q6 q7 q8 q9 q10 q11 q12
    have hR := hRn
    have hV := hVn
    clear hRn hVn
    obtain ⟨⟨r0, r1, r2, r3, r4, r5, r6, r7, r8, r9, r10, r11, r12⟩, q0, q1, q2, q3, q4, q5, q6, q7, q8, q9, q10, q11, q12⟩ := cells13 hR
    obtain ⟨⟨t0, t1, t2, t3, t4, t5, t6, t7, t8, t9, t10, t11, t12⟩, u0, u1, u2, u3, u4, u5, u6, u7, u8, u9, u10, u11, u12⟩ := cells13 hV
    refine Lib.hid ?_
    go_wp2
    refine bodyPost_ret_by (res_row Try.results13 _ _ w.heap.size 43 #[.bool true, .int .i64 v.head, .int .i64 v.total, .int .i64 v.ttl, .int .i64 v.proto, .int .u64 v.srcH, .int .u64 v.srcL, .int .u64 v.dstH, .int .u64 v.dstL, .bool v.frag, .int .u32 v.id, .int .i64 v.off, .bool v.more] _ rfl (heap_set13w hR (.bool true) (.int .i64 v.head) (.int .i64 v.total) (.int .i64 v.ttl) (.int .i64 v.proto) (.int .u64 v.srcH) (.int .u64 v.srcL) (.int .u64 v.dstH) (.int .u64 v.dstL) (.bool v.frag) (.int .u32 v.id) (.int .i64 v.off) (.bool v.more)) Try.underlying43 (by kernel_rfl)) rfl ⟨rfl, ?_⟩
    exact below_set13 bw4 (by omega) _ _ _ _ _ _ _ _ _ _ _ _ _

set_option maxHeartbeats 2000000 in
set_option maxRecDepth 100000 in
theorem rq6_err (g o c n : Nat) (l : List UInt8) (hn : l.length = n) (h0 : 0 < n) (h1 : n ≤ 2048) (hc : n ≤ c) (hcm : c ≤ 9223372036854775807) (h2 : byN l 0 / 16 = 6) (h3 : (parse6P l).2 ≠ 0) {w : World} (hb : Byt w g o l) :
    Calls Try.prog 13 #[.slice (some ⟨g, o, none⟩) n c] w fun e w' => e = .returned (.tuple #[.agg (vcells zvw), .int .i64 (parse6P l).2]) ∧ Below w.heap.size w w' := by
  have i0 : ((n : Int) == 0) = false := by simp; omega
  have i1 : decide ((2048 : Int) < (n : Int)) = false := by simp; omega
  have i2 : decide (2048 < n) = false := by simp; omega
  have i3 : ¬ (2048 : Int) < (n : Int) := by omega
  have i4 : (0 : Int) < (n : Int) := by omega
  have c0 := by_cell hb hn 0 h0
  rw [Nat.add_zero] at c0
  have x8 := byN_lt l 0
  have e4 : (((byN l 0 : Nat) : Int) / 16 == 4) = false := by simp; omega
  have e6 : (((byN l 0 : Nat) : Int) / 16 == 6) = true := by simp; omega
  have cc := fun (W : World) (h : Below w.heap.size w W) => rparse6_any g o c n l hn hc hcm (hb.below h)
  generalize byN l 0 = X at *
  have x8i : (X : Int) < 256 := by omega
  clear hb hn
  generalize parse6P l = r at *
  obtain ⟨v, er⟩ := r
  simp only [vcells] at *
  have e0 : (er != 0) = true := by simpa using h3
  clear h3
  simp only [zvw]
  go_enter Try.func13, Try.ntmps13
  go_wp2_with (with_reducible refine stop_op (o := ⟨some 7, _, _, _, _, _⟩) ?_)
  obtain ⟨w1, hw1⟩ : ∃ v, v = w.alloc (.cells #[.bool false, .int .i64 0, .int .i64 0, .int .i64 0, .int .i64 0, .int .u64 0, .int .u64 0, .int .u64 0, .int .u64 0, .bool false, .int .u32 0, .int .i64 0, .bool false] 43) := ⟨_, rfl⟩
  have hR : w1.heap[w.heap.size]? = some (.cells #[.bool false, .int .i64 0, .int .i64 0, .int .i64 0, .int .i64 0, .int .u64 0, .int .u64 0, .int .u64 0, .int .u64 0, .bool false, .int .u32 0, .int .i64 0, .bool false] 43 (0, 0)) := by rw [hw1]; exact al_neww rfl _
  have bw1 : Below w.heap.size w w1 := by rw [hw1]; exact Below.al (Below.refl _ _) _
  have hz1 : w.heap.size < w1.heap.size := (Array.getElem?_eq_some_iff.1 hR).1
  rw [← hw1]
  clear hw1
  obtain ⟨⟨r0, r1, r2, r3, r4, r5, r6, r7, r8, r9, r10, r11, r12⟩, q0, q1, q2, q3, q4, q5, q6, q7, q8, q9, q10, q11, q12⟩ := cells13 hR
  refine Lib.hid ?_
  go_wp2_with (with_reducible refine stop_op (o := ⟨some 17, _, _, _, _, _⟩) ?_)
  obtain ⟨w2, hw2⟩ : ∃ v, v = w1.alloc (.cells #[.bool false, .int .i64 0, .int .i64 0, .int .i64 0, .int .i64 0, .int .u64 0, .int .u64 0, .int .u64 0, .int .u64 0, .bool false, .int .u32 0, .int .i64 0, .bool false] 43) := ⟨_, rfl⟩
  have hV : w2.heap[w1.heap.size]? = some (.cells #[.bool false, .int .i64 0, .int .i64 0, .int .i64 0, .int .i64 0, .int .u64 0, .int .u64 0, .int .u64 0, .int .u64 0, .bool false, .int .u32 0, .int .i64 0, .bool false] 43 (0, 0)) := by rw [hw2]; exact al_neww rfl _
  have hRn : w2.heap[w.heap.size]? = some (.cells #[.bool false, .int .i64 0, .int .i64 0, .int .i64 0, .int .i64 0, .int .u64 0, .int .u64 0, .int .u64 0, .int .u64 0, .bool false, .int .u32 0, .int .i64 0, .bool false] 43 (0, 0)) := by rw [hw2, al_oldw hz1]; exact hR
  have bw2 : Below w.heap.size w w2 := by rw [hw2]; exact Below.al bw1 _
  have c1 := keepc bw2 c0
  have hne : w.heap.size ≠ w1.heap.size := by omega
  have hle : w.heap.size ≤ w1.heap.size := by omega
  rw [← hw2]
  clear hw2 hR c0 r0 r1 r2 r3 r4 r5 r6 r7 r8 r9 r10 r11 r12 q0 q1 q2 q3 q4 q5 q6 q7 q8 q9 q10 q11 q12
  have hR := hRn
  clear hRn
  obtain ⟨⟨r0, r1, r2, r3, r4, r5, r6, r7, r8, r9, r10, r11, r12⟩, q0, q1, q2, q3, q4, q5, q6, q7, q8, q9, q10, q11, q12⟩ := cells13 hR
  obtain ⟨⟨t0, t1, t2, t3, t4, t5, t6, t7, t8, t9, t10, t11, t12⟩, u0, u1, u2, u3, u4, u5, u6, u7, u8, u9, u10, u11, u12⟩ := cells13 hV
  refine Lib.hid ?_
  go_wp2_with (go_at_call 50; refine (cc _ bw2).mono ?_; rintro e w3 ⟨rfl, hb3⟩; refine Hid.out ?_)
  have bw3 : Below w.heap.size w w3 := bw2.trans (hb3.mono bw2.size)
  have hVn := hV_keep hb3 hV
  have hRn := hV_keep hb3 hR
  clear hb3 cc hR hV bw2 c1 t0 t1 t2 t3 t4 t5 t6 t7 t8 t9 t10 t11 t12 u0 u1 u2 u3 u4 u5 u6 u7 u8 u9 u10 u11 u12 r0 r1 r2 r3 r4 r5 r6 r7 r8 r9 r10 r11 r12 q0 q1 q2 q3 q4 q5 q6 q7 q8 q9 q10 q11 q12
  have hR := hRn
  have hV := hVn
  clear hRn hVn
  obtain ⟨⟨r0, r1, r2, r3, r4, r5, r6, r7, r8, r9, r10, r11, r12⟩, q0, q1, q2, q3, q4, q5, q6, q7, q8, q9, q10, q11, q12⟩ := cells13 hR
  obtain ⟨⟨t0, t1, t2, t3, t4, t5, t6, t7, t8, t9, t10, t11, t12⟩, u0, u1, u2, u3, u4, u5, u6, u7, u8, u9, u10, u11, u12⟩ := cells13 hV
  refine Lib.hid ?_
  go_wp2_with (with_reducible refine stop_op (o := ⟨some 34, _, _, _, _, _⟩) ?_)
  obtain ⟨w4, hw4⟩ : ∃ x, x = ((((((((((((w3.setCell ⟨w1.heap.size, 0, none⟩ (.bool v.v6)).setCell ⟨w1.heap.size, 1, none⟩ (.int .i64 v.head)).setCell ⟨w1.heap.size, 2, none⟩ (.int .i64 v.total)).setCell ⟨w1.heap.size, 3, none⟩ (.int .i64 v.ttl)).setCell ⟨w1.heap.size, 4, none⟩ (.int .i64 v.proto)).setCell ⟨w1.heap.size, 5, none⟩ (.int .u64 v.srcH)).setCell ⟨w1.heap.size, 6, none⟩ (.int .u64 v.srcL)).setCell ⟨w1.heap.size, 7, none⟩ (.int .u64 v.dstH)).setCell ⟨w1.heap.size, 8, none⟩ (.int .u64 v.dstL)).setCell ⟨w1.heap.size, 9, none⟩ (.bool v.frag)).setCell ⟨w1.heap.size, 10, none⟩ (.int .u32 v.id)).setCell ⟨w1.heap.size, 11, none⟩ (.int .i64 v.off)).setCell ⟨w1.heap.size, 12, none⟩ (.bool v.more) := ⟨_, rfl⟩
  have hVn : w4.heap[w1.heap.size]? = some (.cells #[.bool v.v6, .int .i64 v.head, .int .i64 v.total, .int .i64 v.ttl, .int .i64 v.proto, .int .u64 v.srcH, .int .u64 v.srcL, .int .u64 v.dstH, .int .u64 v.dstL, .bool v.frag, .int .u32 v.id, .int .i64 v.off, .bool v.more] 43 (0, 0)) := by rw [hw4]; exact heap_set13w hV _ _ _ _ _ _ _ _ _ _ _ _ _
  have hRn : w4.heap[w.heap.size]? = some (.cells #[.bool false, .int .i64 0, .int .i64 0, .int .i64 0, .int .i64 0, .int .u64 0, .int .u64 0, .int .u64 0, .int .u64 0, .bool false, .int .u32 0, .int .i64 0, .bool false] 43 (0, 0)) := by rw [hw4]; simp only [set_other (Ne.symm hne)]; exact hR
  have bw4 : Below w.heap.size w w4 := by rw [hw4]; exact below_set13 bw3 hle _ _ _ _ _ _ _ _ _ _ _ _ _
  rw [← hw4]
  clear hw4 hR hV bw3 t0 t1 t2 t3 t4 t5 t6 t7 t8 t9 t10 t11 t12 u0 u1 u2 u3 u4 u5 u6 u7 u8 u9 u10 u11 u12 r0 r1 r2 r3 r4 r5 r6 r7 r8 r9 r10 r11 r12 q0 q1 q2 q3 q4 q5 q6 q7 q8 q9 q10 q11 q12
  have hR := hRn
  have hV := hVn
  clear hRn hVn
  obtain ⟨⟨r0, r1, r2, r3, r4, r5, r6, r7, r8, r9, r10, r11, r12⟩, q0, q1, q2, q3, q4, q5, q6, q7, q8, q9, q10, q11, q12⟩ := cells13 hR
  obtain ⟨⟨t0, t1, t2, t3, t4, t5, t6, t7, t8, t9, t10, t11, t12⟩, u0, u1, u2, u3, u4, u5, u6, u7, u8, u9, u10, u11, u12⟩ := cells13 hV
  refine Lib.hid ?_
  go_wp2
  refine bodyPost_ret_by (res_row Try.results13 _ _ w.heap.size 43 #[.bool false, .int .i64 0, .int .i64 0, .int .i64 0, .int .i64 0, .int .u64 0, .int .u64 0, .int .u64 0, .int .u64 0, .bool false, .int .u32 0, .int .i64 0, .bool false] _ rfl (heap_set13w hR (.bool false) (.int .i64 0) (.int .i64 0) (.int .i64 0) (.int .i64 0) (.int .u64 0) (.int .u64 0) (.int .u64 0) (.int .u64 0) (.bool false) (.int .u32 0) (.int .i64 0) (.bool false)) Try.underlying43 (by kernel_rfl)) rfl ⟨rfl, ?_⟩
  exact below_set13 bw4 (by omega) _ _ _ _ _ _ _ _ _ _ _ _ _

set_option maxHeartbeats 2000000 in
set_option maxRecDepth 100000 in
theorem rq6_far (g o c n : Nat) (l : List UInt8) (hn : l.length = n) (h0 : 0 < n) (h1 : n ≤ 2048) (hc : n ≤ c) (hcm : c ≤ 9223372036854775807) (h2 : byN l 0 / 16 = 6) (h3 : (parse6P l).2 = 0) (h4 : 65535 < (parse6P l).1.off + (parse6P l).1.total - (parse6P l).1.head) {w : World} (hb : Byt w g o l) :
    Calls Try.prog 13 #[.slice (some ⟨g, o, none⟩) n c] w fun e w' => e = .returned (.tuple #[.agg (vcells zvw), .int .i64 42]) ∧ Below w.heap.size w w' := by
  have i0 : ((n : Int) == 0) = false := by simp; omega
  have i1 : decide ((2048 : Int) < (n : Int)) = false := by simp; omega
  have i2 : decide (2048 < n) = false := by simp; omega
  have i3 : ¬ (2048 : Int) < (n : Int) := by omega
  have i4 : (0 : Int) < (n : Int) := by omega
  have c0 := by_cell hb hn 0 h0
  rw [Nat.add_zero] at c0
  have x8 := byN_lt l 0
  have e4 : (((byN l 0 : Nat) : Int) / 16 == 4) = false := by simp; omega
  have e6 : (((byN l 0 : Nat) : Int) / 16 == 6) = true := by simp; omega
  have cc := fun (W : World) (h : Below w.heap.size w W) => rparse6_any g o c n l hn hc hcm (hb.below h)
  have hbd : 0 ≤ (parse6P l).1.off ∧ (parse6P l).1.off ≤ 65535 ∧ 20 ≤ (parse6P l).1.head ∧ (parse6P l).1.head ≤ 48 ∧ (parse6P l).1.head ≤ (parse6P l).1.total ∧ (parse6P l).1.total ≤ l.length := by
    have e := parseP_6 (by omega) (by omega) h2
    have := innerP_bounds (l := l) (by rw [e]; exact h3)
    rw [e] at this
    omega
  rw [hn] at hbd
  generalize byN l 0 = X at *
  have x8i : (X : Int) < 256 := by omega
  clear hb hn
  generalize parse6P l = r at *
  obtain ⟨v, er⟩ := r
  simp only [vcells] at *
  obtain rfl : er = 0 := h3
  obtain ⟨d0, d1, d2, d3, d4, d5⟩ := hbd
  have s1 : IntKind.i64.wrap (v.off + v.total) = v.off + v.total := by rw [IntKind.wrap_i64]; omega
  have s2 : IntKind.i64.wrap (v.off + v.total - v.head) = v.off + v.total - v.head := by rw [IntKind.wrap_i64]; omega
  have s3 : 0 ≤ v.off + v.total := by omega
  have s4 : v.off + v.total < 70000 := by omega
  have s5 : 0 ≤ v.head := by omega
  have s6 : v.head < 100 := by omega
  have e1 : decide (65535 < v.off + v.total - v.head) = true := by simp; omega
  have e2 : 65535 < v.off + v.total - v.head := h4
  clear h4
  simp only [zvw]
  go_enter Try.func13, Try.ntmps13
  go_wp2_with (with_reducible refine stop_op (o := ⟨some 7, _, _, _, _, _⟩) ?_)
  obtain ⟨w1, hw1⟩ : ∃ v, v = w.alloc (.cells #[.bool false, .int .i64 0, .int .i64 0, .int .i64 0, .int .i64 0, .int .u64 0, .int .u64 0, .int .u64 0, .int .u64 0, .bool false, .int .u32 0, .int .i64 0, .bool false] 43) := ⟨_, rfl⟩
  have hR : w1.heap[w.heap.size]? = some (.cells #[.bool false, .int .i64 0, .int .i64 0, .int .i64 0, .int .i64 0, .int .u64 0, .int .u64 0, .int .u64 0, .int .u64 0, .bool false, .int .u32 0, .int .i64 0, .bool false] 43 (0, 0)) := by rw [hw1]; exact al_neww rfl _
  have bw1 : Below w.heap.size w w1 := by rw [hw1]; exact Below.al (Below.refl _ _) _
  have hz1 : w.heap.size < w1.heap.size := (Array.getElem?_eq_some_iff.1 hR).1
  rw [← hw1]
  clear hw1
  obtain ⟨⟨r0, r1, r2, r3, r4, r5, r6, r7, r8, r9, r10, r11, r12⟩, q0, q1, q2, q3, q4, q5, q6, q7, q8, q9, q10, q11, q12⟩ := cells13 hR
  refine Lib.hid ?_
  go_wp2_with (with_reducible refine stop_op (o := ⟨some 17, _, _, _, _, _⟩) ?_)
  obtain ⟨w2, hw2⟩ : ∃ v, v = w1.alloc (.cells #[.bool false, .int .i64 0, .int .i64 0, .int .i64 0, .int .i64 0, .int .u64 0, .int .u64 0, .int .u64 0, .int .u64 0, .bool false, .int .u32 0, .int .i64 0, .bool false] 43) := ⟨_, rfl⟩
  have hV : w2.heap[w1.heap.size]? = some (.cells #[.bool false, .int .i64 0, .int .i64 0, .int .i64 0, .int .i64 0, .int .u64 0, .int .u64 0, .int .u64 0, .int .u64 0, .bool false, .int .u32 0, .int .i64 0, .bool false] 43 (0, 0)) := by rw [hw2]; exact al_neww rfl _
  have hRn : w2.heap[w.heap.size]? = some (.cells #[.bool false, .int .i64 0, .int .i64 0, .int .i64 0, .int .i64 0, .int .u64 0, .int .u64 0, .int .u64 0, .int .u64 0, .bool false, .int .u32 0, .int .i64 0, .bool false] 43 (0, 0)) := by rw [hw2, al_oldw hz1]; exact hR
  have bw2 : Below w.heap.size w w2 := by rw [hw2]; exact Below.al bw1 _
  have c1 := keepc bw2 c0
  have hne : w.heap.size ≠ w1.heap.size := by omega
  have hle : w.heap.size ≤ w1.heap.size := by omega
  rw [← hw2]
  clear hw2 hR c0 r0 r1 r2 r3 r4 r5 r6 r7 r8 r9 r10 r11 r12 q0 q1 q2 q3 q4 q5 q6 q7 q8 q9 q10 q11 q12
  have hR := hRn
  clear hRn
  obtain ⟨⟨r0, r1, r2, r3, r4, r5, r6, r7, r8, r9, r10, r11, r12⟩, q0, q1, q2, q3, q4, q5, q6, q7, q8, q9, q10, q11, q12⟩ := cells13 hR
  obtain ⟨⟨t0, t1, t2, t3, t4, t5, t6, t7, t8, t9, t10, t11, t12⟩, u0, u1, u2, u3, u4, u5, u6, u7, u8, u9, u10, u11, u12⟩ := cells13 hV
  refine Lib.hid ?_
  go_wp2_with (go_at_call 50; refine (cc _ bw2).mono ?_; rintro e w3 ⟨rfl, hb3⟩; refine Hid.out ?_)
  have bw3 : Below w.heap.size w w3 := bw2.trans (hb3.mono bw2.size)
  have hVn := hV_keep hb3 hV
  have hRn := hV_keep hb3 hR
  clear hb3 cc hR hV bw2 c1 t0 t1 t2 t3 t4 t5 t6 t7 t8 t9 t10 t11 t12 u0 u1 u2 u3 u4 u5 u6 u7 u8 u9 u10 u11 u12 r0 r1 r2 r3 r4 r5 r6 r7 r8 r9 r10 r11 r12 q0 q1 q2 q3 q4 q5 q6 q7 q8 q9 q10 q11 q12
  have hR := hRn
  have hV := hVn
  clear hRn hVn
  obtain ⟨⟨r0, r1, r2, r3, r4, r5, r6, r7, r8, r9, r10, r11, r12⟩, q0, q1, q2, q3, q4, q5, q6, q7, q8, q9, q10, q11, q12⟩ := cells13 hR
  obtain ⟨⟨t0, t1, t2, t3, t4, t5, t6, t7, t8, t9, t10, t11, t12⟩, u0, u1, u2, u3, u4, u5, u6, u7, u8, u9, u10, u11, u12⟩ := cells13 hV
  refine Lib.hid ?_
  go_wp2_with (with_reducible refine stop_op (o := ⟨some 34, _, _, _, _, _⟩) ?_)
  obtain ⟨w4, hw4⟩ : ∃ x, x = ((((((((((((w3.setCell ⟨w1.heap.size, 0, none⟩ (.bool v.v6)).setCell ⟨w1.heap.size, 1, none⟩ (.int .i64 v.head)).setCell ⟨w1.heap.size, 2, none⟩ (.int .i64 v.total)).setCell ⟨w1.heap.size, 3, none⟩ (.int .i64 v.ttl)).setCell ⟨w1.heap.size, 4, none⟩ (.int .i64 v.proto)).setCell ⟨w1.heap.size, 5, none⟩ (.int .u64 v.srcH)).setCell ⟨w1.heap.size, 6, none⟩ (.int .u64 v.srcL)).setCell ⟨w1.heap.size, 7, none⟩ (.int .u64 v.dstH)).setCell ⟨w1.heap.size, 8, none⟩ (.int .u64 v.dstL)).setCell ⟨w1.heap.size, 9, none⟩ (.bool v.frag)).setCell ⟨w1.heap.size, 10, none⟩ (.int .u32 v.id)).setCell ⟨w1.heap.size, 11, none⟩ (.int .i64 v.off)).setCell ⟨w1.heap.size, 12, none⟩ (.bool v.more) := ⟨_, rfl⟩
  have hVn : w4.heap[w1.heap.size]? = some (.cells #[.bool v.v6, .int .i64 v.head, .int .i64 v.total, .int .i64 v.ttl, .int .i64 v.proto, .int .u64 v.srcH, .int .u64 v.srcL, .int .u64 v.dstH, .int .u64 v.dstL, .bool v.frag, .int .u32 v.id, .int .i64 v.off, .bool v.more] 43 (0, 0)) := by rw [hw4]; exact heap_set13w hV _ _ _ _ _ _ _ _ _ _ _ _ _
  have hRn : w4.heap[w.heap.size]? = some (.cells #[.bool false, .int .i64 0, .int .i64 0, .int .i64 0, .int .i64 0, .int .u64 0, .int .u64 0, .int .u64 0, .int .u64 0, .bool false, .int .u32 0, .int .i64 0, .bool false] 43 (0, 0)) := by rw [hw4]; simp only [set_other (Ne.symm hne)]; exact hR
  have bw4 : Below w.heap.size w w4 := by rw [hw4]; exact below_set13 bw3 hle _ _ _ _ _ _ _ _ _ _ _ _ _
  rw [← hw4]
  clear hw4 hR hV bw3 t0 t1 t2 t3 t4 t5 t6 t7 t8 t9 t10 t11 t12 u0 u1 u2 u3 u4 u5 u6 u7 u8 u9 u10 u11 u12 r0 r1 r2 r3 r4 r5 r6 r7 r8 r9 r10 r11 r12 q0 q1 q2 q3 q4 q5 q6 q7 q8 q9 q10 q11 q12
  have hR := hRn
  have hV := hVn
  clear hRn hVn
  obtain ⟨⟨r0, r1, r2, r3, r4, r5, r6, r7, r8, r9, r10, r11, r12⟩, q0, q1, q2, q3, q4, q5, q6, q7, q8, q9, q10, q11, q12⟩ := cells13 hR
  obtain ⟨⟨t0, t1, t2, t3, t4, t5, t6, t7, t8, t9, t10, t11, t12⟩, u0, u1, u2, u3, u4, u5, u6, u7, u8, u9, u10, u11, u12⟩ := cells13 hV
  refine Lib.hid ?_
  go_wp2
  refine bodyPost_ret_by (res_row Try.results13 _ _ w.heap.size 43 #[.bool false, .int .i64 0, .int .i64 0, .int .i64 0, .int .i64 0, .int .u64 0, .int .u64 0, .int .u64 0, .int .u64 0, .bool false, .int .u32 0, .int .i64 0, .bool false] _ rfl (heap_set13w hR (.bool false) (.int .i64 0) (.int .i64 0) (.int .i64 0) (.int .i64 0) (.int .u64 0) (.int .u64 0) (.int .u64 0) (.int .u64 0) (.bool false) (.int .u32 0) (.int .i64 0) (.bool false)) Try.underlying43 (by kernel_rfl)) rfl ⟨rfl, ?_⟩
  exact below_set13 bw4 (by omega) _ _ _ _ _ _ _ _ _ _ _ _ _

set_option maxHeartbeats 2000000 in
set_option maxRecDepth 100000 in
theorem rq6_bad (g o c n : Nat) (l : List UInt8) (hn : l.length = n) (h0 : 0 < n) (h1 : n ≤ 2048) (hc : n ≤ c) (hcm : c ≤ 9223372036854775807) (h2 : byN l 0 / 16 = 6) (h3 : (parse6P l).2 = 0) (h4 : (parse6P l).1.off + (parse6P l).1.total - (parse6P l).1.head ≤ 65535) (h5 : carriesP (parse6P l).1.v6 (parse6P l).1.proto = false) {w : World} (hb : Byt w g o l) :
    Calls Try.prog 13 #[.slice (some ⟨g, o, none⟩) n c] w fun e w' => e = .returned (.tuple #[.agg (vcells zvw), .int .i64 42]) ∧ Below w.heap.size w w' := by
  have i0 : ((n : Int) == 0) = false := by simp; omega
  have i1 : decide ((2048 : Int) < (n : Int)) = false := by simp; omega
  have i2 : decide (2048 < n) = false := by simp; omega
  have i3 : ¬ (2048 : Int) < (n : Int) := by omega
  have i4 : (0 : Int) < (n : Int) := by omega
  have c0 := by_cell hb hn 0 h0
  rw [Nat.add_zero] at c0
  have x8 := byN_lt l 0
  have e4 : (((byN l 0 : Nat) : Int) / 16 == 4) = false := by simp; omega
  have e6 : (((byN l 0 : Nat) : Int) / 16 == 6) = true := by simp; omega
  have cc := fun (W : World) (h : Below w.heap.size w W) => rparse6_any g o c n l hn hc hcm (hb.below h)
  have hbd : 0 ≤ (parse6P l).1.off ∧ (parse6P l).1.off ≤ 65535 ∧ 20 ≤ (parse6P l).1.head ∧ (parse6P l).1.head ≤ 48 ∧ (parse6P l).1.head ≤ (parse6P l).1.total ∧ (parse6P l).1.total ≤ l.length := by
    have e := parseP_6 (by omega) (by omega) h2
    have := innerP_bounds (l := l) (by rw [e]; exact h3)
    rw [e] at this
    omega
  rw [hn] at hbd
  generalize byN l 0 = X at *
  have x8i : (X : Int) < 256 := by omega
  clear hb hn
  generalize parse6P l = r at *
  obtain ⟨v, er⟩ := r
  simp only [vcells] at *
  obtain rfl : er = 0 := h3
  obtain ⟨d0, d1, d2, d3, d4, d5⟩ := hbd
  have s1 : IntKind.i64.wrap (v.off + v.total) = v.off + v.total := by rw [IntKind.wrap_i64]; omega
  have s2 : IntKind.i64.wrap (v.off + v.total - v.head) = v.off + v.total - v.head := by rw [IntKind.wrap_i64]; omega
  have s3 : 0 ≤ v.off + v.total := by omega
  have s4 : v.off + v.total < 70000 := by omega
  have s5 : 0 ≤ v.head := by omega
  have s6 : v.head < 100 := by omega
  have e1 : decide (65535 < v.off + v.total - v.head) = false := by simp; omega
  have e2 : ¬ 65535 < v.off + v.total - v.head := by omega
  clear h4
  simp only [zvw]
  cases h6 : v.v6 with
  | false =>
    have h5b : (v.proto == 58) = true := by simp only [carriesP, h6, Bool.false_eq_true, if_false] at h5; by_cases h : v.proto = 58 <;> simp [h] at h5 ⊢
    clear h5
    rw [h6] at cc
    clear h6
    go_enter Try.func13, Try.ntmps13
    go_wp2_with (with_reducible refine stop_op (o := ⟨some 7, _, _, _, _, _⟩) ?_)
    obtain ⟨w1, hw1⟩ : ∃ v, v = w.alloc (.cells #[.bool false, .int .i64 0, .int .i64 0, .int .i64 0, .int .i64 0, .int .u64 0, .int .u64 0, .int .u64 0, .int .u64 0, .bool false, .int .u32 0, .int .i64 0, .bool false] 43) := ⟨_, rfl⟩
    have hR : w1.heap[w.heap.size]? = some (.cells #[.bool false, .int .i64 0, .int .i64 0, .int .i64 0, .int .i64 0, .int .u64 0, .int .u64 0, .int .u64 0, .int .u64 0, .bool false, .int .u32 0, .int .i64 0, .bool false] 43 (0, 0)) := by rw [hw1]; exact al_neww rfl _
    have bw1 : Below w.heap.size w w1 := by rw [hw1]; exact Below.al (Below.refl _ _) _
    have hz1 : w.heap.size < w1.heap.size := (Array.getElem?_eq_some_iff.1 hR).1
    rw [← hw1]
    clear hw1
    obtain ⟨⟨r0, r1, r2, r3, r4, r5, r6, r7, r8, r9, r10, r11, r12⟩, q0, q1, q2, q3, q4, q5, q6, q7, q8, q9, q10, q11, q12⟩ := cells13 hR
    refine Lib.hid ?_
    go_wp2_with (with_reducible refine stop_op (o := ⟨some 17, _, _, _, _, _⟩) ?_)
    obtain ⟨w2, hw2⟩ : ∃ v, v = w1.alloc (.cells #[.bool false, .int .i64 0, .int .i64 0, .int .i64 0, .int .i64 0, .int .u64 0, .int .u64 0, .int .u64 0, .int .u64 0, .bool false, .int .u32 0, .int .i64 0, .bool false] 43) := ⟨_, rfl⟩
    have hV : w2.heap[w1.heap.size]? = some (.cells #[.bool false, .int .i64 0, .int .i64 0, .int .i64 0, .int .i64 0, .int .u64 0, .int .u64 0, .int .u64 0, .int .u64 0, .bool false, .int .u32 0, .int .i64 0, .bool false] 43 (0, 0)) := by rw [hw2]; exact al_neww rfl _
    have hRn : w2.heap[w.heap.size]? = some (.cells #[.bool false, .int .i64 0, .int .i64 0, .int .i64 0, .int .i64 0, .int .u64 0, .int .u64 0, .int .u64 0, .int .u64 0, .bool false, .int .u32 0, .int .i64 0, .bool false] 43 (0, 0)) := by rw [hw2, al_oldw hz1]; exact hR
    have bw2 : Below w.heap.size w w2 := by rw [hw2]; exact Below.al bw1 _
    have c1 := keepc bw2 c0
    have hne : w.heap.size ≠ w1.heap.size := by omega
    have hle : w.heap.size ≤ w1.heap.size := by omega
    rw [← hw2]
    clear hw2 hR c0 r0 r1 r2 r3 r4 r5 r6 r7 r8 r9 r10 r11 r12 q0 q1 q2 q3 q4 q5 q6 q7 q8 q9 q10 q11 q12
    have hR := hRn
    clear hRn
    obtain ⟨⟨r0, r1, r2, r3, r4, r5, r6, r7, r8, r9, r10, r11, r12⟩, q0, q1, q2, q3, q4, q5, q6, q7, q8, q9, q10, q11, q12⟩ := cells13 hR
    obtain ⟨⟨t0, t1, t2, t3, t4, t5, t6, t7, t8, t9, t10, t11, t12⟩, u0, u1, u2, u3, u4, u5, u6, u7, u8, u9, u10, u11, u12⟩ := cells13 hV
    refine Lib.hid ?_
    go_wp2_with (go_at_call 50; refine (cc _ bw2).mono ?_; rintro e w3 ⟨rfl, hb3⟩; refine Hid.out ?_)
    have bw3 : Below w.heap.size w w3 := bw2.trans (hb3.mono bw2.size)
    have hVn := hV_keep hb3 hV
    have hRn := hV_keep hb3 hR
    clear hb3 cc hR hV bw2 c1 t0 t1 t2 t3 t4 t5 t6 t7 t8 t9 t10 t11 t12 u0 u1 u2 u3 u4 u5 u6 u7 u8 u9 u10 u11 u12 r0 r1 r2 r3 r4 r5 r6 r7 r8 r9 r10 r11 r12 q0 q1 q2 q3 q4 q5 q6 q7 q8 q9 q10 q11 q12
    have hR := hRn
    have hV := hVn
    clear hRn hVn
    obtain ⟨⟨r0, r1, r2, r3, r4, r5, r6, r7, r8, r9, r10, r11, r12⟩, q0, q1, q2, q3, q4, q5, q6, q7, q8, q9, q10, q11, q12⟩ := cells13 hR
    obtain ⟨⟨t0, t1, t2, t3, t4, t5, t6, t7, t8, t9, t10, t11, t12⟩, u0, u1, u2, u3, u4, u5, u6, u7, u8, u9, u10, u11, u12⟩ := cells13 hV
    refine Lib.hid ?_
    go_wp2_with (with_reducible refine stop_op (o := ⟨some 34, _, _, _, _, _⟩) ?_)
    obtain ⟨w4, hw4⟩ : ∃ x, x = ((((((((((((w3.setCell ⟨w1.heap.size, 0, none⟩ (.bool false)).setCell ⟨w1.heap.size, 1, none⟩ (.int .i64 v.head)).setCell ⟨w1.heap.size, 2, none⟩ (.int .i64 v.total)).setCell ⟨w1.heap.size, 3, none⟩ (.int .i64 v.ttl)).setCell ⟨w1.heap.size, 4, none⟩ (.int .i64 v.proto)).setCell ⟨w1.heap.size, 5, none⟩ (.int .u64 v.srcH)).setCell ⟨w1.heap.size, 6, none⟩ (.int .u64 v.srcL)).setCell ⟨w1.heap.size, 7, none⟩ (.int .u64 v.dstH)).setCell ⟨w1.heap.size, 8, none⟩ (.int .u64 v.dstL)).setCell ⟨w1.heap.size, 9, none⟩ (.bool v.frag)).setCell ⟨w1.heap.size, 10, none⟩ (.int .u32 v.id)).setCell ⟨w1.heap.size, 11, none⟩ (.int .i64 v.off)).setCell ⟨w1.heap.size, 12, none⟩ (.bool v.more) := ⟨_, rfl⟩
    have hVn : w4.heap[w1.heap.size]? = some (.cells #[.bool false, .int .i64 v.head, .int .i64 v.total, .int .i64 v.ttl, .int .i64 v.proto, .int .u64 v.srcH, .int .u64 v.srcL, .int .u64 v.dstH, .int .u64 v.dstL, .bool v.frag, .int .u32 v.id, .int .i64 v.off, .bool v.more] 43 (0, 0)) := by rw [hw4]; exact heap_set13w hV _ _ _ _ _ _ _ _ _ _ _ _ _
    have hRn : w4.heap[w.heap.size]? = some (.cells #[.bool false, .int .i64 0, .int .i64 0, .int .i64 0, .int .i64 0, .int .u64 0, .int .u64 0, .int .u64 0, .int .u64 0, .bool false, .int .u32 0, .int .i64 0, .bool false] 43 (0, 0)) := by rw [hw4]; simp only [set_other (Ne.symm hne)]; exact hR
    have bw4 : Below w.heap.size w w4 := by rw [hw4]; exact below_set13 bw3 hle _ _ _ _ _ _ _ _ _ _ _ _ _
    rw [← hw4]
    clear hw4 hR hV bw3 t0 t1 t2 t3 t4 t5 t6 t7 t8 t9 t10 t11 t12 u0 u1 u2 u3 u4 u5 u6 u7 u8 u9 u10 u11 u12 r0 r1 r2 r3 r4 r5 r6 r7 r8 r9 r10 r11 r12 q0 q1 q2 q3 q4 q5 q6 q7 q8 q9 q10 q11 q12
    have hR := hRn
    have hV := hVn
    clear hRn hVn
    obtain ⟨⟨r0, r1, r2, r3, r4, r5, r6, r7, r8, r9, r10, r11, r12⟩, q0, q1, q2, q3, q4, q5, q6, q7, q8, q9, q10, q11, q12⟩ := cells13 hR
    obtain ⟨⟨t0, t1, t2, t3, t4, t5, t6, t7, t8, t9, t10, t11, t12⟩, u0, u1, u2, u3, u4, u5, u6, u7, u8, u9, u10, u11, u12⟩ := cells13 hV
    refine Lib.hid ?_
    go_wp2
    refine bodyPost_ret_by (res_row Try.results13 _ _ w.heap.size 43 #[.bool false, .int .i64 0, .int .i64 0, .int .i64 0, .int .i64 0, .int .u64 0, .int .u64 0, .int .u64 0, .int .u64 0, .bool false, .int .u32 0, .int .i64 0, .bool false] _ rfl (heap_set13w hR (.bool false) (.int .i64 0) (.int .i64 0) (.int .i64 0) (.int .i64 0) (.int .u64 0) (.int .u64 0) (.int .u64 0) (.int .u64 0) (.bool false) (.int .u32 0) (.int .i64 0) (.bool false)) Try.underlying43 (by kernel_rfl)) rfl ⟨rfl, ?_⟩
    exact below_set13 bw4 (by omega) _ _ _ _ _ _ _ _ _ _ _ _ _
  | true =>
    have h5b : (v.proto == 1) = true := by simp only [carriesP, h6, if_true] at h5; by_cases h : v.proto = 1 <;> simp [h] at h5 ⊢
    clear h5
    rw [h6] at cc
    clear h6
    go_enter Try.func13, Try.ntmps13
    go_wp2_with (with_reducible refine stop_op (o := ⟨some 7, _, _, _, _, _⟩) ?_)
    obtain ⟨w1, hw1⟩ : ∃ v, v = w.alloc (.cells #[.bool false, .int .i64 0, .int .i64 0, .int .i64 0, .int .i64 0, .int .u64 0, .int .u64 0, .int .u64 0, .int .u64 0, .bool false, .int .u32 0, .int .i64 0, .bool false] 43) := ⟨_, rfl⟩
    have hR : w1.heap[w.heap.size]? = some (.cells #[.bool false, .int .i64 0, .int .i64 0, .int .i64 0, .int .i64 0, .int .u64 0, .int .u64 0, .int .u64 0, .int .u64 0, .bool false, .int .u32 0, .int .i64 0, .bool false] 43 (0, 0)) := by rw [hw1]; exact al_neww rfl _
    have bw1 : Below w.heap.size w w1 := by rw [hw1]; exact Below.al (Below.refl _ _) _
    have hz1 : w.heap.size < w1.heap.size := (Array.getElem?_eq_some_iff.1 hR).1
    rw [← hw1]
    clear hw1
    obtain ⟨⟨r0, r1, r2, r3, r4, r5, r6, r7, r8, r9, r10, r11, r12⟩, q0, q1, q2, q3, q4, q5, q6, q7, q8, q9, q10, q11, q12⟩ := cells13 hR
    refine Lib.hid ?_
    go_wp2_with (with_reducible refine stop_op (o := ⟨some 17, _, _, _, _, _⟩) ?_)
    obtain ⟨w2, hw2⟩ : ∃ v, v = w1.alloc (.cells #[.bool false, .int .i64 0, .int .i64 0, .int .i64 0, .int .i64 0, .int .u64 0, .int .u64 0, .int .u64 0, .int .u64 0, .bool false, .int .u32 0, .int .i64 0, .bool false] 43) := ⟨_, rfl⟩
    have hV : w2.heap[w1.heap.size]? = some (.cells #[.bool false, .int .i64 0, .int .i64 0, .int .i64 0, .int .i64 0, .int .u64 0, .int .u64 0, .int .u64 0, .int .u64 0, .bool false, .int .u32 0, .int .i64 0, .bool false] 43 (0, 0)) := by rw [hw2]; exact al_neww rfl _
    have hRn : w2.heap[w.heap.size]? = some (.cells #[.bool false, .int .i64 0, .int .i64 0, .int .i64 0, .int .i64 0, .int .u64 0, .int .u64 0, .int .u64 0, .int .u64 0, .bool false, .int .u32 0, .int .i64 0, .bool false] 43 (0, 0)) := by rw [hw2, al_oldw hz1]; exact hR
    have bw2 : Below w.heap.size w w2 := by rw [hw2]; exact Below.al bw1 _
    have c1 := keepc bw2 c0
    have hne : w.heap.size ≠ w1.heap.size := by omega
    have hle : w.heap.size ≤ w1.heap.size := by omega
    rw [← hw2]
    clear hw2 hR c0 r0 r1 r2 r3 r4 r5 r6 r7 r8 r9 r10 r11 r12 q0 q1 q2 q3 q4 q5 q6 q7 q8 q9 q10 q11 q12
    have hR := hRn
    clear hRn
    obtain ⟨⟨r0, r1, r2, r3, r4, r5, r6, r7, r8, r9, r10, r11, r12⟩, q0, q1, q2, q3, q4, q5, q6, q7, q8, q9, q10, q11, q12⟩ := cells13 hR
    obtain ⟨⟨t0, t1, t2, t3, t4, t5, t6, t7, t8, t9, t10, t11, t12⟩, u0, u1, u2, u3, u4, u5, u6, u7, u8, u9, u10, u11, u12⟩ := cells13 hV
    refine Lib.hid ?_
    go_wp2_with (go_at_call 50; refine (cc _ bw2).mono ?_; rintro e w3 ⟨rfl, hb3⟩; refine Hid.out ?_)
    have bw3 : Below w.heap.size w w3 := bw2.trans (hb3.mono bw2.size)
    have hVn := hV_keep hb3 hV
    have hRn := hV_keep hb3 hR
    clear hb3 cc hR hV bw2 c1 t0 t1 t2 t3 t4 t5 t6 t7 t8 t9 t10 t11 t12 u0 u1 u2 u3 u4 u5 u6 u7 u8 u9 u10 u11 u12 r0 r1 r2 r3 r4 r5 r6 r7 r8 r9 r10 r11 r12 q0 q1 q2 q3 q4 q5 q6 q7 q8 q9 q10 q11 q12
    have hR := hRn
    have hV := hVn
    clear hRn hVn
    obtain ⟨⟨r0, r1, r2, r3, r4, r5, r6, r7, r8, r9, r10, r11, r12⟩, q0, q1, q2, q3, q4, q5, q6, q7, q8, q9, q10, q11, q12⟩ := cells13 hR
    obtain ⟨⟨t0, t1, t2, t3, t4, t5, t6, t7, t8, t9, t10, t11, t12⟩, u0, u1, u2, u3, u4, u5, u6, u7, u8, u9, u10, u11, u12⟩ := cells13 hV
    refine Lib.hid ?_
    go_wp2_with (with_reducible refine stop_op (o := ⟨some 34, _, _, _, _, _⟩) ?_)
    obtain ⟨w4, hw4⟩ : ∃ x, x = ((((((((((((w3.setCell ⟨w1.heap.size, 0, none⟩ (.bool true)).setCell ⟨w1.heap.size, 1, none⟩ (.int .i64 v.head)).setCell ⟨w1.heap.size, 2, none⟩ (.int .i64 v.total)).setCell ⟨w1.heap.size, 3, none⟩ (.int .i64 v.ttl)).setCell ⟨w1.heap.size, 4, none⟩ (.int .i64 v.proto)).setCell ⟨w1.heap.size, 5, none⟩ (.int .u64 v.srcH)).setCell ⟨w1.heap.size, 6, none⟩ (.int .u64 v.srcL)).setCell ⟨w1.heap.size, 7, none⟩ (.int .u64 v.dstH)).setCell ⟨w1.heap.size, 8, none⟩ (.int .u64 v.dstL)).setCell ⟨w1.heap.size, 9, none⟩ (.bool v.frag)).setCell ⟨w1.heap.size, 10, none⟩ (.int .u32 v.id)).setCell ⟨w1.heap.size, 11, none⟩ (.int .i64 v.off)).setCell ⟨w1.heap.size, 12, none⟩ (.bool v.more) := ⟨_, rfl⟩
    have hVn : w4.heap[w1.heap.size]? = some (.cells #[.bool true, .int .i64 v.head, .int .i64 v.total, .int .i64 v.ttl, .int .i64 v.proto, .int .u64 v.srcH, .int .u64 v.srcL, .int .u64 v.dstH, .int .u64 v.dstL, .bool v.frag, .int .u32 v.id, .int .i64 v.off, .bool v.more] 43 (0, 0)) := by rw [hw4]; exact heap_set13w hV _ _ _ _ _ _ _ _ _ _ _ _ _
    have hRn : w4.heap[w.heap.size]? = some (.cells #[.bool false, .int .i64 0, .int .i64 0, .int .i64 0, .int .i64 0, .int .u64 0, .int .u64 0, .int .u64 0, .int .u64 0, .bool false, .int .u32 0, .int .i64 0, .bool false] 43 (0, 0)) := by rw [hw4]; simp only [set_other (Ne.symm hne)]; exact hR
    have bw4 : Below w.heap.size w w4 := by rw [hw4]; exact below_set13 bw3 hle _ _ _ _ _ _ _ _ _ _ _ _ _
    rw [← hw4]
    clear hw4 hR hV bw3 t0 t1 t2 t3 t4 t5 t6 t7 t8 t9 t10 t11 t12 u0 u1 u2 u3 u4 u5 u6 u7 u8 u9 u10 u11 u12 r0 r1 r2 r3 r4 r5 r6 r7 r8 r9 r10 r11 r12 q0 q1 q2 q3 q4 q5 q6 q7 q8 q9 q10 q11 q12
    have hR := hRn
    have hV := hVn
    clear hRn hVn
    obtain ⟨⟨r0, r1, r2, r3, r4, r5, r6, r7, r8, r9, r10, r11, r12⟩, q0, q1, q2, q3, q4, q5, q6, q7, q8, q9, q10, q11, q12⟩ := cells13 hR
    obtain ⟨⟨t0, t1, t2, t3, t4, t5, t6, t7, t8, t9, t10, t11, t12⟩, u0, u1, u2, u3, u4, u5, u6, u7, u8, u9, u10, u11, u12⟩ := cells13 hV
    refine Lib.hid ?_
    go_wp2
    refine bodyPost_ret_by (res_row Try.results13 _ _ w.heap.size 43 #[.bool false, .int .i64 0, .int .i64 0, .int .i64 0, .int .i64 0, .int .u64 0, .int .u64 0, .int .u64 0, .int .u64 0, .bool false, .int .u32 0, .int .i64 0, .bool false] _ rfl (heap_set13w hR (.bool false) (.int .i64 0) (.int .i64 0) (.int .i64 0) (.int .i64 0) (.int .u64 0) (.int .u64 0) (.int .u64 0) (.int .u64 0) (.bool false) (.int .u32 0) (.int .i64 0) (.bool false)) Try.underlying43 (by kernel_rfl)) rfl ⟨rfl, ?_⟩
    exact below_set13 bw4 (by omega) _ _ _ _ _ _ _ _ _ _ _ _ _

set_option maxHeartbeats 2000000 in
set_option maxRecDepth 100000 in
theorem rq6_ok (g o c n : Nat) (l : List UInt8) (hn : l.length = n) (h0 : 0 < n) (h1 : n ≤ 2048) (hc : n ≤ c) (hcm : c ≤ 9223372036854775807) (h2 : byN l 0 / 16 = 6) (h3 : (parse6P l).2 = 0) (h4 : (parse6P l).1.off + (parse6P l).1.total - (parse6P l).1.head ≤ 65535) (h5 : carriesP (parse6P l).1.v6 (parse6P l).1.proto = true) {w : World} (hb : Byt w g o l) :
    Calls Try.prog 13 #[.slice (some ⟨g, o, none⟩) n c] w fun e w' => e = .returned (.tuple #[.agg (vcells (parse6P l).1), .int .i64 0]) ∧ Below w.heap.size w w' := by
  have i0 : ((n : Int) == 0) = false := by simp; omega
  have i1 : decide ((2048 : Int) < (n : Int)) = false := by simp; omega
  have i2 : decide (2048 < n) = false := by simp; omega
  have i3 : ¬ (2048 : Int) < (n : Int) := by omega
  have i4 : (0 : Int) < (n : Int) := by omega
  have c0 := by_cell hb hn 0 h0
  rw [Nat.add_zero] at c0
  have x8 := byN_lt l 0
  have e4 : (((byN l 0 : Nat) : Int) / 16 == 4) = false := by simp; omega
  have e6 : (((byN l 0 : Nat) : Int) / 16 == 6) = true := by simp; omega
  have cc := fun (W : World) (h : Below w.heap.size w W) => rparse6_any g o c n l hn hc hcm (hb.below h)
  have hbd : 0 ≤ (parse6P l).1.off ∧ (parse6P l).1.off ≤ 65535 ∧ 20 ≤ (parse6P l).1.head ∧ (parse6P l).1.head ≤ 48 ∧ (parse6P l).1.head ≤ (parse6P l).1.total ∧ (parse6P l).1.total ≤ l.length := by
    have e := parseP_6 (by omega) (by omega) h2
    have := innerP_bounds (l := l) (by rw [e]; exact h3)
    rw [e] at this
    omega
  rw [hn] at hbd
  generalize byN l 0 = X at *
  have x8i : (X : Int) < 256 := by omega
  clear hb hn
  generalize parse6P l = r at *
  obtain ⟨v, er⟩ := r
  simp only [vcells] at *
  obtain rfl : er = 0 := h3
  obtain ⟨d0, d1, d2, d3, d4, d5⟩ := hbd
  have s1 : IntKind.i64.wrap (v.off + v.total) = v.off + v.total := by rw [IntKind.wrap_i64]; omega
  have s2 : IntKind.i64.wrap (v.off + v.total - v.head) = v.off + v.total - v.head := by rw [IntKind.wrap_i64]; omega
  have s3 : 0 ≤ v.off + v.total := by omega
  have s4 : v.off + v.total < 70000 := by omega
  have s5 : 0 ≤ v.head := by omega
  have s6 : v.head < 100 := by omega
  have e1 : decide (65535 < v.off + v.total - v.head) = false := by simp; omega
  have e2 : ¬ 65535 < v.off + v.total - v.head := by omega
  clear h4
  cases h6 : v.v6 with
  | false =>
    have h5b : (v.proto == 58) = false := by simp only [carriesP, h6, Bool.false_eq_true, if_false] at h5; by_cases h : v.proto = 58 <;> simp [h] at h5 ⊢
    clear h5
    rw [h6] at cc
    clear h6
    go_enter Try.func13, Try.ntmps13
    go_wp2_with (with_reducible refine stop_op (o := ⟨some 7, _, _, _, _, _⟩) ?_)
    obtain ⟨w1, hw1⟩ : ∃ v, v = w.alloc (.cells #[.bool false, .int .i64 0, .int .i64 0, .int .i64 0, .int .i64 0, .int .u64 0, .int .u64 0, .int .u64 0, .int .u64 0, .bool false, .int .u32 0, .int .i64 0, .bool false] 43) := ⟨_, rfl⟩
    have hR : w1.heap[w.heap.size]? = some (.cells #[.bool false, .int .i64 0, .int .i64 0, .int .i64 0, .int .i64 0, .int .u64 0, .int .u64 0, .int .u64 0, .int .u64 0, .bool false, .int .u32 0, .int .i64 0, .bool false] 43 (0, 0)) := by rw [hw1]; exact al_neww rfl _
    have bw1 : Below w.heap.size w w1 := by rw [hw1]; exact Below.al (Below.refl _ _) _
    have hz1 : w.heap.size < w1.heap.size := (Array.getElem?_eq_some_iff.1 hR).1
    rw [← hw1]
    clear hw1
    obtain ⟨⟨r0, r1, r2, r3, r4, r5, r6, r7, r8, r9, r10, r11, r12⟩, q0, q1, q2, q3, q4, q5, q6, q7, q8, q9, q10, q11, q12⟩ := cells13 hR
    refine Lib.hid ?_
    go_wp2_with (with_reducible refine stop_op (o := ⟨some 17, _, _, _, _, _⟩) ?_)
    obtain ⟨w2, hw2⟩ : ∃ v, v = w1.alloc (.cells #[.bool false, .int .i64 0, .int .i64 0, .int .i64 0, .int .i64 0, .int .u64 0, .int .u64 0, .int .u64 0, .int .u64 0, .bool false, .int .u32 0, .int .i64 0, .bool false] 43) := ⟨_, rfl⟩
    have hV : w2.heap[w1.heap.size]? = some (.cells #[.bool false, .int .i64 0, .int .i64 0, .int .i64 0, .int .i64 0, .int .u64 0, .int .u64 0, .int .u64 0, .int .u64 0, .bool false, .int .u32 0, .int .i64 0, .bool false] 43 (0, 0)) := by rw [hw2]; exact al_neww rfl _
    have hRn : w2.heap[w.heap.size]? = some (.cells #[.bool false, .int .i64 0, .int .i64 0, .int .i64 0, .int .i64 0, .int .u64 0, .int .u64 0, .int .u64 0, .int .u64 0, .bool false, .int .u32 0, .int .i64 0, .bool false] 43 (0, 0)) := by rw [hw2, al_oldw hz1]; exact hR
    have bw2 : Below w.heap.size w w2 := by rw [hw2]; exact Below.al bw1 _
    have c1 := keepc bw2 c0
    have hne : w.heap.size ≠ w1.heap.size := by omega
    have hle : w.heap.size ≤ w1.heap.size := by omega
    rw [← hw2]
    clear hw2 hR c0 r0 r1 r2 r3 r4 r5 r6 r7 r8 r9 r10 r11 r12 q0 q1 q2 q3 q4 q5 q6 q7 q8 q9 q10 q11 q12
    have hR := hRn
    clear hRn
    obtain ⟨⟨r0, r1, r2, r3, r4, r5, r6, r7, r8, r9, r10, r11, r12⟩, q0, q1, q2, q3, q4, q5, q6, q7, q8, q9, q10, q11, q12⟩ := cells13 hR
    obtain ⟨⟨t0, t1, t2, t3, t4, t5, t6, t7, t8, t9, t10, t11, t12⟩, u0, u1, u2, u3, u4, u5, u6, u7, u8, u9, u10, u11, u12⟩ := cells13 hV
    refine Lib.hid ?_
    go_wp2_with (go_at_call 50; refine (cc _ bw2).mono ?_; rintro e w3 ⟨rfl, hb3⟩; refine Hid.out ?_)
    have bw3 : Below w.heap.size w w3 := bw2.trans (hb3.mono bw2.size)
    have hVn := hV_keep hb3 hV
    have hRn := hV_keep hb3 hR
    clear hb3 cc hR hV bw2 c1 t0 t1 t2 t3 t4 t5 t6 t7 t8 t9 t10 t11 t12 u0 u1 u2 u3 u4 u5 u6 u7 u8 u9 u10 u11 u12 r0 r1 r2 r3 r4 r5 r6 r7 r8 r9 r10 r11 r12 q0 q1 q2 q3 q4 q5 q6 q7 q8 q9 q10 q11 q12
    have hR := hRn
    have hV := hVn
    clear hRn hVn
    obtain ⟨⟨r0, r1, r2, r3, r4, r5, r6, r7, r8, r9, r10, r11, r12⟩, q0, q1, q2, q3, q4, q5, q6, q7, q8, q9, q10, q11, q12⟩ := cells13 hR
    obtain ⟨⟨t0, t1, t2, t3, t4, t5, t6, t7, t8, t9, t10, t11, t12⟩, u0, u1, u2, u3, u4, u5, u6, u7, u8, u9, u10, u11, u12⟩ := cells13 hV
    refine Lib.hid ?_
    go_wp2_with (with_reducible refine stop_op (o := ⟨some 34, _, _, _, _, _⟩) ?_)
    obtain ⟨w4, hw4⟩ : ∃ x, x = ((((((((((((w3.setCell ⟨w1.heap.size, 0, none⟩ (.bool false)).setCell ⟨w1.heap.size, 1, none⟩ (.int .i64 v.head)).setCell ⟨w1.heap.size, 2, none⟩ (.int .i64 v.total)).setCell ⟨w1.heap.size, 3, none⟩ (.int .i64 v.ttl)).setCell ⟨w1.heap.size, 4, none⟩ (.int .i64 v.proto)).setCell ⟨w1.heap.size, 5, none⟩ (.int .u64 v.srcH)).setCell ⟨w1.heap.size, 6, none⟩ (.int .u64 v.srcL)).setCell ⟨w1.heap.size, 7, none⟩ (.int .u64 v.dstH)).setCell ⟨w1.heap.size, 8, none⟩ (.int .u64 v.dstL)).setCell ⟨w1.heap.size, 9, none⟩ (.bool v.frag)).setCell ⟨w1.heap.size, 10, none⟩ (.int .u32 v.id)).setCell ⟨w1.heap.size, 11, none⟩ (.int .i64 v.off)).setCell ⟨w1.heap.size, 12, none⟩ (.bool v.more) := ⟨_, rfl⟩
    have hVn : w4.heap[w1.heap.size]? = some (.cells #[.bool false, .int .i64 v.head, .int .i64 v.total, .int .i64 v.ttl, .int .i64 v.proto, .int .u64 v.srcH, .int .u64 v.srcL, .int .u64 v.dstH, .int .u64 v.dstL, .bool v.frag, .int .u32 v.id, .int .i64 v.off, .bool v.more] 43 (0, 0)) := by rw [hw4]; exact heap_set13w hV _ _ _ _ _ _ _ _ _ _ _ _ _
    have hRn : w4.heap[w.heap.size]? = some (.cells #[.bool false, .int .i64 0, .int .i64 0, .int .i64 0, .int .i64 0, .int .u64 0, .int .u64 0, .int .u64 0, .int .u64 0, .bool false, .int .u32 0, .int .i64 0, .bool false] 43 (0, 0)) := by rw [hw4]; simp only [set_other (Ne.symm hne)]; exact hR
    have bw4 : Below w.heap.size w w4 := by rw [hw4]; exact below_set13 bw3 hle _ _ _ _ _ _ _ _ _ _ _ _ _
    rw [← hw4]
    clear hw4 hR hV bw3 t0 t1 t2 t3 t4 t5 t6 t7 t8 t9 t10 t11 t12 u0 u1 u2 u3 u4 u5 u6 u7 u8 u9 u10 u11 u12 r0 r1 r2 r3 r4 r5 r6 r7 r8 r9 r10 r11 r12 q0 q1 q2 q3 q4 q5 q6 q7 q8 q9 q10 q11 q12
    have hR := hRn
    have hV := hVn
    clear hRn hVn
    obtain ⟨⟨r0, r1, r2, r3, r4, r5, r6, r7, r8, r9, r10, r11, r12⟩, q0, q1, q2, q3, q4, q5, q6, q7, q8, q9, q10, q11, q12⟩ := cells13 hR
    obtain ⟨⟨t0, t1, t2, t3, t4, t5, t6, t7, t8, t9, t10, t11, t12⟩, u0, u1, u2, u3, u4, u5, u6, u7, u8, u9, u10, u11, u12⟩ := cells13 hV
    refine Lib.hid ?_
    go_wp2
    refine bodyPost_ret_by (res_row Try.results13 _ _ w.heap.size 43 #[.bool false, .int .i64 v.head, .int .i64 v.total, .int .i64 v.ttl, .int .i64 v.proto, .int .u64 v.srcH, .int .u64 v.srcL, .int .u64 v.dstH, .int .u64 v.dstL, .bool v.frag, .int .u32 v.id, .int .i64 v.off, .bool v.more] _ rfl (heap_set13w hR (.bool false) (.int .i64 v.head) (.int .i64 v.total) (.int .i64 v.ttl) (.int .i64 v.proto) (.int .u64 v.srcH) (.int .u64 v.srcL) (.int .u64 v.dstH) (.int .u64 v.dstL) (.bool v.frag) (.int .u32 v.id) (.int .i64 v.off) (.bool v.more)) Try.underlying43 (by kernel_rfl)) rfl ⟨rfl, ?_⟩
    exact below_set13 bw4 (by omega) _ _ _ _ _ _ _ _ _ _ _ _ _
  | true =>
    have h5b : (v.proto == 1) = false := by simp only [carriesP, h6, if_true] at h5; by_cases h : v.proto = 1 <;> simp [h] at h5 ⊢
    clear h5
    rw [h6] at cc
    clear h6
    go_enter Try.func13, Try.ntmps13
    go_wp2_with (with_reducible refine stop_op (o := ⟨some 7, _, _, _, _, _⟩) ?_)
    obtain ⟨w1, hw1⟩ : ∃ v, v = w.alloc (.cells #[.bool false, .int .i64 0, .int .i64 0, .int .i64 0, .int .i64 0, .int .u64 0, .int .u64 0, .int .u64 0, .int .u64 0, .bool false, .int .u32 0, .int .i64 0, .bool false] 43) := ⟨_, rfl⟩
    have hR : w1.heap[w.heap.size]? = some (.cells #[.bool false, .int .i64 0, .int .i64 0, .int .i64 0, .int .i64 0, .int .u64 0, .int .u64 0, .int .u64 0, .int .u64 0, .bool false, .int .u32 0, .int .i64 0, .bool false] 43 (0, 0)) := by rw [hw1]; exact al_neww rfl _
    have bw1 : Below w.heap.size w w1 := by rw [hw1]; exact Below.al (Below.refl _ _) _
    have hz1 : w.heap.size < w1.heap.size := (Array.getElem?_eq_some_iff.1 hR).1
    rw [← hw1]
    clear hw1
    obtain ⟨⟨r0, r1, r2, r3, r4, r5, r6, r7, r8, r9, r10, r11, r12⟩, q0, q1, q2, q3, q4, q5, q6, q7, q8, q9, q10, q11, q12⟩ := cells13 hR
    refine Lib.hid ?_
    go_wp2_with (with_reducible refine stop_op (o := ⟨some 17, _, _, _, _, _⟩) ?_)
    obtain ⟨w2, hw2⟩ : ∃ v, v = w1.alloc (.cells #[.bool false, .int .i64 0, .int .i64 0, .int .i64 0, .int .i64 0, .int .u64 0, .int .u64 0, .int .u64 0, .int .u64 0, .bool false, .int .u32 0, .int .i64 0, .bool false] 43) := ⟨_, rfl⟩
    have hV : w2.heap[w1.heap.size]? = some (.cells #[.bool false, .int .i64 0, .int .i64 0, .int .i64 0, .int .i64 0, .int .u64 0, .int .u64 0, .int .u64 0, .int .u64 0, .bool false, .int .u32 0, .int .i64 0, .bool false] 43 (0, 0)) := by rw [hw2]; exact al_neww rfl _
    have hRn : w2.heap[w.heap.size]? = some (.cells #[.bool false, .int .i64 0, .int .i64 0, .int .i64 0, .int .i64 0, .int .u64 0, .int .u64 0, .int .u64 0, .int .u64 0, .bool false, .int .u32 0, .int .i64 0, .bool false] 43 (0, 0)) := by rw [hw2, al_oldw hz1]; exact hR
    have bw2 : Below w.heap.size w w2 := by rw [hw2]; exact Below.al bw1 _
    have c1 := keepc bw2 c0
    have hne : w.heap.size ≠ w1.heap.size := by omega
    have hle : w.heap.size ≤ w1.heap.size := by omega
    rw [← hw2]
    clear hw2 hR c0 r0 r1 r2 r3 r4 r5 r6 r7 r8 r9 r10 r11 r12 q0 q1 q2 q3 q4 q5 q6 q7 q8 q9 q10 q11 q12
    have hR := hRn
    clear hRn
    obtain ⟨⟨r0, r1, r2, r3, r4, r5, r6, r7, r8, r9, r10, r11, r12⟩, q0, q1, q2, q3, q4, q5, q6, q7, q8, q9, q10, q11, q12⟩ := cells13 hR
    obtain ⟨⟨t0, t1, t2, t3, t4, t5, t6, t7, t8, t9, t10, t11, t12⟩, u0, u1, u2, u3, u4, u5, u6, u7, u8, u9, u10, u11, u12⟩ := cells13 hV
    refine Lib.hid ?_
    go_wp2_with (go_at_call 50; refine (cc _ bw2).mono ?_; rintro e w3 ⟨rfl, hb3⟩; refine Hid.out ?_)
    have bw3 : Below w.heap.size w w3 := bw2.trans (hb3.mono bw2.size)
    have hVn := hV_keep hb3 hV
    have hRn := hV_keep hb3 hR
    clear hb3 cc hR hV bw2 c1 t0 t1 t2 t3 t4 t5 t6 t7 t8 t9 t10 t11 t12 u0 u1 u2 u3 u4 u5 u6 u7 u8 u9 u10 u11 u12 r0 r1 r2 r3 r4 r5 r6 r7 r8 r9 r10 r11 r12 q0 q1 q2 q3 q4 q5 q6 q7 q8 q9 q10 q11 q12
    have hR := hRn
    have hV := hVn
    clear hRn hVn
    obtain ⟨⟨r0, r1, r2, r3, r4, r5, r6, r7, r8, r9, r10, r11, r12⟩, q0, q1, q2, q3, q4, q5, q6, q7, q8, q9, q10, q11, q12⟩ := cells13 hR
    obtain ⟨⟨t0, t1, t2, t3, t4, t5, t6, t7, t8, t9, t10, t11, t12⟩, u0, u1, u2, u3, u4, u5, u6, u7, u8, u9, u10, u11, u12⟩ := cells13 hV
    refine Lib.hid ?_
    go_wp2_with (with_reducible refine stop_op (o := ⟨some 34, _, _, _, _, _⟩) ?_)
    obtain ⟨w4, hw4⟩ : ∃ x, x = ((((((((((((w3.setCell ⟨w1.heap.size, 0, none⟩ (.bool true)).setCell ⟨w1.heap.size, 1, none⟩ (.int .i64 v.head)).setCell ⟨w1.heap.size, 2, none⟩ (.int .i64 v.total)).setCell ⟨w1.heap.size, 3, none⟩ (.int .i64 v.ttl)).setCell ⟨w1.heap.size, 4, none⟩ (.int .i64 v.proto)).setCell ⟨w1.heap.size, 5, none⟩ (.int .u64 v.srcH)).setCell ⟨w1.heap.size, 6, none⟩ (.int .u64 v.srcL)).setCell ⟨w1.heap.size, 7, none⟩ (.int .u64 v.dstH)).setCell ⟨w1.heap.size, 8, none⟩ (.int .u64 v.dstL)).setCell ⟨w1.heap.size, 9, none⟩ (.bool v.frag)).setCell ⟨w1.heap.size, 10, none⟩ (.int .u32 v.id)).setCell ⟨w1.heap.size, 11, none⟩ (.int .i64 v.off)).setCell ⟨w1.heap.size, 12, none⟩ (.bool v.more) := ⟨_, rfl⟩
    have hVn : w4.heap[w1.heap.size]? = some (.cells #[.bool true, .int .i64 v.head, .int .i64 v.total, .int .i64 v.ttl, .int .i64 v.proto, .int .u64 v.srcH, .int .u64 v.srcL, .int .u64 v.dstH, .int .u64 v.dstL, .bool v.frag, .int .u32 v.id, .int .i64 v.off, .bool v.more] 43 (0, 0)) := by rw [hw4]; exact heap_set13w hV _ _ _ _ _ _ _ _ _ _ _ _ _
    have hRn : w4.heap[w.heap.size]? = some (.cells #[.bool false, .int .i64 0, .int .i64 0, .int .i64 0, .int .i64 0, .int .u64 0, .int .u64 0, .int .u64 0, .int .u64 0, .bool false, .int .u32 0, .int .i64 0, .bool false] 43 (0, 0)) := by rw [hw4]; simp only [set_other (Ne.symm hne)]; exact hR
    have bw4 : Below w.heap.size w w4 := by rw [hw4]; exact below_set13 bw3 hle _ _ _ _ _ _ _ _ _ _ _ _ _
    rw [← hw4]
    clear hw4 hR hV bw3 t0 t1 t2 t3 t4 t5 t6 t7 t8 t9 t10 t11 t12 u0 u1 u2 u3 u4 u5 u6 u7 u8 u9 u10 u11 u12 r0 r1 r2 r3 r4 r5 r6 r7 r8 r9 r10 r11 r12 q0 q1 q2 q3 q4 q5 q6 q7 q8 q9 q10 q11 q12
    have hR := hRn
    have hV := hVn
    clear hRn hVn
    obtain ⟨⟨r0, r1, r2, r3, r4, r5, r6, r7, r8, r9, r10, r11, r12⟩, q0, q1, q2, q3, q4, q5, q6, q7, q8, q9, q10, q11, q12⟩ := cells13 hR
    obtain ⟨⟨t0, t1, t2, t3, t4, t5, t6, t7, t8, t9, t10, t11, t12⟩, u0, u1, u2, u3, u4, u5, u6, u7, u8, u9, u10, u11, u12⟩ := cells13 hV
    refine Lib.hid ?_
    go_wp2
    refine bodyPost_ret_by (res_row Try.results13 _ _ w.heap.size 43 #[.bool true, .int .i64 v.head, .int .i64 v.total, .int .i64 v.ttl, .int .i64 v.proto, .int .u64 v.srcH, .int .u64 v.srcL, .int .u64 v.dstH, .int .u64 v.dstL, .bool v.frag, .int .u32 v.id, .int .i64 v.off, .bool v.more] _ rfl (heap_set13w hR (.bool true) (.int .i64 v.head) (.int .i64 v.total) (.int .i64 v.ttl) (.int .i64 v.proto) (.int .u64 v.srcH) (.int .u64 v.srcL) (.int .u64 v.dstH) (.int .u64 v.dstL) (.bool v.frag) (.int .u32 v.id) (.int .i64 v.off) (.bool v.more)) Try.underlying43 (by kernel_rfl)) rfl ⟨rfl, ?_⟩
    exact below_set13 bw4 (by omega) _ _ _ _ _ _ _ _ _ _ _ _ _

/-- Network headers: the document's own reading. -/
theorem rparse_any (A : Option Addr) (n c : Nat) (l : List UInt8) {w : World} (h : BytArg w A n c l) :
    Calls Try.prog 13 #[.slice A n c] w fun e w' => e = .returned (.tuple #[.agg (vcells (parseP l).1), .int .i64 (parseP l).2]) ∧ Below w.heap.size w w' := by
  obtain ⟨hn, hc, hcm, hs⟩ := h
  unfold maxLen at hcm
  by_cases h0 : n = 0
  · have e : parseP l = (zvw, 40) := by unfold parseP; rw [parseP_nil (by omega)]; rfl
    rw [e]; exact rq_nil A n c h0
  by_cases h1 : 2048 < n
  · have e : parseP l = (zvw, 42) := by unfold parseP; rw [parseP_big (by omega)]; rfl
    rw [e]; exact rq_big A n c h1 (by omega)
  obtain ⟨g, o, rfl, hb⟩ := hs (by omega)
  by_cases h2 : byN l 0 / 16 = 4
  · skip
    have ei := parseP_4 (l := l) (by omega) (by omega) h2
    unfold parseP outerP
    rw [ei]
    by_cases h3 : (parse4P l).2 = 0
    · rw [if_neg (by omega)]
      by_cases h4 : 65535 < (parse4P l).1.off + (parse4P l).1.total - (parse4P l).1.head
      · rw [if_pos h4]; exact rq4_far g o c n l hn (by omega) (by omega) hc hcm h2 h3 h4 hb
      rw [if_neg h4]
      by_cases h5 : carriesP (parse4P l).1.v6 (parse4P l).1.proto = true
      · rw [if_pos h5, h3]; exact rq4_ok g o c n l hn (by omega) (by omega) hc hcm h2 h3 (by omega) h5 hb
      · rw [if_neg h5]; exact rq4_bad g o c n l hn (by omega) (by omega) hc hcm h2 h3 (by omega) (eq_false_of_ne_true h5) hb
    · rw [if_pos h3]; exact rq4_err g o c n l hn (by omega) (by omega) hc hcm h2 h3 hb
  by_cases h3 : byN l 0 / 16 = 6
  · skip
    have ei := parseP_6 (l := l) (by omega) (by omega) h3
    unfold parseP outerP
    rw [ei]
    by_cases h9 : (parse6P l).2 = 0
    · rw [if_neg (by omega)]
      by_cases h4 : 65535 < (parse6P l).1.off + (parse6P l).1.total - (parse6P l).1.head
      · rw [if_pos h4]; exact rq6_far g o c n l hn (by omega) (by omega) hc hcm h3 h9 h4 hb
      rw [if_neg h4]
      by_cases h5 : carriesP (parse6P l).1.v6 (parse6P l).1.proto = true
      · rw [if_pos h5, h9]; exact rq6_ok g o c n l hn (by omega) (by omega) hc hcm h3 h9 (by omega) h5 hb
      · rw [if_neg h5]; exact rq6_bad g o c n l hn (by omega) (by omega) hc hcm h3 h9 (by omega) (eq_false_of_ne_true h5) hb
    · rw [if_pos h9]; exact rq6_err g o c n l hn (by omega) (by omega) hc hcm h3 h9 hb
  have e : parseP l = (zvw, 41) := by unfold parseP; rw [parseP_no (by omega) (by omega) h2 h3]; rfl
  rw [e]; exact rq_no g o c n l hn (by omega) (by omega) hc hcm h2 h3 hb
end Go.Proofs.Ytpmbdjdhgcjkfaa
