/- Network headers: the program's Parse; by-name template (gen_wparse.py). -/
import Derived.Test.YtpmbdjdhgcjkfaaWP6
import Derived.Test.YtpmbdjdhgcjkfaaWFrame
namespace Go.Proofs.Ytpmbdjdhgcjkfaa
open Go.RowKit Go.Sort
set_option linter.unusedVariables false
set_option linter.unusedSimpArgs false

theorem parseP_nil {l : List UInt8} (h : l.length = 0) : innerP l = (zvw, 40) := by unfold innerP; rw [if_pos h]
theorem parseP_big {l : List UInt8} (h : 2048 < l.length) : innerP l = (zvw, 42) := by unfold innerP; rw [if_neg (by omega), if_pos h]
theorem parseP_4 {l : List UInt8} (h : 0 < l.length) (h1 : l.length ≤ 2048) (h2 : byN l 0 / 16 = 4) : innerP l = parse4P l := by unfold innerP; rw [if_neg (by omega), if_neg (by omega), if_pos h2]
theorem parseP_6 {l : List UInt8} (h : 0 < l.length) (h1 : l.length ≤ 2048) (h2 : byN l 0 / 16 = 6) : innerP l = parse6P l := by unfold innerP; rw [if_neg (by omega), if_neg (by omega), if_neg (by omega), if_pos h2]
theorem parseP_no {l : List UInt8} (h : 0 < l.length) (h1 : l.length ≤ 2048) (h2 : byN l 0 / 16 ≠ 4) (h3 : byN l 0 / 16 ≠ 6) : innerP l = (zvw, 41) := by unfold innerP; rw [if_neg (by omega), if_neg (by omega), if_neg h2, if_neg h3]
theorem innerP_bounds {l : List UInt8} (h : (innerP l).2 = 0) : 0 ≤ (innerP l).1.off ∧ (innerP l).1.off ≤ 65535 ∧ 20 ≤ (innerP l).1.head ∧ (innerP l).1.head ≤ 48 ∧ (innerP l).1.head ≤ (innerP l).1.total ∧ (innerP l).1.total ≤ l.length ∧ 0 ≤ (innerP l).1.proto ∧ (innerP l).1.proto < 256 ∧ 0 ≤ (innerP l).1.ttl ∧ (innerP l).1.ttl < 256 ∧ 0 ≤ (innerP l).1.id ∧ (innerP l).1.id < 4294967296 := by
  obtain ⟨k1, k2, ⟨_, k3⟩ | ⟨_, k3⟩⟩ := innerP_ok h
  · rw [k3] at h ⊢
    obtain ⟨p1, p2, p3, p4, p5, p6, p7⟩ := parse4P_ok h
    have a1 := byN_lt l 9
    have a2 := byN_lt l 8
    have a3 := nb2_lt l 4
    rw [p7]
    simp only [partP, view4]
    omega
  · rw [k3] at h ⊢
    have a1 := byN_lt l 6
    have a2 := byN_lt l 7
    have a3 := nb4_lt l 44
    have a4 := nb2_lt l 42
    have a5 := byN_lt l 40
    obtain ⟨p1, p2, p3, p4, ⟨p5, p7⟩ | ⟨p5, p6, p6', p7⟩⟩ := parse6P_ok h
    · rw [p7]
      simp only [view6]
      omega
    · rw [p7]
      simp only [partP, view6]
      omega

set_option maxHeartbeats 2000000 in
set_option maxRecDepth 100000 in
theorem inner_nil (A : Option Addr) (n c : Nat) (h : n = 0) {w : World} :
    Calls Try.prog 47 #[.slice A n c] w fun e w' => e = .returned (.tuple #[.agg (vcells zvw), .int .i64 40]) ∧ Below w.heap.size w w' := by
  subst h
  simp only [vcells, zvw]
  go_enter Try.func47, Try.ntmps47
  go_wp2_with (with_reducible refine stop_op (o := ⟨some 6, _, _, _, _, _⟩) ?_)
  obtain ⟨w1, hw1⟩ : ∃ v, v = w.alloc (.cells #[.bool false, .int .i64 0, .int .i64 0, .int .i64 0, .int .i64 0, .int .u64 0, .int .u64 0, .int .u64 0, .int .u64 0, .bool false, .int .u32 0, .int .i64 0, .bool false] 40) := ⟨_, rfl⟩
  have hR : w1.heap[w.heap.size]? = some (.cells #[.bool false, .int .i64 0, .int .i64 0, .int .i64 0, .int .i64 0, .int .u64 0, .int .u64 0, .int .u64 0, .int .u64 0, .bool false, .int .u32 0, .int .i64 0, .bool false] 40 (0, 0)) := by rw [hw1]; exact al_neww rfl _
  have bw1 : Below w.heap.size w w1 := by rw [hw1]; exact Below.al (Below.refl _ _) _
  rw [← hw1]
  clear hw1
  obtain ⟨⟨r0, r1, r2, r3, r4, r5, r6, r7, r8, r9, r10, r11, r12⟩, q0, q1, q2, q3, q4, q5, q6, q7, q8, q9, q10, q11, q12⟩ := cells13 hR
  refine Lib.hid ?_
  go_wp2
  refine bodyPost_ret_by (res_row Try.results47 _ _ w.heap.size 40 #[.bool false, .int .i64 0, .int .i64 0, .int .i64 0, .int .i64 0, .int .u64 0, .int .u64 0, .int .u64 0, .int .u64 0, .bool false, .int .u32 0, .int .i64 0, .bool false] _ rfl (heap_set13w hR (.bool false) (.int .i64 0) (.int .i64 0) (.int .i64 0) (.int .i64 0) (.int .u64 0) (.int .u64 0) (.int .u64 0) (.int .u64 0) (.bool false) (.int .u32 0) (.int .i64 0) (.bool false)) Try.underlying40 (by kernel_rfl)) rfl ⟨rfl, ?_⟩
  exact below_set13 bw1 (by omega) _ _ _ _ _ _ _ _ _ _ _ _ _

set_option maxHeartbeats 2000000 in
set_option maxRecDepth 100000 in
theorem inner_big (A : Option Addr) (n c : Nat) (h : 2048 < n) (hm : n ≤ 9223372036854775807) {w : World} :
    Calls Try.prog 47 #[.slice A n c] w fun e w' => e = .returned (.tuple #[.agg (vcells zvw), .int .i64 42]) ∧ Below w.heap.size w w' := by
  have h0 : ((n : Int) == 0) = false := by simp; omega
  have h1 : decide ((2048 : Int) < (n : Int)) = true := by simp; omega
  have h2 : decide (2048 < n) = true := by simp; omega
  have h3 : (2048 : Int) < (n : Int) := by omega
  simp only [vcells, zvw]
  go_enter Try.func47, Try.ntmps47
  go_wp2_with (with_reducible refine stop_op (o := ⟨some 6, _, _, _, _, _⟩) ?_)
  obtain ⟨w1, hw1⟩ : ∃ v, v = w.alloc (.cells #[.bool false, .int .i64 0, .int .i64 0, .int .i64 0, .int .i64 0, .int .u64 0, .int .u64 0, .int .u64 0, .int .u64 0, .bool false, .int .u32 0, .int .i64 0, .bool false] 40) := ⟨_, rfl⟩
  have hR : w1.heap[w.heap.size]? = some (.cells #[.bool false, .int .i64 0, .int .i64 0, .int .i64 0, .int .i64 0, .int .u64 0, .int .u64 0, .int .u64 0, .int .u64 0, .bool false, .int .u32 0, .int .i64 0, .bool false] 40 (0, 0)) := by rw [hw1]; exact al_neww rfl _
  have bw1 : Below w.heap.size w w1 := by rw [hw1]; exact Below.al (Below.refl _ _) _
  rw [← hw1]
  clear hw1
  obtain ⟨⟨r0, r1, r2, r3, r4, r5, r6, r7, r8, r9, r10, r11, r12⟩, q0, q1, q2, q3, q4, q5, q6, q7, q8, q9, q10, q11, q12⟩ := cells13 hR
  refine Lib.hid ?_
  go_wp2
  refine bodyPost_ret_by (res_row Try.results47 _ _ w.heap.size 40 #[.bool false, .int .i64 0, .int .i64 0, .int .i64 0, .int .i64 0, .int .u64 0, .int .u64 0, .int .u64 0, .int .u64 0, .bool false, .int .u32 0, .int .i64 0, .bool false] _ rfl (heap_set13w hR (.bool false) (.int .i64 0) (.int .i64 0) (.int .i64 0) (.int .i64 0) (.int .u64 0) (.int .u64 0) (.int .u64 0) (.int .u64 0) (.bool false) (.int .u32 0) (.int .i64 0) (.bool false)) Try.underlying40 (by kernel_rfl)) rfl ⟨rfl, ?_⟩
  exact below_set13 bw1 (by omega) _ _ _ _ _ _ _ _ _ _ _ _ _

set_option maxHeartbeats 2000000 in
set_option maxRecDepth 100000 in
theorem inner_4 (g o c n : Nat) (l : List UInt8) (hn : l.length = n) (h0 : 0 < n) (h1 : n ≤ 2048) (hc : n ≤ c) (hcm : c ≤ 9223372036854775807) (h2 : byN l 0 / 16 = 4) {w : World} (hb : Byt w g o l) :
    Calls Try.prog 47 #[.slice (some ⟨g, o, none⟩) n c] w fun e w' => e = .returned (.tuple #[.agg (vcells (parse4P l).1), .int .i64 (parse4P l).2]) ∧ Below w.heap.size w w' := by
  have i0 : ((n : Int) == 0) = false := by simp; omega
  have i1 : decide ((2048 : Int) < (n : Int)) = false := by simp; omega
  have i2 : decide (2048 < n) = false := by simp; omega
  have i3 : ¬ (2048 : Int) < (n : Int) := by omega
  have i4 : (0 : Int) < (n : Int) := by omega
  have c0 := by_cell hb hn 0 h0
  rw [Nat.add_zero] at c0
  have x8 := byN_lt l 0
  have cc := fun (W : World) (h : Below w.heap.size w W) => parse4_any g o c n l hn hc hcm (hb.below h)
  generalize parse4P l = r at *
  simp only [vcells] at cc ⊢
  obtain ⟨r, er⟩ := r
  simp only at cc ⊢
  generalize byN l 0 = X at *
  have x8i : (X : Int) < 256 := by omega
  have e4 : ((X : Int) / 16 == 4) = true := by simp; omega
  clear hb hn
  go_enter Try.func47, Try.ntmps47
  go_wp2_with (with_reducible refine stop_op (o := ⟨some 6, _, _, _, _, _⟩) ?_)
  obtain ⟨w1, hw1⟩ : ∃ v, v = w.alloc (.cells #[.bool false, .int .i64 0, .int .i64 0, .int .i64 0, .int .i64 0, .int .u64 0, .int .u64 0, .int .u64 0, .int .u64 0, .bool false, .int .u32 0, .int .i64 0, .bool false] 40) := ⟨_, rfl⟩
  have hR1 : w1.heap[w.heap.size]? = some (.cells #[.bool false, .int .i64 0, .int .i64 0, .int .i64 0, .int .i64 0, .int .u64 0, .int .u64 0, .int .u64 0, .int .u64 0, .bool false, .int .u32 0, .int .i64 0, .bool false] 40 (0, 0)) := by rw [hw1]; exact al_neww rfl _
  have bw1 : Below w.heap.size w w1 := by rw [hw1]; exact Below.al (Below.refl _ _) _
  have c1 := keepc bw1 c0
  have hz1 : w.heap.size < w1.heap.size := (Array.getElem?_eq_some_iff.1 hR1).1
  rw [← hw1]
  clear hw1 c0
  refine Lib.hid ?_
  go_wp2_with (go_at_call 74; refine (cc _ bw1).mono ?_; rintro e w2 ⟨rfl, hb2⟩; refine Hid.out ?_)
  have bw2 : Below w.heap.size w w2 := bw1.trans (hb2.mono bw1.size)
  have hR : w2.heap[w.heap.size]? = some (.cells #[.bool false, .int .i64 0, .int .i64 0, .int .i64 0, .int .i64 0, .int .u64 0, .int .u64 0, .int .u64 0, .int .u64 0, .bool false, .int .u32 0, .int .i64 0, .bool false] 40 (0, 0)) := (hb2.block _ hz1).trans hR1
  clear hb2 cc hR1 bw1 c1
  obtain ⟨⟨r0, r1, r2, r3, r4, r5, r6, r7, r8, r9, r10, r11, r12⟩, q0, q1, q2, q3, q4, q5, q6, q7, q8, q9, q10, q11, q12⟩ := cells13 hR
  refine Lib.hid ?_
  go_wp2
  refine bodyPost_ret_by (res_row Try.results47 _ _ w.heap.size 40 #[.bool r.v6, .int .i64 r.head, .int .i64 r.total, .int .i64 r.ttl, .int .i64 r.proto, .int .u64 r.srcH, .int .u64 r.srcL, .int .u64 r.dstH, .int .u64 r.dstL, .bool r.frag, .int .u32 r.id, .int .i64 r.off, .bool r.more] _ rfl (heap_set13w hR (.bool r.v6) (.int .i64 r.head) (.int .i64 r.total) (.int .i64 r.ttl) (.int .i64 r.proto) (.int .u64 r.srcH) (.int .u64 r.srcL) (.int .u64 r.dstH) (.int .u64 r.dstL) (.bool r.frag) (.int .u32 r.id) (.int .i64 r.off) (.bool r.more)) Try.underlying40 (by kernel_rfl)) rfl ⟨rfl, ?_⟩
  exact below_set13 bw2 (by omega) _ _ _ _ _ _ _ _ _ _ _ _ _

set_option maxHeartbeats 2000000 in
set_option maxRecDepth 100000 in
theorem inner_6 (g o c n : Nat) (l : List UInt8) (hn : l.length = n) (h0 : 0 < n) (h1 : n ≤ 2048) (hc : n ≤ c) (hcm : c ≤ 9223372036854775807) (h2 : byN l 0 / 16 = 6) {w : World} (hb : Byt w g o l) :
    Calls Try.prog 47 #[.slice (some ⟨g, o, none⟩) n c] w fun e w' => e = .returned (.tuple #[.agg (vcells (parse6P l).1), .int .i64 (parse6P l).2]) ∧ Below w.heap.size w w' := by
  have i0 : ((n : Int) == 0) = false := by simp; omega
  have i1 : decide ((2048 : Int) < (n : Int)) = false := by simp; omega
  have i2 : decide (2048 < n) = false := by simp; omega
  have i3 : ¬ (2048 : Int) < (n : Int) := by omega
  have i4 : (0 : Int) < (n : Int) := by omega
  have c0 := by_cell hb hn 0 h0
  rw [Nat.add_zero] at c0
  have x8 := byN_lt l 0
  have cc := fun (W : World) (h : Below w.heap.size w W) => parse6_any g o c n l hn hc hcm (hb.below h)
  generalize parse6P l = r at *
  simp only [vcells] at cc ⊢
  obtain ⟨r, er⟩ := r
  simp only at cc ⊢
  generalize byN l 0 = X at *
  have x8i : (X : Int) < 256 := by omega
  have e4 : ((X : Int) / 16 == 4) = false := by simp; omega
  have e6 : ((X : Int) / 16 == 6) = true := by simp; omega
  clear hb hn
  go_enter Try.func47, Try.ntmps47
  go_wp2_with (with_reducible refine stop_op (o := ⟨some 6, _, _, _, _, _⟩) ?_)
  obtain ⟨w1, hw1⟩ : ∃ v, v = w.alloc (.cells #[.bool false, .int .i64 0, .int .i64 0, .int .i64 0, .int .i64 0, .int .u64 0, .int .u64 0, .int .u64 0, .int .u64 0, .bool false, .int .u32 0, .int .i64 0, .bool false] 40) := ⟨_, rfl⟩
  have hR1 : w1.heap[w.heap.size]? = some (.cells #[.bool false, .int .i64 0, .int .i64 0, .int .i64 0, .int .i64 0, .int .u64 0, .int .u64 0, .int .u64 0, .int .u64 0, .bool false, .int .u32 0, .int .i64 0, .bool false] 40 (0, 0)) := by rw [hw1]; exact al_neww rfl _
  have bw1 : Below w.heap.size w w1 := by rw [hw1]; exact Below.al (Below.refl _ _) _
  have c1 := keepc bw1 c0
  have hz1 : w.heap.size < w1.heap.size := (Array.getElem?_eq_some_iff.1 hR1).1
  rw [← hw1]
  clear hw1 c0
  refine Lib.hid ?_
  go_wp2_with (go_at_call 75; refine (cc _ bw1).mono ?_; rintro e w2 ⟨rfl, hb2⟩; refine Hid.out ?_)
  have bw2 : Below w.heap.size w w2 := bw1.trans (hb2.mono bw1.size)
  have hR : w2.heap[w.heap.size]? = some (.cells #[.bool false, .int .i64 0, .int .i64 0, .int .i64 0, .int .i64 0, .int .u64 0, .int .u64 0, .int .u64 0, .int .u64 0, .bool false, .int .u32 0, .int .i64 0, .bool false] 40 (0, 0)) := (hb2.block _ hz1).trans hR1
  clear hb2 cc hR1 bw1 c1
  obtain ⟨⟨r0, r1, r2, r3, r4, r5, r6, r7, r8, r9, r10, r11, r12⟩, q0, q1, q2, q3, q4, q5, q6, q7, q8, q9, q10, q11, q12⟩ := cells13 hR
  refine Lib.hid ?_
  go_wp2
  refine bodyPost_ret_by (res_row Try.results47 _ _ w.heap.size 40 #[.bool r.v6, .int .i64 r.head, .int .i64 r.total, .int .i64 r.ttl, .int .i64 r.proto, .int .u64 r.srcH, .int .u64 r.srcL, .int .u64 r.dstH, .int .u64 r.dstL, .bool r.frag, .int .u32 r.id, .int .i64 r.off, .bool r.more] _ rfl (heap_set13w hR (.bool r.v6) (.int .i64 r.head) (.int .i64 r.total) (.int .i64 r.ttl) (.int .i64 r.proto) (.int .u64 r.srcH) (.int .u64 r.srcL) (.int .u64 r.dstH) (.int .u64 r.dstL) (.bool r.frag) (.int .u32 r.id) (.int .i64 r.off) (.bool r.more)) Try.underlying40 (by kernel_rfl)) rfl ⟨rfl, ?_⟩
  exact below_set13 bw2 (by omega) _ _ _ _ _ _ _ _ _ _ _ _ _

set_option maxHeartbeats 2000000 in
set_option maxRecDepth 100000 in
theorem inner_no (g o c n : Nat) (l : List UInt8) (hn : l.length = n) (h0 : 0 < n) (h1 : n ≤ 2048) (hc : n ≤ c) (hcm : c ≤ 9223372036854775807) (h2 : byN l 0 / 16 ≠ 4) (h3 : byN l 0 / 16 ≠ 6) {w : World} (hb : Byt w g o l) :
    Calls Try.prog 47 #[.slice (some ⟨g, o, none⟩) n c] w fun e w' => e = .returned (.tuple #[.agg (vcells (zvw, (41 : Int)).1), .int .i64 41]) ∧ Below w.heap.size w w' := by
  have i0 : ((n : Int) == 0) = false := by simp; omega
  have i1 : decide ((2048 : Int) < (n : Int)) = false := by simp; omega
  have i2 : decide (2048 < n) = false := by simp; omega
  have i3 : ¬ (2048 : Int) < (n : Int) := by omega
  have i4 : (0 : Int) < (n : Int) := by omega
  have c0 := by_cell hb hn 0 h0
  rw [Nat.add_zero] at c0
  have x8 := byN_lt l 0
  simp only [vcells, zvw]
  generalize byN l 0 = X at *
  have x8i : (X : Int) < 256 := by omega
  have e4 : ((X : Int) / 16 == 4) = false := by simp; omega
  have e6 : ((X : Int) / 16 == 6) = false := by simp; omega
  clear hb hn
  go_enter Try.func47, Try.ntmps47
  go_wp2_with (with_reducible refine stop_op (o := ⟨some 6, _, _, _, _, _⟩) ?_)
  obtain ⟨w1, hw1⟩ : ∃ v, v = w.alloc (.cells #[.bool false, .int .i64 0, .int .i64 0, .int .i64 0, .int .i64 0, .int .u64 0, .int .u64 0, .int .u64 0, .int .u64 0, .bool false, .int .u32 0, .int .i64 0, .bool false] 40) := ⟨_, rfl⟩
  have hR1 : w1.heap[w.heap.size]? = some (.cells #[.bool false, .int .i64 0, .int .i64 0, .int .i64 0, .int .i64 0, .int .u64 0, .int .u64 0, .int .u64 0, .int .u64 0, .bool false, .int .u32 0, .int .i64 0, .bool false] 40 (0, 0)) := by rw [hw1]; exact al_neww rfl _
  have bw1 : Below w.heap.size w w1 := by rw [hw1]; exact Below.al (Below.refl _ _) _
  have c1 := keepc bw1 c0
  have hz1 : w.heap.size < w1.heap.size := (Array.getElem?_eq_some_iff.1 hR1).1
  rw [← hw1]
  clear hw1 c0
  have hR := hR1
  obtain ⟨⟨r0, r1, r2, r3, r4, r5, r6, r7, r8, r9, r10, r11, r12⟩, q0, q1, q2, q3, q4, q5, q6, q7, q8, q9, q10, q11, q12⟩ := cells13 hR
  refine Lib.hid ?_
  go_wp2
  refine bodyPost_ret_by (res_row Try.results47 _ _ w.heap.size 40 #[.bool false, .int .i64 0, .int .i64 0, .int .i64 0, .int .i64 0, .int .u64 0, .int .u64 0, .int .u64 0, .int .u64 0, .bool false, .int .u32 0, .int .i64 0, .bool false] _ rfl (heap_set13w hR (.bool false) (.int .i64 0) (.int .i64 0) (.int .i64 0) (.int .i64 0) (.int .u64 0) (.int .u64 0) (.int .u64 0) (.int .u64 0) (.bool false) (.int .u32 0) (.int .i64 0) (.bool false)) Try.underlying40 (by kernel_rfl)) rfl ⟨rfl, ?_⟩
  exact below_set13 bw1 (by omega) _ _ _ _ _ _ _ _ _ _ _ _ _

theorem byt_nil {w : World} {A : Option Addr} {n c : Nat} {l : List UInt8} (h : BytArg w A n c l) : l.length = n ∧ n ≤ c ∧ c ≤ 9223372036854775807 := ⟨h.1, h.2.1, h.2.2.1⟩
theorem inner_any (A : Option Addr) (n c : Nat) (l : List UInt8) {w : World} (h : BytArg w A n c l) :
    Calls Try.prog 47 #[.slice A n c] w fun e w' => e = .returned (.tuple #[.agg (vcells (innerP l).1), .int .i64 (innerP l).2]) ∧ Below w.heap.size w w' := by
  obtain ⟨hn, hc, hcm, hs⟩ := h
  unfold maxLen at hcm
  by_cases h0 : n = 0
  · rw [parseP_nil (by omega)]; exact inner_nil A n c h0
  by_cases h1 : 2048 < n
  · rw [parseP_big (by omega)]; exact inner_big A n c h1 (by omega)
  obtain ⟨g, o, rfl, hb⟩ := hs (by omega)
  by_cases h2 : byN l 0 / 16 = 4
  · rw [parseP_4 (by omega) (by omega) h2]; exact inner_4 g o c n l hn (by omega) (by omega) hc hcm h2 hb
  by_cases h3 : byN l 0 / 16 = 6
  · rw [parseP_6 (by omega) (by omega) h3]; exact inner_6 g o c n l hn (by omega) (by omega) hc hcm h3 hb
  rw [parseP_no (by omega) (by omega) h2 h3]; exact inner_no g o c n l hn (by omega) (by omega) hc hcm h2 h3 hb

theorem BytArg.below {w w' : World} {A : Option Addr} {n c : Nat} {l : List UInt8} (h : BytArg w A n c l) (hb : Below w.heap.size w w') : BytArg w' A n c l :=
  ⟨h.1, h.2.1, h.2.2.1, fun h0 => by obtain ⟨g, o, e, hs⟩ := h.2.2.2 h0; exact ⟨g, o, e, hs.below hb⟩⟩

set_option maxHeartbeats 2000000 in
set_option maxRecDepth 100000 in
theorem outer_err (A : Option Addr) (n c : Nat) (l : List UInt8) (h1 : (innerP l).2 ≠ 0) {w : World} (h : BytArg w A n c l) :
    Calls Try.prog 12 #[.slice A n c] w fun e w' => e = .returned (.tuple #[.agg (vcells zvw), .int .i64 (innerP l).2]) ∧ Below w.heap.size w w' := by
  have cc := inner_any A n c l (h.below (Below.al (Below.refl w.heap.size w) (.cells #[.bool false, .int .i64 0, .int .i64 0, .int .i64 0, .int .i64 0, .int .u64 0, .int .u64 0, .int .u64 0, .int .u64 0, .bool false, .int .u32 0, .int .i64 0, .bool false] 40)))
  generalize innerP l = r at *
  obtain ⟨v, er⟩ := r
  simp only [vcells] at *
  have e0 : (er != 0) = true := by simpa using h1
  clear h1
  simp only [zvw]
  go_enter Try.func12, Try.ntmps12
  go_wp2_with (go_at_call 47; refine cc.mono ?_; rintro e w2 ⟨rfl, hb2⟩; refine Hid.out ?_)
  have bw2 : Below w.heap.size w w2 := bel_via (Below.al (Below.refl _ _) _) hb2
  have hR2 : w2.heap[w.heap.size]? = some (.cells #[.bool false, .int .i64 0, .int .i64 0, .int .i64 0, .int .i64 0, .int .u64 0, .int .u64 0, .int .u64 0, .int .u64 0, .bool false, .int .u32 0, .int .i64 0, .bool false] 40 (0, 0)) := by rw [hb2.block _ (by simp)]; exact al_neww rfl _
  have hz2 : w.heap.size < w2.heap.size := (Array.getElem?_eq_some_iff.1 hR2).1
  clear hb2 cc h
  refine Lib.hid ?_
  go_wp2_with (with_reducible refine stop_op (o := ⟨some 12, _, _, _, _, _⟩) ?_)
  obtain ⟨w3, hw3⟩ : ∃ x, x = w2.alloc (.cells #[.bool v.v6, .int .i64 v.head, .int .i64 v.total, .int .i64 v.ttl, .int .i64 v.proto, .int .u64 v.srcH, .int .u64 v.srcL, .int .u64 v.dstH, .int .u64 v.dstL, .bool v.frag, .int .u32 v.id, .int .i64 v.off, .bool v.more] 40) := ⟨_, rfl⟩
  have hV3 : w3.heap[w2.heap.size]? = some (.cells #[.bool v.v6, .int .i64 v.head, .int .i64 v.total, .int .i64 v.ttl, .int .i64 v.proto, .int .u64 v.srcH, .int .u64 v.srcL, .int .u64 v.dstH, .int .u64 v.dstL, .bool v.frag, .int .u32 v.id, .int .i64 v.off, .bool v.more] 40 (0, 0)) := by rw [hw3]; exact al_neww rfl _
  have hR : w3.heap[w.heap.size]? = some (.cells #[.bool false, .int .i64 0, .int .i64 0, .int .i64 0, .int .i64 0, .int .u64 0, .int .u64 0, .int .u64 0, .int .u64 0, .bool false, .int .u32 0, .int .i64 0, .bool false] 40 (0, 0)) := by rw [hw3, al_oldw hz2]; exact hR2
  have bw3 : Below w.heap.size w w3 := by rw [hw3]; exact Below.al bw2 _
  rw [← hw3]
  clear hw3 hR2 bw2
  refine Lib.hid ?_
  obtain ⟨⟨r0, r1, r2, r3, r4, r5, r6, r7, r8, r9, r10, r11, r12⟩, q0, q1, q2, q3, q4, q5, q6, q7, q8, q9, q10, q11, q12⟩ := cells13 hR
  go_wp2
  refine bodyPost_ret_by (res_row Try.results12 _ _ w.heap.size 40 #[.bool false, .int .i64 0, .int .i64 0, .int .i64 0, .int .i64 0, .int .u64 0, .int .u64 0, .int .u64 0, .int .u64 0, .bool false, .int .u32 0, .int .i64 0, .bool false] _ rfl (heap_set13w hR (.bool false) (.int .i64 0) (.int .i64 0) (.int .i64 0) (.int .i64 0) (.int .u64 0) (.int .u64 0) (.int .u64 0) (.int .u64 0) (.bool false) (.int .u32 0) (.int .i64 0) (.bool false)) Try.underlying40 (by kernel_rfl)) rfl ⟨rfl, ?_⟩
  exact below_set13 bw3 (by omega) _ _ _ _ _ _ _ _ _ _ _ _ _

set_option maxHeartbeats 2000000 in
set_option maxRecDepth 100000 in
theorem outer_far (A : Option Addr) (n c : Nat) (l : List UInt8) (h1 : (innerP l).2 = 0) (h2 : 65535 < (innerP l).1.off + (innerP l).1.total - (innerP l).1.head) {w : World} (h : BytArg w A n c l) :
    Calls Try.prog 12 #[.slice A n c] w fun e w' => e = .returned (.tuple #[.agg (vcells zvw), .int .i64 42]) ∧ Below w.heap.size w w' := by
  have cc := inner_any A n c l (h.below (Below.al (Below.refl w.heap.size w) (.cells #[.bool false, .int .i64 0, .int .i64 0, .int .i64 0, .int .i64 0, .int .u64 0, .int .u64 0, .int .u64 0, .int .u64 0, .bool false, .int .u32 0, .int .i64 0, .bool false] 40)))
  have hbd := innerP_bounds h1
  have hlen := (innerP_ok h1).2.1
  generalize innerP l = r at *
  obtain ⟨v, er⟩ := r
  simp only [vcells] at *
  obtain ⟨d0, d1, d2, d3, d4, d5, _⟩ := hbd
  have s1 : IntKind.i64.wrap (v.off + v.total) = v.off + v.total := by rw [IntKind.wrap_i64]; omega
  have s2 : IntKind.i64.wrap (v.off + v.total - v.head) = v.off + v.total - v.head := by rw [IntKind.wrap_i64]; omega
  have e0 : (er != 0) = false := by simpa using h1
  have s3 : 0 ≤ v.off + v.total := by omega
  have e1 : decide (65535 < v.off + v.total - v.head) = true := by simp; omega
  clear h1 h2 hlen
  simp only [zvw]
  go_enter Try.func12, Try.ntmps12
  go_wp2_with (go_at_call 47; refine cc.mono ?_; rintro e w2 ⟨rfl, hb2⟩; refine Hid.out ?_)
  have bw2 : Below w.heap.size w w2 := bel_via (Below.al (Below.refl _ _) _) hb2
  have hR2 : w2.heap[w.heap.size]? = some (.cells #[.bool false, .int .i64 0, .int .i64 0, .int .i64 0, .int .i64 0, .int .u64 0, .int .u64 0, .int .u64 0, .int .u64 0, .bool false, .int .u32 0, .int .i64 0, .bool false] 40 (0, 0)) := by rw [hb2.block _ (by simp)]; exact al_neww rfl _
  have hz2 : w.heap.size < w2.heap.size := (Array.getElem?_eq_some_iff.1 hR2).1
  clear hb2 cc h
  refine Lib.hid ?_
  go_wp2_with (with_reducible refine stop_op (o := ⟨some 12, _, _, _, _, _⟩) ?_)
  obtain ⟨w3, hw3⟩ : ∃ x, x = w2.alloc (.cells #[.bool v.v6, .int .i64 v.head, .int .i64 v.total, .int .i64 v.ttl, .int .i64 v.proto, .int .u64 v.srcH, .int .u64 v.srcL, .int .u64 v.dstH, .int .u64 v.dstL, .bool v.frag, .int .u32 v.id, .int .i64 v.off, .bool v.more] 40) := ⟨_, rfl⟩
  have hV3 : w3.heap[w2.heap.size]? = some (.cells #[.bool v.v6, .int .i64 v.head, .int .i64 v.total, .int .i64 v.ttl, .int .i64 v.proto, .int .u64 v.srcH, .int .u64 v.srcL, .int .u64 v.dstH, .int .u64 v.dstL, .bool v.frag, .int .u32 v.id, .int .i64 v.off, .bool v.more] 40 (0, 0)) := by rw [hw3]; exact al_neww rfl _
  have hR : w3.heap[w.heap.size]? = some (.cells #[.bool false, .int .i64 0, .int .i64 0, .int .i64 0, .int .i64 0, .int .u64 0, .int .u64 0, .int .u64 0, .int .u64 0, .bool false, .int .u32 0, .int .i64 0, .bool false] 40 (0, 0)) := by rw [hw3, al_oldw hz2]; exact hR2
  have bw3 : Below w.heap.size w w3 := by rw [hw3]; exact Below.al bw2 _
  rw [← hw3]
  clear hw3 hR2 bw2
  refine Lib.hid ?_
  obtain ⟨⟨t0, t1, t2, t3, t4, t5, t6, t7, t8, t9, t10, t11, t12⟩, _⟩ := cells13 hV3
  go_wp2_with fail
  have k0 := cell_regrown t0
  have k1 := cell_regrown t1
  have k2 := cell_regrown t2
  have k4 := cell_regrown t4
  have k11 := cell_regrown t11
  have qa := fun d os => Calls.regrown_of (fam_any v.v6 (grow (redrawn w3 d) os))
  have qb := fun d os => Calls.regrown_of (carries_any v.v6 v.proto (grow (redrawn w3 d) os))
  skip
  have hz3 : w2.heap.size < w3.heap.size := (Array.getElem?_eq_some_iff.1 hV3).1
  clear t0 t1 t2 t3 t4 t5 t6 t7 t8 t9 t10 t11 t12
  refine wp_region_quiet_below (by kernel_rfl) (by kernel_rfl) ?_
  repeat (first | go_big_quiet_skip | quiet_step (first | (go_at_call 28; with_reducible exact qa _ _) | (go_at_call 48; with_reducible exact qb _ _)))
  refine wpQuiet_nil ?_
  intro _ hw'
  obtain ⟨⟨dq, osq⟩, hw''⟩ := hw'
  subst hw''
  obtain ⟨w4, hw4⟩ : ∃ v, v = grow (redrawn w3 dq) osq := ⟨_, rfl⟩
  have b34 : Below w3.heap.size w3 w4 := by rw [hw4]; exact below_regrown _ _ _
  have bw4 : Below w.heap.size w w4 := bw3.trans (b34.mono bw3.size)
  have hV4 : w4.heap[w2.heap.size]? = some (.cells #[.bool v.v6, .int .i64 v.head, .int .i64 v.total, .int .i64 v.ttl, .int .i64 v.proto, .int .u64 v.srcH, .int .u64 v.srcL, .int .u64 v.dstH, .int .u64 v.dstL, .bool v.frag, .int .u32 v.id, .int .i64 v.off, .bool v.more] 40 (0, 0)) := (b34.block _ hz3).trans hV3
  have hR4 : w4.heap[w.heap.size]? = some (.cells #[.bool false, .int .i64 0, .int .i64 0, .int .i64 0, .int .i64 0, .int .u64 0, .int .u64 0, .int .u64 0, .int .u64 0, .bool false, .int .u32 0, .int .i64 0, .bool false] 40 (0, 0)) := (b34.block _ (by omega)).trans hR
  rw [← hw4]
  clear hw4 b34 k0 k1 k2 k4 k11 qa qb hV3 hR bw3
  have hR := hR4
  obtain ⟨⟨r0, r1, r2, r3, r4, r5, r6, r7, r8, r9, r10, r11, r12⟩, q0, q1, q2, q3, q4, q5, q6, q7, q8, q9, q10, q11, q12⟩ := cells13 hR
  obtain ⟨⟨t0, t1, t2, t3, t4, t5, t6, t7, t8, t9, t10, t11, t12⟩, _⟩ := cells13 hV4
  go_wp2
  refine bodyPost_ret_by (res_row Try.results12 _ _ w.heap.size 40 #[.bool false, .int .i64 0, .int .i64 0, .int .i64 0, .int .i64 0, .int .u64 0, .int .u64 0, .int .u64 0, .int .u64 0, .bool false, .int .u32 0, .int .i64 0, .bool false] _ rfl (heap_set13w hR (.bool false) (.int .i64 0) (.int .i64 0) (.int .i64 0) (.int .i64 0) (.int .u64 0) (.int .u64 0) (.int .u64 0) (.int .u64 0) (.bool false) (.int .u32 0) (.int .i64 0) (.bool false)) Try.underlying40 (by kernel_rfl)) rfl ⟨rfl, ?_⟩
  exact below_set13 bw4 (by omega) _ _ _ _ _ _ _ _ _ _ _ _ _

set_option maxHeartbeats 2000000 in
set_option maxRecDepth 100000 in
theorem outer_no (A : Option Addr) (n c : Nat) (l : List UInt8) (h1 : (innerP l).2 = 0) (h2 : (innerP l).1.off + (innerP l).1.total - (innerP l).1.head ≤ 65535) (h3 : carriesP (innerP l).1.v6 (innerP l).1.proto = false) {w : World} (h : BytArg w A n c l) :
    Calls Try.prog 12 #[.slice A n c] w fun e w' => e = .returned (.tuple #[.agg (vcells zvw), .int .i64 42]) ∧ Below w.heap.size w w' := by
  have cc := inner_any A n c l (h.below (Below.al (Below.refl w.heap.size w) (.cells #[.bool false, .int .i64 0, .int .i64 0, .int .i64 0, .int .i64 0, .int .u64 0, .int .u64 0, .int .u64 0, .int .u64 0, .bool false, .int .u32 0, .int .i64 0, .bool false] 40)))
  have hbd := innerP_bounds h1
  have hlen := (innerP_ok h1).2.1
  generalize innerP l = r at *
  obtain ⟨v, er⟩ := r
  simp only [vcells] at *
  obtain ⟨d0, d1, d2, d3, d4, d5, _⟩ := hbd
  have s1 : IntKind.i64.wrap (v.off + v.total) = v.off + v.total := by rw [IntKind.wrap_i64]; omega
  have s2 : IntKind.i64.wrap (v.off + v.total - v.head) = v.off + v.total - v.head := by rw [IntKind.wrap_i64]; omega
  have e0 : (er != 0) = false := by simpa using h1
  have s3 : 0 ≤ v.off + v.total := by omega
  have e1 : decide (65535 < v.off + v.total - v.head) = false := by simp; omega
  clear h1 h2 hlen
  simp only [zvw]
  go_enter Try.func12, Try.ntmps12
  go_wp2_with (go_at_call 47; refine cc.mono ?_; rintro e w2 ⟨rfl, hb2⟩; refine Hid.out ?_)
  have bw2 : Below w.heap.size w w2 := bel_via (Below.al (Below.refl _ _) _) hb2
  have hR2 : w2.heap[w.heap.size]? = some (.cells #[.bool false, .int .i64 0, .int .i64 0, .int .i64 0, .int .i64 0, .int .u64 0, .int .u64 0, .int .u64 0, .int .u64 0, .bool false, .int .u32 0, .int .i64 0, .bool false] 40 (0, 0)) := by rw [hb2.block _ (by simp)]; exact al_neww rfl _
  have hz2 : w.heap.size < w2.heap.size := (Array.getElem?_eq_some_iff.1 hR2).1
  clear hb2 cc h
  refine Lib.hid ?_
  go_wp2_with (with_reducible refine stop_op (o := ⟨some 12, _, _, _, _, _⟩) ?_)
  obtain ⟨w3, hw3⟩ : ∃ x, x = w2.alloc (.cells #[.bool v.v6, .int .i64 v.head, .int .i64 v.total, .int .i64 v.ttl, .int .i64 v.proto, .int .u64 v.srcH, .int .u64 v.srcL, .int .u64 v.dstH, .int .u64 v.dstL, .bool v.frag, .int .u32 v.id, .int .i64 v.off, .bool v.more] 40) := ⟨_, rfl⟩
  have hV3 : w3.heap[w2.heap.size]? = some (.cells #[.bool v.v6, .int .i64 v.head, .int .i64 v.total, .int .i64 v.ttl, .int .i64 v.proto, .int .u64 v.srcH, .int .u64 v.srcL, .int .u64 v.dstH, .int .u64 v.dstL, .bool v.frag, .int .u32 v.id, .int .i64 v.off, .bool v.more] 40 (0, 0)) := by rw [hw3]; exact al_neww rfl _
  have hR : w3.heap[w.heap.size]? = some (.cells #[.bool false, .int .i64 0, .int .i64 0, .int .i64 0, .int .i64 0, .int .u64 0, .int .u64 0, .int .u64 0, .int .u64 0, .bool false, .int .u32 0, .int .i64 0, .bool false] 40 (0, 0)) := by rw [hw3, al_oldw hz2]; exact hR2
  have bw3 : Below w.heap.size w w3 := by rw [hw3]; exact Below.al bw2 _
  rw [← hw3]
  clear hw3 hR2 bw2
  refine Lib.hid ?_
  obtain ⟨⟨t0, t1, t2, t3, t4, t5, t6, t7, t8, t9, t10, t11, t12⟩, _⟩ := cells13 hV3
  go_wp2_with fail
  have k0 := cell_regrown t0
  have k1 := cell_regrown t1
  have k2 := cell_regrown t2
  have k4 := cell_regrown t4
  have k11 := cell_regrown t11
  have qa := fun d os => Calls.regrown_of (fam_any v.v6 (grow (redrawn w3 d) os))
  have qb := fun d os => Calls.regrown_of (carries_any v.v6 v.proto (grow (redrawn w3 d) os))
  simp only [h3] at qb
  clear h3
  have hz3 : w2.heap.size < w3.heap.size := (Array.getElem?_eq_some_iff.1 hV3).1
  clear t0 t1 t2 t3 t4 t5 t6 t7 t8 t9 t10 t11 t12
  refine wp_region_quiet_below (by kernel_rfl) (by kernel_rfl) ?_
  repeat (first | go_big_quiet_skip | quiet_step (first | (go_at_call 28; with_reducible exact qa _ _) | (go_at_call 48; with_reducible exact qb _ _)))
  refine wpQuiet_nil ?_
  intro _ hw'
  obtain ⟨⟨dq, osq⟩, hw''⟩ := hw'
  subst hw''
  obtain ⟨w4, hw4⟩ : ∃ v, v = grow (redrawn w3 dq) osq := ⟨_, rfl⟩
  have b34 : Below w3.heap.size w3 w4 := by rw [hw4]; exact below_regrown _ _ _
  have bw4 : Below w.heap.size w w4 := bw3.trans (b34.mono bw3.size)
  have hV4 : w4.heap[w2.heap.size]? = some (.cells #[.bool v.v6, .int .i64 v.head, .int .i64 v.total, .int .i64 v.ttl, .int .i64 v.proto, .int .u64 v.srcH, .int .u64 v.srcL, .int .u64 v.dstH, .int .u64 v.dstL, .bool v.frag, .int .u32 v.id, .int .i64 v.off, .bool v.more] 40 (0, 0)) := (b34.block _ hz3).trans hV3
  have hR4 : w4.heap[w.heap.size]? = some (.cells #[.bool false, .int .i64 0, .int .i64 0, .int .i64 0, .int .i64 0, .int .u64 0, .int .u64 0, .int .u64 0, .int .u64 0, .bool false, .int .u32 0, .int .i64 0, .bool false] 40 (0, 0)) := (b34.block _ (by omega)).trans hR
  rw [← hw4]
  clear hw4 b34 k0 k1 k2 k4 k11 qa qb hV3 hR bw3
  have hR := hR4
  obtain ⟨⟨r0, r1, r2, r3, r4, r5, r6, r7, r8, r9, r10, r11, r12⟩, q0, q1, q2, q3, q4, q5, q6, q7, q8, q9, q10, q11, q12⟩ := cells13 hR
  obtain ⟨⟨t0, t1, t2, t3, t4, t5, t6, t7, t8, t9, t10, t11, t12⟩, _⟩ := cells13 hV4
  go_wp2
  refine bodyPost_ret_by (res_row Try.results12 _ _ w.heap.size 40 #[.bool false, .int .i64 0, .int .i64 0, .int .i64 0, .int .i64 0, .int .u64 0, .int .u64 0, .int .u64 0, .int .u64 0, .bool false, .int .u32 0, .int .i64 0, .bool false] _ rfl (heap_set13w hR (.bool false) (.int .i64 0) (.int .i64 0) (.int .i64 0) (.int .i64 0) (.int .u64 0) (.int .u64 0) (.int .u64 0) (.int .u64 0) (.bool false) (.int .u32 0) (.int .i64 0) (.bool false)) Try.underlying40 (by kernel_rfl)) rfl ⟨rfl, ?_⟩
  exact below_set13 bw4 (by omega) _ _ _ _ _ _ _ _ _ _ _ _ _

set_option maxHeartbeats 2000000 in
set_option maxRecDepth 100000 in
theorem outer_ok (A : Option Addr) (n c : Nat) (l : List UInt8) (h1 : (innerP l).2 = 0) (h2 : (innerP l).1.off + (innerP l).1.total - (innerP l).1.head ≤ 65535) (h3 : carriesP (innerP l).1.v6 (innerP l).1.proto = true) {w : World} (h : BytArg w A n c l) :
    Calls Try.prog 12 #[.slice A n c] w fun e w' => e = .returned (.tuple #[.agg (vcells (innerP l).1), .int .i64 (innerP l).2]) ∧ Below w.heap.size w w' := by
  have cc := inner_any A n c l (h.below (Below.al (Below.refl w.heap.size w) (.cells #[.bool false, .int .i64 0, .int .i64 0, .int .i64 0, .int .i64 0, .int .u64 0, .int .u64 0, .int .u64 0, .int .u64 0, .bool false, .int .u32 0, .int .i64 0, .bool false] 40)))
  have hbd := innerP_bounds h1
  have hlen := (innerP_ok h1).2.1
  generalize innerP l = r at *
  obtain ⟨v, er⟩ := r
  simp only [vcells] at *
  obtain ⟨d0, d1, d2, d3, d4, d5, _⟩ := hbd
  have s1 : IntKind.i64.wrap (v.off + v.total) = v.off + v.total := by rw [IntKind.wrap_i64]; omega
  have s2 : IntKind.i64.wrap (v.off + v.total - v.head) = v.off + v.total - v.head := by rw [IntKind.wrap_i64]; omega
  have e0 : (er != 0) = false := by simpa using h1
  have s3 : 0 ≤ v.off + v.total := by omega
  have e1 : decide (65535 < v.off + v.total - v.head) = false := by simp; omega
  obtain rfl : er = 0 := h1
  clear h2 hlen
  go_enter Try.func12, Try.ntmps12
  go_wp2_with (go_at_call 47; refine cc.mono ?_; rintro e w2 ⟨rfl, hb2⟩; refine Hid.out ?_)
  have bw2 : Below w.heap.size w w2 := bel_via (Below.al (Below.refl _ _) _) hb2
  have hR2 : w2.heap[w.heap.size]? = some (.cells #[.bool false, .int .i64 0, .int .i64 0, .int .i64 0, .int .i64 0, .int .u64 0, .int .u64 0, .int .u64 0, .int .u64 0, .bool false, .int .u32 0, .int .i64 0, .bool false] 40 (0, 0)) := by rw [hb2.block _ (by simp)]; exact al_neww rfl _
  have hz2 : w.heap.size < w2.heap.size := (Array.getElem?_eq_some_iff.1 hR2).1
  clear hb2 cc h
  refine Lib.hid ?_
  go_wp2_with (with_reducible refine stop_op (o := ⟨some 12, _, _, _, _, _⟩) ?_)
  obtain ⟨w3, hw3⟩ : ∃ x, x = w2.alloc (.cells #[.bool v.v6, .int .i64 v.head, .int .i64 v.total, .int .i64 v.ttl, .int .i64 v.proto, .int .u64 v.srcH, .int .u64 v.srcL, .int .u64 v.dstH, .int .u64 v.dstL, .bool v.frag, .int .u32 v.id, .int .i64 v.off, .bool v.more] 40) := ⟨_, rfl⟩
  have hV3 : w3.heap[w2.heap.size]? = some (.cells #[.bool v.v6, .int .i64 v.head, .int .i64 v.total, .int .i64 v.ttl, .int .i64 v.proto, .int .u64 v.srcH, .int .u64 v.srcL, .int .u64 v.dstH, .int .u64 v.dstL, .bool v.frag, .int .u32 v.id, .int .i64 v.off, .bool v.more] 40 (0, 0)) := by rw [hw3]; exact al_neww rfl _
  have hR : w3.heap[w.heap.size]? = some (.cells #[.bool false, .int .i64 0, .int .i64 0, .int .i64 0, .int .i64 0, .int .u64 0, .int .u64 0, .int .u64 0, .int .u64 0, .bool false, .int .u32 0, .int .i64 0, .bool false] 40 (0, 0)) := by rw [hw3, al_oldw hz2]; exact hR2
  have bw3 : Below w.heap.size w w3 := by rw [hw3]; exact Below.al bw2 _
  rw [← hw3]
  clear hw3 hR2 bw2
  refine Lib.hid ?_
  obtain ⟨⟨t0, t1, t2, t3, t4, t5, t6, t7, t8, t9, t10, t11, t12⟩, _⟩ := cells13 hV3
  go_wp2_with fail
  have k0 := cell_regrown t0
  have k1 := cell_regrown t1
  have k2 := cell_regrown t2
  have k4 := cell_regrown t4
  have k11 := cell_regrown t11
  have qa := fun d os => Calls.regrown_of (fam_any v.v6 (grow (redrawn w3 d) os))
  have qb := fun d os => Calls.regrown_of (carries_any v.v6 v.proto (grow (redrawn w3 d) os))
  simp only [h3] at qb
  clear h3
  have hz3 : w2.heap.size < w3.heap.size := (Array.getElem?_eq_some_iff.1 hV3).1
  clear t0 t1 t2 t3 t4 t5 t6 t7 t8 t9 t10 t11 t12
  refine wp_region_quiet_below (by kernel_rfl) (by kernel_rfl) ?_
  repeat (first | go_big_quiet_skip | quiet_step (first | (go_at_call 28; with_reducible exact qa _ _) | (go_at_call 48; with_reducible exact qb _ _)))
  refine wpQuiet_nil ?_
  intro _ hw'
  obtain ⟨⟨dq, osq⟩, hw''⟩ := hw'
  subst hw''
  obtain ⟨w4, hw4⟩ : ∃ v, v = grow (redrawn w3 dq) osq := ⟨_, rfl⟩
  have b34 : Below w3.heap.size w3 w4 := by rw [hw4]; exact below_regrown _ _ _
  have bw4 : Below w.heap.size w w4 := bw3.trans (b34.mono bw3.size)
  have hV4 : w4.heap[w2.heap.size]? = some (.cells #[.bool v.v6, .int .i64 v.head, .int .i64 v.total, .int .i64 v.ttl, .int .i64 v.proto, .int .u64 v.srcH, .int .u64 v.srcL, .int .u64 v.dstH, .int .u64 v.dstL, .bool v.frag, .int .u32 v.id, .int .i64 v.off, .bool v.more] 40 (0, 0)) := (b34.block _ hz3).trans hV3
  have hR4 : w4.heap[w.heap.size]? = some (.cells #[.bool false, .int .i64 0, .int .i64 0, .int .i64 0, .int .i64 0, .int .u64 0, .int .u64 0, .int .u64 0, .int .u64 0, .bool false, .int .u32 0, .int .i64 0, .bool false] 40 (0, 0)) := (b34.block _ (by omega)).trans hR
  rw [← hw4]
  clear hw4 b34 k0 k1 k2 k4 k11 qa qb hV3 hR bw3
  have hR := hR4
  obtain ⟨⟨r0, r1, r2, r3, r4, r5, r6, r7, r8, r9, r10, r11, r12⟩, q0, q1, q2, q3, q4, q5, q6, q7, q8, q9, q10, q11, q12⟩ := cells13 hR
  obtain ⟨⟨t0, t1, t2, t3, t4, t5, t6, t7, t8, t9, t10, t11, t12⟩, _⟩ := cells13 hV4
  go_wp2
  refine bodyPost_ret_by (res_row Try.results12 _ _ w.heap.size 40 #[.bool v.v6, .int .i64 v.head, .int .i64 v.total, .int .i64 v.ttl, .int .i64 v.proto, .int .u64 v.srcH, .int .u64 v.srcL, .int .u64 v.dstH, .int .u64 v.dstL, .bool v.frag, .int .u32 v.id, .int .i64 v.off, .bool v.more] _ rfl (heap_set13w hR (.bool v.v6) (.int .i64 v.head) (.int .i64 v.total) (.int .i64 v.ttl) (.int .i64 v.proto) (.int .u64 v.srcH) (.int .u64 v.srcL) (.int .u64 v.dstH) (.int .u64 v.dstL) (.bool v.frag) (.int .u32 v.id) (.int .i64 v.off) (.bool v.more)) Try.underlying40 (by kernel_rfl)) rfl ⟨rfl, ?_⟩
  exact below_set13 bw4 (by omega) _ _ _ _ _ _ _ _ _ _ _ _ _

/-- Network headers. -/
theorem parse_any (A : Option Addr) (n c : Nat) (l : List UInt8) {w : World} (h : BytArg w A n c l) :
    Calls Try.prog 12 #[.slice A n c] w fun e w' => e = .returned (.tuple #[.agg (vcells (parseP l).1), .int .i64 (parseP l).2]) ∧ Below w.heap.size w w' := by
  unfold parseP outerP
  by_cases h1 : (innerP l).2 = 0
  · rw [if_neg (by omega)]
    by_cases h2 : 65535 < (innerP l).1.off + (innerP l).1.total - (innerP l).1.head
    · rw [if_pos h2]; exact outer_far A n c l h1 h2 h
    rw [if_neg h2]
    by_cases h3 : carriesP (innerP l).1.v6 (innerP l).1.proto = true
    · rw [if_pos h3]; exact outer_ok A n c l h1 (by omega) h3 h
    · rw [if_neg h3]; exact outer_no A n c l h1 (by omega) (eq_false_of_ne_true h3) h
  · rw [if_pos h1]; exact outer_err A n c l h1 h
end Go.Proofs.Ytpmbdjdhgcjkfaa
