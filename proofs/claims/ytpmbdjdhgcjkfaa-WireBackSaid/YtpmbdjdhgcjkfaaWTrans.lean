/- Transport: the program's; by-name template (gen_wtrans.py). -/
import Derived.Test.YtpmbdjdhgcjkfaaWRight
namespace Go.Proofs.Ytpmbdjdhgcjkfaa
open Go.RowKit Go.Sort
set_option linter.unusedVariables false
set_option linter.unusedSimpArgs false

def bodyP (l : List UInt8) (v : VW) : List UInt8 := (l.drop v.head.toNat).take (v.total.toNat - v.head.toNat)
/-- What a packet's transport header tells, or why it has none. -/
def transP (l : List UInt8) (v : VW) : TW × Int :=
  if v.head < 0 ∨ v.total < v.head ∨ (l.length : Int) < v.total ∨ v.frag = true then (ztw, 42)
  else if (hsP (bodyP l v) v.proto).2 ≠ 0 then (ztw, (hsP (bodyP l v) v.proto).2)
  else if rsP v (bodyP l v) = false then (ztw, 43)
  else ({ fieldsP (bodyP l v) v.v6 v.proto with head := v.head + (hsP (bodyP l v) v.proto).1, data := v.total - (v.head + (hsP (bodyP l v) v.proto).1) }, 0)

theorem body_cut {w : World} {A : Option Addr} {n c : Nat} {l : List UInt8} (h : BytArg w A n c l) (lo hi : Nat) (h1 : lo ≤ hi) (h2 : hi ≤ n) :
    ∃ A', (∀ W, (Instr.slice 22 (.slice A n c) (some (.int .i64 (lo : Nat))) (some (.int .i64 (hi : Nat))) none).run Try.prog W = .ok (.slice A' (hi - lo) (c - lo)) W) ∧ BytArg w A' (hi - lo) (c - lo) ((l.drop lo).take (hi - lo)) := by
  obtain ⟨hn, hc, hcm, hs⟩ := h
  refine ⟨if c = lo then A else A.map (·.add lo), fun W => ?_, ?_⟩
  · have hz : (sizeOf (Try.prog.elem 22)).run Try.prog W = .ok 1 W := by kernel_rfl
    unfold maxLen at hcm
    rw [run_slice_lh W 22 A n c (by kernel_rfl) .i64 .i64 (lo : Nat) (hi : Nat) (by omega) (by omega) (by omega), hz]
    simp only [Result.andThen, sliced, Int.toNat_natCast, Nat.mul_one]
  · refine ⟨by rw [List.length_take, List.length_drop]; omega, by omega, by omega, fun h0 => ?_⟩
    obtain ⟨g, o, rfl, hb⟩ := hs (by omega)
    refine ⟨g, o + lo, ?_, hb.sub lo (hi - lo)⟩
    rw [if_neg (by omega)]
    have e : (⟨g, o, none⟩ : Addr).add lo = ⟨g, o + lo, none⟩ := by unfold Addr.add; split <;> simp_all
    rw [Option.map_some, e]
theorem hsP_whole {l : List UInt8} {p : Int} (h : (hsP l p).2 = 0) : (layP p).1 ≤ (l.length : Int) := by
  unfold hsP at h
  by_cases h1 : (l.length : Int) < (layP p).1
  · rw [if_pos h1] at h; simp at h
  · omega

set_option maxHeartbeats 2000000 in
set_option maxRecDepth 100000 in
theorem tr_a (A : Option Addr) (n c : Nat) (hn : n ≤ 9223372036854775807) (vv : Bool) (vhd vtt vttl vp vsH vsL vdH vdL : Int) (vfr : Bool) (vid voff : Int) (vmo : Bool) {w : World} (h : vhd < 0) :
    Calls Try.prog 17 #[.slice A n c, .agg #[.bool vv, .int .i64 vhd, .int .i64 vtt, .int .i64 vttl, .int .i64 vp, .int .u64 vsH, .int .u64 vsL, .int .u64 vdH, .int .u64 vdL, .bool vfr, .int .u32 vid, .int .i64 voff, .bool vmo]] w fun e w' => e = .returned (.tuple #[.agg (tcells ztw), .int .i64 42]) ∧ Below w.heap.size w w' := by
  have d : decide (vhd < 0) = true := by simpa using h
  simp only [tcells, ztw]
  go_enter Try.func17, Try.ntmps17
  go_wp2_with (with_reducible refine stop_op (o := ⟨some 11, _, _, _, _, _⟩) ?_)
  obtain ⟨w3, hw3⟩ : ∃ x, x = (w.alloc (.cells #[.bool vv, .int .i64 vhd, .int .i64 vtt, .int .i64 vttl, .int .i64 vp, .int .u64 vsH, .int .u64 vsL, .int .u64 vdH, .int .u64 vdL, .bool vfr, .int .u32 vid, .int .i64 voff, .bool vmo] 40)).alloc (.cells #[.int .i64 0, .int .i64 0, .int .u32 0, .int .u32 0, .int .i64 0, .int .i64 0, .int .i64 0, .int .i64 0, .int .i64 0, .int .i64 0] 50) := ⟨_, rfl⟩
  have hV : w3.heap[w.heap.size]? = some (.cells #[.bool vv, .int .i64 vhd, .int .i64 vtt, .int .i64 vttl, .int .i64 vp, .int .u64 vsH, .int .u64 vsL, .int .u64 vdH, .int .u64 vdL, .bool vfr, .int .u32 vid, .int .i64 voff, .bool vmo] 40 (0, 0)) := by rw [hw3]; exact (al_oldw (by first | (simp; done) | (simp; omega)) _).trans (al_neww rfl _)
  have hR : w3.heap[w.heap.size + 1]? = some (.cells #[.int .i64 0, .int .i64 0, .int .u32 0, .int .u32 0, .int .i64 0, .int .i64 0, .int .i64 0, .int .i64 0, .int .i64 0, .int .i64 0] 50 (0, 0)) := by rw [hw3]; exact al_neww (by simp) _
  have bw : Below w.heap.size w w3 := by rw [hw3]; exact Below.al (Below.al (Below.refl _ _) _) _
  rw [← hw3]
  clear hw3
  obtain ⟨⟨v0, v1, v2, v3, v4, v5, v6, v7, v8, v9, v10, v11, v12⟩, _⟩ := cells13 hV
  obtain ⟨⟨r0, r1, r2, r3, r4, r5, r6, r7, r8, r9⟩, q0, q1, q2, q3, q4, q5, q6, q7, q8, q9⟩ := cells10 hR
  refine Lib.hid ?_
  go_wp2
  refine bodyPost_ret_by (res_row Try.results17 _ _ (w.heap.size + 1) 50 #[.int .i64 0, .int .i64 0, .int .u32 0, .int .u32 0, .int .i64 0, .int .i64 0, .int .i64 0, .int .i64 0, .int .i64 0, .int .i64 0] _ rfl (heap_set10w hR (.int .i64 0) (.int .i64 0) (.int .u32 0) (.int .u32 0) (.int .i64 0) (.int .i64 0) (.int .i64 0) (.int .i64 0) (.int .i64 0) (.int .i64 0)) Try.underlying50 (by kernel_rfl)) rfl ⟨rfl, ?_⟩
  exact below_set10 bw (by omega) _ _ _ _ _ _ _ _ _ _

set_option maxHeartbeats 2000000 in
set_option maxRecDepth 100000 in
theorem tr_b (A : Option Addr) (n c : Nat) (hn : n ≤ 9223372036854775807) (vv : Bool) (vhd vtt vttl vp vsH vsL vdH vdL : Int) (vfr : Bool) (vid voff : Int) (vmo : Bool) {w : World} (h0 : 0 ≤ vhd) (h : vtt < vhd) :
    Calls Try.prog 17 #[.slice A n c, .agg #[.bool vv, .int .i64 vhd, .int .i64 vtt, .int .i64 vttl, .int .i64 vp, .int .u64 vsH, .int .u64 vsL, .int .u64 vdH, .int .u64 vdL, .bool vfr, .int .u32 vid, .int .i64 voff, .bool vmo]] w fun e w' => e = .returned (.tuple #[.agg (tcells ztw), .int .i64 42]) ∧ Below w.heap.size w w' := by
  have d : decide (vhd < 0) = false := by simp; omega
  have d9 : ¬ vhd < 0 := by omega
  have e : decide (vtt < vhd) = true := by simpa using h
  simp only [tcells, ztw]
  go_enter Try.func17, Try.ntmps17
  go_wp2_with (with_reducible refine stop_op (o := ⟨some 11, _, _, _, _, _⟩) ?_)
  obtain ⟨w3, hw3⟩ : ∃ x, x = (w.alloc (.cells #[.bool vv, .int .i64 vhd, .int .i64 vtt, .int .i64 vttl, .int .i64 vp, .int .u64 vsH, .int .u64 vsL, .int .u64 vdH, .int .u64 vdL, .bool vfr, .int .u32 vid, .int .i64 voff, .bool vmo] 40)).alloc (.cells #[.int .i64 0, .int .i64 0, .int .u32 0, .int .u32 0, .int .i64 0, .int .i64 0, .int .i64 0, .int .i64 0, .int .i64 0, .int .i64 0] 50) := ⟨_, rfl⟩
  have hV : w3.heap[w.heap.size]? = some (.cells #[.bool vv, .int .i64 vhd, .int .i64 vtt, .int .i64 vttl, .int .i64 vp, .int .u64 vsH, .int .u64 vsL, .int .u64 vdH, .int .u64 vdL, .bool vfr, .int .u32 vid, .int .i64 voff, .bool vmo] 40 (0, 0)) := by rw [hw3]; exact (al_oldw (by first | (simp; done) | (simp; omega)) _).trans (al_neww rfl _)
  have hR : w3.heap[w.heap.size + 1]? = some (.cells #[.int .i64 0, .int .i64 0, .int .u32 0, .int .u32 0, .int .i64 0, .int .i64 0, .int .i64 0, .int .i64 0, .int .i64 0, .int .i64 0] 50 (0, 0)) := by rw [hw3]; exact al_neww (by simp) _
  have bw : Below w.heap.size w w3 := by rw [hw3]; exact Below.al (Below.al (Below.refl _ _) _) _
  rw [← hw3]
  clear hw3
  obtain ⟨⟨v0, v1, v2, v3, v4, v5, v6, v7, v8, v9, v10, v11, v12⟩, _⟩ := cells13 hV
  obtain ⟨⟨r0, r1, r2, r3, r4, r5, r6, r7, r8, r9⟩, q0, q1, q2, q3, q4, q5, q6, q7, q8, q9⟩ := cells10 hR
  refine Lib.hid ?_
  go_wp2
  refine bodyPost_ret_by (res_row Try.results17 _ _ (w.heap.size + 1) 50 #[.int .i64 0, .int .i64 0, .int .u32 0, .int .u32 0, .int .i64 0, .int .i64 0, .int .i64 0, .int .i64 0, .int .i64 0, .int .i64 0] _ rfl (heap_set10w hR (.int .i64 0) (.int .i64 0) (.int .u32 0) (.int .u32 0) (.int .i64 0) (.int .i64 0) (.int .i64 0) (.int .i64 0) (.int .i64 0) (.int .i64 0)) Try.underlying50 (by kernel_rfl)) rfl ⟨rfl, ?_⟩
  exact below_set10 bw (by omega) _ _ _ _ _ _ _ _ _ _

set_option maxHeartbeats 2000000 in
set_option maxRecDepth 100000 in
theorem tr_c (A : Option Addr) (n c : Nat) (hn : n ≤ 9223372036854775807) (vv : Bool) (vhd vtt vttl vp vsH vsL vdH vdL : Int) (vfr : Bool) (vid voff : Int) (vmo : Bool) {w : World} (h0 : 0 ≤ vhd) (h1 : vhd ≤ vtt) (h : (n : Int) < vtt) :
    Calls Try.prog 17 #[.slice A n c, .agg #[.bool vv, .int .i64 vhd, .int .i64 vtt, .int .i64 vttl, .int .i64 vp, .int .u64 vsH, .int .u64 vsL, .int .u64 vdH, .int .u64 vdL, .bool vfr, .int .u32 vid, .int .i64 voff, .bool vmo]] w fun e w' => e = .returned (.tuple #[.agg (tcells ztw), .int .i64 42]) ∧ Below w.heap.size w w' := by
  have d : decide (vhd < 0) = false := by simp; omega
  have d9 : ¬ vhd < 0 := by omega
  have e : decide (vtt < vhd) = false := by simp; omega
  have e9 : ¬ vtt < vhd := by omega
  have f : decide ((n : Int) < vtt) = true := by simpa using h
  simp only [tcells, ztw]
  go_enter Try.func17, Try.ntmps17
  go_wp2_with (with_reducible refine stop_op (o := ⟨some 11, _, _, _, _, _⟩) ?_)
  obtain ⟨w3, hw3⟩ : ∃ x, x = (w.alloc (.cells #[.bool vv, .int .i64 vhd, .int .i64 vtt, .int .i64 vttl, .int .i64 vp, .int .u64 vsH, .int .u64 vsL, .int .u64 vdH, .int .u64 vdL, .bool vfr, .int .u32 vid, .int .i64 voff, .bool vmo] 40)).alloc (.cells #[.int .i64 0, .int .i64 0, .int .u32 0, .int .u32 0, .int .i64 0, .int .i64 0, .int .i64 0, .int .i64 0, .int .i64 0, .int .i64 0] 50) := ⟨_, rfl⟩
  have hV : w3.heap[w.heap.size]? = some (.cells #[.bool vv, .int .i64 vhd, .int .i64 vtt, .int .i64 vttl, .int .i64 vp, .int .u64 vsH, .int .u64 vsL, .int .u64 vdH, .int .u64 vdL, .bool vfr, .int .u32 vid, .int .i64 voff, .bool vmo] 40 (0, 0)) := by rw [hw3]; exact (al_oldw (by first | (simp; done) | (simp; omega)) _).trans (al_neww rfl _)
  have hR : w3.heap[w.heap.size + 1]? = some (.cells #[.int .i64 0, .int .i64 0, .int .u32 0, .int .u32 0, .int .i64 0, .int .i64 0, .int .i64 0, .int .i64 0, .int .i64 0, .int .i64 0] 50 (0, 0)) := by rw [hw3]; exact al_neww (by simp) _
  have bw : Below w.heap.size w w3 := by rw [hw3]; exact Below.al (Below.al (Below.refl _ _) _) _
  rw [← hw3]
  clear hw3
  obtain ⟨⟨v0, v1, v2, v3, v4, v5, v6, v7, v8, v9, v10, v11, v12⟩, _⟩ := cells13 hV
  obtain ⟨⟨r0, r1, r2, r3, r4, r5, r6, r7, r8, r9⟩, q0, q1, q2, q3, q4, q5, q6, q7, q8, q9⟩ := cells10 hR
  refine Lib.hid ?_
  go_wp2
  refine bodyPost_ret_by (res_row Try.results17 _ _ (w.heap.size + 1) 50 #[.int .i64 0, .int .i64 0, .int .u32 0, .int .u32 0, .int .i64 0, .int .i64 0, .int .i64 0, .int .i64 0, .int .i64 0, .int .i64 0] _ rfl (heap_set10w hR (.int .i64 0) (.int .i64 0) (.int .u32 0) (.int .u32 0) (.int .i64 0) (.int .i64 0) (.int .i64 0) (.int .i64 0) (.int .i64 0) (.int .i64 0)) Try.underlying50 (by kernel_rfl)) rfl ⟨rfl, ?_⟩
  exact below_set10 bw (by omega) _ _ _ _ _ _ _ _ _ _

set_option maxHeartbeats 2000000 in
set_option maxRecDepth 100000 in
theorem tr_d (A : Option Addr) (n c : Nat) (hn : n ≤ 9223372036854775807) (vv : Bool) (vhd vtt vttl vp vsH vsL vdH vdL : Int) (vid voff : Int) (vmo : Bool) {w : World} (h0 : 0 ≤ vhd) (h1 : vhd ≤ vtt) (h2 : vtt ≤ (n : Int)) :
    Calls Try.prog 17 #[.slice A n c, .agg #[.bool vv, .int .i64 vhd, .int .i64 vtt, .int .i64 vttl, .int .i64 vp, .int .u64 vsH, .int .u64 vsL, .int .u64 vdH, .int .u64 vdL, .bool true, .int .u32 vid, .int .i64 voff, .bool vmo]] w fun e w' => e = .returned (.tuple #[.agg (tcells ztw), .int .i64 42]) ∧ Below w.heap.size w w' := by
  have d : decide (vhd < 0) = false := by simp; omega
  have d9 : ¬ vhd < 0 := by omega
  have e : decide (vtt < vhd) = false := by simp; omega
  have e9 : ¬ vtt < vhd := by omega
  have f : decide ((n : Int) < vtt) = false := by simp; omega
  have f9 : ¬ (n : Int) < vtt := by omega
  simp only [tcells, ztw]
  go_enter Try.func17, Try.ntmps17
  go_wp2_with (with_reducible refine stop_op (o := ⟨some 11, _, _, _, _, _⟩) ?_)
  obtain ⟨w3, hw3⟩ : ∃ x, x = (w.alloc (.cells #[.bool vv, .int .i64 vhd, .int .i64 vtt, .int .i64 vttl, .int .i64 vp, .int .u64 vsH, .int .u64 vsL, .int .u64 vdH, .int .u64 vdL, .bool true, .int .u32 vid, .int .i64 voff, .bool vmo] 40)).alloc (.cells #[.int .i64 0, .int .i64 0, .int .u32 0, .int .u32 0, .int .i64 0, .int .i64 0, .int .i64 0, .int .i64 0, .int .i64 0, .int .i64 0] 50) := ⟨_, rfl⟩
  have hV : w3.heap[w.heap.size]? = some (.cells #[.bool vv, .int .i64 vhd, .int .i64 vtt, .int .i64 vttl, .int .i64 vp, .int .u64 vsH, .int .u64 vsL, .int .u64 vdH, .int .u64 vdL, .bool true, .int .u32 vid, .int .i64 voff, .bool vmo] 40 (0, 0)) := by rw [hw3]; exact (al_oldw (by first | (simp; done) | (simp; omega)) _).trans (al_neww rfl _)
  have hR : w3.heap[w.heap.size + 1]? = some (.cells #[.int .i64 0, .int .i64 0, .int .u32 0, .int .u32 0, .int .i64 0, .int .i64 0, .int .i64 0, .int .i64 0, .int .i64 0, .int .i64 0] 50 (0, 0)) := by rw [hw3]; exact al_neww (by simp) _
  have bw : Below w.heap.size w w3 := by rw [hw3]; exact Below.al (Below.al (Below.refl _ _) _) _
  rw [← hw3]
  clear hw3
  obtain ⟨⟨v0, v1, v2, v3, v4, v5, v6, v7, v8, v9, v10, v11, v12⟩, _⟩ := cells13 hV
  obtain ⟨⟨r0, r1, r2, r3, r4, r5, r6, r7, r8, r9⟩, q0, q1, q2, q3, q4, q5, q6, q7, q8, q9⟩ := cells10 hR
  refine Lib.hid ?_
  go_wp2
  refine bodyPost_ret_by (res_row Try.results17 _ _ (w.heap.size + 1) 50 #[.int .i64 0, .int .i64 0, .int .u32 0, .int .u32 0, .int .i64 0, .int .i64 0, .int .i64 0, .int .i64 0, .int .i64 0, .int .i64 0] _ rfl (heap_set10w hR (.int .i64 0) (.int .i64 0) (.int .u32 0) (.int .u32 0) (.int .i64 0) (.int .i64 0) (.int .i64 0) (.int .i64 0) (.int .i64 0) (.int .i64 0)) Try.underlying50 (by kernel_rfl)) rfl ⟨rfl, ?_⟩
  exact below_set10 bw (by omega) _ _ _ _ _ _ _ _ _ _

set_option maxHeartbeats 2000000 in
set_option maxRecDepth 100000 in
theorem tr_e (A : Option Addr) (n c hd tt : Nat) (l : List UInt8) (vv : Bool) (vttl vp vsH vsL vdH vdL : Int) (vid voff : Int) (vmo : Bool) {w : World} (hb : BytArg w A n c l) (h1 : hd ≤ tt) (h2 : tt ≤ n) (hm : n ≤ 65536) (hv : VOk ⟨vv, hd, tt, vttl, vp, vsH, vsL, vdH, vdL, false, vid, voff, vmo⟩) (BB : List UInt8) (hBB : BB = (l.drop hd).take (tt - hd)) (h3 : (hsP BB vp).2 ≠ 0) :
    Calls Try.prog 17 #[.slice A n c, .agg #[.bool vv, .int .i64 (hd : Nat), .int .i64 (tt : Nat), .int .i64 vttl, .int .i64 vp, .int .u64 vsH, .int .u64 vsL, .int .u64 vdH, .int .u64 vdL, .bool false, .int .u32 vid, .int .i64 voff, .bool vmo]] w fun e w' => e = .returned (.tuple #[.agg (tcells ztw), .int .i64 (hsP BB vp).2]) ∧ Below w.heap.size w w' := by
  obtain ⟨hn, hc, hcm, _⟩ := id hb
  unfold maxLen at hcm
  have d : decide ((hd : Int) < 0) = false := by simp
  have d9 : ¬ (hd : Int) < 0 := by omega
  have e : decide ((tt : Int) < (hd : Int)) = false := by simp; omega
  have e8 : decide (tt < hd) = false := by simp; omega
  have e9 : ¬ (tt : Int) < (hd : Int) := by omega
  have f : decide ((n : Int) < (tt : Int)) = false := by simp; omega
  have f8 : decide (n < tt) = false := by simp; omega
  have f9 : ¬ (n : Int) < (tt : Int) := by omega
  obtain ⟨A', sl, hbody⟩ := body_cut hb hd tt h1 h2
  rw [← hBB] at hbody
  have hlen : BB.length = tt - hd := hbody.1
  have chs := fun (W : World) (hw : Below w.heap.size w W) => hs_any A' (tt - hd) (c - hd) BB vp (hbody.below hw)
  generalize hsP BB vp = r at *
  obtain ⟨sz, er⟩ := r
  simp only at *
  have e0 : (er != 0) = true := by simpa using h3
  simp only [tcells, ztw]
  clear hb hbody hBB hlen h3 hv hn
  go_enter Try.func17, Try.ntmps17
  go_wp2_with (with_reducible refine stop_op (o := ⟨some 11, _, _, _, _, _⟩) ?_)
  obtain ⟨w3, hw3⟩ : ∃ x, x = (w.alloc (.cells #[.bool vv, .int .i64 (hd : Nat), .int .i64 (tt : Nat), .int .i64 vttl, .int .i64 vp, .int .u64 vsH, .int .u64 vsL, .int .u64 vdH, .int .u64 vdL, .bool false, .int .u32 vid, .int .i64 voff, .bool vmo] 40)).alloc (.cells #[.int .i64 0, .int .i64 0, .int .u32 0, .int .u32 0, .int .i64 0, .int .i64 0, .int .i64 0, .int .i64 0, .int .i64 0, .int .i64 0] 50) := ⟨_, rfl⟩
  have hV : w3.heap[w.heap.size]? = some (.cells #[.bool vv, .int .i64 (hd : Nat), .int .i64 (tt : Nat), .int .i64 vttl, .int .i64 vp, .int .u64 vsH, .int .u64 vsL, .int .u64 vdH, .int .u64 vdL, .bool false, .int .u32 vid, .int .i64 voff, .bool vmo] 40 (0, 0)) := by rw [hw3]; exact (al_oldw (by first | (simp; done) | (simp; omega)) _).trans (al_neww rfl _)
  have hR : w3.heap[w.heap.size + 1]? = some (.cells #[.int .i64 0, .int .i64 0, .int .u32 0, .int .u32 0, .int .i64 0, .int .i64 0, .int .i64 0, .int .i64 0, .int .i64 0, .int .i64 0] 50 (0, 0)) := by rw [hw3]; exact al_neww (by simp) _
  have bw : Below w.heap.size w w3 := by rw [hw3]; exact Below.al (Below.al (Below.refl _ _) _) _
  rw [← hw3]
  clear hw3
  obtain ⟨⟨v0, v1, v2, v3, v4, v5, v6, v7, v8, v9, v10, v11, v12⟩, _⟩ := cells13 hV
  obtain ⟨⟨r0, r1, r2, r3, r4, r5, r6, r7, r8, r9⟩, q0, q1, q2, q3, q4, q5, q6, q7, q8, q9⟩ := cells10 hR
  refine Lib.hid ?_
  go_wp2_with (go_at_call 53; refine (chs _ bw).mono ?_; rintro e w' ⟨rfl, rfl⟩)
  refine bodyPost_ret_by (res_row Try.results17 _ _ (w.heap.size + 1) 50 #[.int .i64 0, .int .i64 0, .int .u32 0, .int .u32 0, .int .i64 0, .int .i64 0, .int .i64 0, .int .i64 0, .int .i64 0, .int .i64 0] _ rfl (heap_set10w hR (.int .i64 0) (.int .i64 0) (.int .u32 0) (.int .u32 0) (.int .i64 0) (.int .i64 0) (.int .i64 0) (.int .i64 0) (.int .i64 0) (.int .i64 0)) Try.underlying50 (by kernel_rfl)) rfl ⟨rfl, ?_⟩
  exact below_set10 bw (by omega) _ _ _ _ _ _ _ _ _ _

set_option maxHeartbeats 2000000 in
set_option maxRecDepth 100000 in
theorem tr_f (A : Option Addr) (n c hd tt : Nat) (l : List UInt8) (vv : Bool) (vttl vp vsH vsL vdH vdL : Int) (vid voff : Int) (vmo : Bool) {w : World} (hb : BytArg w A n c l) (h1 : hd ≤ tt) (h2 : tt ≤ n) (hm : n ≤ 65536) (hv : VOk ⟨vv, hd, tt, vttl, vp, vsH, vsL, vdH, vdL, false, vid, voff, vmo⟩) (BB : List UInt8) (hBB : BB = (l.drop hd).take (tt - hd)) (h3 : (hsP BB vp).2 = 0) (hm2 : tt - hd < 65536) (h4 : rsP ⟨vv, hd, tt, vttl, vp, vsH, vsL, vdH, vdL, false, vid, voff, vmo⟩ BB = false) :
    Calls Try.prog 17 #[.slice A n c, .agg #[.bool vv, .int .i64 (hd : Nat), .int .i64 (tt : Nat), .int .i64 vttl, .int .i64 vp, .int .u64 vsH, .int .u64 vsL, .int .u64 vdH, .int .u64 vdL, .bool false, .int .u32 vid, .int .i64 voff, .bool vmo]] w fun e w' => e = .returned (.tuple #[.agg (tcells ztw), .int .i64 43]) ∧ Below w.heap.size w w' := by
  obtain ⟨hn, hc, hcm, _⟩ := id hb
  unfold maxLen at hcm
  have d : decide ((hd : Int) < 0) = false := by simp
  have d9 : ¬ (hd : Int) < 0 := by omega
  have e : decide ((tt : Int) < (hd : Int)) = false := by simp; omega
  have e8 : decide (tt < hd) = false := by simp; omega
  have e9 : ¬ (tt : Int) < (hd : Int) := by omega
  have f : decide ((n : Int) < (tt : Int)) = false := by simp; omega
  have f8 : decide (n < tt) = false := by simp; omega
  have f9 : ¬ (n : Int) < (tt : Int) := by omega
  obtain ⟨A', sl, hbody⟩ := body_cut hb hd tt h1 h2
  rw [← hBB] at hbody
  have hlen : BB.length = tt - hd := hbody.1
  have chs := fun (W : World) (hw : Below w.heap.size w W) => hs_any A' (tt - hd) (c - hd) BB vp (hbody.below hw)
  have hwl := hsP_whole h3
  rw [hlen] at hwl
  have crs := fun (W : World) (hw : Below w.heap.size w W) => right_any A' (tt - hd) (c - hd) BB _ hv (hbody.below hw) hwl (by omega)
  rw [h4] at crs
  simp only [vcells] at crs
  generalize hsP BB vp = r at *
  obtain ⟨sz, er⟩ := r
  simp only at *
  have e0 : (er != 0) = false := by simpa using h3
  simp only [tcells, ztw]
  clear hb hbody hBB hlen h3 h4 hv hn hwl
  go_enter Try.func17, Try.ntmps17
  go_wp2_with (with_reducible refine stop_op (o := ⟨some 11, _, _, _, _, _⟩) ?_)
  obtain ⟨w3, hw3⟩ : ∃ x, x = (w.alloc (.cells #[.bool vv, .int .i64 (hd : Nat), .int .i64 (tt : Nat), .int .i64 vttl, .int .i64 vp, .int .u64 vsH, .int .u64 vsL, .int .u64 vdH, .int .u64 vdL, .bool false, .int .u32 vid, .int .i64 voff, .bool vmo] 40)).alloc (.cells #[.int .i64 0, .int .i64 0, .int .u32 0, .int .u32 0, .int .i64 0, .int .i64 0, .int .i64 0, .int .i64 0, .int .i64 0, .int .i64 0] 50) := ⟨_, rfl⟩
  have hV : w3.heap[w.heap.size]? = some (.cells #[.bool vv, .int .i64 (hd : Nat), .int .i64 (tt : Nat), .int .i64 vttl, .int .i64 vp, .int .u64 vsH, .int .u64 vsL, .int .u64 vdH, .int .u64 vdL, .bool false, .int .u32 vid, .int .i64 voff, .bool vmo] 40 (0, 0)) := by rw [hw3]; exact (al_oldw (by first | (simp; done) | (simp; omega)) _).trans (al_neww rfl _)
  have hR : w3.heap[w.heap.size + 1]? = some (.cells #[.int .i64 0, .int .i64 0, .int .u32 0, .int .u32 0, .int .i64 0, .int .i64 0, .int .i64 0, .int .i64 0, .int .i64 0, .int .i64 0] 50 (0, 0)) := by rw [hw3]; exact al_neww (by simp) _
  have bw : Below w.heap.size w w3 := by rw [hw3]; exact Below.al (Below.al (Below.refl _ _) _) _
  rw [← hw3]
  clear hw3
  obtain ⟨⟨v0, v1, v2, v3, v4, v5, v6, v7, v8, v9, v10, v11, v12⟩, _⟩ := cells13 hV
  obtain ⟨⟨r0, r1, r2, r3, r4, r5, r6, r7, r8, r9⟩, q0, q1, q2, q3, q4, q5, q6, q7, q8, q9⟩ := cells10 hR
  refine Lib.hid ?_
  go_wp2_with (first | (go_at_call 53; refine (chs _ bw).mono ?_; rintro e w' ⟨rfl, rfl⟩) | (go_at_call 54; refine (crs _ bw).mono ?_; rintro e w4 ⟨rfl, hbx⟩; refine Hid.out ?_))
  have hVn := blkKeep2 hbx hV
  have hRn := blkKeep2 hbx hR
  have bwn : Below w.heap.size w w4 := bw.trans (hbx.mono bw.size)
  clear hbx hV hR bw r0 r1 r2 r3 r4 r5 r6 r7 r8 r9 q0 q1 q2 q3 q4 q5 q6 q7 q8 q9 v0 v1 v2 v3 v4 v5 v6 v7 v8 v9 v10 v11 v12
  have hV := hVn
  have hR := hRn
  have bw := bwn
  clear hVn hRn bwn
  obtain ⟨⟨v0, v1, v2, v3, v4, v5, v6, v7, v8, v9, v10, v11, v12⟩, _⟩ := cells13 hV
  obtain ⟨⟨r0, r1, r2, r3, r4, r5, r6, r7, r8, r9⟩, q0, q1, q2, q3, q4, q5, q6, q7, q8, q9⟩ := cells10 hR
  refine Lib.hid ?_
  go_wp2
  refine bodyPost_ret_by (res_row Try.results17 _ _ (w.heap.size + 1) 50 #[.int .i64 0, .int .i64 0, .int .u32 0, .int .u32 0, .int .i64 0, .int .i64 0, .int .i64 0, .int .i64 0, .int .i64 0, .int .i64 0] _ rfl (heap_set10w hR (.int .i64 0) (.int .i64 0) (.int .u32 0) (.int .u32 0) (.int .i64 0) (.int .i64 0) (.int .i64 0) (.int .i64 0) (.int .i64 0) (.int .i64 0)) Try.underlying50 (by kernel_rfl)) rfl ⟨rfl, ?_⟩
  exact below_set10 bw (by omega) _ _ _ _ _ _ _ _ _ _

set_option maxHeartbeats 2000000 in
set_option maxRecDepth 100000 in
theorem tr_g (A : Option Addr) (n c hd tt : Nat) (l : List UInt8) (vv : Bool) (vttl vp vsH vsL vdH vdL : Int) (vid voff : Int) (vmo : Bool) {w : World} (hb : BytArg w A n c l) (h1 : hd ≤ tt) (h2 : tt ≤ n) (hm : n ≤ 65536) (hv : VOk ⟨vv, hd, tt, vttl, vp, vsH, vsL, vdH, vdL, false, vid, voff, vmo⟩) (BB : List UInt8) (hBB : BB = (l.drop hd).take (tt - hd)) (h3 : (hsP BB vp).2 = 0) (hm2 : tt - hd < 65536) (h4 : rsP ⟨vv, hd, tt, vttl, vp, vsH, vsL, vdH, vdL, false, vid, voff, vmo⟩ BB = true) (hz0 : 0 ≤ (hsP BB vp).1) (hz1 : (hsP BB vp).1 < 70000) :
    Calls Try.prog 17 #[.slice A n c, .agg #[.bool vv, .int .i64 (hd : Nat), .int .i64 (tt : Nat), .int .i64 vttl, .int .i64 vp, .int .u64 vsH, .int .u64 vsL, .int .u64 vdH, .int .u64 vdL, .bool false, .int .u32 vid, .int .i64 voff, .bool vmo]] w fun e w' => e = .returned (.tuple #[.agg (tcells { fieldsP BB vv vp with head := (hd : Int) + (hsP BB vp).1, data := (tt : Int) - ((hd : Int) + (hsP BB vp).1) }), .int .i64 0]) ∧ Below w.heap.size w w' := by
  obtain ⟨hn, hc, hcm, _⟩ := id hb
  unfold maxLen at hcm
  have d : decide ((hd : Int) < 0) = false := by simp
  have d9 : ¬ (hd : Int) < 0 := by omega
  have e : decide ((tt : Int) < (hd : Int)) = false := by simp; omega
  have e8 : decide (tt < hd) = false := by simp; omega
  have e9 : ¬ (tt : Int) < (hd : Int) := by omega
  have f : decide ((n : Int) < (tt : Int)) = false := by simp; omega
  have f8 : decide (n < tt) = false := by simp; omega
  have f9 : ¬ (n : Int) < (tt : Int) := by omega
  obtain ⟨A', sl, hbody⟩ := body_cut hb hd tt h1 h2
  rw [← hBB] at hbody
  have hlen : BB.length = tt - hd := hbody.1
  have chs := fun (W : World) (hw : Below w.heap.size w W) => hs_any A' (tt - hd) (c - hd) BB vp (hbody.below hw)
  have hwl := hsP_whole h3
  rw [hlen] at hwl
  have crs := fun (W : World) (hw : Below w.heap.size w W) => right_any A' (tt - hd) (c - hd) BB _ hv (hbody.below hw) hwl (by omega)
  rw [h4] at crs
  simp only [vcells] at crs
  have cfd := fun (W : World) (hw : Below w.heap.size w W) => fields_any A' (tt - hd) (c - hd) BB ⟨vv, hd, tt, vttl, vp, vsH, vsL, vdH, vdL, false, vid, voff, vmo⟩ (hbody.below hw) hwl
  simp only at cfd
  simp only [vcells, tcells] at cfd
  generalize fieldsP BB vv vp = tf at *
  generalize hsP BB vp = r at *
  obtain ⟨sz, er⟩ := r
  simp only at *
  obtain rfl : er = 0 := h3
  have w1 : IntKind.i64.wrap ((hd : Int) + sz) = (hd : Int) + sz := by rw [IntKind.wrap_i64]; omega
  have w2 : IntKind.i64.wrap ((tt : Int) - ((hd : Int) + sz)) = (tt : Int) - ((hd : Int) + sz) := by rw [IntKind.wrap_i64]; omega
  have x1 : (hd : Int) ≤ 65536 := by omega
  have x2 : (tt : Int) ≤ 65536 := by omega
  simp only [tcells]
  clear hb hbody hBB hlen h4 hv hn hwl
  go_enter Try.func17, Try.ntmps17
  go_wp2_with (with_reducible refine stop_op (o := ⟨some 11, _, _, _, _, _⟩) ?_)
  obtain ⟨w3, hw3⟩ : ∃ x, x = (w.alloc (.cells #[.bool vv, .int .i64 (hd : Nat), .int .i64 (tt : Nat), .int .i64 vttl, .int .i64 vp, .int .u64 vsH, .int .u64 vsL, .int .u64 vdH, .int .u64 vdL, .bool false, .int .u32 vid, .int .i64 voff, .bool vmo] 40)).alloc (.cells #[.int .i64 0, .int .i64 0, .int .u32 0, .int .u32 0, .int .i64 0, .int .i64 0, .int .i64 0, .int .i64 0, .int .i64 0, .int .i64 0] 50) := ⟨_, rfl⟩
  have hV : w3.heap[w.heap.size]? = some (.cells #[.bool vv, .int .i64 (hd : Nat), .int .i64 (tt : Nat), .int .i64 vttl, .int .i64 vp, .int .u64 vsH, .int .u64 vsL, .int .u64 vdH, .int .u64 vdL, .bool false, .int .u32 vid, .int .i64 voff, .bool vmo] 40 (0, 0)) := by rw [hw3]; exact (al_oldw (by first | (simp; done) | (simp; omega)) _).trans (al_neww rfl _)
  have hR : w3.heap[w.heap.size + 1]? = some (.cells #[.int .i64 0, .int .i64 0, .int .u32 0, .int .u32 0, .int .i64 0, .int .i64 0, .int .i64 0, .int .i64 0, .int .i64 0, .int .i64 0] 50 (0, 0)) := by rw [hw3]; exact al_neww (by simp) _
  have bw : Below w.heap.size w w3 := by rw [hw3]; exact Below.al (Below.al (Below.refl _ _) _) _
  rw [← hw3]
  clear hw3
  obtain ⟨⟨v0, v1, v2, v3, v4, v5, v6, v7, v8, v9, v10, v11, v12⟩, _⟩ := cells13 hV
  obtain ⟨⟨r0, r1, r2, r3, r4, r5, r6, r7, r8, r9⟩, q0, q1, q2, q3, q4, q5, q6, q7, q8, q9⟩ := cells10 hR
  refine Lib.hid ?_
  go_wp2_with (first | (go_at_call 53; refine (chs _ bw).mono ?_; rintro e w' ⟨rfl, rfl⟩) | (go_at_call 54; refine (crs _ bw).mono ?_; rintro e w4 ⟨rfl, hbx⟩; refine Hid.out ?_))
  have hVn := blkKeep2 hbx hV
  have hRn := blkKeep2 hbx hR
  have bwn : Below w.heap.size w w4 := bw.trans (hbx.mono bw.size)
  clear hbx hV hR bw r0 r1 r2 r3 r4 r5 r6 r7 r8 r9 q0 q1 q2 q3 q4 q5 q6 q7 q8 q9 v0 v1 v2 v3 v4 v5 v6 v7 v8 v9 v10 v11 v12
  have hV := hVn
  have hR := hRn
  have bw := bwn
  clear hVn hRn bwn
  obtain ⟨⟨v0, v1, v2, v3, v4, v5, v6, v7, v8, v9, v10, v11, v12⟩, _⟩ := cells13 hV
  obtain ⟨⟨r0, r1, r2, r3, r4, r5, r6, r7, r8, r9⟩, q0, q1, q2, q3, q4, q5, q6, q7, q8, q9⟩ := cells10 hR
  refine Lib.hid ?_
  go_wp2_with (go_at_call 55; refine (cfd _ bw).mono ?_; rintro e w5 ⟨rfl, hbx⟩; refine Hid.out ?_)
  have hVn := blkKeep2 hbx hV
  have hRn := blkKeep2 hbx hR
  have bwn : Below w.heap.size w w5 := bw.trans (hbx.mono bw.size)
  clear hbx hV hR bw r0 r1 r2 r3 r4 r5 r6 r7 r8 r9 q0 q1 q2 q3 q4 q5 q6 q7 q8 q9 v0 v1 v2 v3 v4 v5 v6 v7 v8 v9 v10 v11 v12
  have hV := hVn
  have hR := hRn
  have bw := bwn
  clear hVn hRn bwn
  refine Lib.hid ?_
  go_wp2_with (with_reducible refine stop_op (o := ⟨some 60, _, _, _, _, _⟩) ?_)
  obtain ⟨w6, hwn⟩ : ∃ x, x = w5.alloc (.cells #[.int .i64 tf.sport, .int .i64 tf.dport, .int .u32 tf.seq, .int .u32 tf.ack, .int .i64 tf.flags, .int .i64 tf.win, .int .i64 tf.type, .int .i64 tf.code, .int .i64 tf.head, .int .i64 tf.data] 50) := ⟨_, rfl⟩
  have hT : w6.heap[w5.heap.size]? = some (.cells #[.int .i64 tf.sport, .int .i64 tf.dport, .int .u32 tf.seq, .int .u32 tf.ack, .int .i64 tf.flags, .int .i64 tf.win, .int .i64 tf.type, .int .i64 tf.code, .int .i64 tf.head, .int .i64 tf.data] 50 (0, 0)) := by rw [hwn]; exact al_neww rfl _
  have hz5 : w.heap.size + 1 < w5.heap.size := (Array.getElem?_eq_some_iff.1 hR).1
  have hbx : Below w5.heap.size w5 w6 := by rw [hwn]; exact Below.al (Below.refl _ _) _
  rw [← hwn]
  clear hwn
  have hVn := blkKeep2 hbx hV
  have hRn := blkKeep2 hbx hR
  have bwn : Below w.heap.size w w6 := bw.trans (hbx.mono bw.size)
  clear hbx hV hR bw  
  have hV := hVn
  have hR := hRn
  have bw := bwn
  clear hVn hRn bwn
  obtain ⟨⟨v0, v1, v2, v3, v4, v5, v6, v7, v8, v9, v10, v11, v12⟩, _⟩ := cells13 hV
  obtain ⟨⟨t0, t1, t2, t3, t4, t5, t6, t7, t8, t9⟩, f0, f1, f2, f3, f4, f5, f6, f7, f8', f9'⟩ := cells10 hT
  refine Lib.hid ?_
  go_wp2_with (with_reducible refine stop_op (o := ⟨some 70, _, _, _, _, _⟩) ?_)
  obtain ⟨w7, hwn⟩ : ∃ x, x = (w6.setCell ⟨w5.heap.size, 8, none⟩ (.int .i64 ((hd : Int) + sz))).setCell ⟨w5.heap.size, 9, none⟩ (.int .i64 ((tt : Int) - ((hd : Int) + sz))) := ⟨_, rfl⟩
  have hTn : w7.heap[w5.heap.size]? = some (.cells #[.int .i64 tf.sport, .int .i64 tf.dport, .int .u32 tf.seq, .int .u32 tf.ack, .int .i64 tf.flags, .int .i64 tf.win, .int .i64 tf.type, .int .i64 tf.code, .int .i64 ((hd : Int) + sz), .int .i64 ((tt : Int) - ((hd : Int) + sz))] 50 (0, 0)) := by rw [hwn, heap_setw (heap_setw hT 8 _) 9 _]; kernel_rfl
  have hRn : w7.heap[w.heap.size + 1]? = some (.cells #[.int .i64 0, .int .i64 0, .int .u32 0, .int .u32 0, .int .i64 0, .int .i64 0, .int .i64 0, .int .i64 0, .int .i64 0, .int .i64 0] 50 (0, 0)) := by rw [hwn, set_other (by omega), set_other (by omega)]; exact hR
  have bwn : Below w.heap.size w w7 := by rw [hwn]; exact below_set (below_set bw (by omega) 8 _) (by omega) 9 _
  rw [← hwn]
  clear hwn hV hR hT bw v0 v1 v2 v3 v4 v5 v6 v7 v8 v9 v10 v11 v12 t0 t1 t2 t3 t4 t5 t6 t7 t8 t9 f0 f1 f2 f3 f4 f5 f6 f7 f8' f9'
  have hR := hRn
  have bw := bwn
  clear hRn bwn
  obtain ⟨⟨t0, t1, t2, t3, t4, t5, t6, t7, t8, t9⟩, _⟩ := cells10 hTn
  obtain ⟨⟨r0, r1, r2, r3, r4, r5, r6, r7, r8, r9⟩, q0, q1, q2, q3, q4, q5, q6, q7, q8, q9⟩ := cells10 hR
  refine Lib.hid ?_
  go_wp2
  refine bodyPost_ret_by (res_row Try.results17 _ _ (w.heap.size + 1) 50 #[.int .i64 tf.sport, .int .i64 tf.dport, .int .u32 tf.seq, .int .u32 tf.ack, .int .i64 tf.flags, .int .i64 tf.win, .int .i64 tf.type, .int .i64 tf.code, .int .i64 ((hd : Int) + sz), .int .i64 ((tt : Int) - ((hd : Int) + sz))] _ rfl (heap_set10w hR (.int .i64 tf.sport) (.int .i64 tf.dport) (.int .u32 tf.seq) (.int .u32 tf.ack) (.int .i64 tf.flags) (.int .i64 tf.win) (.int .i64 tf.type) (.int .i64 tf.code) (.int .i64 ((hd : Int) + sz)) (.int .i64 ((tt : Int) - ((hd : Int) + sz)))) Try.underlying50 (by kernel_rfl)) rfl ⟨rfl, ?_⟩
  exact below_set10 bw (by omega) _ _ _ _ _ _ _ _ _ _

theorem hsP_bd (l : List UInt8) (p : Int) : 0 ≤ (hsP l p).1 ∧ (hsP l p).1 < 70000 := by
  have h := byN_lt l 12
  have hL : (layP p).1 ≤ 20 ∧ 0 ≤ (layP p).1 := by unfold layP; repeat' split
                                                   all_goals simp
  unfold hsP
  repeat' split
  all_goals (simp only; omega)

/-- Transport. -/
theorem trans_any (A : Option Addr) (n c : Nat) (l : List UInt8) (v : VW) (hv : VOk v) {w : World} (h : BytArg w A n c l) (hm : n ≤ 65536) (hm2 : v.total - v.head < 65536) :
    Calls Try.prog 17 #[.slice A n c, .agg (vcells v)] w fun e w' => e = .returned (.tuple #[.agg (tcells (transP l v).1), .int .i64 (transP l v).2]) ∧ Below w.heap.size w w' := by
  have hn := h.1
  obtain ⟨vv, vhd, vtt, vttl, vp, vsH, vsL, vdH, vdL, vfr, vid, voff, vmo⟩ := v
  unfold transP
  rw [hn]
  simp only at hm2 ⊢
  by_cases h0 : vhd < 0
  · rw [if_pos (Or.inl h0)]; simp only [vcells]
    exact tr_a A n c (by omega) vv vhd vtt vttl vp vsH vsL vdH vdL vfr vid voff vmo h0
  by_cases h1 : vtt < vhd
  · rw [if_pos (Or.inr (Or.inl h1))]; simp only [vcells]
    exact tr_b A n c (by omega) vv vhd vtt vttl vp vsH vsL vdH vdL vfr vid voff vmo (by omega) h1
  by_cases h2 : (n : Int) < vtt
  · rw [if_pos (Or.inr (Or.inr (Or.inl h2)))]; simp only [vcells]
    exact tr_c A n c (by omega) vv vhd vtt vttl vp vsH vsL vdH vdL vfr vid voff vmo (by omega) (by omega) h2
  cases vfr with
  | true =>
    rw [if_pos (Or.inr (Or.inr (Or.inr rfl)))]; simp only [vcells]
    exact tr_d A n c (by omega) vv vhd vtt vttl vp vsH vsL vdH vdL vid voff vmo (by omega) (by omega) (by omega)
  | false =>
    rw [if_neg (by rintro (e | e | e | e); exact h0 e; exact h1 e; exact h2 e; cases e)]
    obtain ⟨hd, rfl⟩ := Int.eq_ofNat_of_zero_le (show 0 ≤ vhd by omega)
    obtain ⟨tt, rfl⟩ := Int.eq_ofNat_of_zero_le (show 0 ≤ vtt by omega)
    have hB : bodyP l ⟨vv, hd, tt, vttl, vp, vsH, vsL, vdH, vdL, false, vid, voff, vmo⟩ = (l.drop hd).take (tt - hd) := by simp only [bodyP, Int.toNat_natCast]
    rw [hB]
    generalize hBB : (l.drop hd).take (tt - hd) = BB
    have hbd := hsP_bd BB vp
    by_cases h3 : (hsP BB vp).2 = 0
    · rw [if_neg (by omega)]
      by_cases h4 : rsP ⟨vv, hd, tt, vttl, vp, vsH, vsL, vdH, vdL, false, vid, voff, vmo⟩ BB = false
      · rw [if_pos h4]
        exact tr_f A n c hd tt l vv vttl vp vsH vsL vdH vdL vid voff vmo h (by omega) (by omega) hm hv BB hBB.symm h3 (by omega) h4
      · rw [if_neg h4]
        exact tr_g A n c hd tt l vv vttl vp vsH vsL vdH vdL vid voff vmo h (by omega) (by omega) hm hv BB hBB.symm h3 (by omega) (by simpa using h4) hbd.1 hbd.2
    · rw [if_pos h3]
      exact tr_e A n c hd tt l vv vttl vp vsH vsL vdH vdL vid voff vmo h (by omega) (by omega) hm hv BB hBB.symm h3
end Go.Proofs.Ytpmbdjdhgcjkfaa
