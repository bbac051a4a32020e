/- Whether a body's check sum is right: the program's; by-name template. -/
import Derived.Test.YtpmbdjdhgcjkfaaWBSum
import Derived.Test.YtpmbdjdhgcjkfaaWFields
namespace Go.Proofs.Ytpmbdjdhgcjkfaa
open Go.RowKit Go.Sort
set_option linter.unusedVariables false
set_option linter.unusedSimpArgs false

/-- The pseudo header of a body of so many bytes. -/
def psP (v : VW) (n : Nat) : List UInt8 :=
  if is4I v.srcH v.srcL then beB 4 v.srcL.toNat ++ beB 4 v.dstL.toNat ++ psT4 v.proto.toNat n
  else beB 8 v.srcH.toNat ++ beB 8 v.srcL.toNat ++ (beB 8 v.dstH.toNat ++ beB 8 v.dstL.toNat) ++ psT16 v.proto.toNat n
/-- A body's check sum. -/
def bsP (v : VW) (l : List UInt8) : Nat := if v.proto = 1 then sumP l else sumP (psP v l.length ++ l)
/-- A view whose numbers may be. -/
structure VOk (v : VW) : Prop where
  p0 : 0 ≤ v.proto
  p1 : v.proto < 256
  sh : Word v.srcH
  sl : Word v.srcL
  dh : Word v.dstH
  dl : Word v.dstL
  fam : is4I v.dstH v.dstL = is4I v.srcH v.srcL

theorem bsum_any (g o c n : Nat) (l : List UInt8) (v : VW) (hv : VOk v) (hn : l.length = n) (h0 : 0 < n) (hm : n < 65536) (hc : n ≤ c) (hcm : c ≤ 9223372036854775807) {w : World} (hb : Byt w g o l) :
    Calls Try.prog 71 #[.slice (some ⟨g, o, none⟩) n c, .agg (vcells v)] w fun e w' => e = .returned (.int .i64 (bsP v l : Nat)) ∧ Below w.heap.size w w' := by
  obtain ⟨vv, vhd, vtt, vttl, vp, vsH, vsL, vdH, vdL, vfr, vid, voff, vmo⟩ := v
  obtain ⟨p0, p1, ⟨a0, a1⟩, ⟨b0, b1⟩, ⟨c0, c1⟩, ⟨d0, d1⟩, hf⟩ := hv
  simp only at p0 p1 a0 a1 b0 b1 c0 c1 d0 d1 hf
  obtain ⟨p, rfl⟩ := Int.eq_ofNat_of_zero_le p0
  obtain ⟨sh, rfl⟩ := Int.eq_ofNat_of_zero_le a0
  obtain ⟨sl, rfl⟩ := Int.eq_ofNat_of_zero_le b0
  obtain ⟨dh, rfl⟩ := Int.eq_ofNat_of_zero_le c0
  obtain ⟨dl, rfl⟩ := Int.eq_ofNat_of_zero_le d0
  unfold bsP psP
  simp only [vcells, Int.toNat_natCast]
  rw [hn]
  by_cases hp : p = 1
  · rw [if_pos (by omega)]
    exact bsum_icmp vv vhd vtt vttl p sh sl dh dl vfr vid voff vmo g o c n l hn h0 (by omega) hc hcm hb hp
  rw [if_neg (by omega)]
  by_cases h4 : is4I (sh : Int) (sl : Int) = true
  · rw [if_pos h4]
    exact bsum_4 vv vhd vtt vttl p sh sl dh dl vfr vid voff vmo g o c n l hn h0 (by omega) hc hcm (by omega) (by omega) (by omega) (by omega) h4 (by rw [hf]; exact h4) (by omega) hm hb hp
  · rw [if_neg h4]
    have h4 := eq_false_of_ne_true h4
    exact bsum_16 vv vhd vtt vttl p sh sl dh dl vfr vid voff vmo g o c n l hn h0 (by omega) hc hcm (by omega) (by omega) (by omega) (by omega) h4 (by rw [hf]; exact h4) (by omega) hm hb hp

/-- Whether a body's check sum is right, or may be left away. -/
def rsP (v : VW) (l : List UInt8) : Bool :=
  if v.proto = 17 then (if nbN l 6 2 = 0 then !v.v6 else decide (bsP v l = 0))
  else if v.proto = 6 ∨ v.proto = 1 ∨ v.proto = 58 then decide (bsP v l = 0) else true

-- WALKS

set_option maxHeartbeats 1000000 in
set_option maxRecDepth 100000 in
theorem rsum_6 (g o c n : Nat) (l : List UInt8) (v6 : Bool) (vhd vtt vttl vsH vsL vdH vdL : Int) (vfr : Bool) (vid voff : Int) (vmo : Bool) (S : Nat) {w : World} (cb : ∀ W : World, Below w.heap.size w W → Calls Try.prog 71 #[.slice (some ⟨g, o, none⟩) n c, .agg #[.bool v6, .int .i64 vhd, .int .i64 vtt, .int .i64 vttl, .int .i64 6, .int .u64 vsH, .int .u64 vsL, .int .u64 vdH, .int .u64 vdL, .bool vfr, .int .u32 vid, .int .i64 voff, .bool vmo]] W fun e w' => e = .returned (.int .i64 (S : Nat)) ∧ Below W.heap.size W w') :
    Calls Try.prog 54 #[.slice (some ⟨g, o, none⟩) n c, .agg #[.bool v6, .int .i64 vhd, .int .i64 vtt, .int .i64 vttl, .int .i64 6, .int .u64 vsH, .int .u64 vsL, .int .u64 vdH, .int .u64 vdL, .bool vfr, .int .u32 vid, .int .i64 voff, .bool vmo]] w fun e w' => e = .returned (.bool (decide (S = 0))) ∧ Below w.heap.size w w' := by
  have q0 : ((S : Int) == 0) = decide (S = 0) := by by_cases h : S = 0 <;> simp [h]
  generalize decide (S = 0) = q at q0 ⊢
  go_enter Try.func54, Try.ntmps54
  go_wp2_with (with_reducible refine stop_op (o := ⟨some 6, _, _, _, _, _⟩) ?_)
  obtain ⟨w1, hw1⟩ : ∃ x, x = w.alloc (.cells #[.bool v6, .int .i64 vhd, .int .i64 vtt, .int .i64 vttl, .int .i64 6, .int .u64 vsH, .int .u64 vsL, .int .u64 vdH, .int .u64 vdL, .bool vfr, .int .u32 vid, .int .i64 voff, .bool vmo] 40) := ⟨_, rfl⟩
  have hV : w1.heap[w.heap.size]? = some (.cells #[.bool v6, .int .i64 vhd, .int .i64 vtt, .int .i64 vttl, .int .i64 6, .int .u64 vsH, .int .u64 vsL, .int .u64 vdH, .int .u64 vdL, .bool vfr, .int .u32 vid, .int .i64 voff, .bool vmo] 40 (0, 0)) := by rw [hw1]; exact al_neww rfl _
  have bw1 : Below w.heap.size w w1 := by rw [hw1]; exact Below.al (Below.refl _ _) _
  rw [← hw1]
  clear hw1
  obtain ⟨⟨v0, v1, v2, v3, v4, v5, v6', v7, v8, v9, v10, v11, v12⟩, _⟩ := cells13 hV
  refine Lib.hid ?_
  go_wp2_with ((go_at_call 71; refine (cb _ bw1).mono ?_; rintro e w2 ⟨rfl, hb2⟩))
  go_ret
  exact ⟨rfl, bw1.trans (hb2.mono bw1.size)⟩

set_option maxHeartbeats 1000000 in
set_option maxRecDepth 100000 in
theorem rsum_1 (g o c n : Nat) (l : List UInt8) (v6 : Bool) (vhd vtt vttl vsH vsL vdH vdL : Int) (vfr : Bool) (vid voff : Int) (vmo : Bool) (S : Nat) {w : World} (cb : ∀ W : World, Below w.heap.size w W → Calls Try.prog 71 #[.slice (some ⟨g, o, none⟩) n c, .agg #[.bool v6, .int .i64 vhd, .int .i64 vtt, .int .i64 vttl, .int .i64 1, .int .u64 vsH, .int .u64 vsL, .int .u64 vdH, .int .u64 vdL, .bool vfr, .int .u32 vid, .int .i64 voff, .bool vmo]] W fun e w' => e = .returned (.int .i64 (S : Nat)) ∧ Below W.heap.size W w') :
    Calls Try.prog 54 #[.slice (some ⟨g, o, none⟩) n c, .agg #[.bool v6, .int .i64 vhd, .int .i64 vtt, .int .i64 vttl, .int .i64 1, .int .u64 vsH, .int .u64 vsL, .int .u64 vdH, .int .u64 vdL, .bool vfr, .int .u32 vid, .int .i64 voff, .bool vmo]] w fun e w' => e = .returned (.bool (decide (S = 0))) ∧ Below w.heap.size w w' := by
  have q0 : ((S : Int) == 0) = decide (S = 0) := by by_cases h : S = 0 <;> simp [h]
  generalize decide (S = 0) = q at q0 ⊢
  go_enter Try.func54, Try.ntmps54
  go_wp2_with (with_reducible refine stop_op (o := ⟨some 6, _, _, _, _, _⟩) ?_)
  obtain ⟨w1, hw1⟩ : ∃ x, x = w.alloc (.cells #[.bool v6, .int .i64 vhd, .int .i64 vtt, .int .i64 vttl, .int .i64 1, .int .u64 vsH, .int .u64 vsL, .int .u64 vdH, .int .u64 vdL, .bool vfr, .int .u32 vid, .int .i64 voff, .bool vmo] 40) := ⟨_, rfl⟩
  have hV : w1.heap[w.heap.size]? = some (.cells #[.bool v6, .int .i64 vhd, .int .i64 vtt, .int .i64 vttl, .int .i64 1, .int .u64 vsH, .int .u64 vsL, .int .u64 vdH, .int .u64 vdL, .bool vfr, .int .u32 vid, .int .i64 voff, .bool vmo] 40 (0, 0)) := by rw [hw1]; exact al_neww rfl _
  have bw1 : Below w.heap.size w w1 := by rw [hw1]; exact Below.al (Below.refl _ _) _
  rw [← hw1]
  clear hw1
  obtain ⟨⟨v0, v1, v2, v3, v4, v5, v6', v7, v8, v9, v10, v11, v12⟩, _⟩ := cells13 hV
  refine Lib.hid ?_
  go_wp2_with ((go_at_call 71; refine (cb _ bw1).mono ?_; rintro e w2 ⟨rfl, hb2⟩))
  go_ret
  exact ⟨rfl, bw1.trans (hb2.mono bw1.size)⟩

set_option maxHeartbeats 1000000 in
set_option maxRecDepth 100000 in
theorem rsum_58 (g o c n : Nat) (l : List UInt8) (v6 : Bool) (vhd vtt vttl vsH vsL vdH vdL : Int) (vfr : Bool) (vid voff : Int) (vmo : Bool) (S : Nat) {w : World} (cb : ∀ W : World, Below w.heap.size w W → Calls Try.prog 71 #[.slice (some ⟨g, o, none⟩) n c, .agg #[.bool v6, .int .i64 vhd, .int .i64 vtt, .int .i64 vttl, .int .i64 58, .int .u64 vsH, .int .u64 vsL, .int .u64 vdH, .int .u64 vdL, .bool vfr, .int .u32 vid, .int .i64 voff, .bool vmo]] W fun e w' => e = .returned (.int .i64 (S : Nat)) ∧ Below W.heap.size W w') :
    Calls Try.prog 54 #[.slice (some ⟨g, o, none⟩) n c, .agg #[.bool v6, .int .i64 vhd, .int .i64 vtt, .int .i64 vttl, .int .i64 58, .int .u64 vsH, .int .u64 vsL, .int .u64 vdH, .int .u64 vdL, .bool vfr, .int .u32 vid, .int .i64 voff, .bool vmo]] w fun e w' => e = .returned (.bool (decide (S = 0))) ∧ Below w.heap.size w w' := by
  have q0 : ((S : Int) == 0) = decide (S = 0) := by by_cases h : S = 0 <;> simp [h]
  generalize decide (S = 0) = q at q0 ⊢
  go_enter Try.func54, Try.ntmps54
  go_wp2_with (with_reducible refine stop_op (o := ⟨some 6, _, _, _, _, _⟩) ?_)
  obtain ⟨w1, hw1⟩ : ∃ x, x = w.alloc (.cells #[.bool v6, .int .i64 vhd, .int .i64 vtt, .int .i64 vttl, .int .i64 58, .int .u64 vsH, .int .u64 vsL, .int .u64 vdH, .int .u64 vdL, .bool vfr, .int .u32 vid, .int .i64 voff, .bool vmo] 40) := ⟨_, rfl⟩
  have hV : w1.heap[w.heap.size]? = some (.cells #[.bool v6, .int .i64 vhd, .int .i64 vtt, .int .i64 vttl, .int .i64 58, .int .u64 vsH, .int .u64 vsL, .int .u64 vdH, .int .u64 vdL, .bool vfr, .int .u32 vid, .int .i64 voff, .bool vmo] 40 (0, 0)) := by rw [hw1]; exact al_neww rfl _
  have bw1 : Below w.heap.size w w1 := by rw [hw1]; exact Below.al (Below.refl _ _) _
  rw [← hw1]
  clear hw1
  obtain ⟨⟨v0, v1, v2, v3, v4, v5, v6', v7, v8, v9, v10, v11, v12⟩, _⟩ := cells13 hV
  refine Lib.hid ?_
  go_wp2_with ((go_at_call 71; refine (cb _ bw1).mono ?_; rintro e w2 ⟨rfl, hb2⟩))
  go_ret
  exact ⟨rfl, bw1.trans (hb2.mono bw1.size)⟩

set_option maxHeartbeats 1000000 in
set_option maxRecDepth 100000 in
theorem rsum_17 (g o c n : Nat) (l : List UInt8) (v6 : Bool) (vhd vtt vttl vsH vsL vdH vdL : Int) (vfr : Bool) (vid voff : Int) (vmo : Bool) (S : Nat) {w : World} (cb : ∀ W : World, Below w.heap.size w W → Calls Try.prog 71 #[.slice (some ⟨g, o, none⟩) n c, .agg #[.bool v6, .int .i64 vhd, .int .i64 vtt, .int .i64 vttl, .int .i64 17, .int .u64 vsH, .int .u64 vsL, .int .u64 vdH, .int .u64 vdL, .bool vfr, .int .u32 vid, .int .i64 voff, .bool vmo]] W fun e w' => e = .returned (.int .i64 (S : Nat)) ∧ Below W.heap.size W w') (cn : ∀ W : World, Below w.heap.size w W → Calls Try.prog 37 #[.slice (some ⟨g, o, none⟩) n c] W fun e w' => e = .returned (.bool false) ∧ W = w') :
    Calls Try.prog 54 #[.slice (some ⟨g, o, none⟩) n c, .agg #[.bool v6, .int .i64 vhd, .int .i64 vtt, .int .i64 vttl, .int .i64 17, .int .u64 vsH, .int .u64 vsL, .int .u64 vdH, .int .u64 vdL, .bool vfr, .int .u32 vid, .int .i64 voff, .bool vmo]] w fun e w' => e = .returned (.bool (decide (S = 0))) ∧ Below w.heap.size w w' := by
  have q0 : ((S : Int) == 0) = decide (S = 0) := by by_cases h : S = 0 <;> simp [h]
  generalize decide (S = 0) = q at q0 ⊢
  go_enter Try.func54, Try.ntmps54
  go_wp2_with (with_reducible refine stop_op (o := ⟨some 6, _, _, _, _, _⟩) ?_)
  obtain ⟨w1, hw1⟩ : ∃ x, x = w.alloc (.cells #[.bool v6, .int .i64 vhd, .int .i64 vtt, .int .i64 vttl, .int .i64 17, .int .u64 vsH, .int .u64 vsL, .int .u64 vdH, .int .u64 vdL, .bool vfr, .int .u32 vid, .int .i64 voff, .bool vmo] 40) := ⟨_, rfl⟩
  have hV : w1.heap[w.heap.size]? = some (.cells #[.bool v6, .int .i64 vhd, .int .i64 vtt, .int .i64 vttl, .int .i64 17, .int .u64 vsH, .int .u64 vsL, .int .u64 vdH, .int .u64 vdL, .bool vfr, .int .u32 vid, .int .i64 voff, .bool vmo] 40 (0, 0)) := by rw [hw1]; exact al_neww rfl _
  have bw1 : Below w.heap.size w w1 := by rw [hw1]; exact Below.al (Below.refl _ _) _
  rw [← hw1]
  clear hw1
  obtain ⟨⟨v0, v1, v2, v3, v4, v5, v6', v7, v8, v9, v10, v11, v12⟩, _⟩ := cells13 hV
  refine Lib.hid ?_
  go_wp2_with ((first | (go_at_call 37; (with_reducible refine (cn _ bw1).mono ?_); rintro e w' ⟨rfl, rfl⟩) | (go_at_call 71; refine (cb _ bw1).mono ?_; rintro e w2 ⟨rfl, hb2⟩)))
  go_ret
  exact ⟨rfl, bw1.trans (hb2.mono bw1.size)⟩

set_option maxHeartbeats 1000000 in
set_option maxRecDepth 100000 in
theorem rsum_17n (g o c n : Nat) (l : List UInt8) (v6 : Bool) (vhd vtt vttl vsH vsL vdH vdL : Int) (vfr : Bool) (vid voff : Int) (vmo : Bool) {w : World} (cn : ∀ W : World, Below w.heap.size w W → Calls Try.prog 37 #[.slice (some ⟨g, o, none⟩) n c] W fun e w' => e = .returned (.bool true) ∧ W = w') :
    Calls Try.prog 54 #[.slice (some ⟨g, o, none⟩) n c, .agg #[.bool v6, .int .i64 vhd, .int .i64 vtt, .int .i64 vttl, .int .i64 17, .int .u64 vsH, .int .u64 vsL, .int .u64 vdH, .int .u64 vdL, .bool vfr, .int .u32 vid, .int .i64 voff, .bool vmo]] w fun e w' => e = .returned (.bool (!v6)) ∧ Below w.heap.size w w' := by
  go_enter Try.func54, Try.ntmps54
  go_wp2_with (with_reducible refine stop_op (o := ⟨some 6, _, _, _, _, _⟩) ?_)
  obtain ⟨w1, hw1⟩ : ∃ x, x = w.alloc (.cells #[.bool v6, .int .i64 vhd, .int .i64 vtt, .int .i64 vttl, .int .i64 17, .int .u64 vsH, .int .u64 vsL, .int .u64 vdH, .int .u64 vdL, .bool vfr, .int .u32 vid, .int .i64 voff, .bool vmo] 40) := ⟨_, rfl⟩
  have hV : w1.heap[w.heap.size]? = some (.cells #[.bool v6, .int .i64 vhd, .int .i64 vtt, .int .i64 vttl, .int .i64 17, .int .u64 vsH, .int .u64 vsL, .int .u64 vdH, .int .u64 vdL, .bool vfr, .int .u32 vid, .int .i64 voff, .bool vmo] 40 (0, 0)) := by rw [hw1]; exact al_neww rfl _
  have bw1 : Below w.heap.size w w1 := by rw [hw1]; exact Below.al (Below.refl _ _) _
  rw [← hw1]
  clear hw1
  obtain ⟨⟨v0, v1, v2, v3, v4, v5, v6', v7, v8, v9, v10, v11, v12⟩, _⟩ := cells13 hV
  refine Lib.hid ?_
  go_wp2_with (go_at_call 37; (with_reducible refine (cn _ bw1).mono ?_); rintro e w' ⟨rfl, rfl⟩)
  go_ret
  exact ⟨rfl, bw1⟩

set_option maxHeartbeats 1000000 in
set_option maxRecDepth 100000 in
theorem rsum_no (A : Option Addr) (c n : Nat) (l : List UInt8) (v6 : Bool) (vhd vtt vttl PX vsH vsL vdH vdL : Int) (vfr : Bool) (vid voff : Int) (vmo : Bool) {w : World} (h6 : PX ≠ 6) (h17 : PX ≠ 17) (h1 : PX ≠ 1) (h58 : PX ≠ 58) :
    Calls Try.prog 54 #[.slice A n c, .agg #[.bool v6, .int .i64 vhd, .int .i64 vtt, .int .i64 vttl, .int .i64 PX, .int .u64 vsH, .int .u64 vsL, .int .u64 vdH, .int .u64 vdL, .bool vfr, .int .u32 vid, .int .i64 voff, .bool vmo]] w fun e w' => e = .returned (.bool true) ∧ Below w.heap.size w w' := by
  have b6 : (PX == 6) = false := by simp [h6]
  have b17 : (PX == 17) = false := by simp [h17]
  have b1 : (PX == 1) = false := by simp [h1]
  have b58 : (PX == 58) = false := by simp [h58]
  clear h6 h17 h1 h58
  go_enter Try.func54, Try.ntmps54
  go_wp2_with (with_reducible refine stop_op (o := ⟨some 6, _, _, _, _, _⟩) ?_)
  obtain ⟨w1, hw1⟩ : ∃ x, x = w.alloc (.cells #[.bool v6, .int .i64 vhd, .int .i64 vtt, .int .i64 vttl, .int .i64 PX, .int .u64 vsH, .int .u64 vsL, .int .u64 vdH, .int .u64 vdL, .bool vfr, .int .u32 vid, .int .i64 voff, .bool vmo] 40) := ⟨_, rfl⟩
  have hV : w1.heap[w.heap.size]? = some (.cells #[.bool v6, .int .i64 vhd, .int .i64 vtt, .int .i64 vttl, .int .i64 PX, .int .u64 vsH, .int .u64 vsL, .int .u64 vdH, .int .u64 vdL, .bool vfr, .int .u32 vid, .int .i64 voff, .bool vmo] 40 (0, 0)) := by rw [hw1]; exact al_neww rfl _
  have bw1 : Below w.heap.size w w1 := by rw [hw1]; exact Below.al (Below.refl _ _) _
  rw [← hw1]
  clear hw1
  obtain ⟨⟨v0, v1, v2, v3, v4, v5, v6', v7, v8, v9, v10, v11, v12⟩, _⟩ := cells13 hV
  refine Lib.hid ?_
  go_wp2
  go_ret
  exact ⟨rfl, bw1⟩

/-- Whether a body's check sum is right. -/
theorem right_any (A : Option Addr) (n c : Nat) (l : List UInt8) (v : VW) (hv : VOk v) {w : World} (h : BytArg w A n c l) (hl : (layP v.proto).1 ≤ (n : Int)) (hm : n < 65536) :
    Calls Try.prog 54 #[.slice A n c, .agg (vcells v)] w fun e w' => e = .returned (.bool (rsP v l)) ∧ Below w.heap.size w w' := by
  obtain ⟨hn, hc, hcm, hs⟩ := h
  unfold maxLen at hcm
  have cb := fun (g o : Nat) (h0 : 0 < n) (hb : Byt w g o l) (W : World) (hw : Below w.heap.size w W) => bsum_any g o c n l v hv hn h0 hm hc hcm (hb.below hw)
  unfold rsP
  generalize bsP v l = S at *
  obtain ⟨v6, vhd, vtt, vttl, vp, vsH, vsL, vdH, vdL, vfr, vid, voff, vmo⟩ := v
  simp only [vcells] at *
  by_cases h17 : vp = 17
  · subst h17
    have h8 : 8 ≤ n := by simp [layP] at hl; omega
    obtain ⟨g, o, rfl, hb⟩ := hs (by omega)
    have cn := fun (W : World) (hw : Below w.heap.size w W) => nosum_any g o n c l hn h8 hc hcm (hb.below hw)
    rw [if_pos rfl]
    by_cases hz : nbN l 6 2 = 0
    · rw [if_pos hz]
      refine rsum_17n g o c n l v6 vhd vtt vttl vsH vsL vdH vdL vfr vid voff vmo (fun W hw => ?_)
      have := cn W hw
      rw [show decide (nbN l 6 2 = 0) = true by simp [hz]] at this
      exact this
    · rw [if_neg hz]
      refine rsum_17 g o c n l v6 vhd vtt vttl vsH vsL vdH vdL vfr vid voff vmo S (cb g o (by omega) hb) (fun W hw => ?_)
      have := cn W hw
      rw [show decide (nbN l 6 2 = 0) = false by simp [hz]] at this
      exact this
  rw [if_neg h17]
  by_cases h6 : vp = 6
  · subst h6
    have h8 : 20 ≤ n := by simp [layP] at hl; omega
    obtain ⟨g, o, rfl, hb⟩ := hs (by omega)
    rw [if_pos (Or.inl rfl)]
    exact rsum_6 g o c n l v6 vhd vtt vttl vsH vsL vdH vdL vfr vid voff vmo S (cb g o (by omega) hb)
  by_cases h1 : vp = 1
  · subst h1
    have h8 : 8 ≤ n := by simp [layP] at hl; omega
    obtain ⟨g, o, rfl, hb⟩ := hs (by omega)
    rw [if_pos (Or.inr (Or.inl rfl))]
    exact rsum_1 g o c n l v6 vhd vtt vttl vsH vsL vdH vdL vfr vid voff vmo S (cb g o (by omega) hb)
  by_cases h58 : vp = 58
  · subst h58
    have h8 : 8 ≤ n := by simp [layP] at hl; omega
    obtain ⟨g, o, rfl, hb⟩ := hs (by omega)
    rw [if_pos (Or.inr (Or.inr rfl))]
    exact rsum_58 g o c n l v6 vhd vtt vttl vsH vsL vdH vdL vfr vid voff vmo S (cb g o (by omega) hb)
  rw [if_neg (by rintro (h | h | h); exact h6 h; exact h1 h; exact h58 h)]
  exact rsum_no A c n l v6 vhd vtt vttl vp vsH vsL vdH vdL vfr vid voff vmo h6 h17 h1 h58
end Go.Proofs.Ytpmbdjdhgcjkfaa
