/- A body's check sum set: the document's; by-name template (gen_wsetb.py). -/
import Derived.Test.YtpmbdjdhgcjkfaaWSetB
namespace Go.Proofs.Ytpmbdjdhgcjkfaa
open Go.RowKit Go.Sort
set_option linter.unusedVariables false
set_option linter.unusedSimpArgs false


set_option maxHeartbeats 2000000 in
set_option maxRecDepth 100000 in
theorem sat_6  (m : Nat) (h : 20 ≤ m) (w : World) : Calls Try.prog 72 #[.int .i64 6, .int .i64 (m : Nat)] w fun e w' => e = .returned (.int .i64 16) ∧ w = w' := by
  have h1 : decide ((20 : Int) ≤ (m : Int)) = true := by simp; omega
  have h2 : (20 : Int) ≤ (m : Int) := by omega
  have h3 : decide (20 ≤ m) = true := by simp; omega
  go_enter Try.func72, Try.ntmps72
  go_wp2
  go_ret
  exact ⟨rfl, rfl⟩

set_option maxHeartbeats 2000000 in
set_option maxRecDepth 100000 in
theorem sat_6x  (m : Nat) (h : m < 20) (w : World) : Calls Try.prog 72 #[.int .i64 6, .int .i64 (m : Nat)] w fun e w' => e = .returned (.int .i64 (-1)) ∧ w = w' := by
  have h1 : decide ((20 : Int) ≤ (m : Int)) = false := by simp; omega
  have h2 : ¬ (20 : Int) ≤ (m : Int) := by omega
  have h3 : decide (20 ≤ m) = false := by simp; omega
  go_enter Try.func72, Try.ntmps72
  go_wp2
  go_ret
  exact ⟨rfl, rfl⟩

set_option maxHeartbeats 2000000 in
set_option maxRecDepth 100000 in
theorem sat_17  (m : Nat) (h : 8 ≤ m) (w : World) : Calls Try.prog 72 #[.int .i64 17, .int .i64 (m : Nat)] w fun e w' => e = .returned (.int .i64 6) ∧ w = w' := by
  have h1 : decide ((8 : Int) ≤ (m : Int)) = true := by simp; omega
  have h2 : (8 : Int) ≤ (m : Int) := by omega
  have h3 : decide (8 ≤ m) = true := by simp; omega
  go_enter Try.func72, Try.ntmps72
  go_wp2
  go_ret
  exact ⟨rfl, rfl⟩

set_option maxHeartbeats 2000000 in
set_option maxRecDepth 100000 in
theorem sat_17x  (m : Nat) (h : m < 8) (w : World) : Calls Try.prog 72 #[.int .i64 17, .int .i64 (m : Nat)] w fun e w' => e = .returned (.int .i64 (-1)) ∧ w = w' := by
  have h1 : decide ((8 : Int) ≤ (m : Int)) = false := by simp; omega
  have h2 : ¬ (8 : Int) ≤ (m : Int) := by omega
  have h3 : decide (8 ≤ m) = false := by simp; omega
  go_enter Try.func72, Try.ntmps72
  go_wp2
  go_ret
  exact ⟨rfl, rfl⟩

set_option maxHeartbeats 2000000 in
set_option maxRecDepth 100000 in
theorem sat_1  (m : Nat) (h : 8 ≤ m) (w : World) : Calls Try.prog 72 #[.int .i64 1, .int .i64 (m : Nat)] w fun e w' => e = .returned (.int .i64 2) ∧ w = w' := by
  have h1 : decide ((8 : Int) ≤ (m : Int)) = true := by simp; omega
  have h2 : (8 : Int) ≤ (m : Int) := by omega
  have h3 : decide (8 ≤ m) = true := by simp; omega
  go_enter Try.func72, Try.ntmps72
  go_wp2
  go_ret
  exact ⟨rfl, rfl⟩

set_option maxHeartbeats 2000000 in
set_option maxRecDepth 100000 in
theorem sat_1x  (m : Nat) (h : m < 8) (w : World) : Calls Try.prog 72 #[.int .i64 1, .int .i64 (m : Nat)] w fun e w' => e = .returned (.int .i64 (-1)) ∧ w = w' := by
  have h1 : decide ((8 : Int) ≤ (m : Int)) = false := by simp; omega
  have h2 : ¬ (8 : Int) ≤ (m : Int) := by omega
  have h3 : decide (8 ≤ m) = false := by simp; omega
  go_enter Try.func72, Try.ntmps72
  go_wp2
  go_ret
  exact ⟨rfl, rfl⟩

set_option maxHeartbeats 2000000 in
set_option maxRecDepth 100000 in
theorem sat_58  (m : Nat) (h : 8 ≤ m) (w : World) : Calls Try.prog 72 #[.int .i64 58, .int .i64 (m : Nat)] w fun e w' => e = .returned (.int .i64 2) ∧ w = w' := by
  have h1 : decide ((8 : Int) ≤ (m : Int)) = true := by simp; omega
  have h2 : (8 : Int) ≤ (m : Int) := by omega
  have h3 : decide (8 ≤ m) = true := by simp; omega
  go_enter Try.func72, Try.ntmps72
  go_wp2
  go_ret
  exact ⟨rfl, rfl⟩

set_option maxHeartbeats 2000000 in
set_option maxRecDepth 100000 in
theorem sat_58x  (m : Nat) (h : m < 8) (w : World) : Calls Try.prog 72 #[.int .i64 58, .int .i64 (m : Nat)] w fun e w' => e = .returned (.int .i64 (-1)) ∧ w = w' := by
  have h1 : decide ((8 : Int) ≤ (m : Int)) = false := by simp; omega
  have h2 : ¬ (8 : Int) ≤ (m : Int) := by omega
  have h3 : decide (8 ≤ m) = false := by simp; omega
  go_enter Try.func72, Try.ntmps72
  go_wp2
  go_ret
  exact ⟨rfl, rfl⟩

set_option maxHeartbeats 2000000 in
set_option maxRecDepth 100000 in
theorem sat_o (p : Int) (m : Nat) (h6 : p ≠ 6) (h17 : p ≠ 17) (h1 : p ≠ 1) (h58 : p ≠ 58) (w : World) : Calls Try.prog 72 #[.int .i64 p, .int .i64 (m : Nat)] w fun e w' => e = .returned (.int .i64 (-1)) ∧ w = w' := by
  have b6 : (p == 6) = false := by simp [h6]
  have b17 : (p == 17) = false := by simp [h17]
  have b1 : (p == 1) = false := by simp [h1]
  have b58 : (p == 58) = false := by simp [h58]
  go_enter Try.func72, Try.ntmps72
  go_wp2
  go_ret
  exact ⟨rfl, rfl⟩

theorem sat_any (p : Int) (m : Nat) (w : World) : Calls Try.prog 72 #[.int .i64 p, .int .i64 (m : Nat)] w fun e w' => e = .returned (.int .i64 (if (layP p).1 = 0 ∨ (m : Int) < (layP p).1 then -1 else (layP p).2)) ∧ w = w' := by
  by_cases h : (layP p).1 = 0
  · rw [if_pos (Or.inl h)]
    unfold layP at h
    by_cases h6 : p = 6
    · simp [h6] at h
    by_cases h17 : p = 17
    · simp [h17] at h
    by_cases h1 : p = 1
    · simp [h1] at h
    by_cases h58 : p = 58
    · simp [h58] at h
    exact sat_o p m h6 h17 h1 h58 w
  · obtain ⟨z, q, hz, hz0, hq, hc⟩ := layP_ok h
    rw [hz]
    simp only
    by_cases hm : m < z
    · rw [if_pos (Or.inr (by omega))]
      rcases hc with ⟨rfl, rfl, rfl⟩ | ⟨rfl, rfl, rfl⟩ | ⟨rfl | rfl, rfl, rfl⟩
      · exact sat_6x m hm w
      · exact sat_17x m hm w
      · exact sat_1x m hm w
      · exact sat_58x m hm w
    · rw [if_neg (by omega)]
      rcases hc with ⟨rfl, rfl, rfl⟩ | ⟨rfl, rfl, rfl⟩ | ⟨rfl | rfl, rfl, rfl⟩
      · exact sat_6 m (by omega) w
      · exact sat_17 m (by omega) w
      · exact sat_1 m (by omega) w
      · exact sat_58 m (by omega) w

set_option maxHeartbeats 2000000 in
set_option maxRecDepth 100000 in
theorem rset_no (A : Option Addr) (m c : Nat) (vp vsH vsL vdH vdL : Int) (hm : m ≤ 9223372036854775807) (h : (layP vp).1 = 0 ∨ (m : Int) < (layP vp).1) {w : World} :
    Calls Try.prog 46 #[.agg #[.int .u64 vsH, .int .u64 vsL], .agg #[.int .u64 vdH, .int .u64 vdL], .int .i64 vp, .slice A m c] w fun e w' => e = .returned (.tuple #[]) ∧ Below w.heap.size w w' := by
  have cl := fun (W : World) => sat_any vp m W
  rw [if_pos h] at cl
  clear h
  go_enter Try.func46, Try.ntmps46
  go_wp2_with (go_at_call 72; refine (cl _).mono ?_; rintro e w' ⟨rfl, rfl⟩)
  simp [bodyPost, results, Try.results46, go_sem]
  exact Below.al (Below.al (Below.refl _ _) _) _

set_option maxHeartbeats 2000000 in
set_option maxRecDepth 100000 in
theorem rset_a (g o m c z p : Nat) (l : List UInt8) (vp vsH vsL vdH vdL : Int) (hv : VOk { zvw with proto := vp, srcH := vsH, srcL := vsL, dstH := vdH, dstL := vdL }) (hz : layP vp = ((z : Int), (p : Int))) (hz0 : z ≠ 0) (hzm : z ≤ m) (hpz : p + 2 ≤ z) (hn : l.length = m) (hm : m < 65536) (hc : m ≤ c) (hcm : c ≤ 9223372036854775807) (S : Nat) (hS : S = bsP { zvw with proto := vp, srcH := vsH, srcL := vsL, dstH := vdH, dstL := vdL } (putL l p [0, 0])) (hSn : S ≠ 0) {w : World} (hb : Byt w g o l) (hr : Room w g o m) :
    Calls Try.prog 46 #[.agg #[.int .u64 vsH, .int .u64 vsL], .agg #[.int .u64 vdH, .int .u64 vdL], .int .i64 vp, .slice (some ⟨g, o, none⟩) m c] w fun e w' => e = .returned (.tuple #[]) ∧ Wr w g (o + p) (beB 2 S) w' := by
  have cl := fun (W : World) => sat_any vp m W
  rw [hz] at cl
  simp only at cl
  rw [if_neg (by omega)] at cl
  have hgl := hr.lt (by omega)
  have hS5 : S ≤ 65535 := by rw [hS]; exact bsP_le _ _
  have sa := cut_lh g o m c p (p + 2) (by omega) (by omega) (by omega) hcm
  rw [show ((p + 2 : Nat) : Int) = (p : Int) + 2 by omega, show p + 2 - p = 2 by omega] at sa
  have wa : IntKind.i64.wrap ((p : Int) + 2) = (p : Int) + 2 := by rw [IntKind.wrap_i64]; omega
  have pn : decide ((p : Int) < 0) = false := by simp
  have pn2 : ¬ (p : Int) < 0 := by omega
  have pi : (p : Int) < 65536 := by omega
  have hS0 : ((S : Int) == 0) = false := by simp; omega
  have hlen : (putL l p [0, 0]).length = m := by rw [putL_len (by simp; omega), hn]
  have HZ := Lib.hid (show l.length = m ∧ p + 2 ≤ m ∧ 0 < m from ⟨hn, by omega, by omega⟩)
  have HB := Lib.hid hb
  have HR := Lib.hid hr
  have HV := Lib.hid hv
  have HS := Lib.hid hS
  have HL := Lib.hid hlen
  clear hb hr hv hz hn hS hlen hz0 hzm hpz
  go_enter Try.func46, Try.ntmps46
  go_wp2_with (with_reducible refine stop_op (o := ⟨some 12, _, _, _, _, _⟩) ?_)
  obtain ⟨w1, hw1⟩ : ∃ x, x = (w.alloc (.cells #[.int .u64 vsH, .int .u64 vsL] 25)).alloc (.cells #[.int .u64 vdH, .int .u64 vdL] 25) := ⟨_, rfl⟩
  have hX1 : w1.heap[w.heap.size]? = some (.cells #[.int .u64 vsH, .int .u64 vsL] 25 (0, 0)) := by rw [hw1, al_oldw (by simp)]; exact al_neww rfl _
  have hY1 : w1.heap[w.heap.size + 1]? = some (.cells #[.int .u64 vdH, .int .u64 vdL] 25 (0, 0)) := by rw [hw1]; exact al_neww (by simp) _
  have b1 : Below w.heap.size w w1 := by rw [hw1]; exact Below.al (Below.al (Below.refl _ _) _) _
  rw [← hw1]
  clear hw1
  have W1 := Wr.nil b1 hgl (o + p)
  have r1 : Room w1 g (o + p) 2 := (HR.out.wr W1).sub (by have := HZ.out; omega)
  have c0 := rput_any g (o + p) (c - p) 2 0 (by omega) (by have := HZ.out; omega) (by omega) ⟨by omega, by omega⟩ r1
  rw [show lowN 0 = 0 from rfl, beB2_zero] at c0
  clear r1
  refine Lib.hid ?_
  go_wp2_with (first | (go_at_call 72; refine (cl _).mono ?_; rintro e w' ⟨rfl, hw'⟩; subst hw') | (go_at_call 42; refine c0.mono ?_; rintro e w2 ⟨rfl, hW⟩; refine Hid.out ?_))
  have hX2 : w2.heap[w.heap.size]? = some (.cells #[.int .u64 vsH, .int .u64 vsL] 25 (0, 0)) := by rw [hW.block _ (by omega)]; exact hX1
  have hY2 : w2.heap[w.heap.size + 1]? = some (.cells #[.int .u64 vdH, .int .u64 vdL] 25 (0, 0)) := by rw [hW.block _ (by omega)]; exact hY1
  have hb2 : Byt w2 g o (putL l p [0, 0]) := hW.wr.splice (HB.out.below b1) (by have := HZ.out; simp; omega)
  have cb := rtotal_any g o c m (putL l p [0, 0]) _ HV.out HL.out (by have := HZ.out; omega) hm hc hcm hb2
  rw [← HS.out] at cb
  simp only at cb
  have W2 := Lib.hid (W1.app (bs := []) (by simpa using hW.wr))
  obtain ⟨s0, s1, _, _⟩ := cells2 hX2
  obtain ⟨d0, d1, _, _⟩ := cells2 hY2
  clear hW W1 hb2 b1 hX1 hY1 c0 cl
  refine Lib.hid ?_
  go_wp2_with (go_at_call 73; refine cb.mono ?_; rintro e w3 ⟨rfl, hb3⟩; refine Hid.out ?_)
  have W3 := Lib.hid (W2.out.below hgl hb3)
  have cp := rput_any g (o + p) (c - p) 2 S (by omega) (by have := HZ.out; omega) (by omega) ⟨by omega, by omega⟩ ((HR.out.wr W3.out).sub (by have := HZ.out; omega))
  rw [show lowN S = S from low_small S (by omega)] at cp
  clear hb3 hX2 hY2 cb W2 s0 s1 d0 d1
  refine Lib.hid ?_
  go_wp2_with (go_at_call 42; refine cp.mono ?_; rintro e w4 ⟨rfl, hW4⟩; have H4 := Lib.hid hW4; clear hW4)
  simp [bodyPost, results, Try.results46, go_sem]
  exact W3.out.over H4.out.wr (by simp [beB_len])

set_option maxHeartbeats 2000000 in
set_option maxRecDepth 100000 in
theorem rset_b (g o m c z p : Nat) (l : List UInt8) (vp vsH vsL vdH vdL : Int) (hv : VOk { zvw with proto := vp, srcH := vsH, srcL := vsL, dstH := vdH, dstL := vdL }) (hz : layP vp = ((z : Int), (p : Int))) (hz0 : z ≠ 0) (hzm : z ≤ m) (hpz : p + 2 ≤ z) (hn : l.length = m) (hm : m < 65536) (hc : m ≤ c) (hcm : c ≤ 9223372036854775807) (S : Nat) (hS : S = bsP { zvw with proto := vp, srcH := vsH, srcL := vsL, dstH := vdH, dstL := vdL } (putL l p [0, 0])) (hSn : S = 0 ∧ vp ≠ 17) {w : World} (hb : Byt w g o l) (hr : Room w g o m) :
    Calls Try.prog 46 #[.agg #[.int .u64 vsH, .int .u64 vsL], .agg #[.int .u64 vdH, .int .u64 vdL], .int .i64 vp, .slice (some ⟨g, o, none⟩) m c] w fun e w' => e = .returned (.tuple #[]) ∧ Wr w g (o + p) (beB 2 S) w' := by
  have cl := fun (W : World) => sat_any vp m W
  rw [hz] at cl
  simp only at cl
  rw [if_neg (by omega)] at cl
  have hgl := hr.lt (by omega)
  have hS5 : S ≤ 65535 := by rw [hS]; exact bsP_le _ _
  have sa := cut_lh g o m c p (p + 2) (by omega) (by omega) (by omega) hcm
  rw [show ((p + 2 : Nat) : Int) = (p : Int) + 2 by omega, show p + 2 - p = 2 by omega] at sa
  have wa : IntKind.i64.wrap ((p : Int) + 2) = (p : Int) + 2 := by rw [IntKind.wrap_i64]; omega
  have pn : decide ((p : Int) < 0) = false := by simp
  have pn2 : ¬ (p : Int) < 0 := by omega
  have pi : (p : Int) < 65536 := by omega
  have hS0 : ((S : Int) == 0) = true := by simp; omega
  have h17 : (vp == 17) = false := by simp [hSn.2]
  clear hSn
  have hlen : (putL l p [0, 0]).length = m := by rw [putL_len (by simp; omega), hn]
  have HZ := Lib.hid (show l.length = m ∧ p + 2 ≤ m ∧ 0 < m from ⟨hn, by omega, by omega⟩)
  have HB := Lib.hid hb
  have HR := Lib.hid hr
  have HV := Lib.hid hv
  have HS := Lib.hid hS
  have HL := Lib.hid hlen
  clear hb hr hv hz hn hS hlen hz0 hzm hpz
  go_enter Try.func46, Try.ntmps46
  go_wp2_with (with_reducible refine stop_op (o := ⟨some 12, _, _, _, _, _⟩) ?_)
  obtain ⟨w1, hw1⟩ : ∃ x, x = (w.alloc (.cells #[.int .u64 vsH, .int .u64 vsL] 25)).alloc (.cells #[.int .u64 vdH, .int .u64 vdL] 25) := ⟨_, rfl⟩
  have hX1 : w1.heap[w.heap.size]? = some (.cells #[.int .u64 vsH, .int .u64 vsL] 25 (0, 0)) := by rw [hw1, al_oldw (by simp)]; exact al_neww rfl _
  have hY1 : w1.heap[w.heap.size + 1]? = some (.cells #[.int .u64 vdH, .int .u64 vdL] 25 (0, 0)) := by rw [hw1]; exact al_neww (by simp) _
  have b1 : Below w.heap.size w w1 := by rw [hw1]; exact Below.al (Below.al (Below.refl _ _) _) _
  rw [← hw1]
  clear hw1
  have W1 := Wr.nil b1 hgl (o + p)
  have r1 : Room w1 g (o + p) 2 := (HR.out.wr W1).sub (by have := HZ.out; omega)
  have c0 := rput_any g (o + p) (c - p) 2 0 (by omega) (by have := HZ.out; omega) (by omega) ⟨by omega, by omega⟩ r1
  rw [show lowN 0 = 0 from rfl, beB2_zero] at c0
  clear r1
  refine Lib.hid ?_
  go_wp2_with (first | (go_at_call 72; refine (cl _).mono ?_; rintro e w' ⟨rfl, hw'⟩; subst hw') | (go_at_call 42; refine c0.mono ?_; rintro e w2 ⟨rfl, hW⟩; refine Hid.out ?_))
  have hX2 : w2.heap[w.heap.size]? = some (.cells #[.int .u64 vsH, .int .u64 vsL] 25 (0, 0)) := by rw [hW.block _ (by omega)]; exact hX1
  have hY2 : w2.heap[w.heap.size + 1]? = some (.cells #[.int .u64 vdH, .int .u64 vdL] 25 (0, 0)) := by rw [hW.block _ (by omega)]; exact hY1
  have hb2 : Byt w2 g o (putL l p [0, 0]) := hW.wr.splice (HB.out.below b1) (by have := HZ.out; simp; omega)
  have cb := rtotal_any g o c m (putL l p [0, 0]) _ HV.out HL.out (by have := HZ.out; omega) hm hc hcm hb2
  rw [← HS.out] at cb
  simp only at cb
  have W2 := Lib.hid (W1.app (bs := []) (by simpa using hW.wr))
  obtain ⟨s0, s1, _, _⟩ := cells2 hX2
  obtain ⟨d0, d1, _, _⟩ := cells2 hY2
  clear hW W1 hb2 b1 hX1 hY1 c0 cl
  refine Lib.hid ?_
  go_wp2_with (go_at_call 73; refine cb.mono ?_; rintro e w3 ⟨rfl, hb3⟩; refine Hid.out ?_)
  have W3 := Lib.hid (W2.out.below hgl hb3)
  have cp := rput_any g (o + p) (c - p) 2 S (by omega) (by have := HZ.out; omega) (by omega) ⟨by omega, by omega⟩ ((HR.out.wr W3.out).sub (by have := HZ.out; omega))
  rw [show lowN S = S from low_small S (by omega)] at cp
  clear hb3 hX2 hY2 cb W2 s0 s1 d0 d1
  refine Lib.hid ?_
  go_wp2_with (go_at_call 42; refine cp.mono ?_; rintro e w4 ⟨rfl, hW4⟩; have H4 := Lib.hid hW4; clear hW4)
  simp [bodyPost, results, Try.results46, go_sem]
  exact W3.out.over H4.out.wr (by simp [beB_len])

set_option maxHeartbeats 2000000 in
set_option maxRecDepth 100000 in
theorem rset_c (g o m c z p : Nat) (l : List UInt8) (vsH vsL vdH vdL : Int) (hv : VOk { zvw with proto := 17, srcH := vsH, srcL := vsL, dstH := vdH, dstL := vdL }) (hz : layP 17 = ((z : Int), (p : Int))) (hz0 : z ≠ 0) (hzm : z ≤ m) (hpz : p + 2 ≤ z) (hn : l.length = m) (hm : m < 65536) (hc : m ≤ c) (hcm : c ≤ 9223372036854775807) (S : Nat) (hS : S = bsP { zvw with proto := 17, srcH := vsH, srcL := vsL, dstH := vdH, dstL := vdL } (putL l p [0, 0])) (hSn : S = 0) {w : World} (hb : Byt w g o l) (hr : Room w g o m) :
    Calls Try.prog 46 #[.agg #[.int .u64 vsH, .int .u64 vsL], .agg #[.int .u64 vdH, .int .u64 vdL], .int .i64 17, .slice (some ⟨g, o, none⟩) m c] w fun e w' => e = .returned (.tuple #[]) ∧ Wr w g (o + p) (beB 2 65535) w' := by
  have cl := fun (W : World) => sat_any 17 m W
  rw [hz] at cl
  simp only at cl
  rw [if_neg (by omega)] at cl
  have hgl := hr.lt (by omega)
  have hS5 : S ≤ 65535 := by rw [hS]; exact bsP_le _ _
  have sa := cut_lh g o m c p (p + 2) (by omega) (by omega) (by omega) hcm
  rw [show ((p + 2 : Nat) : Int) = (p : Int) + 2 by omega, show p + 2 - p = 2 by omega] at sa
  have wa : IntKind.i64.wrap ((p : Int) + 2) = (p : Int) + 2 := by rw [IntKind.wrap_i64]; omega
  have pn : decide ((p : Int) < 0) = false := by simp
  have pn2 : ¬ (p : Int) < 0 := by omega
  have pi : (p : Int) < 65536 := by omega
  have hS0 : ((S : Int) == 0) = true := by simp; omega
  clear hSn
  have hlen : (putL l p [0, 0]).length = m := by rw [putL_len (by simp; omega), hn]
  have HZ := Lib.hid (show l.length = m ∧ p + 2 ≤ m ∧ 0 < m from ⟨hn, by omega, by omega⟩)
  have HB := Lib.hid hb
  have HR := Lib.hid hr
  have HV := Lib.hid hv
  have HS := Lib.hid hS
  have HL := Lib.hid hlen
  clear hb hr hv hz hn hS hlen hz0 hzm hpz
  go_enter Try.func46, Try.ntmps46
  go_wp2_with (with_reducible refine stop_op (o := ⟨some 12, _, _, _, _, _⟩) ?_)
  obtain ⟨w1, hw1⟩ : ∃ x, x = (w.alloc (.cells #[.int .u64 vsH, .int .u64 vsL] 25)).alloc (.cells #[.int .u64 vdH, .int .u64 vdL] 25) := ⟨_, rfl⟩
  have hX1 : w1.heap[w.heap.size]? = some (.cells #[.int .u64 vsH, .int .u64 vsL] 25 (0, 0)) := by rw [hw1, al_oldw (by simp)]; exact al_neww rfl _
  have hY1 : w1.heap[w.heap.size + 1]? = some (.cells #[.int .u64 vdH, .int .u64 vdL] 25 (0, 0)) := by rw [hw1]; exact al_neww (by simp) _
  have b1 : Below w.heap.size w w1 := by rw [hw1]; exact Below.al (Below.al (Below.refl _ _) _) _
  rw [← hw1]
  clear hw1
  have W1 := Wr.nil b1 hgl (o + p)
  have r1 : Room w1 g (o + p) 2 := (HR.out.wr W1).sub (by have := HZ.out; omega)
  have c0 := rput_any g (o + p) (c - p) 2 0 (by omega) (by have := HZ.out; omega) (by omega) ⟨by omega, by omega⟩ r1
  rw [show lowN 0 = 0 from rfl, beB2_zero] at c0
  clear r1
  refine Lib.hid ?_
  go_wp2_with (first | (go_at_call 72; refine (cl _).mono ?_; rintro e w' ⟨rfl, hw'⟩; subst hw') | (go_at_call 42; refine c0.mono ?_; rintro e w2 ⟨rfl, hW⟩; refine Hid.out ?_))
  have hX2 : w2.heap[w.heap.size]? = some (.cells #[.int .u64 vsH, .int .u64 vsL] 25 (0, 0)) := by rw [hW.block _ (by omega)]; exact hX1
  have hY2 : w2.heap[w.heap.size + 1]? = some (.cells #[.int .u64 vdH, .int .u64 vdL] 25 (0, 0)) := by rw [hW.block _ (by omega)]; exact hY1
  have hb2 : Byt w2 g o (putL l p [0, 0]) := hW.wr.splice (HB.out.below b1) (by have := HZ.out; simp; omega)
  have cb := rtotal_any g o c m (putL l p [0, 0]) _ HV.out HL.out (by have := HZ.out; omega) hm hc hcm hb2
  rw [← HS.out] at cb
  simp only at cb
  have W2 := Lib.hid (W1.app (bs := []) (by simpa using hW.wr))
  obtain ⟨s0, s1, _, _⟩ := cells2 hX2
  obtain ⟨d0, d1, _, _⟩ := cells2 hY2
  clear hW W1 hb2 b1 hX1 hY1 c0 cl
  refine Lib.hid ?_
  go_wp2_with (go_at_call 73; refine cb.mono ?_; rintro e w3 ⟨rfl, hb3⟩; refine Hid.out ?_)
  have W3 := Lib.hid (W2.out.below hgl hb3)
  have cp := rput_any g (o + p) (c - p) 2 65535 (by omega) (by have := HZ.out; omega) (by omega) ⟨by omega, by omega⟩ ((HR.out.wr W3.out).sub (by have := HZ.out; omega))
  rw [show lowN 65535 = 65535 from low_small 65535 (by omega)] at cp
  clear hb3 hX2 hY2 cb W2 s0 s1 d0 d1
  refine Lib.hid ?_
  go_wp2_with (go_at_call 42; refine cp.mono ?_; rintro e w4 ⟨rfl, hW4⟩; have H4 := Lib.hid hW4; clear hW4)
  simp [bodyPost, results, Try.results46, go_sem]
  exact W3.out.over H4.out.wr (by simp [beB_len])
theorem rset_any (A : Option Addr) (m c : Nat) (l : List UInt8) (v : VW) (hv : VOk v) {w : World} (h : BytArg w A m c l) (hr : ∀ g o, A = some ⟨g, o, none⟩ → 0 < m → Room w g o m) (hm : m < 65536) :
    Calls Try.prog 46 #[.agg #[.int .u64 v.srcH, .int .u64 v.srcL], .agg #[.int .u64 v.dstH, .int .u64 v.dstL], .int .i64 v.proto, .slice A m c] w fun e w' => e = .returned (.tuple #[]) ∧ SetBy w A l v w' := by
  have hn := h.1
  have hcm := h.2.2.1
  unfold maxLen at hcm
  by_cases h0 : (layP v.proto).1 = 0 ∨ (l.length : Int) < (layP v.proto).1
  · have e : setB v l = l := by unfold setB; rw [if_pos h0]
    obtain ⟨vv, vhd, vtt, vttl, vp, vsH, vsL, vdH, vdL, vfr, vid, voff, vmo⟩ := v
    simp only
    exact (rset_no A m c vp vsH vsL vdH vdL (by have := h.2.1; omega) (by rw [← hn]; exact h0)).mono fun e' w' ⟨h1, h2⟩ => ⟨h1, Or.inl ⟨e, h2⟩⟩
  · have h1 : (layP v.proto).1 ≠ 0 := fun e => h0 (Or.inl e)
    have h2 : ¬ (l.length : Int) < (layP v.proto).1 := fun e => h0 (Or.inr e)
    obtain ⟨z, q, hz, hz0, hq, _⟩ := layP_ok h1
    rw [hz] at h2
    simp only at h2
    obtain ⟨g, o, rfl, hb⟩ := h.2.2.2 (by omega)
    have e : setB v l = putL l q (beB 2 (sumVal v (putL l q [0, 0]))) := by
      unfold setB; rw [if_neg h0, hz]; rfl
    have key : Calls Try.prog 46 #[.agg #[.int .u64 v.srcH, .int .u64 v.srcL], .agg #[.int .u64 v.dstH, .int .u64 v.dstL], .int .i64 v.proto, .slice (some ⟨g, o, none⟩) m c] w fun e w' => e = .returned (.tuple #[]) ∧ Wr w g (o + q) (beB 2 (sumVal v (putL l q [0, 0]))) w' := by
      obtain ⟨vv, vhd, vtt, vttl, vp, vsH, vsL, vdH, vdL, vfr, vid, voff, vmo⟩ := v
      simp only
      by_cases hS : bsP ⟨vv, vhd, vtt, vttl, vp, vsH, vsL, vdH, vdL, vfr, vid, voff, vmo⟩ (putL l q [0, 0]) = 0
      · by_cases hp : vp = 17
        · subst hp
          rw [sumVal_u hS rfl]
          exact rset_c g o m c z q l vsH vsL vdH vdL ⟨hv.p0, hv.p1, hv.sh, hv.sl, hv.dh, hv.dl, hv.fam⟩ hz hz0 (by omega) hq hn hm h.2.1 hcm _ rfl hS hb (hr g o rfl (by omega))
        · rw [sumVal_np hp]
          exact rset_b g o m c z q l vp vsH vsL vdH vdL ⟨hv.p0, hv.p1, hv.sh, hv.sl, hv.dh, hv.dl, hv.fam⟩ hz hz0 (by omega) hq hn hm h.2.1 hcm _ rfl ⟨hS, hp⟩ hb (hr g o rfl (by omega))
      · rw [sumVal_ne hS]
        exact rset_a g o m c z q l vp vsH vsL vdH vdL ⟨hv.p0, hv.p1, hv.sh, hv.sl, hv.dh, hv.dl, hv.fam⟩ hz hz0 (by omega) hq hn hm h.2.1 hcm _ rfl hS hb (hr g o rfl (by omega))
    exact key.mono fun e' w' ⟨h1, h2⟩ => ⟨h1, Or.inr ⟨g, o, q, _, rfl, h2, by rw [beB_len]; omega, e⟩⟩
end Go.Proofs.Ytpmbdjdhgcjkfaa
