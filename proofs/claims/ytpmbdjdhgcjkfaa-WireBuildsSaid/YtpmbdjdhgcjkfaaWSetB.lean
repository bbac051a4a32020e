/- A body's check sum set: the program's, and the document's; by-name template (gen_wsetb.py). -/
import Derived.Test.YtpmbdjdhgcjkfaaWSet
namespace Go.Proofs.Ytpmbdjdhgcjkfaa
open Go.RowKit Go.Sort
set_option linter.unusedVariables false
set_option linter.unusedSimpArgs false

/-- Bytes of which some are others. -/
def putL (l : List UInt8) (o : Nat) (bs : List UInt8) : List UInt8 := l.take o ++ bs ++ l.drop (o + bs.length)
theorem putL_len {l bs : List UInt8} {o : Nat} (h : o + bs.length ≤ l.length) : (putL l o bs).length = l.length := by
  unfold putL; rw [List.length_append, List.length_append, List.length_take, List.length_drop]; omega
theorem Wr.splice {w w' : World} {g o i : Nat} {bs l : List UInt8} (h : Wr w g (o + i) bs w') (hb : Byt w g o l) (hi : i + bs.length ≤ l.length) : Byt w' g o (putL l i bs) := by
  unfold putL
  intro k x hk
  by_cases h1 : k < i
  · rw [List.append_assoc, List.getElem?_append_left (by rw [List.length_take]; omega), List.getElem?_take_of_lt h1] at hk
    rw [h.out (o + k) (by omega)]; exact hb k x hk
  · by_cases h2 : k < i + bs.length
    · rw [List.append_assoc, List.getElem?_append_right (by rw [List.length_take]; omega), List.length_take, Nat.min_eq_left (by omega), List.getElem?_append_left (by omega)] at hk
      have := h.inn (k - i) x hk
      rw [show o + i + (k - i) = o + k by omega] at this; exact this
    · rw [List.getElem?_append_right (by rw [List.length_append, List.length_take]; omega), List.length_append, List.length_take, Nat.min_eq_left (by omega), List.getElem?_drop] at hk
      rw [h.out (o + k) (by omega)]
      exact hb k x (by rw [← hk]; congr 1; omega)
theorem putL_over {l bs cs : List UInt8} {o : Nat} (hl : bs.length = cs.length) (h : o + bs.length ≤ l.length) : putL (putL l o bs) o cs = putL l o cs := by
  unfold putL
  have e1 : (l.take o ++ bs ++ l.drop (o + bs.length)).take o = l.take o := by
    rw [List.append_assoc, List.take_append_of_le_length (by rw [List.length_take]; omega), List.take_take, Nat.min_self]
  have e2 : (l.take o ++ bs ++ l.drop (o + bs.length)).drop (o + cs.length) = l.drop (o + cs.length) := by
    rw [← hl, List.drop_append_of_le_length (by rw [List.length_append, List.length_take]; omega)]
    rw [List.drop_eq_nil_of_le (by rw [List.length_append, List.length_take]; omega), List.nil_append]
  rw [e1, e2]
/-- What a body's check sum is set to. -/
def sumVal (v : VW) (z : List UInt8) : Nat := if bsP v z = 0 ∧ v.proto = 17 then 65535 else bsP v z
/-- A body with its check sum. -/
def setB (v : VW) (l : List UInt8) : List UInt8 :=
  if (layP v.proto).1 = 0 ∨ (l.length : Int) < (layP v.proto).1 then l
  else putL l (layP v.proto).2.toNat (beB 2 (sumVal v (putL l (layP v.proto).2.toNat [0, 0])))
/-- The check sum was set. -/
def SetBy (w : World) (A : Option Addr) (l : List UInt8) (v : VW) (w' : World) : Prop :=
  (setB v l = l ∧ Below w.heap.size w w') ∨ ∃ g o k bs, A = some ⟨g, o, none⟩ ∧ Wr w g (o + k) bs w' ∧ k + bs.length ≤ l.length ∧ setB v l = putL l k bs
theorem beB2_zero : beB 2 0 = [0, 0] := rfl
theorem bsP_le (v : VW) (l : List UInt8) : bsP v l ≤ 65535 := by unfold bsP; split <;> exact sumP_le _

set_option maxHeartbeats 2000000 in
set_option maxRecDepth 100000 in
theorem setbody_no (A : Option Addr) (m c : Nat) (vv : Bool) (vhd vtt vttl vp vsH vsL vdH vdL : Int) (vfr : Bool) (vid voff : Int) (vmo : Bool) (hm : m ≤ 9223372036854775807) (h : (layP vp).1 = 0 ∨ (m : Int) < (layP vp).1) {w : World} :
    Calls Try.prog 38 #[.slice A m c, .agg #[.bool vv, .int .i64 vhd, .int .i64 vtt, .int .i64 vttl, .int .i64 vp, .int .u64 vsH, .int .u64 vsL, .int .u64 vdH, .int .u64 vdL, .bool vfr, .int .u32 vid, .int .i64 voff, .bool vmo]] w fun e w' => e = .returned (.tuple #[]) ∧ Below w.heap.size w w' := by
  have cl := fun (W : World) => layout_any vp W
  generalize layP vp = q at *
  obtain ⟨z, p⟩ := q
  simp only at *
  by_cases hz : z = 0
  · subst hz
    clear h
    go_enter Try.func38, Try.ntmps38
    go_wp2_with (go_at_call 70; refine (cl _).mono ?_; rintro e w' ⟨rfl, rfl⟩)
    simp [bodyPost, results, Try.results38, go_sem]
    exact Below.al (Below.refl _ _) _
  · have h0 : (z == 0) = false := by simp [hz]
    have h1 : decide ((m : Int) < z) = true := by simp; omega
    have h2 : (m : Int) < z := by omega
    clear h
    go_enter Try.func38, Try.ntmps38
    go_wp2_with (go_at_call 70; refine (cl _).mono ?_; rintro e w' ⟨rfl, rfl⟩)
    simp [bodyPost, results, Try.results38, go_sem]
    exact Below.al (Below.refl _ _) _

set_option maxHeartbeats 2000000 in
set_option maxRecDepth 100000 in
theorem setbody_a (g o m c z p : Nat) (l : List UInt8) (vv : Bool) (vhd vtt vttl vp vsH vsL vdH vdL : Int) (vfr : Bool) (vid voff : Int) (vmo : Bool) (hv : VOk ⟨vv, vhd, vtt, vttl, vp, vsH, vsL, vdH, vdL, vfr, vid, voff, vmo⟩) (hz : layP vp = ((z : Int), (p : Int))) (hz0 : z ≠ 0) (hzm : z ≤ m) (hpz : p + 2 ≤ z) (hn : l.length = m) (hm : m < 65536) (hc : m ≤ c) (hcm : c ≤ 9223372036854775807) (S : Nat) (hS : S = bsP ⟨vv, vhd, vtt, vttl, vp, vsH, vsL, vdH, vdL, vfr, vid, voff, vmo⟩ (putL l p [0, 0])) (hSn : S ≠ 0) {w : World} (hb : Byt w g o l) (hr : Room w g o m) :
    Calls Try.prog 38 #[.slice (some ⟨g, o, none⟩) m c, .agg #[.bool vv, .int .i64 vhd, .int .i64 vtt, .int .i64 vttl, .int .i64 vp, .int .u64 vsH, .int .u64 vsL, .int .u64 vdH, .int .u64 vdL, .bool vfr, .int .u32 vid, .int .i64 voff, .bool vmo]] w fun e w' => e = .returned (.tuple #[]) ∧ Wr w g (o + p) (beB 2 S) w' := by
  have cl := fun (W : World) => layout_any vp W
  rw [hz] at cl
  simp only at cl
  have hgl := hr.lt (by omega)
  have hS5 : S ≤ 65535 := by rw [hS]; exact bsP_le _ _
  have sa := cut_lh g o m c p (p + 2) (by omega) (by omega) (by omega) hcm
  rw [show ((p + 2 : Nat) : Int) = (p : Int) + 2 by omega, show p + 2 - p = 2 by omega] at sa
  have wa : IntKind.i64.wrap ((p : Int) + 2) = (p : Int) + 2 := by rw [IntKind.wrap_i64]; omega
  have z0 : ((z : Int) == 0) = false := by simp; omega
  have z1 : decide ((m : Int) < (z : Int)) = false := by simp; omega
  have z2 : ¬ (m : Int) < (z : Int) := by omega
  have z3 : decide (m < z) = false := by simp; omega
  have pi : (p : Int) < 65536 := by omega
  have hS0 : ((S : Int) == 0) = false := by simp; omega
  have wS : IntKind.u64.wrap (S : Int) = (S : Int) := by rw [IntKind.wrap_u64]; omega
  have wM : IntKind.u64.wrap 65535 = 65535 := by decide
  have hlen : (putL l p [0, 0]).length = m := by rw [putL_len (by simp; omega), hn]
  have HZ := Lib.hid (show l.length = m ∧ p + 2 ≤ m from ⟨hn, by omega⟩)
  have HB := Lib.hid hb
  have HR := Lib.hid hr
  have HV := Lib.hid hv
  have HS := Lib.hid hS
  have HL := Lib.hid hlen
  clear hb hr hv hz hn hS hlen hz0 hzm hpz
  go_enter Try.func38, Try.ntmps38
  go_wp2_with (with_reducible refine stop_op (o := ⟨some 10, _, _, _, _, _⟩) ?_)
  obtain ⟨w1, hw1⟩ : ∃ x, x = w.alloc (.cells #[.bool vv, .int .i64 vhd, .int .i64 vtt, .int .i64 vttl, .int .i64 vp, .int .u64 vsH, .int .u64 vsL, .int .u64 vdH, .int .u64 vdL, .bool vfr, .int .u32 vid, .int .i64 voff, .bool vmo] 40) := ⟨_, rfl⟩
  have hV1 : w1.heap[w.heap.size]? = some (.cells #[.bool vv, .int .i64 vhd, .int .i64 vtt, .int .i64 vttl, .int .i64 vp, .int .u64 vsH, .int .u64 vsL, .int .u64 vdH, .int .u64 vdL, .bool vfr, .int .u32 vid, .int .i64 voff, .bool vmo] 40 (0, 0)) := by rw [hw1]; exact al_neww rfl _
  have b1 : Below w.heap.size w w1 := by rw [hw1]; exact Below.al (Below.refl _ _) _
  rw [← hw1]
  clear hw1
  have W1 := Wr.nil b1 hgl (o + p)
  have r1 : Room w1 g (o + p) 2 := (HR.out.wr W1).sub (by have := HZ.out; omega)
  have hcl := clr_run g (o + p) (c - p) r1
  have hW := clr_wr r1
  obtain ⟨w2, hw2⟩ : ∃ x, x = w1.setCells g (o + p) [.int .u8 0, .int .u8 0] := ⟨_, rfl⟩
  rw [← hw2] at hcl hW
  clear hw2
  have hV2 : w2.heap[w.heap.size]? = some (.cells #[.bool vv, .int .i64 vhd, .int .i64 vtt, .int .i64 vttl, .int .i64 vp, .int .u64 vsH, .int .u64 vsL, .int .u64 vdH, .int .u64 vdL, .bool vfr, .int .u32 vid, .int .i64 voff, .bool vmo] 40 (0, 0)) := by rw [hW.block _ (by omega) (Array.getElem?_eq_some_iff.1 hV1).1]; exact hV1
  have hb2 : Byt w2 g o (putL l p [0, 0]) := hW.splice (HB.out.below b1) (by have := HZ.out; simp; omega)
  have cb := bsum_any g o c m (putL l p [0, 0]) _ HV.out HL.out (by have := HZ.out; omega) hm hc hcm hb2
  rw [← HS.out] at cb
  simp only [vcells] at cb
  have W2 := Lib.hid (W1.app (bs := []) (by simpa using hW))
  have HW := Lib.hid hW
  obtain ⟨⟨v0, v1, v2, v3, v4, v5, v6, v7, v8, v9, v10, v11, v12⟩, _⟩ := cells13 hV1
  obtain ⟨⟨u0, u1, u2, u3, u4, u5, u6, u7, u8, u9, u10, u11, u12⟩, _⟩ := cells13 hV2
  clear hW W1 hb2 b1 r1 hV1
  refine Lib.hid ?_
  go_wp2_with (first | (go_at_call 70; refine (cl _).mono ?_; rintro e w' ⟨rfl, hw'⟩; subst hw') | (go_at_call 71; refine cb.mono ?_; rintro e w3 ⟨rfl, hb3⟩; refine Hid.out ?_))
  have W3 := Lib.hid (W2.out.below hgl hb3)
  have hV3 := blkKeep2 hb3 hV2
  obtain ⟨⟨x0, x1, x2, x3, x4, x5, x6, x7, x8, x9, x10, x11, x12⟩, _⟩ := cells13 hV3
  have cp := put_any g (o + p) (c - p) 2 S (by omega) (by have := HZ.out; omega) (by omega) (by omega) ((HR.out.wr W3.out).sub (by have := HZ.out; omega))
  clear hb3 hV2 hV3 cb cl hcl W2 HW v0 u0 v1 u1 v2 u2 v3 u3 v4 u4 v5 u5 v6 u6 v7 u7 v8 u8 v9 u9 v10 u10 v11 u11 v12 u12
  refine Lib.hid ?_
  go_wp2_with (go_at_call 60; refine cp.mono ?_; rintro e w4 ⟨rfl, hW4⟩; have H4 := Lib.hid hW4; clear hW4)
  simp [bodyPost, results, Try.results38, go_sem]
  exact W3.out.over H4.out.wr (by simp [beB_len])

set_option maxHeartbeats 2000000 in
set_option maxRecDepth 100000 in
theorem setbody_b (g o m c z p : Nat) (l : List UInt8) (vv : Bool) (vhd vtt vttl vp vsH vsL vdH vdL : Int) (vfr : Bool) (vid voff : Int) (vmo : Bool) (hv : VOk ⟨vv, vhd, vtt, vttl, vp, vsH, vsL, vdH, vdL, vfr, vid, voff, vmo⟩) (hz : layP vp = ((z : Int), (p : Int))) (hz0 : z ≠ 0) (hzm : z ≤ m) (hpz : p + 2 ≤ z) (hn : l.length = m) (hm : m < 65536) (hc : m ≤ c) (hcm : c ≤ 9223372036854775807) (S : Nat) (hS : S = bsP ⟨vv, vhd, vtt, vttl, vp, vsH, vsL, vdH, vdL, vfr, vid, voff, vmo⟩ (putL l p [0, 0])) (hSn : S = 0 ∧ vp ≠ 17) {w : World} (hb : Byt w g o l) (hr : Room w g o m) :
    Calls Try.prog 38 #[.slice (some ⟨g, o, none⟩) m c, .agg #[.bool vv, .int .i64 vhd, .int .i64 vtt, .int .i64 vttl, .int .i64 vp, .int .u64 vsH, .int .u64 vsL, .int .u64 vdH, .int .u64 vdL, .bool vfr, .int .u32 vid, .int .i64 voff, .bool vmo]] w fun e w' => e = .returned (.tuple #[]) ∧ Wr w g (o + p) (beB 2 S) w' := by
  have cl := fun (W : World) => layout_any vp W
  rw [hz] at cl
  simp only at cl
  have hgl := hr.lt (by omega)
  have hS5 : S ≤ 65535 := by rw [hS]; exact bsP_le _ _
  have sa := cut_lh g o m c p (p + 2) (by omega) (by omega) (by omega) hcm
  rw [show ((p + 2 : Nat) : Int) = (p : Int) + 2 by omega, show p + 2 - p = 2 by omega] at sa
  have wa : IntKind.i64.wrap ((p : Int) + 2) = (p : Int) + 2 := by rw [IntKind.wrap_i64]; omega
  have z0 : ((z : Int) == 0) = false := by simp; omega
  have z1 : decide ((m : Int) < (z : Int)) = false := by simp; omega
  have z2 : ¬ (m : Int) < (z : Int) := by omega
  have z3 : decide (m < z) = false := by simp; omega
  have pi : (p : Int) < 65536 := by omega
  have hS0 : ((S : Int) == 0) = true := by simp; omega
  have h17 : (vp == 17) = false := by simp [hSn.2]
  clear hSn
  have wS : IntKind.u64.wrap (S : Int) = (S : Int) := by rw [IntKind.wrap_u64]; omega
  have wM : IntKind.u64.wrap 65535 = 65535 := by decide
  have hlen : (putL l p [0, 0]).length = m := by rw [putL_len (by simp; omega), hn]
  have HZ := Lib.hid (show l.length = m ∧ p + 2 ≤ m from ⟨hn, by omega⟩)
  have HB := Lib.hid hb
  have HR := Lib.hid hr
  have HV := Lib.hid hv
  have HS := Lib.hid hS
  have HL := Lib.hid hlen
  clear hb hr hv hz hn hS hlen hz0 hzm hpz
  go_enter Try.func38, Try.ntmps38
  go_wp2_with (with_reducible refine stop_op (o := ⟨some 10, _, _, _, _, _⟩) ?_)
  obtain ⟨w1, hw1⟩ : ∃ x, x = w.alloc (.cells #[.bool vv, .int .i64 vhd, .int .i64 vtt, .int .i64 vttl, .int .i64 vp, .int .u64 vsH, .int .u64 vsL, .int .u64 vdH, .int .u64 vdL, .bool vfr, .int .u32 vid, .int .i64 voff, .bool vmo] 40) := ⟨_, rfl⟩
  have hV1 : w1.heap[w.heap.size]? = some (.cells #[.bool vv, .int .i64 vhd, .int .i64 vtt, .int .i64 vttl, .int .i64 vp, .int .u64 vsH, .int .u64 vsL, .int .u64 vdH, .int .u64 vdL, .bool vfr, .int .u32 vid, .int .i64 voff, .bool vmo] 40 (0, 0)) := by rw [hw1]; exact al_neww rfl _
  have b1 : Below w.heap.size w w1 := by rw [hw1]; exact Below.al (Below.refl _ _) _
  rw [← hw1]
  clear hw1
  have W1 := Wr.nil b1 hgl (o + p)
  have r1 : Room w1 g (o + p) 2 := (HR.out.wr W1).sub (by have := HZ.out; omega)
  have hcl := clr_run g (o + p) (c - p) r1
  have hW := clr_wr r1
  obtain ⟨w2, hw2⟩ : ∃ x, x = w1.setCells g (o + p) [.int .u8 0, .int .u8 0] := ⟨_, rfl⟩
  rw [← hw2] at hcl hW
  clear hw2
  have hV2 : w2.heap[w.heap.size]? = some (.cells #[.bool vv, .int .i64 vhd, .int .i64 vtt, .int .i64 vttl, .int .i64 vp, .int .u64 vsH, .int .u64 vsL, .int .u64 vdH, .int .u64 vdL, .bool vfr, .int .u32 vid, .int .i64 voff, .bool vmo] 40 (0, 0)) := by rw [hW.block _ (by omega) (Array.getElem?_eq_some_iff.1 hV1).1]; exact hV1
  have hb2 : Byt w2 g o (putL l p [0, 0]) := hW.splice (HB.out.below b1) (by have := HZ.out; simp; omega)
  have cb := bsum_any g o c m (putL l p [0, 0]) _ HV.out HL.out (by have := HZ.out; omega) hm hc hcm hb2
  rw [← HS.out] at cb
  simp only [vcells] at cb
  have W2 := Lib.hid (W1.app (bs := []) (by simpa using hW))
  have HW := Lib.hid hW
  obtain ⟨⟨v0, v1, v2, v3, v4, v5, v6, v7, v8, v9, v10, v11, v12⟩, _⟩ := cells13 hV1
  obtain ⟨⟨u0, u1, u2, u3, u4, u5, u6, u7, u8, u9, u10, u11, u12⟩, _⟩ := cells13 hV2
  clear hW W1 hb2 b1 r1 hV1
  refine Lib.hid ?_
  go_wp2_with (first | (go_at_call 70; refine (cl _).mono ?_; rintro e w' ⟨rfl, hw'⟩; subst hw') | (go_at_call 71; refine cb.mono ?_; rintro e w3 ⟨rfl, hb3⟩; refine Hid.out ?_))
  have W3 := Lib.hid (W2.out.below hgl hb3)
  have hV3 := blkKeep2 hb3 hV2
  obtain ⟨⟨x0, x1, x2, x3, x4, x5, x6, x7, x8, x9, x10, x11, x12⟩, _⟩ := cells13 hV3
  have cp := put_any g (o + p) (c - p) 2 S (by omega) (by have := HZ.out; omega) (by omega) (by omega) ((HR.out.wr W3.out).sub (by have := HZ.out; omega))
  clear hb3 hV2 hV3 cb cl hcl W2 HW v0 u0 v1 u1 v2 u2 v3 u3 v4 u4 v5 u5 v6 u6 v7 u7 v8 u8 v9 u9 v10 u10 v11 u11 v12 u12
  refine Lib.hid ?_
  go_wp2_with (go_at_call 60; refine cp.mono ?_; rintro e w4 ⟨rfl, hW4⟩; have H4 := Lib.hid hW4; clear hW4)
  simp [bodyPost, results, Try.results38, go_sem]
  exact W3.out.over H4.out.wr (by simp [beB_len])

set_option maxHeartbeats 2000000 in
set_option maxRecDepth 100000 in
theorem setbody_c (g o m c z p : Nat) (l : List UInt8) (vv : Bool) (vhd vtt vttl vsH vsL vdH vdL : Int) (vfr : Bool) (vid voff : Int) (vmo : Bool) (hv : VOk ⟨vv, vhd, vtt, vttl, 17, vsH, vsL, vdH, vdL, vfr, vid, voff, vmo⟩) (hz : layP 17 = ((z : Int), (p : Int))) (hz0 : z ≠ 0) (hzm : z ≤ m) (hpz : p + 2 ≤ z) (hn : l.length = m) (hm : m < 65536) (hc : m ≤ c) (hcm : c ≤ 9223372036854775807) (S : Nat) (hS : S = bsP ⟨vv, vhd, vtt, vttl, 17, vsH, vsL, vdH, vdL, vfr, vid, voff, vmo⟩ (putL l p [0, 0])) (hSn : S = 0) {w : World} (hb : Byt w g o l) (hr : Room w g o m) :
    Calls Try.prog 38 #[.slice (some ⟨g, o, none⟩) m c, .agg #[.bool vv, .int .i64 vhd, .int .i64 vtt, .int .i64 vttl, .int .i64 17, .int .u64 vsH, .int .u64 vsL, .int .u64 vdH, .int .u64 vdL, .bool vfr, .int .u32 vid, .int .i64 voff, .bool vmo]] w fun e w' => e = .returned (.tuple #[]) ∧ Wr w g (o + p) (beB 2 65535) w' := by
  have cl := fun (W : World) => layout_any 17 W
  rw [hz] at cl
  simp only at cl
  have hgl := hr.lt (by omega)
  have hS5 : S ≤ 65535 := by rw [hS]; exact bsP_le _ _
  have sa := cut_lh g o m c p (p + 2) (by omega) (by omega) (by omega) hcm
  rw [show ((p + 2 : Nat) : Int) = (p : Int) + 2 by omega, show p + 2 - p = 2 by omega] at sa
  have wa : IntKind.i64.wrap ((p : Int) + 2) = (p : Int) + 2 := by rw [IntKind.wrap_i64]; omega
  have z0 : ((z : Int) == 0) = false := by simp; omega
  have z1 : decide ((m : Int) < (z : Int)) = false := by simp; omega
  have z2 : ¬ (m : Int) < (z : Int) := by omega
  have z3 : decide (m < z) = false := by simp; omega
  have pi : (p : Int) < 65536 := by omega
  have hS0 : ((S : Int) == 0) = true := by simp; omega
  clear hSn
  have wS : IntKind.u64.wrap (S : Int) = (S : Int) := by rw [IntKind.wrap_u64]; omega
  have wM : IntKind.u64.wrap 65535 = 65535 := by decide
  have hlen : (putL l p [0, 0]).length = m := by rw [putL_len (by simp; omega), hn]
  have HZ := Lib.hid (show l.length = m ∧ p + 2 ≤ m from ⟨hn, by omega⟩)
  have HB := Lib.hid hb
  have HR := Lib.hid hr
  have HV := Lib.hid hv
  have HS := Lib.hid hS
  have HL := Lib.hid hlen
  clear hb hr hv hz hn hS hlen hz0 hzm hpz
  go_enter Try.func38, Try.ntmps38
  go_wp2_with (with_reducible refine stop_op (o := ⟨some 10, _, _, _, _, _⟩) ?_)
  obtain ⟨w1, hw1⟩ : ∃ x, x = w.alloc (.cells #[.bool vv, .int .i64 vhd, .int .i64 vtt, .int .i64 vttl, .int .i64 17, .int .u64 vsH, .int .u64 vsL, .int .u64 vdH, .int .u64 vdL, .bool vfr, .int .u32 vid, .int .i64 voff, .bool vmo] 40) := ⟨_, rfl⟩
  have hV1 : w1.heap[w.heap.size]? = some (.cells #[.bool vv, .int .i64 vhd, .int .i64 vtt, .int .i64 vttl, .int .i64 17, .int .u64 vsH, .int .u64 vsL, .int .u64 vdH, .int .u64 vdL, .bool vfr, .int .u32 vid, .int .i64 voff, .bool vmo] 40 (0, 0)) := by rw [hw1]; exact al_neww rfl _
  have b1 : Below w.heap.size w w1 := by rw [hw1]; exact Below.al (Below.refl _ _) _
  rw [← hw1]
  clear hw1
  have W1 := Wr.nil b1 hgl (o + p)
  have r1 : Room w1 g (o + p) 2 := (HR.out.wr W1).sub (by have := HZ.out; omega)
  have hcl := clr_run g (o + p) (c - p) r1
  have hW := clr_wr r1
  obtain ⟨w2, hw2⟩ : ∃ x, x = w1.setCells g (o + p) [.int .u8 0, .int .u8 0] := ⟨_, rfl⟩
  rw [← hw2] at hcl hW
  clear hw2
  have hV2 : w2.heap[w.heap.size]? = some (.cells #[.bool vv, .int .i64 vhd, .int .i64 vtt, .int .i64 vttl, .int .i64 17, .int .u64 vsH, .int .u64 vsL, .int .u64 vdH, .int .u64 vdL, .bool vfr, .int .u32 vid, .int .i64 voff, .bool vmo] 40 (0, 0)) := by rw [hW.block _ (by omega) (Array.getElem?_eq_some_iff.1 hV1).1]; exact hV1
  have hb2 : Byt w2 g o (putL l p [0, 0]) := hW.splice (HB.out.below b1) (by have := HZ.out; simp; omega)
  have cb := bsum_any g o c m (putL l p [0, 0]) _ HV.out HL.out (by have := HZ.out; omega) hm hc hcm hb2
  rw [← HS.out] at cb
  simp only [vcells] at cb
  have W2 := Lib.hid (W1.app (bs := []) (by simpa using hW))
  have HW := Lib.hid hW
  obtain ⟨⟨v0, v1, v2, v3, v4, v5, v6, v7, v8, v9, v10, v11, v12⟩, _⟩ := cells13 hV1
  obtain ⟨⟨u0, u1, u2, u3, u4, u5, u6, u7, u8, u9, u10, u11, u12⟩, _⟩ := cells13 hV2
  clear hW W1 hb2 b1 r1 hV1
  refine Lib.hid ?_
  go_wp2_with (first | (go_at_call 70; refine (cl _).mono ?_; rintro e w' ⟨rfl, hw'⟩; subst hw') | (go_at_call 71; refine cb.mono ?_; rintro e w3 ⟨rfl, hb3⟩; refine Hid.out ?_))
  have W3 := Lib.hid (W2.out.below hgl hb3)
  have hV3 := blkKeep2 hb3 hV2
  obtain ⟨⟨x0, x1, x2, x3, x4, x5, x6, x7, x8, x9, x10, x11, x12⟩, _⟩ := cells13 hV3
  have cp := put_any g (o + p) (c - p) 2 65535 (by omega) (by have := HZ.out; omega) (by omega) (by omega) ((HR.out.wr W3.out).sub (by have := HZ.out; omega))
  clear hb3 hV2 hV3 cb cl hcl W2 HW v0 u0 v1 u1 v2 u2 v3 u3 v4 u4 v5 u5 v6 u6 v7 u7 v8 u8 v9 u9 v10 u10 v11 u11 v12 u12
  refine Lib.hid ?_
  go_wp2_with (go_at_call 60; refine cp.mono ?_; rintro e w4 ⟨rfl, hW4⟩; have H4 := Lib.hid hW4; clear hW4)
  simp [bodyPost, results, Try.results38, go_sem]
  exact W3.out.over H4.out.wr (by simp [beB_len])

theorem layP_ok {p : Int} (h : (layP p).1 ≠ 0) : ∃ z q : Nat, layP p = ((z : Int), (q : Int)) ∧ z ≠ 0 ∧ q + 2 ≤ z ∧ (p = 6 ∧ z = 20 ∧ q = 16 ∨ p = 17 ∧ z = 8 ∧ q = 6 ∨ (p = 1 ∨ p = 58) ∧ z = 8 ∧ q = 2) := by
  unfold layP at h ⊢
  by_cases h6 : p = 6
  · subst h6; exact ⟨20, 16, rfl, by decide, by decide, Or.inl ⟨rfl, rfl, rfl⟩⟩
  by_cases h17 : p = 17
  · subst h17; exact ⟨8, 6, rfl, by decide, by decide, Or.inr (Or.inl ⟨rfl, rfl, rfl⟩)⟩
  by_cases h1 : p = 1
  · subst h1; exact ⟨8, 2, rfl, by decide, by decide, Or.inr (Or.inr ⟨Or.inl rfl, rfl, rfl⟩)⟩
  by_cases h58 : p = 58
  · subst h58; exact ⟨8, 2, rfl, by decide, by decide, Or.inr (Or.inr ⟨Or.inr rfl, rfl, rfl⟩)⟩
  simp [h6, h17, h1, h58] at h

theorem sumVal_ne {v : VW} {z : List UInt8} (h : bsP v z ≠ 0) : sumVal v z = bsP v z := by unfold sumVal; rw [if_neg (fun e => h e.1)]
theorem sumVal_np {v : VW} {z : List UInt8} (h : v.proto ≠ 17) : sumVal v z = bsP v z := by unfold sumVal; rw [if_neg (fun e => h e.2)]
theorem sumVal_u {v : VW} {z : List UInt8} (h : bsP v z = 0) (hp : v.proto = 17) : sumVal v z = 65535 := by unfold sumVal; rw [if_pos ⟨h, hp⟩]
theorem setbody_any (A : Option Addr) (m c : Nat) (l : List UInt8) (v : VW) (hv : VOk v) {w : World} (h : BytArg w A m c l) (hr : ∀ g o, A = some ⟨g, o, none⟩ → 0 < m → Room w g o m) (hm : m < 65536) :
    Calls Try.prog 38 #[.slice A m c, .agg (vcells v)] w fun e w' => e = .returned (.tuple #[]) ∧ SetBy w A l v w' := by
  have hn := h.1
  have hcm := h.2.2.1
  unfold maxLen at hcm
  by_cases h0 : (layP v.proto).1 = 0 ∨ (l.length : Int) < (layP v.proto).1
  · have e : setB v l = l := by unfold setB; rw [if_pos h0]
    obtain ⟨vv, vhd, vtt, vttl, vp, vsH, vsL, vdH, vdL, vfr, vid, voff, vmo⟩ := v
    simp only [vcells]
    exact (setbody_no A m c vv vhd vtt vttl vp vsH vsL vdH vdL vfr vid voff vmo (by have := h.2.1; omega) (by rw [← hn]; exact h0)).mono fun e' w' ⟨h1, h2⟩ => ⟨h1, Or.inl ⟨e, h2⟩⟩
  · have h1 : (layP v.proto).1 ≠ 0 := fun e => h0 (Or.inl e)
    have h2 : ¬ (l.length : Int) < (layP v.proto).1 := fun e => h0 (Or.inr e)
    obtain ⟨z, q, hz, hz0, hq, _⟩ := layP_ok h1
    rw [hz] at h2
    simp only at h2
    obtain ⟨g, o, rfl, hb⟩ := h.2.2.2 (by omega)
    have e : setB v l = putL l q (beB 2 (sumVal v (putL l q [0, 0]))) := by
      unfold setB; rw [if_neg h0, hz]; rfl
    have key : Calls Try.prog 38 #[.slice (some ⟨g, o, none⟩) m c, .agg (vcells v)] w fun e w' => e = .returned (.tuple #[]) ∧ Wr w g (o + q) (beB 2 (sumVal v (putL l q [0, 0]))) w' := by
      obtain ⟨vv, vhd, vtt, vttl, vp, vsH, vsL, vdH, vdL, vfr, vid, voff, vmo⟩ := v
      simp only [vcells]
      by_cases hS : bsP ⟨vv, vhd, vtt, vttl, vp, vsH, vsL, vdH, vdL, vfr, vid, voff, vmo⟩ (putL l q [0, 0]) = 0
      · by_cases hp : vp = 17
        · subst hp
          rw [sumVal_u hS rfl]
          exact setbody_c g o m c z q l vv vhd vtt vttl vsH vsL vdH vdL vfr vid voff vmo hv hz hz0 (by omega) hq hn hm h.2.1 hcm _ rfl hS hb (hr g o rfl (by omega))
        · rw [sumVal_np hp]
          exact setbody_b g o m c z q l vv vhd vtt vttl vp vsH vsL vdH vdL vfr vid voff vmo hv hz hz0 (by omega) hq hn hm h.2.1 hcm _ rfl ⟨hS, hp⟩ hb (hr g o rfl (by omega))
      · rw [sumVal_ne hS]
        exact setbody_a g o m c z q l vv vhd vtt vttl vp vsH vsL vdH vdL vfr vid voff vmo hv hz hz0 (by omega) hq hn hm h.2.1 hcm _ rfl hS hb (hr g o rfl (by omega))
    exact key.mono fun e' w' ⟨h1, h2⟩ => ⟨h1, Or.inr ⟨g, o, q, _, rfl, h2, by rw [beB_len]; omega, e⟩⟩
end Go.Proofs.Ytpmbdjdhgcjkfaa
