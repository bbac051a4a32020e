/- AddrBack's walk; by-name template. -/
import Derived.Test.YtpfjdhbnblcafaaDoorATexts
namespace Go.Proofs.YtpfjdhbnblcafaaDoor
open Go.RowKit
set_option linter.unusedVariables false
set_option linter.unusedSimpArgs false

theorem long_back (a b : Int) (s : ByteArray) (h : 4096 < s.size) (hm : s.size ≤ 9223372036854775807) (w : World) : Calls Tryd.prog 5 #[.agg #[.int .u64 a, .int .u64 b], .string s] w (LawPostD w) := by
  have hi : (4096 : Int) < (s.size : Int) := by omega
  go_enter Tryd.func5, Tryd.ntmps5
  go_wp2
  go_ret
  exact ⟨rfl, Below.al (Below.refl _ _) _⟩

set_option maxHeartbeats 2000000 in
set_option maxRecDepth 100000 in
theorem back_mid (a b : Nat) (ha : a < 18446744073709551616) (hb : b < 18446744073709551616) (s : ByteArray) (h : s.size ≤ 4096) {w : World} (hG : Glob w) : Calls Tryd.prog 5 #[.agg #[.int .u64 (a : Nat), .int .u64 (b : Nat)], .string s] w (LawPostD w) := by
  have hi : (s.size : Int) ≤ 4096 := by omega
  have hid : decide ((4096 : Int) < (s.size : Int)) = false := by simp; omega
  have hin : decide (4096 < s.size) = false := by simp; omega
  have cp := fun (W : World) (hg : Glob W) => print_any a b ha hb hg
  have hpp := parse_print ha hb
  have hlp := len_print (a := a) (b := b)
  obtain ⟨P, hP⟩ : ∃ P : ByteArray, P = ⟨(printA a b).toArray⟩ := ⟨_, rfl⟩
  have hPd : P.data.toList = printA a b := by rw [hP]
  have hPs : P.size ≤ 39 := by rw [← hPd] at hlp; rw [← Lib.size_eq] at hlp; exact hlp
  rw [← hP] at cp
  rw [← hPd] at hpp
  have cpp := fun (W : World) (hg : Glob W) => parse_any P (by omega) hg
  rw [hpp] at cpp
  simp only [parseT] at cpp
  have cpa := fun (W : World) (hg : Glob W) => parse_any s (by omega) hg
  have crpa := fun (W : World) => rparse_any s (by omega) W
  have hai : (a : Int) < 18446744073709551616 := by omega
  have hbi : (b : Int) < 18446744073709551616 := by omega
  clear hP hPd hpp hlp ha hb hPs
  cases hx : parseP s.data.toList with
  | none =>
    rw [hx] at cpa crpa
    simp only [parseT] at cpa crpa
    clear hx
    go_enter Tryd.func5, Tryd.ntmps5
    go_wp2_with (go_at_call 8; refine (cp _ (hG.on (Below.al (Below.refl _ _) _))).mono ?_; rintro e w2 ⟨rfl, hb2⟩; refine Hid.out ?_)
    have bw2 : Below w.heap.size w w2 := bel_via (Below.al (Below.refl _ w) _) hb2
    have hz2 : w.heap.size < w2.heap.size := by have := hb2.size; simp at this; omega
    have hA2 : w2.heap[w.heap.size]? = some (.cells #[.int .u64 (a : Nat), .int .u64 (b : Nat)] 25 (0, 0)) := by rw [hb2.block _ (by simp)]; exact al_new rfl _
    clear cp
    refine Lib.hid ?_
    go_wp2_with (go_at_call 9; refine (cpp _ (hG.on bw2)).mono ?_; rintro e w3 ⟨rfl, hb3⟩; refine Hid.out ?_)
    have bw3 : Below w.heap.size w w3 := bel_via bw2 hb3
    have hz3 : w2.heap.size ≤ w3.heap.size := hb3.size
    have hA3 : w3.heap[w.heap.size]? = some (.cells #[.int .u64 (a : Nat), .int .u64 (b : Nat)] 25 (0, 0)) := by rw [hb3.block _ hz2]; exact hA2
    clear cpp
    refine Lib.hid ?_
    go_wp2_with (with_reducible refine stop_op (o := ⟨some 21, _, _, _, _, _⟩) ?_)
    obtain ⟨w4, hw4⟩ : ∃ v, v = w3.alloc (.cells #[.int .u64 (a : Nat), .int .u64 (b : Nat)] 25) := ⟨_, rfl⟩
    have bw4 : Below w.heap.size w w4 := by rw [hw4]; exact Below.al bw3 _
    have hA4 : w4.heap[w.heap.size]? = some (.cells #[.int .u64 (a : Nat), .int .u64 (b : Nat)] 25 (0, 0)) := by rw [hw4, al_old (by omega)]; exact hA3
    have hB4 : w4.heap[w3.heap.size]? = some (.cells #[.int .u64 (a : Nat), .int .u64 (b : Nat)] 25 (0, 0)) := by rw [hw4]; exact al_new rfl _
    obtain ⟨cA0, cA1, _, _⟩ := cells_of hA4
    obtain ⟨cB0, cB1, _, _⟩ := cells_of hB4
    rw [← hw4]
    clear hw4 hb2 hb3 hA2 hA3
    refine Lib.hid ?_
    go_wp2_with (first
      | (go_at_call 9; refine (cpa _ (hG.on bw4)).mono ?_; rintro e w5 ⟨rfl, hb5⟩)
      | (go_at_call 13; refine (crpa _).mono ?_; rintro e w6 ⟨rfl, hb6⟩))
    go_ret
    exact ⟨by simp, Below.al (bel_via (Below.al (bel_via bw4 hb5) _) hb6) _⟩
  | some x =>
    have hxs := parseP_some (a := x.1) (b := x.2) hx
    rw [hx] at cpa crpa
    simp only [parseT] at cpa crpa
    have cpx := fun (W : World) (hg : Glob W) => print_any x.1 x.2 hxs.2.1 hxs.2.2 hg
    rw [bytes_of hxs.1] at cpx
    have hxi : (x.1 : Int) < 18446744073709551616 := by omega
    have hyi : (x.2 : Int) < 18446744073709551616 := by omega
    clear hx hxs
    go_enter Tryd.func5, Tryd.ntmps5
    go_wp2_with (go_at_call 8; refine (cp _ (hG.on (Below.al (Below.refl _ _) _))).mono ?_; rintro e w2 ⟨rfl, hb2⟩; refine Hid.out ?_)
    have bw2 : Below w.heap.size w w2 := bel_via (Below.al (Below.refl _ w) _) hb2
    have hz2 : w.heap.size < w2.heap.size := by have := hb2.size; simp at this; omega
    have hA2 : w2.heap[w.heap.size]? = some (.cells #[.int .u64 (a : Nat), .int .u64 (b : Nat)] 25 (0, 0)) := by rw [hb2.block _ (by simp)]; exact al_new rfl _
    clear cp
    refine Lib.hid ?_
    go_wp2_with (go_at_call 9; refine (cpp _ (hG.on bw2)).mono ?_; rintro e w3 ⟨rfl, hb3⟩; refine Hid.out ?_)
    have bw3 : Below w.heap.size w w3 := bel_via bw2 hb3
    have hz3 : w2.heap.size ≤ w3.heap.size := hb3.size
    have hA3 : w3.heap[w.heap.size]? = some (.cells #[.int .u64 (a : Nat), .int .u64 (b : Nat)] 25 (0, 0)) := by rw [hb3.block _ hz2]; exact hA2
    clear cpp
    refine Lib.hid ?_
    go_wp2_with (with_reducible refine stop_op (o := ⟨some 21, _, _, _, _, _⟩) ?_)
    obtain ⟨w4, hw4⟩ : ∃ v, v = w3.alloc (.cells #[.int .u64 (a : Nat), .int .u64 (b : Nat)] 25) := ⟨_, rfl⟩
    have bw4 : Below w.heap.size w w4 := by rw [hw4]; exact Below.al bw3 _
    have hA4 : w4.heap[w.heap.size]? = some (.cells #[.int .u64 (a : Nat), .int .u64 (b : Nat)] 25 (0, 0)) := by rw [hw4, al_old (by omega)]; exact hA3
    have hB4 : w4.heap[w3.heap.size]? = some (.cells #[.int .u64 (a : Nat), .int .u64 (b : Nat)] 25 (0, 0)) := by rw [hw4]; exact al_new rfl _
    obtain ⟨cA0, cA1, _, _⟩ := cells_of hA4
    obtain ⟨cB0, cB1, _, _⟩ := cells_of hB4
    rw [← hw4]
    clear hw4 hb2 hb3 hA2 hA3
    refine Lib.hid ?_
    go_wp2_with (go_at_call 9; refine (cpa _ (hG.on bw4)).mono ?_; rintro e w5 ⟨rfl, hb5⟩; refine Hid.out ?_)
    have bw5 := bel_via bw4 hb5
    clear cA0 cA1 cB0 cB1 hA4 hB4
    refine Lib.hid ?_
    go_wp2_with (go_at_call 13; refine (crpa _).mono ?_; rintro e w6 ⟨rfl, hb6⟩; refine Hid.out ?_)
    have bw6 : Below w.heap.size w w6 := bel_via (Below.al bw5 _) hb6
    have hX6 : w6.heap[w5.heap.size]? = some (.cells #[.int .u64 (x.1 : Nat), .int .u64 (x.2 : Nat)] 25 (0, 0)) := by rw [hb6.block _ (by simp)]; exact al_new rfl _
    obtain ⟨cX0, cX1, _, _⟩ := cells_of hX6
    have hz6 : w5.heap.size < w6.heap.size := (Array.getElem?_eq_some_iff.1 hX6).1
    have cX0a := fun o => keepc (Below.al (Below.refl _ w6) o) cX0
    have cX1a := fun o => keepc (Below.al (Below.refl _ w6) o) cX1
    clear hb5 hb6 bw5
    refine Lib.hid ?_
    go_wp2_with (go_at_call 8; refine (cpx _ (hG.on (Below.al bw6 _))).mono ?_; rintro e w7 ⟨rfl, hb7⟩)
    go_ret
    exact ⟨by simp, bel_via (Below.al bw6 _) hb7⟩

theorem back_any (a b : Int) (s : ByteArray) (h0 : Word a) (h1 : Word b) (hs : s.size ≤ maxLen) {w : World} (hG : Glob w) : Calls Tryd.prog 5 #[.agg #[.int .u64 a, .int .u64 b], .string s] w (LawPostD w) := by
  unfold maxLen at hs
  obtain ⟨p0, p1⟩ := h0
  obtain ⟨q0, q1⟩ := h1
  by_cases h : 4096 < s.size
  · exact long_back a b s h hs w
  · obtain ⟨A, rfl⟩ : ∃ N : Nat, a = (N : Nat) := ⟨a.toNat, by omega⟩
    obtain ⟨B, rfl⟩ : ∃ N : Nat, b = (N : Nat) := ⟨b.toNat, by omega⟩
    exact back_mid A B (by omega) (by omega) s (by omega) hG
end Go.Proofs.YtpfjdhbnblcafaaDoor
