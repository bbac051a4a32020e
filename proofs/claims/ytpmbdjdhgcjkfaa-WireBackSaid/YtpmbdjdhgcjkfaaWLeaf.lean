/- Transport headers: what is told by the protocol; by-name template. -/
import Derived.Test.YtpmbdjdhgcjkfaaWParse
namespace Go.Proofs.Ytpmbdjdhgcjkfaa
open Go.RowKit Go.Sort
set_option linter.unusedVariables false
set_option linter.unusedSimpArgs false

/-- How many bytes a transport's header has at least, and where its sum stands. -/
def layP (p : Int) : Int × Int := if p = 6 then (20, 16) else if p = 17 then (8, 6) else if p = 1 then (8, 2) else if p = 58 then (8, 2) else (0, 0)
def echoP (v6 : Bool) (k : Int) : Bool := if v6 then decide (k = 128) || decide (k = 129) else decide (k = 8) || decide (k = 0)
/-- How many bytes of a body are its transport header, or why it has none. -/
def hsP (l : List UInt8) (p : Int) : Int × Int :=
  if (l.length : Int) < (layP p).1 then (0, 40)
  else if p = 6 then (if byN l 12 / 16 * 4 < 20 then (0, 42) else if l.length < byN l 12 / 16 * 4 then (0, 40) else (((byN l 12 / 16 * 4 : Nat) : Int), 0))
  else if p = 17 then (if nbN l 4 2 ≠ l.length then (0, 42) else (8, 0))
  else ((layP p).1, 0)

theorem layout_any (p : Int) (w : World) : Calls Try.prog 70 #[.int .i64 p] w fun e w' => e = .returned (.tuple #[.int .i64 (layP p).1, .int .i64 (layP p).2]) ∧ w = w' := by
  unfold layP
  by_cases h6 : p = 6
  · subst h6
    go_enter Try.func70, Try.ntmps70
    go_wp2
    go_ret2
    exact ⟨rfl, rfl⟩
  have b6 : (p == 6) = false := by simp [h6]
  by_cases h17 : p = 17
  · subst h17
    go_enter Try.func70, Try.ntmps70
    go_wp2
    go_ret2
    exact ⟨rfl, rfl⟩
  have b17 : (p == 17) = false := by simp [h17]
  by_cases h1 : p = 1
  · subst h1
    go_enter Try.func70, Try.ntmps70
    go_wp2
    go_ret2
    exact ⟨rfl, rfl⟩
  have b1 : (p == 1) = false := by simp [h1]
  by_cases h58 : p = 58
  · subst h58
    go_enter Try.func70, Try.ntmps70
    go_wp2
    go_ret2
    exact ⟨rfl, rfl⟩
  have b58 : (p == 58) = false := by simp [h58]
  rw [if_neg h6, if_neg h17, if_neg h1, if_neg h58]
  go_enter Try.func70, Try.ntmps70
  go_wp2
  go_ret2
  exact ⟨rfl, rfl⟩

theorem echo_any (v6 : Bool) (k : Int) (w : World) : Calls Try.prog 65 #[.bool v6, .int .i64 k] w fun e w' => e = .returned (.bool (echoP v6 k)) ∧ w = w' := by
  unfold echoP
  cases v6
  · by_cases h : k = 8
    · subst h
      go_enter Try.func65, Try.ntmps65
      go_wp2
      go_ret
      exact ⟨rfl, rfl⟩
    · have hb : (k == 8) = false := by simp [h]
      by_cases h0 : k = 0
      · subst h0
        go_enter Try.func65, Try.ntmps65
        go_wp2
        go_ret
        exact ⟨rfl, rfl⟩
      · have hb0 : (k == 0) = false := by simp [h0]
        go_enter Try.func65, Try.ntmps65
        go_wp2
        go_ret
        exact ⟨by simp [h, h0], rfl⟩
  · by_cases h : k = 128
    · subst h
      go_enter Try.func65, Try.ntmps65
      go_wp2
      go_ret
      exact ⟨rfl, rfl⟩
    · have hb : (k == 128) = false := by simp [h]
      by_cases h0 : k = 129
      · subst h0
        go_enter Try.func65, Try.ntmps65
        go_wp2
        go_ret
        exact ⟨rfl, rfl⟩
      · have hb0 : (k == 129) = false := by simp [h0]
        go_enter Try.func65, Try.ntmps65
        go_wp2
        go_ret
        exact ⟨by simp [h, h0], rfl⟩

theorem nosum_any (g o n c : Nat) (l : List UInt8) (hn : l.length = n) (h8 : 8 ≤ n) (hc : n ≤ c) (hcm : c ≤ 9223372036854775807) {w : World} (hb : Byt w g o l) :
    Calls Try.prog 37 #[.slice (some ⟨g, o, none⟩) n c] w fun e w' => e = .returned (.bool (decide (nbN l 6 2 = 0))) ∧ w = w' := by
  have s6 : ∀ W, (Instr.slice 22 (.slice (some ⟨g, o, none⟩) n c) (some (.int .i64 6)) (some (.int .i64 8)) none).run Try.prog W = .ok (.slice (some ⟨g, o + 6, none⟩) 2 (c - 6)) W := cut_lh g o n c 6 8 (by omega) (by omega) (by omega) hcm
  have n6 := nb_eq g o n c 6 2 l hn (by omega) (by omega) hb w (Below.refl _ _)
  generalize nbN l 6 2 = S at n6 ⊢
  clear hb hn
  have hq : ((S : Int) == 0) = decide (S = 0) := by by_cases h : S = 0 <;> simp [h]
  generalize decide (S = 0) = q at hq ⊢
  go_enter Try.func37, Try.ntmps37
  go_wp2_with (go_at_call 69; refine n6.mono ?_; rintro e w' ⟨rfl, rfl⟩)
  go_ret
  exact ⟨rfl, rfl⟩

set_option maxHeartbeats 1000000 in
theorem hs_any (A : Option Addr) (n c : Nat) (l : List UInt8) (p : Int) {w : World} (h : BytArg w A n c l) :
    Calls Try.prog 53 #[.slice A n c, .int .i64 p] w fun e w' => e = .returned (.tuple #[.int .i64 (hsP l p).1, .int .i64 (hsP l p).2]) ∧ w = w' := by
  obtain ⟨hn, hc, hcm, hs⟩ := h
  unfold maxLen at hcm
  have cl := layout_any p w
  unfold hsP
  rw [hn]
  by_cases h6 : p = 6
  · subst h6
    simp only [layP, if_true] at cl ⊢
    by_cases hs1 : n < 20
    · have d1 : decide ((n : Int) < 20) = true := by simp; omega
      have d2 : (n : Int) < 20 := by omega
      rw [if_pos (by omega)]
      clear hs hn
      go_enter Try.func53, Try.ntmps53
      go_wp2_with (first | (go_at_call 70; refine cl.mono ?_; rintro e w' ⟨rfl, rfl⟩))
      go_ret2
      exact ⟨rfl, rfl⟩
    rw [if_neg (by omega)]
    have d1 : decide ((n : Int) < 20) = false := by simp; omega
    have d2 : ¬ (n : Int) < 20 := by omega
    obtain ⟨g, o, rfl, hb⟩ := hs (by omega)
    have c12 := by_cell hb hn 12 (by omega)
    have hX := byN_lt l 12
    generalize byN l 12 = X at *
    obtain ⟨Z, hZ⟩ : ∃ Z, Z = X / 16 * 4 := ⟨_, rfl⟩
    rw [← hZ]
    have eZ : (X : Int) / 16 * 4 = (Z : Int) := by omega
    have wZ : IntKind.i64.wrap ((X : Int) / 16) = (X : Int) / 16 := by rw [IntKind.wrap_i64]; omega
    have wZ2 : IntKind.i64.wrap (Z : Int) = (Z : Int) := by rw [IntKind.wrap_i64]; omega
    have Xi : (X : Int) < 256 := by omega
    have i12 : (12 : Int) < (n : Int) := by omega
    have k12 : 12 < n := by omega
    have HZ := Lib.hid hZ
    clear hZ hb hn
    by_cases hz : Z < 20
    · have d3 : decide ((Z : Int) < 20) = true := by simp; omega
      have d4 : (Z : Int) < 20 := by omega
      rw [if_pos hz]
      go_enter Try.func53, Try.ntmps53
      go_wp2_with (first | (go_at_call 70; refine cl.mono ?_; rintro e w' ⟨rfl, rfl⟩))
      go_ret2
      exact ⟨rfl, rfl⟩
    rw [if_neg hz]
    have d3 : decide ((Z : Int) < 20) = false := by simp; omega
    have d4 : ¬ (Z : Int) < 20 := by omega
    by_cases hz2 : n < Z
    · have d5 : decide ((n : Int) < (Z : Int)) = true := by simp; omega
      have d6 : decide (n < Z) = true := by simp; omega
      have d7 : (n : Int) < (Z : Int) := by omega
      rw [if_pos hz2]
      clear hz hz2
      go_enter Try.func53, Try.ntmps53
      go_wp2_with (first | (go_at_call 70; refine cl.mono ?_; rintro e w' ⟨rfl, rfl⟩))
      go_ret2
      exact ⟨rfl, rfl⟩
    rw [if_neg hz2]
    have d5 : decide ((n : Int) < (Z : Int)) = false := by simp; omega
    have d6 : decide (n < Z) = false := by simp; omega
    have d7 : ¬ (n : Int) < (Z : Int) := by omega
    clear hz hz2
    go_enter Try.func53, Try.ntmps53
    go_wp2_with (first | (go_at_call 70; refine cl.mono ?_; rintro e w' ⟨rfl, rfl⟩))
    go_ret2
    exact ⟨rfl, rfl⟩
  have b6 : (p == 6) = false := by simp [h6]
  by_cases h17 : p = 17
  · subst h17
    have e : layP 17 = (8, 6) := by simp [layP]
    rw [e] at cl ⊢
    simp only [if_true] at cl ⊢
    rw [if_neg (show ¬ (17 : Int) = 6 by omega)]
    by_cases hs1 : n < 8
    · have d1 : decide ((n : Int) < 8) = true := by simp; omega
      have d2 : (n : Int) < 8 := by omega
      rw [if_pos (by omega)]
      clear hs hn e h6 b6
      go_enter Try.func53, Try.ntmps53
      go_wp2_with (first | (go_at_call 70; refine cl.mono ?_; rintro e w' ⟨rfl, rfl⟩))
      go_ret2
      exact ⟨rfl, rfl⟩
    rw [if_neg (by omega)]
    have d1 : decide ((n : Int) < 8) = false := by simp; omega
    have d2 : ¬ (n : Int) < 8 := by omega
    obtain ⟨g, o, rfl, hb⟩ := hs (by omega)
    have s4 : ∀ W, (Instr.slice 22 (.slice (some ⟨g, o, none⟩) n c) (some (.int .i64 4)) (some (.int .i64 6)) none).run Try.prog W = .ok (.slice (some ⟨g, o + 4, none⟩) 2 (c - 4)) W := cut_lh g o n c 4 6 (by omega) (by omega) (by omega) hcm
    have n4 := nb_eq g o n c 4 2 l hn (by omega) (by omega) hb w (Below.refl _ _)
    have hN := nb2_lt l 4
    generalize nbN l 4 2 = N at *
    have wn : IntKind.u64.wrap (n : Int) = (n : Int) := by rw [IntKind.wrap_u64]; omega
    clear hb hn e h6 b6
    by_cases hz : N ≠ n
    · have d3 : ((N : Int) != (n : Int)) = true := by simp; omega
      have d4 : (N != n) = true := by simp; omega
      rw [if_pos hz]
      have Hz := Lib.hid hz
      clear hz
      go_enter Try.func53, Try.ntmps53
      go_wp2_with (first | (go_at_call 70; refine cl.mono ?_; rintro e w' ⟨rfl, rfl⟩) | (go_at_call 69; refine n4.mono ?_; rintro e w' ⟨rfl, rfl⟩))
      go_ret2
      exact ⟨rfl, rfl⟩
    have hz2 : N = n := by omega
    rw [if_neg hz]
    have d3 : ((N : Int) != (n : Int)) = false := by simp; omega
    have d4 : (N != n) = false := by simp; omega
    have Hz := Lib.hid hz
    have Hz2 := Lib.hid hz2
    clear hz hz2
    go_enter Try.func53, Try.ntmps53
    go_wp2_with (first | (go_at_call 70; refine cl.mono ?_; rintro e w' ⟨rfl, rfl⟩) | (go_at_call 69; refine n4.mono ?_; rintro e w' ⟨rfl, rfl⟩))
    go_ret2
    exact ⟨rfl, rfl⟩
  have b17 : (p == 17) = false := by simp [h17]
  rw [if_neg h6, if_neg h17]
  generalize layP p = L at *
  obtain ⟨La, Lb⟩ := L
  simp only at cl ⊢
  clear hs hn
  by_cases hs1 : (n : Int) < La
  · have d1 : decide ((n : Int) < La) = true := by simp; omega
    rw [if_pos hs1]
    go_enter Try.func53, Try.ntmps53
    go_wp2_with (first | (go_at_call 70; refine cl.mono ?_; rintro e w' ⟨rfl, rfl⟩))
    go_ret2
    exact ⟨rfl, rfl⟩
  · have d1 : decide ((n : Int) < La) = false := by simp; omega
    rw [if_neg hs1]
    go_enter Try.func53, Try.ntmps53
    go_wp2_with (first | (go_at_call 70; refine cl.mono ?_; rintro e w' ⟨rfl, rfl⟩))
    go_ret2
    exact ⟨rfl, rfl⟩
end Go.Proofs.Ytpmbdjdhgcjkfaa
