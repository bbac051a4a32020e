/- What may be a name: the program's and the document's; by-name template. -/
import Derived.Test.YtmnnjkdmnfadhaaGreatDoorRows
import Derived.Test.YtmnnjkdmnfadhaaGreatDoorLWB
import Derived.WalkKit
import Derived.WalkSpells
import Derived.StillTactics
import Derived.Lib.Hide
import Derived.Below
import Derived.BigQuiet
import Derived.StillTailTactics
import Derived.Outline
import Derived.Deep.QuietTactic
import Derived.Deep.LoopGhost
import Derived.RowKit3
namespace Go.Proofs.YtmnnjkdmnfadhaaGreatDoor
open Go.RowKit
set_option linter.unusedVariables false
set_option linter.unusedSimpArgs false

def letN (n : Nat) : Bool := decide (97 ≤ n) && decide (n ≤ 122)
def digN (n : Nat) : Bool := decide (48 ≤ n) && decide (n ≤ 57)
def chrN (n : Nat) : Bool := letN n || (digN n || n == 95)
def NameOk (s : ByteArray) : Prop := 0 < s.size ∧ s.size ≤ 12 ∧ ¬ s.toList = [97, 110, 121] ∧ letN (bt s 0) = true ∧ ∀ j, j < s.size → chrN (bt s j) = true
def NamePost (s : ByteArray) (w : World) (e : Ending) (w' : World) : Prop := ∃ b : Bool, e = .returned (.bool b) ∧ (b = true ↔ NameOk s) ∧ w = w'

theorem let_any (n : Nat) (w : World) : Calls Tryz.prog 136 #[.int .u8 n] w fun e w' => e = .returned (.bool (letN n)) ∧ w = w' := by
  unfold letN
  by_cases h : 97 ≤ n
  · have hi : (97 : Int) ≤ (n : Int) := by omega
    go_enter Tryz.func136, Tryz.ntmps136
    go_wp2
    go_ret
    exact ⟨by simp [h] <;> omega, rfl⟩
  · have hi : decide ((97 : Int) ≤ (n : Int)) = false := by simp; omega
    go_enter Tryz.func136, Tryz.ntmps136
    go_wp2
    go_ret
    exact ⟨by simp [h] <;> omega, rfl⟩
theorem dig_any (n : Nat) (w : World) : Calls Tryz.prog 137 #[.int .u8 n] w fun e w' => e = .returned (.bool (digN n)) ∧ w = w' := by
  unfold digN
  by_cases h : 48 ≤ n
  · have hi : (48 : Int) ≤ (n : Int) := by omega
    go_enter Tryz.func137, Tryz.ntmps137
    go_wp2
    go_ret
    exact ⟨by simp [h] <;> omega, rfl⟩
  · have hi : decide ((48 : Int) ≤ (n : Int)) = false := by simp; omega
    go_enter Tryz.func137, Tryz.ntmps137
    go_wp2
    go_ret
    exact ⟨by simp [h] <;> omega, rfl⟩

theorem toList_len (s : ByteArray) : s.toList.length = s.size := by rw [Lib.toList_data]; simp

set_option maxHeartbeats 4000000 in
set_option maxRecDepth 100000 in
theorem name_any (s : ByteArray) (hs : s.size ≤ 9223372036854775807) (w : World) : Calls Tryz.prog 95 #[.string s] w (NamePost s w) := by
  by_cases h0 : s.size = 0
  · have hl : s.toList = [] := List.eq_nil_of_length_eq_zero (by rw [toList_len]; exact h0)
    have hl1 : s.toList.isEmpty = true := by simp [hl]
    have hl2 : (s.toList == []) = true := by simp [hl]
    go_enter Tryz.func95, Tryz.ntmps95
    go_wp2
    go_ret
    exact ⟨false, rfl, ⟨(fun h => by cases h), fun h => absurd h.1 (by omega)⟩, rfl⟩
  · have hl : ¬ s.toList = [] := fun h => h0 (by rw [← toList_len, h]; rfl)
    have hl1 : s.toList.isEmpty = false := by simpa using hl
    have hp : 0 < s.size := by omega
    by_cases h12 : s.size ≤ 12
    · have h12d : decide (12 < s.size) = false := by simp; omega
      have h12i : ¬ (12 : Int) < (s.size : Int) := by omega
      by_cases ha : s.toList = [97, 110, 121]
      · go_enter Tryz.func95, Tryz.ntmps95
        go_wp2
        all_goals
          go_ret
          exact ⟨false, rfl, ⟨(fun h => by cases h), fun h => absurd ha h.2.2.1⟩, rfl⟩
      · have hab : (s.toList == [97, 110, 121]) = false := by simp [ha]
        have hb0 := bt_get s 0 hp
        have cl := let_any (bt s 0)
        cases hL : letN (bt s 0) with
        | false =>
          rw [hL] at cl
          have HL := Lib.hid hL
          clear hL
          go_enter Tryz.func95, Tryz.ntmps95
          go_wp2_with (go_at_call 136; with_reducible refine (cl _).mono ?_; rintro e w' ⟨rfl, rfl⟩)
          go_ret
          exact ⟨false, rfl, ⟨(fun h => by cases h), fun h => by have := h.2.2.2.1; rw [HL.out] at this; exact this⟩, rfl⟩
        | true =>
          rw [hL] at cl
          have HL := Lib.hid hL
          clear hL
          go_enter Tryz.func95, Tryz.ntmps95
          go_wp2_with (go_at_call 136; with_reducible refine (cl _).mono ?_; rintro e w' ⟨rfl, rfl⟩)
          clear cl
          go_loop [24] (fun vi => ∃ k : Nat, k ≤ s.size ∧ vi = .int .i64 k ∧ Aside (∀ j, j < k → chrN (bt s j) = true)) (fun vi => s.size - (intOf vi).toNat)
          case atStart => exact ⟨0, by omega, rfl, fun j hj => absurd hj (Nat.not_lt_zero _)⟩
          case round =>
            obtain ⟨k, hk, rfl, N⟩ := hrel
            by_cases hlt : k < s.size
            · have hlti : (k : Int) < (s.size : Int) := by omega
              have hbk := bt_get s k hlt
              have c1 := let_any (bt s k)
              have c2 := dig_any (bt s k)
              have hch : chrN (bt s k) = (letN (bt s k) || (digN (bt s k) || bt s k == 95)) := rfl
              generalize letN (bt s k) = Q1 at *
              generalize digN (bt s k) = Q2 at *
              have HC := Lib.hid hch
              clear hch hb0
              cases Q1 with
              | true =>
                go_wp2_with (first | (go_at_call 136; with_reducible refine (c1 _).mono ?_; rintro e w' ⟨rfl, rfl⟩))
                go_round
                case rel => exact ⟨k + 1, by omega, by go_num, fun j hj => by
                  by_cases e : j = k
                  · subst e; rw [HC.out]; rfl
                  · exact N.out j (by omega)⟩
                case measure => simp [intOf]; omega
              | false =>
                cases Q2 with
                | true =>
                  go_wp2_with (first | (go_at_call 136; with_reducible refine (c1 _).mono ?_; rintro e w' ⟨rfl, rfl⟩) | (go_at_call 137; with_reducible refine (c2 _).mono ?_; rintro e w' ⟨rfl, rfl⟩))
                  go_round
                  case rel => exact ⟨k + 1, by omega, by go_num, fun j hj => by
                    by_cases e : j = k
                    · subst e; rw [HC.out]; rfl
                    · exact N.out j (by omega)⟩
                  case measure => simp [intOf]; omega
                | false =>
                  by_cases h95 : bt s k = 95
                  · have h95b : ((bt s k : Int) != 95) = false := by simp; omega
                    have HK := Lib.hid h95
                    clear h95
                    go_wp2_with (first | (go_at_call 136; with_reducible refine (c1 _).mono ?_; rintro e w' ⟨rfl, rfl⟩) | (go_at_call 137; with_reducible refine (c2 _).mono ?_; rintro e w' ⟨rfl, rfl⟩))
                    go_round
                    case rel => exact ⟨k + 1, by omega, by go_num, fun j hj => by
                      by_cases e : j = k
                      · subst e; rw [HC.out, HK.out]; rfl
                      · exact N.out j (by omega)⟩
                    case measure => simp [intOf]; omega
                  · have h95b : ((bt s k : Int) != 95) = true := by simp; omega
                    have HK := Lib.hid h95
                    clear h95
                    go_wp2_with (first | (go_at_call 136; with_reducible refine (c1 _).mono ?_; rintro e w' ⟨rfl, rfl⟩) | (go_at_call 137; with_reducible refine (c2 _).mono ?_; rintro e w' ⟨rfl, rfl⟩))
                    go_ret
                    refine ⟨false, rfl, ⟨(fun h => by cases h), fun h => ?_⟩, rfl⟩
                    have h2 := h.2.2.2.2 k hlt
                    rw [HC.out] at h2
                    simp at h2
                    exact absurd h2 HK.out
            · obtain rfl : k = s.size := by omega
              clear hlt
              go_wp2
              go_ret
              exact ⟨true, rfl, ⟨(fun _ => ⟨hp, h12, ha, HL.out, fun j hj => N.out j hj⟩), fun _ => rfl⟩, rfl⟩
    · have h12d : decide (12 < s.size) = true := by simp; omega
      have h12i : (12 : Int) < (s.size : Int) := by omega
      go_enter Tryz.func95, Tryz.ntmps95
      go_wp2
      all_goals
        go_ret
        exact ⟨false, rfl, ⟨(fun h => by cases h), fun h => absurd h.2.1 h12⟩, rfl⟩
end Go.Proofs.YtmnnjkdmnfadhaaGreatDoor
