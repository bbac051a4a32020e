/- What may be a name: the document's; by-name template. -/
import Derived.Test.YtmnnjkdmnfadhaaGreatDoorLNName
namespace Go.Proofs.YtmnnjkdmnfadhaaGreatDoor
open Go.RowKit
set_option linter.unusedVariables false
set_option linter.unusedSimpArgs false

set_option maxHeartbeats 4000000 in
set_option maxRecDepth 100000 in
theorem rname_any (s : ByteArray) (hs : s.size ≤ 9223372036854775807) (w : World) : Calls Tryz.prog 78 #[.string s] w (NamePost s w) := by
  by_cases h0 : s.size = 0
  · have hz : (s.size : Int) < 1 := by omega
    go_enter Tryz.func78, Tryz.ntmps78
    go_wp2
    go_ret
    exact ⟨false, rfl, ⟨(fun h => by cases h), fun h => absurd h.1 (by omega)⟩, rfl⟩
  · have hp : 0 < s.size := by omega
    have hz : decide ((s.size : Int) < 1) = false := by simp; omega
    have hz2 : ¬ (s.size : Int) < 1 := by omega
    by_cases h12 : s.size ≤ 12
    · have h12d : decide (12 < s.size) = false := by simp; omega
      have h12i : ¬ (12 : Int) < (s.size : Int) := by omega
      by_cases ha : s.toList = [97, 110, 121]
      · go_enter Tryz.func78, Tryz.ntmps78
        go_wp2
        all_goals
          go_ret
          exact ⟨false, rfl, ⟨(fun h => by cases h), fun h => absurd ha h.2.2.1⟩, rfl⟩
      · have hab : (s.toList == [97, 110, 121]) = false := by simp [ha]
        have hb0 := bt_get s 0 hp
        have hlet : letN (bt s 0) = true ↔ 97 ≤ bt s 0 ∧ bt s 0 ≤ 122 := by simp [letN]
        by_cases h97 : 97 ≤ bt s 0
        · have h97d : decide ((bt s 0 : Int) < 97) = false := by simp; omega
          by_cases h122 : bt s 0 ≤ 122
          · have h122d : decide ((122 : Int) < (bt s 0 : Int)) = false := by simp; omega
            have HL := Lib.hid (hlet.2 ⟨h97, h122⟩)
            clear hlet h97 h122
            go_enter Tryz.func78, Tryz.ntmps78
            go_wp2
            go_loop [3] (fun vi => ∃ k : Nat, k ≤ s.size ∧ vi = .int .i64 k ∧ Aside (∀ j, j < k → chrN (bt s j) = true)) (fun vi => s.size - (intOf vi).toNat)
            case atStart => exact ⟨0, by omega, rfl, fun j hj => absurd hj (Nat.not_lt_zero _)⟩
            case round =>
              obtain ⟨k, hk, rfl, N⟩ := hrel
              by_cases hlt : k < s.size
              · have hlti : (k : Int) < (s.size : Int) := by omega
                have hbk := bt_get s k hlt
                have hch : chrN (bt s k) = (letN (bt s k) || (digN (bt s k) || bt s k == 95)) := rfl
                have hl1 : letN (bt s k) = true ↔ 97 ≤ bt s k ∧ bt s k ≤ 122 := by simp [letN]
                have hl2 : digN (bt s k) = true ↔ 48 ≤ bt s k ∧ bt s k ≤ 57 := by simp [digN]
                have hc3 : chrN (bt s k) = true ↔ (97 ≤ bt s k ∧ bt s k ≤ 122) ∨ (48 ≤ bt s k ∧ bt s k ≤ 57) ∨ bt s k = 95 := by rw [hch]; simp [hl1, hl2]
                have HC := Lib.hid hc3
                clear hch hl1 hl2 hc3 hb0 h97d h122d
                generalize hbn : bt s k = n at *
                have HN := Lib.hid hbn
                clear hbn
                by_cases t1 : 97 ≤ n
                · have t1d : decide ((97 : Int) ≤ (n : Int)) = true := by simp; omega
                  by_cases t2 : n ≤ 122
                  · have t2d : decide ((n : Int) ≤ 122) = true := by simp; omega
                    have HG := Lib.hid (HC.out.2 (.inl ⟨t1, t2⟩))
                    clear HC
                    go_wp2
                    go_round
                    case rel => exact ⟨k + 1, by omega, by go_num, fun j hj => by
                      by_cases e : j = k
                      · subst e; rw [HN.out]; exact HG.out
                      · exact N.out j (by omega)⟩
                    case measure => simp [intOf]; omega
                  · have t2d : decide ((n : Int) ≤ 122) = false := by simp; omega
                    have t3d : decide ((48 : Int) ≤ (n : Int)) = true := by simp; omega
                    have t4d : decide ((n : Int) ≤ 57) = false := by simp; omega
                    have t5d : ((n : Int) == 95) = false := by simp; omega
                    have HB := Lib.hid (fun h => by have := HC.out.1 h; omega : ¬ chrN n = true)
                    clear HC
                    go_wp2
                    go_ret
                    exact ⟨false, rfl, ⟨(fun h => by cases h), fun h => absurd (by have := h.2.2.2.2 k hlt; rw [HN.out] at this; exact this) HB.out⟩, rfl⟩
                · have t1d : decide ((97 : Int) ≤ (n : Int)) = false := by simp; omega
                  by_cases t3 : 48 ≤ n
                  · have t3d : decide ((48 : Int) ≤ (n : Int)) = true := by simp; omega
                    by_cases t4 : n ≤ 57
                    · have t4d : decide ((n : Int) ≤ 57) = true := by simp; omega
                      have HG := Lib.hid (HC.out.2 (.inr (.inl ⟨t3, t4⟩)))
                      clear HC
                      go_wp2
                      go_round
                      case rel => exact ⟨k + 1, by omega, by go_num, fun j hj => by
                        by_cases e : j = k
                        · subst e; rw [HN.out]; exact HG.out
                        · exact N.out j (by omega)⟩
                      case measure => simp [intOf]; omega
                    · have t4d : decide ((n : Int) ≤ 57) = false := by simp; omega
                      by_cases t5 : n = 95
                      · have t5d : ((n : Int) == 95) = true := by simp; omega
                        have HG := Lib.hid (HC.out.2 (.inr (.inr t5)))
                        clear t5
                        clear HC
                        go_wp2
                        go_round
                        case rel => exact ⟨k + 1, by omega, by go_num, fun j hj => by
                          by_cases e : j = k
                          · subst e; rw [HN.out]; exact HG.out
                          · exact N.out j (by omega)⟩
                        case measure => simp [intOf]; omega
                      · have t5d : ((n : Int) == 95) = false := by simp; omega
                        have HB := Lib.hid (fun h => by have := HC.out.1 h; omega : ¬ chrN n = true)
                        clear t5
                        clear HC
                        go_wp2
                        go_ret
                        exact ⟨false, rfl, ⟨(fun h => by cases h), fun h => absurd (by have := h.2.2.2.2 k hlt; rw [HN.out] at this; exact this) HB.out⟩, rfl⟩
                  · have t3d : decide ((48 : Int) ≤ (n : Int)) = false := by simp; omega
                    have t5d : ((n : Int) == 95) = false := by simp; omega
                    have HB := Lib.hid (fun h => by have := HC.out.1 h; omega : ¬ chrN n = true)
                    clear HC
                    go_wp2
                    go_ret
                    exact ⟨false, rfl, ⟨(fun h => by cases h), fun h => absurd (by have := h.2.2.2.2 k hlt; rw [HN.out] at this; exact this) HB.out⟩, rfl⟩
              · obtain rfl : k = s.size := by omega
                clear hlt
                go_wp2
                go_ret
                exact ⟨true, rfl, ⟨(fun _ => ⟨hp, h12, ha, HL.out, fun j hj => N.out j hj⟩), fun _ => rfl⟩, rfl⟩
          · have h122d : decide ((122 : Int) < (bt s 0 : Int)) = true := by simp; omega
            go_enter Tryz.func78, Tryz.ntmps78
            go_wp2
            go_ret
            exact ⟨false, rfl, ⟨(fun h => by cases h), fun h => absurd (hlet.1 h.2.2.2.1).2 h122⟩, rfl⟩
        · have h97d : decide ((bt s 0 : Int) < 97) = true := by simp; omega
          go_enter Tryz.func78, Tryz.ntmps78
          go_wp2
          go_ret
          exact ⟨false, rfl, ⟨(fun h => by cases h), fun h => absurd (hlet.1 h.2.2.2.1).1 h97⟩, rfl⟩
    · have h12d : decide (12 < s.size) = true := by simp; omega
      have h12i : (12 : Int) < (s.size : Int) := by omega
      go_enter Tryz.func78, Tryz.ntmps78
      go_wp2
      all_goals
        go_ret
        exact ⟨false, rfl, ⟨(fun h => by cases h), fun h => absurd h.2.1 h12⟩, rfl⟩
end Go.Proofs.YtmnnjkdmnfadhaaGreatDoor
