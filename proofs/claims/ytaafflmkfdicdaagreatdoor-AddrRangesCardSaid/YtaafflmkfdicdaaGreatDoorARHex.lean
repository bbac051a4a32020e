/- The document's own hex digit; by-name template. -/
import Derived.Test.YtaafflmkfdicdaaGreatDoorARPrint
import Derived.Test.YtaafflmkfdicdaaGreatDoorARGuessP
namespace Go.Proofs.YtaafflmkfdicdaaGreatDoor
open Go.RowKit
set_option linter.unusedVariables false
set_option linter.unusedSimpArgs false


set_option maxHeartbeats 1000000 in
set_option maxRecDepth 100000 in
theorem rhex_any (c : Nat) (hc : c < 256) (w : World) : Calls Tryz.prog 70 #[.int .u8 (c : Nat)] w fun e w' => e = .returned (.int .i64 (hexV c)) ∧ w' = w := by
  have hci : (c : Int) < 256 := by omega
  by_cases h1 : 48 ≤ c
  · have i1 : (48 : Int) ≤ (c : Int) := by omega
    by_cases h2 : c ≤ 57
    · have i2 : (c : Int) ≤ 57 := by omega
      have e : hexV c = (c : Int) - 48 := by unfold hexV; rw [if_pos ⟨h1, h2⟩]
      rw [e]
      go_enter Tryz.func70, Tryz.ntmps70
      go_wp2
      go_ret
      exact ⟨rfl, rfl⟩
    · have i2 : decide ((c : Int) ≤ 57) = false := by simp; omega
      by_cases h3 : 97 ≤ c
      · have i3 : (97 : Int) ≤ (c : Int) := by omega
        by_cases h4 : c ≤ 102
        · have i4 : (c : Int) ≤ 102 := by omega
          have e : hexV c = (c : Int) - 87 := by unfold hexV; rw [if_neg (by omega), if_pos ⟨h3, h4⟩]
          rw [e]
          have e2 : (c : Int) - 97 + 10 = (c : Int) - 87 := by omega
          go_enter Tryz.func70, Tryz.ntmps70
          go_wp2
          go_ret
          exact ⟨by first | rfl | (simp; omega), rfl⟩
        · have i4 : decide ((c : Int) ≤ 102) = false := by simp; omega
          have e : hexV c = -1 := by unfold hexV; rw [if_neg (by omega), if_neg (by omega)]
          rw [e]
          go_enter Tryz.func70, Tryz.ntmps70
          go_wp2
          go_ret
          exact ⟨rfl, rfl⟩
      · have i3 : decide ((97 : Int) ≤ (c : Int)) = false := by simp; omega
        have e : hexV c = -1 := by unfold hexV; rw [if_neg (by omega), if_neg (by omega)]
        rw [e]
        go_enter Tryz.func70, Tryz.ntmps70
        go_wp2
        go_ret
        exact ⟨rfl, rfl⟩
  · have i1 : decide ((48 : Int) ≤ (c : Int)) = false := by simp; omega
    have i3 : decide ((97 : Int) ≤ (c : Int)) = false := by simp; omega
    have e : hexV c = -1 := by unfold hexV; rw [if_neg (by omega), if_neg (by omega)]
    rw [e]
    go_enter Tryz.func70, Tryz.ntmps70
    go_wp2
    go_ret
    exact ⟨rfl, rfl⟩

end Go.Proofs.YtaafflmkfdicdaaGreatDoor
