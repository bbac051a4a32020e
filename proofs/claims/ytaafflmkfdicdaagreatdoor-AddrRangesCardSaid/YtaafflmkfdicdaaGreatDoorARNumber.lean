/- The document's own Number; by-name template. -/
import Derived.Test.YtaafflmkfdicdaaGreatDoorARNum
namespace Go.Proofs.YtaafflmkfdicdaaGreatDoor
open Go.RowKit
set_option linter.unusedVariables false
set_option linter.unusedSimpArgs false

set_option maxHeartbeats 1000000 in
set_option maxRecDepth 100000 in
theorem rnumber_any (s : ByteArray) (hs : s.size ≤ 281474976) (w : World) :
    Calls Tryz.prog 22 #[.string s] w fun e w' => e = .returned (.int .i64 (numV s.data.toList)) ∧ w' = w := by
  have hL : s.data.toList.length = s.size := by rw [Lib.size_eq]
  by_cases h0 : s.size = 0
  · have e : numV s.data.toList = -1 := by unfold numV; rw [if_pos (Or.inl (by omega))]
    rw [e]
    have h0i : ((s.size : Int) == 0) = true := by rw [h0]; rfl
    clear h0 hL e
    go_enter Tryz.func22, Tryz.ntmps22
    go_wp2
    go_ret
    exact ⟨rfl, rfl⟩
  · have h0i : ((s.size : Int) == 0) = false := by rw [beq_eq_false_iff_ne]; omega
    by_cases h10 : 10 < s.size
    · have e : numV s.data.toList = -1 := by unfold numV; rw [if_pos (Or.inr (Or.inl (by omega)))]
      rw [e]
      have h10i : (10 : Int) < (s.size : Int) := by omega
      clear e
      go_enter Tryz.func22, Tryz.ntmps22
      go_wp2
      go_ret
      exact ⟨rfl, rfl⟩
    · obtain ⟨c0, hc0⟩ : ∃ c, s.data.toList[0]? = some c := ⟨s.data.toList[0]'(by omega), List.getElem?_eq_getElem (by omega)⟩
      have hg : s.data.toList.getD 0 0 = c0 := by rw [List.getD_eq_getElem?_getD, hc0]; rfl
      by_cases hz : c0 = 48 ∧ 1 < s.size
      · have e : numV s.data.toList = -1 := by unfold numV; rw [if_pos (Or.inr (Or.inr (by rw [hg, hL]; exact hz)))]
        rw [e]
        have hi0 := idx_any s 0 c0 hc0
        have hi0' : ∀ W, (Instr.index 9 (.string s) (.int .i64 0)).run Tryz.prog W = .ok (.int .u8 (c0.toNat : Nat)) W := hi0
        have hce : ((c0.toNat : Nat) : Int) = 48 := by rw [hz.1]; rfl
        have h1i : (1 : Int) < (s.size : Int) := by omega
        have h10i : decide ((10 : Int) < (s.size : Int)) = false := by rw [decide_eq_false_iff_not]; omega
        clear hi0 hz hc0 hg e h0 h10 hL
        go_enter Tryz.func22, Tryz.ntmps22
        go_wp2
        go_ret
        exact ⟨rfl, rfl⟩
      · have e : numV s.data.toList = numM 0 s.data.toList := by unfold numV; rw [if_neg (by rw [hg, hL]; intro h; rcases h with h | h | h; exact h0 h; exact h10 h; exact hz h)]
        rw [e]
        exact rnum_loop s w (by omega) (by omega) c0 hc0 hz

end Go.Proofs.YtaafflmkfdicdaaGreatDoor
