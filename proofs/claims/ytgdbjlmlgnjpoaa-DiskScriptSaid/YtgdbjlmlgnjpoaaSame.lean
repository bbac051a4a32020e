/- 'same': a disk is held against the reference; by-name template. -/
import Derived.Test.YtgdbjlmlgnjpoaaRefTwo
import Derived.Deep.QuietTactic
import Derived.BigQuiet
namespace Go.Proofs.Ytgdbjlmlgnjpoaa
open Go.RowKit

theorem DiskAt.drewN {w : World} {B : Nat} {D : DS} (h : DiskAt w B D) (n : Nat) : DiskAt (w.drewN n) B D := h

def SamePost (w : World) (e : Ending) (w' : World) : Prop := e = .returned (.bool true) ∧ ∃ m, w' = w.drewN m

set_option maxRecDepth 100000 in
set_option maxHeartbeats 1000000 in
theorem same_any {w : World} {B R g cap : Nat} {D : DS} (hA : DiskAt w B D) (hR : RefAt w R g cap D) : Calls Try.prog 18 #[.pointer (some ⟨B, 0, none⟩), .pointer (some ⟨R, 0, none⟩)] w (SamePost w) := by
  have g0 := hR.c0
  have g1 := hR.c1
  have g4 := hR.c4
  have hra := fun (j : Nat) (hj : j < 160) => read_at hA hj
  have hwa := fun (j : Nat) (hj : j < 160) => hR.s.cell hj
  have HRA := Lib.hid hra
  have HWA := Lib.hid hwa
  clear hra hwa
  go_enter Try.func18, Try.ntmps18
  go_wp2
  go_loop [5] (fun c => ∃ j : Nat, j ≤ 160 ∧ c = .int .i64 (j : Int)) (fun c => 160 - (intOf c).toNat)
  case atStart => exact ⟨0, by omega, rfl⟩
  case round =>
    obtain ⟨j, hj, rfl⟩ := hrel
    by_cases hj2 : j < 160
    · have hja := HRA.out j hj2
      have hjb := HWA.out j hj2
      generalize D.S.getD j ByteArray.empty = t at hja hjb
      have hj3 : (j : Int) < 160 := by omega
      clear g1 g4
      go_wp2_with (go_at_call 14; refine hja.mono ?_; rintro e w5 ⟨rfl, rfl⟩)
      go_round
      case rel => exact ⟨j + 1, by omega, by go_num⟩
      case measure => simp [intOf]; omega
    · have hwr := fun n => (writes_any (hA.drewN n)).mono fun _ _ ⟨he, hw⟩ => (⟨he, hw.symm⟩ : _ ∧ _)
      have hde := fun n => (dead_any (hA.drewN n)).mono fun _ _ ⟨he, hw⟩ => (⟨he, hw.symm⟩ : _ ∧ _)
      clear g0
      go_wp2_with fail
      go_quiet (first
        | (go_at_call 15; exact Calls.quiet_of_same (hwr _))
        | (go_at_call 13; exact Calls.quiet_of_same (hde _)))
      go_wp2
      trace_state
      go_ret
      exact ⟨ret_bool (by simp), _, rfl⟩
end Go.Proofs.Ytgdbjlmlgnjpoaa
