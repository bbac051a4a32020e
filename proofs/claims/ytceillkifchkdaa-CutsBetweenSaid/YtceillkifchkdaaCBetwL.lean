/- CutsBetween; by-name template. -/
import Derived.Test.YtceillkifchkdaaCBetwA
import Derived.Test.YtceillkifchkdaaCBetwB
import Derived.Test.YtceillkifchkdaaEFrame
namespace Go.Proofs.Ytceillkifchkdaa
open Go.RowKit Go.Lib Go.Sort
set_option linter.unusedVariables false
set_option linter.unusedSimpArgs false

set_option maxRecDepth 100000 in
set_option maxHeartbeats 4000000 in
theorem cbetween_any (A : Option Addr) (n c : Nat) (l : List EN) (b : Nat → R4) (x p0 p1 q0 q1 : Int) (w : World) (hSl : Sl w 25 enc25 A n l) (hw : ∀ e ∈ l, WB e.bx) (wb : WB b) (wp : Word p0 ∧ Word p1) (wq : Word q0 ∧ Word q1) :
    Calls Try.prog 4 #[.slice A n c, .agg (bxc b), .int .i64 x, .agg #[.int .u64 p0, .int .u64 p1], .agg #[.int .u64 q0, .int .u64 q1]] w (LawPost w) := by
  by_cases hn : n ≤ 512
  · by_cases hx : 0 ≤ x ∧ x < 6
    · obtain ⟨k, rfl⟩ := Int.eq_ofNat_of_zero_le hx.1
      cases hsw : ltP ⟨q0, q1⟩ ⟨p0, p1⟩ with
      | false => exact betw_a A n c l b k ⟨p0, p1⟩ ⟨q0, q1⟩ (by omega) hn hw wb wp wq w hSl hsw
      | true => exact betw_b A n c l b k ⟨p0, p1⟩ ⟨q0, q1⟩ (by omega) hn hw wb wp wq w hSl hsw
    · unfold LawPost
      have hn9 : decide ((512 : Int) < (n : Int)) = false := by simp; omega
      clear hSl hw wb wp wq
      generalize bxc b = C
      by_cases h0 : x < 0
      · have hd0 : decide (x < 0) = true := by simp [h0]
        clear hx h0 hn
        go_enter Try.func4, Try.ntmps4
        go_wp2_with fail
        go_ret
        exact ⟨rfl, Below.al (Below.al (Below.al (Below.refl _ _) _) _) _⟩
      · have hd0 : decide (x < 0) = false := by simp [h0]
        have hd6 : decide (6 ≤ x) = true := by simp; omega
        clear hx h0 hn
        go_enter Try.func4, Try.ntmps4
        go_wp2_with fail
        go_ret
        exact ⟨rfl, Below.al (Below.al (Below.al (Below.refl _ _) _) _) _⟩
  · unfold LawPost
    have hn9 : decide ((512 : Int) < (n : Int)) = true := by simp; omega
    clear hSl hw wb wp wq hn
    generalize bxc b = C
    go_enter Try.func4, Try.ntmps4
    go_wp2_with fail
    go_ret
    exact ⟨rfl, Below.al (Below.al (Below.al (Below.refl _ _) _) _) _⟩
end Go.Proofs.Ytceillkifchkdaa
