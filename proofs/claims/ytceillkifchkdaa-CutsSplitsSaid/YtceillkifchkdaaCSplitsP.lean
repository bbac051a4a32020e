/- CutsSplits, of any number of entries; by-name template. -/
import Derived.Test.YtceillkifchkdaaCSplitsL
import Derived.Test.YtceillkifchkdaaEFrame
namespace Go.Proofs.Ytceillkifchkdaa
open Go.RowKit Go.Lib Go.Sort
set_option linter.unusedVariables false
set_option linter.unusedSimpArgs false

set_option maxRecDepth 100000 in
set_option maxHeartbeats 4000000 in
theorem csplits_any (A : Option Addr) (n c : Nat) (l : List EN) (b : Nat → R4) (x t0 t1 : Int) (w : World) (hS : Sl w 25 enc25 A n l) (hw : ∀ e ∈ l, WB e.bx) (hc : A = none → c = 0) (wb : WB b) (wt1 : Word t0) (wt2 : Word t1) :
    Calls Try.prog 3 #[.slice A n c, .agg (bxc b), .int .i64 x, .agg #[.int .u64 t0, .int .u64 t1]] w (LawPost w) := by
  by_cases hn : n ≤ 512
  · exact csplits_core A n c l b x ⟨t0, t1⟩ hc hn hw wb wt1 wt2 w hS
  · unfold LawPost
    have hn9 : decide ((512 : Int) < (n : Int)) = true := by simp; omega
    clear hS hw hc wb wt1 wt2 hn
    generalize bxc b = C
    go_enter Try.func3, Try.ntmps3
    go_wp2_with fail
    go_ret
    exact ⟨rfl, Below.al (Below.al (Below.refl _ _) _) _⟩
end Go.Proofs.Ytceillkifchkdaa
