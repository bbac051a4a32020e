/- WireSums's walk, for all bytes; by-name template. -/
import Derived.Test.YtpfjdhbnblcafaaWSums
import Derived.Test.YtpfjdhbnblcafaaWFrame
namespace Go.Proofs.Ytpfjdhbnblcafaa
open Go.RowKit
set_option linter.unusedVariables false
set_option linter.unusedSimpArgs false

theorem sums_all (A : Option Addr) (n c : Nat) (l : List UInt8) (i k : Int) {w : World} (h : BytArg w A n c l) : Calls Try.prog 5 #[.slice A n c, .int .i64 i, .int .i64 k] w (SumsPost w) := by
  obtain ⟨hn, hc, hcm, hb⟩ := h
  unfold maxLen at hcm
  have cl := long_any A n c (by omega) w
  by_cases h1 : 65536 < n
  · rw [show decide (65536 < n) = true by simp [h1]] at cl
    clear hb
    go_enter Try.func5, Try.ntmps5
    go_wp2_with (go_at_call 10; refine cl.mono ?_; rintro e w' ⟨rfl, rfl⟩)
    go_ret
    exact ⟨rfl, Below.refl _ _⟩
  · by_cases h2 : n < 4
    · rw [show decide (65536 < n) = false by simp [h1]] at cl
      have h2i : (n : Int) < 4 := by omega
      clear hb
      go_enter Try.func5, Try.ntmps5
      go_wp2_with (go_at_call 10; refine cl.mono ?_; rintro e w' ⟨rfl, rfl⟩)
      go_ret
      exact ⟨rfl, Below.refl _ _⟩
    · obtain ⟨g, o, rfl, hbt⟩ := hb (by omega)
      exact sums_mid g o c n l i k hn hc hcm (by omega) (by omega) hbt
end Go.Proofs.Ytpfjdhbnblcafaa
