/- NatPorts: the walk; by-name template (gen_na.py). -/
import Derived.Test.YtokbmahnjmmcaaaNaL
namespace Go.Proofs.Ytokbmahnjmmcaaa
open Go.RowKit Go.Lib Go.Maps
set_option linter.unusedVariables false
set_option linter.unusedSimpArgs false

theorem ports_any (f t u i : Int) {w : World} (hf : i64ok f) (ht : i64ok t) (hw : i64ok u) (hi : i64ok i) : Calls Try.prog 5 #[.int .i64 f, .int .i64 t, .int .i64 u, .int .i64 i] w fun e w' => e = .returned (.bool true) ∧ Below w.heap.size w w' := by
  have c1 := port_any f t u i w hf ht hw hi
  have c2 := rport_any f t u i w hf ht hw hi
  generalize (portP f t u i).1 = p at *
  generalize (portP f t u i).2 = q at *
  go_enter Try.func5, Try.ntmps5
  go_wp2_with (first
    | (go_at_call 15; refine c1.mono ?_; rintro e w1 ⟨rfl, h1⟩; rw [h1]; clear h1)
    | (go_at_call 16; refine c2.mono ?_; rintro e w2 ⟨rfl, h2⟩; rw [h2]; clear h2))
  all_goals (go_ret; exact ⟨ret_bool (by simp), Below.refl _ _⟩)
end Go.Proofs.Ytokbmahnjmmcaaa
