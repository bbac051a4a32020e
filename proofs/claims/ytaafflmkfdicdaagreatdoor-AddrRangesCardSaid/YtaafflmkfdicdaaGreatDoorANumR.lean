/- The document's own Of4; by-name template. -/
import Derived.Test.YtaafflmkfdicdaaGreatDoorANum
namespace Go.Proofs.YtaafflmkfdicdaaGreatDoor
open Go.RowKit
set_option linter.unusedVariables false
set_option linter.unusedSimpArgs false
theorem rof4_any (n : Int) (h0 : 0 ≤ n) (h1 : n < 4294967296) (w : World) : Calls Tryz.prog 52 #[.int .u32 n] w fun e w' => e = .returned (.agg #[.int .u64 0, .int .u64 (281470681743360 + n)]) ∧ Below w.heap.size w w' := by
  go_enter Tryz.func52, Tryz.ntmps52
  go_wp2
  simp [bodyPost, results, Tryz.results52, go_sem]
  repeat (first | exact Below.refl _ _ | apply Below.dr | apply Below.al)

end Go.Proofs.YtaafflmkfdicdaaGreatDoor
