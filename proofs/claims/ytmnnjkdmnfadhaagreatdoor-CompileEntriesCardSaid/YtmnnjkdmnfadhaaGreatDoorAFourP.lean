/- Addresses printed and read back, plain; what a law tells; by-name template. -/
import Derived.Test.YtmnnjkdmnfadhaaGreatDoorAParse
import Derived.Test.YtmnnjkdmnfadhaaGreatDoorABack
namespace Go.Proofs.YtmnnjkdmnfadhaaGreatDoor
open Go.RowKit
set_option linter.unusedVariables false
set_option linter.unusedSimpArgs false

theorem cells_of {w : World} {B : Nat} {x y : Value} {t : TypeId} (h : w.heap[B]? = some (.cells #[x, y] t (0, 0))) : w.cell? ⟨B, 0, none⟩ = some x ∧ w.cell? ⟨B, 1, none⟩ = some y ∧ w.frozen? ⟨B, 0, none⟩ = false ∧ w.frozen? ⟨B, 1, none⟩ = false := by
  refine ⟨?_, ?_, ?_, ?_⟩ <;> simp [World.cell?, World.frozen?, h]

def LawPostD (w : World) (e : Ending) (w' : World) : Prop := e = .returned (.bool true) ∧ Below w.heap.size w w'

theorem len_print {a b : Nat} : (printA a b).length ≤ 39 := by
  unfold printA
  split
  · exact len4 _
  · exact len6 rfl (gsN_leK a b)

end Go.Proofs.YtmnnjkdmnfadhaaGreatDoor
