/- Families: where what is common stands; by-name template. -/
import Derived.Test.YtpmbdjdhgcjkfaaWAddr3
namespace Go.Proofs.Ytpmbdjdhgcjkfaa
open Go.RowKit Go.Sort
set_option linter.unusedVariables false
set_option linter.unusedSimpArgs false

/-- What the program's family holds. -/
def famCells (v6 : Bool) : Array Value :=
  if v6 then #[.bool true, .int .i64 40, .int .i64 7, .int .i64 6, .int .i64 8, .int .i64 16]
  else #[.bool false, .int .i64 20, .int .i64 8, .int .i64 9, .int .i64 12, .int .i64 4]

theorem heap_set6w {w : World} {B : Nat} {x0 x1 x2 x3 x4 x5 : Value} {t : TypeId} {fz : Nat × Nat} (h : w.heap[B]? = some (.cells #[x0, x1, x2, x3, x4, x5] t fz)) (a b c d e f : Value) :
    ((((((w.setCell ⟨B, 0, none⟩ a).setCell ⟨B, 1, none⟩ b).setCell ⟨B, 2, none⟩ c).setCell ⟨B, 3, none⟩ d).setCell ⟨B, 4, none⟩ e).setCell ⟨B, 5, none⟩ f).heap[B]? = some (.cells #[a, b, c, d, e, f] t fz) := by
  simp [World.setCell, Array.getElem?_modify, h]

theorem cells6 {w : World} {B : Nat} {x0 x1 x2 x3 x4 x5 : Value} {t : TypeId} (h : w.heap[B]? = some (.cells #[x0, x1, x2, x3, x4, x5] t (0, 0))) : (w.cell? ⟨B, 0, none⟩ = some x0 ∧ w.cell? ⟨B, 1, none⟩ = some x1 ∧ w.cell? ⟨B, 2, none⟩ = some x2 ∧ w.cell? ⟨B, 3, none⟩ = some x3 ∧ w.cell? ⟨B, 4, none⟩ = some x4 ∧ w.cell? ⟨B, 5, none⟩ = some x5) ∧ (w.frozen? ⟨B, 0, none⟩ = false ∧ w.frozen? ⟨B, 1, none⟩ = false ∧ w.frozen? ⟨B, 2, none⟩ = false ∧ w.frozen? ⟨B, 3, none⟩ = false ∧ w.frozen? ⟨B, 4, none⟩ = false ∧ w.frozen? ⟨B, 5, none⟩ = false) := by
  refine ⟨⟨?_, ?_, ?_, ?_, ?_, ?_⟩, ?_, ?_, ?_, ?_, ?_, ?_⟩ <;> simp [World.cell?, World.frozen?, h]

set_option maxHeartbeats 2000000 in
set_option maxRecDepth 100000 in
theorem carries_any (v6 : Bool) (p : Int) (w : World) : Calls Try.prog 48 #[.agg (famCells v6), .int .i64 p] w fun e w' => e = .returned (.bool (carriesP v6 p)) ∧ Below w.heap.size w w' := by
  have hH : ∀ C, (w.alloc (.cells C 69)).heap[w.heap.size]? = some (.cells C 69 (0, 0)) := fun C => al_neww rfl _
  cases v6
  all_goals (
    simp only [famCells, carriesP, if_true, if_false, Bool.false_eq_true]
    go_enter Try.func48, Try.ntmps48
    go_wp2
    simp [bodyPost, results, Try.results48, go_sem, bne, Bool.not_eq_true']
    refine ⟨?_, ?_⟩
    · first | rfl | (by_cases h : p = 58 <;> simp [h]) | (by_cases h : p = 1 <;> simp [h])
    · repeat (first | exact Below.refl _ _ | apply Below.dr | apply Below.al))
end Go.Proofs.Ytpmbdjdhgcjkfaa
