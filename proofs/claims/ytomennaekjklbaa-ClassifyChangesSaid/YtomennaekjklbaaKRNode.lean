/- Nodes in memory, the document's; by-name template. -/
import Derived.Test.YtomennaekjklbaaKNode
namespace Go.Proofs.Ytomennaekjklbaa
open Go.RowKit Go.Lib Go.Sort
set_option maxRecDepth 100000
set_option linter.unusedVariables false
set_option linter.unusedSimpArgs false

/-- A node of the document's: its block, not below base. -/
def RNode (base : Nat) (w : World) : TN → Nat → Prop
  | .leaf l, B => base ≤ B ∧ ∃ A c, w.heap[B]? = some (.cells #[.slice A l.length c, .int .i64 0, .int .u64 0, .int .u64 0, .pointer none, .pointer none] 73 (0, 0)) ∧ l.length ≤ c ∧ (0 < l.length → Above base A) ∧ Sl w 25 enc25 A l.length l
  | .inner f at' _ lo hi, B => base ≤ B ∧ ∃ B1 B2, w.heap[B]? = some (.cells #[.slice none 0 0, .int .i64 (f : Nat), .int .u64 at'.h, .int .u64 at'.l, .pointer (some ⟨B1, 0, none⟩), .pointer (some ⟨B2, 0, none⟩)] 73 (0, 0)) ∧ RNode base w lo B1 ∧ RNode base w hi B2
theorem RNode.keep {base : Nat} {w w' : World} (hb : Below w.heap.size w w') : ∀ {t : TN} {B : Nat}, RNode base w t B → RNode base w' t B
  | .leaf l, B, ⟨h0, A, c, h1, h2, h3, h4⟩ => ⟨h0, A, c, blkB hb h1, h2, h3, h4.keep hb⟩
  | .inner _ _ _ lo hi, B, ⟨h0, B1, B2, h1, h2, h3⟩ => ⟨h0, B1, B2, blkB hb h1, h2.keep hb, h3.keep hb⟩
theorem RNode.off {base N : Nat} {w w' : World} (hN : N < base) (ho : OffG N w w') : ∀ {t : TN} {B : Nat}, RNode base w t B → RNode base w' t B
  | .leaf l, B, ⟨h0, A, c, h1, h2, h3, h4⟩ => ⟨h0, A, c, blkO ho (by omega) h1, h2, h3, h4.off (fun hn => (h3 hn).notAt (by omega)) ho⟩
  | .inner _ _ _ lo hi, B, ⟨h0, B1, B2, h1, h2, h3⟩ => ⟨h0, B1, B2, blkO ho (by omega) h1, h2.off hN ho, h3.off hN ho⟩
theorem RNode.mono {b1 b2 : Nat} (hb : b2 ≤ b1) {w : World} : ∀ {t : TN} {B : Nat}, RNode b1 w t B → RNode b2 w t B
  | .leaf l, B, ⟨h0, A, c, h1, h2, h3, h4⟩ => ⟨by omega, A, c, h1, h2, fun hn b off sp e => by have := h3 hn b off sp e; omega, h4⟩
  | .inner _ _ _ lo hi, B, ⟨h0, B1, B2, h1, h2, h3⟩ => ⟨by omega, B1, B2, h1, h2.mono hb, h3.mono hb⟩
end Go.Proofs.Ytomennaekjklbaa
