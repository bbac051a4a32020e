/- Addresses as numbers: compared, within a range; by-name template. -/
import Derived.Test.YtbfplmlapkdejaaGreatDoorRows
import Derived.WalkKit
import Derived.WalkSpells
import Derived.StillTactics
import Derived.Laws.Pointers
import Derived.Deep.RegionHeld3
import Derived.RowKit3
import Derived.Lib.Hide
import Derived.Below
import Derived.BigQuiet
import Derived.StillTailTactics
import Derived.Outline
import Derived.Laws.Rows
import Derived.Laws.Tables
import Derived.Deep.WholeRow
import Derived.Deep.RegionWith
import Derived.Deep.DeepCutAuto
import Derived.Deep.QuietTactic
import Derived.Laws.BitsLemmas
import Derived.Laws.Bits64b
namespace Go.Proofs.YtbfplmlapkdejaaGreatDoor
open Go.RowKit
set_option linter.unusedVariables false
set_option linter.unusedSimpArgs false

def cmpI (a b : Int) : Int := if a < b then -1 else if b < a then 1 else 0
def orI (x y : Int) : Int := if x = 0 then y else x
def cmpA (ah al bh bl : Int) : Int := orI (cmpI ah bh) (cmpI al bl)
/-- A word. -/
def Word (x : Int) : Prop := 0 ≤ x ∧ x < 18446744073709551616

theorem Below.al {w w' : World} (h : Below w.heap.size w w') (o : Obj) : Below w.heap.size w (w'.alloc o) := h.alloc h.size o
theorem Below.dr {B : Nat} {w w' : World} (h : Below B w w') : Below B w w'.drew := h.drew
theorem bel_via {w w1 w2 : World} (h : Below w.heap.size w w1) (k : Below w1.heap.size w1 w2) : Below w.heap.size w w2 := h.trans (k.mono h.size)

/-- A call that turns nothing below keeps what is known of w0. -/
theorem kept {P : Program} {f : FuncId} {args : Array Value} {R : Value} {w0 wr : World} (h : Calls P f args wr fun e w' => e = .returned R ∧ Below wr.heap.size wr w') (hw : Below w0.heap.size w0 wr) {C : World → Prop} (hC : ∀ w', Below w0.heap.size w0 w' → C w') :
    Calls P f args wr fun e w' => e = .returned R ∧ C w' ∧ Below w0.heap.size w0 w' :=
  h.mono fun e w' ⟨he, hb⟩ => ⟨he, hC w' (bel_via hw hb), bel_via hw hb⟩
theorem keepc {w0 w' : World} (h : Below w0.heap.size w0 w') {p : Addr} {v : Value} (hc : w0.cell? p = some v) : w'.cell? p = some v := by
  rw [h.cell (World.block_lt_of_cell? _ _ hc)]; exact hc

end Go.Proofs.YtbfplmlapkdejaaGreatDoor
