/- The document's Next: what stays while it goes; by-name template (gen_wi2.py). -/
import Derived.Test.YtdgodndaaenafabWiNx
namespace Go.Proofs.Ytdgodndaaenafab
open Go.RowKit Go.Lib Go.Sort
set_option linter.unusedVariables false
set_option linter.unusedSimpArgs false

structure NR (w W : World) (c : CN) (x y : SD) (t : TR) : Prop where
  c3 : W.heap[w.heap.size]? = some (.cells (CA c) 35 (0, 0))
  t5 : W.heap[w.heap.size + 1]? = some (.cells (TA t) 38 (0, 0))
  r6 : W.heap[w.heap.size + 1 + 1]? = some (.cells (CA zcn) 35 (0, 0))
  x8 : W.heap[w.heap.size + 1 + 1 + 1]? = some (.cells (SA x) 33 (0, 0))
  y9 : W.heap[w.heap.size + 1 + 1 + 1 + 1]? = some (.cells (SA y) 33 (0, 0))
  bel : Below w.heap.size w W
section
variable {w W W' : World} {c c' : CN} {x x' y y' : SD} {t : TR}
theorem NR.below (h : NR w W c x y t) (b : Below W.heap.size W W') : NR w W' c x y t :=
  ⟨kb b h.c3, kb b h.t5, kb b h.r6, kb b h.x8, kb b h.y9, h.bel.trans (b.mono h.bel.size)⟩
theorem NR.setx (h : NR w W c x y t) (o : Off (w.heap.size + 1 + 1 + 1) W W') (h8 : W'.heap[w.heap.size + 1 + 1 + 1]? = some (.cells (SA x') 33 (0, 0))) : NR w W' c x' y t :=
  ⟨(o.block _ (blk_lt h.c3) (by omega)).trans h.c3, (o.block _ (blk_lt h.t5) (by omega)).trans h.t5, (o.block _ (blk_lt h.r6) (by omega)).trans h.r6, h8, (o.block _ (blk_lt h.y9) (by omega)).trans h.y9, h.bel.trans (o.toBelow (by omega) h.bel.size)⟩
theorem NR.sety (h : NR w W c x y t) (o : Off (w.heap.size + 1 + 1 + 1 + 1) W W') (h8 : W'.heap[w.heap.size + 1 + 1 + 1 + 1]? = some (.cells (SA y') 33 (0, 0))) : NR w W' c x y' t :=
  ⟨(o.block _ (blk_lt h.c3) (by omega)).trans h.c3, (o.block _ (blk_lt h.t5) (by omega)).trans h.t5, (o.block _ (blk_lt h.r6) (by omega)).trans h.r6, (o.block _ (blk_lt h.x8) (by omega)).trans h.x8, h8, h.bel.trans (o.toBelow (by omega) h.bel.size)⟩
theorem NR.setc (h : NR w W c x y t) (o : Off w.heap.size W W') (h8 : W'.heap[w.heap.size]? = some (.cells (CA c') 35 (0, 0))) : NR w W' c' x y t :=
  ⟨h8, (o.block _ (blk_lt h.t5) (by omega)).trans h.t5, (o.block _ (blk_lt h.r6) (by omega)).trans h.r6, (o.block _ (blk_lt h.x8) (by omega)).trans h.x8, (o.block _ (blk_lt h.y9) (by omega)).trans h.y9, h.bel.trans (o.toBelow (by omega) h.bel.size)⟩
theorem NR.cells (h : NR w W c x y t) : W.cell? ⟨w.heap.size, 0, none⟩ = some (.int .i64 c.st) ∧ W.cell? ⟨w.heap.size, 2, none⟩ = some (.int .u32 c.a.e) ∧ W.cell? ⟨w.heap.size + 1, 2, none⟩ = some (.int .u32 t.sq) ∧ W.cell? ⟨w.heap.size + 1, 3, none⟩ = some (.int .u32 t.ak) ∧ W.cell? ⟨w.heap.size + 1, 5, none⟩ = some (.int .i64 t.wi) ∧ W.cell? ⟨w.heap.size + 1, 9, none⟩ = some (.int .i64 t.da) ∧ W.cell? ⟨w.heap.size + 1 + 1 + 1, 0, none⟩ = some (.bool x.seen) ∧ W.cell? ⟨w.heap.size + 1 + 1 + 1, 1, none⟩ = some (.int .u32 x.e) ∧ W.cell? ⟨w.heap.size + 1 + 1 + 1, 2, none⟩ = some (.int .u32 x.m) ∧ W.cell? ⟨w.heap.size + 1 + 1 + 1, 3, none⟩ = some (.bool x.fin) ∧ W.cell? ⟨w.heap.size + 1 + 1 + 1 + 1, 0, none⟩ = some (.bool y.seen) ∧ W.cell? ⟨w.heap.size + 1 + 1 + 1 + 1, 1, none⟩ = some (.int .u32 y.e) ∧ W.cell? ⟨w.heap.size + 1 + 1 + 1 + 1, 2, none⟩ = some (.int .u32 y.m) ∧ W.cell? ⟨w.heap.size + 1 + 1 + 1 + 1, 3, none⟩ = some (.bool y.fin) ∧ W.frozen? ⟨w.heap.size, 0, none⟩ = false ∧ W.frozen? ⟨w.heap.size + 1 + 1 + 1, 1, none⟩ = false ∧ W.frozen? ⟨w.heap.size + 1 + 1 + 1, 3, none⟩ = false ∧ W.frozen? ⟨w.heap.size + 1 + 1 + 1 + 1, 2, none⟩ = false :=
  ⟨blk_cell h.c3 rfl, blk_cell h.c3 rfl, blk_cell h.t5 rfl, blk_cell h.t5 rfl, blk_cell h.t5 rfl, blk_cell h.t5 rfl, blk_cell h.x8 rfl, blk_cell h.x8 rfl, blk_cell h.x8 rfl, blk_cell h.x8 rfl, blk_cell h.y9 rfl, blk_cell h.y9 rfl, blk_cell h.y9 rfl, blk_cell h.y9 rfl, blk_free h.c3, blk_free h.x8, blk_free h.x8, blk_free h.y9⟩
end
structure NS2 (w W : World) (c : CN) (t : TR) : Prop where
  c3 : W.heap[w.heap.size]? = some (.cells (CA c) 35 (0, 0))
  t5 : W.heap[w.heap.size + 1]? = some (.cells (TA t) 38 (0, 0))
theorem NR.ns2 {w W : World} {c : CN} {x y : SD} {t : TR} (h : NR w W c x y t) : NS2 w W c t := ⟨h.c3, h.t5⟩
structure NA (w W : World) (c : CN) (x : SD) (t : TR) : Prop where
  c3 : W.heap[w.heap.size]? = some (.cells (CA c) 35 (0, 0))
  t5 : W.heap[w.heap.size + 1]? = some (.cells (TA t) 38 (0, 0))
  x8 : W.heap[w.heap.size + 1 + 1 + 1]? = some (.cells (SA x) 33 (0, 0))
theorem NR.na {w W : World} {c : CN} {x y : SD} {t : TR} (h : NR w W c x y t) : NA w W c x t := ⟨h.c3, h.t5, h.x8⟩
theorem NA.row {w W : World} {c : CN} {x : SD} {t : TR} (h : NA w W c x t) (C : Array Value) : NA w (W.setRow (w.heap.size + 1 + 1) C) c x t :=
  ⟨(setRow_other (by omega) _).trans h.c3, (setRow_other (by omega) _).trans h.t5, (setRow_other (by omega) _).trans h.x8⟩
theorem row_off (B : Nat) (w : World) (C : Array Value) : Off B w (w.setRow B C) :=
  ⟨rfl, rfl, rfl, by rw [setRow_size]; exact Nat.le_refl _, fun k _ hn => setRow_other hn C⟩
theorem rgrE (a b : Int) (w : World) : Calls Try.prog 28 #[.int .u32 a, .int .u32 b] w fun e w' => ∃ G : Int, e = .returned (.int .u32 G) ∧ Below w.heap.size w w' := (rgr_any a b w).mono fun e w' ⟨he, hw⟩ => ⟨grP a b, he, by rw [hw]; exact Below.refl _ _⟩
theorem step_load_row {P : Program} {ops : Array Oper} {op : Oper} {a : Act} {w : World} {K : Act → World → Prop} {Q : Exit → Act → World → Prop} {E : Prop} (hgd : op.guard = none) (ty : TypeId) (x : Operand) (ho : op.op = .load ty x)
    (g : Nat) (hx : a.eval x = .pointer (some ⟨g, 0, none⟩)) (t : TypeId) (cs : Array Value) (fr : Nat × Nat) (d : TypeDesc) (hg : w.heap[g]? = some (.cells cs t fr))
    (hu : P.underlying ty = some d) (hd : (match d with | .struct _ | .array _ _ => true | _ => false) = true) (hi : (P.info? ty).map (·.size) = some cs.size)
    (h : K (a.put op.dst (.agg cs)) w) : if Region.wanted op (yielded ops a.tmps) = true then Oper.wp P op a w K Q else E := by
  have hw : Region.wanted op (yielded ops a.tmps) = true := by simp [Region.wanted, hgd]
  rw [if_pos hw]
  exact wp_load_row ty x ho g hx t cs fr d hg hu hd hi h
def ROK (w : World) (ok : Bool) (e : Ending) (w' : World) : Prop := ∃ cn : CN, e = .returned (.tuple #[.agg (CA cn), .bool ok]) ∧ Below w.heap.size w w'
theorem rlessB (a b : Int) (w : World) : Calls Try.prog 27 #[.int .u32 a, .int .u32 b] w fun e w' => e = .returned (.bool (lessP a b)) ∧ Below w.heap.size w w' := (rless_any a b w).mono fun e w' ⟨he, hw⟩ => ⟨he, by rw [hw]; exact Below.refl _ _⟩
theorem rgrB (a b : Int) (w : World) : Calls Try.prog 28 #[.int .u32 a, .int .u32 b] w fun e w' => e = .returned (.int .u32 (grP a b)) ∧ Below w.heap.size w w' := (rgr_any a b w).mono fun e w' ⟨he, hw⟩ => ⟨he, by rw [hw]; exact Below.refl _ _⟩
theorem rrow_ta {W : World} {B : Nat} {t : TR} (h : W.heap[B]? = some (.cells (TA t) 38 (0, 0))) : ∀ j v, (TA t).toList[j]? = some v → W.cell? ((⟨B, 0, none⟩ : Addr).add j) = some v := blk_all h
end Go.Proofs.Ytdgodndaaenafab
