/- Next: what stays while it goes; by-name template (gen_wi2.py). -/
import Derived.Test.YtdgodndaaenafabWiS
import Derived.Test.YtdgodndaaenafabWiO
import Derived.Test.YtdgodndaaenafabWiRd
import Derived.Lib.QuietBelow
namespace Go.Proofs.Ytdgodndaaenafab
open Go.RowKit Go.Lib Go.Sort
set_option linter.unusedVariables false
set_option linter.unusedSimpArgs false

theorem blkB {w w' : World} (b : Below w.heap.size w w') {B : Nat} {o : Obj} (h : w.heap[B]? = some o) : w'.heap[B]? = some o := kb b h
theorem quiet_load_row {P : Program} {ops : Array Oper} {C : World → Prop} {Q : Act → Prop} {a : Act} {o : Oper} {rest : List Oper} (hw : Region.wanted o (yielded ops a.tmps) = true) (ty : TypeId) (x : Operand) (ho : o.op = .load ty x)
    (g : Nat) (hx : a.eval x = .pointer (some ⟨g, 0, none⟩)) (t : TypeId) (cs : Array Value) (fr : Nat × Nat) (d : TypeDesc) (hg : ∀ w, C w → w.heap[g]? = some (.cells cs t fr))
    (hu : P.underlying ty = some d) (hd : (match d with | .struct _ | .array _ _ => true | _ => false) = true) (hi : (P.info? ty).map (·.size) = some cs.size)
    (h : wpQuiet P ops C Q rest (a.put o.dst (.agg cs))) : wpQuiet P ops C Q (o :: rest) a :=
  wpQuiet_step fun K hK => by
    rw [if_pos hw]
    refine ⟨.agg cs, fun w hC => ?_, hK _ h⟩
    unfold Oper.quietAt execOp
    simp only [ho, hx, Instr.loadAt, Instr.sureAddr, Sem.run_bind, Sem.run_pure, Result.andThen_ok, run_loadVar_row w g t ty cs fr d (hg w hC) hu hd hi]
    exact ⟨rfl, rfl⟩
theorem stop_quiet {P : Program} {ops : Array Oper} {C : World → Prop} {Q : Act → Prop} {a : Act} {o : Oper} {rest : List Oper} (h : wpQuiet P ops C Q (o :: rest) a) : wpQuiet P ops C Q (o :: rest) a := h
theorem rg_heap {w1 : World} {g : Nat} {o : Obj} (h : w1.heap[g]? = some o) : ∀ w', (∃ p : Regrown, w' = grow (redrawn w1 p.d) p.os) → w'.heap[g]? = some o := fun w' ⟨p, hp⟩ => by
  rw [hp]; exact blkB (below_regrown w1 p.d p.os) h
theorem step_alloc {P : Program} {ops : Array Oper} {op : Oper} {a : Act} {w : World} {K : Act → World → Prop} {Q : Exit → Act → World → Prop} {E : Prop} (hgd : op.guard = none) (ty : TypeId) (ho : op.op = .alloc ty)
    (Z : Array Value) (hz : ∀ w, (zeroValue ty).run P w = .ok (.agg Z) w)
    (h : ∀ (w' : World) (g : Nat), w'.heap[g]? = some (.cells Z ty (0, 0)) → Below w.heap.size w w' → w.heap.size ≤ g → K (a.put op.dst (.pointer (some ⟨g, 0, none⟩))) w') : if Region.wanted op (yielded ops a.tmps) = true then Oper.wp P op a w K Q else E := by
  have hw : Region.wanted op (yielded ops a.tmps) = true := by simp [Region.wanted, hgd]
  rw [if_pos hw]
  have h2 := h _ _ (heap_alloc_new w (.cells Z ty)) ((Below.refl _ _).alloc (Nat.le_refl _) _) (Nat.le_refl _)
  unfold Oper.wp
  simp [go_sem, execOp, ho, hz]
  exact h2
theorem step_store_row {P : Program} {ops : Array Oper} {op : Oper} {a : Act} {w : World} {K : Act → World → Prop} {Q : Exit → Act → World → Prop} {E : Prop} (hgd : op.guard = none) (ty : TypeId) (x y : Operand) (ho : op.op = .store ty x y)
    (g : Nat) (cells : Array Value) (hx : a.eval x = .pointer (some ⟨g, 0, none⟩)) (hy : a.eval y = .agg cells)
    (t : TypeId) (old : Array Value) (hg : w.heap[g]? = some (.cells old t (0, 0))) (hi : (P.info? ty).map (·.size) = some cells.size)
    (hold : old.size = cells.size) (h1 : cells.all (·.oneCell') = true)
    (h : K (a.put op.dst undef) (w.setRow g cells)) : if Region.wanted op (yielded ops a.tmps) = true then Oper.wp P op a w K Q else E := by
  have hw : Region.wanted op (yielded ops a.tmps) = true := by simp [Region.wanted, hgd]
  rw [if_pos hw]
  exact wp_store_row ty x y ho g cells hx hy t old hg hi hold h1 h
theorem yields_rowK {P : Program} {ops : Array Oper} {S : World → Prop} {o : Oper} {a : Act} (hw : Region.wanted o (yielded ops a.tmps) = true) (ty : TypeId) (x : Operand) (ho : o.op = .load ty x) (g : Nat) (hx : a.eval x = .pointer (some ⟨g, 0, none⟩)) (cs : Array Value) (t : TypeId) (d : TypeDesc)
    (hS : ∀ w, S w → w.heap[g]? = some (.cells cs t (0, 0))) (hu : P.underlying ty = some d) (hd : (match d with | .struct _ | .array _ _ => true | _ => false) = true) (hi : (P.info? ty).map (·.size) = some cs.size) : YieldsIf P ops S o (.agg cs) a :=
  .inl ⟨hw, fun w hs => by
    unfold execOp
    simp only [ho, hx, Instr.loadAt, Instr.sureAddr, Sem.run_bind, Sem.run_pure, Result.andThen_ok, run_loadVar_row w g t ty cs (0, 0) d (hS w hs) hu hd hi]⟩
theorem setRow_other {w : World} {B b : Nat} (h : b ≠ B) (C : Array Value) : (w.setRow B C).heap[b]? = w.heap[b]? := by
  unfold World.setRow
  rw [Array.getElem?_modify, if_neg (Ne.symm h)]

/-- ahead of the first region: three blocks. -/
structure N0 (w wk : World) (c : CN) (t : TR) : Prop where
  c3 : wk.heap[w.heap.size]? = some (.cells (CA c) 29 (0, 0))
  t5 : wk.heap[w.heap.size + 1]? = some (.cells (TA t) 24 (0, 0))
  r6 : wk.heap[w.heap.size + 1 + 1]? = some (.cells (CA zcn) 29 (0, 0))
  bel : Below w.heap.size w wk
  sz : w.heap.size + 3 ≤ wk.heap.size
structure NX (w wk : World) (c n : CN) (t : TR) (P8 P9 : Nat) : Prop where
  c3 : wk.heap[w.heap.size]? = some (.cells (CA c) 29 (0, 0))
  r6 : wk.heap[w.heap.size + 1 + 1]? = some (.cells (CA zcn) 29 (0, 0))
  n8 : wk.heap[P8]? = some (.cells (CA n) 29 (0, 0))
  s9 : wk.heap[P9]? = some (.cells (SG t (endP t)) 51 (0, 0))
  bel : Below w.heap.size w wk
  l8 : w.heap.size + 3 ≤ P8
  l9 : w.heap.size + 3 ≤ P9
  ne : P8 ≠ P9
section
variable {w wk wk' : World} {c n n' : CN} {t : TR} {P8 P9 : Nat}
theorem N0.below (h : N0 w wk c t) (b : Below wk.heap.size wk wk') : N0 w wk' c t :=
  ⟨kb b h.c3, kb b h.t5, kb b h.r6, h.bel.trans (b.mono h.bel.size), Nat.le_trans h.sz b.size⟩
theorem N0.row (h : N0 w wk c t) {B : Nat} (hB : w.heap.size + 3 ≤ B) (C : Array Value) : N0 w (wk.setRow B C) c t :=
  ⟨(setRow_other (by omega) _).trans h.c3, (setRow_other (by omega) _).trans h.t5, (setRow_other (by omega) _).trans h.r6, Below.setRow h.bel (by omega) _, by rw [setRow_size]; exact h.sz⟩
theorem NX.below (h : NX w wk c n t P8 P9) (b : Below wk.heap.size wk wk') : NX w wk' c n t P8 P9 :=
  ⟨kb b h.c3, kb b h.r6, kb b h.n8, kb b h.s9, h.bel.trans (b.mono h.bel.size), h.l8, h.l9, h.ne⟩
theorem NX.off (h : NX w wk c n t P8 P9) (o : Off P8 wk wk') (h8 : wk'.heap[P8]? = some (.cells (CA n') 29 (0, 0))) : NX w wk' c n' t P8 P9 :=
  have l8 := h.l8
  have l9 := h.l9
  ⟨(o.block _ (blk_lt h.c3) (by omega)).trans h.c3, (o.block _ (blk_lt h.r6) (by omega)).trans h.r6, h8, (o.block _ (blk_lt h.s9) (Ne.symm h.ne)).trans h.s9, h.bel.trans (o.toBelow (by omega) h.bel.size), h.l8, h.l9, h.ne⟩
end
theorem nextP_f (c : CN) (t : TR) : nextP c false t = (⟨(stepP c.st c.a c.b false t).1, (stepP c.st c.a c.b false t).2.1, (stepP c.st c.a c.b false t).2.2.1⟩, (stepP c.st c.a c.b false t).2.2.2) := rfl
theorem nextP_b (c : CN) (t : TR) : nextP c true t = (⟨(stepP c.st c.b c.a true t).1, (stepP c.st c.b c.a true t).2.2.1, (stepP c.st c.b c.a true t).2.1⟩, (stepP c.st c.b c.a true t).2.2.2) := rfl
section
variable {st : Int} {x y : SD} {back : Bool} {t : TR}
theorem st_out (h : (decide (st < 1) || decide (5 ≤ st) || strayP t y) = true) : stepP st x y back t = (st, x, y, false) := by unfold stepP; rw [if_pos h]
theorem st_again (h0 : (decide (st < 1) || decide (5 ≤ st) || strayP t y) = false) (h2 : hb t 2 = true) (hx : x.seen = true) : stepP st x y back t = (st, x, y, bareP t && endP t == x.e && decide (st ≤ 2)) := by
  unfold stepP; rw [if_neg (by rw [h0]; simp), if_pos (by rw [h2, hx]; rfl)]
theorem st_synNo (h0 : (decide (st < 1) || decide (5 ≤ st) || strayP t y) = false) (h2 : hb t 2 = true) (hx : x.seen = false) (h : (bareP t && back && st == 1 && acksP t y.e) = false) : stepP st x y back t = (st, x, y, false) := by
  unfold stepP; rw [if_neg (by rw [h0]; simp), if_neg (by rw [hx]; simp), if_pos h2, if_neg (by rw [h]; simp)]
theorem st_syn (h0 : (decide (st < 1) || decide (5 ≤ st) || strayP t y) = false) (h2 : hb t 2 = true) (hx : x.seen = false) (h : (bareP t && back && st == 1 && acksP t y.e) = true) : stepP st x y back t = (2, firstP t, allowP y t, true) := by
  unfold stepP; rw [if_neg (by rw [h0]; simp), if_neg (by rw [hx]; simp), if_pos h2, if_pos h]
theorem st_refNo (h0 : (decide (st < 1) || decide (5 ≤ st) || strayP t y) = false) (h2 : hb t 2 = false) (hx : x.seen = false) (h : (hb t 4 && acksP t y.e) = false) : stepP st x y back t = (st, x, y, false) := by
  unfold stepP; rw [if_neg (by rw [h0]; simp), if_neg (by rw [h2]; simp), if_neg (by rw [h2]; simp), if_pos (by rw [hx]; rfl), if_neg (by rw [h]; simp)]
theorem st_ref (h0 : (decide (st < 1) || decide (5 ≤ st) || strayP t y) = false) (h2 : hb t 2 = false) (hx : x.seen = false) (h : (hb t 4 && acksP t y.e) = true) : stepP st x y back t = (5, x, y, true) := by
  unfold stepP; rw [if_neg (by rw [h0]; simp), if_neg (by rw [h2]; simp), if_neg (by rw [h2]; simp), if_pos (by rw [hx]; rfl), if_pos h]
theorem st_far (h0 : (decide (st < 1) || decide (5 ≤ st) || strayP t y) = false) (h2 : hb t 2 = false) (hx : x.seen = true) (h : (lessP x.m (endP t) || lessP t.sq ((x.e - 65536) % 4294967296)) = true) : stepP st x y back t = (st, x, y, false) := by
  unfold stepP; rw [if_neg (by rw [h0]; simp), if_neg (by rw [h2]; simp), if_neg (by rw [h2]; simp), if_neg (by rw [hx]; simp), if_pos h]
theorem st_in (h0 : (decide (st < 1) || decide (5 ≤ st) || strayP t y) = false) (h2 : hb t 2 = false) (hx : x.seen = true) (h : (lessP x.m (endP t) || lessP t.sq ((x.e - 65536) % 4294967296)) = false) :
    stepP st x y back t = (stateP st (sentP x t).fin (allowP y t).fin (!back) t, sentP x t, allowP y t, true) := by
  unfold stepP; rw [if_neg (by rw [h0]; simp), if_neg (by rw [h2]; simp), if_neg (by rw [h2]; simp), if_neg (by rw [hx]; simp), if_neg (by rw [h]; simp)]
end
theorem stateP_comm (st : Int) (x y ofA : Bool) (t : TR) : stateP st x y ofA t = stateP st y x ofA t := by unfold stateP; rw [Bool.or_comm]
theorem lessB (a b : Int) (w : World) : Calls Try.prog 23 #[.int .u32 a, .int .u32 b] w fun e w' => e = .returned (.bool (lessP a b)) ∧ Below w.heap.size w w' := (less_any a b w).mono fun e w' ⟨he, hw⟩ => ⟨he, by rw [hw]; exact Below.refl _ _⟩
/-- what region 11 reads. -/
structure NS (w W1 : World) (c : CN) (t : TR) (P8 P9 : Nat) : Prop where
  c3 : W1.heap[w.heap.size]? = some (.cells (CA c) 29 (0, 0))
  n8 : W1.heap[P8]? = some (.cells (CA c) 29 (0, 0))
  s9 : W1.heap[P9]? = some (.cells (SG t (endP t)) 51 (0, 0))
theorem NX.ns {w W1 : World} {c : CN} {t : TR} {P8 P9 : Nat} (h : NX w W1 c c t P8 P9) : NS w W1 c t P8 P9 := ⟨h.c3, h.n8, h.s9⟩
def RET (w : World) (c : CN) (b : Bool) (e : Ending) (w' : World) : Prop := e = .returned (.tuple #[.agg (CA c), .bool b]) ∧ Below w.heap.size w w'
end Go.Proofs.Ytdgodndaaenafab
