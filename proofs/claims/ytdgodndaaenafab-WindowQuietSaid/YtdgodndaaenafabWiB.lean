/- Whole structs in memory; by-name template (gen_wi.py, out of XFoB). -/
import Derived.Test.YtdgodndaaenafabRows
import Derived.Test.YtdgodndaaenafabWiP
import Derived.WalkKit
import Derived.WalkSpells
import Derived.Lib.Hide
import Derived.Below
import Derived.BigQuiet
import Derived.BigRegion
import Derived.StillTailTactics
import Derived.Outline
import Derived.Laws.Rows
import Derived.Laws.Tables
import Derived.Deep.RegionWith
import Derived.Deep.RegionHeld3
import Derived.Deep.DeepCutAuto
import Derived.Deep.QuietTactic
import Derived.Lib.QuietBelow
import Derived.LoopTactic
import Derived.RowKit3
import Derived.LaidEqlPtr
import Derived.Deep.WholeRow
import Derived.Laws.ResultCell
import Derived.Laws.NewBlocks
import Derived.Deep.MidRow
namespace Go.Proofs.Ytdgodndaaenafab
open Go.RowKit Go.Lib
set_option linter.unusedVariables false
set_option linter.unusedSimpArgs false

/-- All blocks but B are as they were. -/
structure Off (B : Nat) (w w' : World) : Prop where
  os : w'.os = w.os
  tape : w'.tape = w.tape
  output : w'.output = w.output
  size : w.heap.size ≤ w'.heap.size
  block : ∀ k, k < w.heap.size → k ≠ B → w'.heap[k]? = w.heap[k]?
theorem heap_set {w : World} {B : Nat} {cs : Array Value} {t : TypeId} {fz : Nat × Nat} (h : w.heap[B]? = some (.cells cs t fz)) (o : Nat) (v : Value) :
    (w.setCell ⟨B, o, none⟩ v).heap[B]? = some (.cells (cs.setIfInBounds o v) t fz) := by
  simp [World.setCell, Array.getElem?_modify, h]
theorem set_other {w : World} {A B : Nat} {o : Nat} {v : Value} (h : A ≠ B) : (w.setCell ⟨B, o, none⟩ v).heap[A]? = w.heap[A]? := Below.heap_setCell _ _ _ _ h
theorem set_size (w : World) (p : Addr) (v : Value) : (w.setCell p v).heap.size = w.heap.size := by simp [World.setCell]
theorem Off.refl (B : Nat) (w : World) : Off B w w := ⟨rfl, rfl, rfl, Nat.le_refl _, fun _ _ _ => rfl⟩
theorem Off.trans {B : Nat} {a b c : World} (h : Off B a b) (k : Off B b c) : Off B a c :=
  ⟨k.os.trans h.os, k.tape.trans h.tape, k.output.trans h.output, Nat.le_trans h.size k.size, fun i hi hn => (k.block i (Nat.lt_of_lt_of_le hi h.size) hn).trans (h.block i hi hn)⟩
theorem Off.drew {B : Nat} {a w : World} (h : Off B a w) : Off B a w.drew := ⟨h.os, h.tape, h.output, h.size, h.block⟩
theorem Off.set {B : Nat} {a w : World} (h : Off B a w) (o : Nat) (u : Value) : Off B a (w.setCell ⟨B, o, none⟩ u) :=
  h.trans ⟨rfl, rfl, rfl, by rw [set_size]; exact Nat.le_refl _, fun k _ hn => set_other hn⟩
theorem Off.toBelow {A B : Nat} {w w' : World} (h : Off B w w') (hA : A ≤ B) (hB : A ≤ w.heap.size) : Below A w w' :=
  ⟨h.os, h.tape, h.output, h.size, fun k hk => h.block k (by omega) (by omega)⟩
theorem Off.below {B : Nat} {a w w' : World} (h : Off B a w) (b : Below w.heap.size w w') : Off B a w' :=
  h.trans ⟨b.os, b.tape, b.output, b.size, fun k hk _ => b.block k hk⟩
theorem Off.of {B : Nat} {w w' : World} (b : Below w.heap.size w w') : Off B w w' := (Off.refl B w).below b
theorem Below.al {N : Nat} {w w' : World} (h : Below N w w') (hN : N ≤ w'.heap.size) (o : Obj) : Below N w (w'.alloc o) := h.alloc hN o
theorem bel_al (w : World) (o : Obj) : Below w.heap.size w (w.alloc o) := (Below.refl _ _).alloc (Nat.le_refl _) o
theorem bel_dr {N : Nat} {w w' : World} (h : Below N w w') : Below N w w'.drew := ⟨h.os, h.tape, h.output, h.size, h.block⟩
theorem keepc {w w' : World} (b : Below w.heap.size w w') {p : Addr} {v : Value} (h : w.cell? p = some v) : w'.cell? p = some v := by
  have := World.block_lt_of_cell? _ _ h
  unfold World.cell? at h ⊢
  rw [b.block _ this]; exact h
theorem ret_bool {a b : Bool} (h : a = b) : Ending.returned (.bool a) = .returned (.bool b) := by rw [h]
theorem ret_int {k : IntKind} {a b : Int} (h : a = b) : Ending.returned (.int k a) = .returned (.int k b) := by rw [h]
/-- a block's cells, one by one. -/
theorem blk_cell {w : World} {B o : Nat} {cs : Array Value} {t : TypeId} {v : Value} (h : w.heap[B]? = some (.cells cs t (0, 0))) (hv : cs[o]? = some v) : w.cell? ⟨B, o, none⟩ = some v := by
  simp [World.cell?, h, hv]
theorem blk_free {w : World} {B o : Nat} {cs : Array Value} {t : TypeId} (h : w.heap[B]? = some (.cells cs t (0, 0))) : w.frozen? ⟨B, o, none⟩ = false := by
  simp [World.frozen?, h]
theorem blk_lt {w : World} {B : Nat} {o : Obj} (h : w.heap[B]? = some o) : B < w.heap.size := (Array.getElem?_eq_some_iff.1 h).1
theorem blk_al {w : World} {B : Nat} {o o' : Obj} (h : w.heap[B]? = some o) : (w.alloc o').heap[B]? = some o := by rw [Below.heap_alloc _ _ _ (blk_lt h)]; exact h
theorem blk_new (w : World) (o : Obj) : (w.alloc o).heap[w.heap.size]? = some o := heap_alloc_new w _
theorem blk_new2 (w : World) (o : Obj) {n : Nat} (h : n = w.heap.size) : (w.alloc o).heap[n]? = some o := by subst h; exact blk_new w o
theorem bel_blk {N B : Nat} {w w' : World} {o : Obj} (b : Below N w w') (h : w.heap[B]? = some o) (hB : B < N) : w'.heap[B]? = some o := by rw [b.block B hB]; exact h
theorem kb {B : Nat} {w w' : World} {o : Obj} (b : Below w.heap.size w w') (h : w.heap[B]? = some o) : w'.heap[B]? = some o := bel_blk b h (blk_lt h)
theorem blk_all {w : World} {B : Nat} {T : TypeId} {cs : Array Value} (h : w.heap[B]? = some (.cells cs T (0, 0))) : ∀ j v, cs.toList[j]? = some v → w.cell? ((⟨B, 0, none⟩ : Addr).add j) = some v := by
  intro j v hj
  have : (⟨B, 0, none⟩ : Addr).add j = ⟨B, j, none⟩ := by unfold Addr.add; split <;> simp_all
  rw [this]
  exact blk_cell h (by simpa using hj)
theorem blk_setRow {w : World} {b : Nat} {cs : Array Value} {t : TypeId} (h : w.heap[b]? = some (.cells cs t (0, 0))) (C : Array Value) : (w.setRow b C).heap[b]? = some (.cells C t (0, 0)) := by
  unfold World.setRow
  simp [Array.getElem?_modify, h]
theorem Below.setRow {N : Nat} {w w1 : World} (h : Below N w w1) {B : Nat} (hB : N ≤ B) (C : Array Value) : Below N w (w1.setRow B C) :=
  ⟨h.os, h.tape, h.output, by simpa [World.setRow] using h.size, fun k hk => by
    have : B ≠ k := by omega
    simp only [World.setRow, Array.getElem?_modify]
    rw [if_neg this]; exact h.block k hk⟩
theorem setRow_size (w : World) (B : Nat) (C : Array Value) : (w.setRow B C).heap.size = w.heap.size := by simp [World.setRow]
theorem below_set {N : Nat} {w w1 : World} (h : Below N w w1) {B : Nat} (hB : N ≤ B) (o : Nat) (v : Value) : Below N w (w1.setCell ⟨B, o, none⟩ v) :=
  ⟨h.os, h.tape, h.output, by rw [set_size]; exact h.size, fun k hk => by rw [set_other (by omega)]; exact h.block k hk⟩
theorem addr_add (b o j : Nat) : (⟨b, o, none⟩ : Addr).add j = ⟨b, o + j, none⟩ := by unfold Addr.add; split <;> simp_all

/-! ### loads and stores of a whole one -/
theorem run_loadVar_cells {P : Program} (w : World) (ad : Addr) (ty : TypeId) (cs : Array Value) (d : TypeDesc) (hg : ∀ j v, cs.toList[j]? = some v → w.cell? (ad.add j) = some v)
    (hu : P.underlying ty = some d) (hd : (match d with | .struct _ | .array _ _ => true | _ => false) = true) (hi : (P.info? ty).map (·.size) = some cs.size) :
    (loadVar ty ad).run P w = .ok (.agg cs) w := by
  have hl : (loadCells ad cs.toList.length).run P w = .ok cs.toList.toArray w := run_loadCells_list (P := P) w ad cs.toList hg
  cases hq : P.info? ty with
  | none => simp [hq] at hi
  | some i =>
    have hs : i.size = cs.size := by simpa [hq] using hi
    have hagg : (isAgg ty).run P w = .ok true w := by
      unfold isAgg
      rw [Sem.run_bind, run_underlying hu w]
      cases d <;> simp_all
    simp only [Array.length_toList, Array.toArray_toList] at hl
    simp [loadVar, Sem.run_bind, hagg, sizeOf, typeInfo, hq, hs, hl]
theorem exec_cells {P : Program} {o : Oper} {a : Act} {W : World} (ty : TypeId) (x : Operand) (ho : o.op = .load ty x) (ad : Addr) (hx : a.eval x = .pointer (some ad)) (cs : Array Value) (d : TypeDesc) (hg : ∀ j v, cs.toList[j]? = some v → W.cell? (ad.add j) = some v)
    (hu : P.underlying ty = some d) (hd : (match d with | .struct _ | .array _ _ => true | _ => false) = true) (hi : (P.info? ty).map (·.size) = some cs.size) : (execOp a.eval o).run P W = .ok (.value (.agg cs)) W := by
  unfold execOp
  simp only [ho, hx, Instr.loadAt, Instr.sureAddr, Sem.run_bind, Sem.run_pure, Result.andThen_ok, run_loadVar_cells W ad ty cs d hg hu hd hi]
theorem wpList_load_cells {P : Program} {ops : Array Oper} {rest : List Oper} {o : Oper} {a : Act} {w : World} {Q : Exit → Act → World → Prop} (hgd : o.guard = none) (ty : TypeId) (x : Operand) (ho : o.op = .load ty x)
    (ad : Addr) (hx : a.eval x = .pointer (some ad)) (cs : Array Value) (d : TypeDesc) (hg : ∀ j v, cs.toList[j]? = some v → w.cell? (ad.add j) = some v)
    (hu : P.underlying ty = some d) (hd : (match d with | .struct _ | .array _ _ => true | _ => false) = true) (hi : (P.info? ty).map (·.size) = some cs.size)
    (h : wpList P ops Q rest (a.put o.dst (.agg cs)) w) : wpList P ops Q (o :: rest) a w :=
  wpList_plain hgd fun _ hK => by
    unfold Oper.wp
    rw [exec_cells ty x ho ad hx cs d hg hu hd hi]
    simp [go_sem]
    exact hK _ _ h
theorem wpList_load_cells_on {P : Program} {ops : Array Oper} {rest : List Oper} {o : Oper} {a : Act} {w : World} {Q : Exit → Act → World → Prop} (hgd : Region.wanted o (yielded ops a.tmps) = true) (ty : TypeId) (x : Operand) (ho : o.op = .load ty x)
    (ad : Addr) (hx : a.eval x = .pointer (some ad)) (cs : Array Value) (d : TypeDesc) (hg : ∀ j v, cs.toList[j]? = some v → w.cell? (ad.add j) = some v)
    (hu : P.underlying ty = some d) (hd : (match d with | .struct _ | .array _ _ => true | _ => false) = true) (hi : (P.info? ty).map (·.size) = some cs.size)
    (h : wpList P ops Q rest (a.put o.dst (.agg cs)) w) : wpList P ops Q (o :: rest) a w :=
  wpList_step fun K hK => by
    rw [if_pos hgd]
    unfold Oper.wp
    rw [exec_cells ty x ho ad hx cs d hg hu hd hi]
    simp [go_sem]
    exact hK _ _ h
theorem quiet_load_cells {P : Program} {ops : Array Oper} {C : World → Prop} {Q : Act → Prop} {a : Act} {o : Oper} {rest : List Oper} (hw : Region.wanted o (yielded ops a.tmps) = true) (ty : TypeId) (x : Operand) (ho : o.op = .load ty x)
    (ad : Addr) (hx : a.eval x = .pointer (some ad)) (cs : Array Value) (d : TypeDesc) (hg : ∀ w, C w → ∀ j v, cs.toList[j]? = some v → w.cell? (ad.add j) = some v)
    (hu : P.underlying ty = some d) (hd : (match d with | .struct _ | .array _ _ => true | _ => false) = true) (hi : (P.info? ty).map (·.size) = some cs.size)
    (h : wpQuiet P ops C Q rest (a.put o.dst (.agg cs))) : wpQuiet P ops C Q (o :: rest) a :=
  wpQuiet_step fun K hK => by
    rw [if_pos hw]
    refine ⟨.agg cs, fun w hC => ?_, hK _ h⟩
    unfold Oper.quietAt execOp
    simp only [ho, hx, Instr.loadAt, Instr.sureAddr, Sem.run_bind, Sem.run_pure, Result.andThen_ok, run_loadVar_cells w ad ty cs d (hg w hC) hu hd hi]
    exact ⟨rfl, rfl⟩
theorem stop_op {P : Program} {w : World} {ops : Array Oper} {rest : List Oper} {o : Oper} {a : Act} {Q : Exit → Act → World → Prop} (h : Hid (wpList P ops Q (o :: rest) a w)) : wpList P ops Q (o :: rest) a w := h.out
/-- Results that are a row and words. -/
theorem res_row {fn : Func} {p u : Tmp} {ty : TypeId} (h : fn.results = #[.cell p ty, .tmp u]) (tmps : Array Value) (W : World) (g : Nat) (t : TypeId) (cs : Array Value) (fs) (hp : tmps.getD p undef = .pointer (some ⟨g, 0, none⟩)) (hg : W.heap[g]? = some (.cells cs t (0, 0)))
    (hu : Try.prog.underlying ty = some (.struct fs)) (hi : (Try.prog.info? ty).map (·.size) = some cs.size) :
    (results fn tmps).run Try.prog W = .ok (.tuple #[.agg cs, tmps.getD u undef]) W := by
  rw [results_cell_tmp h, hp]
  have e : (asAddr (.pointer (some ⟨g, 0, none⟩))).run Try.prog W = .ok ⟨g, 0, none⟩ W := rfl
  rw [e]
  simp only [Result.andThen]
  rw [run_loadVar_row W g t ty cs (0, 0) (.struct fs) hg hu rfl hi]
theorem res_rowT {fn : Func} {p u v : Tmp} {ty : TypeId} (h : fn.results = #[.cell p ty, .tmp u, .tmp v]) (tmps : Array Value) (W : World) (g : Nat) (t : TypeId) (cs : Array Value) (fs) (hp : tmps.getD p undef = .pointer (some ⟨g, 0, none⟩)) (hg : W.heap[g]? = some (.cells cs t (0, 0)))
    (hu : Try.prog.underlying ty = some (.struct fs)) (hi : (Try.prog.info? ty).map (·.size) = some cs.size) :
    (results fn tmps).run Try.prog W = .ok (.tuple #[.agg cs, tmps.getD u undef, tmps.getD v undef]) W := by
  have hp' : tmps[p]?.getD undef = .pointer (some ⟨g, 0, none⟩) := by simpa using hp
  simp [results, h, hp', asAddr, run_loadVar_row W g t ty cs (0, 0) (.struct fs) hg hu rfl hi]


/-! ### what comes in -/
def TA (t : TR) : Array Value := #[.int .i64 t.sp, .int .i64 t.dp, .int .u32 t.sq, .int .u32 t.ak, .int .i64 t.fl, .int .i64 t.wi, .int .i64 t.ty, .int .i64 t.co, .int .i64 t.he, .int .i64 t.da]
def SG (t : TR) (en : Int) : Array Value := #[.int .i64 t.sp, .int .i64 t.dp, .int .u32 t.sq, .int .u32 t.ak, .int .i64 t.fl, .int .i64 t.wi, .int .i64 t.ty, .int .i64 t.co, .int .i64 t.he, .int .i64 t.da, .int .u32 en]
def SA (s : SD) : Array Value := #[.bool s.seen, .int .u32 s.e, .int .u32 s.m, .bool s.fin]
def CA (c : CN) : Array Value := #[.int .i64 c.st, .bool c.a.seen, .int .u32 c.a.e, .int .u32 c.a.m, .bool c.a.fin, .bool c.b.seen, .int .u32 c.b.e, .int .u32 c.b.m, .bool c.b.fin]
theorem ta_one (t : TR) : (TA t).all (·.oneCell') = true := by unfold TA; simp [Value.oneCell']
theorem sg_one (t : TR) (en : Int) : (SG t en).all (·.oneCell') = true := by unfold SG; simp [Value.oneCell']
theorem sa_one (s : SD) : (SA s).all (·.oneCell') = true := by unfold SA; simp [Value.oneCell']
theorem ca_one (c : CN) : (CA c).all (·.oneCell') = true := by unfold CA; simp [Value.oneCell']
theorem ta_inf (t : TR) : (Try.prog.info? 24).map (·.size) = some (TA t).size := by rw [show (TA t).size = 10 from rfl]; kernel_rfl
theorem rta_inf (t : TR) : (Try.prog.info? 38).map (·.size) = some (TA t).size := by rw [show (TA t).size = 10 from rfl]; kernel_rfl
theorem rsa_inf (s : SD) : (Try.prog.info? 33).map (·.size) = some (SA s).size := by rw [show (SA s).size = 4 from rfl]; kernel_rfl
theorem rca_inf (c : CN) : (Try.prog.info? 35).map (·.size) = some (CA c).size := by rw [show (CA c).size = 9 from rfl]; kernel_rfl
theorem sg_inf (t : TR) (en : Int) : (Try.prog.info? 51).map (·.size) = some (SG t en).size := by rw [show (SG t en).size = 11 from rfl]; kernel_rfl
theorem sa_inf (s : SD) : (Try.prog.info? 27).map (·.size) = some (SA s).size := by rw [show (SA s).size = 4 from rfl]; kernel_rfl
theorem ca_inf (c : CN) : (Try.prog.info? 29).map (·.size) = some (CA c).size := by rw [show (CA c).size = 9 from rfl]; kernel_rfl
theorem sg_cells {w : World} {B : Nat} {t : TR} {en : Int} {T : TypeId} (h : w.heap[B]? = some (.cells (SG t en) T (0, 0))) :
    w.cell? ⟨B, 0, none⟩ = some (.int .i64 t.sp) ∧ w.cell? ⟨B, 1, none⟩ = some (.int .i64 t.dp) ∧ w.cell? ⟨B, 2, none⟩ = some (.int .u32 t.sq) ∧ w.cell? ⟨B, 3, none⟩ = some (.int .u32 t.ak) ∧
    w.cell? ⟨B, 4, none⟩ = some (.int .i64 t.fl) ∧ w.cell? ⟨B, 5, none⟩ = some (.int .i64 t.wi) ∧ w.cell? ⟨B, 6, none⟩ = some (.int .i64 t.ty) ∧ w.cell? ⟨B, 7, none⟩ = some (.int .i64 t.co) ∧
    w.cell? ⟨B, 8, none⟩ = some (.int .i64 t.he) ∧ w.cell? ⟨B, 9, none⟩ = some (.int .i64 t.da) ∧ w.cell? ⟨B, 10, none⟩ = some (.int .u32 en) :=
  ⟨blk_cell h rfl, blk_cell h rfl, blk_cell h rfl, blk_cell h rfl, blk_cell h rfl, blk_cell h rfl, blk_cell h rfl, blk_cell h rfl, blk_cell h rfl, blk_cell h rfl, blk_cell h rfl⟩
theorem ca_cells {w : World} {B : Nat} {c : CN} {T : TypeId} (h : w.heap[B]? = some (.cells (CA c) T (0, 0))) :
    w.cell? ⟨B, 0, none⟩ = some (.int .i64 c.st) ∧ w.cell? ⟨B, 1, none⟩ = some (.bool c.a.seen) ∧ w.cell? ⟨B, 2, none⟩ = some (.int .u32 c.a.e) ∧ w.cell? ⟨B, 3, none⟩ = some (.int .u32 c.a.m) ∧ w.cell? ⟨B, 4, none⟩ = some (.bool c.a.fin) ∧
    w.cell? ⟨B, 5, none⟩ = some (.bool c.b.seen) ∧ w.cell? ⟨B, 6, none⟩ = some (.int .u32 c.b.e) ∧ w.cell? ⟨B, 7, none⟩ = some (.int .u32 c.b.m) ∧ w.cell? ⟨B, 8, none⟩ = some (.bool c.b.fin) :=
  ⟨blk_cell h rfl, blk_cell h rfl, blk_cell h rfl, blk_cell h rfl, blk_cell h rfl, blk_cell h rfl, blk_cell h rfl, blk_cell h rfl, blk_cell h rfl⟩
end Go.Proofs.Ytdgodndaaenafab
