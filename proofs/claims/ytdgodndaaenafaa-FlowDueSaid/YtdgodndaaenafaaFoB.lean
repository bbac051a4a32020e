/- Whole structs in memory: their loads and stores; by-name template. -/
import Derived.Test.YtdgodndaaenafaaFoM
import Derived.Test.YtdgodndaaenafaaWhSl
import Derived.Deep.WholeRow
import Derived.Laws.ResultCell
import Derived.Laws.NewBlocks
import Derived.Deep.MidRow
namespace Go.Proofs.Ytdgodndaaenafaa
open Go.RowKit Go.Lib Go.Maps
set_option linter.unusedVariables false
set_option linter.unusedSimpArgs false

theorem Below.al {w w' : World} (h : Below w.heap.size w w') (o : Obj) : Below w.heap.size w (w'.alloc o) := h.alloc h.size o
theorem al_new {w : World} {k : Nat} (h : k = w.heap.size) (o : Obj) : (w.alloc o).heap[k]? = some o := by
  subst h; exact heap_alloc_new w o
theorem al_old {w : World} {k : Nat} (h : k < w.heap.size) (o : Obj) : (w.alloc o).heap[k]? = w.heap[k]? := heap_alloc_old w o h
theorem blk_al {w : World} {g : Nat} {o : Obj} (h : w.heap[g]? = some o) (p : Obj) : (w.alloc p).heap[g]? = some o := by rw [al_old (blk_lt h)]; exact h
theorem blk_setRow {w : World} {b : Nat} {cs : Array Value} {t : TypeId} (h : w.heap[b]? = some (.cells cs t (0, 0))) (C : Array Value) : (w.setRow b C).heap[b]? = some (.cells C t (0, 0)) := by
  unfold World.setRow
  simp [Array.getElem?_modify, h]
theorem Below.setRow {N : Nat} {w w1 : World} (h : Below N w w1) {B : Nat} (hB : N ≤ B) (C : Array Value) : Below N w (w1.setRow B C) :=
  ⟨h.os, h.tape, h.output, by simpa [World.setRow] using h.size, fun k hk => by
    have : B ≠ k := by omega
    simp only [World.setRow, Array.getElem?_modify]
    rw [if_neg this]; exact h.block k hk⟩
theorem setRow_size (w : World) (B : Nat) (C : Array Value) : (w.setRow B C).heap.size = w.heap.size := by simp [World.setRow]
theorem below_set {N : Nat} {w w1 : World} (h : Below N w w1) {B : Nat} (hB : N ≤ B) (o : Nat) (v : Value) : Below N w (w1.setCell ⟨B, o, none⟩ v) :=
  ⟨h.os, h.tape, h.output, by rw [set_size]; exact h.size, fun k hk => by rw [set_other (by omega)]; exact h.block k hk⟩
theorem addr_add (b o j : Nat) : (⟨b, o, none⟩ : Addr).add j = ⟨b, o + j, none⟩ := by unfold Addr.add; split <;> simp_all

/-! ### loads and stores of a whole one -/
theorem run_loadVar_cells {P : Program} (w : World) (ad : Addr) (ty : TypeId) (cs : Array Value) (d : TypeDesc) (hg : ∀ j v, cs.toList[j]? = some v → w.cell? (ad.add j) = some v)
    (hu : P.underlying ty = some d) (hd : (match d with | .struct _ | .array _ _ => true | _ => false) = true) (hi : (P.info? ty).map (·.size) = some cs.size) :
    (loadVar ty ad).run P w = .ok (.agg cs) w := by
  have hl : (loadCells ad cs.toList.length).run P w = .ok cs.toList.toArray w := run_loadCells_list (P := P) w ad cs.toList hg
  cases hq : P.info? ty with
  | none => simp [hq] at hi
  | some i =>
    have hs : i.size = cs.size := by simpa [hq] using hi
    have hagg : (isAgg ty).run P w = .ok true w := by
      unfold isAgg
      rw [Sem.run_bind, run_underlying hu w]
      cases d <;> simp_all
    simp only [Array.length_toList, Array.toArray_toList] at hl
    simp [loadVar, Sem.run_bind, hagg, sizeOf, typeInfo, hq, hs, hl]
theorem exec_cells {P : Program} {o : Oper} {a : Act} {W : World} (ty : TypeId) (x : Operand) (ho : o.op = .load ty x) (ad : Addr) (hx : a.eval x = .pointer (some ad)) (cs : Array Value) (d : TypeDesc) (hg : ∀ j v, cs.toList[j]? = some v → W.cell? (ad.add j) = some v)
    (hu : P.underlying ty = some d) (hd : (match d with | .struct _ | .array _ _ => true | _ => false) = true) (hi : (P.info? ty).map (·.size) = some cs.size) : (execOp a.eval o).run P W = .ok (.value (.agg cs)) W := by
  unfold execOp
  simp only [ho, hx, Instr.loadAt, Instr.sureAddr, Sem.run_bind, Sem.run_pure, Result.andThen_ok, run_loadVar_cells W ad ty cs d hg hu hd hi]
theorem wpList_load_cells {P : Program} {ops : Array Oper} {rest : List Oper} {o : Oper} {a : Act} {w : World} {Q : Exit → Act → World → Prop} (hgd : o.guard = none) (ty : TypeId) (x : Operand) (ho : o.op = .load ty x)
    (ad : Addr) (hx : a.eval x = .pointer (some ad)) (cs : Array Value) (d : TypeDesc) (hg : ∀ j v, cs.toList[j]? = some v → w.cell? (ad.add j) = some v)
    (hu : P.underlying ty = some d) (hd : (match d with | .struct _ | .array _ _ => true | _ => false) = true) (hi : (P.info? ty).map (·.size) = some cs.size)
    (h : wpList P ops Q rest (a.put o.dst (.agg cs)) w) : wpList P ops Q (o :: rest) a w :=
  wpList_plain hgd fun _ hK => by
    unfold Oper.wp
    rw [exec_cells ty x ho ad hx cs d hg hu hd hi]
    simp [go_sem]
    exact hK _ _ h
theorem wpList_load_cells_on {P : Program} {ops : Array Oper} {rest : List Oper} {o : Oper} {a : Act} {w : World} {Q : Exit → Act → World → Prop} (hgd : Region.wanted o (yielded ops a.tmps) = true) (ty : TypeId) (x : Operand) (ho : o.op = .load ty x)
    (ad : Addr) (hx : a.eval x = .pointer (some ad)) (cs : Array Value) (d : TypeDesc) (hg : ∀ j v, cs.toList[j]? = some v → w.cell? (ad.add j) = some v)
    (hu : P.underlying ty = some d) (hd : (match d with | .struct _ | .array _ _ => true | _ => false) = true) (hi : (P.info? ty).map (·.size) = some cs.size)
    (h : wpList P ops Q rest (a.put o.dst (.agg cs)) w) : wpList P ops Q (o :: rest) a w :=
  wpList_step fun K hK => by
    rw [if_pos hgd]
    unfold Oper.wp
    rw [exec_cells ty x ho ad hx cs d hg hu hd hi]
    simp [go_sem]
    exact hK _ _ h
theorem quiet_load_cells {P : Program} {ops : Array Oper} {C : World → Prop} {Q : Act → Prop} {a : Act} {o : Oper} {rest : List Oper} (hw : Region.wanted o (yielded ops a.tmps) = true) (ty : TypeId) (x : Operand) (ho : o.op = .load ty x)
    (ad : Addr) (hx : a.eval x = .pointer (some ad)) (cs : Array Value) (d : TypeDesc) (hg : ∀ w, C w → ∀ j v, cs.toList[j]? = some v → w.cell? (ad.add j) = some v)
    (hu : P.underlying ty = some d) (hd : (match d with | .struct _ | .array _ _ => true | _ => false) = true) (hi : (P.info? ty).map (·.size) = some cs.size)
    (h : wpQuiet P ops C Q rest (a.put o.dst (.agg cs))) : wpQuiet P ops C Q (o :: rest) a :=
  wpQuiet_step fun K hK => by
    rw [if_pos hw]
    refine ⟨.agg cs, fun w hC => ?_, hK _ h⟩
    unfold Oper.quietAt execOp
    simp only [ho, hx, Instr.loadAt, Instr.sureAddr, Sem.run_bind, Sem.run_pure, Result.andThen_ok, run_loadVar_cells w ad ty cs d (hg w hC) hu hd hi]
    exact ⟨rfl, rfl⟩
theorem stop_op {P : Program} {w : World} {ops : Array Oper} {rest : List Oper} {o : Oper} {a : Act} {Q : Exit → Act → World → Prop} (h : Hid (wpList P ops Q (o :: rest) a w)) : wpList P ops Q (o :: rest) a w := h.out
/-- Results that are a row and words. -/
theorem res_row {fn : Func} {p u : Tmp} {ty : TypeId} (h : fn.results = #[.cell p ty, .tmp u]) (tmps : Array Value) (W : World) (g : Nat) (t : TypeId) (cs : Array Value) (fs) (hp : tmps.getD p undef = .pointer (some ⟨g, 0, none⟩)) (hg : W.heap[g]? = some (.cells cs t (0, 0)))
    (hu : Try.prog.underlying ty = some (.struct fs)) (hi : (Try.prog.info? ty).map (·.size) = some cs.size) :
    (results fn tmps).run Try.prog W = .ok (.tuple #[.agg cs, tmps.getD u undef]) W := by
  rw [results_cell_tmp h, hp]
  have e : (asAddr (.pointer (some ⟨g, 0, none⟩))).run Try.prog W = .ok ⟨g, 0, none⟩ W := rfl
  rw [e]
  simp only [Result.andThen]
  rw [run_loadVar_row W g t ty cs (0, 0) (.struct fs) hg hu rfl hi]
theorem res_rowT {fn : Func} {p u v : Tmp} {ty : TypeId} (h : fn.results = #[.cell p ty, .tmp u, .tmp v]) (tmps : Array Value) (W : World) (g : Nat) (t : TypeId) (cs : Array Value) (fs) (hp : tmps.getD p undef = .pointer (some ⟨g, 0, none⟩)) (hg : W.heap[g]? = some (.cells cs t (0, 0)))
    (hu : Try.prog.underlying ty = some (.struct fs)) (hi : (Try.prog.info? ty).map (·.size) = some cs.size) :
    (results fn tmps).run Try.prog W = .ok (.tuple #[.agg cs, tmps.getD u undef, tmps.getD v undef]) W := by
  have hp' : tmps[p]?.getD undef = .pointer (some ⟨g, 0, none⟩) := by simpa using hp
  simp [results, h, hp', asAddr, run_loadVar_row W g t ty cs (0, 0) (.struct fs) hg hu rfl hi]

/-! ### a flow's cells -/
theorem f_inf (f : Fl) : (Try.prog.info? 38).map (·.size) = some (FA f).size := by rw [show (FA f).size = 20 from rfl]; kernel_rfl
theorem k_inf (k : Ky) : (Try.prog.info? 36).map (·.size) = some (KA k).size := by rw [show (KA k).size = 7 from rfl]; kernel_rfl
theorem f_one (f : Fl) : (FA f).all (·.oneCell') = true := by unfold FA fcells; simp [Value.oneCell']
theorem k_one (k : Ky) : (KA k).all (·.oneCell') = true := by unfold KA kcells; simp [Value.oneCell']
section
variable {w : World} {B : Nat} {f : Fl} {T : TypeId}
theorem fa_id (h : w.heap[B]? = some (.cells (FA f) T (0, 0))) : w.cell? ⟨B, 0, none⟩ = some (.int .i64 f.id) := cell_of_row _ B 0 _ _ _ h
theorem fa_ii (h : w.heap[B]? = some (.cells (FA f) T (0, 0))) : w.cell? ⟨B, 15, none⟩ = some (.int .i64 f.ii) := cell_of_row _ B 15 _ _ _ h
theorem fa_oo (h : w.heap[B]? = some (.cells (FA f) T (0, 0))) : w.cell? ⟨B, 16, none⟩ = some (.int .i64 f.oo) := cell_of_row _ B 16 _ _ _ h
theorem fa_ru (h : w.heap[B]? = some (.cells (FA f) T (0, 0))) : w.cell? ⟨B, 17, none⟩ = some (.int .i64 f.ru) := cell_of_row _ B 17 _ _ _ h
theorem fa_st (h : w.heap[B]? = some (.cells (FA f) T (0, 0))) : w.cell? ⟨B, 18, none⟩ = some (.int .i64 f.st) := cell_of_row _ B 18 _ _ _ h
theorem fa_en (h : w.heap[B]? = some (.cells (FA f) T (0, 0))) : w.cell? ⟨B, 19, none⟩ = some (.int .i64 f.en) := cell_of_row _ B 19 _ _ _ h
theorem fa_op (h : w.heap[B]? = some (.cells (FA f) T (0, 0))) : ∀ j v, (KA f.op).toList[j]? = some v → w.cell? ((⟨B, 1, none⟩ : Addr).add j) = some v := by
  intro j v hj
  rw [addr_add, cell_of_row w B (1 + j) _ _ _ h]
  match j, hj with
  | 0, hj => exact hj
  | 1, hj => exact hj
  | 2, hj => exact hj
  | 3, hj => exact hj
  | 4, hj => exact hj
  | 5, hj => exact hj
  | 6, hj => exact hj
  | j + 7, hj => simp [KA, kcells] at hj
theorem fa_bk (h : w.heap[B]? = some (.cells (FA f) T (0, 0))) : ∀ j v, (KA f.bk).toList[j]? = some v → w.cell? ((⟨B, 8, none⟩ : Addr).add j) = some v := by
  intro j v hj
  rw [addr_add, cell_of_row w B (8 + j) _ _ _ h]
  match j, hj with
  | 0, hj => exact hj
  | 1, hj => exact hj
  | 2, hj => exact hj
  | 3, hj => exact hj
  | 4, hj => exact hj
  | 5, hj => exact hj
  | 6, hj => exact hj
  | j + 7, hj => simp [KA, kcells] at hj
theorem fa_all {cs : Array Value} (h : w.heap[B]? = some (.cells cs T (0, 0))) : ∀ j v, cs.toList[j]? = some v → w.cell? ((⟨B, 0, none⟩ : Addr).add j) = some v := by
  intro j v hj
  rw [addr_add, cell_of_row w B (0 + j) _ _ _ h, Nat.zero_add]
  simpa using hj
theorem fa_setid (h : w.heap[B]? = some (.cells (FA f) T (0, 0))) (n : Int) : (w.setCell ⟨B, 0, none⟩ (.int .i64 n)).heap[B]? = some (.cells (FA { f with id := n }) T (0, 0)) := heap_set h 0 _
theorem fa_setse (h : w.heap[B]? = some (.cells (FA f) T (0, 0))) (s e : Int) : ((w.setCell ⟨B, 18, none⟩ (.int .i64 s)).setCell ⟨B, 19, none⟩ (.int .i64 e)).heap[B]? = some (.cells (FA { f with st := s, en := e }) T (0, 0)) := heap_set (heap_set h 18 _) 19 _
end

/-! ### the table in memory -/
structure TRaw (w : World) (T Tw : Nat → Prop) (TB Bw Mo Mk : Nat) (go : Int → Option Fl) (co : Nat) (gk : Ky → Option Int) (ck : Nat) (W : List K2) : Prop where
  tb : w.heap[TB]? = some (.cells #[.pointer (some ⟨Bw, 0, none⟩), .map (some Mo), .map (some Mk)] 68 (0, 0))
  mo : MapO w Mo go co
  mK : MapK w Mk gk ck
  wh : WAt w Tw Bw W
  tT : T TB
  tO : T Mo
  tK : T Mk
  tW : ∀ k, Tw k → T k
  nT : ¬ Tw TB
  nO : ¬ Tw Mo
  nK : ¬ Tw Mk
  ne : Mo ≠ Mk
  lt : ∀ k, T k → k < w.heap.size
def TW (w : World) (T : Nat → Prop) (TB : Nat) (L : List Fl) (W : List K2) : Prop :=
  ∃ Bw Mo Mk Tw, TRaw w T Tw TB Bw Mo Mk (goF L) L.length (gkF L) (2 * L.length) W
def TAt (w : World) (T : Nat → Prop) (TB : Nat) (L : List Fl) : Prop := GoodF L ∧ ∃ W, W.Perm (L.map Fl.me) ∧ TW w T TB L W
def FPost (w : World) (T : Nat → Prop) (TB : Nat) (L' : List Fl) (w' : World) : Prop :=
  ∃ T', TAt w' T' TB L' ∧ OffS T w w' ∧ ∀ k, T' k → T k ∨ w.heap.size ≤ k

section
variable {w w' : World} {T Tw : Nat → Prop} {TB Bw Mo Mk co ck : Nat} {go : Int → Option Fl} {gk : Ky → Option Int} {W : List K2} {L : List Fl}
theorem TRaw.keep (h : TRaw w T Tw TB Bw Mo Mk go co gk ck W) (hs : w.heap.size ≤ w'.heap.size) (hw : ∀ k, T k → w'.heap[k]? = w.heap[k]?) (ho : OffS (fun k => ¬ T k) w w') : TRaw w' T Tw TB Bw Mo Mk go co gk ck W where
  tb := (hw _ h.tT).trans h.tb
  mo := h.mo.keep (hw _ h.tO)
  mK := h.mK.keep (hw _ h.tK)
  wh := h.wh.off ho (fun k hk hn => hn (h.tW k hk))
  tT := h.tT
  tO := h.tO
  tK := h.tK
  tW := h.tW
  nT := h.nT
  nO := h.nO
  nK := h.nK
  ne := h.ne
  lt k hk := Nat.lt_of_lt_of_le (h.lt k hk) hs
theorem TRaw.below (h : TRaw w T Tw TB Bw Mo Mk go co gk ck W) (hb : Below w.heap.size w w') : TRaw w' T Tw TB Bw Mo Mk go co gk ck W :=
  h.keep hb.size (fun k hk => hb.block k (h.lt k hk)) (offS_below hb)
theorem TRaw.off {S : Nat → Prop} (h : TRaw w T Tw TB Bw Mo Mk go co gk ck W) (ho : OffS S w w') (hd : ∀ k, T k → ¬ S k) : TRaw w' T Tw TB Bw Mo Mk go co gk ck W :=
  h.keep ho.size (fun k hk => ho.block k (h.lt k hk) (hd k hk)) (ho.mono fun k _ hS hT => hd k hT hS)
theorem TW.below (h : TW w T TB L W) (hb : Below w.heap.size w w') : TW w' T TB L W := by
  obtain ⟨Bw, Mo, Mk, Tw, h⟩ := h
  exact ⟨Bw, Mo, Mk, Tw, h.below hb⟩
theorem TW.off {S : Nat → Prop} (h : TW w T TB L W) (ho : OffS S w w') (hd : ∀ k, T k → ¬ S k) : TW w' T TB L W := by
  obtain ⟨Bw, Mo, Mk, Tw, h⟩ := h
  exact ⟨Bw, Mo, Mk, Tw, h.off ho hd⟩
theorem TW.lt (h : TW w T TB L W) : ∀ k, T k → k < w.heap.size := by
  obtain ⟨Bw, Mo, Mk, Tw, h⟩ := h
  exact h.lt
theorem TAt.below (h : TAt w T TB L) (hb : Below w.heap.size w w') : TAt w' T TB L := by
  obtain ⟨g, W, hp, h⟩ := h
  exact ⟨g, W, hp, h.below hb⟩
theorem TAt.off {S : Nat → Prop} (h : TAt w T TB L) (ho : OffS S w w') (hd : ∀ k, T k → ¬ S k) : TAt w' T TB L := by
  obtain ⟨g, W, hp, h⟩ := h
  exact ⟨g, W, hp, h.off ho hd⟩
theorem TAt.lt (h : TAt w T TB L) : ∀ k, T k → k < w.heap.size := by
  obtain ⟨g, W, hp, h⟩ := h
  exact h.lt
theorem TAt.good (h : TAt w T TB L) : GoodF L := h.1
theorem TRaw.c0 (h : TRaw w T Tw TB Bw Mo Mk go co gk ck W) : w.cell? ⟨TB, 0, none⟩ = some (.pointer (some ⟨Bw, 0, none⟩)) := cell_of_row _ TB 0 _ _ _ h.tb
theorem TRaw.c1 (h : TRaw w T Tw TB Bw Mo Mk go co gk ck W) : w.cell? ⟨TB, 1, none⟩ = some (.map (some Mo)) := cell_of_row _ TB 1 _ _ _ h.tb
theorem TRaw.c2 (h : TRaw w T Tw TB Bw Mo Mk go co gk ck W) : w.cell? ⟨TB, 2, none⟩ = some (.map (some Mk)) := cell_of_row _ TB 2 _ _ _ h.tb
theorem FPost.same (h : TAt w T TB L) (hb : Below w.heap.size w w') : FPost w T TB L w' := ⟨T, h.below hb, offS_below hb, fun k hk => .inl hk⟩
end
end Go.Proofs.Ytdgodndaaenafaa
