/- Nat in plain words, and what keys are in memory; by-name template (gen_na.py). -/
import Derived.Test.YtokbmahnjmmcaaaRNum
import Derived.Maps.RangeWalk
import Derived.Maps.Ext
import Derived.DeepKeys5
import Derived.Lib.Hide
import Derived.BigRegion
import Derived.Laws.StructEq
import Derived.Deep.WholeRow
import Derived.Laws.ResultCell
import Derived.Laws.NewBlocks
import Derived.Deep.MidRow
import Derived.Laws.OwnMore
import Derived.Laws.AppendOwn
import Derived.Lib.QuietBelow
import Derived.LoopTactic
namespace Go.Proofs.Ytokbmahnjmmcaaa
open Go.RowKit Go.Lib Go.Maps
set_option linter.unusedVariables false
set_option linter.unusedSimpArgs false

structure KR where
  proto : Int
  sh : Int
  sl : Int
  dh : Int
  dl : Int
  sp : Int
  dp : Int
  deriving DecidableEq, Inhabited
def krc (k : KR) : List Value := [.int .i64 k.proto, .int .u64 k.sh, .int .u64 k.sl, .int .u64 k.dh, .int .u64 k.dl, .int .i64 k.sp, .int .i64 k.dp]
def KA (k : KR) : Array Value := (krc k).toArray
def i64ok (n : Int) : Prop := -9223372036854775808 ≤ n ∧ n ≤ 9223372036854775807
def u64ok (n : Int) : Prop := 0 ≤ n ∧ n < 18446744073709551616
def KyOk (k : KR) : Prop := i64ok k.proto ∧ u64ok k.sh ∧ u64ok k.sl ∧ u64ok k.dh ∧ u64ok k.dl ∧ i64ok k.sp ∧ i64ok k.dp
/-! ### plain -/
def turnK (k : KR) : KR := ⟨k.proto, k.dh, k.dl, k.sh, k.sl, k.dp, k.sp⟩
def badP (f t i : Int) : Prop := f < 0 ∨ 65535 < f ∨ t < f ∨ 65535 < t ∨ i < 0 ∨ t - f < i
def portP (f t w i : Int) : Int × Bool :=
  if f < 0 ∨ 65535 < f ∨ t < f ∨ 65535 < t ∨ i < 0 ∨ t - f < i then (0, false)
  else if i ≤ t - (if w < f ∨ t < w then f else w) then ((if w < f ∨ t < w then f else w) + i, true) else (f + i - (t - (if w < f ∨ t < w then f else w) + 1), true)
def icmpB (p : Int) : Bool := p == 1 || p == 58
def portedB (p : Int) : Bool := p == 6 || (p == 17 || icmpB p)
def freeB (b o : KR) (tk : List KR) : Bool := !(tk.contains b) && !(b == o)
def tryK (o : KR) (p : Int) : KR := if icmpB o.proto then { o with sp := p, dp := p } else { o with sp := p }
/-- how many ports there are. -/
def cnt (f t : Int) : Nat := if f < 0 ∨ 65535 < f ∨ t < f ∨ 65535 < t then 0 else (t - f + 1).toNat
def scanK (o op : KR) (tk : List KR) (f t : Int) : Nat → Nat → Option KR
  | 0, _ => none
  | n + 1, i => if freeB (turnK (tryK o (portP f t op.sp i).1)) op tk then some (tryK o (portP f t op.sp i).1) else scanK o op tk f t n (i + 1)
theorem try_try (o : KR) (p q : Int) : tryK (tryK o p) q = tryK o q := by
  unfold tryK
  split <;> simp_all
theorem try_proto (o : KR) (p : Int) : (tryK o p).proto = o.proto := by unfold tryK; split <;> rfl
theorem port_ok (f t w : Int) (i : Nat) : (portP f t w i).2 = decide (i < cnt f t) := by
  unfold portP cnt
  by_cases h : f < 0 ∨ 65535 < f ∨ t < f ∨ 65535 < t
  · rw [if_pos h, if_pos (by omega)]; rfl
  · rw [if_neg h]
    by_cases h2 : i < (t - f + 1).toNat
    · rw [if_neg (by omega)]
      simp only [h2, decide_true]
      generalize (if w < f ∨ t < w then f else w) = z
      split <;> rfl
    · rw [if_pos (by omega)]
      simp only [h2, decide_false]
theorem cnt_le (f t : Int) : cnt f t ≤ 65536 := by unfold cnt; split <;> omega
theorem turn_turn (k : KR) : turnK (turnK k) = k := rfl
theorem scan_free : ∀ (n i : Nat) {o op : KR} {tk : List KR} {f t : Int} {r : KR}, scanK o op tk f t n i = some r → freeB (turnK r) op tk = true ∧ ∃ p, r = tryK o p
  | 0, _, _, _, _, _, _, _, h => by cases h
  | n + 1, i, o, op, tk, f, t, r, h => by
    unfold scanK at h
    split at h
    · rename_i hf
      cases h
      exact ⟨hf, _, rfl⟩
    · exact scan_free n (i + 1) h
theorem free_dec (b o : KR) (tk : List KR) : freeB b o tk = true ↔ b ∉ tk ∧ b ≠ o := by
  unfold freeB
  simp
/-! ### memory -/
theorem al_old {w : World} {k : Nat} (h : k < w.heap.size) (o : Obj) : (w.alloc o).heap[k]? = w.heap[k]? := heap_alloc_old w o h
theorem al_new {w : World} {k : Nat} (h : k = w.heap.size) (o : Obj) : (w.alloc o).heap[k]? = some o := by
  subst h; exact heap_alloc_new w o
theorem below_set {N B : Nat} {w w1 : World} (h : Below N w w1) (hB : N ≤ B) (o : Nat) (v : Value) : Below N w (w1.setCell ⟨B, o, none⟩ v) :=
  ⟨h.os, h.tape, h.output, by simpa [World.setCell] using h.size, fun k hk => by
    have : B ≠ k := by omega
    simp only [World.setCell, Array.getElem?_modify]
    rw [if_neg this]; exact h.block k hk⟩
theorem bel_al (w : World) (o : Obj) : Below w.heap.size w (w.alloc o) := Below.al (Below.refl _ _) o
/-- All blocks but B are as they were. -/
structure Off (B : Nat) (w w' : World) : Prop where
  os : w'.os = w.os
  tape : w'.tape = w.tape
  output : w'.output = w.output
  size : w.heap.size ≤ w'.heap.size
  block : ∀ k, k < w.heap.size → k ≠ B → w'.heap[k]? = w.heap[k]?

theorem Off.refl (B : Nat) (w : World) : Off B w w := ⟨rfl, rfl, rfl, Nat.le_refl _, fun _ _ _ => rfl⟩

theorem Off.trans {B : Nat} {a b c : World} (h : Off B a b) (k : Off B b c) : Off B a c :=
  ⟨k.os.trans h.os, k.tape.trans h.tape, k.output.trans h.output, Nat.le_trans h.size k.size, fun i hi hn => (k.block i (Nat.lt_of_lt_of_le hi h.size) hn).trans (h.block i hi hn)⟩

theorem Off.drew {B : Nat} {a w : World} (h : Off B a w) : Off B a w.drew := ⟨h.os, h.tape, h.output, h.size, h.block⟩

theorem Off.setCell {B : Nat} {a w : World} (h : Off B a w) {p : Addr} (hp : p.block = B) (u : Value) : Off B a (w.setCell p u) :=
  h.trans ⟨rfl, rfl, rfl, by simp [World.setCell], fun k _ hn => Below.heap_setCell _ _ _ _ (by omega)⟩

theorem Off.set {B : Nat} {a w : World} (h : Off B a w) (o : Nat) (u : Value) : Off B a (w.setCell ⟨B, o, none⟩ u) := h.setCell rfl u

theorem Off.toBelow {A B : Nat} {w w' : World} (h : Off B w w') (hA : A ≤ B) (hB : A ≤ w.heap.size) : Below A w w' :=
  ⟨h.os, h.tape, h.output, h.size, fun k hk => h.block k (by omega) (by omega)⟩

theorem heap_set {w : World} {B : Nat} {cs : Array Value} {t : TypeId} {fz : Nat × Nat} (h : w.heap[B]? = some (.cells cs t fz)) (o : Nat) (v : Value) :
    (w.setCell ⟨B, o, none⟩ v).heap[B]? = some (.cells (cs.setIfInBounds o v) t fz) := by
  simp [World.setCell, Array.getElem?_modify, h]

theorem ret_bool {a b : Bool} (h : a = b) : Ending.returned (.bool a) = .returned (.bool b) := by rw [h]

theorem ret_int {a b : Int} (h : a = b) : Ending.returned (.int .i64 a) = .returned (.int .i64 b) := by rw [h]

/-- All blocks that are not of S are as they were. -/
structure OffS (S : Nat → Prop) (w w' : World) : Prop where
  os : w'.os = w.os
  tape : w'.tape = w.tape
  output : w'.output = w.output
  size : w.heap.size ≤ w'.heap.size
  block : ∀ k, k < w.heap.size → ¬ S k → w'.heap[k]? = w.heap[k]?

theorem OffS.refl (S : Nat → Prop) (w : World) : OffS S w w := ⟨rfl, rfl, rfl, Nat.le_refl _, fun _ _ _ => rfl⟩

theorem OffS.trans {S : Nat → Prop} {a b c : World} (h : OffS S a b) (k : OffS S b c) : OffS S a c :=
  ⟨k.os.trans h.os, k.tape.trans h.tape, k.output.trans h.output, Nat.le_trans h.size k.size, fun i hi hn => (k.block i (Nat.lt_of_lt_of_le hi h.size) hn).trans (h.block i hi hn)⟩

theorem Off.toS {S : Nat → Prop} {B : Nat} {w w' : World} (h : Off B w w') (hB : S B ∨ w.heap.size ≤ B) : OffS S w w' :=
  ⟨h.os, h.tape, h.output, h.size, fun k hk hn => h.block k hk (fun e => by subst e; rcases hB with hB | hB; exact hn hB; omega)⟩

theorem offS_below {S : Nat → Prop} {w w' : World} (h : Below w.heap.size w w') : OffS S w w' := ⟨h.os, h.tape, h.output, h.size, fun k hk _ => h.block k hk⟩

theorem OffS.toBelow {S : Nat → Prop} {A : Nat} {w w' : World} (h : OffS S w w') (hA : ∀ k, S k → A ≤ k) (hB : A ≤ w.heap.size) : Below A w w' :=
  ⟨h.os, h.tape, h.output, h.size, fun k hk => h.block k (by omega) (fun e => by have := hA k e; omega)⟩

theorem OffS.mono {S S' : Nat → Prop} {w w' : World} (h : OffS S w w') (hS : ∀ k, k < w.heap.size → S k → S' k) : OffS S' w w' :=
  ⟨h.os, h.tape, h.output, h.size, fun k hk hn => h.block k hk (fun e => hn (hS k hk e))⟩

/-- what is behind the first world's end need not be named. -/
theorem OffS.andThen {S S' : Nat → Prop} {a b c : World} (h : OffS S a b) (k : OffS S' b c) (hS : ∀ i, i < a.heap.size → S' i → S i) : OffS S a c :=
  ⟨k.os.trans h.os, k.tape.trans h.tape, k.output.trans h.output, Nat.le_trans h.size k.size, fun i hi hn => (k.block i (Nat.lt_of_lt_of_le hi h.size) (fun e => hn (hS i hi e))).trans (h.block i hi hn)⟩

theorem ne_cells {w : World} {a b : Nat} {cs cs' : Array Value} {T T' : TypeId} (h : w.heap[a]? = some (.cells cs T (0, 0))) (h' : w.heap[b]? = some (.cells cs' T' (0, 0))) (hT : T ≠ T') : a ≠ b := by
  intro e
  rw [e, h'] at h
  simp only [Option.some.injEq, Obj.cells.injEq] at h
  exact hT h.2.1.symm

theorem free_of {w : World} {B : Nat} {cs : Array Value} {T : TypeId} (h : w.heap[B]? = some (.cells cs T (0, 0))) (o : Nat) : w.frozen? ⟨B, o, none⟩ = false := by simp [World.frozen?, h]

theorem bel_dn {N : Nat} {w w' : World} (h : Below N w w') (n : Nat) : Below N w (w'.drewN n) := ⟨h.os, h.tape, h.output, h.size, h.block⟩

theorem bel_dr {N : Nat} {w w' : World} (h : Below N w w') : Below N w w'.drew := ⟨h.os, h.tape, h.output, h.size, h.block⟩

theorem grown_off {w w' : World} {k : Nat} (h : w.grownBy w' (some k)) : OffS (fun j => j = k) w w' := ⟨h.os, h.tape, h.output, h.size, fun j hj hn => h.block j hj (fun e => hn (Option.some.inj e))⟩

theorem OffS.dn {S : Nat → Prop} {w w' : World} (h : OffS S w w') (n : Nat) : OffS S w (w'.drewN n) := ⟨h.os, h.tape, h.output, h.size, h.block⟩

theorem OffS.dr {S : Nat → Prop} {w w' : World} (h : OffS S w w') : OffS S w w'.drew := ⟨h.os, h.tape, h.output, h.size, h.block⟩

theorem set_other {w : World} {B b : Nat} (h : b ≠ B) (o : Nat) (v : Value) : (w.setCell ⟨B, o, none⟩ v).heap[b]? = w.heap[b]? := by
  simp only [World.setCell, Array.getElem?_modify]
  rw [if_neg (fun e => h e.symm)]

theorem set_size (w : World) (p : Addr) (v : Value) : (w.setCell p v).heap.size = w.heap.size := by simp [World.setCell]

theorem al_size (w : World) (o : Obj) : (w.alloc o).heap.size = w.heap.size + 1 := by show (w.heap.push o).size = _; simp

theorem blk_lt {w : World} {g : Nat} {o : Obj} (h : w.heap[g]? = some o) : g < w.heap.size := (Array.getElem?_eq_some_iff.1 h).1
/-- a block's cells, one by one. -/
theorem blk_cell {w : World} {B o : Nat} {cs : Array Value} {t : TypeId} {v : Value} (h : w.heap[B]? = some (.cells cs t (0, 0))) (hv : cs[o]? = some v) : w.cell? ⟨B, o, none⟩ = some v := by
  simp [World.cell?, h, hv]

theorem blk_all {w : World} {B : Nat} {T : TypeId} {cs : Array Value} (h : w.heap[B]? = some (.cells cs T (0, 0))) : ∀ j v, cs.toList[j]? = some v → w.cell? ((⟨B, 0, none⟩ : Addr).add j) = some v := by
  intro j v hj
  have : (⟨B, 0, none⟩ : Addr).add j = ⟨B, j, none⟩ := by unfold Addr.add; split <;> simp_all
  rw [this]
  exact blk_cell h (by simpa using hj)

theorem blk_setRow {w : World} {b : Nat} {cs : Array Value} {t : TypeId} (h : w.heap[b]? = some (.cells cs t (0, 0))) (C : Array Value) : (w.setRow b C).heap[b]? = some (.cells C t (0, 0)) := by
  unfold World.setRow
  simp [Array.getElem?_modify, h]

theorem Below.setRow {N : Nat} {w w1 : World} (h : Below N w w1) {B : Nat} (hB : N ≤ B) (C : Array Value) : Below N w (w1.setRow B C) :=
  ⟨h.os, h.tape, h.output, by simpa [World.setRow] using h.size, fun k hk => by
    have : B ≠ k := by omega
    simp only [World.setRow, Array.getElem?_modify]
    rw [if_neg this]; exact h.block k hk⟩

theorem setRow_size (w : World) (B : Nat) (C : Array Value) : (w.setRow B C).heap.size = w.heap.size := by simp [World.setRow]

theorem addr_add (b o j : Nat) : (⟨b, o, none⟩ : Addr).add j = ⟨b, o + j, none⟩ := by unfold Addr.add; split <;> simp_all

/-! ### loads and stores of a whole one -/

theorem run_loadVar_cells {P : Program} (w : World) (ad : Addr) (ty : TypeId) (cs : Array Value) (d : TypeDesc) (hg : ∀ j v, cs.toList[j]? = some v → w.cell? (ad.add j) = some v)
    (hu : P.underlying ty = some d) (hd : (match d with | .struct _ | .array _ _ => true | _ => false) = true) (hi : (P.info? ty).map (·.size) = some cs.size) :
    (loadVar ty ad).run P w = .ok (.agg cs) w := by
  have hl : (loadCells ad cs.toList.length).run P w = .ok cs.toList.toArray w := run_loadCells_list (P := P) w ad cs.toList hg
  cases hq : P.info? ty with
  | none => simp [hq] at hi
  | some i =>
    have hs : i.size = cs.size := by simpa [hq] using hi
    have hagg : (isAgg ty).run P w = .ok true w := by
      unfold isAgg
      rw [Sem.run_bind, run_underlying hu w]
      cases d <;> simp_all
    simp only [Array.length_toList, Array.toArray_toList] at hl
    simp [loadVar, Sem.run_bind, hagg, sizeOf, typeInfo, hq, hs, hl]

theorem exec_cells {P : Program} {o : Oper} {a : Act} {W : World} (ty : TypeId) (x : Operand) (ho : o.op = .load ty x) (ad : Addr) (hx : a.eval x = .pointer (some ad)) (cs : Array Value) (d : TypeDesc) (hg : ∀ j v, cs.toList[j]? = some v → W.cell? (ad.add j) = some v)
    (hu : P.underlying ty = some d) (hd : (match d with | .struct _ | .array _ _ => true | _ => false) = true) (hi : (P.info? ty).map (·.size) = some cs.size) : (execOp a.eval o).run P W = .ok (.value (.agg cs)) W := by
  unfold execOp
  simp only [ho, hx, Instr.loadAt, Instr.sureAddr, Sem.run_bind, Sem.run_pure, Result.andThen_ok, run_loadVar_cells W ad ty cs d hg hu hd hi]

theorem wpList_load_cells {P : Program} {ops : Array Oper} {rest : List Oper} {o : Oper} {a : Act} {w : World} {Q : Exit → Act → World → Prop} (hgd : o.guard = none) (ty : TypeId) (x : Operand) (ho : o.op = .load ty x)
    (ad : Addr) (hx : a.eval x = .pointer (some ad)) (cs : Array Value) (d : TypeDesc) (hg : ∀ j v, cs.toList[j]? = some v → w.cell? (ad.add j) = some v)
    (hu : P.underlying ty = some d) (hd : (match d with | .struct _ | .array _ _ => true | _ => false) = true) (hi : (P.info? ty).map (·.size) = some cs.size)
    (h : wpList P ops Q rest (a.put o.dst (.agg cs)) w) : wpList P ops Q (o :: rest) a w :=
  wpList_plain hgd fun _ hK => by
    unfold Oper.wp
    rw [exec_cells ty x ho ad hx cs d hg hu hd hi]
    simp [go_sem]
    exact hK _ _ h

theorem wpList_load_cells_on {P : Program} {ops : Array Oper} {rest : List Oper} {o : Oper} {a : Act} {w : World} {Q : Exit → Act → World → Prop} (hgd : Region.wanted o (yielded ops a.tmps) = true) (ty : TypeId) (x : Operand) (ho : o.op = .load ty x)
    (ad : Addr) (hx : a.eval x = .pointer (some ad)) (cs : Array Value) (d : TypeDesc) (hg : ∀ j v, cs.toList[j]? = some v → w.cell? (ad.add j) = some v)
    (hu : P.underlying ty = some d) (hd : (match d with | .struct _ | .array _ _ => true | _ => false) = true) (hi : (P.info? ty).map (·.size) = some cs.size)
    (h : wpList P ops Q rest (a.put o.dst (.agg cs)) w) : wpList P ops Q (o :: rest) a w :=
  wpList_step fun K hK => by
    rw [if_pos hgd]
    unfold Oper.wp
    rw [exec_cells ty x ho ad hx cs d hg hu hd hi]
    simp [go_sem]
    exact hK _ _ h

theorem quiet_load_cells {P : Program} {ops : Array Oper} {C : World → Prop} {Q : Act → Prop} {a : Act} {o : Oper} {rest : List Oper} (hw : Region.wanted o (yielded ops a.tmps) = true) (ty : TypeId) (x : Operand) (ho : o.op = .load ty x)
    (ad : Addr) (hx : a.eval x = .pointer (some ad)) (cs : Array Value) (d : TypeDesc) (hg : ∀ w, C w → ∀ j v, cs.toList[j]? = some v → w.cell? (ad.add j) = some v)
    (hu : P.underlying ty = some d) (hd : (match d with | .struct _ | .array _ _ => true | _ => false) = true) (hi : (P.info? ty).map (·.size) = some cs.size)
    (h : wpQuiet P ops C Q rest (a.put o.dst (.agg cs))) : wpQuiet P ops C Q (o :: rest) a :=
  wpQuiet_step fun K hK => by
    rw [if_pos hw]
    refine ⟨.agg cs, fun w hC => ?_, hK _ h⟩
    unfold Oper.quietAt execOp
    simp only [ho, hx, Instr.loadAt, Instr.sureAddr, Sem.run_bind, Sem.run_pure, Result.andThen_ok, run_loadVar_cells w ad ty cs d (hg w hC) hu hd hi]
    exact ⟨rfl, rfl⟩

theorem stop_op {P : Program} {w : World} {ops : Array Oper} {rest : List Oper} {o : Oper} {a : Act} {Q : Exit → Act → World → Prop} (h : Hid (wpList P ops Q (o :: rest) a w)) : wpList P ops Q (o :: rest) a w := h.out

/-- Results that are a row and words. -/
theorem res_row {fn : Func} {p u : Tmp} {ty : TypeId} (h : fn.results = #[.cell p ty, .tmp u]) (tmps : Array Value) (W : World) (g : Nat) (t : TypeId) (cs : Array Value) (fs) (hp : tmps.getD p undef = .pointer (some ⟨g, 0, none⟩)) (hg : W.heap[g]? = some (.cells cs t (0, 0)))
    (hu : Try.prog.underlying ty = some (.struct fs)) (hi : (Try.prog.info? ty).map (·.size) = some cs.size) :
    (results fn tmps).run Try.prog W = .ok (.tuple #[.agg cs, tmps.getD u undef]) W := by
  rw [results_cell_tmp h, hp]
  have e : (asAddr (.pointer (some ⟨g, 0, none⟩))).run Try.prog W = .ok ⟨g, 0, none⟩ W := rfl
  rw [e]
  simp only [Result.andThen]
  rw [run_loadVar_row W g t ty cs (0, 0) (.struct fs) hg hu rfl hi]
theorem kb {B : Nat} {w w' : World} {o : Obj} (b : Below w.heap.size w w') (h : w.heap[B]? = some o) : w'.heap[B]? = some o := (b.block B (blk_lt h)).trans h
theorem k_inf (k : KR) : (Try.prog.info? 35).map (·.size) = some (KA k).size := by rw [show (KA k).size = 7 from rfl]; kernel_rfl
theorem k_one (k : KR) : (KA k).all (·.oneCell') = true := by unfold KA krc; simp [Value.oneCell']
/-! ### keys in maps -/
def kv (k : KR) : Value := .agg (KA k)
def kl (k : KR) : Lit := .string (keyBytes [.int .i64 k.proto, .int .u64 k.sh, .int .u64 k.sl, .int .u64 k.dh, .int .u64 k.dl, .int .i64 k.sp, .int .i64 k.dp])
theorem wf_ok {n : Int} (h : i64ok n) : (Lit.int .i64 n).wf = true := by
  unfold i64ok at h
  simp [Lit.wf, IntKind.min, IntKind.max, IntKind.bits, IntKind.signed]
  omega
set_option maxRecDepth 100000
theorem keyedK : Keyed Try.prog 35 := Keyed.of_law (deep_law_gate (P := Try.prog) (by kernel_rfl) (of_decide_eq_true (by kernel_rfl)) (of_decide_eq_true (by kernel_rfl)) (by kernel_rfl) (by kernel_rfl))

theorem u64_wf {n : Int} (h : u64ok n) : (Lit.int .u64 n).wf = true := by
  unfold u64ok at h
  simp [Lit.wf, IntKind.min, IntKind.max, IntKind.bits, IntKind.signed]
  omega

theorem cells_key : Try.prog.cellsOf 35 = 7 := by kernel_rfl

theorem cells_adr : Try.prog.cellsOf 33 = 2 := by kernel_rfl

theorem cells_u64 : Try.prog.cellsOf 31 = 1 := by kernel_rfl

theorem cells_int : Try.prog.cellsOf 3 = 1 := by kernel_rfl

theorem kt_key : Try.prog.keyType 35 = true := by kernel_rfl

theorem types_some : ∃ m, Try.prog.types.size = m + 3 := ⟨Try.prog.types.size - 3, by kernel_rfl⟩

theorem lits_adr {m : Nat} {a b : Int} (w1 : (Lit.int .u64 a).wf = true) (w2 : (Lit.int .u64 b).wf = true) : Try.prog.keyLits (m + 2) 33 [.int .u64 a, .int .u64 b] = some [.int .u64 a, .int .u64 b] := by
  unfold Program.keyLits
  simp [Try.underlying33, cells_u64, cells_adr, Program.keyLits, Try.underlying31, w1, w2, List.mapM_cons]

theorem lits_int {m : Nat} {a : Int} (w1 : (Lit.int .i64 a).wf = true) : Try.prog.keyLits (m + 1) 3 [.int .i64 a] = some [.int .i64 a] := by
  unfold Program.keyLits
  simp [Try.underlying3, w1]

theorem keyOf_ky {k : KR} (h : KyOk k) : keyOf Try.prog 35 (kv k) = some (kl k) := by
  obtain ⟨m, hm⟩ := types_some
  obtain ⟨h1, h2, h3, h4, h5, h6, h7⟩ := h
  have w1 := wf_ok h1
  have w2 := u64_wf h2
  have w3 := u64_wf h3
  have w4 := u64_wf h4
  have w5 := u64_wf h5
  have w6 := wf_ok h6
  have w7 := wf_ok h7
  unfold keyOf kv KA krc
  simp only [Try.underlying35]
  rw [if_pos (by simp [kt_key, Value.formed, Try.underlying35, cells_key]), hm]
  unfold Program.keyLits
  simp [Try.underlying35, Value.cells, cells_key, cells_adr, cells_int, lits_adr w2 w3, lits_adr w4 w5, lits_int w1, lits_int w6, lits_int w7, kl, List.mapM_cons]

theorem kl_inj {k k' : KR} (h : KyOk k) (h' : KyOk k') (e : kl k = kl k') : k = k' := by
  have := keyedK.inj (keyOf_ky h) (e ▸ keyOf_ky h')
  obtain ⟨a, b, c, d, x, y, z⟩ := k
  obtain ⟨a', b', c', d', x', y', z'⟩ := k'
  simp [kv, KA, krc] at this
  obtain ⟨rfl, rfl, rfl, rfl, rfl, rfl, rfl⟩ := this
  rfl

theorem klk (k : KR) : WideAt.IsKeyLit (kl k) := trivial

/-! ### flows -/

theorem kl_ne {k k' : KR} (h : KyOk k) (h' : KyOk k') (e : k ≠ k') : kl k ≠ kl k' := fun q => e (kl_inj h h' q)

theorem eqF_cons {P : Program} {d : Nat} {xs ys : Array Value} {f : Field} {fs : List Field} {w : World} {a b : Value} {r : Bool} (hn : f.name ≠ "_") (h1 : (part f.type xs f.offset).run P w = .ok a w) (h2 : (part f.type ys f.offset).run P w = .ok b w) (h3 : (Op.equalIn d f.type a b).run P w = .ok r w) :
    (Op.eqFields d xs ys (f :: fs)).run P w = if r = true then (Op.eqFields d xs ys fs).run P w else .ok false w := by
  conv => lhs; unfold Op.eqFields
  rw [if_pos hn]
  simp only [Sem.run_bind, h1, h2, h3, Result.andThen_ok]
  cases r <;> rfl

theorem eq_adr (d : Nat) (a b x y : Int) (w : World) : (Op.equalIn (d + 2) 33 (.agg #[.int .u64 a, .int .u64 b]) (.agg #[.int .u64 x, .int .u64 y])).run Try.prog w = .ok (a == x && b == y) w := by
  rw [run_equalIn_struct w (d + 1) 33 _ _ (by kernel_rfl) (by kernel_rfl)]
  rw [show (Try.prog.fieldsOf 33).toList = [{ name := "Hi", type := 31, offset := 0, embedded := false, tag := "", pkgPath := "", byteOffset := 0 }, { name := "Lo", type := 31, offset := 1, embedded := false, tag := "", pkgPath := "", byteOffset := 8 }] from by kernel_rfl]
  rw [eqF_cons (by decide) (show _ = Result.ok (.int .u64 a) w by kernel_rfl) (show _ = Result.ok (.int .u64 x) w by kernel_rfl) (run_equalIn_int w d 31 .u64 .u64 a x Try.underlying31)]
  rw [eqF_cons (by decide) (show _ = Result.ok (.int .u64 b) w by kernel_rfl) (show _ = Result.ok (.int .u64 y) w by kernel_rfl) (run_equalIn_int w d 31 .u64 .u64 b y Try.underlying31)]
  cases (a == x) <;> cases (b == y) <;> rfl

def keyFs : List Field := [{ name := "Proto", type := 3, offset := 0, embedded := false, tag := "", pkgPath := "", byteOffset := 0 }, { name := "Src", type := 33, offset := 1, embedded := false, tag := "", pkgPath := "", byteOffset := 8 }, { name := "Dst", type := 33, offset := 3, embedded := false, tag := "", pkgPath := "", byteOffset := 24 }, { name := "SPort", type := 3, offset := 5, embedded := false, tag := "", pkgPath := "", byteOffset := 40 }, { name := "DPort", type := 3, offset := 6, embedded := false, tag := "", pkgPath := "", byteOffset := 48 }]

theorem eq_ky (d : Nat) (k m : KR) (w : World) : (Op.equalIn (d + 3) 35 (.agg (KA k)) (.agg (KA m))).run Try.prog w = .ok (k == m) w := by
  obtain ⟨a, b, c, e, f, g, h⟩ := k
  obtain ⟨a', b', c', e', f', g', h'⟩ := m
  have hb : ((⟨a, b, c, e, f, g, h⟩ : KR) == ⟨a', b', c', e', f', g', h'⟩) = ((a == a') && ((b == b' && c == c') && ((e == e' && f == f') && ((g == g') && (h == h'))))) := by
    rw [Bool.eq_iff_iff]
    simp [and_assoc]
  rw [hb, run_equalIn_struct w (d + 2) 35 _ _ (by kernel_rfl) (by kernel_rfl)]
  rw [show (Try.prog.fieldsOf 35).toList = keyFs from by kernel_rfl]
  unfold keyFs
  rw [eqF_cons (by decide) (show _ = Result.ok (.int .i64 a) w by kernel_rfl) (show _ = Result.ok (.int .i64 a') w by kernel_rfl) (run_equalIn_int w (d + 1) 3 .i64 .i64 a a' Try.underlying3)]
  rw [eqF_cons (by decide) (show _ = Result.ok (.agg #[.int .u64 b, .int .u64 c]) w by kernel_rfl) (show _ = Result.ok (.agg #[.int .u64 b', .int .u64 c']) w by kernel_rfl) (eq_adr d b c b' c' w)]
  rw [eqF_cons (by decide) (show _ = Result.ok (.agg #[.int .u64 e, .int .u64 f]) w by kernel_rfl) (show _ = Result.ok (.agg #[.int .u64 e', .int .u64 f']) w by kernel_rfl) (eq_adr d e f e' f' w)]
  rw [eqF_cons (by decide) (show _ = Result.ok (.int .i64 g) w by kernel_rfl) (show _ = Result.ok (.int .i64 g') w by kernel_rfl) (run_equalIn_int w (d + 1) 3 .i64 .i64 g g' Try.underlying3)]
  rw [eqF_cons (by decide) (show _ = Result.ok (.int .i64 h) w by kernel_rfl) (show _ = Result.ok (.int .i64 h') w by kernel_rfl) (run_equalIn_int w (d + 1) 3 .i64 .i64 h h' Try.underlying3)]
  cases (a == a') <;> cases (b == b' && c == c') <;> cases (e == e' && f == f') <;> cases (g == g') <;> cases (h == h') <;> rfl

theorem eql_ky (k m : KR) (w : World) : (binOp .eql 35 (.agg (KA k)) (.agg (KA m))).run Try.prog w = .ok (.bool (k == m)) w := by
  rw [run_eql_struct]
  rw [show (10000 : Nat) = 9997 + 3 from rfl, eq_ky 9997 k m w]
  rfl

theorem neq_ky (k m : KR) (w : World) : (binOp .neq 35 (.agg (KA k)) (.agg (KA m))).run Try.prog w = .ok (.bool (!(k == m))) w := by
  rw [run_neq_struct]
  rw [show (10000 : Nat) = 9997 + 3 from rfl, eq_ky 9997 k m w]
  rfl

def nilR : Value → Option (DataW Unit × List MemPlace)
  | .agg cs => if cs.size = 0 then some (.agg [], []) else none
  | _ => none
theorem nilR_mk : nilR (.agg #[]) = some (.agg [], []) := rfl
theorem nilR_inv {v : Value} {ps : List MemPlace} (h : nilR v = some (.agg [], ps)) : v = .agg #[] := by
  unfold nilR at h
  split at h
  · split at h
    · rename_i cs hc
      rw [show cs = #[] from Array.eq_empty_of_size_eq_zero hc]
    · cases h
  · cases h
theorem zeroN (w : World) : (zeroValue 85).run Try.prog w = .ok (.agg #[]) w := by kernel_rfl
/-- a map that has just these keys. -/
def MapT (w : World) (Mp : Nat) (g : KR → Bool) (c : Nat) : Prop :=
  ∃ D : DataW Unit, w.ownsMap Try.prog 35 nilR Mp c D ∧ (∀ k, KyOk k → has D (kl k) = g k) ∧ (∀ k, KyOk k → g k = true → ∀ zd, D.atKey (kl k) zd = .agg []) ∧ Maps.size D = c
section
variable {w w' : World} {Mp c : Nat} {g : KR → Bool}
theorem MapT.keep (h : MapT w Mp g c) (hw : w'.heap[Mp]? = w.heap[Mp]?) : MapT w' Mp g c := by
  obtain ⟨D, ⟨es, clock, h1, rest⟩, h2⟩ := h
  exact ⟨D, ⟨es, clock, hw.trans h1, rest⟩, h2⟩
theorem MapT.congr (h : MapT w Mp g c) {g' : KR → Bool} (e : ∀ k, g' k = g k) : MapT w Mp g' c := by
  rw [show g' = g from funext e]; exact h
theorem MapT.lt (h : MapT w Mp g c) : Mp < w.heap.size := by obtain ⟨D, h, _⟩ := h; exact h.lt
theorem MapT.ne (h : MapT w Mp g c) {k : Nat} {cs : Array Value} {T : TypeId} (hk : w.heap[k]? = some (.cells cs T (0, 0))) : Mp ≠ k := by
  obtain ⟨D, ⟨es, clock, h1, rest⟩, h2⟩ := h
  intro e
  rw [e, hk] at h1
  cases h1
theorem MapT.look (h : MapT w Mp g c) {k : KR} (hs : KyOk k) :
    (Instr.lookup 74 (.map (some Mp)) (.agg (KA k)) true).run Try.prog w = .ok (.tuple #[.agg #[], .bool (g k)]) w := by
  obtain ⟨D, h1, h2, h3, _⟩ := h
  obtain ⟨v, ps, hr, hv⟩ := h1.look_ok keyedK Try.underlying74 (zeroN w) (zd := .agg []) (zp := []) nilR_mk (keyOf_ky hs)
  unfold kv at hr
  rw [h2 _ hs] at hr
  rw [hr]
  cases e : g k with
  | true =>
    rw [h3 k hs e] at hv
    rw [nilR_inv hv]
  | false =>
    have := h2 _ hs
    rw [e] at this
    rw [atKey_of_not_has this] at hv
    rw [nilR_inv hv]
def upT (g : KR → Bool) (k : KR) : KR → Bool := fun x => g x || x == k
theorem MapT.put (h : MapT w Mp g c) (hl : c < 1000000) {k : KR} (hs : KyOk k) :
    ∃ w', (Instr.mapUpdate 74 (.map (some Mp)) (.agg (KA k)) (.agg #[])).run Try.prog w = .ok () w' ∧ MapT w' Mp (upT g k) (if g k then c else c + 1) ∧ OffS (fun j => j = Mp) w w' := by
  obtain ⟨D, h1, h2, h3, h4⟩ := h
  obtain ⟨w', hr, ho, hg⟩ := h1.update keyedK Try.underlying74 (by unfold maxLen; omega) (keyOf_ky hs) nilR_mk
  have ht := h1.tidy keyedK
  have hsz : Maps.size (D.put (kl k) (.agg [])) = if g k then c else c + 1 := by
    rw [size_put ht, h2 _ hs, h4]
  refine ⟨w', hr, ⟨_, ?_, fun x hx => ?_, fun x hx he zd => ?_, hsz⟩, grown_off hg⟩
  · obtain ⟨es, clock, q1, q2, q3, q4⟩ := ho
    refine ⟨es, clock, q1, q2, ?_, q4⟩
    rw [← hsz, q4]
    simp [Maps.size, length_sorted]
  · unfold upT
    by_cases e : x = k
    · subst e
      rw [has_put_same ht.isMap (klk _)]; simp
    · rw [has_put_other (kl_ne hx hs e), h2 x hx]; simp [e]
  · unfold upT at he
    by_cases e : x = k
    · subst e
      rw [atKey_put_same ht.isMap (klk _)]
    · have : g x = true := by simpa [e] using he
      rw [atKey_put_other (kl_ne hx hs e), h3 x hx this]
end
end Go.Proofs.Ytokbmahnjmmcaaa
