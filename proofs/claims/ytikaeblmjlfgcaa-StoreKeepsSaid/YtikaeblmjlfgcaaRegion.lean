/- Steps of a drawn region: a row's store, a variable's making; by-name template. -/
import Derived.Test.YtikaeblmjlfgcaaRound
import Derived.Test.YtikaeblmjlfgcaaLaw
namespace Go.Proofs.Ytikaeblmjlfgcaa
open Go.RowKit
set_option linter.unusedVariables false

theorem step_store_row {P : Program} {ops : Array Oper} {op : Oper} {a : Act} {w : World} {K : Act → World → Prop} {Q : Exit → Act → World → Prop} {E : Prop} (hgd : op.guard = none) (ty : TypeId) (x y : Operand) (ho : op.op = .store ty x y)
    (g : Nat) (cells : Array Value) (hx : a.eval x = .pointer (some ⟨g, 0, none⟩)) (hy : a.eval y = .agg cells)
    (t : TypeId) (old : Array Value) (hg : w.heap[g]? = some (.cells old t (0, 0))) (hi : (P.info? ty).map (·.size) = some cells.size)
    (hold : old.size = cells.size) (h1 : cells.all (·.oneCell') = true)
    (h : K (a.put op.dst undef) (w.setRow g cells)) : if Region.wanted op (yielded ops a.tmps) = true then Oper.wp P op a w K Q else E := by
  have hw : Region.wanted op (yielded ops a.tmps) = true := by simp [Region.wanted, hgd]
  rw [if_pos hw]
  unfold Oper.wp
  simp only [execOp, ho, hx, hy, Instr.storeAt, Instr.sureAddr, Sem.run_bind, Sem.run_pure, Result.andThen_ok, run_storeVar_row w g t ty old cells hg hi hold h1]
  exact h

theorem step_alloc {P : Program} {ops : Array Oper} {op : Oper} {a : Act} {w : World} {K : Act → World → Prop} {Q : Exit → Act → World → Prop} {E : Prop} (hgd : op.guard = none) (ty : TypeId) (ho : op.op = .alloc ty)
    (Z : Array Value) (hz : ∀ w, (zeroValue ty).run P w = .ok (.agg Z) w)
    (h : ∀ (w' : World) (g : Nat), Blk w' g Z ty → Below w.heap.size w w' → w.heap.size ≤ g → K (a.put op.dst (.pointer (some ⟨g, 0, none⟩))) w') : if Region.wanted op (yielded ops a.tmps) = true then Oper.wp P op a w K Q else E := by
  have hw : Region.wanted op (yielded ops a.tmps) = true := by simp [Region.wanted, hgd]
  rw [if_pos hw]
  have h2 := h _ _ (Blk.new w Z ty) ((Below.refl _ _).alloc (Nat.le_refl _) _) (Nat.le_refl _)
  unfold Oper.wp
  simp [go_sem, execOp, ho, hz]
  exact h2

/-- What a law keeps: its disk, a box of values, and all that was there. -/
structure Keep (w : World) (B : Nat) (D : DS) (v : Nat) (C : Array Value) (wr : World) : Prop where
  bel : Below w.heap.size w wr
  disk : DiskAt wr B D
  blk : Blk wr v C 33
theorem Keep.below {w wr w' : World} {B v : Nat} {D : DS} {C : Array Value} (h : Keep w B D v C wr) (k : Below wr.heap.size wr w') : Keep w B D v C w' :=
  ⟨h.bel.trans (k.mono h.bel.size), h.disk.below k h.disk.lt, Blk.below h.blk k (Blk.lt h.blk)⟩
theorem Keep.drew {w wr : World} {B v : Nat} {D : DS} {C : Array Value} (h : Keep w B D v C wr) : Keep w B D v C wr.drew := ⟨h.bel.drew, h.disk.drew, h.blk⟩
theorem Keep.set {w wr : World} {B v : Nat} {D : DS} {C C' : Array Value} (h : Keep w B D v C wr) (h1 : v ≠ B) (h2 : w.heap.size ≤ v) : Keep w B D v C' (wr.setRow v C') :=
  ⟨h.bel.setRow h2 C', h.disk.setRow h1, Blk.setRow h.blk⟩
theorem Keep.other {w wr : World} {B v g : Nat} {D : DS} {C C' : Array Value} (h : Keep w B D v C wr) (h1 : g ≠ B) (h2 : w.heap.size ≤ g) (h3 : g ≠ v) : Keep w B D v C (wr.setRow g C') := by
  refine ⟨h.bel.setRow h2 C', h.disk.setRow h1, ?_⟩
  have := h.blk
  unfold Blk World.setRow at *
  simp only [Array.getElem?_modify, if_neg h3]
  exact this

def TStep (w : World) (B : Nat) (D : DS) (v : Nat) (C : Array Value) (L : List Pt) (wr : World) (e : Ending) (w' : World) : Prop := ∃ a cap, e = .returned (.slice a L.length cap) ∧ PutsAt w' a L ∧ Keep w B D v C w' ∧ Below wr.heap.size wr w'
theorem tstep {w wr : World} {B v : Nat} {D : DS} {C : Array Value} {a : Option Addr} {L : List Pt} (cap : Nat) (h : Keep w B D v C wr) (hp : PutsAt w a L) (hf : L.length * 32 ≤ 140737488355328) :
    Calls Try.prog 9 #[.slice a L.length cap] wr (TStep w B D v C L wr) :=
  (theirs_any cap (hp.below h.bel (Nat.le_refl _)) hf).mono fun e w' ⟨a', c', he, hp', hb⟩ => ⟨a', c', he, hp', h.below hb, hb⟩

def AStep (w : World) (B : Nat) (D : DS) (v : Nat) (C : Array Value) (C' : Array Value) (wr : World) (e : Ending) (w' : World) : Prop := e = .returned (.agg C') ∧ Keep w B D v C w' ∧ Below wr.heap.size wr w'
theorem astep {w wr : World} {B v : Nat} {D : DS} {C X X' : Array Value} {a : Option Addr} {L : List Pt} (cap : Nat) {f : Nat → Option ByteArray} {N : Int} (h : Keep w B D v C wr) (hp : PutsAt wr a L) (hX : Hid (X = vcells f N)) (hX' : Hid (X' = vcells (afterF f L) (N + 1))) (h0 : 0 ≤ N) (h1 : N < 1000000000) (hk : ∀ p ∈ L, slotOk p.slot) :
    Calls Try.prog 13 #[.agg X, .slice a L.length cap] wr (AStep w B D v C X' wr) := by
  rw [hX.out, hX'.out]
  exact (after_any cap hp hk f h0 (by omega)).mono fun e w' ⟨he, hb⟩ => ⟨he, h.below hb, hb⟩

theorem row_two {w : World} {a b : Option Addr} {L M : List Pt} (cap cap' : Nat) (h : PutsAt w a L) (k : PutsAt w b M) : RowsAt (w.alloc (.cells #[.int .i64 0, .int .i64 0, .slice a L.length cap, .int .i64 0, .int .i64 0, .slice b M.length cap'] 26)) 3 2 (some ⟨w.heap.size, 0, none⟩) [L, M] := by
  refine ⟨by simp, fun i K hi => ?_⟩
  match i, hi with
  | 0, hi =>
    simp at hi
    subst hi
    exact ⟨w.heap.size, 0, a, cap, rfl, (Blk.new w _ _).lt, (Blk.new w _ _).cell 2, h.below ((Below.refl _ _).alloc (Nat.le_refl _) _) (Nat.le_refl _)⟩
  | 1, hi =>
    simp at hi
    subst hi
    exact ⟨w.heap.size, 0, b, cap', rfl, (Blk.new w _ _).lt, (Blk.new w _ _).cell 5, k.below ((Below.refl _ _).alloc (Nat.le_refl _) _) (Nat.le_refl _)⟩
  | i + 2, hi => simp at hi
theorem fits_two {L M : List Pt} (h : L.length * 32 ≤ 140737488355328) (k : M.length * 32 ≤ 140737488355328) : Fits [L, M] := by
  intro K hK
  simp at hK
  rcases hK with rfl | rfl
  · exact h
  · exact k

/-- A Set that a law makes on a calm disk, of puts that the Check takes. -/
theorem Done.zero {D : DS} {m : Int} {L : List Pt} {c : Int} {D' : DS} (h : Done D m L c D') (hc : D.c = false) (hd : D.d = false) (hk : Chk L 0) : c = 0 ∧ D'.c = false ∧ D'.d = false := by
  obtain ⟨h12, h1, h2⟩ := h.calm hc hd
  exact ⟨(h.chk h12).uniq hk, h1, h2⟩
/-- What a Set that answered 0 leaves is what After says. -/
theorem Done.tells {D : DS} {m : Int} {L : List Pt} {D' : DS} (h : Done D m L 0 D') (hL : L ≠ []) {f : Nat → Option ByteArray} {N : Int} (hf : ∀ j, j < 8 → getv D j = f j) (hn : (root D).n = N) (h0 : 0 ≤ N) (h1 : N < 1000000000) :
    (∀ j, j < 8 → getv D' j = afterF f L j) ∧ (root D').n = N + 1 := by
  obtain ⟨_, _, hrn, hg⟩ := h.new rfl hL
  refine ⟨fun j hj => ?_, ?_⟩
  · rw [hg j hj]
    exact afterF_congr L _ _ (hf j hj)
  · rw [hrn, hn]
    unfold bump
    rw [if_neg (by omega)]
end Go.Proofs.Ytikaeblmjlfgcaa
