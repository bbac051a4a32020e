/- A node out of memory; by-name template. -/
import Derived.Test.YtomennaekjklbaaKNode
namespace Go.Proofs.Ytomennaekjklbaa
open Go.RowKit Go.Lib Go.Sort
set_option maxRecDepth 100000
set_option linter.unusedVariables false
set_option linter.unusedSimpArgs false
theorem agg_node (w : World) : (isAgg 51).run Try.prog w = .ok false w := by kernel_rfl
theorem run_load_node {w : World} {ad : Addr} {v : Value} (h : w.cell? ad = some v) : (loadVar 51 ad).run Try.prog w = .ok v w := by
  simp [loadVar, Sem.run_bind, agg_node, h]
theorem exec_node {o : Oper} {a : Act} {W : World} (x : Operand) (ho : o.op = .load 51 x) (ad : Addr) (hx : a.eval x = .pointer (some ad)) (v : Value) (h : W.cell? ad = some v) : (execOp a.eval o).run Try.prog W = .ok (.value v) W := by
  unfold execOp
  simp only [ho, hx, Instr.loadAt, Instr.sureAddr, Sem.run_bind, Sem.run_pure, Result.andThen_ok, run_load_node h]
theorem wpList_load_node {ops : Array Oper} {rest : List Oper} {o : Oper} {a : Act} {w : World} {Q : Exit → Act → World → Prop} (hgd : o.guard = none) (x : Operand) (ho : o.op = .load 51 x)
    (ad : Addr) (hx : a.eval x = .pointer (some ad)) (v : Value) (hv : w.cell? ad = some v)
    (h : wpList Try.prog ops Q rest (a.put o.dst v) w) : wpList Try.prog ops Q (o :: rest) a w :=
  wpList_plain hgd fun _ hK => by
    unfold Oper.wp
    rw [exec_node x ho ad hx v hv]
    simp [go_sem]
    exact hK _ _ h
theorem quiet_load_node {ops : Array Oper} {C : World → Prop} {Q : Act → Prop} {a : Act} {o : Oper} {rest : List Oper} (hw : Region.wanted o (yielded ops a.tmps) = true) (x : Operand) (ho : o.op = .load 51 x)
    (ad : Addr) (hx : a.eval x = .pointer (some ad)) (v : Value) (hg : ∀ w, C w → w.cell? ad = some v)
    (h : wpQuiet Try.prog ops C Q rest (a.put o.dst v)) : wpQuiet Try.prog ops C Q (o :: rest) a :=
  wpQuiet_step fun K hK => by
    rw [if_pos hw]
    refine ⟨v, fun w hC => ?_, hK _ h⟩
    unfold Oper.quietAt
    rw [exec_node x ho ad hx v (hg w hC)]
    exact ⟨rfl, rfl⟩
theorem hm_find1 (k : Nat) (w : World) (x : Value) : (method (k + 1) 99 x "sallyport/classify.find").run Try.prog w = .ok (105, x) w := by kernel_rfl
theorem hm_find2 (k : Nat) (w : World) (x : Value) : (method (k + 1) 103 x "sallyport/classify.find").run Try.prog w = .ok (109, x) w := by kernel_rfl
theorem hm_tell1 (k : Nat) (w : World) (x : Value) : (method (k + 1) 99 x "sallyport/classify.tell").run Try.prog w = .ok (106, x) w := by kernel_rfl
theorem hm_tell2 (k : Nat) (w : World) (x : Value) : (method (k + 1) 103 x "sallyport/classify.tell").run Try.prog w = .ok (110, x) w := by kernel_rfl
end Go.Proofs.Ytomennaekjklbaa
