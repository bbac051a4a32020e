/- What laws over boxes share; by-name template (gen_claw.py). -/
import Derived.Test.YtomennaekjklbaaCFull
namespace Go.Proofs.Ytomennaekjklbaa
open Go.RowKit Go.Lib Go.Sort
set_option linter.unusedVariables false
set_option linter.unusedSimpArgs false

theorem stop_op {P : Program} {w : World} {ops : Array Oper} {rest : List Oper} {o : Oper} {a : Act} {Q : Exit → Act → World → Prop} (h : Hid (wpList P ops Q (o :: rest) a w)) : wpList P ops Q (o :: rest) a w := h.out


def LawPost (w : World) (e : Ending) (w' : World) : Prop := e = .returned (.bool true) ∧ Below w.heap.size w w'
theorem keptB {P : Program} {f : FuncId} {args : Array Value} {R : Value} {w0 wr : World} (h : Calls P f args wr fun e w' => e = .returned R ∧ Below wr.heap.size wr w') (hw : Below w0.heap.size w0 wr) :
    Calls P f args wr fun e w' => e = .returned R ∧ Below w0.heap.size w0 w' := h.mono fun e w' ⟨he, hb⟩ => ⟨he, bel_via hw hb⟩
theorem quiet_load_row {P : Program} {ops : Array Oper} {C : World → Prop} {Q : Act → Prop} {a : Act} {o : Oper} {rest : List Oper} (hw : Region.wanted o (yielded ops a.tmps) = true) (ty : TypeId) (x : Operand) (ho : o.op = .load ty x)
    (g : Nat) (hx : a.eval x = .pointer (some ⟨g, 0, none⟩)) (t : TypeId) (cs : Array Value) (fr : Nat × Nat) (d : TypeDesc) (hg : ∀ w, C w → w.heap[g]? = some (.cells cs t fr))
    (hu : P.underlying ty = some d) (hd : (match d with | .struct _ | .array _ _ => true | _ => false) = true) (hi : (P.info? ty).map (·.size) = some cs.size)
    (h : wpQuiet P ops C Q rest (a.put o.dst (.agg cs))) : wpQuiet P ops C Q (o :: rest) a :=
  wpQuiet_step fun K hK => by
    rw [if_pos hw]
    refine ⟨.agg cs, fun w hC => ?_, hK _ h⟩
    unfold Oper.quietAt execOp
    simp only [ho, hx, Instr.loadAt, Instr.sureAddr, Sem.run_bind, Sem.run_pure, Result.andThen_ok, run_loadVar_row w g t ty cs fr d (hg w hC) hu hd hi]
    exact ⟨rfl, rfl⟩
theorem rg_heap {w1 : World} {g : Nat} {o : Obj} (h : w1.heap[g]? = some o) : ∀ w', (∃ p : Regrown, w' = grow (redrawn w1 p.d) p.os) → w'.heap[g]? = some o := fun w' ⟨p, hp⟩ => by
  rw [hp]; exact blkB (below_regrown w1 p.d p.os) h
theorem bel_rg {w0 w1 : World} (h : Below w0.heap.size w0 w1) (d : Nat) (os : Array Obj) : Below w0.heap.size w0 (grow (redrawn w1 d) os) := bel_via h (below_regrown w1 d os)
theorem keepH {w0 : World} {g : Nat} {o : Obj} (h : w0.heap[g]? = some o) : ∀ w', Below w0.heap.size w0 w' → w'.heap[g]? = some o := fun w' hb => blkB hb h
theorem bx3 (w : World) (o1 o2 o3 : Obj) : (World.alloc ((w.alloc o1).alloc o2) o3).heap[w.heap.size]? = some o1 ∧ (World.alloc ((w.alloc o1).alloc o2) o3).heap[w.heap.size + 1]? = some o2 ∧ (World.alloc ((w.alloc o1).alloc o2) o3).heap[w.heap.size + 2]? = some o3 ∧ Below w.heap.size w (World.alloc ((w.alloc o1).alloc o2) o3) :=
  ⟨blk_al (blk_al (heap_alloc_new w _) _) _, blk_al (al_new (al_size _ _).symm _) _, al_new (by rw [al_size, al_size]) _, Below.al (Below.al (Below.al (Below.refl _ _) _) _) _⟩
theorem bx2 (w : World) (o1 o2 : Obj) : ((w.alloc o1).alloc o2).heap[w.heap.size]? = some o1 ∧ ((w.alloc o1).alloc o2).heap[w.heap.size + 1]? = some o2 ∧ Below w.heap.size w ((w.alloc o1).alloc o2) :=
  ⟨blk_al (heap_alloc_new w _) _, al_new (al_size _ _).symm _, Below.al (Below.al (Below.refl _ _) _) _⟩
theorem blk_al2 {w w' : World} {p : Obj} (e : w' = w.alloc p) {g : Nat} {o : Obj} (h : w.heap[g]? = some o) : w'.heap[g]? = some o := by rw [e]; exact blk_al h p
theorem al_hd2 {w w' : World} {p : Obj} (e : w' = w.alloc p) : w'.heap[w.heap.size]? = some p := by rw [e]; exact heap_alloc_new w p
theorem bel_al2 {w0 w w' : World} {p : Obj} (e : w' = w.alloc p) (h : Below w0.heap.size w0 w) : Below w0.heap.size w0 w' := by rw [e]; exact bel_via h (Below.al (Below.refl _ _) _)
theorem eqB_refl (a : Nat → R4) : eqB a a = true := (eqB_iff a a).2 fun _ _ => rfl
theorem mbV_comm (a b : Nat → R4) : bxc (mbV a b) = bxc (mbV b a) := bxc_congr fun k _ => (mb_comm a b).2 k
end Go.Proofs.Ytomennaekjklbaa
