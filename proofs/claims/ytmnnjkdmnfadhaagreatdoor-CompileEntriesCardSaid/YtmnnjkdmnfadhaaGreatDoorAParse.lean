/- Parse; by-name template. -/
import Derived.Test.YtmnnjkdmnfadhaaGreatDoorAPrint
import Derived.Lib.SlicesS
namespace Go.Proofs.YtmnnjkdmnfadhaaGreatDoor
open Go.RowKit
set_option linter.unusedVariables false
set_option linter.unusedSimpArgs false

theorem bytes_of {s : ByteArray} {l : List UInt8} (h : l = s.data.toList) : (⟨l.toArray⟩ : ByteArray) = s := by
  obtain ⟨⟨d⟩⟩ := s
  subst h; rfl

theorem wpList_neq {P : Program} {ops : Array Oper} {rest : List Oper} {o : Oper} {a : Act} {w : World} {Q : Exit → Act → World → Prop} (hgd : Region.wanted o (yielded ops a.tmps) = true) (t rt : TypeId) (x y : Operand) (ho : o.op = .binOp .neq t x y rt)
    (p q : ByteArray) (hx : a.eval x = .string p) (hy : a.eval y = .string q) (hne : p ≠ q)
    (h : wpList P ops Q rest (a.put o.dst (.bool true)) w) : wpList P ops Q (o :: rest) a w :=
  wpList_step fun K hK => by
    rw [if_pos hgd]
    have e : (execOp a.eval o).run P w = .ok (.value (.bool true)) w := by
      have := (Lib.bytes_beq_false_iff p q).2 hne
      obtain ⟨dst, op, ty, ps, af, gd⟩ := o
      simp only at ho
      subst ho
      simp only [execOp, hx, hy]
      rw [binOp_string_neq, this]
      rfl
    unfold Oper.wp
    rw [e]
    exact hK _ _ h

end Go.Proofs.YtmnnjkdmnfadhaaGreatDoor
