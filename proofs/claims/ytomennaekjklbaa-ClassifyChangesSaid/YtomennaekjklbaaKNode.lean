/- Nodes in memory, the program's; by-name template. -/
import Derived.Test.YtomennaekjklbaaKPl
namespace Go.Proofs.Ytomennaekjklbaa
open Go.RowKit Go.Lib Go.Sort
set_option maxRecDepth 100000
set_option linter.unusedVariables false
set_option linter.unusedSimpArgs false

/-- All blocks but G stay. -/
structure OffG (G : Nat) (w w' : World) : Prop where
  bel : Below G w w'
  stay : ∀ T, T < w.heap.size → T ≠ G → w'.heap[T]? = w.heap[T]?
theorem OffG.refl (G : Nat) (w : World) : OffG G w w := ⟨Below.refl _ _, fun _ _ _ => rfl⟩
theorem OffG.size {G : Nat} {w w' : World} (h : OffG G w w') : w.heap.size ≤ w'.heap.size := h.bel.size
theorem OffG.trans {G : Nat} {w w1 w2 : World} (h : OffG G w w1) (k : OffG G w1 w2) : OffG G w w2 :=
  ⟨h.bel.trans k.bel, fun T hT hG => (k.stay T (Nat.lt_of_lt_of_le hT h.size) hG).trans (h.stay T hT hG)⟩
theorem OffG.of {G : Nat} {w w' : World} (h : Below w.heap.size w w') (hG : G ≤ w.heap.size) : OffG G w w' := ⟨h.mono hG, fun T hT _ => h.block T hT⟩
theorem OffG.set {G : Nat} {w : World} (o : Nat) (v : Value) : OffG G w (w.setCell ⟨G, o, none⟩ v) :=
  ⟨below_set (Below.refl _ _) (Nat.le_refl _) _ _, fun T _ hG => set_other hG o v⟩
theorem blkO {G : Nat} {w w' : World} (h : OffG G w w') {B : Nat} {o : Obj} (hne : B ≠ G) (hB : w.heap[B]? = some o) : w'.heap[B]? = some o := (h.stay B (blk_lt hB) hne).trans hB
def NotAt (G : Nat) (A : Option Addr) : Prop := ∀ b off sp, A = some ⟨b, off, sp⟩ → b ≠ G
theorem Sl.off {α : Type} {w w' : World} {k : Nat} {enc : α → List Value} {A : Option Addr} {n : Nat} {l : List α} {G : Nat} (h : Sl w k enc A n l) (hA : 0 < n → NotAt G A) (ho : OffG G w w') : Sl w' k enc A n l :=
  ⟨h.len, h.big, fun hn => by
    obtain ⟨b, off, e, hlt, hc⟩ := h.row hn
    refine ⟨b, off, e, Nat.lt_of_lt_of_le hlt ho.size, fun j x hj i v hi => ?_⟩
    have := hc j x hj i v hi
    unfold World.cell? at this ⊢
    rw [ho.stay b hlt (hA hn b off none e)]; exact this⟩
def Above (G : Nat) (A : Option Addr) : Prop := ∀ b off sp, A = some ⟨b, off, sp⟩ → G < b
theorem Above.notAt {G B : Nat} {A : Option Addr} (h : Above G A) (hB : B ≤ G) : NotAt B A := fun b off sp e => by have := h b off sp e; omega
/-- An inner node's cells. -/
def inA (b : Nat → R4) (v1 v2 : Value) : Array Value := ((bxc b).toList ++ [v1, v2]).toArray
/-- A node in memory. -/
def NodeAt (G : Nat) (w : World) : TN → Value → Prop
  | .leaf l, v => ∃ A c, v = .iface 99 (.agg #[.slice A l.length c]) ∧ l.length ≤ c ∧ (0 < l.length → Above G A) ∧ Sl w 25 enc25 A l.length l
  | .inner _ _ bx lo hi, v => ∃ v1 v2, v = .iface 103 (.agg (inA bx v1 v2)) ∧ NodeAt G w lo v1 ∧ NodeAt G w hi v2
theorem NodeAt.off {G B : Nat} {w w' : World} (hB : B ≤ G) (ho : OffG B w w') : ∀ {t : TN} {v : Value}, NodeAt G w t v → NodeAt G w' t v
  | .leaf l, v, ⟨A, c, e, hc, hA, hS⟩ => ⟨A, c, e, hc, hA, hS.off (fun hn => (hA hn).notAt hB) ho⟩
  | .inner _ _ bx lo hi, v, ⟨v1, v2, e, h1, h2⟩ => ⟨v1, v2, e, h1.off hB ho, h2.off hB ho⟩
theorem NodeAt.keep {G : Nat} {w w' : World} (ho : Below w.heap.size w w') : ∀ {t : TN} {v : Value}, NodeAt G w t v → NodeAt G w' t v
  | .leaf l, v, ⟨A, c, e, hc, hA, hS⟩ => ⟨A, c, e, hc, hA, hS.keep ho⟩
  | .inner _ _ bx lo hi, v, ⟨v1, v2, e, h1, h2⟩ => ⟨v1, v2, e, h1.keep ho, h2.keep ho⟩
theorem NodeAt.form {G : Nat} {w : World} : ∀ {t : TN} {v : Value}, NodeAt G w t v → ∃ ty x, v = .iface ty x
  | .leaf _, _, ⟨_, _, e, _⟩ => ⟨_, _, e⟩
  | .inner .., _, ⟨_, _, e, _⟩ => ⟨_, _, e⟩
def TN.count : TN → Nat
  | .leaf _ => 1
  | .inner _ _ _ lo hi => 1 + lo.count + hi.count
theorem TN.count_pos : ∀ t : TN, 0 < t.count
  | .leaf _ => by simp [TN.count]
  | .inner .. => by simp [TN.count]; omega
theorem grow_count : ∀ (d : Nat) (b : Nat → R4) (l : List EN) (may : Nat) (t : TN) (m : Nat), growP d b l may = some (t, m) → m + t.count = may
  | d, b, l, may, t, m, h => by
    unfold growP at h
    split at h
    · cases h
    · split at h
      · cases h; simp [TN.count]; omega
      · match d, h with
        | 0, h => cases h
        | d + 1, h =>
          simp only at h
          split at h
          · cases h
          · rename_i t1 m1 h1
            split at h
            · cases h
            · rename_i t2 m2 h2
              cases h
              have e1 := grow_count _ _ _ _ _ _ h1
              have e2 := grow_count _ _ _ _ _ _ h2
              simp only [TN.count]; omega
theorem run_inner (w : World) (b : Nat → R4) (t1 t2 : TypeId) (x1 x2 : Value) : (Instr.build 103 #[(0, .agg (bxc b)), (1, .iface t1 x1), (2, .iface t2 x2)]).run Try.prog w = .ok (.agg (inA b (.iface t1 x1) (.iface t2 x2))) w := by kernel_rfl
theorem wpList_inner {ops : Array Oper} {rest : List Oper} {o : Oper} {a : Act} {w : World} {Q : Exit → Act → World → Prop} (hgd : o.guard = none) (x y z : Operand) (b : Nat → R4) (C : Array Value) (hC : C = bxc b) (t1 t2 : TypeId) (x1 x2 : Value)
    (ho : o.op = .build 103 #[(0, x), (1, y), (2, z)]) (hx : a.eval x = .agg C) (hy : a.eval y = .iface t1 x1) (hz : a.eval z = .iface t2 x2)
    (h : wpList Try.prog ops Q rest (a.put o.dst (.agg (inA b (.iface t1 x1) (.iface t2 x2)))) w) : wpList Try.prog ops Q (o :: rest) a w :=
  wpList_plain hgd fun _ hK => by
    subst hC
    unfold Oper.wp
    have e : (execOp a.eval o).run Try.prog w = .ok (.value (.agg (inA b (.iface t1 x1) (.iface t2 x2)))) w := by
      unfold execOp
      simp only [ho, List.map_toArray, List.map_cons, List.map_nil, hx, hy, hz, Sem.run_bind, Sem.run_pure, Result.andThen_ok, run_inner]
    rw [e]
    simp [go_sem]
    exact hK _ _ h
end Go.Proofs.Ytomennaekjklbaa
