/- Entries of 25 cells, for the program's Points; by-name template (gen_cptsa.py). -/
import Derived.Test.YtomennaekjklbaaCLay
import Derived.Test.YtomennaekjklbaaCSC
namespace Go.Proofs.Ytomennaekjklbaa
open Go.RowKit Go.Lib Go.Sort
set_option linter.unusedVariables false
set_option linter.unusedSimpArgs false
theorem blkN {N : Nat} {w w' : World} (hb : Below N w w') {B : Nat} (hB : B < N) {o : Obj} (h : w.heap[B]? = some o) : w'.heap[B]? = some o := (hb.block B hB).trans h
theorem cellN {N : Nat} {w w' : World} (hb : Below N w w') {ad : Addr} (hB : ad.block < N) {v : Value} (h : w.cell? ad = some v) : w'.cell? ad = some v := by
  unfold World.cell? at h ⊢; rw [hb.block _ hB]; exact h
theorem add_block (a : Addr) (j : Nat) : (a.add j).block = a.block := by unfold Addr.add; split <;> rfl
theorem pts_flen (b : Nat → R4) (k : Nat) : ∀ l : List EN, (l.flatMap fun e => ptsE e.bx b k).length ≤ 2 * l.length
  | [] => by simp
  | x :: r => by
    have h1 := pts_flen b k r
    have h2 := ptsE_len x.bx b k
    simp only [List.flatMap_cons, List.length_append, List.length_cons]; omega
theorem ptsE_is {e b : Nat → R4} {k : Nat} {q : Option P2} (h : mbO e b = true) (hq : prevP (frP (e k)) = q) : ptsE e b k = icL (b k) ⟨(e k).th, (e k).tl⟩ ++ pvL (b k) q := by
  unfold ptsE; rw [h, if_pos rfl, hq]; rfl
def enA (e : EN) : Array Value := (enc25 e).toArray
theorem inf47 (e : EN) : (Try.prog.info? 32).map (·.size) = some (enA e).size := by rw [show (enA e).size = 25 from rfl]; kernel_rfl
theorem en_one (e : EN) : (enA e).all (·.oneCell') = true := by unfold enA enc25 bxc; simp [Value.oneCell']
theorem en_zero (w : World) : (zeroValue 32).run Try.prog w = .ok (.agg #[.int .u64 0, .int .u64 0, .int .u64 0, .int .u64 0, .int .u64 0, .int .u64 0, .int .u64 0, .int .u64 0, .int .u64 0, .int .u64 0, .int .u64 0, .int .u64 0, .int .u64 0, .int .u64 0, .int .u64 0, .int .u64 0, .int .u64 0, .int .u64 0, .int .u64 0, .int .u64 0, .int .u64 0, .int .u64 0, .int .u64 0, .int .u64 0, .int .i64 0]) w := by kernel_rfl
theorem en_row {w : World} {b off i : Nat} {l : List EN} {x : EN} (h : ∀ j y, l[j]? = some y → ∀ t v, (enc25 y)[t]? = some v → w.cell? ⟨b, off + j * 25 + t, none⟩ = some v) (hx : l[i]? = some x) :
    ∀ j v, (enA x).toList[j]? = some v → w.cell? ((⟨b, off + i * 25, none⟩ : Addr).add j) = some v := by
  intro j v hj
  have := h i x hx j v hj
  have e : (⟨b, off + i * 25, none⟩ : Addr).add j = ⟨b, off + i * 25 + j, none⟩ := by unfold Addr.add; split <;> simp_all
  rw [e]; exact this
theorem en_blk {w : World} {B : Nat} {x : EN} (h : w.heap[B]? = some (.cells (enA x) 32 (0, 0))) : ∀ j v, (bxc x.bx).toList[j]? = some v → w.cell? ((⟨B, 0, none⟩ : Addr).add j) = some v := by
  intro j v hj
  have e : (⟨B, 0, none⟩ : Addr).add j = ⟨B, j, none⟩ := by unfold Addr.add; split <;> simp_all
  have hl : j < (bxc x.bx).toList.length := (List.getElem?_eq_some_iff.1 hj).1
  have g : (enA x)[j]? = some v := by
    rw [← Array.getElem?_toList]
    show (enc25 x)[j]? = some v
    unfold enc25; rw [List.getElem?_append_left hl]; exact hj
  rw [e]
  simp [World.cell?, h, g]
theorem wpList_load_cells {P : Program} {ops : Array Oper} {rest : List Oper} {o : Oper} {a : Act} {w : World} {Q : Exit → Act → World → Prop} (hgd : o.guard = none) (ty : TypeId) (x : Operand) (ho : o.op = .load ty x)
    (ad : Addr) (hx : a.eval x = .pointer (some ad)) (cs : Array Value) (d : TypeDesc) (hg : ∀ j v, cs.toList[j]? = some v → w.cell? (ad.add j) = some v)
    (hu : P.underlying ty = some d) (hd : (match d with | .struct _ | .array _ _ => true | _ => false) = true) (hi : (P.info? ty).map (·.size) = some cs.size)
    (h : wpList P ops Q rest (a.put o.dst (.agg cs)) w) : wpList P ops Q (o :: rest) a w :=
  wpList_plain hgd fun _ hK => by
    unfold Oper.wp
    rw [exec_cells ty x ho ad hx cs d hg hu hd hi]
    simp [go_sem]
    exact hK _ _ h
end Go.Proofs.Ytomennaekjklbaa
