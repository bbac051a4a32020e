/- The document's Points; by-name template (gen_crpts.py). -/
import Derived.Test.YtomennaekjklbaaCRAdd
import Derived.Test.YtomennaekjklbaaCSplit
namespace Go.Proofs.Ytomennaekjklbaa
open Go.RowKit Go.Lib Go.Sort
set_option linter.unusedVariables false
set_option linter.unusedSimpArgs false

structure EN where
  bx : Nat → R4
  ru : Int
def enc25 (e : EN) : List Value := (bxc e.bx).toList ++ [.int .i64 e.ru]
def prevP (p : P2) : Option P2 := if p.l = 0 then (if p.h = 0 then none else some ⟨p.h - 1, 18446744073709551615⟩) else some ⟨p.h, p.l - 1⟩
theorem prevT_eq (p : P2) : prevT p.h p.l = match prevP p with
    | none => .tuple #[.agg #[.int .u64 0, .int .u64 0], .bool false]
    | some q => .tuple #[.agg #[.int .u64 q.h, .int .u64 q.l], .bool true] := by
  unfold prevT prevP
  by_cases h : p.l = 0
  · rw [if_pos h, if_pos h]
    by_cases k : p.h = 0
    · rw [if_pos k, if_pos k]
    · rw [if_neg k, if_neg k]
  · rw [if_neg h, if_neg h]
def toP (r : R4) : P2 := ⟨r.th, r.tl⟩
def frP (r : R4) : P2 := ⟨r.fh, r.fl⟩
def icL (r : R4) (p : P2) : List P2 := if icB r p then [p] else []
def pvL (r : R4) (q : Option P2) : List P2 := match q with
  | none => []
  | some p => icL r p
/-- What an entry's box lays. -/
def ptsE (e b : Nat → R4) (k : Nat) : List P2 := if mbO e b then icL (b k) (toP (e k)) ++ pvL (b k) (prevP (frP (e k))) else []
def rptsL (l : List EN) (b : Nat → R4) (k : Nat) : List P2 := (l.flatMap fun e => ptsE e.bx b k).foldl addP []
theorem rpts_step {l : List EN} {b : Nat → R4} {k i : Nat} {x : EN} (hx : l[i]? = some x) : rptsL (l.take (i + 1)) b k = (ptsE x.bx b k).foldl addP (rptsL (l.take i) b k) := by
  unfold rptsL
  rw [List.take_add_one, hx]
  simp [List.flatMap_append, List.foldl_append]
theorem icL_len (r : R4) (p : P2) : (icL r p).length ≤ 1 := by unfold icL; split <;> simp
theorem ptsE_len (e b : Nat → R4) (k : Nat) : (ptsE e b k).length ≤ 2 := by
  unfold ptsE
  split
  · have h1 := icL_len (b k) (toP (e k))
    have h2 : (pvL (b k) (prevP (frP (e k)))).length ≤ 1 := by
      unfold pvL; split
      · simp
      · exact icL_len _ _
    rw [List.length_append]; omega
  · simp
theorem fold_len : ∀ (xs l : List P2), (xs.foldl addP l).length ≤ l.length + xs.length
  | [], l => by simp
  | x :: r, l => by
    have h1 := fold_len r (addP l x)
    have h2 := addP_len l x
    rw [List.foldl_cons, List.length_cons]; omega
theorem rpts_len (l : List EN) (b : Nat → R4) (k i : Nat) (hi : i ≤ l.length) : (rptsL (l.take i) b k).length ≤ 2 * i := by
  induction i with
  | zero => simp [rptsL]
  | succ i ih =>
    have := ih (by omega)
    have e := fold_len (ptsE (l[i]'(by omega)).bx b k) (rptsL (l.take i) b k)
    have h2 := ptsE_len (l[i]'(by omega)).bx b k
    rw [rpts_step (x := l[i]'(by omega)) (List.getElem?_eq_getElem _)]
    omega
theorem add_ne (l : List P2) (a : P2) : 0 < (addP l a).length := by
  have := (mem_add l a a).2 (.inl rfl)
  exact List.length_pos_of_mem this
theorem run_loadVar_cells {P : Program} (w : World) (ad : Addr) (ty : TypeId) (cs : Array Value) (d : TypeDesc) (hg : ∀ j v, cs.toList[j]? = some v → w.cell? (ad.add j) = some v)
    (hu : P.underlying ty = some d) (hd : (match d with | .struct _ | .array _ _ => true | _ => false) = true) (hi : (P.info? ty).map (·.size) = some cs.size) :
    (loadVar ty ad).run P w = .ok (.agg cs) w := by
  have hl : (loadCells ad cs.toList.length).run P w = .ok cs.toList.toArray w := run_loadCells_list (P := P) w ad cs.toList hg
  cases hq : P.info? ty with
  | none => simp [hq] at hi
  | some i =>
    have hs : i.size = cs.size := by simpa [hq] using hi
    have hagg : (isAgg ty).run P w = .ok true w := by
      unfold isAgg
      rw [Sem.run_bind, run_underlying hu w]
      cases d <;> simp_all
    simp only [Array.length_toList, Array.toArray_toList] at hl
    simp [loadVar, Sem.run_bind, hagg, sizeOf, typeInfo, hq, hs, hl]
theorem exec_cells {P : Program} {o : Oper} {a : Act} {W : World} (ty : TypeId) (x : Operand) (ho : o.op = .load ty x) (ad : Addr) (hx : a.eval x = .pointer (some ad)) (cs : Array Value) (d : TypeDesc) (hg : ∀ j v, cs.toList[j]? = some v → W.cell? (ad.add j) = some v)
    (hu : P.underlying ty = some d) (hd : (match d with | .struct _ | .array _ _ => true | _ => false) = true) (hi : (P.info? ty).map (·.size) = some cs.size) : (execOp a.eval o).run P W = .ok (.value (.agg cs)) W := by
  unfold execOp
  simp only [ho, hx, Instr.loadAt, Instr.sureAddr, Sem.run_bind, Sem.run_pure, Result.andThen_ok, run_loadVar_cells W ad ty cs d hg hu hd hi]
theorem en_cells {w : World} {b off i : Nat} {l : List EN} {x : EN} (h : ∀ j y, l[j]? = some y → ∀ t v, (enc25 y)[t]? = some v → w.cell? ⟨b, off + j * 25 + t, none⟩ = some v) (hx : l[i]? = some x) :
    ∀ j v, (bxc x.bx).toList[j]? = some v → w.cell? ((⟨b, off + i * 25, none⟩ : Addr).add j) = some v := by
  intro j v hj
  have hl : j < (bxc x.bx).toList.length := (List.getElem?_eq_some_iff.1 hj).1
  have := h i x hx j v (by unfold enc25; rw [List.getElem?_append_left hl]; exact hj)
  have e : (⟨b, off + i * 25, none⟩ : Addr).add j = ⟨b, off + i * 25 + j, none⟩ := by unfold Addr.add; split <;> simp_all
  rw [e]; exact this
theorem bx_at (b : Nat → R4) (k : Nat) (hk : k < 6) : (bxc b).toList[k * 4]? = some (.int .u64 (b k).fh) ∧ (bxc b).toList[k * 4 + 1]? = some (.int .u64 (b k).fl) ∧ (bxc b).toList[k * 4 + 2]? = some (.int .u64 (b k).th) ∧ (bxc b).toList[k * 4 + 3]? = some (.int .u64 (b k).tl) := by
  match k, hk with
  | 0, _ => exact ⟨rfl, rfl, rfl, rfl⟩
  | 1, _ => exact ⟨rfl, rfl, rfl, rfl⟩
  | 2, _ => exact ⟨rfl, rfl, rfl, rfl⟩
  | 3, _ => exact ⟨rfl, rfl, rfl, rfl⟩
  | 4, _ => exact ⟨rfl, rfl, rfl, rfl⟩
  | 5, _ => exact ⟨rfl, rfl, rfl, rfl⟩
theorem en_rng {w : World} {b' o : Nat} {b : Nat → R4} (h : ∀ j v, (bxc b).toList[j]? = some v → w.cell? ((⟨b', o, none⟩ : Addr).add j) = some v) (k : Nat) (hk : k < 6) :
    w.cell? ⟨b', o + k * 4, none⟩ = some (.int .u64 (b k).fh) ∧ w.cell? ⟨b', o + k * 4 + 1, none⟩ = some (.int .u64 (b k).fl) ∧ w.cell? ⟨b', o + k * 4 + 2, none⟩ = some (.int .u64 (b k).th) ∧ w.cell? ⟨b', o + k * 4 + 3, none⟩ = some (.int .u64 (b k).tl) := by
  obtain ⟨h0, h1, h2, h3⟩ := bx_at b k hk
  have e : ∀ j, (⟨b', o, none⟩ : Addr).add j = ⟨b', o + j, none⟩ := fun j => by unfold Addr.add; split <;> simp_all
  have g0 := h _ _ h0
  have g1 := h _ _ h1
  have g2 := h _ _ h2
  have g3 := h _ _ h3
  rw [e] at g0 g1 g2 g3
  exact ⟨g0, g1, g2, g3⟩
theorem ptsE_no {e b : Nat → R4} {k : Nat} (h : mbO e b = false) : ptsE e b k = [] := by unfold ptsE; rw [h]; rfl
theorem ptsE_yes {e b : Nat → R4} {k : Nat} {X : Bool} {q : Option P2} {Y : List P2} (h : mbO e b = true) (hX : icB (b k) (toP (e k)) = X) (hq : prevP (frP (e k)) = q) (hY : pvL (b k) q = Y) : ptsE e b k = (if X then [toP (e k)] else []) ++ Y := by
  unfold ptsE icL; rw [h, if_pos rfl, hX, hq, hY]
theorem pvL_none (r : R4) : pvL r none = [] := rfl
theorem pvL_some {r : R4} {q : P2} {Y : Bool} (h : icB r q = Y) : pvL r (some q) = if Y then [q] else [] := by subst h; rfl
theorem ratP_any (p q : P2) (w : World) : Calls Try.prog 35 #[.agg #[.int .u64 p.h, .int .u64 p.l], .agg #[.int .u64 q.h, .int .u64 q.l]] w fun e w' => e = .returned (.bool (decide (cmpA p.h p.l q.h q.l ≤ 0))) ∧ Below w.heap.size w w' := ratmost_any p.h p.l q.h q.l w
def PtsPost (w : World) (L : List P2) (e : Ending) (w' : World) : Prop := ∃ A c, e = .returned (.slice A L.length c) ∧ L.length ≤ c ∧ (A = none → c = 0) ∧ Sl w' 2 p2c A L.length L ∧ Below w.heap.size w w'
end Go.Proofs.Ytomennaekjklbaa
