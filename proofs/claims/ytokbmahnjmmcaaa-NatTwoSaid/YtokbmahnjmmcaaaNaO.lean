/- Rows of keys of one's own; rows of one's own, as slices of rows; by-name template. -/
import Derived.Test.YtokbmahnjmmcaaaNaF0
import Derived.Test.YtokbmahnjmmcaaaNaR4
import Derived.Test.YtokbmahnjmmcaaaRFrame
import Derived.Laws.AppendOwn
import Derived.Laws.AppendOwnNone
import Derived.Laws.OwnMore
namespace Go.Proofs.Ytokbmahnjmmcaaa
open Go.Shelf Go.RowKit Go.Lib
set_option linter.unusedVariables false
set_option linter.unusedSimpArgs false

section
variable {α : Type} {k : Nat} {enc : α → List Value}
theorem flat_len (hk : ∀ x, (enc x).length = k) : ∀ l : List α, (l.flatMap enc).length = l.length * k
  | [] => by simp
  | x :: r => by
    have := flat_len hk r
    simp only [List.flatMap_cons, List.length_append, this, hk, List.length_cons, Nat.succ_mul]
    omega
theorem flat_get (hk : ∀ x, (enc x).length = k) : ∀ (l : List α) (j : Nat) (x : α), l[j]? = some x → ∀ (i : Nat) (v : Value), (enc x)[i]? = some v → (l.flatMap enc)[j * k + i]? = some v
  | [], j, x, h => by simp at h
  | y :: r, 0, x, h => fun i v hv => by
    simp at h; subst h
    rw [List.flatMap_cons, Nat.zero_mul, Nat.zero_add, List.getElem?_append_left (List.getElem?_eq_some_iff.1 hv).1]; exact hv
  | y :: r, j + 1, x, h => fun i v hv => by
    have := flat_get hk r j x (by simpa using h) i v hv
    rw [List.flatMap_cons, List.getElem?_append_right (by rw [hk, Nat.succ_mul]; omega), hk, show (j + 1) * k + i - k = j * k + i by rw [Nat.succ_mul]; omega]; exact this
theorem flat_inv (hk : ∀ x, (enc x).length = k) : ∀ (l : List α) (j : Nat) (v : Value), (l.flatMap enc)[j]? = some v → ∃ (q : Nat) (x : α) (i : Nat), l[q]? = some x ∧ (enc x)[i]? = some v ∧ j = q * k + i
  | [], j, v, h => by simp at h
  | y :: r, j, v, h => by
    rw [List.flatMap_cons] at h
    by_cases hj : j < k
    · rw [List.getElem?_append_left (by rw [hk]; exact hj)] at h
      exact ⟨0, y, j, rfl, h, by omega⟩
    · rw [List.getElem?_append_right (by rw [hk]; omega), hk] at h
      obtain ⟨q, x, i, h1, h2, h3⟩ := flat_inv hk r (j - k) v h
      exact ⟨q + 1, x, i, by simpa using h1, h2, by rw [Nat.succ_mul]; omega⟩

/-- A row of one's own is a slice of rows. -/
theorem sl_of_own (hk : ∀ x, (enc x).length = k) {w : World} {base n : Nat} {e : TypeId} {v : Value} {l : List α} (h : w.ownsRow base e k v n (l.flatMap enc)) (hl : l.length = n) : ∃ A cap, v = .slice A n cap ∧ Sl w k enc A n l ∧ ∀ b off sp, A = some ⟨b, off, sp⟩ → base ≤ b := by
  have h0 := h
  obtain ⟨_, h | ⟨g, cap, cur, hv, hb, hg, hn, hc, _, _⟩⟩ := h
  · obtain ⟨rfl, rfl⟩ := h
    exact ⟨none, 0, rfl, ⟨hl, by omega, fun h => absurd h (Nat.lt_irrefl _)⟩, fun b off sp h => by simp at h⟩
  · refine ⟨some ⟨g, 0, none⟩, cap, hv, ⟨hl, by unfold maxLen at hc; omega, fun _ => ⟨g, 0, rfl, (Array.getElem?_eq_some_iff.1 hg).1, fun j x hj i u hu => ?_⟩⟩, fun b off sp h => by cases h; exact hb⟩
    have := h0.cells (g := g) (by rw [hv]; rfl) (j * k + i) u (flat_get hk l j x hj i u hu)
    have e : (⟨g, 0, none⟩ : Addr).add (j * k + i) = ⟨g, 0 + j * k + i, none⟩ := by unfold Addr.add; split <;> simp_all <;> omega
    rw [e] at this
    exact this
/-- The cells of a slice of rows, as what is appended. -/
theorem Sl.news (hk : ∀ x, (enc x).length = k) {w : World} {A : Option Addr} {n : Nat} {l : List α} (h : Sl w k enc A n l) {ad : Addr} (hA : A = some ad) : ∀ j u, (l.flatMap enc)[j]? = some u → w.cell? (ad.add j) = some u := by
  intro j u hj
  obtain ⟨q, x, i, h1, h2, h3⟩ := flat_inv hk l j u hj
  have hn : 0 < n := by have := (List.getElem?_eq_some_iff.1 h1).1; rw [h.len] at this; omega
  obtain ⟨b, off, hA', _, hc⟩ := h.row hn
  rw [hA] at hA'
  cases hA'
  have := hc q x h1 i u h2
  have e : (⟨b, off, none⟩ : Addr).add j = ⟨b, off + q * k + i, none⟩ := by subst h3; unfold Addr.add; split <;> simp_all <;> omega
  rw [e]; exact this
theorem Sl.set {w : World} {A : Option Addr} {n : Nat} {l : List α} (h : Sl w k enc A n l) {B : Nat} (hne : ∀ b off sp, A = some ⟨b, off, sp⟩ → b ≠ B) (o : Nat) (v : Value) : Sl (w.setCell ⟨B, o, none⟩ v) k enc A n l :=
  ⟨h.len, h.big, fun hn => by
    obtain ⟨b, off, hA, hlt, hc⟩ := h.row hn
    refine ⟨b, off, hA, by simpa [World.setCell] using hlt, fun j x hj i v hv => ?_⟩
    rw [← hc j x hj i v hv]
    have hb : b ≠ B := hne b off none hA
    refine World.cell?_of_block (w := w) ?_
    simp only [World.setCell, Array.getElem?_modify]
    rw [if_neg (fun e => hb e.symm)]⟩
theorem Sl.nil (w : World) (A : Option Addr) : Sl (α := α) w k enc A 0 [] := ⟨rfl, by omega, fun h => absurd h (Nat.lt_irrefl _)⟩
end
theorem own_bel {w w' : World} {b size n : Nat} {e : TypeId} {v : Value} {xs : List Value} (h : w.ownsRow b e size v n xs) (hb : Below w.heap.size w w') : w'.ownsRow b e size v n xs := by
  obtain ⟨h0, h | ⟨g, cap, cur, hv, hg1, hg, r⟩⟩ := h
  · exact ⟨h0, .inl h⟩
  · exact ⟨h0, .inr ⟨g, cap, cur, hv, hg1, kb hb hg, r⟩⟩

theorem own_gt {w : World} {b size n : Nat} {e : TypeId} {v : Value} {xs : List Value} (h : w.ownsRow b e size v n xs) : ∀ q, v.ownBlock = some q → b ≤ q := fun q hq => by
  obtain ⟨h0, ⟨rfl, _⟩ | ⟨g, cap, cur, rfl, hg1, _⟩⟩ := h
  · simp [Value.ownBlock] at hq
  · simp [Value.ownBlock] at hq; omega

theorem own_cap {w : World} {b size n cap : Nat} {e : TypeId} {A : Option Addr} {xs : List Value} (h : w.ownsRow b e size (.slice A n cap) n xs) : n ≤ cap := by
  obtain ⟨h0, ⟨hv, rfl⟩ | ⟨g, cap', cur, hv, _, _, hc, _⟩⟩ := h
  · omega
  · cases hv; exact hc
theorem grown_refl (w : World) (r : Option Nat) : w.grownBy w r := ⟨rfl, rfl, rfl, Nat.le_refl _, fun _ _ _ => rfl⟩

/-- What came in (nil, too) is appended to a row of one's own. -/
theorem app_sl {P : Program} {w : World} {ops : Array Oper} {rest : List Oper} {o : Oper} {a : Act} {Q : Exit → Act → World → Prop} (hgd : o.guard = none) (s x : Operand) (t : TypeId)
    (ho : o.op = .call { callee := .builtin .append, args := #[s, x], argTypes := #[t, t] })
    (base : Nat) (e : TypeId) (i : TypeInfo) (z : Value) (size bytes : Nat) (ht : P.underlying t = some (.slice e)) (hi : P.info? e = some i) (hz : i.zero = some z)
    (hsize : i.size = size) (hby : i.bytes = bytes) (hzs : z.cells.size = size) (hsz : 0 < size)
    (v : Value) (m : Nat) (xs : List Value) (hs : a.eval s = v) (hown : w.ownsRow base e size v m xs)
    {α : Type} (enc : α → List Value) (henc : ∀ y, (enc y).length = size) (A : Option Addr) (n c : Nat) (l : List α) (hS : Sl w size enc A n l) (hc : A = none → c = 0) (hx : a.eval x = .slice A n c)
    (h1 : ∀ y, ∀ u ∈ enc y, u.oneCell' = true) (h63 : m + n ≤ maxLen) (hbytes : (m + n) * bytes ≤ 140737488355328) (hbase : base ≤ w.heap.size)
    (h : ∀ v' w', w'.ownsRow base e size v' (m + n) (xs ++ l.flatMap enc) → w.grownBy w' v.ownBlock → wpList P ops Q rest (a.put o.dst v') w') : wpList P ops Q (o :: rest) a w := by
  cases A with
  | none =>
    have hn : n = 0 := by
      apply Classical.byContradiction; intro hh
      obtain ⟨b, off, hA, _⟩ := hS.row (by omega)
      cases hA
    subst hn
    obtain rfl := hc rfl
    have e0 : l = [] := List.eq_nil_of_length_eq_zero hS.len
    subst e0
    refine wpList_append_own_none hgd s x t ho base e i size ht hi v m xs hs hown hx ?_
    exact h v w (by simpa using hown) (grown_refl w _)
  | some ad =>
    refine wpList_append_own _ hgd s x t ho base e i z size bytes ht hi hz hsize hby hzs hsz v m xs hs hown ad n c (l.flatMap enc) hx (by rw [flat_len henc, hS.len]) (hS.news henc rfl) (fun u hu => ?_) h63 hbytes hbase fun v' w' h2 h3 _ => h v' w' h2 h3
    obtain ⟨y, _, hy⟩ := List.mem_flatMap.1 hu
    exact h1 y u hy

theorem run_bs0 (w : World) : (Instr.buildSlice 64 0 #[]).run Try.prog w = .ok (.slice (some ⟨w.heap.size, 0, none⟩) 0 0) (w.alloc (.cells #[] 35)) := by kernel_rfl
theorem wpList_bs0 {ops : Array Oper} {rest : List Oper} {o : Oper} {a : Act} {w : World} {Q : Exit → Act → World → Prop} (hgd : o.guard = none) (ho : o.op = .buildSlice 64 0 #[])
    (h : wpList Try.prog ops Q rest (a.put o.dst (.slice (some ⟨w.heap.size, 0, none⟩) 0 0)) (w.alloc (.cells #[] 35))) : wpList Try.prog ops Q (o :: rest) a w :=
  wpList_plain hgd fun _ hK => by
    unfold Oper.wp
    have e : (execOp a.eval o).run Try.prog w = .ok (.value (.slice (some ⟨w.heap.size, 0, none⟩) 0 0)) (w.alloc (.cells #[] 35)) := by
      unfold execOp
      simp only [ho, List.map_toArray, List.map_nil, Sem.run_bind, Sem.run_pure, Result.andThen_ok, run_bs0]
    rw [e]
    simp [go_sem]
    exact hK _ _ h
theorem key_len (k : KR) : (krc k).length = 7 := rfl
theorem key_one (k : KR) : ∀ u ∈ krc k, u.oneCell' = true := by unfold krc; simp [Value.oneCell']
theorem key_news (w : World) (k : KR) (t : TypeId) : ∀ j u, (krc k)[j]? = some u → (w.alloc (.cells (KA k) t)).cell? ((⟨w.heap.size, 0, none⟩ : Addr).add j) = some u := by
  intro j u hj
  exact blk_all (al_new rfl (.cells (KA k) t)) j u hj
theorem key_info : (Try.prog.info? 35).map (fun i => (i.zero, i.size, i.bytes)) = some (some (.agg (KA zK)), 7, 56) := by kernel_rfl
theorem info_key : ∃ i : TypeInfo, Try.prog.info? 35 = some i ∧ i.zero = some (.agg (KA zK)) ∧ i.size = 7 ∧ i.bytes = 56 := by
  have h := key_info
  cases hq : Try.prog.info? 35 with
  | none => rw [hq] at h; cases h
  | some i =>
    rw [hq] at h
    simp only [Option.map_some, Option.some.injEq, Prod.mk.injEq] at h
    exact ⟨i, rfl, h.1, h.2.1, h.2.2⟩
end Go.Proofs.Ytokbmahnjmmcaaa
