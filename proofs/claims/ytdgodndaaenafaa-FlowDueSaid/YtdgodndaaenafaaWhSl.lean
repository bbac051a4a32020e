/- Slices of rows, and what is appended of them; by-name template. -/
import Derived.Test.YtdgodndaaenafaaWhDue
import Derived.Laws.AppendOwnNone
namespace Go.Proofs.Ytdgodndaaenafaa
open Go.RowKit Go.Lib Go.Maps
set_option linter.unusedVariables false
set_option linter.unusedSimpArgs false

theorem keepc {w0 w' : World} (h : Below w0.heap.size w0 w') {p : Addr} {v : Value} (hc : w0.cell? p = some v) : w'.cell? p = some v :=
  (World.cell?_of_block (h.block p.block (World.block_lt_of_cell? w0 p hc))).trans hc
theorem blkB {w0 w1 : World} (hb : Below w0.heap.size w0 w1) {g : Nat} {o : Obj} (h : w0.heap[g]? = some o) : w1.heap[g]? = some o := (hb.block g (blk_lt h)).trans h
/-- A slice of rows of k cells. -/
structure Sl {α : Type} (w : World) (k : Nat) (enc : α → List Value) (A : Option Addr) (n : Nat) (l : List α) : Prop where
  len : l.length = n
  big : n ≤ 9223372036854775807
  row : 0 < n → ∃ b off, A = some ⟨b, off, none⟩ ∧ b < w.heap.size ∧ ∀ j x, l[j]? = some x → ∀ i v, (enc x)[i]? = some v → w.cell? ⟨b, off + j * k + i, none⟩ = some v

theorem Sl.keep {α : Type} {w w' : World} {k : Nat} {enc : α → List Value} {A : Option Addr} {n : Nat} {l : List α} (h : Sl w k enc A n l) (hb : Below w.heap.size w w') : Sl w' k enc A n l :=
  ⟨h.len, h.big, fun hn => by
    obtain ⟨b, off, hA, hlt, hc⟩ := h.row hn
    exact ⟨b, off, hA, Nat.lt_of_lt_of_le hlt hb.size, fun j x hj i v hi => keepc hb (hc j x hj i v hi)⟩⟩

section
variable {α : Type} {k : Nat} {enc : α → List Value}
theorem flat_len (hk : ∀ x, (enc x).length = k) : ∀ l : List α, (l.flatMap enc).length = l.length * k
  | [] => by simp
  | x :: r => by
    have := flat_len hk r
    simp only [List.flatMap_cons, List.length_append, this, hk, List.length_cons, Nat.succ_mul]
    omega

theorem flat_get (hk : ∀ x, (enc x).length = k) : ∀ (l : List α) (j : Nat) (x : α), l[j]? = some x → ∀ (i : Nat) (v : Value), (enc x)[i]? = some v → (l.flatMap enc)[j * k + i]? = some v
  | [], j, x, h => by simp at h
  | y :: r, 0, x, h => fun i v hv => by
    simp at h; subst h
    rw [List.flatMap_cons, Nat.zero_mul, Nat.zero_add, List.getElem?_append_left (List.getElem?_eq_some_iff.1 hv).1]; exact hv
  | y :: r, j + 1, x, h => fun i v hv => by
    have := flat_get hk r j x (by simpa using h) i v hv
    rw [List.flatMap_cons, List.getElem?_append_right (by rw [hk, Nat.succ_mul]; omega), hk, show (j + 1) * k + i - k = j * k + i by rw [Nat.succ_mul]; omega]; exact this

theorem flat_inv (hk : ∀ x, (enc x).length = k) : ∀ (l : List α) (j : Nat) (v : Value), (l.flatMap enc)[j]? = some v → ∃ (q : Nat) (x : α) (i : Nat), l[q]? = some x ∧ (enc x)[i]? = some v ∧ j = q * k + i
  | [], j, v, h => by simp at h
  | y :: r, j, v, h => by
    rw [List.flatMap_cons] at h
    by_cases hj : j < k
    · rw [List.getElem?_append_left (by rw [hk]; exact hj)] at h
      exact ⟨0, y, j, rfl, h, by omega⟩
    · rw [List.getElem?_append_right (by rw [hk]; omega), hk] at h
      obtain ⟨q, x, i, h1, h2, h3⟩ := flat_inv hk r (j - k) v h
      exact ⟨q + 1, x, i, by simpa using h1, h2, by rw [Nat.succ_mul]; omega⟩

/-- A row of one's own is a slice of rows. -/
theorem sl_of_own (hk : ∀ x, (enc x).length = k) {w : World} {base n : Nat} {e : TypeId} {v : Value} {l : List α} (h : w.ownsRow base e k v n (l.flatMap enc)) (hl : l.length = n) : ∃ A cap, v = .slice A n cap ∧ Sl w k enc A n l ∧ ∀ b off sp, A = some ⟨b, off, sp⟩ → base ≤ b := by
  have h0 := h
  obtain ⟨_, h | ⟨g, cap, cur, hv, hb, hg, hn, hc, _, _⟩⟩ := h
  · obtain ⟨rfl, rfl⟩ := h
    exact ⟨none, 0, rfl, ⟨hl, by omega, fun h => absurd h (Nat.lt_irrefl _)⟩, fun b off sp h => by simp at h⟩
  · refine ⟨some ⟨g, 0, none⟩, cap, hv, ⟨hl, by unfold maxLen at hc; omega, fun _ => ⟨g, 0, rfl, (Array.getElem?_eq_some_iff.1 hg).1, fun j x hj i u hu => ?_⟩⟩, fun b off sp h => by cases h; exact hb⟩
    have := h0.cells (g := g) (by rw [hv]; rfl) (j * k + i) u (flat_get hk l j x hj i u hu)
    have e : (⟨g, 0, none⟩ : Addr).add (j * k + i) = ⟨g, 0 + j * k + i, none⟩ := by unfold Addr.add; split <;> simp_all <;> omega
    rw [e] at this
    exact this

/-- The cells of a slice of rows, as what is appended. -/
theorem Sl.news (hk : ∀ x, (enc x).length = k) {w : World} {A : Option Addr} {n : Nat} {l : List α} (h : Sl w k enc A n l) {ad : Addr} (hA : A = some ad) : ∀ j u, (l.flatMap enc)[j]? = some u → w.cell? (ad.add j) = some u := by
  intro j u hj
  obtain ⟨q, x, i, h1, h2, h3⟩ := flat_inv hk l j u hj
  have hn : 0 < n := by have := (List.getElem?_eq_some_iff.1 h1).1; rw [h.len] at this; omega
  obtain ⟨b, off, hA', _, hc⟩ := h.row hn
  rw [hA] at hA'
  cases hA'
  have := hc q x h1 i u h2
  have e : (⟨b, off, none⟩ : Addr).add j = ⟨b, off + q * k + i, none⟩ := by subst h3; unfold Addr.add; split <;> simp_all <;> omega
  rw [e]; exact this
end

theorem own_gt {w : World} {b size n : Nat} {e : TypeId} {v : Value} {xs : List Value} (h : w.ownsRow b e size v n xs) : ∀ q, v.ownBlock = some q → b ≤ q := fun q hq => by
  obtain ⟨h0, ⟨rfl, _⟩ | ⟨g, cap, cur, rfl, hg1, _⟩⟩ := h
  · simp [Value.ownBlock] at hq
  · simp [Value.ownBlock] at hq; omega
theorem own_cap {w : World} {b size n cap : Nat} {e : TypeId} {A : Option Addr} {xs : List Value} (h : w.ownsRow b e size (.slice A n cap) n xs) : n ≤ cap := by
  obtain ⟨h0, ⟨hv, rfl⟩ | ⟨g, cap', cur, hv, _, _, hc, _⟩⟩ := h
  · omega
  · cases hv; exact hc
theorem grown_refl (w : World) (r : Option Nat) : w.grownBy w r := ⟨rfl, rfl, rfl, Nat.le_refl _, fun _ _ _ => rfl⟩
/-- What came in (nil, too) is appended to a row of one's own. -/
theorem app_sl {P : Program} {w : World} {ops : Array Oper} {rest : List Oper} {o : Oper} {a : Act} {Q : Exit → Act → World → Prop} (hgd : o.guard = none) (s x : Operand) (t : TypeId)
    (ho : o.op = .call { callee := .builtin .append, args := #[s, x], argTypes := #[t, t] })
    (base : Nat) (e : TypeId) (i : TypeInfo) (z : Value) (size bytes : Nat) (ht : P.underlying t = some (.slice e)) (hi : P.info? e = some i) (hz : i.zero = some z)
    (hsize : i.size = size) (hby : i.bytes = bytes) (hzs : z.cells.size = size) (hsz : 0 < size)
    (v : Value) (m : Nat) (xs : List Value) (hs : a.eval s = v) (hown : w.ownsRow base e size v m xs)
    {α : Type} (enc : α → List Value) (henc : ∀ y, (enc y).length = size) (A : Option Addr) (n c : Nat) (l : List α) (hS : Sl w size enc A n l) (hc : A = none → c = 0) (hx : a.eval x = .slice A n c)
    (h1 : ∀ y, ∀ u ∈ enc y, u.oneCell' = true) (h63 : m + n ≤ maxLen) (hbytes : (m + n) * bytes ≤ 140737488355328) (hbase : base ≤ w.heap.size)
    (h : ∀ v' w', w'.ownsRow base e size v' (m + n) (xs ++ l.flatMap enc) → w.grownBy w' v.ownBlock → wpList P ops Q rest (a.put o.dst v') w') : wpList P ops Q (o :: rest) a w := by
  cases A with
  | none =>
    have hn : n = 0 := by
      apply Classical.byContradiction; intro hh
      obtain ⟨b, off, hA, _⟩ := hS.row (by omega)
      cases hA
    subst hn
    obtain rfl := hc rfl
    have e0 : l = [] := List.eq_nil_of_length_eq_zero hS.len
    subst e0
    refine wpList_append_own_none hgd s x t ho base e i size ht hi v m xs hs hown hx ?_
    exact h v w (by simpa using hown) (grown_refl w _)
  | some ad =>
    refine wpList_append_own _ hgd s x t ho base e i z size bytes ht hi hz hsize hby hzs hsz v m xs hs hown ad n c (l.flatMap enc) hx (by rw [flat_len henc, hS.len]) (hS.news henc rfl) (fun u hu => ?_) h63 hbytes hbase fun v' w' h2 h3 _ => h v' w' h2 h3
    obtain ⟨y, _, hy⟩ := List.mem_flatMap.1 hu
    exact h1 y u hy
theorem Sl.cut {α : Type} {w : World} {k : Nat} {enc : α → List Value} {A : Option Addr} {n m : Nat} {l : List α} (h : Sl w k enc A n l) (hm : m ≤ n) : Sl w k enc A m (l.take m) :=
  ⟨by rw [List.length_take, h.len]; omega, by have := h.big; omega, fun hp => by
    obtain ⟨b, off, hA, hlt, hc⟩ := h.row (by omega)
    refine ⟨b, off, hA, hlt, fun j x hj i v hi => hc j x ?_ i v hi⟩
    rw [List.getElem?_take] at hj
    split at hj
    · exact hj
    · cases hj⟩
theorem Sl.dropG {α : Type} {k : Nat} {enc : α → List Value} {w : World} {b off n i : Nat} {l : List α} (h : Sl w k enc (some ⟨b, off, none⟩) n l) (hi : i ≤ n) : Sl w k enc (some ⟨b, off + i * k, none⟩) (n - i) (l.drop i) :=
  ⟨by rw [List.length_drop, h.len], by have := h.big; omega, fun hn => by
    obtain ⟨b', off', hA, hlt, hc⟩ := h.row (by omega)
    cases hA
    refine ⟨b, off + i * k, rfl, hlt, fun j x hj t v hv => ?_⟩
    rw [List.getElem?_drop] at hj
    rw [← hc (i + j) x hj t v hv, Nat.add_mul]
    congr 2; omega⟩
theorem Sl.none {α : Type} {k : Nat} {enc : α → List Value} {w : World} (A : Option Addr) : Sl w k enc A 0 [] := ⟨rfl, by omega, fun h => absurd h (Nat.lt_irrefl _)⟩
theorem Sl.off {α : Type} {k : Nat} {enc : α → List Value} {w w' : World} {A : Option Addr} {n : Nat} {l : List α} {T : Nat → Prop} (h : Sl w k enc A n l) (o : OffS T w w') (hA : ∀ b off sp, A = some ⟨b, off, sp⟩ → ¬ T b) : Sl w' k enc A n l :=
  ⟨h.len, h.big, fun hn => by
    obtain ⟨b, off, hA', hlt, hc⟩ := h.row hn
    exact ⟨b, off, hA', Nat.lt_of_lt_of_le hlt o.size, fun j x hj i v hi => (World.cell?_of_block (o.block b hlt (hA b off _ hA'))).trans (hc j x hj i v hi)⟩⟩
end Go.Proofs.Ytdgodndaaenafaa
