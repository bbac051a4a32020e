/- Points, plainly: a rising list, each once; by-name template (gen_cradd.py). -/
import Derived.Test.YtomennaekjklbaaCLaw
import Derived.Laws.AppendOwn
import Derived.Laws.AppendOwnNone
import Derived.Laws.OwnMore
namespace Go.Proofs.Ytomennaekjklbaa
open Go.RowKit Go.Lib Go.Sort
set_option linter.unusedVariables false
set_option linter.unusedSimpArgs false

/-- A slice of rows of k cells. -/
structure Sl {α : Type} (w : World) (k : Nat) (enc : α → List Value) (A : Option Addr) (n : Nat) (l : List α) : Prop where
  len : l.length = n
  big : n ≤ 9223372036854775807
  row : 0 < n → ∃ b off, A = some ⟨b, off, none⟩ ∧ b < w.heap.size ∧ ∀ j x, l[j]? = some x → ∀ i v, (enc x)[i]? = some v → w.cell? ⟨b, off + j * k + i, none⟩ = some v

theorem Sl.keep {α : Type} {w w' : World} {k : Nat} {enc : α → List Value} {A : Option Addr} {n : Nat} {l : List α} (h : Sl w k enc A n l) (hb : Below w.heap.size w w') : Sl w' k enc A n l :=
  ⟨h.len, h.big, fun hn => by
    obtain ⟨b, off, hA, hlt, hc⟩ := h.row hn
    exact ⟨b, off, hA, Nat.lt_of_lt_of_le hlt hb.size, fun j x hj i v hi => keepc hb (hc j x hj i v hi)⟩⟩

section
variable {α : Type} {k : Nat} {enc : α → List Value}
theorem flat_len (hk : ∀ x, (enc x).length = k) : ∀ l : List α, (l.flatMap enc).length = l.length * k
  | [] => by simp
  | x :: r => by
    have := flat_len hk r
    simp only [List.flatMap_cons, List.length_append, this, hk, List.length_cons, Nat.succ_mul]
    omega

theorem flat_get (hk : ∀ x, (enc x).length = k) : ∀ (l : List α) (j : Nat) (x : α), l[j]? = some x → ∀ (i : Nat) (v : Value), (enc x)[i]? = some v → (l.flatMap enc)[j * k + i]? = some v
  | [], j, x, h => by simp at h
  | y :: r, 0, x, h => fun i v hv => by
    simp at h; subst h
    rw [List.flatMap_cons, Nat.zero_mul, Nat.zero_add, List.getElem?_append_left (List.getElem?_eq_some_iff.1 hv).1]; exact hv
  | y :: r, j + 1, x, h => fun i v hv => by
    have := flat_get hk r j x (by simpa using h) i v hv
    rw [List.flatMap_cons, List.getElem?_append_right (by rw [hk, Nat.succ_mul]; omega), hk, show (j + 1) * k + i - k = j * k + i by rw [Nat.succ_mul]; omega]; exact this

theorem flat_inv (hk : ∀ x, (enc x).length = k) : ∀ (l : List α) (j : Nat) (v : Value), (l.flatMap enc)[j]? = some v → ∃ (q : Nat) (x : α) (i : Nat), l[q]? = some x ∧ (enc x)[i]? = some v ∧ j = q * k + i
  | [], j, v, h => by simp at h
  | y :: r, j, v, h => by
    rw [List.flatMap_cons] at h
    by_cases hj : j < k
    · rw [List.getElem?_append_left (by rw [hk]; exact hj)] at h
      exact ⟨0, y, j, rfl, h, by omega⟩
    · rw [List.getElem?_append_right (by rw [hk]; omega), hk] at h
      obtain ⟨q, x, i, h1, h2, h3⟩ := flat_inv hk r (j - k) v h
      exact ⟨q + 1, x, i, by simpa using h1, h2, by rw [Nat.succ_mul]; omega⟩

/-- A row of one's own is a slice of rows. -/
theorem sl_of_own (hk : ∀ x, (enc x).length = k) {w : World} {base n : Nat} {e : TypeId} {v : Value} {l : List α} (h : w.ownsRow base e k v n (l.flatMap enc)) (hl : l.length = n) : ∃ A cap, v = .slice A n cap ∧ Sl w k enc A n l ∧ ∀ b off sp, A = some ⟨b, off, sp⟩ → base ≤ b := by
  have h0 := h
  obtain ⟨_, h | ⟨g, cap, cur, hv, hb, hg, hn, hc, _, _⟩⟩ := h
  · obtain ⟨rfl, rfl⟩ := h
    exact ⟨none, 0, rfl, ⟨hl, by omega, fun h => absurd h (Nat.lt_irrefl _)⟩, fun b off sp h => by simp at h⟩
  · refine ⟨some ⟨g, 0, none⟩, cap, hv, ⟨hl, by unfold maxLen at hc; omega, fun _ => ⟨g, 0, rfl, (Array.getElem?_eq_some_iff.1 hg).1, fun j x hj i u hu => ?_⟩⟩, fun b off sp h => by cases h; exact hb⟩
    have := h0.cells (g := g) (by rw [hv]; rfl) (j * k + i) u (flat_get hk l j x hj i u hu)
    have e : (⟨g, 0, none⟩ : Addr).add (j * k + i) = ⟨g, 0 + j * k + i, none⟩ := by unfold Addr.add; split <;> simp_all <;> omega
    rw [e] at this
    exact this

/-- The cells of a slice of rows, as what is appended. -/
theorem Sl.news (hk : ∀ x, (enc x).length = k) {w : World} {A : Option Addr} {n : Nat} {l : List α} (h : Sl w k enc A n l) {ad : Addr} (hA : A = some ad) : ∀ j u, (l.flatMap enc)[j]? = some u → w.cell? (ad.add j) = some u := by
  intro j u hj
  obtain ⟨q, x, i, h1, h2, h3⟩ := flat_inv hk l j u hj
  have hn : 0 < n := by have := (List.getElem?_eq_some_iff.1 h1).1; rw [h.len] at this; omega
  obtain ⟨b, off, hA', _, hc⟩ := h.row hn
  rw [hA] at hA'
  cases hA'
  have := hc q x h1 i u h2
  have e : (⟨b, off, none⟩ : Addr).add j = ⟨b, off + q * k + i, none⟩ := by subst h3; unfold Addr.add; split <;> simp_all <;> omega
  rw [e]; exact this
end

def p2c (p : P2) : List Value := [.int .u64 p.h, .int .u64 p.l]
def ltP (p q : P2) : Bool := decide (cmpA p.h p.l q.h q.l < 0)
theorem P2_ext {p q : P2} (h1 : p.h = q.h) (h2 : p.l = q.l) : p = q := by cases p; cases q; simp_all
instance decP2 : DecidableEq P2 := fun p q => if h : p.h = q.h ∧ p.l = q.l then isTrue (P2_ext h.1 h.2) else isFalse (fun e => h (by rw [e]; exact ⟨rfl, rfl⟩))
/-- A number is laid into a rising list, once. -/
def addP (l : List P2) (a : P2) : List P2 := if (l.dropWhile (ltP · a)).head? = some a then l else l.takeWhile (ltP · a) ++ a :: l.dropWhile (ltP · a)
theorem ltP_iff (p q : P2) : ltP p q = true ↔ p.h < q.h ∨ (p.h = q.h ∧ p.l < q.l) := by unfold ltP; rw [decide_eq_true_eq, cmp_lt0]
theorem tw_of {p : P2 → Bool} : ∀ (l : List P2) (i : Nat), i ≤ l.length → (∀ j x, j < i → l[j]? = some x → p x = true) → (∀ x, l[i]? = some x → p x = false) → l.takeWhile p = l.take i ∧ l.dropWhile p = l.drop i
  | [], i, hi, _, _ => by have : i = 0 := by simpa using hi
                          subst this; simp
  | x :: r, 0, _, _, h0 => by
    have := h0 x rfl
    simp [this]
  | x :: r, i + 1, hi, h, h0 => by
    have hx := h 0 x (by omega) rfl
    obtain ⟨e1, e2⟩ := tw_of r i (by simpa using hi) (fun j y hj hy => h (j + 1) y (by omega) (by simpa using hy)) (fun y hy => h0 y (by simpa using hy))
    simp [hx, e1, e2]
/-- Rising, each once. -/
def Rise (l : List P2) : Prop := l.Pairwise fun p q => ltP p q = true
theorem lt_trans {p q r : P2} (h1 : ltP p q = true) (h2 : ltP q r = true) : ltP p r = true := by
  rw [ltP_iff] at *; omega
theorem lt_irrefl (p : P2) : ltP p p = false := by
  cases h : ltP p p with
  | false => rfl
  | true => rw [ltP_iff] at h; omega
theorem lt_total {p q : P2} (h1 : ltP p q = false) (h2 : ltP q p = false) : p = q := by
  have k1 := mt (ltP_iff p q).2 (by rw [h1]; exact Bool.false_ne_true)
  have k2 := mt (ltP_iff q p).2 (by rw [h2]; exact Bool.false_ne_true)
  exact P2_ext (by omega) (by omega)
theorem lt_asymm {p q : P2} (h : ltP p q = true) : ltP q p = false := by
  cases k : ltP q p with
  | false => rfl
  | true => have := lt_trans h k; rw [lt_irrefl] at this; cases this
/-- What is added is there, and what was there. -/
theorem mem_add (l : List P2) (a x : P2) : x ∈ addP l a ↔ x = a ∨ x ∈ l := by
  unfold addP
  have e : l.takeWhile (ltP · a) ++ l.dropWhile (ltP · a) = l := List.takeWhile_append_dropWhile
  split
  · rename_i h
    constructor
    · exact .inr
    · rintro (rfl | h')
      · have : x ∈ l.dropWhile (ltP · x) := by
          cases hd : l.dropWhile (ltP · x) with
          | nil => rw [hd] at h; simp at h
          | cons y r => rw [hd] at h; simp at h; subst h; simp
        rw [← e]; exact List.mem_append_right _ this
      · exact h'
  · constructor
    · intro h
      simp only [List.mem_append, List.mem_cons] at h
      rcases h with h | rfl | h
      · right; rw [← e]; exact List.mem_append_left _ h
      · left; rfl
      · right; rw [← e]; exact List.mem_append_right _ h
    · rintro (rfl | h)
      · simp
      · rw [← e] at h
        simp only [List.mem_append] at h
        simp only [List.mem_append, List.mem_cons]
        rcases h with h | h
        · exact .inl h
        · exact .inr (.inr h)
theorem tw_lt {l : List P2} {a : P2} : ∀ x ∈ l.takeWhile (ltP · a), ltP x a = true := by
  induction l with
  | nil => simp
  | cons y r ih =>
    intro x hx
    rw [List.takeWhile_cons] at hx
    by_cases hy : ltP y a = true
    · rw [if_pos hy] at hx
      rcases List.mem_cons.1 hx with rfl | hx
      · exact hy
      · exact ih x hx
    · rw [if_neg hy] at hx; simp at hx
theorem dw_ge {l : List P2} {a : P2} (hr : Rise l) (hne : (l.dropWhile (ltP · a)).head? ≠ some a) : ∀ x ∈ l.dropWhile (ltP · a), ltP a x = true := by
  induction l with
  | nil => simp
  | cons y r ih =>
    intro x hx
    rw [List.dropWhile_cons] at hx hne
    by_cases hy : ltP y a = true
    · rw [if_pos hy] at hx hne
      exact ih (List.pairwise_cons.1 hr).2 hne x hx
    · rw [if_neg hy] at hx hne
      have hya : ltP a y = true := by
        cases k : ltP a y with
        | true => rfl
        | false =>
          have := lt_total (p := y) (q := a) (by simpa using hy) k
          subst this; simp at hne
      rcases List.mem_cons.1 hx with rfl | hx
      · exact hya
      · exact lt_trans hya ((List.pairwise_cons.1 hr).1 x hx)
theorem rise_add {l : List P2} (hr : Rise l) (a : P2) : Rise (addP l a) := by
  unfold addP
  split
  · exact hr
  · rename_i hne
    have e : l.takeWhile (ltP · a) ++ l.dropWhile (ltP · a) = l := List.takeWhile_append_dropWhile
    have hr' := hr
    unfold Rise at hr' ⊢
    rw [← e, List.pairwise_append] at hr'
    obtain ⟨h1, h2, h3⟩ := hr'
    rw [List.pairwise_append, List.pairwise_cons]
    refine ⟨h1, ⟨dw_ge hr hne, h2⟩, fun x hx y hy => ?_⟩
    rcases List.mem_cons.1 hy with rfl | hy
    · exact tw_lt x hx
    · exact h3 x hx y hy
/-- Two rising lists of the same numbers are one. -/
theorem rise_ext : ∀ {l m : List P2}, Rise l → Rise m → (∀ x, x ∈ l ↔ x ∈ m) → l = m
  | [], [], _, _, _ => rfl
  | [], y :: m, _, _, h => by have := (h y).2 (by simp); simp at this
  | x :: l, [], _, _, h => by have := (h x).1 (by simp); simp at this
  | x :: l, y :: m, hl, hm, h => by
    obtain ⟨l1, l2⟩ := List.pairwise_cons.1 hl
    obtain ⟨m1, m2⟩ := List.pairwise_cons.1 hm
    have exy : x = y := by
      rcases List.mem_cons.1 ((h x).1 (by simp)) with e | hx
      · exact e
      · rcases List.mem_cons.1 ((h y).2 (by simp)) with e | hy
        · exact e.symm
        · have a1 := m1 x hx
          have a2 := l1 y hy
          rw [lt_asymm a1] at a2; cases a2
    subst exy
    congr 1
    refine rise_ext l2 m2 fun z => ?_
    constructor
    · intro hz
      rcases List.mem_cons.1 ((h z).1 (by simp [hz])) with rfl | hz'
      · have := l1 z hz; rw [lt_irrefl] at this; cases this
      · exact hz'
    · intro hz
      rcases List.mem_cons.1 ((h z).2 (by simp [hz])) with rfl | hz'
      · have := m1 z hz; rw [lt_irrefl] at this; cases this
      · exact hz'
theorem rise_fold (xs : List P2) : ∀ l, Rise l → Rise (xs.foldl addP l) ∧ ∀ x, x ∈ xs.foldl addP l ↔ x ∈ l ∨ x ∈ xs := by
  induction xs with
  | nil => intro l hl; exact ⟨hl, by simp⟩
  | cons y r ih =>
    intro l hl
    obtain ⟨h1, h2⟩ := ih (addP l y) (rise_add hl y)
    refine ⟨h1, fun x => ?_⟩
    rw [List.foldl_cons, h2 x, mem_add, List.mem_cons]
    constructor
    · rintro ((h | h) | h)
      · exact .inr (.inl h)
      · exact .inl h
      · exact .inr (.inr h)
    · rintro (h | h | h)
      · exact .inl (.inr h)
      · exact .inl (.inl h)
      · exact .inr h
theorem addP_len (l : List P2) (a : P2) : (addP l a).length ≤ l.length + 1 := by
  unfold addP
  have e : (l.takeWhile (ltP · a)).length + (l.dropWhile (ltP · a)).length = l.length := by rw [← List.length_append, List.takeWhile_append_dropWhile]
  split
  · omega
  · simp only [List.length_append, List.length_cons]; omega
end Go.Proofs.Ytomennaekjklbaa
