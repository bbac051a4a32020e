/- Rows of one's own, as slices of rows; by-name template. -/
import Derived.Test.YtmnnjkdmnfadhaaGreatDoorLBase
import Derived.Laws.AppendOwn
import Derived.Laws.AppendOwnNone
import Derived.Laws.OwnMore
namespace Go.Proofs.YtmnnjkdmnfadhaaGreatDoor
open Go.Shelf Go.RowKit Go.Lib
set_option linter.unusedVariables false
set_option linter.unusedSimpArgs false

section
variable {α : Type} {k : Nat} {enc : α → List Value}
theorem flat_len (hk : ∀ x, (enc x).length = k) : ∀ l : List α, (l.flatMap enc).length = l.length * k
  | [] => by simp
  | x :: r => by
    have := flat_len hk r
    simp only [List.flatMap_cons, List.length_append, this, hk, List.length_cons, Nat.succ_mul]
    omega
theorem flat_get (hk : ∀ x, (enc x).length = k) : ∀ (l : List α) (j : Nat) (x : α), l[j]? = some x → ∀ (i : Nat) (v : Value), (enc x)[i]? = some v → (l.flatMap enc)[j * k + i]? = some v
  | [], j, x, h => by simp at h
  | y :: r, 0, x, h => fun i v hv => by
    simp at h; subst h
    rw [List.flatMap_cons, Nat.zero_mul, Nat.zero_add, List.getElem?_append_left (List.getElem?_eq_some_iff.1 hv).1]; exact hv
  | y :: r, j + 1, x, h => fun i v hv => by
    have := flat_get hk r j x (by simpa using h) i v hv
    rw [List.flatMap_cons, List.getElem?_append_right (by rw [hk, Nat.succ_mul]; omega), hk, show (j + 1) * k + i - k = j * k + i by rw [Nat.succ_mul]; omega]; exact this
theorem flat_inv (hk : ∀ x, (enc x).length = k) : ∀ (l : List α) (j : Nat) (v : Value), (l.flatMap enc)[j]? = some v → ∃ (q : Nat) (x : α) (i : Nat), l[q]? = some x ∧ (enc x)[i]? = some v ∧ j = q * k + i
  | [], j, v, h => by simp at h
  | y :: r, j, v, h => by
    rw [List.flatMap_cons] at h
    by_cases hj : j < k
    · rw [List.getElem?_append_left (by rw [hk]; exact hj)] at h
      exact ⟨0, y, j, rfl, h, by omega⟩
    · rw [List.getElem?_append_right (by rw [hk]; omega), hk] at h
      obtain ⟨q, x, i, h1, h2, h3⟩ := flat_inv hk r (j - k) v h
      exact ⟨q + 1, x, i, by simpa using h1, h2, by rw [Nat.succ_mul]; omega⟩

/-- A row of one's own is a slice of rows. -/
theorem sl_of_own (hk : ∀ x, (enc x).length = k) {w : World} {base n : Nat} {e : TypeId} {v : Value} {l : List α} (h : w.ownsRow base e k v n (l.flatMap enc)) (hl : l.length = n) : ∃ A cap, v = .slice A n cap ∧ Sl w k enc A n l ∧ ∀ b off sp, A = some ⟨b, off, sp⟩ → base ≤ b := by
  have h0 := h
  obtain ⟨_, h | ⟨g, cap, cur, hv, hb, hg, hn, hc, _, _⟩⟩ := h
  · obtain ⟨rfl, rfl⟩ := h
    exact ⟨none, 0, rfl, ⟨hl, by omega, fun h => absurd h (Nat.lt_irrefl _)⟩, fun b off sp h => by simp at h⟩
  · refine ⟨some ⟨g, 0, none⟩, cap, hv, ⟨hl, by unfold maxLen at hc; omega, fun _ => ⟨g, 0, rfl, (Array.getElem?_eq_some_iff.1 hg).1, fun j x hj i u hu => ?_⟩⟩, fun b off sp h => by cases h; exact hb⟩
    have := h0.cells (g := g) (by rw [hv]; rfl) (j * k + i) u (flat_get hk l j x hj i u hu)
    have e : (⟨g, 0, none⟩ : Addr).add (j * k + i) = ⟨g, 0 + j * k + i, none⟩ := by unfold Addr.add; split <;> simp_all <;> omega
    rw [e] at this
    exact this
/-- The cells of a slice of rows, as what is appended. -/
theorem Sl.news (hk : ∀ x, (enc x).length = k) {w : World} {A : Option Addr} {n : Nat} {l : List α} (h : Sl w k enc A n l) {ad : Addr} (hA : A = some ad) : ∀ j u, (l.flatMap enc)[j]? = some u → w.cell? (ad.add j) = some u := by
  intro j u hj
  obtain ⟨q, x, i, h1, h2, h3⟩ := flat_inv hk l j u hj
  have hn : 0 < n := by have := (List.getElem?_eq_some_iff.1 h1).1; rw [h.len] at this; omega
  obtain ⟨b, off, hA', _, hc⟩ := h.row hn
  rw [hA] at hA'
  cases hA'
  have := hc q x h1 i u h2
  have e : (⟨b, off, none⟩ : Addr).add j = ⟨b, off + q * k + i, none⟩ := by subst h3; unfold Addr.add; split <;> simp_all <;> omega
  rw [e]; exact this
theorem Sl.set {w : World} {A : Option Addr} {n : Nat} {l : List α} (h : Sl w k enc A n l) {B : Nat} (hne : ∀ b off sp, A = some ⟨b, off, sp⟩ → b ≠ B) (o : Nat) (v : Value) : Sl (w.setCell ⟨B, o, none⟩ v) k enc A n l :=
  ⟨h.len, h.big, fun hn => by
    obtain ⟨b, off, hA, hlt, hc⟩ := h.row hn
    refine ⟨b, off, hA, by simpa [World.setCell] using hlt, fun j x hj i v hv => ?_⟩
    rw [← hc j x hj i v hv]
    have hb : b ≠ B := hne b off none hA
    refine World.cell?_of_block (w := w) ?_
    simp only [World.setCell, Array.getElem?_modify]
    rw [if_neg (fun e => hb e.symm)]⟩
theorem Sl.nil (w : World) (A : Option Addr) : Sl (α := α) w k enc A 0 [] := ⟨rfl, by omega, fun h => absurd h (Nat.lt_irrefl _)⟩
theorem set_other {w : World} {B b : Nat} (h : b ≠ B) (o : Nat) (v : Value) : (w.setCell ⟨B, o, none⟩ v).heap[b]? = w.heap[b]? := by
  simp only [World.setCell, Array.getElem?_modify]
  rw [if_neg (fun e => h e.symm)]
end
end Go.Proofs.YtmnnjkdmnfadhaaGreatDoor
