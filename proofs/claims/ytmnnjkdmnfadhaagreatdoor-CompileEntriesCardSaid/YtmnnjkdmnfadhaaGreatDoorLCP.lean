/- The first thing wrong in a row, plain; by-name template. -/
import Derived.Test.YtmnnjkdmnfadhaaGreatDoorLBase
namespace Go.Proofs.YtmnnjkdmnfadhaaGreatDoor
open Go.Shelf Go.RowKit Go.Lib
set_option linter.unusedVariables false
set_option linter.unusedSimpArgs false

def firstAt {α : Type} (chk : α → List α → Int) : List α → List α → Int
  | _, [] => 0
  | a, x :: r => if chk x a = 0 then firstAt chk (a ++ [x]) r else chk x a
def firstP {α : Type} (chk : α → List α → Int) (l : List α) : Int := firstAt chk [] l

theorem firstAt_all {α : Type} {chk : α → List α → Int} : ∀ (l a : List α), (∀ (j : Nat) (x : α), l[j]? = some x → chk x (a ++ l.take j) = 0) → firstAt chk a l = 0
  | [], _, _ => rfl
  | x :: r, a, h => by
    have h0 : chk x a = 0 := by simpa using h 0 x rfl
    unfold firstAt
    rw [if_pos h0]
    exact firstAt_all r (a ++ [x]) fun j y hj => by simpa using h (j + 1) y (by simpa using hj)
theorem firstAt_hit {α : Type} {chk : α → List α → Int} : ∀ (l a : List α) (k : Nat) (x : α), l[k]? = some x → chk x (a ++ l.take k) ≠ 0 → (∀ (j : Nat) (y : α), j < k → l[j]? = some y → chk y (a ++ l.take j) = 0) → firstAt chk a l = chk x (a ++ l.take k)
  | [], _, _, _, h, _, _ => by simp at h
  | y :: r, a, 0, x, h, hx, _ => by
    simp at h; subst h
    unfold firstAt
    rw [if_neg (by simpa using hx)]
    simp
  | y :: r, a, k + 1, x, h, hx, hn => by
    have h0 : chk y a = 0 := by simpa using hn 0 y (by omega) rfl
    unfold firstAt
    rw [if_pos h0]
    have := firstAt_hit r (a ++ [y]) k x (by simpa using h) (by simpa using hx) fun j z hj hz => by simpa using hn (j + 1) z (by omega) (by simpa using hz)
    simpa using this
theorem firstP_all {α : Type} {chk : α → List α → Int} {l : List α} (h : ∀ (j : Nat) (x : α), l[j]? = some x → chk x (l.take j) = 0) : firstP chk l = 0 :=
  firstAt_all l [] fun j x hj => by simpa using h j x hj
theorem firstP_hit {α : Type} {chk : α → List α → Int} {l : List α} {k : Nat} {x : α} (h : l[k]? = some x) (hx : chk x (l.take k) ≠ 0) (hn : ∀ (j : Nat) (y : α), j < k → l[j]? = some y → chk y (l.take j) = 0) : firstP chk l = chk x (l.take k) := by
  have := firstAt_hit l [] k x h (by simpa using hx) fun j y hj hy => by simpa using hn j y hj hy
  unfold firstP; simpa using this
theorem getE {α : Type} {l : List α} {k : Nat} {x : α} (h : l[k]? = some x) : k < l.length := (List.getElem?_eq_some_iff.1 h).1
def isAny (s : ByteArray) : Bool := s.toList == [97, 110, 121]
def eqs (a b : ByteArray) : Bool := a.toList == b.toList
theorem find_hit {α : Type} {p : α → Bool} {l : List α} {k : Nat} {x : α} (h : l[k]? = some x) (hp : p x = true) (hn : ∀ (j : Nat) (y : α), j < k → l[j]? = some y → p y = false) : l.find? p = some x := by
  induction l generalizing k with
  | nil => simp at h
  | cons a r ih =>
    cases k with
    | zero => simp at h; subst h; simp [hp]
    | succ k =>
      have ha : p a = false := hn 0 a (by omega) rfl
      rw [List.find?_cons_of_neg (by simp [ha])]
      exact ih (by simpa using h) fun j y hj hy => hn (j + 1) y (by omega) (by simpa using hy)
theorem find_miss {α : Type} {p : α → Bool} {l : List α} (h : ∀ (j : Nat) (x : α), l[j]? = some x → p x = false) : l.find? p = none := by
  rw [List.find?_eq_none]
  intro x hx
  obtain ⟨j, hj⟩ := List.getElem?_of_mem hx
  simp [h j x hj]
theorem ret_bool {a b : Bool} (h : a = b) : Ending.returned (.bool a) = Ending.returned (.bool b) := by rw [h]
theorem any_none {α : Type} {p : α → Bool} {l : List α} (h : l.find? p = none) : l.any p = false := by
  rw [List.any_eq_false]; intro x hx; simpa using List.find?_eq_none.1 h x hx
theorem any_some {α : Type} {p : α → Bool} {l : List α} {x : α} (h : l.find? p = some x) : l.any p = true := by
  rw [List.any_eq_true]; exact ⟨x, List.mem_of_find?_eq_some h, by simpa using List.find?_some h⟩
/-- The first rows of a slice. -/
theorem Sl.front {α : Type} {w : World} {k : Nat} {enc : α → List Value} {A : Option Addr} {n : Nat} {l : List α} (h : Sl w k enc A n l) {i : Nat} (hi : i ≤ n) : Sl w k enc A i (l.take i) :=
  ⟨by rw [List.length_take, h.len]; omega, by have := h.big; omega, fun h0 => by
    obtain ⟨b, off, hA, hlt, hc⟩ := h.row (by omega)
    exact ⟨b, off, hA, hlt, fun j x hj => hc j x (by
      rw [List.getElem?_take] at hj
      split at hj
      · exact hj
      · simp at hj)⟩⟩
end Go.Proofs.YtmnnjkdmnfadhaaGreatDoor
