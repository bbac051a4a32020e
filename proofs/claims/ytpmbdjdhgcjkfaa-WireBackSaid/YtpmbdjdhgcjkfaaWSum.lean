/- The check sum of the Internet, plain: words of two bytes, added up and folded. By-name template. -/
import Derived.IntWalk
namespace Go.Proofs.Ytpmbdjdhgcjkfaa
set_option linter.unusedVariables false

/-- A list's words of two bytes, added up. -/
def w16 : List UInt8 → Nat
  | [] => 0
  | [a] => a.toNat * 256
  | a :: b :: r => a.toNat * 256 + b.toNat + w16 r

/-- What stands above sixteen bits is added below. -/
def f16 (n : Nat) : Nat := if n ≤ 65535 then n else f16 (n / 65536 + n % 65536)
termination_by n
decreasing_by omega

theorem f16_mod : ∀ n, f16 n = if n = 0 then 0 else (n - 1) % 65535 + 1 := by
  intro n
  induction n using Nat.strongRecOn with
  | _ n ih =>
    rw [f16]
    by_cases h : n ≤ 65535
    · rw [if_pos h]; split <;> omega
    · rw [if_neg h, ih _ (by omega), if_neg (by omega), if_neg (by omega)]
      omega

theorem f16_le (n : Nat) : f16 n ≤ 65535 := by rw [f16_mod]; split <;> omega

def sumP (l : List UInt8) : Nat := 65535 - f16 (w16 l)

theorem sumP_le (l : List UInt8) : sumP l ≤ 65535 := by unfold sumP; omega

theorem w16_le : ∀ l : List UInt8, w16 l ≤ 65535 * l.length
  | [] => by simp [w16]
  | [a] => by have := a.toNat_lt; simp [w16]; omega
  | a :: b :: r => by
    have := a.toNat_lt; have := b.toNat_lt; have := w16_le r
    simp only [w16, List.length_cons]; omega

theorem w16_app : ∀ (l m : List UInt8), l.length % 2 = 0 → w16 (l ++ m) = w16 l + w16 m
  | [], m, _ => by simp [w16]
  | [a], m, h => by simp at h
  | a :: b :: r, m, h => by
    have ih := w16_app r m (by simp at h; omega)
    simp only [List.cons_append, w16, ih]; omega

theorem w16_pad : ∀ (l : List UInt8), l.length % 2 = 1 → w16 (l ++ [0]) = w16 l
  | [], h => by simp at h
  | [a], _ => by simp [w16]
  | a :: b :: r, h => by
    have ih := w16_pad r (by simp at h; omega)
    simp only [List.cons_append, w16, ih]

theorem w16_set : ∀ (l : List UInt8) (j : Nat) (v x : UInt8), l[2 * j]? = some x → w16 (l.set (2 * j) v) + x.toNat * 256 = w16 l + v.toNat * 256
  | [], j, v, x, h => by simp at h
  | [a], 0, v, x, h => by simp at h; subst h; simp [w16]; omega
  | [a], j + 1, v, x, h => by simp at h
  | a :: b :: r, 0, v, x, h => by simp at h; subst h; simp [w16]; omega
  | a :: b :: r, j + 1, v, x, h => by
    have e : 2 * (j + 1) = 2 * j + 1 + 1 := by omega
    rw [e] at h ⊢
    have ih := w16_set r j v x (by simpa using h)
    simp only [List.set_cons_succ, w16]; omega

/-- Two bytes at even places that change places. -/
theorem w16_swap {l : List UInt8} {i k : Nat} {x y : UInt8} (hi : l[2 * i]? = some x) (hk : l[2 * k]? = some y) : w16 ((l.set (2 * i) y).set (2 * k) x) = w16 l := by
  have h1 := w16_set l i y x hi
  have hk2 : (l.set (2 * i) y)[2 * k]? = some y := by
    rw [List.getElem?_set]
    split
    · rw [if_pos]; exact (List.getElem?_eq_some_iff.1 hi).1
    · exact hk
  have h2 := w16_set (l.set (2 * i) y) k x y hk2
  omega

theorem f16_own (W : Nat) : f16 (W + (65535 - f16 W)) = 65535 := by
  rw [f16_mod W, f16_mod]
  split <;> split <;> omega

/-- A list of whole words with its own sum behind comes to 0. -/
theorem sumP_own {l : List UInt8} (h : l.length % 2 = 0) {a b : UInt8} (hab : a.toNat * 256 + b.toNat = sumP l) : sumP (l ++ [a, b]) = 0 := by
  unfold sumP
  rw [w16_app l _ h, show w16 [a, b] = a.toNat * 256 + b.toNat by simp [w16], hab]
  unfold sumP
  rw [f16_own]

/-- A row of bytes as a number, the highest first. -/
def numB (l : List UInt8) : Nat := l.foldl (fun n x => n * 256 + x.toNat) 0

theorem snoc_ind {α : Type} {P : List α → Prop} (h0 : P []) (h1 : ∀ l x, P l → P (l ++ [x])) : ∀ l, P l := by
  have key : ∀ l : List α, P l.reverse := by
    intro l
    induction l with
    | nil => exact h0
    | cons x l ih => rw [List.reverse_cons]; exact h1 _ x ih
  intro l
  have := key l.reverse
  rwa [List.reverse_reverse] at this

theorem numB_snoc (l : List UInt8) (x : UInt8) : numB (l ++ [x]) = numB l * 256 + x.toNat := by simp [numB]
theorem numB_lt (l : List UInt8) : numB l < 256 ^ l.length := by
  refine snoc_ind (P := fun l => numB l < 256 ^ l.length) ?_ ?_ l
  · simp [numB]
  · intro l x ih
    rw [numB_snoc, List.length_append, List.length_singleton, Nat.pow_succ]
    have := x.toNat_lt
    have := Nat.mul_le_mul_right 256 ih
    omega

theorem w16_take (l : List UInt8) (k : Nat) (x y : UInt8) (hx : l[2 * k]? = some x) (hy : l[2 * k + 1]? = some y) : w16 (l.take (2 * k + 2)) = w16 (l.take (2 * k)) + (x.toNat * 256 + y.toNat) := by
  have e : l.take (2 * k + 2) = l.take (2 * k) ++ [x, y] := by
    rw [show 2 * k + 2 = 2 * k + 1 + 1 by omega, List.take_add_one, List.take_add_one, hx, hy]; simp
  have h1 := (List.getElem?_eq_some_iff.1 hx).1
  rw [e, w16_app _ _ (by rw [List.length_take]; omega)]
  simp [w16]
theorem w16_last (l : List UInt8) (k : Nat) (x : UInt8) (hl : l.length = 2 * k + 1) (hx : l[2 * k]? = some x) : w16 l = w16 (l.take (2 * k)) + x.toNat * 256 := by
  have e : l = l.take (2 * k) ++ [x] := by
    have := List.take_add_one (l := l) (i := 2 * k)
    rw [hx, List.take_of_length_le (by omega)] at this
    simpa using this
  have e2 : w16 l = w16 (l.take (2 * k) ++ [x]) := by rw [← e]
  rw [e2, w16_app _ _ (by rw [List.length_take]; omega)]
  simp [w16]
end Go.Proofs.Ytpmbdjdhgcjkfaa
