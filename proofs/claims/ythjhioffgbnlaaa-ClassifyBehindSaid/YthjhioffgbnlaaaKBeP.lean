/- What lies behind an entry that covers the box is cut off; by-name template. -/
import Derived.Test.YthjhioffgbnlaaaKBuild
namespace Go.Proofs.Ythjhioffgbnlaaa
open Go.RowKit Go.Lib Go.Sort
set_option linter.unusedVariables false
set_option linter.unusedSimpArgs false

theorem left_behind (b : Nat → R4) (hE : emB b = false) (x : EN) (hx : cvB x.bx b = true) (m : List EN) : ∀ l : List EN, leftP b (l ++ x :: m) = leftP b (l ++ [x])
  | [] => by
    show leftP b (x :: m) = leftP b [x]
    unfold leftP
    rw [cv_mb hE hx, hx, if_pos rfl, if_pos rfl, if_pos rfl, if_pos rfl]
  | y :: r => by
    have ih := left_behind b hE x hx m r
    show leftP b (y :: (r ++ x :: m)) = leftP b (y :: (r ++ [x]))
    unfold leftP
    rw [ih]
theorem growP_left {b : Nat → R4} {l l' : List EN} (h : leftP b l = leftP b l') (d may : Nat) : growP d b l may = growP d b l' may := by
  cases d <;> (unfold growP; rw [h])
theorem em_full : emB fullB = false := by decide
theorem tree_behind (l : List EN) (x : EN) (hx : x.bx = fullB) (m : List EN) : treeP (l ++ x :: m) = treeP (l ++ [x]) := by
  unfold treeP
  exact growP_left (left_behind fullB em_full x (by rw [hx]; exact cvB_full wb_full) m l) 23 512
theorem left_behind_len (l : List EN) (x : EN) (hx : x.bx = fullB) (m : List EN) : (leftP fullB (l ++ x :: m)).length ≤ l.length + 1 := by
  rw [left_behind fullB em_full x (by rw [hx]; exact cvB_full wb_full) m l]
  have := left_len fullB (l ++ [x])
  simpa using this
end Go.Proofs.Ythjhioffgbnlaaa
