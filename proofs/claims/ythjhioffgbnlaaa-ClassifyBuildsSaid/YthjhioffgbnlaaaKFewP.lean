/- What is found in what is left of a node; points' rows; by-name template. -/
import Derived.Test.YthjhioffgbnlaaaKNodes
import Derived.Test.YthjhioffgbnlaaaKFirst
namespace Go.Proofs.Ythjhioffgbnlaaa
open Go.RowKit Go.Lib Go.Sort
set_option linter.unusedVariables false
set_option linter.unusedSimpArgs false

theorem first_cons (x : EN) (r : List EN) (p : Nat → P2) : (leafF (x :: r) p).1 = if hpB x.bx p then x.ru else (leafF r p).1 := by
  unfold leafF
  rw [List.findIdx?_cons]
  cases h : hpB x.bx p with
  | true => simp
  | false =>
    simp only [Bool.false_eq_true, if_false]
    cases hf : r.findIdx? (fun x => hpB x.bx p) with
    | none => rfl
    | some k => simp
/-- What is left of a node finds what all would, for a point of its box. -/
theorem leaf_left {b : Nat → R4} {p : Nat → P2} (hp : hpB b p = true) : ∀ l : List EN, (leafF (leftP b l) p).1 = (leafF l p).1
  | [] => rfl
  | x :: r => by
    have ih := leaf_left hp r
    rw [first_cons]
    unfold leftP
    have hme := hp_me x.bx b p
    rw [hp, Bool.and_true] at hme
    cases hm : mbO x.bx b with
    | false =>
      rw [hm, Bool.false_and] at hme
      rw [if_neg (by simp), ← hme, if_neg (by simp)]; exact ih
    | true =>
      rw [if_pos rfl]
      cases hc : cvB x.bx b with
      | true => rw [if_pos rfl, first_cons, cv_hp hc hp, if_pos rfl, if_pos rfl]
      | false => rw [if_neg (by simp), first_cons, ih]
theorem encP_row {w : World} {b off i : Nat} {l : List (Nat → P2)} {x : Nat → P2} (h : ∀ j y, l[j]? = some y → ∀ t v, ((ptc y).toList)[t]? = some v → w.cell? ⟨b, off + j * 12 + t, none⟩ = some v) (hx : l[i]? = some x) :
    ∀ j v, (ptc x).toList[j]? = some v → w.cell? ((⟨b, off + i * 12, none⟩ : Addr).add j) = some v := by
  intro j v hj
  have := h i x hx j v hj
  have e : (⟨b, off + i * 12, none⟩ : Addr).add j = ⟨b, off + i * 12 + j, none⟩ := by unfold Addr.add; split <;> simp_all
  rw [e]; exact this
end Go.Proofs.Ythjhioffgbnlaaa
