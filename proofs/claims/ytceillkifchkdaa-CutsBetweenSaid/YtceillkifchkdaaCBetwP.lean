/- CutsBetween: the walk; by-name template (gen_cbetw.py). -/
import Derived.Test.YtceillkifchkdaaCPtsA
namespace Go.Proofs.Ytceillkifchkdaa
open Go.RowKit Go.Lib Go.Sort
set_option linter.unusedVariables false
set_option linter.unusedSimpArgs false

/-- Points lie where an entry's range begins or ends. -/
theorem between {l : List EN} {b : Nat → R4} {k : Nat} (hk : k < 6) (hw : ∀ e ∈ l, WB e.bx) (p q : P2) (wp : Word p.h ∧ Word p.l) (hpq : ltP q p = false) (h1 : inR (b k) p = true) (h2 : inR (b k) q = true)
    (hno : ∀ x ∈ rptsL l b k, (decide (cmpA p.h p.l x.h x.l ≤ 0) && ltP x q) = false) (e : EN) (he : e ∈ l) (hm : mbO e.bx b = true) : inR (e.bx k) p = inR (e.bx k) q := by
  have hmem : ∀ x, x ∈ ptsE e.bx b k → x ∈ rptsL l b k := fun x hx => by
    unfold rptsL
    rw [(rise_fold _ [] List.Pairwise.nil).2]
    exact .inr (List.mem_flatMap.2 ⟨e, he, hx⟩)
  have hno' : ∀ x, x ∈ ptsE e.bx b k → ¬ ((p.h < x.h ∨ p.h = x.h ∧ p.l ≤ x.l) ∧ (x.h < q.h ∨ x.h = q.h ∧ x.l < q.l)) := fun x hx hh => by
    have := hno x (hmem x hx)
    rw [(ltP_iff x q).2 hh.2, decide_eq_true ((cmp_le0 _ _ _ _).2 hh.1)] at this
    cases this
  obtain ⟨⟨w1, w2⟩, ⟨w3, w4⟩, ⟨w5, w6⟩, ⟨w7, w8⟩⟩ := hw e he k hk
  obtain ⟨⟨v1, v2⟩, ⟨v3, v4⟩⟩ := wp
  have hnq := mt (ltP_iff q p).2 (by rw [hpq]; exact Bool.false_ne_true)
  rw [inR_iff] at h1 h2
  have e0 := ptsE_is (q := prevP (frP (e.bx k))) hm rfl
  have ic : ∀ x : P2, icB (b k) x = true ↔ ((b k).fh < x.h ∨ (b k).fh = x.h ∧ (b k).fl ≤ x.l) ∧ (x.h < (b k).th ∨ x.h = (b k).th ∧ x.l < (b k).tl) := fun x => by
    unfold icB; simp only [Bool.and_eq_true, decide_eq_true_eq, cmp_le0, cmp_lt0]
  rw [Bool.eq_iff_iff, inR_iff, inR_iff]
  constructor
  · intro hp
    refine ⟨by omega, ?_⟩
    apply Classical.byContradiction
    intro hc
    have hic : icB (b k) ⟨(e.bx k).th, (e.bx k).tl⟩ = true := (ic _).2 (by dsimp only; omega)
    have := hno' ⟨(e.bx k).th, (e.bx k).tl⟩ (by rw [e0]; unfold icL; rw [hic]; simp)
    apply this
    dsimp only
    omega
  · intro hq
    refine ⟨?_, by omega⟩
    apply Classical.byContradiction
    intro hc
    by_cases hl : (e.bx k).fl = 0
    · by_cases hh : (e.bx k).fh = 0
      · apply hc; omega
      · have hpv : prevP (frP (e.bx k)) = some ⟨(e.bx k).fh - 1, 18446744073709551615⟩ := by unfold prevP frP; dsimp only; rw [if_pos hl, if_neg hh]
        have hic : icB (b k) ⟨(e.bx k).fh - 1, 18446744073709551615⟩ = true := (ic _).2 (by dsimp only; omega)
        have := hno' ⟨(e.bx k).fh - 1, 18446744073709551615⟩ (by rw [e0, hpv, pvL_some hic]; simp)
        apply this
        dsimp only
        omega
    · have hpv : prevP (frP (e.bx k)) = some ⟨(e.bx k).fh, (e.bx k).fl - 1⟩ := by unfold prevP frP; dsimp only; rw [if_neg hl]
      have hic : icB (b k) ⟨(e.bx k).fh, (e.bx k).fl - 1⟩ = true := (ic _).2 (by dsimp only; omega)
      have := hno' ⟨(e.bx k).fh, (e.bx k).fl - 1⟩ (by rw [e0, hpv, pvL_some hic]; simp)
      apply this
      dsimp only
      omega

end Go.Proofs.Ytceillkifchkdaa
