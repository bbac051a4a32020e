/- What is found in what is left of a node; points' rows; by-name template. -/
import Derived.Test.YtomennaekjklbaaKNodes
import Derived.Test.YtomennaekjklbaaKFind2
namespace Go.Proofs.Ytomennaekjklbaa
open Go.RowKit Go.Lib Go.Sort
set_option linter.unusedVariables false
set_option linter.unusedSimpArgs false

theorem first_cons (x : EN) (r : List EN) (p : Nat → P2) : (leafF (x :: r) p).1 = if hpB x.bx p then x.ru else (leafF r p).1 := by
  unfold leafF
  rw [List.findIdx?_cons]
  cases h : hpB x.bx p with
  | true => simp
  | false =>
    simp only [Bool.false_eq_true, if_false]
    cases hf : r.findIdx? (fun x => hpB x.bx p) with
    | none => rfl
    | some k => simp
/-- What is left of a node finds what all would, for a point of its box. -/
theorem leaf_left {b : Nat → R4} {p : Nat → P2} (hp : hpB b p = true) : ∀ l : List EN, (leafF (leftP b l) p).1 = (leafF l p).1
  | [] => rfl
  | x :: r => by
    have ih := leaf_left hp r
    rw [first_cons]
    unfold leftP
    have hme := hp_me x.bx b p
    rw [hp, Bool.and_true] at hme
    cases hm : mbO x.bx b with
    | false =>
      rw [hm, Bool.false_and] at hme
      rw [if_neg (by simp), ← hme, if_neg (by simp)]; exact ih
    | true =>
      rw [if_pos rfl]
      cases hc : cvB x.bx b with
      | true => rw [if_pos rfl, first_cons, cv_hp hc hp, if_pos rfl, if_pos rfl]
      | false => rw [if_neg (by simp), first_cons, ih]
theorem encP_row {w : World} {b off i : Nat} {l : List (Nat → P2)} {x : Nat → P2} (h : ∀ j y, l[j]? = some y → ∀ t v, ((ptc y).toList)[t]? = some v → w.cell? ⟨b, off + j * 12 + t, none⟩ = some v) (hx : l[i]? = some x) :
    ∀ j v, (ptc x).toList[j]? = some v → w.cell? ((⟨b, off + i * 12, none⟩ : Addr).add j) = some v := by
  intro j v hj
  have := h i x hx j v hj
  have e : (⟨b, off + i * 12, none⟩ : Addr).add j = ⟨b, off + i * 12 + j, none⟩ := by unfold Addr.add; split <;> simp_all
  rw [e]; exact this
end Go.Proofs.Ytomennaekjklbaa

namespace Go.Proofs.Ytomennaekjklbaa
open Go.RowKit Go.Lib Go.Sort
set_option linter.unusedVariables false
set_option linter.unusedSimpArgs false

theorem hp_upd (b : Nat → R4) (k : Nat) (hk : k < 6) (r : R4) (p : Nat → P2) : hpB (upd b k r) p = true ↔ (∀ i, i < 6 → i ≠ k → inR (b i) (p i) = true) ∧ inR r (p k) = true := by
  rw [hpB_iff]
  unfold upd
  constructor
  · intro h
    refine ⟨fun i hi hne => by have := h i hi; rwa [if_neg hne] at this, by have := h k hk; rwa [if_pos rfl] at this⟩
  · rintro ⟨h1, h2⟩ i hi
    by_cases e : i = k
    · subst e; rw [if_pos rfl]; exact h2
    · rw [if_neg e]; exact h1 i hi e

theorem hp_at (b : Nat → R4) (k : Nat) (hk : k < 6) (p : Nat → P2) : hpB b p = true ↔ (∀ i, i < 6 → i ≠ k → inR (b i) (p i) = true) ∧ inR (b k) (p k) = true := by
  rw [hpB_iff]
  constructor
  · intro h; exact ⟨fun i hi _ => h i hi, h k hk⟩
  · rintro ⟨h1, h2⟩ i hi
    by_cases e : i = k
    · subst e; exact h2
    · exact h1 i hi e

/-- Each point of a box that is split is in just one of the halves. -/
theorem halves {b : Nat → R4} {k : Nat} {t : P2} {p : Nat → P2} (hk : k < 6) (hX : icB (b k) t = true) (wb : WB b) (w1 : Word t.h) (w2 : Word t.l) (wp : WP p) :
    (hpB (upd b k ⟨(b k).fh, (b k).fl, t.h, t.l⟩) p && hpB (upd b k ⟨(nx t).h, (nx t).l, (b k).th, (b k).tl⟩) p) = false ∧ (hpB (upd b k ⟨(b k).fh, (b k).fl, t.h, t.l⟩) p || hpB (upd b k ⟨(nx t).h, (nx t).l, (b k).th, (b k).tl⟩) p) = hpB b p ∧
    cvB b (upd b k ⟨(b k).fh, (b k).fl, t.h, t.l⟩) = true ∧ cvB b (upd b k ⟨(nx t).h, (nx t).l, (b k).th, (b k).tl⟩) = true := by
  obtain ⟨⟨p1, p2⟩, ⟨p3, p4⟩⟩ := wp k hk
  obtain ⟨⟨b1, b2⟩, ⟨b3, b4⟩, ⟨b5, b6⟩, ⟨b7, b8⟩⟩ := wb k hk
  obtain ⟨t1, t2⟩ := w1
  obtain ⟨t3, t4⟩ := w2
  unfold icB at hX
  simp only [Bool.and_eq_true, decide_eq_true_eq, cmp_le0, cmp_lt0] at hX
  have hn : ((nx t).h = t.h + 1 ∧ (nx t).l = 0 ∧ t.l = 18446744073709551615) ∨ ((nx t).h = t.h ∧ (nx t).l = t.l + 1 ∧ t.l ≠ 18446744073709551615) := by
    unfold nx
    by_cases e : t.l = 18446744073709551615
    · rw [if_pos e]; exact .inl ⟨rfl, rfl, e⟩
    · rw [if_neg e]; exact .inr ⟨rfl, rfl, e⟩
  have key : (inR ⟨(b k).fh, (b k).fl, t.h, t.l⟩ (p k) = true → inR ⟨(nx t).h, (nx t).l, (b k).th, (b k).tl⟩ (p k) = true → False) ∧ (inR (b k) (p k) = true ↔ inR ⟨(b k).fh, (b k).fl, t.h, t.l⟩ (p k) = true ∨ inR ⟨(nx t).h, (nx t).l, (b k).th, (b k).tl⟩ (p k) = true) := by
    simp only [inR_iff]
    refine ⟨fun h1 h2 => ?_, ⟨fun h => ?_, fun h => ?_⟩⟩
    · omega
    · omega
    · omega
  refine ⟨?_, ?_, ?_, ?_⟩
  · rw [Bool.eq_false_iff]
    intro h
    rw [Bool.and_eq_true, hp_upd b k hk, hp_upd b k hk] at h
    exact key.1 h.1.2 h.2.2
  · rw [Bool.eq_iff_iff, Bool.or_eq_true, hp_upd b k hk, hp_upd b k hk, hp_at b k hk, key.2]
    constructor
    · rintro (⟨h1, h2⟩ | ⟨h1, h2⟩)
      · exact ⟨h1, .inl h2⟩
      · exact ⟨h1, .inr h2⟩
    · rintro ⟨h1, h2 | h2⟩
      · exact .inl ⟨h1, h2⟩
      · exact .inr ⟨h1, h2⟩
  · cases hE : emB (upd b k ⟨(b k).fh, (b k).fl, t.h, t.l⟩) with
    | true => exact cvB_em hE
    | false =>
      refine (cvB_iff _ _ hE).2 fun i hi => ?_
      unfold upd
      by_cases e : i = k
      · subst e; rw [if_pos rfl]; dsimp only; omega
      · rw [if_neg e]; omega
  · cases hE : emB (upd b k ⟨(nx t).h, (nx t).l, (b k).th, (b k).tl⟩) with
    | true => exact cvB_em hE
    | false =>
      refine (cvB_iff _ _ hE).2 fun i hi => ?_
      unfold upd
      by_cases e : i = k
      · subst e; rw [if_pos rfl]; dsimp only; omega
      · rw [if_neg e]; omega


theorem leaf_cmp (l : List EN) (p : Nat → P2) : (leafF l p).2 ≤ l.length := by
  unfold leafF
  cases hf : l.findIdx? (fun x => hpB x.bx p) with
  | none => exact Nat.le_refl _
  | some k =>
    have := (List.findIdx?_eq_some_iff_getElem.1 hf)
    obtain ⟨hk, _⟩ := this
    exact hk
theorem grow_find {p : Nat → P2} (wp : WP p) : ∀ (d : Nat) (b : Nat → R4) (wb : WB b) (l : List EN) (hw : ∀ e ∈ l, WB e.bx) (may : Nat) (t : TN) (m : Nat), growP d b l may = some (t, m) → hpB b p = true →
    (findP p t).1 = (leafF l p).1 ∧ 1 ≤ (findP p t).2.1 ∧ (findP p t).2.1 ≤ d + 1 ∧ (findP p t).2.2 ≤ 8
  | d, b, wb, l, hw, may, t, m, h, hp => by
    unfold growP at h
    split at h
    · cases h
    · split at h
      · rename_i h8
        cases h
        simp only [findP]
        exact ⟨leaf_left hp l, Nat.le_refl _, by omega, Nat.le_trans (leaf_cmp _ _) h8⟩
      · rename_i h0 h8
        match d, h with
        | 0, h => cases h
        | d + 1, h =>
          simp only at h
          obtain ⟨g0, g1, g2, g3, g4⟩ := best_good hw wb (by omega : 8 < (leftP b l).length)
          have wl := wb_lo wb g3 g4
          have wh := wb_hi wb g3 g4
          have hwl : ∀ e ∈ leftP b l, WB e.bx := fun e he => hw e (left_mem he).1
          split at h
          · cases h
          · rename_i t1 m1 h1
            split at h
            · cases h
            · rename_i t2 m2 h2
              cases h
              have hic : icB (b (fldP b (leftP b l))) (atP b (leftP b l)) = true := by
                have := g3
                unfold spO at this
                rw [Int.toNat_natCast] at this
                simp only [Bool.and_eq_true] at this
                exact this.2
              have hlo : loP b (leftP b l) = upd b (fldP b (leftP b l)) ⟨(b (fldP b (leftP b l))).fh, (b (fldP b (leftP b l))).fl, (atP b (leftP b l)).h, (atP b (leftP b l)).l⟩ := by
                unfold loP spL; rw [g3, if_pos rfl, Int.toNat_natCast]
              have hhi : hiP b (leftP b l) = upd b (fldP b (leftP b l)) ⟨(nx (atP b (leftP b l))).h, (nx (atP b (leftP b l))).l, (b (fldP b (leftP b l))).th, (b (fldP b (leftP b l))).tl⟩ := by
                unfold hiP spH; rw [g3, if_pos rfl, Int.toNat_natCast]
              have hv := (halves (p := p) g1 hic wb g4.1 g4.2 wp).2.1
              rw [← hlo, ← hhi, hp] at hv
              simp only [findP]
              cases hl : hpB (loP b (leftP b l)) p with
              | true =>
                obtain ⟨e1, e2, e3, e4⟩ := grow_find wp d _ wl _ hwl _ _ _ h1 hl
                rw [if_pos rfl]
                exact ⟨by rw [e1]; exact leaf_left hp l, by simp only; omega, by simp only; omega, e4⟩
              | false =>
                rw [hl, Bool.false_or] at hv
                obtain ⟨e1, e2, e3, e4⟩ := grow_find wp d _ wh _ hwl _ _ _ h2 hv
                rw [if_neg (by simp)]
                exact ⟨by rw [e1]; exact leaf_left hp l, by simp only; omega, by simp only; omega, e4⟩
theorem grow_leafs : ∀ (d : Nat) (b : Nat → R4) (l : List EN) (may : Nat) (t : TN) (m : Nat), growP d b l may = some (t, m) → ∀ q ∈ t.leafs, q.length ≤ 8
  | d, b, l, may, t, m, h => by
    unfold growP at h
    split at h
    · cases h
    · split at h
      · rename_i h8
        cases h
        intro q hq
        simp only [TN.leafs, List.mem_singleton] at hq
        subst hq; exact h8
      · match d, h with
        | 0, h => cases h
        | d + 1, h =>
          simp only at h
          split at h
          · cases h
          · rename_i t1 m1 h1
            split at h
            · cases h
            · rename_i t2 m2 h2
              cases h
              intro q hq
              simp only [TN.leafs, List.mem_append] at hq
              rcases hq with hq | hq
              · exact grow_leafs _ _ _ _ _ _ h1 q hq
              · exact grow_leafs _ _ _ _ _ _ h2 q hq
end Go.Proofs.Ytomennaekjklbaa

namespace Go.Proofs.Ytomennaekjklbaa
open Go.RowKit Go.Lib Go.Sort
set_option linter.unusedVariables false
set_option linter.unusedSimpArgs false

/-- Which way the document goes at a place of a cut. -/
def goL (x a : P2) : Bool := decide (x.h < a.h) || (decide (x.h = a.h) && decide (x.l ≤ a.l))
def rfindP (p : Nat → P2) : TN → Int × Nat × Nat
  | .leaf l => ((leafF l p).1, 1, (leafF l p).2)
  | .inner f at' _ lo hi => if goL (p f) at' then ((rfindP p lo).1, (rfindP p lo).2.1 + 1, (rfindP p lo).2.2) else ((rfindP p hi).1, (rfindP p hi).2.1 + 1, (rfindP p hi).2.2)
def TN.fOk : TN → Prop
  | .leaf _ => True
  | .inner f _ _ lo hi => f < 6 ∧ lo.fOk ∧ hi.fOk
theorem goL_iff (x a : P2) : goL x a = true ↔ x.h < a.h ∨ x.h = a.h ∧ x.l ≤ a.l := by
  unfold goL; simp
theorem goes {b : Nat → R4} {k : Nat} {a : P2} {p : Nat → P2} (hk : k < 6) (hp : hpB b p = true) (wb : WB b) (w1 : Word a.h) (w2 : Word a.l) (wp : WP p) : hpB (upd b k ⟨(b k).fh, (b k).fl, a.h, a.l⟩) p = goL (p k) a := by
  obtain ⟨⟨p1, p2⟩, ⟨p3, p4⟩⟩ := wp k hk
  obtain ⟨⟨b1, b2⟩, ⟨b3, b4⟩, ⟨b5, b6⟩, ⟨b7, b8⟩⟩ := wb k hk
  obtain ⟨t1, t2⟩ := w1
  obtain ⟨t3, t4⟩ := w2
  obtain ⟨h1, h2⟩ := (hp_at b k hk p).1 hp
  rw [inR_iff] at h2
  rw [Bool.eq_iff_iff, hp_upd b k hk, goL_iff, inR_iff]
  constructor
  · rintro ⟨_, h⟩
    simp only at h; omega
  · intro h
    refine ⟨h1, ?_⟩
    simp only; omega
theorem grow_rfind {p : Nat → P2} (wp : WP p) : ∀ (d : Nat) (b : Nat → R4) (wb : WB b) (l : List EN) (hw : ∀ e ∈ l, WB e.bx) (may : Nat) (t : TN) (m : Nat), growP d b l may = some (t, m) → hpB b p = true → rfindP p t = findP p t
  | d, b, wb, l, hw, may, t, m, h, hp => by
    unfold growP at h
    split at h
    · cases h
    · split at h
      · cases h; rfl
      · rename_i h0 h8
        match d, h with
        | 0, h => cases h
        | d + 1, h =>
          simp only at h
          obtain ⟨g0, g1, g2, g3, g4⟩ := best_good hw wb (by omega : 8 < (leftP b l).length)
          have wl := wb_lo wb g3 g4
          have wh := wb_hi wb g3 g4
          have hwl : ∀ e ∈ leftP b l, WB e.bx := fun e he => hw e (left_mem he).1
          split at h
          · cases h
          · rename_i t1 m1 h1
            split at h
            · cases h
            · rename_i t2 m2 h2
              cases h
              have hic : icB (b (fldP b (leftP b l))) (atP b (leftP b l)) = true := by
                have := g3
                unfold spO at this
                rw [Int.toNat_natCast] at this
                simp only [Bool.and_eq_true] at this
                exact this.2
              have hlo : loP b (leftP b l) = upd b (fldP b (leftP b l)) ⟨(b (fldP b (leftP b l))).fh, (b (fldP b (leftP b l))).fl, (atP b (leftP b l)).h, (atP b (leftP b l)).l⟩ := by
                unfold loP spL; rw [g3, if_pos rfl, Int.toNat_natCast]
              have hhi : hiP b (leftP b l) = upd b (fldP b (leftP b l)) ⟨(nx (atP b (leftP b l))).h, (nx (atP b (leftP b l))).l, (b (fldP b (leftP b l))).th, (b (fldP b (leftP b l))).tl⟩ := by
                unfold hiP spH; rw [g3, if_pos rfl, Int.toNat_natCast]
              have hv := (halves (p := p) g1 hic wb g4.1 g4.2 wp).2.1
              have hg := goes (a := atP b (leftP b l)) g1 hp wb g4.1 g4.2 wp
              rw [← hlo] at hg
              rw [← hlo, ← hhi, hp] at hv
              simp only [findP, rfindP]
              rw [← hg]
              cases hl : hpB (loP b (leftP b l)) p with
              | true =>
                have e := grow_rfind wp d _ wl _ hwl _ _ _ h1 hl
                rw [if_pos rfl, if_pos rfl, e]
              | false =>
                rw [hl, Bool.false_or] at hv
                have e := grow_rfind wp d _ wh _ hwl _ _ _ h2 hv
                rw [if_neg (by simp), if_neg (by simp), e]
theorem grow_fOk : ∀ (d : Nat) (b : Nat → R4) (wb : WB b) (l : List EN) (hw : ∀ e ∈ l, WB e.bx) (may : Nat) (t : TN) (m : Nat), growP d b l may = some (t, m) → t.fOk
  | d, b, wb, l, hw, may, t, m, h => by
    unfold growP at h
    split at h
    · cases h
    · split at h
      · cases h; trivial
      · rename_i h0 h8
        match d, h with
        | 0, h => cases h
        | d + 1, h =>
          simp only at h
          obtain ⟨g0, g1, g2, g3, g4⟩ := best_good hw wb (by omega : 8 < (leftP b l).length)
          have wl := wb_lo wb g3 g4
          have wh := wb_hi wb g3 g4
          have hwl : ∀ e ∈ leftP b l, WB e.bx := fun e he => hw e (left_mem he).1
          split at h
          · cases h
          · rename_i t1 m1 h1
            split at h
            · cases h
            · rename_i t2 m2 h2
              cases h
              exact ⟨g1, grow_fOk d _ wl _ hwl _ _ _ h1, grow_fOk d _ wh _ hwl _ _ _ h2⟩
end Go.Proofs.Ytomennaekjklbaa
