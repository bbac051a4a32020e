/- The document's Find, plain: down by the place of a cut; by-name template. -/
import Derived.Test.YthjhioffgbnlaaaKFiP
namespace Go.Proofs.Ythjhioffgbnlaaa
open Go.RowKit Go.Lib Go.Sort
set_option linter.unusedVariables false
set_option linter.unusedSimpArgs false

/-- Which way the document goes at a place of a cut. -/
def goL (x a : P2) : Bool := decide (x.h < a.h) || (decide (x.h = a.h) && decide (x.l ≤ a.l))
def rfindP (p : Nat → P2) : TN → Int × Nat × Nat
  | .leaf l => ((leafF l p).1, 1, (leafF l p).2)
  | .inner f at' _ lo hi => if goL (p f) at' then ((rfindP p lo).1, (rfindP p lo).2.1 + 1, (rfindP p lo).2.2) else ((rfindP p hi).1, (rfindP p hi).2.1 + 1, (rfindP p hi).2.2)
def TN.fOk : TN → Prop
  | .leaf _ => True
  | .inner f _ _ lo hi => f < 6 ∧ lo.fOk ∧ hi.fOk
theorem goL_iff (x a : P2) : goL x a = true ↔ x.h < a.h ∨ x.h = a.h ∧ x.l ≤ a.l := by
  unfold goL; simp
theorem goes {b : Nat → R4} {k : Nat} {a : P2} {p : Nat → P2} (hk : k < 6) (hp : hpB b p = true) (wb : WB b) (w1 : Word a.h) (w2 : Word a.l) (wp : WP p) : hpB (upd b k ⟨(b k).fh, (b k).fl, a.h, a.l⟩) p = goL (p k) a := by
  obtain ⟨⟨p1, p2⟩, ⟨p3, p4⟩⟩ := wp k hk
  obtain ⟨⟨b1, b2⟩, ⟨b3, b4⟩, ⟨b5, b6⟩, ⟨b7, b8⟩⟩ := wb k hk
  obtain ⟨t1, t2⟩ := w1
  obtain ⟨t3, t4⟩ := w2
  obtain ⟨h1, h2⟩ := (hp_at b k hk p).1 hp
  rw [inR_iff] at h2
  rw [Bool.eq_iff_iff, hp_upd b k hk, goL_iff, inR_iff]
  constructor
  · rintro ⟨_, h⟩
    simp only at h; omega
  · intro h
    refine ⟨h1, ?_⟩
    simp only; omega
theorem grow_rfind {p : Nat → P2} (wp : WP p) : ∀ (d : Nat) (b : Nat → R4) (wb : WB b) (l : List EN) (hw : ∀ e ∈ l, WB e.bx) (may : Nat) (t : TN) (m : Nat), growP d b l may = some (t, m) → hpB b p = true → rfindP p t = findP p t
  | d, b, wb, l, hw, may, t, m, h, hp => by
    unfold growP at h
    split at h
    · cases h
    · split at h
      · cases h; rfl
      · rename_i h0 h8
        match d, h with
        | 0, h => cases h
        | d + 1, h =>
          simp only at h
          obtain ⟨g0, g1, g2, g3, g4⟩ := best_good hw wb (by omega : 8 < (leftP b l).length)
          have wl := wb_lo wb g3 g4
          have wh := wb_hi wb g3 g4
          have hwl : ∀ e ∈ leftP b l, WB e.bx := fun e he => hw e (left_mem he).1
          split at h
          · cases h
          · rename_i t1 m1 h1
            split at h
            · cases h
            · rename_i t2 m2 h2
              cases h
              have hic : icB (b (fldP b (leftP b l))) (atP b (leftP b l)) = true := by
                have := g3
                unfold spO at this
                rw [Int.toNat_natCast] at this
                simp only [Bool.and_eq_true] at this
                exact this.2
              have hlo : loP b (leftP b l) = upd b (fldP b (leftP b l)) ⟨(b (fldP b (leftP b l))).fh, (b (fldP b (leftP b l))).fl, (atP b (leftP b l)).h, (atP b (leftP b l)).l⟩ := by
                unfold loP spL; rw [g3, if_pos rfl, Int.toNat_natCast]
              have hhi : hiP b (leftP b l) = upd b (fldP b (leftP b l)) ⟨(nx (atP b (leftP b l))).h, (nx (atP b (leftP b l))).l, (b (fldP b (leftP b l))).th, (b (fldP b (leftP b l))).tl⟩ := by
                unfold hiP spH; rw [g3, if_pos rfl, Int.toNat_natCast]
              have hv := (halves (p := p) g1 hic wb g4.1 g4.2 wp).2.1
              have hg := goes (a := atP b (leftP b l)) g1 hp wb g4.1 g4.2 wp
              rw [← hlo] at hg
              rw [← hlo, ← hhi, hp] at hv
              simp only [findP, rfindP]
              rw [← hg]
              cases hl : hpB (loP b (leftP b l)) p with
              | true =>
                have e := grow_rfind wp d _ wl _ hwl _ _ _ h1 hl
                rw [if_pos rfl, if_pos rfl, e]
              | false =>
                rw [hl, Bool.false_or] at hv
                have e := grow_rfind wp d _ wh _ hwl _ _ _ h2 hv
                rw [if_neg (by simp), if_neg (by simp), e]
theorem grow_fOk : ∀ (d : Nat) (b : Nat → R4) (wb : WB b) (l : List EN) (hw : ∀ e ∈ l, WB e.bx) (may : Nat) (t : TN) (m : Nat), growP d b l may = some (t, m) → t.fOk
  | d, b, wb, l, hw, may, t, m, h => by
    unfold growP at h
    split at h
    · cases h
    · split at h
      · cases h; trivial
      · rename_i h0 h8
        match d, h with
        | 0, h => cases h
        | d + 1, h =>
          simp only at h
          obtain ⟨g0, g1, g2, g3, g4⟩ := best_good hw wb (by omega : 8 < (leftP b l).length)
          have wl := wb_lo wb g3 g4
          have wh := wb_hi wb g3 g4
          have hwl : ∀ e ∈ leftP b l, WB e.bx := fun e he => hw e (left_mem he).1
          split at h
          · cases h
          · rename_i t1 m1 h1
            split at h
            · cases h
            · rename_i t2 m2 h2
              cases h
              exact ⟨g1, grow_fOk d _ wl _ hwl _ _ _ h1, grow_fOk d _ wh _ hwl _ _ _ h2⟩
end Go.Proofs.Ythjhioffgbnlaaa
