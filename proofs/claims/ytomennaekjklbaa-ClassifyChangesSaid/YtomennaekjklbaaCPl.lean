/- Boxes, plainly: what covers, what meets, what is in; by-name template. -/
import Derived.Test.YtomennaekjklbaaCCov
namespace Go.Proofs.Ytomennaekjklbaa
open Go.RowKit Go.Lib Go.Sort
set_option linter.unusedVariables false
set_option linter.unusedSimpArgs false

theorem cmp_le0 (a b c d : Int) : cmpA a b c d ≤ 0 ↔ a < c ∨ (a = c ∧ b ≤ d) := by
  rw [cmpA_cases]
  by_cases h1 : a < c ∨ (a = c ∧ b < d)
  · rw [if_pos h1]; constructor
    · intro _; omega
    · intro _; decide
  · rw [if_neg h1]
    by_cases h2 : a = c ∧ b = d
    · rw [if_pos h2]; constructor
      · intro _; omega
      · intro _; decide
    · rw [if_neg h2]; constructor
      · intro h; exact absurd h (by decide)
      · intro h; omega
theorem cmp_lt0 (a b c d : Int) : cmpA a b c d < 0 ↔ a < c ∨ (a = c ∧ b < d) := by
  rw [cmpA_cases]
  by_cases h1 : a < c ∨ (a = c ∧ b < d)
  · rw [if_pos h1]; constructor
    · intro _; omega
    · intro _; decide
  · rw [if_neg h1]
    by_cases h2 : a = c ∧ b = d
    · rw [if_pos h2]; constructor
      · intro h; exact absurd h (by decide)
      · intro h; omega
    · rw [if_neg h2]; constructor
      · intro h; exact absurd h (by decide)
      · intro h; omega
theorem cmp_gt0 (a b c d : Int) : 0 < cmpA a b c d ↔ c < a ∨ (a = c ∧ d < b) := by
  have := cmp_le0 a b c d
  omega
theorem inR_iff (r : R4) (p : P2) : inR r p = true ↔ (r.fh < p.h ∨ r.fh = p.h ∧ r.fl ≤ p.l) ∧ (p.h < r.th ∨ p.h = r.th ∧ p.l ≤ r.tl) := by
  unfold inR hasI; simp only [Bool.and_eq_true, decide_eq_true_eq, cmp_le0]
theorem emR_iff (r : R4) : emR r = true ↔ r.th < r.fh ∨ (r.th = r.fh ∧ r.tl < r.fl) := by
  unfold emR; simp only [decide_eq_true_eq, cmp_gt0]; omega
theorem emR_not (r : R4) : emR r = false ↔ r.fh < r.th ∨ (r.fh = r.th ∧ r.fl ≤ r.tl) := by
  have := emR_iff r
  cases h : emR r with
  | true => rw [h] at this; simp at this ⊢; omega
  | false => rw [h] at this; simp at this ⊢; omega
theorem cvK_iff (r s : R4) : cvK r s = true ↔ inR r ⟨s.fh, s.fl⟩ = true ∧ inR r ⟨s.th, s.tl⟩ = true := by
  unfold cvK inR; simp only [Bool.and_eq_true]
theorem six {P : Nat → Prop} : (∀ k, k < 6 → P k) ↔ P 0 ∧ P 1 ∧ P 2 ∧ P 3 ∧ P 4 ∧ P 5 := by
  constructor
  · intro h; exact ⟨h 0 (by omega), h 1 (by omega), h 2 (by omega), h 3 (by omega), h 4 (by omega), h 5 (by omega)⟩
  · rintro ⟨h0, h1, h2, h3, h4, h5⟩ k hk
    match k, hk with
    | 0, _ => exact h0
    | 1, _ => exact h1
    | 2, _ => exact h2
    | 3, _ => exact h3
    | 4, _ => exact h4
    | 5, _ => exact h5
theorem emB_iff (b : Nat → R4) : emB b = false ↔ ∀ k, k < 6 → emR (b k) = false := by
  rw [six]; unfold emB; simp only [Bool.or_eq_false_iff, and_assoc]
theorem cvA_iff (a b : Nat → R4) : cvA a b = true ↔ ∀ k, k < 6 → cvK (a k) (b k) = true := by
  rw [six]; unfold cvA; simp only [Bool.and_eq_true, and_assoc]
theorem hpB_iff (b : Nat → R4) (p : Nat → P2) : hpB b p = true ↔ ∀ k, k < 6 → inR (b k) (p k) = true := by
  rw [six]; unfold hpB; simp only [Bool.and_eq_true, and_assoc]
theorem mbO_iff (a b : Nat → R4) : mbO a b = true ↔ ∀ k, k < 6 → emR (meR (a k) (b k)) = false := by
  unfold mbO
  rw [Bool.not_eq_true', emB_iff]
theorem mbV_of {a b : Nat → R4} (h : mbO a b = true) (k : Nat) : mbV a b k = meR (a k) (b k) := by unfold mbV; rw [if_pos h]
theorem mbV_no {a b : Nat → R4} (h : mbO a b = false) (k : Nat) : mbV a b k = zr4 := by unfold mbV; rw [h]; rfl
/-- What two ranges have in common, by its ends. -/
theorem meR_cases (r s : R4) : (((r.fh < s.fh ∨ (r.fh = s.fh ∧ r.fl < s.fl)) ∧ (meR r s).fh = s.fh ∧ (meR r s).fl = s.fl) ∨ ((s.fh < r.fh ∨ (s.fh = r.fh ∧ s.fl ≤ r.fl)) ∧ (meR r s).fh = r.fh ∧ (meR r s).fl = r.fl)) ∧
    (((s.th < r.th ∨ (r.th = s.th ∧ s.tl < r.tl)) ∧ (meR r s).th = s.th ∧ (meR r s).tl = s.tl) ∨ ((r.th < s.th ∨ (r.th = s.th ∧ r.tl ≤ s.tl)) ∧ (meR r s).th = r.th ∧ (meR r s).tl = r.tl)) := by
  have h1 := cmp_lt0 r.fh r.fl s.fh s.fl
  have h2 := cmp_gt0 r.th r.tl s.th s.tl
  constructor
  · by_cases c : cmpA r.fh r.fl s.fh s.fl < 0
    · exact .inl ⟨h1.1 c, meR_f1 c⟩
    · exact .inr ⟨by have := mt h1.2 c; omega, meR_f0 c⟩
  · by_cases c : 0 < cmpA r.th r.tl s.th s.tl
    · exact .inl ⟨h2.1 c, meR_t1 c⟩
    · exact .inr ⟨by have := mt h2.2 c; omega, meR_t0 c⟩
theorem R4_ext {r s : R4} (h1 : r.fh = s.fh) (h2 : r.fl = s.fl) (h3 : r.th = s.th) (h4 : r.tl = s.tl) : r = s := by
  cases r; cases s; simp_all
theorem meR_comm (r s : R4) : meR r s = meR s r := by
  obtain ⟨h1, h2⟩ := meR_cases r s
  obtain ⟨k1, k2⟩ := meR_cases s r
  refine R4_ext ?_ ?_ ?_ ?_ <;> omega
/-- A point is in what two ranges have in common just if it is in both. -/
theorem inR_me (r s : R4) (p : P2) : inR (meR r s) p = true ↔ inR r p = true ∧ inR s p = true := by
  simp only [inR_iff]
  obtain ⟨h1, h2⟩ := meR_cases r s
  generalize meR r s = m at *
  omega
theorem cvK_me (r s : R4) (hs : emR s = false) : cvK r s = true ↔ emR (meR r s) = false ∧ meR r s = s := by
  rw [emR_not] at hs
  rw [cvK_iff, emR_not]
  simp only [inR_iff]
  obtain ⟨h1, h2⟩ := meR_cases r s
  constructor
  · intro h
    have e : meR r s = s := R4_ext (by omega) (by omega) (by omega) (by omega)
    rw [e]
    exact ⟨hs, rfl⟩
  · rintro ⟨_, e⟩
    rw [e] at h1 h2
    omega
theorem rcvB_eq (a b : Nat → R4) : rcvB a b = cvB a b := by
  unfold rcvB cvB
  cases hE : emB b with
  | true => rfl
  | false =>
    simp only [Bool.false_or]
    rw [Bool.eq_iff_iff, Bool.and_eq_true, mbO_iff, eqB_iff, cvA_iff]
    have hb := (emB_iff b).1 hE
    constructor
    · rintro ⟨h1, h2⟩ k hk
      refine (cvK_me _ _ (hb k hk)).2 ⟨h1 k hk, ?_⟩
      rw [← mbV_of ((mbO_iff a b).2 h1) k]; exact h2 k hk
    · intro h
      have h1 : ∀ k, k < 6 → emR (meR (a k) (b k)) = false := fun k hk => ((cvK_me _ _ (hb k hk)).1 (h k hk)).1
      exact ⟨h1, fun k hk => by rw [mbV_of ((mbO_iff a b).2 h1)]; exact ((cvK_me _ _ (hb k hk)).1 (h k hk)).2⟩
theorem cvB_refl (a : Nat → R4) : cvB a a = true := by
  unfold cvB
  cases hE : emB a with
  | true => rfl
  | false =>
    rw [Bool.false_or, cvA_iff]
    intro k hk
    have := (emR_not _).1 ((emB_iff a).1 hE k hk)
    rw [cvK_iff, inR_iff, inR_iff]; dsimp only; omega
theorem cvB_iff (a b : Nat → R4) (hE : emB b = false) : cvB a b = true ↔ ∀ k, k < 6 → ((a k).fh < (b k).fh ∨ (a k).fh = (b k).fh ∧ (a k).fl ≤ (b k).fl) ∧ ((b k).th < (a k).th ∨ (b k).th = (a k).th ∧ (b k).tl ≤ (a k).tl) := by
  unfold cvB
  rw [hE, Bool.false_or, cvA_iff]
  constructor
  · intro h k hk
    have h1 := h k hk
    have h2 := (emR_not _).1 ((emB_iff b).1 hE k hk)
    rw [cvK_iff] at h1; simp only [inR_iff] at h1; omega
  · intro h k hk
    have h1 := h k hk
    have h2 := (emR_not _).1 ((emB_iff b).1 hE k hk)
    rw [cvK_iff]; simp only [inR_iff]; omega
theorem cvB_trans {a b c : Nat → R4} (h1 : cvB a b = true) (h2 : cvB b c = true) : cvB a c = true := by
  cases hC : emB c with
  | true => exact cvB_em hC
  | false =>
    have k2 := (cvB_iff b c hC).1 h2
    have hB : emB b = false := (emB_iff b).2 fun k hk => (emR_not _).2 (by have := k2 k hk; have := (emR_not _).1 ((emB_iff c).1 hC k hk); omega)
    have k1 := (cvB_iff a b hB).1 h1
    refine (cvB_iff a c hC).2 fun k hk => ?_
    have := k1 k hk; have := k2 k hk; omega
/-- All words. -/
def WB (b : Nat → R4) : Prop := ∀ k, k < 6 → Word (b k).fh ∧ Word (b k).fl ∧ Word (b k).th ∧ Word (b k).tl
def WP (p : Nat → P2) : Prop := ∀ k, k < 6 → Word (p k).h ∧ Word (p k).l
def full4 : R4 := ⟨0, 0, 18446744073709551615, 18446744073709551615⟩
theorem cvB_full {a : Nat → R4} (h : WB a) : cvB (fun _ => full4) a = true := by
  cases hE : emB a with
  | true => exact cvB_em hE
  | false =>
    refine (cvB_iff _ a hE).2 fun k hk => ?_
    obtain ⟨⟨h1, h2⟩, ⟨h3, h4⟩, ⟨h5, h6⟩, ⟨h7, h8⟩⟩ := h k hk
    simp only [full4]; omega
theorem hp_full {p : Nat → P2} (h : WP p) : hpB (fun _ => full4) p = true := by
  refine (hpB_iff _ p).2 fun k hk => ?_
  obtain ⟨⟨h1, h2⟩, ⟨h3, h4⟩⟩ := h k hk
  rw [inR_iff]; simp only [full4]; omega
theorem hp_me (a b : Nat → R4) (p : Nat → P2) : (mbO a b && hpB (mbV a b) p) = (hpB a p && hpB b p) := by
  rw [Bool.eq_iff_iff, Bool.and_eq_true, Bool.and_eq_true]
  constructor
  · rintro ⟨h1, h2⟩
    have h3 := (hpB_iff _ p).1 h2
    exact ⟨(hpB_iff a p).2 fun k hk => ((inR_me _ _ _).1 (by rw [← mbV_of h1]; exact h3 k hk)).1, (hpB_iff b p).2 fun k hk => ((inR_me _ _ _).1 (by rw [← mbV_of h1]; exact h3 k hk)).2⟩
  · rintro ⟨h1, h2⟩
    have h3 : ∀ k, k < 6 → inR (meR (a k) (b k)) (p k) = true := fun k hk => (inR_me _ _ _).2 ⟨(hpB_iff a p).1 h1 k hk, (hpB_iff b p).1 h2 k hk⟩
    have h4 : mbO a b = true := (mbO_iff a b).2 fun k hk => (emR_not _).2 (by have := (inR_iff _ _).1 (h3 k hk); omega)
    exact ⟨h4, (hpB_iff _ p).2 fun k hk => by rw [mbV_of h4]; exact h3 k hk⟩
theorem cv_hp {a b : Nat → R4} {p : Nat → P2} (h1 : cvB a b = true) (h2 : hpB b p = true) : hpB a p = true := by
  have hp := (hpB_iff b p).1 h2
  have hE : emB b = false := (emB_iff b).2 fun k hk => (emR_not _).2 (by have := (inR_iff _ _).1 (hp k hk); omega)
  refine (hpB_iff a p).2 fun k hk => ?_
  have k1 := (cvB_iff a b hE).1 h1 k hk
  have k2 := (inR_iff _ _).1 (hp k hk)
  rw [inR_iff]; omega
theorem mb_comm (a b : Nat → R4) : mbO a b = mbO b a ∧ ∀ k, mbV a b k = mbV b a k := by
  have h : mbO a b = mbO b a := by
    rw [Bool.eq_iff_iff, mbO_iff, mbO_iff]
    constructor <;> (intro h k hk; rw [meR_comm]; exact h k hk)
  refine ⟨h, fun k => ?_⟩
  cases hO : mbO a b with
  | true => rw [mbV_of hO, mbV_of (by rw [← h]; exact hO), meR_comm]
  | false => rw [mbV_no hO, mbV_no (by rw [← h]; exact hO)]
theorem mb_covers {a b : Nat → R4} (h : mbO a b = true) : cvB a (mbV a b) = true ∧ cvB b (mbV a b) = true ∧ emB (mbV a b) = false := by
  have hE : emB (mbV a b) = false := (emB_iff _).2 fun k hk => by rw [mbV_of h]; exact (mbO_iff a b).1 h k hk
  refine ⟨(cvB_iff _ _ hE).2 fun k hk => ?_, (cvB_iff _ _ hE).2 fun k hk => ?_, hE⟩ <;>
  · rw [mbV_of h]
    obtain ⟨h1, h2⟩ := meR_cases (a k) (b k)
    omega
end Go.Proofs.Ytomennaekjklbaa
