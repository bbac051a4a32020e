/- AddrOrder's walk; by-name template. -/
import Derived.Test.YtdocpkeegmkknaaANum
namespace Go.Proofs.Ytdocpkeegmkknaa
open Go.RowKit
set_option linter.unusedVariables false
set_option linter.unusedSimpArgs false

def LawPost (w : World) (e : Ending) (w' : World) : Prop := e = .returned (.bool true) ∧ Below w.heap.size w w'

theorem cmpA_or (ah al bh bl : Int) : cmpA ah al bh bl = -1 ∨ cmpA ah al bh bl = 0 ∨ cmpA ah al bh bl = 1 := by
  rw [cmpA_cases]; split
  · exact Or.inl rfl
  · split
    · exact Or.inr (Or.inl rfl)
    · exact Or.inr (Or.inr rfl)
theorem cmpA_lt (ah al bh bl : Int) : cmpA ah al bh bl = -1 ↔ ah < bh ∨ (ah = bh ∧ al < bl) := by
  rw [cmpA_cases]; split
  · simp_all
  · split <;> simp_all
theorem cmpA_eq (ah al bh bl : Int) : cmpA ah al bh bl = 0 ↔ ah = bh ∧ al = bl := by
  rw [cmpA_cases]; split
  · constructor
    · intro h; simp at h
    · intro h; omega
  · split <;> simp_all
theorem cmpA_gt (ah al bh bl : Int) : cmpA ah al bh bl = 1 ↔ bh < ah ∨ (ah = bh ∧ bl < al) := by
  rw [cmpA_cases]; split
  · constructor
    · intro h; simp at h
    · intro h; omega
  · split
    · constructor
      · intro h; simp at h
      · intro h; omega
    · simp; omega
theorem cmpA_swap (ah al bh bl : Int) : cmpA bh bl ah al = - cmpA ah al bh bl := by
  rcases cmpA_or ah al bh bl with h | h | h
  · rw [h, (cmpA_gt bh bl ah al).2 (by have := (cmpA_lt ah al bh bl).1 h; omega)]; rfl
  · rw [h, (cmpA_eq bh bl ah al).2 (by have := (cmpA_eq ah al bh bl).1 h; omega)]; rfl
  · rw [h, (cmpA_lt bh bl ah al).2 (by have := (cmpA_gt ah al bh bl).1 h; omega)]

def twoA (ah al : Int) : Value := .agg #[.int .u64 ah, .int .u64 al]

set_option maxHeartbeats 2000000 in
theorem order_any (ah al bh bl ch cl : Int) (h0 : Word ah) (h1 : Word al) (h2 : Word bh) (h3 : Word bl) (h4 : Word ch) (h5 : Word cl) (w : World) : Calls Try.prog 3 #[.agg #[.int .u64 ah, .int .u64 al], .agg #[.int .u64 bh, .int .u64 bl], .agg #[.int .u64 ch, .int .u64 cl]] w (LawPost w) := by
  unfold LawPost
  have hz : cmpA ah al bh bl ≤ 0 → cmpA bh bl ch cl ≤ 0 → cmpA ah al ch cl = if cmpA ah al bh bl = 0 ∧ cmpA bh bl ch cl = 0 then 0 else -1 := by
    intro h1 h2
    have hxo := cmpA_or ah al bh bl
    have hyo := cmpA_or bh bl ch cl
    have hx0 := cmpA_eq ah al bh bl
    have hy0 := cmpA_eq bh bl ch cl
    have hx1 := cmpA_lt ah al bh bl
    have hy1 := cmpA_lt bh bl ch cl
    split
    · rename_i h; exact (cmpA_eq ah al ch cl).2 (by have := hx0.1 h.1; have := hy0.1 h.2; omega)
    · rename_i h
      refine (cmpA_lt ah al ch cl).2 ?_
      rcases hxo with e | e | e
      · have := hx1.1 e
        rcases hyo with f | f | f
        · have := hy1.1 f; omega
        · have := hy0.1 f; omega
        · omega
      · have := hx0.1 e
        rcases hyo with f | f | f
        · have := hy1.1 f; omega
        · exact absurd ⟨e, f⟩ h
        · omega
      · omega
  have hs := cmpA_swap ah al bh bl
  go_enter Try.func3, Try.ntmps3
  go_wp2_with fail
  obtain ⟨w0, hw0⟩ : ∃ w0, w0 = ((w.alloc (Obj.cells #[Value.int IntKind.u64 ah, Value.int IntKind.u64 al] 24)).alloc (Obj.cells #[Value.int IntKind.u64 bh, Value.int IntKind.u64 bl] 24)).alloc (Obj.cells #[Value.int IntKind.u64 ch, Value.int IntKind.u64 cl] 24) := ⟨_, rfl⟩
  have b0 : Below w.heap.size w w0 := by rw [hw0]; repeat (first | exact Below.refl _ _ | apply Below.dr | apply Below.al)
  have hC : ∀ w', Below w0.heap.size w0 w' → w'.cell? ⟨w.heap.size, 0, none⟩ = some (.int .u64 ah) ∧ w'.cell? ⟨w.heap.size, 1, none⟩ = some (.int .u64 al) ∧ w'.cell? ⟨w.heap.size + 1, 0, none⟩ = some (.int .u64 bh) ∧ w'.cell? ⟨w.heap.size + 1, 1, none⟩ = some (.int .u64 bl) ∧ w'.cell? ⟨w.heap.size + 2, 0, none⟩ = some (.int .u64 ch) ∧ w'.cell? ⟨w.heap.size + 2, 1, none⟩ = some (.int .u64 cl) := by
    intro w' h
    refine ⟨keepc h ?_, keepc h ?_, keepc h ?_, keepc h ?_, keepc h ?_, keepc h ?_⟩ <;> (rw [hw0]; simp [go_sem, World.cell?_alloc_past])
  rw [← hw0]
  clear hw0
  rcases cmpA_or ah al bh bl with hx | hx | hx
  · have hne : ¬ (ah = bh ∧ al = bl) := fun h => absurd ((cmpA_eq ah al bh bl).2 h) (by rw [hx]; decide)
    have hne1 : (ah == bh && al == bl) = false := by by_cases e : ah = bh <;> simp_all
    rw [hx] at hs
    simp only [Int.neg_neg] at hs
    rcases cmpA_or bh bl ch cl with hy | hy | hy
    · have hz' := hz (by rw [hx]; decide) (by rw [hy]; decide)
      rw [hx, hy] at hz'
      simp only [reduceIte, Int.reduceNeg, Int.reduceEq, false_and, and_false] at hz'
      clear hz
      refine (kept (cmp_any _ _ _ _ _) (Below.refl _ _) hC).mono ?_
      rintro e w1 ⟨rfl, ⟨k0, k1, k2, k3, k4, k5⟩, hb⟩
      go_wp2_with (first
        | (go_at_call 7; refine (kept (cmp_any _ _ _ _ _) (by assumption) hC).mono ?_; rintro e w1 ⟨rfl, ⟨k0, k1, k2, k3, k4, k5⟩, hb⟩)
        | (go_at_call 8; refine (kept (rcmp_any _ _ _ _ _) (by assumption) hC).mono ?_; rintro e w1 ⟨rfl, ⟨k0, k1, k2, k3, k4, k5⟩, hb⟩))
      all_goals (go_ret; exact ⟨rfl, bel_via b0 (by assumption)⟩)
    · have hz' := hz (by rw [hx]; decide) (by rw [hy]; decide)
      rw [hx, hy] at hz'
      simp only [reduceIte, Int.reduceNeg, Int.reduceEq, false_and, and_false] at hz'
      clear hz
      refine (kept (cmp_any _ _ _ _ _) (Below.refl _ _) hC).mono ?_
      rintro e w1 ⟨rfl, ⟨k0, k1, k2, k3, k4, k5⟩, hb⟩
      go_wp2_with (first
        | (go_at_call 7; refine (kept (cmp_any _ _ _ _ _) (by assumption) hC).mono ?_; rintro e w1 ⟨rfl, ⟨k0, k1, k2, k3, k4, k5⟩, hb⟩)
        | (go_at_call 8; refine (kept (rcmp_any _ _ _ _ _) (by assumption) hC).mono ?_; rintro e w1 ⟨rfl, ⟨k0, k1, k2, k3, k4, k5⟩, hb⟩))
      all_goals (go_ret; exact ⟨rfl, bel_via b0 (by assumption)⟩)
    · clear hz
      refine (kept (cmp_any _ _ _ _ _) (Below.refl _ _) hC).mono ?_
      rintro e w1 ⟨rfl, ⟨k0, k1, k2, k3, k4, k5⟩, hb⟩
      go_wp2_with (first
        | (go_at_call 7; refine (kept (cmp_any _ _ _ _ _) (by assumption) hC).mono ?_; rintro e w1 ⟨rfl, ⟨k0, k1, k2, k3, k4, k5⟩, hb⟩)
        | (go_at_call 8; refine (kept (rcmp_any _ _ _ _ _) (by assumption) hC).mono ?_; rintro e w1 ⟨rfl, ⟨k0, k1, k2, k3, k4, k5⟩, hb⟩))
      all_goals (go_ret; exact ⟨rfl, bel_via b0 (by assumption)⟩)
  · obtain ⟨rfl, rfl⟩ := (cmpA_eq ah al bh bl).1 hx
    clear hs
    rcases cmpA_or ah al ch cl with hy | hy | hy
    · clear hz
      refine (kept (cmp_any _ _ _ _ _) (Below.refl _ _) hC).mono ?_
      rintro e w1 ⟨rfl, ⟨k0, k1, k2, k3, k4, k5⟩, hb⟩
      go_wp2_with (first
        | (go_at_call 7; refine (kept (cmp_any _ _ _ _ _) (by assumption) hC).mono ?_; rintro e w1 ⟨rfl, ⟨k0, k1, k2, k3, k4, k5⟩, hb⟩)
        | (go_at_call 8; refine (kept (rcmp_any _ _ _ _ _) (by assumption) hC).mono ?_; rintro e w1 ⟨rfl, ⟨k0, k1, k2, k3, k4, k5⟩, hb⟩))
      all_goals (go_ret; exact ⟨rfl, bel_via b0 (by assumption)⟩)
    · clear hz
      refine (kept (cmp_any _ _ _ _ _) (Below.refl _ _) hC).mono ?_
      rintro e w1 ⟨rfl, ⟨k0, k1, k2, k3, k4, k5⟩, hb⟩
      go_wp2_with (first
        | (go_at_call 7; refine (kept (cmp_any _ _ _ _ _) (by assumption) hC).mono ?_; rintro e w1 ⟨rfl, ⟨k0, k1, k2, k3, k4, k5⟩, hb⟩)
        | (go_at_call 8; refine (kept (rcmp_any _ _ _ _ _) (by assumption) hC).mono ?_; rintro e w1 ⟨rfl, ⟨k0, k1, k2, k3, k4, k5⟩, hb⟩))
      all_goals (go_ret; exact ⟨rfl, bel_via b0 (by assumption)⟩)
    · clear hz
      refine (kept (cmp_any _ _ _ _ _) (Below.refl _ _) hC).mono ?_
      rintro e w1 ⟨rfl, ⟨k0, k1, k2, k3, k4, k5⟩, hb⟩
      go_wp2_with (first
        | (go_at_call 7; refine (kept (cmp_any _ _ _ _ _) (by assumption) hC).mono ?_; rintro e w1 ⟨rfl, ⟨k0, k1, k2, k3, k4, k5⟩, hb⟩)
        | (go_at_call 8; refine (kept (rcmp_any _ _ _ _ _) (by assumption) hC).mono ?_; rintro e w1 ⟨rfl, ⟨k0, k1, k2, k3, k4, k5⟩, hb⟩))
      all_goals (go_ret; exact ⟨rfl, bel_via b0 (by assumption)⟩)
  · have hne : ¬ (ah = bh ∧ al = bl) := fun h => absurd ((cmpA_eq ah al bh bl).2 h) (by rw [hx]; decide)
    have hne1 : (ah == bh && al == bl) = false := by by_cases e : ah = bh <;> simp_all
    rw [hx] at hs
    clear hz
    refine (kept (cmp_any _ _ _ _ _) (Below.refl _ _) hC).mono ?_
    rintro e w1 ⟨rfl, ⟨k0, k1, k2, k3, k4, k5⟩, hb⟩
    go_wp2_with (first
      | (go_at_call 7; refine (kept (cmp_any _ _ _ _ _) (by assumption) hC).mono ?_; rintro e w1 ⟨rfl, ⟨k0, k1, k2, k3, k4, k5⟩, hb⟩)
      | (go_at_call 8; refine (kept (rcmp_any _ _ _ _ _) (by assumption) hC).mono ?_; rintro e w1 ⟨rfl, ⟨k0, k1, k2, k3, k4, k5⟩, hb⟩))
    all_goals (go_ret; exact ⟨rfl, bel_via b0 (by assumption)⟩)
end Go.Proofs.Ytdocpkeegmkknaa
