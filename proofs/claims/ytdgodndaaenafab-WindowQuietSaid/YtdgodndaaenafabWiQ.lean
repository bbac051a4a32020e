/- What the laws of window say, in plain words; by-name template. -/
import Derived.Test.YtdgodndaaenafabWiNx
import Derived.WalkKit
namespace Go.Proofs.Ytdgodndaaenafab
set_option linter.unusedVariables false
set_option linter.unusedSimpArgs false

section
variable {st : Int} {x y : SD} {back : Bool} {t : TR} {c : CN}
theorem bare_no4 (h : bareP t = true) : hb t 4 = false := by
  unfold bareP at h
  rw [hb5] at h
  revert h
  cases hb t 1 <;> cases hb t 4 <;> simp
theorem acks_of {n : Int} (h : acksP t n = true) : hb t 16 = true ∧ t.ak = n := by
  unfold acksP at h
  simpa using h
/-- the cases of a step. -/
theorem step_cases : (stepP st x y back t = (st, x, y, false)) ∨
    (1 ≤ st ∧ st ≤ 2 ∧ bareP t = true ∧ x.seen = true ∧ stepP st x y back t = (st, x, y, true)) ∨
    (hb t 2 = true ∧ x.seen = false ∧ bareP t = true ∧ back = true ∧ st = 1 ∧ acksP t y.e = true ∧ stepP st x y back t = (2, firstP t, allowP y t, true)) ∨
    (hb t 2 = false ∧ x.seen = false ∧ hb t 4 = true ∧ acksP t y.e = true ∧ 1 ≤ st ∧ st ≤ 4 ∧ stepP st x y back t = (5, x, y, true)) ∨
    (hb t 2 = false ∧ x.seen = true ∧ 1 ≤ st ∧ st ≤ 4 ∧ stepP st x y back t = (stateP st (sentP x t).fin (allowP y t).fin (!back) t, sentP x t, allowP y t, true)) := by
  rcases h0 : (decide (st < 1) || decide (5 ≤ st) || strayP t y) with _ | _
  · have hst : 1 ≤ st ∧ st ≤ 4 := by simp at h0; omega
    rcases h2 : hb t 2 with _ | _
    · rcases hx : x.seen with _ | _
      · rcases h : (hb t 4 && acksP t y.e) with _ | _
        · exact .inl (st_refNo h0 h2 hx h)
        · have h' := h
          simp only [Bool.and_eq_true] at h'
          exact .inr (.inr (.inr (.inl ⟨rfl, rfl, h'.1, h'.2, hst.1, hst.2, st_ref h0 h2 hx h⟩)))
      · rcases h : (lessP x.m (endP t) || lessP t.sq ((x.e - 65536) % 4294967296)) with _ | _
        · exact .inr (.inr (.inr (.inr ⟨rfl, rfl, hst.1, hst.2, st_in h0 h2 hx h⟩)))
        · exact .inl (st_far h0 h2 hx h)
    · rcases hx : x.seen with _ | _
      · rcases h : (bareP t && back && st == 1 && acksP t y.e) with _ | _
        · exact .inl (st_synNo h0 h2 hx h)
        · have h' := h
          simp only [Bool.and_eq_true, beq_iff_eq] at h'
          exact .inr (.inr (.inl ⟨rfl, rfl, h'.1.1.1, h'.1.1.2, h'.1.2, h'.2, st_syn h0 h2 hx h⟩))
      · have e := st_again (back := back) h0 h2 hx
        rcases h : (bareP t && endP t == x.e && decide (st ≤ 2)) with _ | _
        · exact .inl (by rw [e, h])
        · have h' := h
          simp only [Bool.and_eq_true, decide_eq_true_eq] at h'
          exact .inr (.inl ⟨hst.1, h'.2, h'.1.1, rfl, by rw [e, h]⟩)
  · exact .inl (st_out h0)
theorem state_rst (h : hb t 4 = true) (a b o : Bool) : stateP st a b o t = 5 := by unfold stateP; rw [if_pos h]
theorem state_live (h : hb t 4 = false) (h1 : 1 ≤ st) (h4 : st ≤ 4) (a b o : Bool) : 1 ≤ stateP st a b o t ∧ stateP st a b o t ≤ 4 := by
  unfold stateP
  rw [if_neg (by rw [h]; simp)]
  split
  · omega
  · split <;> omega
def liveC (c : CN) : Prop := 1 ≤ c.st ∧ c.st ≤ 4
theorem next_1 (b : Bool) : (nextP c b t).1.st = (stepP c.st (if b then c.b else c.a) (if b then c.a else c.b) b t).1 ∧ (nextP c b t).2 = (stepP c.st (if b then c.b else c.a) (if b then c.a else c.b) b t).2.2.2 := by
  cases b <;> exact ⟨rfl, rfl⟩
theorem next_no (b : Bool) (h : (nextP c b t).2 = false) : (nextP c b t).1 = c := by
  cases b
  · rw [nextP_f] at h ⊢
    rcases step_cases (st := c.st) (x := c.a) (y := c.b) (back := false) (t := t) with e | ⟨_, _, _, _, e⟩ | ⟨_, _, _, _, _, _, e⟩ | ⟨_, _, _, _, _, _, e⟩ | ⟨_, _, _, _, e⟩ <;> rw [e] at h ⊢ <;> first | rfl | cases h
  · rw [nextP_b] at h ⊢
    rcases step_cases (st := c.st) (x := c.b) (y := c.a) (back := true) (t := t) with e | ⟨_, _, _, _, e⟩ | ⟨_, _, _, _, _, _, e⟩ | ⟨_, _, _, _, _, _, e⟩ | ⟨_, _, _, _, e⟩ <;> rw [e] at h ⊢ <;> first | rfl | cases h
theorem next_closed (b : Bool) (h : (nextP c b t).2 = true) (h4 : hb t 4 = true) : (nextP c b t).1.st = 5 := by
  rw [(next_1 b).1]
  rw [(next_1 b).2] at h
  generalize (if b then c.b else c.a) = x at *
  generalize (if b then c.a else c.b) = y at *
  rcases step_cases (st := c.st) (x := x) (y := y) (back := b) (t := t) with e | ⟨_, _, hb', _, e⟩ | ⟨_, _, hb', _, _, _, e⟩ | ⟨_, _, _, _, _, _, e⟩ | ⟨_, _, _, _, e⟩
  · rw [e] at h; cases h
  · rw [bare_no4 hb'] at h4; cases h4
  · rw [bare_no4 hb'] at h4; cases h4
  · rw [e]
  · rw [e]; exact state_rst h4 _ _ _
theorem next_lives (b : Bool) (hl : liveC c) (h : ((nextP c b t).2 && hb t 4) = false) : liveC (nextP c b t).1 := by
  unfold liveC at *
  rw [(next_1 b).1]
  rw [(next_1 b).2] at h
  generalize (if b then c.b else c.a) = x at *
  generalize (if b then c.a else c.b) = y at *
  rcases step_cases (st := c.st) (x := x) (y := y) (back := b) (t := t) with e | ⟨_, _, _, _, e⟩ | ⟨_, _, _, _, _, _, e⟩ | ⟨_, _, h4, _, _, _, e⟩ | ⟨_, _, _, _, e⟩
  · rw [e]; exact hl
  · rw [e]; exact hl
  · rw [e]; simp
  · rw [e, h4] at h; cases h
  · rw [e] at h ⊢
    exact state_live (by simpa using h) hl.1 hl.2 _ _ _
theorem life_ge (hl : liveC c) : 10 ≤ lifeP c.st := by
  unfold liveC at hl
  unfold lifeP
  have : c.st = 1 ∨ c.st = 2 ∨ c.st = 3 ∨ c.st = 4 := by omega
  rcases this with h | h | h | h <;> rw [h] <;> decide

/-! ### what opens -/
theorem state_two (a b o : Bool) (h : stateP st a b o t = 2) : st = 2 := by
  unfold stateP at h
  split at h
  · omega
  · split at h
    · omega
    · split at h <;> omega
theorem state_three (a b o : Bool) (h : stateP st a b o t = 3) (hn : st ≠ 3) : st = 2 ∧ o = true ∧ hb t 16 = true := by
  unfold stateP at h
  split at h
  · omega
  · split at h
    · omega
    · split at h
      · rename_i h3
        simpa [and_assoc] using h3
      · omega
theorem next_two (b : Bool) (h : (nextP c b t).2 = true) (hn : (nextP c b t).1.st = 2) (h1 : c.st = 1) : b = true ∧ t.ak = c.a.e ∧ (bits .and .i64 t.fl 18 == 18) = true := by
  rw [(next_1 b).1] at hn
  rw [(next_1 b).2] at h
  rcases step_cases (st := c.st) (x := if b then c.b else c.a) (y := if b then c.a else c.b) (back := b) (t := t) with e | ⟨_, _, _, _, e⟩ | ⟨h2, _, _, hb, _, ha, e⟩ | ⟨_, _, _, _, _, _, e⟩ | ⟨_, _, _, _, e⟩
  · rw [e] at h; cases h
  · rw [e] at hn; exact absurd hn (by rw [h1]; simp)
  · subst hb
    have := acks_of ha
    refine ⟨rfl, this.2, ?_⟩
    rw [hb18, h2, this.1]; rfl
  · rw [e] at hn; cases hn
  · rw [e] at hn
    have := state_two _ _ _ hn
    omega
theorem next_three (b : Bool) (h : (nextP c b t).2 = true) (hn : (nextP c b t).1.st = 3) (h1 : c.st ≠ 3) : c.st = 2 ∧ b = false ∧ (bits .and .i64 t.fl 16 == 0) = false := by
  rw [(next_1 b).1] at hn
  rw [(next_1 b).2] at h
  rcases step_cases (st := c.st) (x := if b then c.b else c.a) (y := if b then c.a else c.b) (back := b) (t := t) with e | ⟨_, _, _, _, e⟩ | ⟨h2, _, _, hb, _, ha, e⟩ | ⟨_, _, _, _, _, _, e⟩ | ⟨_, _, _, _, e⟩
  · rw [e] at h; cases h
  · rw [e] at hn; exact absurd hn h1
  · rw [e] at hn; cases hn
  · rw [e] at hn; cases hn
  · rw [e] at hn
    obtain ⟨q1, q2, q3⟩ := state_three _ _ _ hn h1
    refine ⟨q1, by simpa using q2, ?_⟩
    unfold hb at q3
    simpa using q3
theorem next_was (b : Bool) (hn : (nextP c b t).1.st = 2) : c.st = 2 ∨ ((nextP c b t).2 = true ∧ c.st = 1) := by
  rw [(next_1 b).1] at hn
  rw [(next_1 b).2]
  rcases step_cases (st := c.st) (x := if b then c.b else c.a) (y := if b then c.a else c.b) (back := b) (t := t) with e | ⟨_, _, _, _, e⟩ | ⟨h2, _, _, hb, h1, ha, e⟩ | ⟨_, _, _, _, _, _, e⟩ | ⟨_, _, _, _, e⟩
  · rw [e] at hn; exact .inl hn
  · rw [e] at hn; exact .inl hn
  · exact .inr ⟨by rw [e], h1⟩
  · rw [e] at hn; cases hn
  · rw [e] at hn; exact .inl (state_two _ _ _ hn)
end
end Go.Proofs.Ytdgodndaaenafab
