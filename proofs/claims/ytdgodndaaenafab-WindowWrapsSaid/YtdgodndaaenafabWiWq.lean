/- Where a connection's numbers begin, in plain words; by-name template. -/
import Derived.Test.YtdgodndaaenafabWiOp
import Derived.Test.YtdgodndaaenafabWiQ
namespace Go.Proofs.Ytdgodndaaenafab
set_option linter.unusedVariables false
set_option linter.unusedSimpArgs false

def SidS (a : Int) (x x' : SD) : Prop := x'.seen = x.seen ∧ x'.fin = x.fin ∧ (x.seen = true → x'.e = (x.e + a) % 4294967296 ∧ x'.m = (x.m + a) % 4294967296 ∧ 0 ≤ x.e ∧ x.e < 4294967296)
section
variable {t : TR} {a b : Int}
theorem mov_hb (k : Int) : hb (movP t a b) k = hb t k := rfl
theorem end_rng (t : TR) : 0 ≤ endP t ∧ endP t < 4294967296 := by
  have h0 : 0 ≤ e0P t ∧ e0P t < 4294967296 := by unfold e0P; omega
  have h1 : 0 ≤ e1P t ∧ e1P t < 4294967296 := by unfold e1P; split <;> omega
  unfold endP; split <;> omega
theorem mov_end : endP (movP t a b) = (endP t + a) % 4294967296 := by
  have h0 : e0P (movP t a b) = (e0P t + a) % 4294967296 := by
    unfold e0P
    show ((t.sq + a) % 4294967296 + t.da) % 4294967296 = _
    omega
  have h1 : e1P (movP t a b) = (e1P t + a) % 4294967296 := by
    unfold e1P
    rw [mov_hb, h0]
    split <;> omega
  unfold endP
  rw [mov_hb, h1]
  split <;> omega
theorem less_mov (x y a : Int) : lessP ((x + a) % 4294967296) ((y + a) % 4294967296) = lessP x y := by
  have : ((y + a) % 4294967296 - (x + a) % 4294967296) % 4294967296 = (y - x) % 4294967296 := by omega
  unfold lessP
  rw [this]
theorem gr_mov (x y a : Int) : grP ((x + a) % 4294967296) ((y + a) % 4294967296) = (grP x y + a) % 4294967296 := by
  unfold grP
  rw [less_mov]
  split <;> rfl
theorem gr_rng {x y : Int} (hx : 0 ≤ x ∧ x < 4294967296) (hy : 0 ≤ y ∧ y < 4294967296) : 0 ≤ grP x y ∧ grP x y < 4294967296 := by
  unfold grP; split <;> assumption
theorem mov_bare : bareP (movP t a b) = bareP t := rfl
theorem mov_ak (h : hb t 16 = true) : (movP t a b).ak = (t.ak + b) % 4294967296 := by
  show (if hb t 16 then (t.ak + b) % 4294967296 else t.ak) = _
  rw [if_pos h]
theorem mov_stray {y y' : SD} (h : SidS b y y') : strayP (movP t a b) y' = strayP t y := by
  unfold strayP
  rw [mov_hb, mov_hb]
  rcases h16 : hb t 16 with _ | _
  · rfl
  · simp only [if_true]
    rw [h.1]
    rcases hs : y.seen with _ | _
    · rfl
    · rw [(h.2.2 hs).1, mov_ak h16, less_mov]
theorem mov_acks {y y' : SD} (h : SidS b y y') (hs : y.seen = true) (h0 : 0 ≤ t.ak) (h1 : t.ak < 4294967296) : acksP (movP t a b) y'.e = acksP t y.e := by
  obtain ⟨e1, _, e2, e3⟩ := h.2.2 hs
  unfold acksP
  rw [mov_hb]
  rcases h16 : hb t 16 with _ | _
  · rfl
  · rw [mov_ak h16, e1]
    show (((t.ak + b) % 4294967296) == ((y.e + b) % 4294967296)) = (t.ak == y.e)
    rw [Bool.eq_iff_iff, beq_iff_eq, beq_iff_eq]
    omega
theorem mov_first : SidS a (firstP t) (firstP (movP t a b)) := by
  have := end_rng t
  refine ⟨rfl, rfl, fun _ => ⟨mov_end, ?_, this.1, this.2⟩⟩
  show (endP (movP t a b) + t.wi) % 4294967296 = ((endP t + t.wi) % 4294967296 + a) % 4294967296
  rw [mov_end]
  omega
theorem mov_sent {x x' : SD} (h : SidS a x x') (hs : x.seen = true) : SidS a (sentP x t) (sentP x' (movP t a b)) := by
  obtain ⟨e1, e2, e3, e4⟩ := h.2.2 hs
  refine ⟨h.1, ?_, fun _ => ⟨?_, e2, ?_⟩⟩
  · show (x'.fin || hb (movP t a b) 1) = (x.fin || hb t 1)
    rw [h.2.1, mov_hb]
  · show grP x'.e (endP (movP t a b)) = (grP x.e (endP t) + a) % 4294967296
    rw [e1, mov_end, gr_mov]
  · exact gr_rng ⟨e3, e4⟩ (end_rng t)
theorem mov_allow {y y' : SD} (h : SidS b y y') : SidS b (allowP y t) (allowP y' (movP t a b)) := by
  unfold allowP
  rw [h.1, mov_hb]
  rcases hs : y.seen with _ | _
  · exact ⟨h.1, h.2.1, fun q => by rw [if_neg (by simp)] at q; rw [hs] at q; cases q⟩
  · obtain ⟨e1, e2, e3, e4⟩ := h.2.2 hs
    rcases h16 : hb t 16 with _ | _
    · exact h
    · simp only [Bool.and_self, if_true]
      refine ⟨rfl, h.2.1, fun _ => ⟨e1, ?_, e3, e4⟩⟩
      show grP y'.m (((movP t a b).ak + t.wi) % 4294967296) = (grP y.m ((t.ak + t.wi) % 4294967296) + b) % 4294967296
      rw [e2, mov_ak h16, ← gr_mov]
      congr 1
      omega
theorem allow_seen (y : SD) : (allowP y t).seen = y.seen := by unfold allowP; split <;> rfl
theorem allow_fin (y : SD) : (allowP y t).fin = y.fin := by unfold allowP; split <;> rfl
theorem mov_step {st : Int} {x x' y y' : SD} {back : Bool} (hx : SidS a x x') (hy : SidS b y y') (hs : x.seen = false → y.seen = true) (h0 : 0 ≤ t.ak) (h1 : t.ak < 4294967296) :
    (stepP st x' y' back (movP t a b)).1 = (stepP st x y back t).1 ∧ SidS a (stepP st x y back t).2.1 (stepP st x' y' back (movP t a b)).2.1 ∧ SidS b (stepP st x y back t).2.2.1 (stepP st x' y' back (movP t a b)).2.2.1 ∧
      (stepP st x' y' back (movP t a b)).2.2.2 = (stepP st x y back t).2.2.2 ∧ (x.seen = true → (stepP st x y back t).2.1.seen = true) ∧ (y.seen = true → (stepP st x y back t).2.2.1.seen = true) := by
  have e0 : (decide (st < 1) || decide (5 ≤ st) || strayP (movP t a b) y') = (decide (st < 1) || decide (5 ≤ st) || strayP t y) := by rw [mov_stray hy]
  rcases c0 : (decide (st < 1) || decide (5 ≤ st) || strayP t y) with _ | _
  · rw [c0] at e0
    rcases h2 : hb t 2 with _ | _
    · have h2' : hb (movP t a b) 2 = false := by rw [mov_hb]; exact h2
      rcases xs : x.seen with _ | _
      · have xs' : x'.seen = false := by rw [hx.1]; exact xs
        have ys := hs xs
        have ea : (hb (movP t a b) 4 && acksP (movP t a b) y'.e) = (hb t 4 && acksP t y.e) := by rw [mov_hb, mov_acks hy ys h0 h1]
        rcases c : (hb t 4 && acksP t y.e) with _ | _
        · rw [c] at ea
          rw [st_refNo c0 h2 xs c, st_refNo e0 h2' xs' ea]
          exact ⟨rfl, hx, hy, rfl, fun q => (by cases q), fun q => q⟩
        · rw [c] at ea
          rw [st_ref c0 h2 xs c, st_ref e0 h2' xs' ea]
          exact ⟨rfl, hx, hy, rfl, fun q => (by cases q), fun q => q⟩
      · have xs' : x'.seen = true := by rw [hx.1]; exact xs
        obtain ⟨q1, q2, q3, q4⟩ := hx.2.2 xs
        have ef : (lessP x'.m (endP (movP t a b)) || lessP (movP t a b).sq ((x'.e - 65536) % 4294967296)) = (lessP x.m (endP t) || lessP t.sq ((x.e - 65536) % 4294967296)) := by
          have g1 : lessP x'.m (endP (movP t a b)) = lessP x.m (endP t) := by rw [q2, mov_end, less_mov]
          have g2 : lessP (movP t a b).sq ((x'.e - 65536) % 4294967296) = lessP t.sq ((x.e - 65536) % 4294967296) := by
            have k : (x'.e - 65536) % 4294967296 = ((x.e - 65536) % 4294967296 + a) % 4294967296 := by rw [q1]; omega
            rw [k]
            exact less_mov _ _ _
          rw [g1, g2]
        rcases c : (lessP x.m (endP t) || lessP t.sq ((x.e - 65536) % 4294967296)) with _ | _
        · rw [c] at ef
          rw [st_in c0 h2 xs c, st_in e0 h2' xs' ef]
          have s1 := mov_sent (b := b) (t := t) hx xs
          have s2 := mov_allow (a := a) (t := t) hy
          refine ⟨?_, s1, s2, rfl, fun _ => xs, fun q => by rw [allow_seen]; exact q⟩
          show stateP _ (sentP x' (movP t a b)).fin (allowP y' (movP t a b)).fin _ (movP t a b) = stateP _ (sentP x t).fin (allowP y t).fin _ t
          rw [s1.2.1, s2.2.1]
          rfl
        · rw [c] at ef
          rw [st_far c0 h2 xs c, st_far e0 h2' xs' ef]
          exact ⟨rfl, hx, hy, rfl, fun _ => xs, fun q => q⟩
    · have h2' : hb (movP t a b) 2 = true := by rw [mov_hb]; exact h2
      rcases xs : x.seen with _ | _
      · have xs' : x'.seen = false := by rw [hx.1]; exact xs
        have ys := hs xs
        have ea : (bareP (movP t a b) && back && st == 1 && acksP (movP t a b) y'.e) = (bareP t && back && st == 1 && acksP t y.e) := by rw [mov_bare, mov_acks hy ys h0 h1]
        rcases c : (bareP t && back && st == 1 && acksP t y.e) with _ | _
        · rw [c] at ea
          rw [st_synNo c0 h2 xs c, st_synNo e0 h2' xs' ea]
          exact ⟨rfl, hx, hy, rfl, fun q => (by cases q), fun q => q⟩
        · rw [c] at ea
          rw [st_syn c0 h2 xs c, st_syn e0 h2' xs' ea]
          exact ⟨rfl, mov_first, mov_allow hy, rfl, fun _ => rfl, fun q => by rw [allow_seen]; exact q⟩
      · have xs' : x'.seen = true := by rw [hx.1]; exact xs
        obtain ⟨q1, q2, q3, q4⟩ := hx.2.2 xs
        have hr := end_rng t
        have ee : (endP (movP t a b) == x'.e) = (endP t == x.e) := by
          rw [mov_end, q1, Bool.eq_iff_iff, beq_iff_eq, beq_iff_eq]
          omega
        rw [st_again c0 h2 xs, st_again e0 h2' xs', ee, mov_bare]
        exact ⟨rfl, hx, hy, rfl, fun _ => xs, fun q => q⟩
  · rw [c0] at e0
    rw [st_out c0, st_out e0]
    exact ⟨rfl, hx, hy, rfl, fun q => q, fun q => q⟩
end
structure Shift (a b : Int) (c d : CN) : Prop where
  st : d.st = c.st
  a : SidS a c.a d.a
  b : SidS b c.b d.b
  sa : c.a.seen = true
theorem shift_next {a b : Int} {c d : CN} (h : Shift a b c d) (bk : Bool) {t : TR} (h0 : 0 ≤ t.ak) (h1 : t.ak < 4294967296) :
    Shift a b (nextP c bk t).1 (nextP d bk (if bk then movP t b a else movP t a b)).1 ∧ (nextP d bk (if bk then movP t b a else movP t a b)).2 = (nextP c bk t).2 := by
  cases bk
  · have := mov_step (st := c.st) (back := false) h.a h.b (fun q => by rw [h.sa] at q; cases q) h0 h1
    simp only [Bool.false_eq_true, if_false]
    rw [nextP_f, nextP_f, h.st]
    exact ⟨⟨this.1, this.2.1, this.2.2.1, this.2.2.2.2.1 h.sa⟩, this.2.2.2.1⟩
  · have := mov_step (st := c.st) (back := true) h.b h.a (fun _ => h.sa) h0 h1
    simp only [if_true]
    rw [nextP_b, nextP_b, h.st]
    exact ⟨⟨this.1, this.2.2.1, this.2.1, this.2.2.2.2.2 h.sa⟩, this.2.2.2.1⟩
theorem mov_opens (t : TR) (a b : Int) : opensP (movP t a b) = opensP t := rfl
theorem shift_open {t : TR} (a b : Int) (h : opensP t = true) : Shift a b (openP t).1 (openP (movP t a b)).1 := by
  unfold openP
  rw [mov_opens, if_pos h, if_pos h]
  exact ⟨rfl, mov_first, ⟨rfl, rfl, fun q => by cases q⟩, rfl⟩
theorem open_same (t : TR) (a b : Int) : (openP (movP t a b)).2 = (openP t).2 := by
  unfold openP
  rw [mov_opens]
  split <;> rfl
end Go.Proofs.Ytdgodndaaenafab
