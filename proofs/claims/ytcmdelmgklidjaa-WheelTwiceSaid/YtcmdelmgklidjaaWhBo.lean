/- Both wheels side by side; by-name template. -/
import Derived.Test.YtcmdelmgklidjaaWhSame
namespace Go.Proofs.Ytcmdelmgklidjaa
open Go.RowKit Go.Lib Go.Maps
set_option linter.unusedVariables false
set_option linter.unusedSimpArgs false

/-- The program's wheel has L, the document's has M; neither lies in the other, nor in X; both are newer than w0. -/
structure Bo (X : Nat → Prop) (w0 w : World) (Bw Br : Nat) (L M : List K2) : Prop where
  ex : ∃ T R, WAt w T Bw L ∧ RAt w R Br M ∧ (∀ k, T k → ¬ R k) ∧ (∀ k, X k → ¬ T k ∧ ¬ R k ∧ k < w.heap.size) ∧ (∀ k, T k ∨ R k → w0.heap.size ≤ k)
  bl : Below w0.heap.size w0 w
def Kept (X : Nat → Prop) (w w' : World) : Prop := w.heap.size ≤ w'.heap.size ∧ ∀ k, X k → w'.heap[k]? = w.heap[k]?

section
variable {X : Nat → Prop} {w0 w : World} {Bw Br : Nat} {L M : List K2}
theorem Kept.sl {α : Type} {k : Nat} {enc : α → List Value} {w' : World} {A : Option Addr} {n : Nat} {l : List α} (o : Kept X w w') (h : Sl w k enc A n l) (hA : ∀ b off sp, A = some ⟨b, off, sp⟩ → X b) : Sl w' k enc A n l :=
  ⟨h.len, h.big, fun hn => by
    obtain ⟨b, off, hA', hlt, hc⟩ := h.row hn
    exact ⟨b, off, hA', Nat.lt_of_lt_of_le hlt o.1, fun j x hj i v hi => (World.cell?_of_block (o.2 b (hA b off _ hA'))).trans (hc j x hj i v hi)⟩⟩
theorem Bo.below {w' : World} (h : Bo X w0 w Bw Br L M) (b : Below w.heap.size w w') : Bo X w0 w' Bw Br L M := by
  obtain ⟨⟨T, R, h1, h2, h3, h4, h5⟩, bl⟩ := h
  exact ⟨⟨T, R, h1.below b, h2.below b, h3, fun k hk => ⟨(h4 k hk).1, (h4 k hk).2.1, Nat.lt_of_lt_of_le (h4 k hk).2.2 b.size⟩, h5⟩, bl.trans (b.mono bl.size)⟩
theorem Bo.kept {w' : World} (h : Bo X w0 w Bw Br L M) (b : Below w.heap.size w w') : Kept X w w' := by
  obtain ⟨⟨T, R, h1, h2, h3, h4, h5⟩, bl⟩ := h
  exact ⟨b.size, fun k hk => b.block k (h4 k hk).2.2⟩
theorem Bo.dr (h : Bo X w0 w Bw Br L M) : Bo X w0 w.drew Bw Br L M := h.below (bel_dr (Below.refl _ _))
theorem Bo.uidL (h : Bo X w0 w Bw Br L M) : UId L := by obtain ⟨⟨T, R, h1, _⟩, _⟩ := h; exact h1.uid
theorem Bo.lenL (h : Bo X w0 w Bw Br L M) : L.length ≤ 256 := by obtain ⟨⟨T, R, h1, _⟩, _⟩ := h; exact h1.len
/-- nothing else is to be kept; one block more is. -/
theorem Bo.only (h : Bo X w0 w Bw Br L M) : Bo (fun _ => False) w0 w Bw Br L M := by
  obtain ⟨⟨T, R, h1, h2, h3, h4, h5⟩, bl⟩ := h
  exact ⟨⟨T, R, h1, h2, h3, fun k hk => hk.elim, h5⟩, bl⟩
theorem Bo.with (h : Bo X w0 w Bw Br L M) (o : Obj) : Bo (fun k => X k ∨ k = w.heap.size) w0 (w.alloc o) Bw Br L M := by
  have b : Below w.heap.size w (w.alloc o) := (Below.refl _ _).alloc (Nat.le_refl _) _
  obtain ⟨⟨T, R, h1, h2, h3, h4, h5⟩, bl⟩ := h
  refine ⟨⟨T, R, h1.below b, h2.below b, h3, fun k hk => ?_, h5⟩, bl.trans (b.mono bl.size)⟩
  rcases hk with hk | rfl
  · exact ⟨(h4 k hk).1, (h4 k hk).2.1, Nat.lt_of_lt_of_le (h4 k hk).2.2 b.size⟩
  · exact ⟨fun e => by have := h1.tlt _ e; omega, fun e => by have := h2.lt _ e; omega, by rw [al_size]; omega⟩
theorem Bo.mono {Y : Nat → Prop} (h : Bo X w0 w Bw Br L M) (hY : ∀ k, Y k → X k) : Bo Y w0 w Bw Br L M := by
  obtain ⟨⟨T, R, h1, h2, h3, h4, h5⟩, bl⟩ := h
  exact ⟨⟨T, R, h1, h2, h3, fun k hk => h4 k (hY k hk), h5⟩, bl⟩

theorem Bo.stepP {w' : World} {T R : Nat → Prop} {L' : List K2} (h1 : WAt w T Bw L) (h2 : RAt w R Br M) (h3 : ∀ k, T k → ¬ R k) (h4 : ∀ k, X k → ¬ T k ∧ ¬ R k ∧ k < w.heap.size) (h5 : ∀ k, T k ∨ R k → w0.heap.size ≤ k) (bl : Below w0.heap.size w0 w) (p : WPost w T Bw L' w') :
    Bo X w0 w' Bw Br L' M ∧ Kept X w w' := by
  obtain ⟨T', q1, q2, q3⟩ := p
  refine ⟨⟨⟨T', R, q1, h2.off q2 (fun k hR hT => h3 k hT hR), fun k hT' hR => ?_, fun k hk => ⟨fun hT' => ?_, (h4 k hk).2.1, Nat.lt_of_lt_of_le (h4 k hk).2.2 q2.size⟩, fun k hk => ?_⟩, bl.trans (q2.toBelow (fun k hk => h5 k (.inl hk)) bl.size)⟩, q2.size, fun k hk => q2.block k (h4 k hk).2.2 (h4 k hk).1⟩
  · rcases q3 k hT' with q | q
    · exact h3 k q hR
    · have := h2.lt k hR; omega
  · rcases q3 k hT' with q | q
    · exact (h4 k hk).1 q
    · have := (h4 k hk).2.2; omega
  · rcases hk with hk | hk
    · rcases q3 k hk with q | q
      · exact h5 k (.inl q)
      · have := bl.size; omega
    · exact h5 k (.inr hk)
theorem Bo.stepR {w' : World} {T R : Nat → Prop} {M' : List K2} (h1 : WAt w T Bw L) (h2 : RAt w R Br M) (h3 : ∀ k, T k → ¬ R k) (h4 : ∀ k, X k → ¬ T k ∧ ¬ R k ∧ k < w.heap.size) (h5 : ∀ k, T k ∨ R k → w0.heap.size ≤ k) (bl : Below w0.heap.size w0 w) (p : RPost w R Br M' w') :
    Bo X w0 w' Bw Br L M' ∧ Kept X w w' := by
  obtain ⟨R', q1, q2, q3⟩ := p
  have hRb : R Br := by obtain ⟨_, A, c, hi⟩ := h2; exact hi.rB
  refine ⟨⟨⟨T, R', h1.off q2 (fun k hT e => by subst e; exact h3 _ hT hRb), q1, fun k hT hR' => ?_, fun k hk => ⟨(h4 k hk).1, fun hR' => ?_, Nat.lt_of_lt_of_le (h4 k hk).2.2 q2.size⟩, fun k hk => ?_⟩, bl.trans (q2.toBelow (fun k hk => by subst hk; exact h5 _ (.inr hRb)) bl.size)⟩, q2.size, fun k hk => q2.block k (h4 k hk).2.2 (fun e => by subst e; exact (h4 _ hk).2.1 hRb)⟩
  · rcases q3 k hR' with q | q | q
    · subst q; exact h3 _ hT hRb
    · exact h3 k hT q
    · have := h1.tlt k hT; omega
  · rcases q3 k hR' with q | q | q
    · subst q; exact (h4 _ hk).2.1 hRb
    · exact (h4 k hk).2.1 q
    · have := (h4 k hk).2.2; omega
  · rcases hk with hk | hk
    · exact h5 k (.inl hk)
    · rcases q3 k hk with q | q | q
      · subst q; exact h5 _ (.inr hRb)
      · exact h5 k (.inr q)
      · have := bl.size; omega

theorem bo_set_p (h : Bo X w0 w Bw Br L M) {id t : Int} (hid : i64ok id) :
    Calls Try.prog 9 #[.pointer (some ⟨Bw, 0, none⟩), .int .i64 id, .int .i64 t] w fun e w' => e = .returned (.int .i64 (setR L id)) ∧ Bo X w0 w' Bw Br (setP L id t) M ∧ Kept X w w' := by
  obtain ⟨⟨T, R, h1, h2, h3, h4, h5⟩, bl⟩ := h
  exact (wset_any h1 hid).mono fun e w' ⟨he, p⟩ => ⟨he, Bo.stepP h1 h2 h3 h4 h5 bl p⟩
theorem bo_drop_p (h : Bo X w0 w Bw Br L M) {id : Int} (hid : i64ok id) :
    Calls Try.prog 10 #[.pointer (some ⟨Bw, 0, none⟩), .int .i64 id] w fun e w' => e = .returned (.bool (hasP L id)) ∧ Bo X w0 w' Bw Br (remP L id) M ∧ Kept X w w' := by
  obtain ⟨⟨T, R, h1, h2, h3, h4, h5⟩, bl⟩ := h
  exact (wdrop_any h1 hid).mono fun e w' ⟨he, p, o⟩ => ⟨he, Bo.stepP h1 h2 h3 h4 h5 bl ⟨T, p, o, fun k hk => .inl hk⟩⟩
theorem bo_set_r (h : Bo X w0 w Bw Br L M) (hu : UId M) {id t : Int} :
    Calls Try.prog 13 #[.pointer (some ⟨Br, 0, none⟩), .int .i64 id, .int .i64 t] w fun e w' => e = .returned (.int .i64 (setR M id)) ∧ Bo X w0 w' Bw Br L (setP M id t) ∧ Kept X w w' := by
  obtain ⟨⟨T, R, h1, h2, h3, h4, h5⟩, bl⟩ := h
  exact (rset_any h2 hu).mono fun e w' ⟨he, p⟩ => ⟨he, Bo.stepR h1 h2 h3 h4 h5 bl p⟩
theorem bo_drop_r (h : Bo X w0 w Bw Br L M) (hu : UId M) {id : Int} :
    Calls Try.prog 16 #[.pointer (some ⟨Br, 0, none⟩), .int .i64 id] w fun e w' => e = .returned (.bool (hasP M id)) ∧ Bo X w0 w' Bw Br L (remP M id) ∧ Kept X w w' := by
  obtain ⟨⟨T, R, h1, h2, h3, h4, h5⟩, bl⟩ := h
  exact (rdrop_any h2 hu).mono fun e w' ⟨he, p⟩ => ⟨he, Bo.stepR h1 h2 h3 h4 h5 bl p⟩

/-- where a row lies. -/
def rowB (A : Option Addr) : Nat → Prop := fun k => ∃ off sp, A = some ⟨k, off, sp⟩
theorem row_new {w : World} {base n : Nat} {A : Option Addr} {c : Nat} {K : List Int} (h : w.ownsRow base 3 1 (.slice A n c) n (K.map vI)) : ∀ k, rowB A k → base ≤ k ∧ k < w.heap.size := by
  rintro k ⟨off, sp, e⟩
  have := h.lt k (by rw [e]; rfl)
  exact this
theorem bo_due_p (h : Bo X w0 w Bw Br L M) {now : Int} :
    Calls Try.prog 12 #[.pointer (some ⟨Bw, 0, none⟩), .int .i64 now] w fun e w' => ∃ A c, e = .returned (.slice A (dueP L now).length c) ∧ Sl w' 1 e1 A (dueP L now).length (dueP L now) ∧ Bo (fun k => X k ∨ rowB A k) w0 w' Bw Br (lefP L now) M ∧ Kept X w w' := by
  obtain ⟨⟨T, R, h1, h2, h3, h4, h5⟩, bl⟩ := h
  refine (wdue_any h1).mono fun e w' ⟨v, he, ho, p, o⟩ => ?_
  obtain ⟨A, c, rfl, hs⟩ := ints_sl ho rfl
  have hn := row_new ho
  obtain ⟨q1, q2⟩ := Bo.stepP h1 h2 h3 h4 h5 bl ⟨T, p, o, fun k hk => .inl hk⟩
  refine ⟨A, c, he, hs, ⟨⟨T, R, p, h2.off o (fun k hR hT => h3 k hT hR), h3, fun k hk => ?_, h5⟩, q1.bl⟩, q2⟩
  rcases hk with hk | hk
  · exact ⟨(h4 k hk).1, (h4 k hk).2.1, Nat.lt_of_lt_of_le (h4 k hk).2.2 o.size⟩
  · have := hn k hk
    exact ⟨fun e => by have := h1.tlt k e; omega, fun e => by have := h2.lt k e; omega, this.2⟩
theorem bo_due_r (h : Bo X w0 w Bw Br L M) {now : Int} :
    Calls Try.prog 15 #[.pointer (some ⟨Br, 0, none⟩), .int .i64 now] w fun e w' => ∃ A c, e = .returned (.slice A (dueP M now).length c) ∧ Sl w' 1 e1 A (dueP M now).length (dueP M now) ∧ Bo (fun k => X k ∨ rowB A k) w0 w' Bw Br L (lefP M now) ∧ Kept X w w' := by
  obtain ⟨⟨T, R, h1, h2, h3, h4, h5⟩, bl⟩ := h
  have hRb : R Br := by obtain ⟨_, A, c, hi⟩ := h2; exact hi.rB
  refine (rdue_any h2).mono fun e w' ⟨v, he, ho, p, o⟩ => ?_
  obtain ⟨A, c, rfl, hs⟩ := ints_sl ho rfl
  have hn := row_new ho
  obtain ⟨q1, q2⟩ := Bo.stepR h1 h2 h3 h4 h5 bl ⟨R, p, o, fun k hk => .inr (.inl hk)⟩
  refine ⟨A, c, he, hs, ⟨⟨T, R, h1.off o (fun k hT e => by subst e; exact h3 _ hT hRb), p, h3, fun k hk => ?_, h5⟩, q1.bl⟩, q2⟩
  rcases hk with hk | hk
  · exact ⟨(h4 k hk).1, (h4 k hk).2.1, Nat.lt_of_lt_of_le (h4 k hk).2.2 o.size⟩
  · have := hn k hk
    exact ⟨fun e => by have := h1.tlt k e; omega, fun e => by have := h2.lt k e; omega, this.2⟩
theorem bo_next_p (h : Bo X w0 w Bw Br L M) :
    Calls Try.prog 17 #[.pointer (some ⟨Bw, 0, none⟩)] w fun e w' => e = .returned (.tuple #[.int .i64 (nid L), .int .i64 (nat' L), .bool (decide (0 < L.length))]) ∧ Below w.heap.size w w' := by
  obtain ⟨⟨T, R, h1, h2, h3, h4, h5⟩, bl⟩ := h
  exact wnext_any h1
theorem bo_next_r (h : Bo X w0 w Bw Br L M) :
    Calls Try.prog 18 #[.pointer (some ⟨Br, 0, none⟩)] w fun e w' => e = .returned (.tuple #[.int .i64 (nid M), .int .i64 (nat' M), .bool (decide (0 < M.length))]) ∧ Below w.heap.size w w' := by
  obtain ⟨⟨T, R, h1, h2, h3, h4, h5⟩, bl⟩ := h
  exact rnext_any h2
theorem bo_len_p (h : Bo X w0 w Bw Br L M) :
    Calls Try.prog 11 #[.pointer (some ⟨Bw, 0, none⟩)] w fun e w' => e = .returned (.int .i64 (L.length : Int)) ∧ Below w.heap.size w w' := by
  obtain ⟨⟨T, R, h1, h2, h3, h4, h5⟩, bl⟩ := h
  exact (wlen_any h1).mono fun e w' ⟨he, hw⟩ => ⟨he, hw ▸ Below.refl _ _⟩
theorem Bo.cr (h : Bo X w0 w Bw Br L M) : ∃ A c, w.cell? ⟨Br, 0, none⟩ = some (.slice A M.length c) := by
  obtain ⟨⟨T, R, h1, ⟨_, A, c, hi⟩, h3, h4, h5⟩, bl⟩ := h
  exact ⟨A, c, hi.c0⟩
/-- both are new. -/
theorem bo_new {w1 : World} (h1 : WAt w1 (fun k => w.heap.size ≤ k ∧ k < w1.heap.size) Bw []) (b1 : Below w.heap.size w w1) : Bo (fun _ => False) w (w1.alloc (.cells #[.slice none 0 0] 34)) Bw w1.heap.size [] [] := by
  have b : Below w1.heap.size w1 (w1.alloc (.cells #[.slice none 0 0] 34)) := (Below.refl _ _).alloc (Nat.le_refl _) _
  refine ⟨⟨_, _, h1.below b, RAt.new w1, fun k hT e => by have := hT.2; omega, fun k hk => hk.elim, fun k hk => ?_⟩, bel_via b1 b⟩
  rcases hk with hk | hk
  · exact hk.1
  · have := b1.size; omega
end
end Go.Proofs.Ytcmdelmgklidjaa
