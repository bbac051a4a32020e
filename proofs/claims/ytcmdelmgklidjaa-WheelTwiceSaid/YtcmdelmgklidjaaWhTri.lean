/- Two wheels of the program's and one of the document's side by side; by-name template. -/
import Derived.Test.YtcmdelmgklidjaaWhPl
namespace Go.Proofs.Ytcmdelmgklidjaa
open Go.RowKit Go.Lib Go.Maps
set_option linter.unusedVariables false
set_option linter.unusedSimpArgs false

/-- None lies in another; all are newer than w0. -/
structure Ap (Ta Tb R : Nat → Prop) (lo : Nat) : Prop where
  ab : ∀ k, Ta k → ¬ Tb k
  ar : ∀ k, Ta k → ¬ R k
  br : ∀ k, Tb k → ¬ R k
  lo : ∀ k, Ta k ∨ Tb k ∨ R k → lo ≤ k
structure Tri (w0 w : World) (Ba Bb Br : Nat) (La Lb M : List K2) : Prop where
  ex : ∃ Ta Tb R, WAt w Ta Ba La ∧ WAt w Tb Bb Lb ∧ RAt w R Br M ∧ Ap Ta Tb R w0.heap.size
  bl : Below w0.heap.size w0 w

section
variable {w0 w : World} {Ba Bb Br : Nat} {La Lb M : List K2}
theorem Tri.below {w' : World} (h : Tri w0 w Ba Bb Br La Lb M) (b : Below w.heap.size w w') : Tri w0 w' Ba Bb Br La Lb M := by
  obtain ⟨⟨Ta, Tb, R, h1, h2, h3, h4⟩, bl⟩ := h
  exact ⟨⟨Ta, Tb, R, h1.below b, h2.below b, h3.below b, h4⟩, bl.trans (b.mono bl.size)⟩
theorem Tri.dr (h : Tri w0 w Ba Bb Br La Lb M) : Tri w0 w.drew Ba Bb Br La Lb M := h.below (bel_dr (Below.refl _ _))
theorem Tri.uidL (h : Tri w0 w Ba Bb Br La Lb M) : UId La := by obtain ⟨⟨Ta, Tb, R, h1, _⟩, _⟩ := h; exact h1.uid
theorem Tri.lenL (h : Tri w0 w Ba Bb Br La Lb M) : La.length ≤ 256 := by obtain ⟨⟨Ta, Tb, R, h1, _⟩, _⟩ := h; exact h1.len
theorem tri_set_a (h : Tri w0 w Ba Bb Br La Lb M) {id t : Int} (hid : i64ok id) :
    Calls Try.prog 9 #[.pointer (some ⟨Ba, 0, none⟩), .int .i64 id, .int .i64 t] w fun e w' => e = .returned (.int .i64 (setR La id)) ∧ Tri w0 w' Ba Bb Br (setP La id t) Lb M := by
  obtain ⟨⟨Ta, Tb, R, h1, h2, h3, h4⟩, bl⟩ := h
  refine (wset_any h1 hid).mono fun e w' ⟨he, T', q1, q2, q3⟩ => ⟨he, ⟨T', Tb, R, q1, h2.off q2 (fun k hb ha => h4.ab k ha hb), h3.off q2 (fun k hr ha => h4.ar k ha hr), ?_, ?_, h4.br, ?_⟩, bl.trans (q2.toBelow (fun k hk => h4.lo k (.inl hk)) bl.size)⟩
  · intro k hk hb
    rcases q3 k hk with q | q
    · exact h4.ab k q hb
    · have := h2.tlt k hb; omega
  · intro k hk hr
    rcases q3 k hk with q | q
    · exact h4.ar k q hr
    · have := h3.lt k hr; omega
  · rintro k (hk | hk | hk)
    · rcases q3 k hk with q | q
      · exact h4.lo k (.inl q)
      · have := bl.size; omega
    · exact h4.lo k (.inr (.inl hk))
    · exact h4.lo k (.inr (.inr hk))
theorem tri_set_b (h : Tri w0 w Ba Bb Br La Lb M) {id t : Int} (hid : i64ok id) :
    Calls Try.prog 9 #[.pointer (some ⟨Bb, 0, none⟩), .int .i64 id, .int .i64 t] w fun e w' => e = .returned (.int .i64 (setR Lb id)) ∧ Tri w0 w' Ba Bb Br La (setP Lb id t) M := by
  obtain ⟨⟨Ta, Tb, R, h1, h2, h3, h4⟩, bl⟩ := h
  refine (wset_any h2 hid).mono fun e w' ⟨he, T', q1, q2, q3⟩ => ⟨he, ⟨Ta, T', R, h1.off q2 h4.ab, q1, h3.off q2 (fun k hr ha => h4.br k ha hr), ?_, h4.ar, ?_, ?_⟩, bl.trans (q2.toBelow (fun k hk => h4.lo k (.inr (.inl hk))) bl.size)⟩
  · intro k ha hk
    rcases q3 k hk with q | q
    · exact h4.ab k ha q
    · have := h1.tlt k ha; omega
  · intro k hk hr
    rcases q3 k hk with q | q
    · exact h4.br k q hr
    · have := h3.lt k hr; omega
  · rintro k (hk | hk | hk)
    · exact h4.lo k (.inl hk)
    · rcases q3 k hk with q | q
      · exact h4.lo k (.inr (.inl q))
      · have := bl.size; omega
    · exact h4.lo k (.inr (.inr hk))
theorem RAt.rB {R : Nat → Prop} (h : RAt w R Br M) : R Br := by obtain ⟨_, A, c, hi⟩ := h; exact hi.rB
theorem tri_set_r (h : Tri w0 w Ba Bb Br La Lb M) (hu : UId M) {id t : Int} :
    Calls Try.prog 13 #[.pointer (some ⟨Br, 0, none⟩), .int .i64 id, .int .i64 t] w fun e w' => e = .returned (.int .i64 (setR M id)) ∧ Tri w0 w' Ba Bb Br La Lb (setP M id t) := by
  obtain ⟨⟨Ta, Tb, R, h1, h2, h3, h4⟩, bl⟩ := h
  have hrb := h3.rB
  refine (rset_any h3 hu).mono fun e w' ⟨he, R', q1, q2, q3⟩ => ⟨he, ⟨Ta, Tb, R', h1.off q2 (fun k ha e => h4.ar k ha (e ▸ hrb)), h2.off q2 (fun k ha e => h4.br k ha (e ▸ hrb)), q1, h4.ab, ?_, ?_, ?_⟩, bl.trans (q2.toBelow (fun k hk => h4.lo k (.inr (.inr (hk ▸ hrb)))) bl.size)⟩
  · intro k ha hk
    rcases q3 k hk with q | q | q
    · exact h4.ar k ha (q ▸ hrb)
    · exact h4.ar k ha q
    · have := h1.tlt k ha; omega
  · intro k ha hk
    rcases q3 k hk with q | q | q
    · exact h4.br k ha (q ▸ hrb)
    · exact h4.br k ha q
    · have := h2.tlt k ha; omega
  · rintro k (hk | hk | hk)
    · exact h4.lo k (.inl hk)
    · exact h4.lo k (.inr (.inl hk))
    · rcases q3 k hk with q | q | q
      · exact h4.lo k (.inr (.inr (q ▸ hrb)))
      · exact h4.lo k (.inr (.inr q))
      · have := bl.size; omega
theorem tri_new {w1 w2 : World} (h1 : WAt w1 (fun k => w.heap.size ≤ k ∧ k < w1.heap.size) Ba []) (b1 : Below w.heap.size w w1) (h2 : WAt w2 (fun k => w1.heap.size ≤ k ∧ k < w2.heap.size) Bb []) (b2 : Below w1.heap.size w1 w2) :
    Tri w (w2.alloc (.cells #[.slice none 0 0] 34)) Ba Bb w2.heap.size [] [] [] := by
  have b : Below w2.heap.size w2 (w2.alloc (.cells #[.slice none 0 0] 34)) := (Below.refl _ _).alloc (Nat.le_refl _) _
  have z1 := b1.size
  have z2 := b2.size
  refine ⟨⟨_, _, _, (h1.below b2).below b, h2.below b, RAt.new w2, ⟨fun k ha hb => by have := ha.2; have := hb.1; omega, fun k ha e => by have := ha.2; omega, fun k ha e => by have := ha.2; omega, fun k hk => ?_⟩⟩, bel_via (bel_via b1 b2) b⟩
  rcases hk with hk | hk | hk
  · exact hk.1
  · have := hk.1; omega
  · omega

/-- The same, where it lies being given; all of it lies below G. -/
structure Fi (Ta Tb R : Nat → Prop) (w0 : World) (G : Nat) (w : World) (Ba Bb Br : Nat) (La Lb M : List K2) : Prop where
  a : WAt w Ta Ba La
  b : WAt w Tb Bb Lb
  r : RAt w R Br M
  ap : Ap Ta Tb R w0.heap.size
  hi : ∀ k, Ta k ∨ Tb k ∨ R k → k < G
  gz : G ≤ w.heap.size
  bl : Below w0.heap.size w0 w
/-- Blocks from G on are as they were. -/
def Hi (G : Nat) (w w' : World) : Prop := w.heap.size ≤ w'.heap.size ∧ ∀ k, G ≤ k → k < w.heap.size → w'.heap[k]? = w.heap[k]?
theorem Tri.fi (h : Tri w0 w Ba Bb Br La Lb M) : ∃ Ta Tb R, Fi Ta Tb R w0 w.heap.size w Ba Bb Br La Lb M := by
  obtain ⟨⟨Ta, Tb, R, h1, h2, h3, h4⟩, bl⟩ := h
  exact ⟨Ta, Tb, R, h1, h2, h3, h4, fun k hk => by
    rcases hk with hk | hk | hk
    · exact h1.tlt k hk
    · exact h2.tlt k hk
    · exact h3.lt k hk, Nat.le_refl _, bl⟩
theorem own_mono {b b' k n : Nat} {e : TypeId} {v : Value} {xs : List Value} (h : w.ownsRow b e k v n xs) (hb : b' ≤ b) : w.ownsRow b' e k v n xs := by
  obtain ⟨q0, q | ⟨g, c, cur, hv, hb2, rest⟩⟩ := h
  · exact ⟨q0, .inl q⟩
  · exact ⟨q0, .inr ⟨g, c, cur, hv, Nat.le_trans hb hb2, rest⟩⟩
theorem own_hi {G : Nat} {w' : World} {k n : Nat} {e : TypeId} {v : Value} {xs : List Value} (h : w.ownsRow G e k v n xs) (o : Hi G w w') : w'.ownsRow G e k v n xs := by
  obtain ⟨q0, q | ⟨g, c, cur, hv, hb2, hg, rest⟩⟩ := h
  · exact ⟨q0, .inl q⟩
  · exact ⟨q0, .inr ⟨g, c, cur, hv, hb2, (o.2 g hb2 (blk_lt hg)).trans hg, rest⟩⟩
section
variable {Ta Tb R : Nat → Prop} {G : Nat}
theorem Fi.hiBelow {w' : World} (h : Fi Ta Tb R w0 G w Ba Bb Br La Lb M) (o : OffS (fun k => G ≤ k) w w') : Fi Ta Tb R w0 G w' Ba Bb Br La Lb M where
  a := h.a.off o (fun k hk e => by have := h.hi k (.inl hk); omega)
  b := h.b.off o (fun k hk e => by have := h.hi k (.inr (.inl hk)); omega)
  r := h.r.off o (fun k hk e => by have := h.hi k (.inr (.inr hk)); omega)
  ap := h.ap
  hi := h.hi
  gz := Nat.le_trans h.gz o.size
  bl := by
    have hz := h.bl.size
    by_cases hG : w0.heap.size ≤ G
    · exact h.bl.trans (o.toBelow (fun k hk => Nat.le_trans hG hk) hz)
    · exfalso
      have h1 := h.r.rB
      have := h.hi _ (.inr (.inr h1))
      have := h.ap.lo _ (.inr (.inr h1))
      omega
theorem Fi.below {w' : World} (h : Fi Ta Tb R w0 G w Ba Bb Br La Lb M) (b : Below w.heap.size w w') : Fi Ta Tb R w0 G w' Ba Bb Br La Lb M := h.hiBelow (offS_below b)
theorem Fi.grown {w' : World} {V v : Value} {k n : Nat} {e : TypeId} {xs : List Value} (h : Fi Ta Tb R w0 G w Ba Bb Br La Lb M) (hown : w.ownsRow G e k v n xs) (g : w.grownBy w' v.ownBlock) : Fi Ta Tb R w0 G w' Ba Bb Br La Lb M :=
  h.hiBelow ⟨g.os, g.tape, g.output, g.size, fun k hk hn => g.block k hk (fun e => hn (own_gt hown k e.symm))⟩
theorem hi_below {w' : World} (b : Below w.heap.size w w') : Hi G w w' := ⟨b.size, fun k _ hk => b.block k hk⟩
theorem fi_due_a (h : Fi Ta Tb R w0 G w Ba Bb Br La Lb M) {now : Int} : Calls Try.prog 12 #[.pointer (some ⟨Ba, 0, none⟩), .int .i64 now] w fun e w' => ∃ v, e = .returned v ∧ w'.ownsRow G 3 1 v (dueP La now).length ((dueP La now).map vI) ∧ Fi Ta Tb R w0 G w' Ba Bb Br (lefP La now) Lb M ∧ Hi G w w' :=
  (wdue_any h.a).mono fun e w' ⟨v, he, ho, p, o⟩ => ⟨v, he, own_mono ho h.gz, ⟨p, h.b.off o (fun k hb ha => h.ap.ab k ha hb), h.r.off o (fun k hr ha => h.ap.ar k ha hr), h.ap, h.hi, Nat.le_trans h.gz o.size, h.bl.trans (o.toBelow (fun k hk => h.ap.lo k (.inl hk)) h.bl.size)⟩, o.size, fun k hk hl => o.block k hl (fun e => by have := h.hi k (.inl e); omega)⟩
theorem fi_due_b (h : Fi Ta Tb R w0 G w Ba Bb Br La Lb M) {now : Int} : Calls Try.prog 12 #[.pointer (some ⟨Bb, 0, none⟩), .int .i64 now] w fun e w' => ∃ v, e = .returned v ∧ w'.ownsRow G 3 1 v (dueP Lb now).length ((dueP Lb now).map vI) ∧ Fi Ta Tb R w0 G w' Ba Bb Br La (lefP Lb now) M ∧ Hi G w w' :=
  (wdue_any h.b).mono fun e w' ⟨v, he, ho, p, o⟩ => ⟨v, he, own_mono ho h.gz, ⟨h.a.off o h.ap.ab, p, h.r.off o (fun k hr ha => h.ap.br k ha hr), h.ap, h.hi, Nat.le_trans h.gz o.size, h.bl.trans (o.toBelow (fun k hk => h.ap.lo k (.inr (.inl hk))) h.bl.size)⟩, o.size, fun k hk hl => o.block k hl (fun e => by have := h.hi k (.inr (.inl e)); omega)⟩
theorem fi_due_r (h : Fi Ta Tb R w0 G w Ba Bb Br La Lb M) {now : Int} : Calls Try.prog 15 #[.pointer (some ⟨Br, 0, none⟩), .int .i64 now] w fun e w' => ∃ v, e = .returned v ∧ w'.ownsRow G 3 1 v (dueP M now).length ((dueP M now).map vI) ∧ Fi Ta Tb R w0 G w' Ba Bb Br La Lb (lefP M now) ∧ Hi G w w' :=
  have hrb := h.r.rB
  (rdue_any h.r).mono fun e w' ⟨v, he, ho, p, o⟩ => ⟨v, he, own_mono ho h.gz, ⟨h.a.off o (fun k ha e => h.ap.ar k ha (e ▸ hrb)), h.b.off o (fun k ha e => h.ap.br k ha (e ▸ hrb)), p, h.ap, h.hi, Nat.le_trans h.gz o.size, h.bl.trans (o.toBelow (fun k hk => h.ap.lo k (.inr (.inr (hk ▸ hrb)))) h.bl.size)⟩, o.size, fun k hk hl => o.block k hl (fun e => by have := h.hi k (.inr (.inr (e ▸ hrb))); omega)⟩
theorem fi_len_a (h : Fi Ta Tb R w0 G w Ba Bb Br La Lb M) : Calls Try.prog 11 #[.pointer (some ⟨Ba, 0, none⟩)] w fun e w' => e = .returned (.int .i64 (La.length : Int)) ∧ w = w' := wlen_any h.a
theorem fi_len_b (h : Fi Ta Tb R w0 G w Ba Bb Br La Lb M) : Calls Try.prog 11 #[.pointer (some ⟨Bb, 0, none⟩)] w fun e w' => e = .returned (.int .i64 (Lb.length : Int)) ∧ w = w' := wlen_any h.b
theorem Fi.cr (h : Fi Ta Tb R w0 G w Ba Bb Br La Lb M) : ∃ A c, w.cell? ⟨Br, 0, none⟩ = some (.slice A M.length c) := by
  obtain ⟨_, A, c, hi⟩ := h.r
  exact ⟨A, c, hi.c0⟩
end
theorem ints_sl2 {base n : Nat} {v : Value} {K : List Int} (h : w.ownsRow base 3 1 v n (K.map vI)) (hl : K.length = n) : ∃ A c, v = .slice A n c ∧ Sl w 1 e1 A n K ∧ (A = none → c = 0) := by
  obtain ⟨A, c, rfl, hs⟩ := ints_sl h hl
  refine ⟨A, c, rfl, hs, fun e => ?_⟩
  obtain ⟨_, ⟨q1, q2⟩ | ⟨g, cap, cur, hv, _⟩⟩ := h
  · simp only [Value.slice.injEq] at q1; exact q1.2.2
  · cases hv; cases e
end
theorem e1_one (n : Int) : ∀ u ∈ e1 n, u.oneCell' = true := by intro u hu; simp [e1, vI] at hu; subst hu; rfl
theorem due_twice (L : List K2) {now later : Int} (h : now ≤ later) : dueP L later = dueP L now ++ dueP (lefP L now) later ∧ lefP (lefP L now) later = lefP L later := by
  unfold dueP lefP
  induction L with
  | nil => simp
  | cons x t ih =>
    by_cases c : x.2 ≤ now
    · have c2 : x.2 ≤ later := by omega
      simp only [List.takeWhile_cons, List.dropWhile_cons, c, c2, decide_true, if_true, List.map_cons, List.cons_append]
      exact ⟨by rw [ih.1], ih.2⟩
    · simp [List.takeWhile_cons, List.dropWhile_cons, c]
end Go.Proofs.Ytcmdelmgklidjaa
