/- Meters: the program's and the document's beside one another, and blocks that neither touches; by-name template. -/
import Derived.Test.YtpkmloanbddefaaMTBoth
namespace Go.Proofs.Ytpkmloanbddefaa
open Go.RowKit Go.Lib Go.Maps
set_option linter.unusedVariables false
set_option linter.unusedSimpArgs false

/-- as Both; the blocks of T are neither's. -/
structure BoT (T : Nat → Prop) (w wr : World) (r b : Int) (Bm Mp Rm : Nat) (k : Nat) (LP LR : LL) : Prop where
  ex : ∃ S1 S2 tk E1 E2 v, PAt wr S1 r b tk Bm Mp E1 ∧ RAt wr S2 r b Rm E2 v ∧ E1.map PE.me = LP ∧ E2.map RE.me = LR ∧ tk ≤ k ∧ (∀ x, S1 x → w.heap.size ≤ x) ∧ (∀ x, S2 x → w.heap.size ≤ x) ∧ (∀ x, S1 x → ¬ S2 x) ∧ (∀ x, S1 x → ¬ T x) ∧ (∀ x, S2 x → ¬ T x)
  bel : Below w.heap.size w wr
  lt : ∀ x, T x → x < wr.heap.size

def Same (T : Nat → Prop) (w w' : World) : Prop := ∀ k, T k → w'.heap[k]? = w.heap[k]?

theorem BoT.both {T : Nat → Prop} {w wr : World} {r b : Int} {Bm Mp Rm k : Nat} {LP LR : LL} (h : BoT T w wr r b Bm Mp Rm k LP LR) : Both w wr r b Bm Mp Rm k LP LR := by
  obtain ⟨⟨S1, S2, tk, E1, E2, v, hp, hr, h1, h2, h3, h4, h5, h6, _⟩, bel, _⟩ := h
  exact ⟨⟨S1, S2, tk, E1, E2, v, hp, hr, h1, h2, h3, h4, h5, h6⟩, bel⟩
theorem Both.one {w wr : World} {r b : Int} {Bm Mp Rm k : Nat} {LP LR : LL} (h : Both w wr r b Bm Mp Rm k LP LR) (o : Obj) : BoT (fun x => x = wr.heap.size) w (wr.alloc o) r b Bm Mp Rm k LP LR := by
  obtain ⟨⟨S1, S2, tk, E1, E2, v, hp, hr, h1, h2, h3, h4, h5, h6⟩, bel⟩ := h
  exact ⟨⟨S1, S2, tk, E1, E2, v, hp.al o, hr.al o, h1, h2, h3, h4, h5, h6, fun x hx e => by have := hp.lt x hx; omega, fun x hx e => by have := hr.lt x hx; omega⟩, bel.trans (((Below.refl _ _).alloc (Nat.le_refl _) _).mono bel.size), fun x hx => by subst hx; simp⟩
theorem BoT.below {T : Nat → Prop} {w wr w' : World} {r b : Int} {Bm Mp Rm k : Nat} {LP LR : LL} (h : BoT T w wr r b Bm Mp Rm k LP LR) (hb : Below wr.heap.size wr w') : BoT T w w' r b Bm Mp Rm k LP LR := by
  obtain ⟨⟨S1, S2, tk, E1, E2, v, hp, hr, rest⟩, bel, lt⟩ := h
  exact ⟨⟨S1, S2, tk, E1, E2, v, hp.below hb, hr.below hb, rest⟩, bel.trans (hb.mono bel.size), fun x hx => Nat.lt_of_lt_of_le (lt x hx) hb.size⟩
theorem BoT.dr {T : Nat → Prop} {w wr : World} {r b : Int} {Bm Mp Rm k : Nat} {LP LR : LL} (h : BoT T w wr r b Bm Mp Rm k LP LR) : BoT T w wr.drew r b Bm Mp Rm k LP LR := h.below (bel_dr (Below.refl _ _))

theorem bot_take_p {T : Nat → Prop} {w wr : World} {r b : Int} {Bm Mp Rm k : Nat} {LP LR : LL} (h : BoT T w wr r b Bm Mp Rm k LP LR) (hk : k < 9223372036854775807) {s : Src} (hs : SrcOk s) {t : Int} (ht : i64ok t) :
    Calls Try.prog 10 #[.pointer (some ⟨Bm, 0, none⟩), .agg #[.int .u64 s.1, .int .u64 s.2], .int .i64 t] wr fun e w' => e = .returned (.tuple #[.bool (takeO r b LP s t), .bool (takeR LP s t)]) ∧ BoT T w w' r b Bm Mp Rm (k + 1) (takeL r b LP s t) LR ∧ Same T wr w' := by
  obtain ⟨⟨S1, S2, tk, E1, E2, v, hp, hr, rfl, rfl, htk, hS1, hS2, hd, hT1, hT2⟩, bel, lt⟩ := h
  refine (take_meters hp hs ht (by omega)).mono fun e w' ⟨S', E', tk', he, hp', hE', ho, hS', htk'⟩ => ⟨he, ⟨⟨S', S2, tk', E', E2, v, hp', hr.off ho (fun x hx hy => hd x hy hx), hE', rfl, by omega, fun x hx => ?_, hS2, fun x hx hy => ?_, fun x hx hy => ?_, hT2⟩, bel.trans (ho.toBelow hS1 bel.size), fun x hx => Nat.lt_of_lt_of_le (lt x hx) ho.size⟩, fun x hx => ho.block x (lt x hx) (fun e => hT1 x e hx)⟩
  · rcases hS' x hx with h1 | h1
    · exact hS1 x h1
    · exact Nat.le_trans bel.size h1
  · rcases hS' x hx with h1 | h1
    · exact hd x h1 hy
    · have := hr.lt x hy; omega
  · rcases hS' x hx with h1 | h1
    · exact hT1 x h1 hy
    · have := lt x hy; omega
theorem bot_take_r {T : Nat → Prop} {w wr : World} {r b : Int} {Bm Mp Rm k : Nat} {LP LR : LL} (h : BoT T w wr r b Bm Mp Rm k LP LR) {s : Src} (hs : SrcOk s) {t : Int} (ht : i64ok t) :
    Calls Try.prog 11 #[.pointer (some ⟨Rm, 0, none⟩), .agg #[.int .u64 s.1, .int .u64 s.2], .int .i64 t] wr fun e w' => e = .returned (.tuple #[.bool (takeO r b LR s t), .bool (takeR LR s t)]) ∧ BoT T w w' r b Bm Mp Rm k LP (takeL r b LR s t) ∧ Same T wr w' := by
  obtain ⟨⟨S1, S2, tk, E1, E2, v, hp, hr, rfl, rfl, htk, hS1, hS2, hd, hT1, hT2⟩, bel, lt⟩ := h
  refine (rtake_meters hr hs ht).mono fun e w' ⟨S', E', v', he, hr', hE', ho, hS'⟩ => ⟨he, ⟨⟨S1, S', tk, E1, E', v', hp.off ho (fun x hx hy => hd x hx hy), hr', rfl, hE', htk, hS1, fun x hx => ?_, fun x hx hy => ?_, hT1, fun x hx hy => ?_⟩, bel.trans (ho.toBelow hS2 bel.size), fun x hx => Nat.lt_of_lt_of_le (lt x hx) ho.size⟩, fun x hx => ho.block x (lt x hx) (fun e => hT2 x e hx)⟩
  · rcases hS' x hx with h1 | h1
    · exact hS2 x h1
    · exact Nat.le_trans bel.size h1
  · rcases hS' x hy with h1 | h1
    · exact hd x hx h1
    · have := hp.lt x hx; omega
  · rcases hS' x hx with h1 | h1
    · exact hT2 x h1 hy
    · have := lt x hy; omega
theorem bot_tok_p {T : Nat → Prop} {w wr : World} {r b : Int} {Bm Mp Rm k : Nat} {LP LR : LL} (h : BoT T w wr r b Bm Mp Rm k LP LR) {s : Src} (hs : SrcOk s) {t : Int} (ht : i64ok t) :
    Calls Try.prog 15 #[.pointer (some ⟨Bm, 0, none⟩), .agg #[.int .u64 s.1, .int .u64 s.2], .int .i64 t] wr fun e w' => e = .returned (.int .i64 (tokV LP s t)) ∧ BoT T w w' r b Bm Mp Rm k (tokL LP s t) LR ∧ Same T wr w' := by
  obtain ⟨⟨S1, S2, tk, E1, E2, v, hp, hr, rfl, rfl, htk, hS1, hS2, hd, hT1, hT2⟩, bel, lt⟩ := h
  exact (tokens_m hp hs ht).mono fun e w' ⟨he, ⟨E', hp', hE'⟩, ho⟩ => ⟨he, ⟨⟨S1, S2, tk, E', E2, v, hp', hr.off ho (fun x hx hy => hd x hy hx), hE', rfl, htk, hS1, hS2, hd, hT1, hT2⟩, bel.trans (ho.toBelow hS1 bel.size), fun x hx => Nat.lt_of_lt_of_le (lt x hx) ho.size⟩, fun x hx => ho.block x (lt x hx) (fun e => hT1 x e hx)⟩
theorem bot_tok_r {T : Nat → Prop} {w wr : World} {r b : Int} {Bm Mp Rm k : Nat} {LP LR : LL} (h : BoT T w wr r b Bm Mp Rm k LP LR) {s : Src} (hs : SrcOk s) {t : Int} (ht : i64ok t) :
    Calls Try.prog 17 #[.pointer (some ⟨Rm, 0, none⟩), .agg #[.int .u64 s.1, .int .u64 s.2], .int .i64 t] wr fun e w' => e = .returned (.int .i64 (tokV LR s t)) ∧ BoT T w w' r b Bm Mp Rm k LP (tokL LR s t) ∧ Same T wr w' := by
  obtain ⟨⟨S1, S2, tk, E1, E2, v, hp, hr, rfl, rfl, htk, hS1, hS2, hd, hT1, hT2⟩, bel, lt⟩ := h
  exact (rtokens_m hr hs ht).mono fun e w' ⟨he, ⟨E', hr', hE'⟩, ho⟩ => ⟨he, ⟨⟨S1, S2, tk, E1, E', v, hp.off ho (fun x hx hy => hd x hx hy), hr', rfl, hE', htk, hS1, hS2, hd, hT1, hT2⟩, bel.trans (ho.toBelow hS2 bel.size), fun x hx => Nat.lt_of_lt_of_le (lt x hx) ho.size⟩, fun x hx => ho.block x (lt x hx) (fun e => hT2 x e hx)⟩
end Go.Proofs.Ytpkmloanbddefaa
