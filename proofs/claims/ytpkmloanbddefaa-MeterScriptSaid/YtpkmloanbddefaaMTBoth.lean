/- Meters: the program's and the document's beside one another; by-name template. -/
import Derived.Test.YtpkmloanbddefaaMTV
import Derived.Test.YtpkmloanbddefaaMTRL
namespace Go.Proofs.Ytpkmloanbddefaa
open Go.RowKit Go.Lib Go.Maps
set_option linter.unusedVariables false
set_option linter.unusedSimpArgs false

structure Both (w wr : World) (r b : Int) (Bm Mp Rm : Nat) (k : Nat) (LP LR : LL) : Prop where
  ex : ∃ S1 S2 tk E1 E2 v, PAt wr S1 r b tk Bm Mp E1 ∧ RAt wr S2 r b Rm E2 v ∧ E1.map PE.me = LP ∧ E2.map RE.me = LR ∧ tk ≤ k ∧ (∀ x, S1 x → w.heap.size ≤ x) ∧ (∀ x, S2 x → w.heap.size ≤ x) ∧ (∀ x, S1 x → ¬ S2 x)
  bel : Below w.heap.size w wr

theorem Both.below {w wr w' : World} {r b : Int} {Bm Mp Rm k : Nat} {LP LR : LL} (h : Both w wr r b Bm Mp Rm k LP LR) (hb : Below wr.heap.size wr w') : Both w w' r b Bm Mp Rm k LP LR := by
  obtain ⟨⟨S1, S2, tk, E1, E2, v, hp, hr, rest⟩, bel⟩ := h
  exact ⟨⟨S1, S2, tk, E1, E2, v, hp.below hb, hr.below hb, rest⟩, bel.trans (hb.mono bel.size)⟩
theorem Both.dr {w wr : World} {r b : Int} {Bm Mp Rm k : Nat} {LP LR : LL} (h : Both w wr r b Bm Mp Rm k LP LR) : Both w wr.drew r b Bm Mp Rm k LP LR := h.below (bel_dr (Below.refl _ _))
theorem Both.al {w wr : World} {r b : Int} {Bm Mp Rm k : Nat} {LP LR : LL} (h : Both w wr r b Bm Mp Rm k LP LR) (o : Obj) : Both w (wr.alloc o) r b Bm Mp Rm k LP LR := h.below ((Below.refl _ _).alloc (Nat.le_refl _) _)

theorem both_start {w w1 w2 : World} {r b : Int} {Bm Mp Rm : Nat} (h1 : PAt w1 (fun k => w.heap.size ≤ k ∧ k < w1.heap.size) r b 0 Bm Mp []) (b1 : Below w.heap.size w w1) (h2 : RAt w2 (fun k => w1.heap.size ≤ k ∧ k < w2.heap.size) r b Rm [] (.slice none 0 0)) (b2 : Below w1.heap.size w1 w2) : Both w w2 r b Bm Mp Rm 0 [] [] :=
  ⟨⟨_, _, 0, [], [], _, h1.below b2, h2, rfl, rfl, by omega, fun x hx => hx.1, fun x hx => Nat.le_trans b1.size hx.1, fun x hx hy => by omega⟩, b1.trans (b2.mono b1.size)⟩

theorem both_take_p {w wr : World} {r b : Int} {Bm Mp Rm k : Nat} {LP LR : LL} (h : Both w wr r b Bm Mp Rm k LP LR) (hk : k < 9223372036854775807) {s : Src} (hs : SrcOk s) {t : Int} (ht : i64ok t) :
    Calls Try.prog 10 #[.pointer (some ⟨Bm, 0, none⟩), .agg #[.int .u64 s.1, .int .u64 s.2], .int .i64 t] wr fun e w' => e = .returned (.tuple #[.bool (takeO r b LP s t), .bool (takeR LP s t)]) ∧ Both w w' r b Bm Mp Rm (k + 1) (takeL r b LP s t) LR := by
  obtain ⟨⟨S1, S2, tk, E1, E2, v, hp, hr, rfl, rfl, htk, hS1, hS2, hd⟩, bel⟩ := h
  refine (take_meters hp hs ht (by omega)).mono fun e w' ⟨S', E', tk', he, hp', hE', ho, hS', htk'⟩ => ⟨he, ⟨S', S2, tk', E', E2, v, hp', hr.off ho (fun x hx hy => hd x hy hx), hE', rfl, by omega, fun x hx => ?_, hS2, fun x hx hy => ?_⟩, bel.trans (ho.toBelow hS1 bel.size)⟩
  · rcases hS' x hx with h1 | h1
    · exact hS1 x h1
    · exact Nat.le_trans bel.size h1
  · rcases hS' x hx with h1 | h1
    · exact hd x h1 hy
    · have := hr.lt x hy; omega
theorem both_take_r {w wr : World} {r b : Int} {Bm Mp Rm k : Nat} {LP LR : LL} (h : Both w wr r b Bm Mp Rm k LP LR) {s : Src} (hs : SrcOk s) {t : Int} (ht : i64ok t) :
    Calls Try.prog 11 #[.pointer (some ⟨Rm, 0, none⟩), .agg #[.int .u64 s.1, .int .u64 s.2], .int .i64 t] wr fun e w' => e = .returned (.tuple #[.bool (takeO r b LR s t), .bool (takeR LR s t)]) ∧ Both w w' r b Bm Mp Rm k LP (takeL r b LR s t) := by
  obtain ⟨⟨S1, S2, tk, E1, E2, v, hp, hr, rfl, rfl, htk, hS1, hS2, hd⟩, bel⟩ := h
  refine (rtake_meters hr hs ht).mono fun e w' ⟨S', E', v', he, hr', hE', ho, hS'⟩ => ⟨he, ⟨S1, S', tk, E1, E', v', hp.off ho (fun x hx hy => hd x hx hy), hr', rfl, hE', htk, hS1, fun x hx => ?_, fun x hx hy => ?_⟩, bel.trans (ho.toBelow hS2 bel.size)⟩
  · rcases hS' x hx with h1 | h1
    · exact hS2 x h1
    · exact Nat.le_trans bel.size h1
  · rcases hS' x hy with h1 | h1
    · exact hd x hx h1
    · have := hp.lt x hx; omega
theorem both_tok_p {w wr : World} {r b : Int} {Bm Mp Rm k : Nat} {LP LR : LL} (h : Both w wr r b Bm Mp Rm k LP LR) {s : Src} (hs : SrcOk s) {t : Int} (ht : i64ok t) :
    Calls Try.prog 15 #[.pointer (some ⟨Bm, 0, none⟩), .agg #[.int .u64 s.1, .int .u64 s.2], .int .i64 t] wr fun e w' => e = .returned (.int .i64 (tokV LP s t)) ∧ Both w w' r b Bm Mp Rm k (tokL LP s t) LR := by
  obtain ⟨⟨S1, S2, tk, E1, E2, v, hp, hr, rfl, rfl, htk, hS1, hS2, hd⟩, bel⟩ := h
  exact (tokens_m hp hs ht).mono fun e w' ⟨he, ⟨E', hp', hE'⟩, ho⟩ => ⟨he, ⟨S1, S2, tk, E', E2, v, hp', hr.off ho (fun x hx hy => hd x hy hx), hE', rfl, htk, hS1, hS2, hd⟩, bel.trans (ho.toBelow hS1 bel.size)⟩
theorem both_tok_r {w wr : World} {r b : Int} {Bm Mp Rm k : Nat} {LP LR : LL} (h : Both w wr r b Bm Mp Rm k LP LR) {s : Src} (hs : SrcOk s) {t : Int} (ht : i64ok t) :
    Calls Try.prog 17 #[.pointer (some ⟨Rm, 0, none⟩), .agg #[.int .u64 s.1, .int .u64 s.2], .int .i64 t] wr fun e w' => e = .returned (.int .i64 (tokV LR s t)) ∧ Both w w' r b Bm Mp Rm k LP (tokL LR s t) := by
  obtain ⟨⟨S1, S2, tk, E1, E2, v, hp, hr, rfl, rfl, htk, hS1, hS2, hd⟩, bel⟩ := h
  exact (rtokens_m hr hs ht).mono fun e w' ⟨he, ⟨E', hr', hE'⟩, ho⟩ => ⟨he, ⟨S1, S2, tk, E1, E', v, hp.off ho (fun x hx hy => hd x hx hy), hr', rfl, hE', htk, hS1, hS2, hd⟩, bel.trans (ho.toBelow hS2 bel.size)⟩
theorem both_has_p {w wr : World} {r b : Int} {Bm Mp Rm k : Nat} {LP LR : LL} (h : Both w wr r b Bm Mp Rm k LP LR) {s : Src} (hs : SrcOk s) :
    Calls Try.prog 12 #[.pointer (some ⟨Bm, 0, none⟩), .agg #[.int .u64 s.1, .int .u64 s.2]] wr fun e w' => e = .returned (.bool (hasP LP s)) ∧ Below wr.heap.size wr w' := by
  obtain ⟨⟨S1, S2, tk, E1, E2, v, hp, hr, rfl, rest⟩, bel⟩ := h
  have := has_any hp hs
  rw [any_idx] at this
  exact this
theorem both_has_r {w wr : World} {r b : Int} {Bm Mp Rm k : Nat} {LP LR : LL} (h : Both w wr r b Bm Mp Rm k LP LR) {s : Src} (hs : SrcOk s) :
    Calls Try.prog 13 #[.pointer (some ⟨Rm, 0, none⟩), .agg #[.int .u64 s.1, .int .u64 s.2]] wr fun e w' => e = .returned (.bool (hasP LR s)) ∧ Below wr.heap.size wr w' := by
  obtain ⟨⟨S1, S2, tk, E1, E2, v, hp, hr, rfl, rfl, rest⟩, bel⟩ := h
  exact rhas_any hr hs
theorem both_len_p {w wr : World} {r b : Int} {Bm Mp Rm k : Nat} {LP LR : LL} (h : Both w wr r b Bm Mp Rm k LP LR) :
    Calls Try.prog 14 #[.pointer (some ⟨Bm, 0, none⟩)] wr fun e w' => e = .returned (.int .i64 (LP.length : Int)) ∧ wr = w' := by
  obtain ⟨⟨S1, S2, tk, E1, E2, v, hp, hr, rfl, rest⟩, bel⟩ := h
  rw [List.length_map]
  exact len_any hp
theorem Both.len_r {w wr : World} {r b : Int} {Bm Mp Rm k : Nat} {LP LR : LL} (h : Both w wr r b Bm Mp Rm k LP LR) : ∃ a c, wr.cell? ⟨Rm, 2, none⟩ = some (.slice a LR.length c) := by
  obtain ⟨⟨S1, S2, tk, E1, E2, v, hp, hr, rfl, rfl, rest⟩, bel⟩ := h
  obtain ⟨a, c, rfl⟩ := hr.sv
  rw [List.length_map]
  exact ⟨a, c, hr.c2s⟩
theorem Both.ln {w wr : World} {r b : Int} {Bm Mp Rm k : Nat} {LP LR : LL} (h : Both w wr r b Bm Mp Rm k LP LR) : LP.length ≤ 32 ∧ LR.length ≤ 32 := by
  obtain ⟨⟨S1, S2, tk, E1, E2, v, hp, hr, rfl, rfl, rest⟩, bel⟩ := h
  rw [List.length_map, List.length_map]
  exact ⟨hp.ln, hr.ln⟩
theorem Both.at_r {w wr : World} {r b : Int} {Bm Mp Rm k : Nat} {LP LR : LL} (h : Both w wr r b Bm Mp Rm k LP LR) {i : Nat} (hi : i < LR.length) : ∃ g cap O s, wr.cell? ⟨Rm, 2, none⟩ = some (.slice (some ⟨g, 0, none⟩) LR.length cap) ∧ LR.length ≤ cap ∧ cap ≤ 9223372036854775807 ∧ wr.cell? ⟨g, i, none⟩ = some (.pointer (some ⟨O, 0, none⟩)) ∧ wr.cell? ⟨O, 0, none⟩ = some (.int .u64 s.1) ∧ wr.cell? ⟨O, 1, none⟩ = some (.int .u64 s.2) ∧ SrcOk s ∧ hasP LR s = true := by
  obtain ⟨⟨S1, S2, tk, E1, E2, v, hp, hr, rfl, rfl, rest⟩, bel⟩ := h
  have hi' : i < E2.length := by simpa using hi
  have he : E2[i]? = some E2[i] := List.getElem?_eq_getElem hi'
  obtain ⟨g, cap, rfl, k1, k2, _, _, q0, q1, q2, _⟩ := hr.elem he
  unfold maxLen at k2
  refine ⟨g, cap, E2[i].O, E2[i].s, by rw [List.length_map]; exact hr.c2s, by simpa using k1, by omega, q0, q1, q2, hr.ok _ (List.getElem_mem hi'), ?_⟩
  unfold hasP
  rw [ridx_me, List.length_map, decide_eq_true_iff]
  exact List.findIdx_lt_length.2 ⟨E2[i], List.getElem_mem hi', by simp⟩
end Go.Proofs.Ytpkmloanbddefaa
