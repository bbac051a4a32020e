/- What a Set comes to on a disk with power; by-name template. -/
import Derived.Test.YtikaeblmjlfgcaaSet
import Derived.Test.YtikaeblmjlfgcaaHeavy
import Derived.Test.YtikaeblmjlfgcaaVSame
namespace Go.Proofs.Ytikaeblmjlfgcaa
open Go.RowKit
set_option linter.unusedVariables false

/-- A disk that a store may be on: how many raw writes at most. -/
structure Sane (D : DS) (m : Int) : Prop where
  l0 : 0 ≤ D.l
  l1 : D.l ≤ 9223372036854775807
  n0 : 0 ≤ D.n
  n1 : D.n ≤ m
  len : D.S.length = 160
  small : Small D
theorem sane_new : Sane D0 0 := ⟨by decide, by decide, by decide, by decide, rfl, small_new⟩

/-- All of a Set's story, but for its values. -/
structure Done (D : DS) (m : Int) (L : List Pt) (c : Int) (D' : DS) : Prop where
  sane : Sane D' (m + 65)
  lle : D'.l ≤ D.l
  cut : D'.c = D.c
  le : D.n ≤ D'.n
  le2 : D'.n ≤ D.n + 65
  chk : c ≠ 12 → Chk L c
  same : c ≠ 0 ∨ L = [] → (∀ s : Nat, getv D' s = getv D s) ∧ (root D').n = (root D).n ∧ (c ≠ 12 → D' = D)
  new : c = 0 → L ≠ [] → D.n < D'.n ∧ D'.d = false ∧ (root D').n = bump (root D).n ∧ ∀ s : Nat, s < 8 → getv D' s = afterF (getv D) L s
  dead : c = 12 → Chk L 0 ∧ L ≠ [] ∧ (D.d = true ∨ (D.c = true ∧ D.l < 65))

theorem SPost.done {D : DS} {m : Int} (hs : Sane D m) {B S : Nat} {L : List Pt} {w : World} {e : Ending} {w' : World} (h : SPost D B S L w e w') :
    ∃ c D', e = .returned (.int .i64 c) ∧ DiskAt w' B D' ∧ Off2 B S w w' ∧ Done D m L c D' := by
  obtain ⟨c, D', he, hd, ho, h⟩ := h
  refine ⟨c, D', he, hd, ho, ?_⟩
  have hn1 := hs.n1
  rcases h with ⟨hc, hcl, rfl⟩ | ⟨hc, hL, hout⟩
  · have h12 : c ≠ 12 := by
      intro e
      subst e
      unfold Chk at hc
      grind
    refine ⟨⟨hs.l0, hs.l1, hs.n0, by omega, hs.len, hs.small⟩, Int.le_refl _, rfl, Int.le_refl _, by omega, fun _ => hc, fun _ => ⟨fun _ => rfl, rfl, fun _ => rfl⟩, fun h0 hL => ?_, fun h => absurd h h12⟩
    rcases hcl with h | h
    · exact absurd h0 h
    · exact absurd h hL
  · have hsm := out_small hout hs.small
    by_cases h0 : c = 0
    · subst h0
      obtain ⟨hk, hd', hlt, hrn, hot, hin⟩ := out_ok hout hc hs.len hs.l0 rfl
      have := hk.n1
      have := hk.n0
      have := hk.l1
      have := hs.l1
      have := hs.n0
      refine ⟨⟨hk.l0, by omega, by omega, by omega, hk.len, hsm⟩, hk.l1, hk.c, hk.n0, hk.n1, fun _ => hc, fun h => ?_, fun _ _ => ⟨hlt, hd', hrn, fun s hs8 => ?_⟩, fun h => by cases h⟩
      · rcases h with h | h
        · exact absurd rfl h
        · exact absurd h hL
      · obtain ⟨hk1, hk2, hk3⟩ := hc.ok rfl
        by_cases hx : ∃ p ∈ L, p.slot = (s : Int)
        · obtain ⟨p, hp, hps⟩ := hx
          rw [afterF_mem L _ hk3 p hp s hps]
          have := hin p hp
          rw [hps] at this
          exact this
        · have hx' : ∀ p ∈ L, p.slot ≠ (s : Int) := fun p hp e => hx ⟨p, hp, e⟩
          rw [afterF_other L _ s hx']
          exact hot s hs8 hx'
    · obtain ⟨hk, h12, hd', hr, hg, hst⟩ := out_no hout hc hs.len hs.l0 h0
      have := hk.n1
      have := hk.n0
      have := hk.l1
      have := hs.l1
      have := hs.n0
      exact ⟨⟨hk.l0, by omega, by omega, by omega, hk.len, hsm⟩, hk.l1, hk.c, hk.n0, hk.n1, fun h => absurd h12 h, fun _ => ⟨hg, by rw [hr], fun h => absurd h12 h⟩, fun h => absurd h h0, fun _ => ⟨hc, hL, hst⟩⟩

theorem Done.calm {D : DS} {m : Int} {L : List Pt} {c : Int} {D' : DS} (h : Done D m L c D') (hc : D.c = false) (hd : D.d = false) : c ≠ 12 ∧ D'.c = false ∧ D'.d = false := by
  have h12 : c ≠ 12 := by
    intro e
    rcases (h.dead e).2.2 with h | ⟨h, _⟩
    · rw [hd] at h; cases h
    · rw [hc] at h; cases h
  refine ⟨h12, h.cut.trans hc, ?_⟩
  by_cases h0 : c ≠ 0 ∨ L = []
  · rw [(h.same h0).2.2 h12]
    exact hd
  · have h0' : c = 0 ∧ L ≠ [] := by
      constructor
      · exact Classical.byContradiction fun e => h0 (.inl e)
      · exact fun e => h0 (.inr e)
    exact (h.new h0'.1 h0'.2).2.1

/-- A set, by the call, with its story. -/
theorem set_done {a : Option Addr} {L : List Pt} (cap : Nat) {w : World} {S B : Nat} {D : DS} {m : Int} (h : PutsAt w a L) (hS : StoreAt w S B B) (hD : DiskAt w B D) (hSB : S ≠ B) (hs : Sane D m) (hm : m < 1000000000) :
    Calls Try.prog 11 #[.pointer (some ⟨S, 0, none⟩), .slice a L.length cap] w fun e w' => ∃ c D', e = .returned (.int .i64 c) ∧ DiskAt w' B D' ∧ Off2 B S w w' ∧ Done D m L c D' :=
  (set_any cap h hS hD hSB hs.small hs.l0 hs.l1 hs.n0 (by have := hs.n1; omega)).mono fun e w' hp => hp.done hs

/-- A list of one step, built by the law. -/
theorem row_one {w : World} {a : Option Addr} {L : List Pt} (cap : Nat) (h : PutsAt w a L) : RowsAt (w.alloc (.cells #[.int .i64 0, .int .i64 0, .slice a L.length cap] 26)) 3 2 (some ⟨w.heap.size, 0, none⟩) [L] := by
  refine ⟨by simp, fun i M hi => ?_⟩
  cases i with
  | zero =>
    simp at hi
    subst hi
    exact ⟨w.heap.size, 0, a, cap, rfl, by simp, (Blk.new w _ _).cell 2, h.below ((Below.refl _ _).alloc (Nat.le_refl _) _) (Nat.le_refl _)⟩
  | succ i => simp at hi
end Go.Proofs.Ytikaeblmjlfgcaa
