/- Sorted and compacted, over rows of one's own; by-name template. -/
import Derived.Test.YtomennaekjklbaaCComp
import Derived.Shelf.SlSortCmp.NoneTotal
namespace Go.Proofs.Ytomennaekjklbaa
open Go.Shelf Go.RowKit Go.Lib Go.Sort
set_option linter.unusedVariables false
set_option linter.unusedSimpArgs false

theorem bel_sort {N : Nat} (w : World) (blk off n : Nat) (d : Array P2) (os : Array Obj) (hN : N ≤ blk) (hs : N ≤ w.heap.size) : Below N w (sortWorldK p2c 2 w blk off n d os) :=
  ⟨rfl, rfl, rfl, by simp [sortWorldK, grow, putRowK, putRow, mapBlock, ahead], fun k hk => by
    simp only [sortWorldK, grow, putRowK, putRow, mapBlock, ahead]
    rw [Array.getElem?_append_left (by simp; omega), Array.getElem?_modify, if_neg (by omega)]
    rfl⟩
theorem p2_at (p : P2) : (p2c p)[0]! = .int .u64 p.h ∧ (p2c p)[1]! = .int .u64 p.l := ⟨rfl, rfl⟩
theorem holds_of {w : World} {g : Nat} {d : Array P2} (h : H2 w g d) : HoldsK p2c 2 w g 0 d := fun t ht => by
  rw [size_flatK] at ht
  have hj : t / 2 < d.size := by omega
  obtain ⟨⟨h1, h2⟩, h3, h4⟩ := h (t / 2) hj
  rw [get_flatK p2c 2 d t ht, Nat.zero_add]
  have e : t % 2 = 0 ∨ t % 2 = 1 := by omega
  rcases e with e | e
  · rw [e, (p2_at _).1]
    rw [show t / 2 * 2 = t by omega] at h1 h3
    exact ⟨h1, h3⟩
  · rw [e, (p2_at _).2]
    rw [show t / 2 * 2 + 1 = t by omega] at h2 h4
    exact ⟨h2, h4⟩
theorem of_holds {w : World} {g : Nat} {d : Array P2} (h : HoldsK p2c 2 w g 0 d) : H2 w g d := fun j hj => by
  have a := h (j * 2) (by rw [size_flatK]; omega)
  have b := h (j * 2 + 1) (by rw [size_flatK]; omega)
  rw [get_flatK p2c 2 d _ (by omega), Nat.zero_add] at a b
  rw [show j * 2 / 2 = j by omega, show j * 2 % 2 = 0 by omega, (p2_at _).1] at a
  rw [show (j * 2 + 1) / 2 = j by omega, show (j * 2 + 1) % 2 = 1 by omega, (p2_at _).2] at b
  exact ⟨⟨a.1, b.1⟩, a.2, b.2⟩
theorem h2_own {w : World} {base g n cap : Nat} {e : TypeId} {L : List P2} (h : w.ownsRow base e 2 (.slice (some ⟨g, 0, none⟩) n cap) n (L.flatMap p2c)) (hn : L.length = n) : H2 w g L.toArray := fun j hj => by
  have hj' : j < L.length := by simpa using hj
  have hx : L[j]? = some L.toArray[j]! := by rw [getElem!_pos L.toArray j hj]; simp [hj']
  have c1 := h.cells (g := g) rfl (j * 2 + 0) _ (flat_get (k := 2) (enc := p2c) (fun _ => rfl) L j _ hx 0 _ rfl)
  have c2 := h.cells (g := g) rfl (j * 2 + 1) _ (flat_get (k := 2) (enc := p2c) (fun _ => rfl) L j _ hx 1 _ rfl)
  have ea : ∀ t, (⟨g, 0, none⟩ : Addr).add t = ⟨g, t, none⟩ := fun t => by unfold Addr.add; split <;> simp_all
  rw [ea] at c1 c2
  exact ⟨⟨by simpa using c1, c2⟩, h.frozenAt _, h.frozenAt _⟩
theorem sort_nil (A : Option Addr) (cap : Nat) (fv : Value) (w : World) : Calls Try.prog 62 #[.slice A 0 cap, fv] w fun e w' => e = .returned (.tuple #[]) ∧ w' = w := by
  have h := AnyF.slices_SortFunc_none Try.sort_adr A cap fv w
  change Calls Try.prog 62 _ _ _ at h
  exact h
theorem compact_nil (A : Option Addr) (cap : Nat) (w : World) : Calls Try.prog 64 #[.slice A 0 cap] w fun e w' => e = .returned (.slice A 0 cap) ∧ w = w' := by
  go_enter Try.func64, Try.ntmps64
  go_wp2
  go_ret
  exact ⟨rfl, rfl⟩
/-- What a row of one's own holds behind the sort. -/
def SortPost (w : World) (P g n : Nat) (L : List P2) (e : Ending) (w' : World) : Prop := e = .returned (.tuple #[]) ∧ ∃ d : Array P2, d.size = n ∧ compactUpTo d d.size = L.foldl addP [] ∧ H2 w' g d ∧ g < w'.heap.size ∧ Below P w w'
theorem sort_own (base P g n cap : Nat) (L : List P2) (hn : L.length = n) (hP : P ≤ g) (hbig : n ≤ 65536) (w : World) (hPw : P ≤ w.heap.size) (h : w.ownsRow base 25 2 (.slice (some ⟨g, 0, none⟩) n cap) n (L.flatMap p2c)) :
    Calls Try.prog 62 #[.slice (some ⟨g, 0, none⟩) n cap, .func (.func 63) #[] #[]] w (SortPost w P g n L) := by
  have hg : g < w.heap.size := (h.lt g rfl).2
  have hH := holds_of (h2_own h hn)
  have hs : L.toArray.size = n := by simpa using hn
  have c := sort_any g 0 cap L.toArray w hH hg (by omega)
  rw [hs] at c
  refine c.mono fun e w' ⟨he, d', m, os, hp, hso, hw⟩ => ?_
  have hd : d'.size = n := by rw [hp.1, hs]
  refine ⟨he, d', hd, points_same (LL := L) (by rw [hd]; exact hso) (by rw [hd]; exact hp) (by rw [hd, hn]), ?_, ?_, ?_⟩
  · rw [hw]; exact of_holds (holdsK_sortWorldK p2c 2 w g 0 m L.toArray d' os hg hH (by rw [hd, hs]))
  · rw [hw]; exact lt_sortWorldK p2c 2 w g 0 m d' os hg
  · rw [hw]; exact bel_sort w g 0 m d' os hP hPw
end Go.Proofs.Ytomennaekjklbaa
