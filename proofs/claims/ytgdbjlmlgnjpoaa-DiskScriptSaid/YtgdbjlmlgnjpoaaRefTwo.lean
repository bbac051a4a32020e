/- The reference disk: New, Clone; and what holds two disks against each other; by-name template. -/
import Derived.Test.YtgdbjlmlgnjpoaaRef
import Derived.Deep.AppendLies
namespace Go.Proofs.Ytgdbjlmlgnjpoaa
open Go.RowKit

theorem zero_ref (w : World) : (zeroValue 42).run Try.prog w = .ok (.agg #[.slice none 0 0, .int .i64 0, .bool false, .int .i64 0, .bool false]) w := by kernel_rfl
def blanks : Array Value := Array.replicate 160 (.string ByteArray.empty)
theorem make_row (w : World) : (Instr.makeSlice 40 (.int .i64 160) (.int .i64 160)).run Try.prog w = .ok (.slice (some ⟨w.heap.size, 0, none⟩) 160 160) (w.alloc (.cells blanks 9)) := by kernel_rfl

theorem want_blanks {w : World} {g : Nat} (h : w.heap[g]? = some (.cells blanks 9 (0, 0))) : WantAt w g 160 D0.S := by
  refine ⟨_, h, by simp [blanks], fun j hj => ?_⟩
  rw [D0_get]
  simp [blanks, hj]

def RNewPost (w : World) (e : Ending) (w' : World) : Prop := ∃ R g cap, e = .returned (.pointer (some ⟨R, 0, none⟩)) ∧ RefAt w' R g cap D0 ∧ w.heap.size ≤ R ∧ w.heap.size ≤ g ∧ Below w.heap.size w w'

theorem rnew_any (w : World) : Calls Try.prog 17 #[] w (RNewPost w) := by
  have hmk := make_row
  have hz := zero_ref
  obtain ⟨Z, hZ⟩ : ∃ Z, Z = blanks := ⟨_, rfl⟩
  rw [← hZ] at hmk
  have HZ := Lib.hid hZ
  clear hZ
  go_enter Try.func17, Try.ntmps17
  go_wp2
  go_ret
  rw [HZ.out]
  refine ⟨w.heap.size + 1, w.heap.size, 160, rfl, ⟨?_, want_blanks ?_, rfl, Nat.le_refl _, by omega⟩, by omega, Nat.le_refl _, ((Below.refl _ _).alloc (Nat.le_refl _) _).alloc (by simp) _⟩
  · have := heap_alloc_new (w.alloc (.cells blanks 9)) (.cells (rcells w.heap.size 160 D0) 42)
    simpa [rcells, D0] using this
  · rw [Below.heap_alloc _ _ _ (by simp)]
    exact heap_alloc_new w _

theorem add_none (g j : Nat) : (⟨g, 0, none⟩ : Addr).add j = ⟨g, j, none⟩ := by unfold Addr.add; split <;> simp_all
theorem WantAt.news {w : World} {g cap : Nat} {S : List ByteArray} (h : WantAt w g cap S) (hS : S.length = 160) : ∀ j u, (S.map Value.string)[j]? = some u → w.cell? ((⟨g, 0, none⟩ : Addr).add j) = some u := by
  intro j u hj
  have hj1 : j < 160 := by
    have := (List.getElem?_eq_some_iff.1 hj).1
    simp [hS] at this
    exact this
  rw [add_none, h.cell hj1, ← hj]
  have : j < S.length := by omega
  simp [this]
theorem want_own {w : World} {A : Nat} {S : List ByteArray} {v : Value} (hS : S.length = 160) (h : w.ownsRow A 9 1 v (0 + 160) ([] ++ S.map Value.string)) : ∃ g cap, v = .slice (some ⟨g, 0, none⟩) 160 cap ∧ A ≤ g ∧ 160 ≤ cap ∧ WantAt w g cap S := by
  rcases h.2 with ⟨_, h0⟩ | ⟨g, cap, cur, rfl, hg, hh, hc, _, hs, ht⟩
  · cases h0
  · refine ⟨g, cap, rfl, hg, by omega, cur, hh, by omega, fun j hj => ?_⟩
    have hjl : j < S.length := by omega
    rw [← Array.getElem?_toList, ← List.getElem?_take_of_lt (i := j) (j := (0 + 160) * 1) (by omega), ht]
    simp [hjl]
theorem str_info2 : (Try.prog.info? 9).map (fun i => (i.zero, i.size, i.bytes)) = some (some (.string ByteArray.empty), 1, 16) := by kernel_rfl

def RClonePost (D : DS) (w : World) (e : Ending) (w' : World) : Prop := ∃ g cap, e = .returned (.pointer (some ⟨w.heap.size, 0, none⟩)) ∧ RefAt w' w.heap.size g cap D ∧ w.heap.size ≤ g ∧ Below w.heap.size w w'

set_option maxRecDepth 100000 in
theorem rclone_any {w : World} {R g cap : Nat} {D : DS} (h : RefAt w R g cap D) : Calls Try.prog 23 #[.pointer (some ⟨R, 0, none⟩)] w (RClonePost D w) := by
  have hz := zero_ref
  have g0 := h.c0
  have g1 := h.c1
  have g2 := h.c2
  have g3 := h.c3
  have g4 := h.c4
  go_enter Try.func23, Try.ntmps23
  obtain ⟨i0, hi, hz0, hz1, hz2⟩ := info_parts str_info2
  have HN := Lib.hid h
  have hRl := h.lt
  have hne : w.heap.size ≠ R := Nat.ne_of_gt hRl
  clear h
  go_wp2
  clear g1 g2 g3 g4
  have hW : WantAt (w.alloc (.cells #[.slice none 0 0, .int .i64 D.n, .bool D.c, .int .i64 D.l, .bool D.d] 42)) g cap D.S := HN.out.s.block (Below.heap_alloc _ _ _ HN.out.s.lt)
  have c1 : (w.alloc (.cells #[.slice none 0 0, .int .i64 D.n, .bool D.c, .int .i64 D.l, .bool D.d] 42)).cell? ⟨w.heap.size, 0, none⟩ = some (.slice none 0 0) := cell_of_row _ w.heap.size 0 _ _ _ (heap_alloc_new w _)
  have c2 : (w.alloc (.cells #[.slice none 0 0, .int .i64 D.n, .bool D.c, .int .i64 D.l, .bool D.d] 42)).cell? ⟨R, 0, none⟩ = some (.slice (some ⟨g, 0, none⟩) 160 cap) := (World.cell?_of_block (a := ⟨R, 0, none⟩) (Below.heap_alloc _ _ _ hRl)).trans g0
  have hb0 := heap_alloc_new w (.cells #[.slice none 0 0, .int .i64 D.n, .bool D.c, .int .i64 D.l, .bool D.d] 42)
  have hbw : Below w.heap.size w (w.alloc (.cells #[.slice none 0 0, .int .i64 D.n, .bool D.c, .int .i64 D.l, .bool D.d] 42)) := (Below.refl _ w).alloc (Nat.le_refl _) _
  have hsz : w.heap.size + 1 ≤ (w.alloc (.cells #[.slice none 0 0, .int .i64 D.n, .bool D.c, .int .i64 D.l, .bool D.d] 42)).heap.size := by simp
  have HB0 := Lib.hid hb0
  clear hb0 hne g0 hz
  generalize w.alloc (.cells #[.slice none 0 0, .int .i64 D.n, .bool D.c, .int .i64 D.l, .bool D.d] 42) = wx at *
  go_still_tail 6, (by kernel_rfl)
  change wpList _ _ _ _ _ wx.drew
  have hW2 : WantAt wx.drew g cap D.S := hW
  refine wpList_append_own _ rfl _ _ 40 rfl (w.heap.size + 1) 9 i0 (.string ByteArray.empty) 1 16 Try.underlying40 hi hz0 hz1 hz2 rfl (by decide) (.slice none 0 0) 0 [] rfl ⟨rfl, .inl ⟨rfl, rfl⟩⟩ ⟨g, 0, none⟩ 160 cap (D.S.map Value.string) rfl (by simp [HN.out.len]) (hW2.news HN.out.len) ?_ (by decide) (by decide) hsz ?_
  · intro u hu
    simp only [List.mem_map] at hu
    obtain ⟨s, _, rfl⟩ := hu
    rfl
  · intro v' w3 hown hgrow _
    obtain ⟨g3, cap3, rfl, hg3, hc3, hw3⟩ := want_own HN.out.len hown
    have hb3 : w3.heap[w.heap.size]? = some (.cells #[.slice none 0 0, .int .i64 D.n, .bool D.c, .int .i64 D.l, .bool D.d] 42 (0, 0)) := (hgrow.block w.heap.size hsz (fun e => by cases e)).trans HB0.out
    have hf3 : w3.frozen? ⟨w.heap.size, 0, none⟩ = false := by simp [World.frozen?, hb3]
    have hc4 : w3.cell? ⟨w.heap.size, 0, none⟩ = some (.slice none 0 0) := cell_of_row w3 w.heap.size 0 _ _ _ hb3
    have HB3 := Lib.hid hb3
    have hbel : Below w.heap.size w w3 := hbw.drew.grown hgrow (Nat.le_of_lt hsz) (fun k hk => by cases hk)
    clear hb3 hi hz0 hz1 hz2 hown hgrow hW hW2 c1 c2
    go_wp2
    go_ret
    refine ⟨g3, cap3, rfl, ⟨?_, hw3.block (Below.heap_setCell _ _ _ _ (by show g3 ≠ w.heap.size; omega)), HN.out.len, hc3, by omega⟩, by omega, hbel.setCell (Nat.le_refl _) _⟩
    rw [heap_set HB3.out]
    rfl
end Go.Proofs.Ytgdbjlmlgnjpoaa
