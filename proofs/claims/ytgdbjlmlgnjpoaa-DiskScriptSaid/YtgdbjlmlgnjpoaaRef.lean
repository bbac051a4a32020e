/- The reference disk: what each of its calls does; by-name template. -/
import Derived.Test.YtgdbjlmlgnjpoaaCut
import Derived.Deep.RegionLaw
namespace Go.Proofs.Ytgdbjlmlgnjpoaa
open Go.RowKit

def rcells (g cap : Nat) (D : DS) : Array Value := #[.slice (some ⟨g, 0, none⟩) 160 cap, .int .i64 D.n, .bool D.c, .int .i64 D.l, .bool D.d]

structure RefAt (w : World) (R g cap : Nat) (D : DS) : Prop where
  h : w.heap[R]? = some (.cells (rcells g cap D) 42 (0, 0))
  s : WantAt w g cap D.S
  len : D.S.length = 160
  cap : 160 ≤ cap
  ne : R ≠ g

/-- All blocks but R and g are as they were. -/
structure Off2 (R g : Nat) (w w' : World) : Prop where
  os : w'.os = w.os
  tape : w'.tape = w.tape
  output : w'.output = w.output
  size : w.heap.size ≤ w'.heap.size
  block : ∀ k, k < w.heap.size → k ≠ R → k ≠ g → w'.heap[k]? = w.heap[k]?
theorem Off2.refl (R g : Nat) (w : World) : Off2 R g w w := ⟨rfl, rfl, rfl, Nat.le_refl _, fun _ _ _ _ => rfl⟩
theorem Off2.set {R g : Nat} {a w : World} (h : Off2 R g a w) (o : Nat) (u : Value) : Off2 R g a (w.setCell ⟨R, o, none⟩ u) :=
  ⟨h.os, h.tape, h.output, by simpa [World.setCell] using h.size, fun k hk h1 h2 => (Below.heap_setCell _ _ _ _ (by simpa using h1)).trans (h.block k hk h1 h2)⟩
theorem Off2.setg {R g : Nat} {a w : World} (h : Off2 R g a w) (o : Nat) (u : Value) : Off2 R g a (w.setCell ⟨g, o, none⟩ u) :=
  ⟨h.os, h.tape, h.output, by simpa [World.setCell] using h.size, fun k hk h1 h2 => (Below.heap_setCell _ _ _ _ (by simpa using h2)).trans (h.block k hk h1 h2)⟩
theorem Off2.toBelow {R g A : Nat} {w w' : World} (h : Off2 R g w w') (hA : A ≤ w.heap.size) (hR : A ≤ R) (hg : A ≤ g) : Below A w w' :=
  ⟨h.os, h.tape, h.output, h.size, fun k hk => h.block k (by omega) (by omega) (by omega)⟩
theorem DiskAt.off2 {w w' : World} {R g B : Nat} {D : DS} (h : DiskAt w B D) (hw : Off2 R g w w') (h1 : B ≠ R) (h2 : B ≠ g) : DiskAt w' B D :=
  ⟨h.1, by rw [hw.block B h.lt h1 h2]; exact h.2⟩

theorem RefAt.lt {w : World} {R g cap : Nat} {D : DS} (h : RefAt w R g cap D) : R < w.heap.size := (Array.getElem?_eq_some_iff.1 h.h).1
theorem RefAt.free {w : World} {R g cap : Nat} {D : DS} (h : RefAt w R g cap D) (o : Nat) : w.frozen? ⟨R, o, none⟩ = false := by
  simp [World.frozen?, h.h]
theorem RefAt.c0 {w : World} {R g cap : Nat} {D : DS} (h : RefAt w R g cap D) : w.cell? ⟨R, 0, none⟩ = some (.slice (some ⟨g, 0, none⟩) 160 cap) := by simp [World.cell?, h.h, rcells]
theorem RefAt.c1 {w : World} {R g cap : Nat} {D : DS} (h : RefAt w R g cap D) : w.cell? ⟨R, 1, none⟩ = some (.int .i64 D.n) := by simp [World.cell?, h.h, rcells]
theorem RefAt.c2 {w : World} {R g cap : Nat} {D : DS} (h : RefAt w R g cap D) : w.cell? ⟨R, 2, none⟩ = some (.bool D.c) := by simp [World.cell?, h.h, rcells]
theorem RefAt.c3 {w : World} {R g cap : Nat} {D : DS} (h : RefAt w R g cap D) : w.cell? ⟨R, 3, none⟩ = some (.int .i64 D.l) := by simp [World.cell?, h.h, rcells]
theorem RefAt.c4 {w : World} {R g cap : Nat} {D : DS} (h : RefAt w R g cap D) : w.cell? ⟨R, 4, none⟩ = some (.bool D.d) := by simp [World.cell?, h.h, rcells]
theorem RefAt.wset {w : World} {R g cap : Nat} {D : DS} (h : RefAt w R g cap D) (o : Nat) (v : Value) : WantAt (w.setCell ⟨R, o, none⟩ v) g cap D.S :=
  h.s.block (Below.heap_setCell _ _ _ _ (by simpa using h.ne.symm))
theorem RefAt.setn {w : World} {R g cap : Nat} {D : DS} (h : RefAt w R g cap D) (m : Int) : RefAt (w.setCell ⟨R, 1, none⟩ (.int .i64 m)) R g cap { D with n := m } :=
  ⟨by rw [heap_set h.h]; rfl, h.wset _ _, h.len, h.cap, h.ne⟩
theorem RefAt.setc {w : World} {R g cap : Nat} {D : DS} (h : RefAt w R g cap D) (m : Bool) : RefAt (w.setCell ⟨R, 2, none⟩ (.bool m)) R g cap { D with c := m } :=
  ⟨by rw [heap_set h.h]; rfl, h.wset _ _, h.len, h.cap, h.ne⟩
theorem RefAt.setl {w : World} {R g cap : Nat} {D : DS} (h : RefAt w R g cap D) (m : Int) : RefAt (w.setCell ⟨R, 3, none⟩ (.int .i64 m)) R g cap { D with l := m } :=
  ⟨by rw [heap_set h.h]; rfl, h.wset _ _, h.len, h.cap, h.ne⟩
theorem RefAt.setd {w : World} {R g cap : Nat} {D : DS} (h : RefAt w R g cap D) (m : Bool) : RefAt (w.setCell ⟨R, 4, none⟩ (.bool m)) R g cap { D with d := m } :=
  ⟨by rw [heap_set h.h]; rfl, h.wset _ _, h.len, h.cap, h.ne⟩
theorem RefAt.sets {w : World} {R g cap : Nat} {D : DS} (h : RefAt w R g cap D) {k : Nat} (hk : k < 160) (s : ByteArray) : RefAt (w.setCell ⟨g, k, none⟩ (.string s)) R g cap { D with S := D.S.set k s } :=
  ⟨by rw [Below.heap_setCell _ _ _ _ (by simpa using h.ne)]; exact h.h, h.s.set h.len h.cap hk s, by simp [h.len], h.cap, h.ne⟩
theorem RefAt.blocks {w w' : World} {R g cap : Nat} {D : DS} (h : RefAt w R g cap D) (e1 : w'.heap[R]? = w.heap[R]?) (e2 : w'.heap[g]? = w.heap[g]?) : RefAt w' R g cap D :=
  ⟨e1.trans h.h, h.s.block e2, h.len, h.cap, h.ne⟩
theorem RefAt.off {w w' : World} {B R g cap : Nat} {D : DS} (h : RefAt w R g cap D) (hw : Off B w w') (h1 : R ≠ B) (h2 : g ≠ B) : RefAt w' R g cap D :=
  h.blocks (hw.block R h.lt h1) (hw.block g h.s.lt h2)
theorem RefAt.off2 {w w' : World} {R' g' R g cap : Nat} {D : DS} (h : RefAt w R g cap D) (hw : Off2 R' g' w w') (h1 : R ≠ R') (h2 : R ≠ g') (h3 : g ≠ R') (h4 : g ≠ g') : RefAt w' R g cap D :=
  h.blocks (hw.block R h.lt h1 h2) (hw.block g h.s.lt h3 h4)
theorem RefAt.below {w w' : World} {N R g cap : Nat} {D : DS} (h : RefAt w R g cap D) (hw : Below N w w') (h1 : R < N) (h2 : g < N) : RefAt w' R g cap D :=
  h.blocks (hw.block R h1) (hw.block g h2)
theorem RefAt.alloc {w : World} {R g cap : Nat} {D : DS} (h : RefAt w R g cap D) (o : Obj) : RefAt (w.alloc o) R g cap D :=
  h.blocks (Below.heap_alloc _ _ _ h.lt) (Below.heap_alloc _ _ _ h.s.lt)

theorem rcut_any {w : World} {R g cap : Nat} {D : DS} (h : RefAt w R g cap D) (n : Int) : Calls Try.prog 21 #[.pointer (some ⟨R, 0, none⟩), .int .i64 n] w fun e w' => e = .returned (.tuple #[]) ∧ RefAt w' R g cap { D with c := true, l := max n 0 } ∧ Off2 R g w w' := by
  have h1 := h.c2
  have h2 := h.c3
  have h3 := h.free 2
  have h4 := h.free 3
  go_enter Try.func21, Try.ntmps21
  go_wp2
  all_goals (go_end0; exact ⟨rfl, by have := (h.setc true).setl (max n 0); simpa [Int.max_comm] using this, ((Off2.refl _ _ _).set _ _).set _ _⟩)

theorem rpower_any {w : World} {R g cap : Nat} {D : DS} (h : RefAt w R g cap D) : Calls Try.prog 22 #[.pointer (some ⟨R, 0, none⟩)] w fun e w' => e = .returned (.tuple #[]) ∧ RefAt w' R g cap { D with d := false, c := false } ∧ Off2 R g w w' := by
  have h1 := h.c2
  have h2 := h.c4
  have h3 := h.free 2
  have h4 := h.free 4
  go_enter Try.func22, Try.ntmps22
  go_wp2
  go_end0
  exact ⟨rfl, (h.setc false).setd false, ((Off2.refl _ _ _).set _ _).set _ _⟩

theorem rread_no {i : Int} (hi : inSec i = false) (R : Nat) (w : World) : Calls Try.prog 20 #[.pointer (some ⟨R, 0, none⟩), .int .i64 i] w fun e w' => e = .returned (.tuple #[.string ByteArray.empty, .int .i64 10]) ∧ w = w' := by
  rcases inSec_no.1 hi with h | h
  · go_enter Try.func20, Try.ntmps20
    go_wp2
    go_ret2
    exact ⟨rfl, rfl⟩
  · have h0 : 0 ≤ i := by omega
    go_enter Try.func20, Try.ntmps20
    go_wp2
    go_ret2
    exact ⟨rfl, rfl⟩

set_option maxRecDepth 100000 in
theorem rread_at {w : World} {R g cap : Nat} {D : DS} (h : RefAt w R g cap D) {k : Nat} (hk : k < 160) : Calls Try.prog 20 #[.pointer (some ⟨R, 0, none⟩), .int .i64 (k : Int)] w fun e w' => e = .returned (.tuple #[.string (D.S.getD k ByteArray.empty), .int .i64 0]) ∧ w = w' := by
  have h1 := h.c0
  have h2 := h.s.cell hk
  have hk1 : (k : Int) < 160 := by omega
  have hk0 : (0 : Int) ≤ (k : Int) := by omega
  generalize D.S.getD k ByteArray.empty = s at *
  go_enter Try.func20, Try.ntmps20
  go_wp2
  go_ret2
  exact ⟨rfl, rfl⟩

theorem rwrite_no {w : World} {R : Nat} {i : Int} (s : ByteArray) (hi : inSec i = false) : Calls Try.prog 19 #[.pointer (some ⟨R, 0, none⟩), .int .i64 i, .string s] w fun e w' => e = .returned (.int .i64 10) ∧ w = w' := by
  rcases inSec_no.1 hi with h | h
  · go_enter Try.func19, Try.ntmps19
    go_wp2
    go_ret
    exact ⟨rfl, rfl⟩
  · have h0 : 0 ≤ i := by omega
    go_enter Try.func19, Try.ntmps19
    go_wp2
    go_ret
    exact ⟨rfl, rfl⟩

theorem rwrite_big {w : World} {R : Nat} {i : Int} (s : ByteArray) (h0 : 0 ≤ i) (h1 : i < 160) (hs : 512 < s.size) : Calls Try.prog 19 #[.pointer (some ⟨R, 0, none⟩), .int .i64 i, .string s] w fun e w' => e = .returned (.int .i64 11) ∧ w = w' := by
  go_enter Try.func19, Try.ntmps19
  go_wp2
  go_ret
  exact ⟨rfl, rfl⟩

set_option maxRecDepth 100000 in
theorem rwrite_in {w : World} {R g cap : Nat} {D : DS} (h : RefAt w R g cap D) (h0 : 0 ≤ D.l) (hm : D.l ≤ 9223372036854775807) (hn0 : 0 ≤ D.n) (hn : D.n < 9223372036854775807) {k : Nat} (s : ByteArray) (hk : k < 160) (hs : s.size ≤ 512) :
    Calls Try.prog 19 #[.pointer (some ⟨R, 0, none⟩), .int .i64 (k : Int), .string s] w fun e w' => e = .returned (.int .i64 (wres D k s)) ∧ RefAt w' R g cap (wst D k s) ∧ Off2 R g w w' := by
  have hin := inSec_yes (i := (k : Int)) (by omega) (by omega)
  have hk1 : (k : Int) < 160 := by omega
  have hk0 : (0 : Int) ≤ (k : Int) := by omega
  have hsn : ¬ 512 < s.size := by omega
  have g0 := h.c0
  have g1 := h.c1
  have g2 := h.c2
  have g3 := h.c3
  have g4 := h.c4
  have f1 := h.free 1
  have f3 := h.free 3
  have f4 := h.free 4
  have gs := h.s.cell hk
  have fs := h.s.free k
  have hne := h.ne
  have hne2 := h.ne.symm
  obtain ⟨S, n, c, l, d⟩ := D
  simp only at g1 g2 g3 g4 h0 hm hn0 hn gs
  generalize S.getD k ByteArray.empty = old at gs
  cases c
  · cases d
    · have hr : wres ⟨S, n, false, l, false⟩ k s = 0 := by simp [wres, hin, hsn, stuck]
      have hst : wst ⟨S, n, false, l, false⟩ k s = ⟨S.set k s, n + 1, false, l, false⟩ := by simp [wst, hin, hsn, stuck, spent]
      rw [hr, hst]
      clear hr hst
      go_enter Try.func19, Try.ntmps19
      go_wp2
      go_ret
      exact ⟨rfl, (h.sets hk s).setn _, ((Off2.refl _ _ _).setg _ _).set _ _⟩
    · have hr : wres ⟨S, n, false, l, true⟩ k s = 12 := by simp [wres, hin, hsn, stuck]
      have hst : wst ⟨S, n, false, l, true⟩ k s = ⟨S, n, false, l, true⟩ := by simp [wst, hin, hsn, stuck, spent]
      rw [hr, hst]
      clear hr hst
      go_enter Try.func19, Try.ntmps19
      go_wp2
      go_ret
      exact ⟨rfl, h, Off2.refl _ _ _⟩
  · by_cases hl : l = 0
    · subst hl
      have hr : wres ⟨S, n, true, 0, d⟩ k s = 12 := by simp [wres, hin, hsn, stuck]
      have hst : wst ⟨S, n, true, 0, d⟩ k s = ⟨S, n, true, 0, true⟩ := by simp [wst, hin, hsn, stuck, spent]
      rw [hr, hst]
      clear hr hst
      go_enter Try.func19, Try.ntmps19
      go_wp2
      go_ret
      exact ⟨rfl, h.setd true, (Off2.refl _ _ _).set _ _⟩
    · have hb : (l == 0) = false := by simpa using hl
      cases d
      · have hr : wres ⟨S, n, true, l, false⟩ k s = 0 := by simp [wres, hin, hsn, stuck, hl]
        have hst : wst ⟨S, n, true, l, false⟩ k s = ⟨S.set k s, n + 1, true, l - 1, false⟩ := by simp [wst, hin, hsn, stuck, spent, hl]
        rw [hr, hst]
        clear hr hst
        go_enter Try.func19, Try.ntmps19
        go_wp2
        go_ret
        exact ⟨rfl, ((h.setl (l - 1)).sets hk s).setn _, (((Off2.refl _ _ _).set _ _).setg _ _).set _ _⟩
      · have hr : wres ⟨S, n, true, l, true⟩ k s = 12 := by simp [wres, hin, hsn, stuck]
        have hst : wst ⟨S, n, true, l, true⟩ k s = ⟨S, n, true, l, true⟩ := by simp [wst, hin, hsn, stuck, spent, hl]
        rw [hr, hst]
        clear hr hst
        go_enter Try.func19, Try.ntmps19
        go_wp2
        go_ret
        exact ⟨rfl, h, Off2.refl _ _ _⟩

theorem rwrite_any {w : World} {R g cap : Nat} {D : DS} (h : RefAt w R g cap D) (h0 : 0 ≤ D.l) (hm : D.l ≤ 9223372036854775807) (hn0 : 0 ≤ D.n) (hn : D.n < 9223372036854775807) (i : Int) (s : ByteArray) :
    Calls Try.prog 19 #[.pointer (some ⟨R, 0, none⟩), .int .i64 i, .string s] w fun e w' => e = .returned (.int .i64 (wres D i s)) ∧ RefAt w' R g cap (wst D i s) ∧ Off2 R g w w' := by
  by_cases hi : inSec i = false
  · rw [wres_no hi, wst_no hi]
    exact (rwrite_no s hi).mono fun e w' ⟨he, hw⟩ => by subst hw; exact ⟨he, h, Off2.refl _ _ _⟩
  · obtain ⟨ha, hc⟩ := inSec_iff.1 (by simpa using hi)
    by_cases hs : 512 < s.size
    · rw [wres_big ha hc hs, Calm.big hs]
      exact (rwrite_big s ha hc hs).mono fun e w' ⟨he, hw⟩ => by subst hw; exact ⟨he, h, Off2.refl _ _ _⟩
    · obtain ⟨k, rfl⟩ := Int.eq_ofNat_of_zero_le ha
      exact rwrite_in h h0 hm hn0 hn s (by omega) (by omega)
end Go.Proofs.Ytgdbjlmlgnjpoaa
