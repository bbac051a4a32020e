/- Swap of the queue; by-name template. -/
import Derived.Test.YtdgodndaaenafaaWHQ
namespace Go.Proofs.Ytdgodndaaenafaa
open Go.RowKit Go.Lib Go.Maps
set_option linter.unusedVariables false
set_option linter.unusedSimpArgs false

section
variable {w : World} {S : Nat → Prop} {Bw Mp : Nat} {A : Option Addr} {cap : Nat} {E : List DE}
theorem offS_set {S : Nat → Prop} {w w' : World} (h : OffS S w w') {B : Nat} (hB : S B) (o : Nat) (v : Value) : OffS S w (w'.setCell ⟨B, o, none⟩ v) :=
  h.trans (((Off.refl B w').set o v).toS (.inl hB))

theorem two_row {w w' : World} {g : Nat} {cur : Array Value} {t : TypeId} (hg : w.heap[g]? = some (.cells cur t (0, 0))) {i j : Nat} {u v : Value} (e : w' = ((w.setCell ⟨g, i, none⟩ u).setCell ⟨g, j, none⟩ v).drew) :
    w'.heap[g]? = some (.cells ((cur.setIfInBounds i u).setIfInBounds j v) t (0, 0)) ∧ OffS (fun k => k = g) w w' := by
  subst e
  exact ⟨heap_set (heap_set hg i u) j v, ((((Off.refl g w).set i u).set j v).toS (S := fun k => k = g) (.inl rfl)).dr⟩
theorem two_blk {w w' : World} {x y : Nat} {cx cy : Array Value} {t : TypeId} (hx : w.heap[x]? = some (.cells cx t (0, 0))) (hy : w.heap[y]? = some (.cells cy t (0, 0))) (hne : x ≠ y) {o p : Nat} {u v : Value} (e : w' = ((w.setCell ⟨y, o, none⟩ u).setCell ⟨x, p, none⟩ v).drew) :
    w'.heap[x]? = some (.cells (cx.setIfInBounds p v) t (0, 0)) ∧ w'.heap[y]? = some (.cells (cy.setIfInBounds o u) t (0, 0)) ∧ OffS (fun k => k = x ∨ k = y) w w' := by
  subst e
  refine ⟨heap_set (w := w.setCell ⟨y, o, none⟩ u) ?_ p v, ?_, (offS_set (S := fun k => k = x ∨ k = y) (offS_set (OffS.refl _ w) (.inr rfl) o _) (.inl rfl) p _).dr⟩
  · rw [set_other hne]; exact hx
  · show ((w.setCell ⟨y, o, none⟩ u).setCell ⟨x, p, none⟩ v).heap[y]? = _
    rw [set_other hne.symm]; exact heap_set hy o u

theorem swap_fin {w1 w2 : World} {g : Nat} {cur : Array Value} (h : HQ w S Bw Mp (some ⟨g, 0, none⟩) cap E) (hg : w.heap[g]? = some (.cells cur 87 (0, 0))) (hsz : cur.size = cap) (hcap : E.length ≤ cap) (hmax : cap ≤ maxLen) (hc : ∀ i, i < E.length → cur[i]? = some (ge E i).pv) {i j : Nat} (hi : i < E.length) (hj : j < E.length) (hne : i ≠ j)
    (hG1 : w1.heap[g]? = some (.cells ((cur.setIfInBounds i (ge E j).pv).setIfInBounds j (ge E i).pv) 87 (0, 0))) (o1 : OffS (fun k => k = g) w w1)
    (hX : w2.heap[(ge E i).B]? = some (.cells (dc (ge E i) j) 86 (0, 0))) (hY : w2.heap[(ge E j).B]? = some (.cells (dc (ge E j) i) 86 (0, 0))) (o2 : OffS (fun k => k = (ge E i).B ∨ k = (ge E j).B) w1 w2) :
    HQ w2 S Bw Mp (some ⟨g, 0, none⟩) cap (swapL E i j) ∧ OffS S w w2 := by
  have dI := h.de i _ (ge_get hi)
  have dJ := h.de j _ (ge_get hj)
  have hxy := h.neB hi hj hne
  have n1 : g ≠ (ge E i).B := ne_cells hg dI (by decide)
  have n2 : g ≠ (ge E j).B := ne_cells hg dJ (by decide)
  have nw : ∀ {k : Nat}, S k → Bw ≠ k := fun hk e => h.nB (e ▸ hk)
  have sg : S g := h.sA _ rfl
  have sx := h.sE _ (ge_mem hi)
  have sy := h.sE _ (ge_mem hj)
  have hoff : OffS S w w2 := (o1.mono (fun k _ e => by rw [e]; exact sg)).trans (o2.mono (fun k _ e => by
    rcases e with e | e <;> rw [e]
    · exact sx
    · exact sy))
  have hblk : ∀ k, k < w.heap.size → k ≠ g → k ≠ (ge E i).B → k ≠ (ge E j).B → w2.heap[k]? = w.heap[k]? := fun k hk k1 k2 k3 =>
    (o2.block k (Nat.lt_of_lt_of_le hk o1.size) (fun e => e.elim k2 k3)).trans (o1.block k hk k1)
  have hG : w2.heap[g]? = some (.cells ((cur.setIfInBounds i (ge E j).pv).setIfInBounds j (ge E i).pv) 87 (0, 0)) := (o2.block g (blk_lt hG1) (fun e => e.elim n1 n2)).trans hG1
  have hlen := swap_len E i j
  refine ⟨{
    hw := by rw [hlen, hblk Bw h.blt (nw sg) (nw sx) (nw sy)]; exact h.hw
    row := ?_
    de := fun k e he => ?_
    sA := h.sA
    sE := fun e he => h.sE e ((swap_perm hi hj).subset he)
    nB := h.nB
    nM := h.nM
    lt := fun k hk => Nat.lt_of_lt_of_le (h.lt k hk) hoff.size
    big := by rw [hlen]; exact h.big }, hoff⟩
  · refine ⟨by simp [hlen], .inr ⟨g, cap, _, by rw [hlen], Nat.zero_le _, hG, by rw [hlen]; exact hcap, hmax, by simpa using hsz, ?_⟩⟩
    rw [hlen]
    refine List.ext_getElem? fun k => ?_
    rw [List.getElem?_take, List.getElem?_map]
    by_cases hk : k < E.length
    · rw [if_pos (by omega), Array.getElem?_toList, Array.getElem?_setIfInBounds]
      by_cases e1 : j = k
      · subst e1
        rw [if_pos rfl, if_pos (by simp; omega), swap_j hk]; rfl
      · rw [if_neg e1, Array.getElem?_setIfInBounds]
        by_cases e2 : i = k
        · subst e2
          rw [if_pos rfl, if_pos (by omega), swap_i hk hne]; rfl
        · rw [if_neg e2, hc k hk, swap_o (Ne.symm e2) (Ne.symm e1), ge_get hk]; rfl
    · rw [if_neg (by omega), List.getElem?_eq_none (by rw [hlen]; omega)]; rfl
  · have hk := (List.getElem?_eq_some_iff.1 he).1
    rw [hlen] at hk
    by_cases e1 : k = j
    · subst e1
      rw [swap_j hk] at he
      cases he
      exact hX
    · by_cases e2 : k = i
      · subst e2
        rw [swap_i hk hne] at he
        cases he
        exact hY
      · rw [swap_o e2 e1] at he
        have dk := h.de k e he
        have ek := ge_of he
        subst ek
        rw [hblk _ (blk_lt dk) (fun q => ?_) (h.neB hk hi e2) (h.neB hk hj e1)]
        · exact dk
        · exact ne_cells dk hg (by decide) q

theorem qswap_any (h : HQ w S Bw Mp A cap E) {i j : Nat} (hi : i < E.length) (hj : j < E.length) (hne : i ≠ j) :
    Calls Try.prog 66 #[qp Bw, .int .i64 (i : Int), .int .i64 (j : Int)] w fun e w' => e = .returned (.tuple #[]) ∧ HQ w' S Bw Mp A cap (swapL E i j) ∧ OffS S w w' := by
  obtain ⟨g, cur, rfl, hSg, hg, hcap, hmax, hsz, hc⟩ := h.rowAt (by omega)
  have hxy := h.neB hi hj hne
  have dI := h.de i _ (ge_get hi)
  have dJ := h.de j _ (ge_get hj)
  have n1 : g ≠ (ge E i).B := ne_cells hg dI (by decide)
  have n2 : g ≠ (ge E j).B := ne_cells hg dJ (by decide)
  have FIN := fun w1 w2 => swap_fin (w1 := w1) (w2 := w2) h hg hsz hcap hmax hc hi hj hne
  have T1 := fun w1 u v => two_row (w' := w1) hg (i := i) (j := j) (u := u) (v := v)
  have cI := fun w1 (h1 : OffS (fun k => k = g) w w1) => (h1.block _ (blk_lt dI) (Ne.symm n1)).trans dI
  have cJ := fun w1 (h1 : OffS (fun k => k = g) w w1) => (h1.block _ (blk_lt dJ) (Ne.symm n2)).trans dJ
  have c0 := h.c0
  have ri := row_cell hg (hc i hi)
  have rj := row_cell hg (hc j hj)
  have fi := free_of hg i
  have fj := free_of hg j
  have li : (i : Int) < (E.length : Int) := by omega
  have lj : (j : Int) < (E.length : Int) := by omega
  have di : decide (i < E.length) = true := by simp [hi]
  have dj : decide (j < E.length) = true := by simp [hj]
  have hsi : i < cur.size := by omega
  have hsj : j < cur.size := by omega
  have HF := Lib.hid FIN
  have HT := Lib.hid T1
  have HI := Lib.hid cI
  have HJ := Lib.hid cJ
  have HS := Lib.hid (And.intro hsi hsj)
  clear FIN T1 cI cJ hc hcap hmax hsz dI dJ hg h hsi hsj
  unfold qp DE.pv at *
  unfold dc at *
  generalize ge E i = x at *
  generalize ge E j = y at *
  generalize E.length = n at *
  go_enter Try.func66, Try.ntmps66
  go_wp2
  go_region
  obtain ⟨w1, hw1⟩ : ∃ w1, w1 = ((w.setCell ⟨g, i, none⟩ (.pointer (some ⟨y.B, 0, none⟩))).setCell ⟨g, j, none⟩ (.pointer (some ⟨x.B, 0, none⟩))).drew := ⟨_, rfl⟩
  rw [← hw1]
  obtain ⟨hG1, o1⟩ := HT.out w1 _ _ hw1
  have kI := HI.out w1 o1
  have kJ := HJ.out w1 o1
  clear hw1 ri rj fi fj c0
  have ri : w1.cell? ⟨g, i, none⟩ = some (.pointer (some ⟨y.B, 0, none⟩)) := row_cell hG1 (by
    rw [Array.getElem?_setIfInBounds, if_neg (Ne.symm hne), Array.getElem?_setIfInBounds, if_pos rfl, if_pos HS.out.1])
  have rj : w1.cell? ⟨g, j, none⟩ = some (.pointer (some ⟨x.B, 0, none⟩)) := row_cell hG1 (by
    rw [Array.getElem?_setIfInBounds, if_pos rfl, if_pos (by simpa using HS.out.2)])
  have fx := free_of kI 2
  have cx := cell_of_row _ _ 2 _ _ _ kI
  have cy := cell_of_row _ _ 2 _ _ _ kJ
  have fy := free_of kJ 2
  have HO := Lib.hid (And.intro hG1 (And.intro o1 (And.intro kI kJ)))
  clear hG1 o1 kI kJ
  go_wp2
  go_region
  go_wp2
  have HW := fun w2 (e : w2 = ((w1.setCell ⟨y.B, 2, none⟩ (.int .i64 (i : Int))).setCell ⟨x.B, 2, none⟩ (.int .i64 (j : Int))).drew) => two_blk HO.out.2.2.1 HO.out.2.2.2 hxy e
  obtain ⟨q1, q2, q3⟩ := HW _ rfl
  have FIN := HF.out w1 _ HO.out.1 HO.out.2.1 q1 q2 q3
  simp [bodyPost, results, Try.results66, go_sem]
  exact FIN
end
end Go.Proofs.Ytdgodndaaenafaa
