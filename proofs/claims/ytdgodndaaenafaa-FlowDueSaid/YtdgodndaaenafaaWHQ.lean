/- The queue of a wheel in memory; Len, Less; by-name template. -/
import Derived.Test.YtdgodndaaenafaaWB
namespace Go.Proofs.Ytdgodndaaenafaa
open Go.RowKit Go.Lib Go.Maps
set_option linter.unusedVariables false
set_option linter.unusedSimpArgs false

def DE.pv (e : DE) : Value := .pointer (some ⟨e.B, 0, none⟩)
def dc (e : DE) (i : Nat) : Array Value := #[.int .i64 e.id, .int .i64 e.tm, .int .i64 (i : Int)]

/-- The queue lies in the wheel Bw, its row in g (if it has one). -/
structure HQ (w : World) (S : Nat → Prop) (Bw Mp : Nat) (A : Option Addr) (cap : Nat) (E : List DE) : Prop where
  hw : w.heap[Bw]? = some (.cells #[.slice A E.length cap, .map (some Mp)] 81 (0, 0))
  row : w.ownsRow 0 87 1 (.slice A E.length cap) E.length (E.map DE.pv)
  de : ∀ (i : Nat) (e : DE), E[i]? = some e → w.heap[e.B]? = some (.cells (dc e i) 86 (0, 0))
  sA : ∀ a : Addr, A = some a → S a.block
  sE : ∀ e : DE, e ∈ E → S e.B
  nB : ¬ S Bw
  nM : ¬ S Mp
  lt : ∀ k, S k → k < w.heap.size
  big : E.length ≤ 256

def qp (Bw : Nat) : Value := .pointer (some ⟨Bw, 0, none⟩)

section
variable {w : World} {S : Nat → Prop} {Bw Mp : Nat} {A : Option Addr} {cap : Nat} {E : List DE}
theorem HQ.keep {w' : World} (h : HQ w S Bw Mp A cap E) (hs : w.heap.size ≤ w'.heap.size) (hw : ∀ k, (k = Bw ∨ S k) → w'.heap[k]? = w.heap[k]?) : HQ w' S Bw Mp A cap E where
  hw := (hw _ (.inl rfl)).trans h.hw
  row := by
    obtain ⟨h1, h2 | ⟨g, c, cur, hv, hb, hg, rest⟩⟩ := h.row
    · exact ⟨h1, .inl h2⟩
    · refine ⟨h1, .inr ⟨g, c, cur, hv, hb, ?_, rest⟩⟩
      rw [hw g (.inr ?_)]
      · exact hg
      · simp only [Value.slice.injEq] at hv
        exact h.sA _ hv.1
  de i e he := (hw _ (.inr (h.sE e (List.mem_of_getElem? he)))).trans (h.de i e he)
  sA := h.sA
  sE := h.sE
  nB := h.nB
  nM := h.nM
  lt k hk := Nat.lt_of_lt_of_le (h.lt k hk) hs
  big := h.big
theorem HQ.blt (h : HQ w S Bw Mp A cap E) : Bw < w.heap.size := blk_lt h.hw
theorem HQ.below {w' : World} (h : HQ w S Bw Mp A cap E) (hb : Below w.heap.size w w') : HQ w' S Bw Mp A cap E :=
  h.keep hb.size (fun k hk => hb.block k (by
    rcases hk with rfl | hk
    · exact h.blt
    · exact h.lt k hk))
theorem HQ.drewN (h : HQ w S Bw Mp A cap E) (n : Nat) : HQ (w.drewN n) S Bw Mp A cap E := h.keep (Nat.le_refl _) (fun _ _ => rfl)
theorem HQ.drew (h : HQ w S Bw Mp A cap E) : HQ w.drew S Bw Mp A cap E := h.keep (Nat.le_refl _) (fun _ _ => rfl)
theorem HQ.off {w' : World} {T : Nat → Prop} (h : HQ w S Bw Mp A cap E) (ho : OffS T w w') (hd : ∀ k, (k = Bw ∨ S k) → ¬ T k) : HQ w' S Bw Mp A cap E :=
  h.keep ho.size (fun k hk => ho.block k (by
    rcases hk with rfl | hk
    · exact h.blt
    · exact h.lt k hk) (hd k hk))
theorem HQ.c0 (h : HQ w S Bw Mp A cap E) : w.cell? ⟨Bw, 0, none⟩ = some (.slice A E.length cap) := cell_of_row _ Bw 0 _ _ _ h.hw
theorem HQ.c1 (h : HQ w S Bw Mp A cap E) : w.cell? ⟨Bw, 1, none⟩ = some (.map (some Mp)) := cell_of_row _ Bw 1 _ _ _ h.hw
theorem HQ.free (h : HQ w S Bw Mp A cap E) (o : Nat) : w.frozen? ⟨Bw, o, none⟩ = false := free_of h.hw o
/-- where its row lies. -/
theorem HQ.rowAt (h : HQ w S Bw Mp A cap E) (hn : 0 < E.length) : ∃ g cur, A = some ⟨g, 0, none⟩ ∧ S g ∧ w.heap[g]? = some (.cells cur 87 (0, 0)) ∧ E.length ≤ cap ∧ cap ≤ maxLen ∧ cur.size = cap ∧ ∀ i, i < E.length → cur[i]? = some (ge E i).pv := by
  obtain ⟨h1, ⟨h2, h3⟩ | ⟨g, c, cur, hv, hb, hg, q1, q2, q3, q4⟩⟩ := h.row
  · omega
  · simp only [Value.slice.injEq] at hv
    obtain ⟨rfl, _, rfl⟩ := hv
    refine ⟨g, cur, rfl, h.sA _ rfl, hg, q1, q2, by simpa using q3, fun i hi => ?_⟩
    have e1 : (cur.toList.take (E.length * 1))[i]? = (E.map DE.pv)[i]? := by rw [q4]
    rw [List.getElem?_take, if_pos (by omega), List.getElem?_map, ge_get hi] at e1
    rw [← Array.getElem?_toList]; exact e1
theorem HQ.d0 (h : HQ w S Bw Mp A cap E) {i : Nat} (hi : i < E.length) : w.cell? ⟨(ge E i).B, 0, none⟩ = some (.int .i64 (ge E i).id) := cell_of_row _ _ 0 _ _ _ (h.de i _ (ge_get hi))
theorem HQ.d1 (h : HQ w S Bw Mp A cap E) {i : Nat} (hi : i < E.length) : w.cell? ⟨(ge E i).B, 1, none⟩ = some (.int .i64 (ge E i).tm) := cell_of_row _ _ 1 _ _ _ (h.de i _ (ge_get hi))
theorem HQ.d2 (h : HQ w S Bw Mp A cap E) {i : Nat} (hi : i < E.length) : w.cell? ⟨(ge E i).B, 2, none⟩ = some (.int .i64 (i : Int)) := cell_of_row _ _ 2 _ _ _ (h.de i _ (ge_get hi))
theorem HQ.neB (h : HQ w S Bw Mp A cap E) {i j : Nat} (hi : i < E.length) (hj : j < E.length) (hne : i ≠ j) : (ge E i).B ≠ (ge E j).B := by
  intro e
  have h1 := h.d2 hi
  have h2 := h.d2 hj
  rw [e] at h1
  rw [h1] at h2
  simp at h2
  omega
theorem row_cell {w : World} {g : Nat} {cur : Array Value} {t : TypeId} (h : w.heap[g]? = some (.cells cur t (0, 0))) {i : Nat} {v : Value} (hv : cur[i]? = some v) : w.cell? ⟨g, i, none⟩ = some v := by
  simp [World.cell?, h, hv]

theorem qlen_any (h : HQ w S Bw Mp A cap E) :
    Calls Try.prog 62 #[qp Bw] w fun e w' => e = .returned (.int .i64 (E.length : Int)) ∧ w = w' := by
  have c0 := h.c0
  clear h
  unfold qp
  go_enter Try.func62, Try.ntmps62
  go_wp2
  go_ret
  exact ⟨rfl, rfl⟩

theorem qless_any (h : HQ w S Bw Mp A cap E) {i j : Nat} (hi : i < E.length) (hj : j < E.length) :
    Calls Try.prog 63 #[qp Bw, .int .i64 (i : Int), .int .i64 (j : Int)] w fun e w' => e = .returned (.bool (decide (LtK (gk E i) (gk E j)))) ∧ Below w.heap.size w w' := by
  obtain ⟨g, cur, rfl, _, hg, _, _, _, hc⟩ := h.rowAt (by omega)
  have c0 := h.c0
  have ri := row_cell hg (hc i hi)
  have rj := row_cell hg (hc j hj)
  have i0 := h.d0 hi
  have i1 := h.d1 hi
  have j0 := h.d0 hj
  have j1 := h.d1 hj
  have li : (i : Int) < (E.length : Int) := by omega
  have lj : (j : Int) < (E.length : Int) := by omega
  have di : decide (i < E.length) = true := by simp [hi]
  have dj : decide (j < E.length) = true := by simp [hj]
  unfold gk
  clear h hg hc hi hj
  unfold qp DE.pv at *
  unfold DE.me LtK
  simp only
  generalize ge E i = x at *
  generalize ge E j = y at *
  generalize E.length = n at *
  by_cases e1 : x.tm = y.tm
  · rw [e1] at i1 ⊢
    go_enter Try.func63, Try.ntmps63
    go_wp2
    go_quiet (fail)
    go_wp2
    go_quiet (fail)
    go_wp2
    go_quiet (fail)
    go_wp2
    go_ret
    exact ⟨ret_bool (by simp), bel_dn (bel_dn (bel_dn (Below.refl _ _) _) _) _⟩
  · go_enter Try.func63, Try.ntmps63
    go_wp2
    go_quiet (fail)
    go_wp2
    go_quiet (fail)
    go_wp2
    go_quiet (fail)
    go_wp2
    go_ret
    exact ⟨ret_bool (by simp [e1]), bel_dn (bel_dn (bel_dn (Below.refl _ _) _) _) _⟩
end
end Go.Proofs.Ytdgodndaaenafaa
