/- The rows' frames: rows of entries, of points; by-name template (gen_eframe.py). -/
import Derived.Test.YtomennaekjklbaaCFrame
import Derived.Test.YtomennaekjklbaaCRPtA
import Derived.SizedLaws
import Derived.Deep.Slices
namespace Go.Proofs.Ytomennaekjklbaa
open Go.ChangeShapes Go.WideShapes Go.ChangeAt Go.RowKit
set_option maxRecDepth 100000
set_option linter.unusedVariables false
set_option linter.unusedSimpArgs false
theorem int_cells : Try.prog.cellsOf 3 = 1 := by kernel_rfl
theorem en_cellsOf : Try.prog.cellsOf 32 = 25 := by kernel_rfl
def I64 (x : Int) : Prop := -9223372036854775808 ≤ x ∧ x < 9223372036854775808
def encP (p : Nat → P2) : List Value := (ptc p).toList
section
variable {H : Type} {enc : TypeId × Value → H} {w : World} {base : Nat} {spare : Nat → Bool} {held : Bool}
/-- What the data of a list says of its length. -/
def LenOf (d : DataW H) (n : Nat) : Prop := n = 0 ∨ ∃ elems spare, d = .slice elems spare ∧ elems.length = n

/-- A slice of rows is opened. -/
theorem open_sl {α : Type} (S E : TypeId) (k : Nat) (hu : Try.prog.underlying S = some (.slice E)) (hk : Try.prog.cellsOf E = k) (hkp : 0 < k) (en : α → List Value) (good : α → Prop)
    (opn : ∀ (fuel : Nat) (cs : List Value) (x : DataW H × List MemPlace), DataW.trod enc Try.prog w base spare held fuel E cs = some x → ∃ a : α, cs = en a ∧ good a)
    {fuel : Nat} {c0 : Value} {x : DataW H × List MemPlace} (h : DataW.trod enc Try.prog w base spare held fuel S [c0] = some x) :
    ∃ (A : Option Addr) (len cap : Nat) (L : List α), c0 = .slice A len cap ∧ Sl w k en A len L ∧ (∀ a ∈ L, good a) ∧ LenOf x.1 len ∧ (A = none → cap = 0) := by
  rcases Go.Deep.open_slice hu h with ⟨hcs, hx0⟩ | ⟨p, len', cap', m, n, D, Pl, hcs, hb, hl, hm, hmm, hx, hi⟩
  · simp only [List.cons.injEq, and_true] at hcs
    exact ⟨none, 0, 0, [], hcs, ⟨rfl, by omega, fun h => absurd h (Nat.lt_irrefl _)⟩, fun a ha => by simp at ha, .inl rfl, fun _ => rfl⟩
  · simp only [List.cons.injEq, and_true] at hcs
    have hlm : len' ≤ m := by rw [hmm]; split <;> omega
    rw [hk] at hi
    have hone : ∀ i, i < len' → ∃ a : α, good a ∧ ∃ b off, p = ⟨b, off, none⟩ ∧ b < w.heap.size ∧ ∀ j v, (en a)[j]? = some v → w.cell? ⟨b, off + i * k + j, none⟩ = some v := by
      intro i hil
      obtain ⟨cs', hc, ht⟩ := hi i (by omega)
      obtain ⟨a, rfl, hg⟩ := opn _ _ _ ht
      obtain ⟨_, hlc, hat⟩ := World.cells?_some hc
      obtain ⟨b, off, spot⟩ := p
      have hsp : spot = none := by
        obtain ⟨cs0, hc0, _⟩ := hi 0 (by omega)
        obtain ⟨_, hl0, hat0⟩ := World.cells?_some hc0
        have := World.cell?_spot ((hat0 0 (by omega)).trans (List.getElem?_eq_getElem (by omega)))
        simpa [Addr.add] using this
      subst hsp
      have hadd : ∀ j, (⟨b, off, none⟩ : Addr).add j = ⟨b, off + j, none⟩ := by intro j; unfold Addr.add; split <;> simp_all
      have hcell : ∀ j v, (en a)[j]? = some v → w.cell? ⟨b, off + i * k + j, none⟩ = some v := by
        intro j v hv
        have hj : j < k := by rw [← hlc]; exact (List.getElem?_eq_some_iff.1 hv).1
        have e0 : w.cell? (Addr.add ⟨b, off, none⟩ (i * k + j)) = some v := by
          rw [← Go.Deep.add_add, hat j hj, hv]
        rw [hadd] at e0
        rw [← e0]; congr 2; omega
      have hlt : b < w.heap.size := by
        have : ∃ v, (en a)[0]? = some v := ⟨_, List.getElem?_eq_getElem (by rw [hlc]; exact hkp)⟩
        obtain ⟨v, hv⟩ := this
        exact World.block_lt_of_cell? _ _ (hcell 0 v hv)
      exact ⟨a, hg, b, off, rfl, hlt, hcell⟩
    by_cases h0 : len' = 0
    · subst h0
      exact ⟨some p, 0, cap', [], hcs, ⟨rfl, by omega, fun h => absurd h (Nat.lt_irrefl _)⟩, fun a ha => by simp at ha, .inl rfl, fun h => by cases h⟩
    · obtain ⟨a0, _, b, off, hp, hlt, _⟩ := hone 0 (by omega)
      have ha : ∀ i, ∃ a : α, i < len' → good a ∧ ∀ j v, (en a)[j]? = some v → w.cell? ⟨b, off + i * k + j, none⟩ = some v := by
        intro i
        by_cases hil : i < len'
        · obtain ⟨a, hg, b', off', hp', _, hc⟩ := hone i hil
          rw [hp] at hp'
          cases hp'
          exact ⟨a, fun _ => ⟨hg, hc⟩⟩
        · exact ⟨a0, fun h => absurd h hil⟩
      refine ⟨some p, len', cap', (List.range len').map fun i => Classical.choose (ha i), hcs, ⟨by simp, by unfold maxLen at hm; omega, fun _ => ⟨b, off, by rw [hp], hlt, fun j x hj => ?_⟩⟩, fun a hmem => ?_, .inr ⟨_, _, by rw [hx], by simp⟩, fun h => by cases h⟩
      · simp only [List.getElem?_map, Option.map_eq_some_iff] at hj
        obtain ⟨i', hi', rfl⟩ := hj
        have hjl : j < len' := by
          have := (List.getElem?_eq_some_iff.1 hi').1
          simpa using this
        have e : i' = j := by
          rw [List.getElem?_range hjl] at hi'
          simpa using hi'.symm
        subst e
        exact (Classical.choose_spec (ha i') hjl).2
      · obtain ⟨i, hi', rfl⟩ := List.mem_map.1 hmem
        exact (Classical.choose_spec (ha i) (List.mem_range.1 hi')).1

theorem open_ent_cells {fuel : Nat} {cs : List Value} {x : DataW H × List MemPlace} (h : DataW.trod enc Try.prog w base spare held fuel 32 cs = some x) :
    ∃ e : EN, cs = enc25 e ∧ WB e.bx ∧ I64 e.ru := by
  obtain ⟨xs, n, _, _, hl, hxl, hf⟩ := DataW.trod_struct Try.underlying32 h
  rw [en_cellsOf] at hl
  have h0 : DataW.trod enc Try.prog w base spare held n 30 ((cs.drop 0).take (Try.prog.cellsOf 30)) = xs[0]? := hf 0 _ rfl
  have h1 : DataW.trod enc Try.prog w base spare held n 3 ((cs.drop 24).take (Try.prog.cellsOf 3)) = xs[1]? := hf 1 _ rfl
  have hx0 : xs[0]? = some (xs[0]'(by rw [hxl]; decide)) := List.getElem?_eq_getElem _
  have hx1 : xs[1]? = some (xs[1]'(by rw [hxl]; decide)) := List.getElem?_eq_getElem _
  rw [box_cells, List.drop_zero, hx0] at h0
  have e1 : (cs.drop 24).take 1 = [cs[24]'(by omega)] := by
    rw [List.take_of_length_le (by rw [List.length_drop]; omega)]
    rw [List.drop_eq_getElem_cons (by omega), List.drop_of_length_le (by omega)]
  rw [int_cells, e1, hx1] at h1
  obtain ⟨b, eb, wb⟩ := open_box_cells h0
  obtain ⟨k, e0, _, w0⟩ := DataW.trod_int Try.underlying3 h1
  simp only [List.cons.injEq, and_true] at e0
  refine ⟨⟨b, k⟩, ?_, wb, i64_of_wf w0⟩
  unfold enc25
  rw [← eb]
  have : cs = cs.take 24 ++ [cs[24]'(by omega)] := by
    have h2 : cs.drop 24 = [cs[24]'(by omega)] := by rw [List.drop_eq_getElem_cons (by omega), List.drop_of_length_le (by omega)]
    rw [← h2, List.take_append_drop]
  rw [e0] at this
  exact this
theorem open_ents {r : Reach} {b0 : Nat} {v : Value} {d : DataW H} {pl : List MemPlace} (hval : Value.okWide Try.prog w r b0 22 v) (hd : DataW.Trod enc Try.prog w base spare held 22 v d pl) :
    ∃ (A : Option Addr) (n cap : Nat) (L : List EN), v = .slice A n cap ∧ Sl w 25 enc25 A n L ∧ (∀ e ∈ L, WB e.bx ∧ I64 e.ru) ∧ (A = none → cap = 0) := by
  obtain ⟨a0, len0, cap0, rfl⟩ := okWide_slice Try.underlying22 hval
  obtain ⟨fuel, hf⟩ := hd
  obtain ⟨A, n, cap, L, h1, h2, h3, _, h4⟩ := open_sl 22 32 25 Try.underlying22 en_cellsOf (by omega) enc25 (fun e => WB e.bx ∧ I64 e.ru) (fun fuel cs x h => open_ent_cells h) (show DataW.trod enc Try.prog w base spare held fuel 22 [.slice a0 len0 cap0] = some (d, pl) by simpa [Value.cells] using hf)
  exact ⟨A, n, cap, L, h1, h2, h3, h4⟩
theorem pt_cellsOf : Try.prog.cellsOf 68 = 12 := by kernel_rfl
theorem open_pts {r : Reach} {b0 : Nat} {v : Value} {d : DataW H} {pl : List MemPlace} (hval : Value.okWide Try.prog w r b0 33 v) (hd : DataW.Trod enc Try.prog w base spare held 33 v d pl) :
    ∃ (A : Option Addr) (n cap : Nat) (L : List (Nat → P2)), v = .slice A n cap ∧ Sl w 12 encP A n L ∧ (∀ e ∈ L, WP e) ∧ (A = none → cap = 0) := by
  obtain ⟨a0, len0, cap0, rfl⟩ := okWide_slice Try.underlying33 hval
  obtain ⟨fuel, hf⟩ := hd
  obtain ⟨A, n, cap, L, h1, h2, h3, _, h4⟩ := open_sl 33 68 12 Try.underlying33 pt_cellsOf (by omega) encP WP (fun fuel cs x h => open_pt_cells h) (show DataW.trod enc Try.prog w base spare held fuel 33 [.slice a0 len0 cap0] = some (d, pl) by simpa [Value.cells] using hf)
  exact ⟨A, n, cap, L, h1, h2, h3, h4⟩
end
theorem trodAll_five {H : Type} {enc : TypeId × Value → H} {P : Program} {w : World} {base : Nat} {spare : Nat → Bool} {held : Bool} {t0 t1 t2 t3 t4 : TypeId} {args : Array Value} {ds : List (DataW H)} {ps : List MemPlace}
    (h : DataW.TrodAll enc P w base spare held [t0, t1, t2, t3, t4] args.toList ds ps) : ∃ v0 v1 v2 v3 v4 d0 d1 d2 d3 d4 p0 p1 p2 p3 p4, args = #[v0, v1, v2, v3, v4] ∧ ds = [d0, d1, d2, d3, d4] ∧ ps = p0 ++ (p1 ++ (p2 ++ (p3 ++ (p4 ++ [])))) ∧
      DataW.Trod enc P w base spare held t0 v0 d0 p0 ∧ DataW.Trod enc P w base spare held t1 v1 d1 p1 ∧ DataW.Trod enc P w base spare held t2 v2 d2 p2 ∧ DataW.Trod enc P w base spare held t3 v3 d3 p3 ∧ DataW.Trod enc P w base spare held t4 v4 d4 p4 := by
  obtain ⟨v0, vs0, d0, ds0, p0, q0, hargs, rfl, rfl, h0, r0⟩ := trodAll_cons h
  obtain ⟨v1, vs1, d1, ds1, p1, q1, rfl, rfl, rfl, h1, r1⟩ := trodAll_cons r0
  obtain ⟨v2, vs2, d2, ds2, p2, q2, rfl, rfl, rfl, h2, r2⟩ := trodAll_cons r1
  obtain ⟨v3, vs3, d3, ds3, p3, q3, rfl, rfl, rfl, h3, r3⟩ := trodAll_cons r2
  obtain ⟨v4, vs4, d4, ds4, p4, q4, rfl, rfl, rfl, h4, r4⟩ := trodAll_cons r3
  obtain ⟨rfl, rfl, rfl⟩ := trodAll_nil r4
  refine ⟨v0, v1, v2, v3, v4, d0, d1, d2, d3, d4, p0, p1, p2, p3, p4, ?_, rfl, rfl, h0, h1, h2, h3, h4⟩
  apply Array.toList_inj.1; simpa using hargs
end Go.Proofs.Ytomennaekjklbaa
