/- Scripts, flows and keys that come in are opened; by-name template (gen_fofr.py). -/
import Derived.Test.YtdgodndaaenafaaFoB
import Derived.ProofKit
import Derived.OpenShut
import Derived.ShutString
import Derived.ChangeOld
import Derived.Carry
import Derived.WideShapes
import Derived.ChangeSlices
import Derived.Deep.Slices
namespace Go.Proofs.Ytdgodndaaenafaa
open Go.ChangeShapes Go.WideShapes Go.ChangeAt Go.RowKit
set_option maxRecDepth 100000
set_option linter.unusedVariables false
set_option linter.unusedSimpArgs false

theorem own : ownKnob Try.prog.godebug = none := by kernel_rfl
theorem laidOut : laidOutB Try.prog = true := by kernel_rfl
theorem ok_of_wf {x : Int} (h : (Lit.int .i64 x).wf = true) : i64ok x := by
  simp [Lit.wf, IntKind.min, IntKind.max, IntKind.signed, IntKind.bits] at h
  exact ⟨by omega, by omega⟩
theorem uok_of_wf {x : Int} (h : (Lit.int .u64 x).wf = true) : u64ok x := by
  simp [Lit.wf, IntKind.min, IntKind.max, IntKind.signed, IntKind.bits] at h
  exact ⟨by omega, by omega⟩
structure Stp where
  kind : Int
  n : Int
  st : Int
  en : Int
  f : Fl
def scells (s : Stp) : List Value := [.int .i64 s.kind, .int .i64 s.n, .int .i64 s.st, .int .i64 s.en] ++ fcells s.f
theorem scells_len (s : Stp) : (scells s).length = 24 := rfl
structure StpOk (s : Stp) : Prop where
  kind : i64ok s.kind
  n : i64ok s.n
  st : i64ok s.st
  en : i64ok s.en
  f : FlOk s.f
theorem n_int : Try.prog.cellsOf 3 = 1 := by kernel_rfl
theorem n_u64 : Try.prog.cellsOf 32 = 1 := by kernel_rfl
theorem n_adr : Try.prog.cellsOf 34 = 2 := by kernel_rfl
theorem n_key : Try.prog.cellsOf 36 = 7 := by kernel_rfl
theorem n_flow : Try.prog.cellsOf 38 = 20 := by kernel_rfl
theorem n_step : Try.prog.cellsOf 40 = 24 := by kernel_rfl
section
variable {H : Type} {enc : TypeId × Value → H} {w : World} {base : Nat} {spare : Nat → Bool} {held : Bool}
theorem open_adr_cells {fuel : Nat} {cs : List Value} {x : DataW H × List MemPlace} (h : DataW.trod enc Try.prog w base spare held fuel 34 cs = some x) :
    ∃ a b : Int, cs = [.int .u64 a, .int .u64 b] ∧ u64ok a ∧ u64ok b := by
  obtain ⟨xs, n, _, _, hl, hxl, hf⟩ := DataW.trod_struct Try.underlying34 h
  rw [n_adr] at hl
  match cs, hl with
  | [c0, c1], _ =>
    have h0 : DataW.trod enc Try.prog w base spare held n 32 [c0] = xs[0]? := by simpa [n_u64] using hf 0 _ rfl
    have h1 : DataW.trod enc Try.prog w base spare held n 32 [c1] = xs[1]? := by simpa [n_u64] using hf 1 _ rfl
    have hx0 : xs[0]? = some (xs[0]'(by rw [hxl]; decide)) := List.getElem?_eq_getElem _
    have hx1 : xs[1]? = some (xs[1]'(by rw [hxl]; decide)) := List.getElem?_eq_getElem _
    obtain ⟨k, e0, _, w0⟩ := DataW.trod_int Try.underlying32 (h0.trans hx0)
    obtain ⟨m, e1, _, w1⟩ := DataW.trod_int Try.underlying32 (h1.trans hx1)
    simp only [List.cons.injEq, and_true] at e0 e1
    exact ⟨k, m, by rw [e0, e1], uok_of_wf w0, uok_of_wf w1⟩
theorem open_key_cells {fuel : Nat} {cs : List Value} {x : DataW H × List MemPlace} (h : DataW.trod enc Try.prog w base spare held fuel 36 cs = some x) :
    ∃ k : Ky, cs = kcells k ∧ KyOk k := by
  obtain ⟨xs, n, _, _, hl, hxl, hf⟩ := DataW.trod_struct Try.underlying36 h
  rw [n_key] at hl
  match cs, hl with
  | [c0, c1, c2, c3, c4, c5, c6], _ =>
    have h0 : DataW.trod enc Try.prog w base spare held n 3 [c0] = xs[0]? := by simpa [n_int, n_adr, n_key, n_flow] using hf 0 _ rfl
    have hx0 : xs[0]? = some (xs[0]'(by rw [hxl]; decide)) := List.getElem?_eq_getElem _
    have h1 : DataW.trod enc Try.prog w base spare held n 34 [c1, c2] = xs[1]? := by simpa [n_int, n_adr, n_key, n_flow] using hf 1 _ rfl
    have hx1 : xs[1]? = some (xs[1]'(by rw [hxl]; decide)) := List.getElem?_eq_getElem _
    have h2 : DataW.trod enc Try.prog w base spare held n 34 [c3, c4] = xs[2]? := by simpa [n_int, n_adr, n_key, n_flow] using hf 2 _ rfl
    have hx2 : xs[2]? = some (xs[2]'(by rw [hxl]; decide)) := List.getElem?_eq_getElem _
    have h3 : DataW.trod enc Try.prog w base spare held n 3 [c5] = xs[3]? := by simpa [n_int, n_adr, n_key, n_flow] using hf 3 _ rfl
    have hx3 : xs[3]? = some (xs[3]'(by rw [hxl]; decide)) := List.getElem?_eq_getElem _
    have h4 : DataW.trod enc Try.prog w base spare held n 3 [c6] = xs[4]? := by simpa [n_int, n_adr, n_key, n_flow] using hf 4 _ rfl
    have hx4 : xs[4]? = some (xs[4]'(by rw [hxl]; decide)) := List.getElem?_eq_getElem _
    obtain ⟨v0, e0, _, w0⟩ := DataW.trod_int Try.underlying3 (h0.trans hx0)
    obtain ⟨v1, u1, e1, w1, z1⟩ := open_adr_cells (h1.trans hx1)
    obtain ⟨v2, u2, e2, w2, z2⟩ := open_adr_cells (h2.trans hx2)
    obtain ⟨v3, e3, _, w3⟩ := DataW.trod_int Try.underlying3 (h3.trans hx3)
    obtain ⟨v4, e4, _, w4⟩ := DataW.trod_int Try.underlying3 (h4.trans hx4)
    simp only [kcells, fcells, List.cons.injEq, and_true] at e0 e1 e2 e3 e4
    subst e0
    obtain ⟨rfl, rfl⟩ := e1
    obtain ⟨rfl, rfl⟩ := e2
    subst e3
    subst e4
    exact ⟨⟨v0, v1, u1, v2, u2, v3, v4⟩, rfl, ok_of_wf w0, w1, z1, w2, z2, ok_of_wf w3, ok_of_wf w4⟩
theorem open_flow_cells {fuel : Nat} {cs : List Value} {x : DataW H × List MemPlace} (h : DataW.trod enc Try.prog w base spare held fuel 38 cs = some x) :
    ∃ f : Fl, cs = fcells f ∧ FlOk f := by
  obtain ⟨xs, n, _, _, hl, hxl, hf⟩ := DataW.trod_struct Try.underlying38 h
  rw [n_flow] at hl
  match cs, hl with
  | [c0, c1, c2, c3, c4, c5, c6, c7, c8, c9, c10, c11, c12, c13, c14, c15, c16, c17, c18, c19], _ =>
    have h0 : DataW.trod enc Try.prog w base spare held n 3 [c0] = xs[0]? := by simpa [n_int, n_adr, n_key, n_flow] using hf 0 _ rfl
    have hx0 : xs[0]? = some (xs[0]'(by rw [hxl]; decide)) := List.getElem?_eq_getElem _
    have h1 : DataW.trod enc Try.prog w base spare held n 36 [c1, c2, c3, c4, c5, c6, c7] = xs[1]? := by simpa [n_int, n_adr, n_key, n_flow] using hf 1 _ rfl
    have hx1 : xs[1]? = some (xs[1]'(by rw [hxl]; decide)) := List.getElem?_eq_getElem _
    have h2 : DataW.trod enc Try.prog w base spare held n 36 [c8, c9, c10, c11, c12, c13, c14] = xs[2]? := by simpa [n_int, n_adr, n_key, n_flow] using hf 2 _ rfl
    have hx2 : xs[2]? = some (xs[2]'(by rw [hxl]; decide)) := List.getElem?_eq_getElem _
    have h3 : DataW.trod enc Try.prog w base spare held n 3 [c15] = xs[3]? := by simpa [n_int, n_adr, n_key, n_flow] using hf 3 _ rfl
    have hx3 : xs[3]? = some (xs[3]'(by rw [hxl]; decide)) := List.getElem?_eq_getElem _
    have h4 : DataW.trod enc Try.prog w base spare held n 3 [c16] = xs[4]? := by simpa [n_int, n_adr, n_key, n_flow] using hf 4 _ rfl
    have hx4 : xs[4]? = some (xs[4]'(by rw [hxl]; decide)) := List.getElem?_eq_getElem _
    have h5 : DataW.trod enc Try.prog w base spare held n 3 [c17] = xs[5]? := by simpa [n_int, n_adr, n_key, n_flow] using hf 5 _ rfl
    have hx5 : xs[5]? = some (xs[5]'(by rw [hxl]; decide)) := List.getElem?_eq_getElem _
    have h6 : DataW.trod enc Try.prog w base spare held n 3 [c18] = xs[6]? := by simpa [n_int, n_adr, n_key, n_flow] using hf 6 _ rfl
    have hx6 : xs[6]? = some (xs[6]'(by rw [hxl]; decide)) := List.getElem?_eq_getElem _
    have h7 : DataW.trod enc Try.prog w base spare held n 3 [c19] = xs[7]? := by simpa [n_int, n_adr, n_key, n_flow] using hf 7 _ rfl
    have hx7 : xs[7]? = some (xs[7]'(by rw [hxl]; decide)) := List.getElem?_eq_getElem _
    obtain ⟨v0, e0, _, w0⟩ := DataW.trod_int Try.underlying3 (h0.trans hx0)
    obtain ⟨v1, e1, w1⟩ := open_key_cells (h1.trans hx1)
    obtain ⟨v2, e2, w2⟩ := open_key_cells (h2.trans hx2)
    obtain ⟨v3, e3, _, w3⟩ := DataW.trod_int Try.underlying3 (h3.trans hx3)
    obtain ⟨v4, e4, _, w4⟩ := DataW.trod_int Try.underlying3 (h4.trans hx4)
    obtain ⟨v5, e5, _, w5⟩ := DataW.trod_int Try.underlying3 (h5.trans hx5)
    obtain ⟨v6, e6, _, w6⟩ := DataW.trod_int Try.underlying3 (h6.trans hx6)
    obtain ⟨v7, e7, _, w7⟩ := DataW.trod_int Try.underlying3 (h7.trans hx7)
    simp only [kcells, fcells, List.cons.injEq, and_true] at e0 e1 e2 e3 e4 e5 e6 e7
    subst e0
    obtain ⟨rfl, rfl, rfl, rfl, rfl, rfl, rfl⟩ := e1
    obtain ⟨rfl, rfl, rfl, rfl, rfl, rfl, rfl⟩ := e2
    subst e3
    subst e4
    subst e5
    subst e6
    subst e7
    exact ⟨⟨v0, v1, v2, v3, v4, v5, v6, v7⟩, rfl, ⟨ok_of_wf w0, w1, w2, ok_of_wf w6, ok_of_wf w7⟩⟩
theorem open_step_cells {fuel : Nat} {cs : List Value} {x : DataW H × List MemPlace} (h : DataW.trod enc Try.prog w base spare held fuel 40 cs = some x) :
    ∃ s : Stp, cs = scells s ∧ StpOk s := by
  obtain ⟨xs, n, _, _, hl, hxl, hf⟩ := DataW.trod_struct Try.underlying40 h
  rw [n_step] at hl
  match cs, hl with
  | [c0, c1, c2, c3, c4, c5, c6, c7, c8, c9, c10, c11, c12, c13, c14, c15, c16, c17, c18, c19, c20, c21, c22, c23], _ =>
    have h0 : DataW.trod enc Try.prog w base spare held n 3 [c0] = xs[0]? := by simpa [n_int, n_adr, n_key, n_flow] using hf 0 _ rfl
    have hx0 : xs[0]? = some (xs[0]'(by rw [hxl]; decide)) := List.getElem?_eq_getElem _
    have h1 : DataW.trod enc Try.prog w base spare held n 3 [c1] = xs[1]? := by simpa [n_int, n_adr, n_key, n_flow] using hf 1 _ rfl
    have hx1 : xs[1]? = some (xs[1]'(by rw [hxl]; decide)) := List.getElem?_eq_getElem _
    have h2 : DataW.trod enc Try.prog w base spare held n 3 [c2] = xs[2]? := by simpa [n_int, n_adr, n_key, n_flow] using hf 2 _ rfl
    have hx2 : xs[2]? = some (xs[2]'(by rw [hxl]; decide)) := List.getElem?_eq_getElem _
    have h3 : DataW.trod enc Try.prog w base spare held n 3 [c3] = xs[3]? := by simpa [n_int, n_adr, n_key, n_flow] using hf 3 _ rfl
    have hx3 : xs[3]? = some (xs[3]'(by rw [hxl]; decide)) := List.getElem?_eq_getElem _
    have h4 : DataW.trod enc Try.prog w base spare held n 38 [c4, c5, c6, c7, c8, c9, c10, c11, c12, c13, c14, c15, c16, c17, c18, c19, c20, c21, c22, c23] = xs[4]? := by simpa [n_int, n_adr, n_key, n_flow] using hf 4 _ rfl
    have hx4 : xs[4]? = some (xs[4]'(by rw [hxl]; decide)) := List.getElem?_eq_getElem _
    obtain ⟨v0, e0, _, w0⟩ := DataW.trod_int Try.underlying3 (h0.trans hx0)
    obtain ⟨v1, e1, _, w1⟩ := DataW.trod_int Try.underlying3 (h1.trans hx1)
    obtain ⟨v2, e2, _, w2⟩ := DataW.trod_int Try.underlying3 (h2.trans hx2)
    obtain ⟨v3, e3, _, w3⟩ := DataW.trod_int Try.underlying3 (h3.trans hx3)
    obtain ⟨v4, e4, w4⟩ := open_flow_cells (h4.trans hx4)
    simp only [kcells, fcells, List.cons.injEq, and_true] at e0 e1 e2 e3 e4
    subst e0
    subst e1
    subst e2
    subst e3
    obtain ⟨rfl, rfl, rfl, rfl, rfl, rfl, rfl, rfl, rfl, rfl, rfl, rfl, rfl, rfl, rfl, rfl, rfl, rfl, rfl, rfl⟩ := e4
    exact ⟨⟨v0, v1, v2, v3, v4⟩, rfl, ⟨ok_of_wf w0, ok_of_wf w1, ok_of_wf w2, ok_of_wf w3, w4⟩⟩
/-- A slice of rows is opened. -/
theorem open_sl {α : Type} (S E : TypeId) (k : Nat) (hu : Try.prog.underlying S = some (.slice E)) (hk : Try.prog.cellsOf E = k) (hkp : 0 < k) (en : α → List Value) (good : α → Prop)
    (opn : ∀ (fuel : Nat) (cs : List Value) (x : DataW H × List MemPlace), DataW.trod enc Try.prog w base spare held fuel E cs = some x → ∃ a : α, cs = en a ∧ good a)
    {fuel : Nat} {c0 : Value} {x : DataW H × List MemPlace} (h : DataW.trod enc Try.prog w base spare held fuel S [c0] = some x) :
    ∃ (A : Option Addr) (len cap : Nat) (L : List α), c0 = .slice A len cap ∧ Sl w k en A len L ∧ (∀ a ∈ L, good a) ∧ (A = none → cap = 0) := by
  rcases Go.Deep.open_slice hu h with ⟨hcs, hx0⟩ | ⟨p, len', cap', m, n, D, Pl, hcs, hb, hl, hm, hmm, hx, hi⟩
  · simp only [List.cons.injEq, and_true] at hcs
    exact ⟨none, 0, 0, [], hcs, ⟨rfl, by omega, fun h => absurd h (Nat.lt_irrefl _)⟩, fun a ha => by simp at ha, fun _ => rfl⟩
  · simp only [List.cons.injEq, and_true] at hcs
    have hlm : len' ≤ m := by rw [hmm]; split <;> omega
    rw [hk] at hi
    have hone : ∀ i, i < len' → ∃ a : α, good a ∧ ∃ b off, p = ⟨b, off, none⟩ ∧ b < w.heap.size ∧ ∀ j v, (en a)[j]? = some v → w.cell? ⟨b, off + i * k + j, none⟩ = some v := by
      intro i hil
      obtain ⟨cs', hc, ht⟩ := hi i (by omega)
      obtain ⟨a, rfl, hg⟩ := opn _ _ _ ht
      obtain ⟨_, hlc, hat⟩ := World.cells?_some hc
      obtain ⟨b, off, spot⟩ := p
      have hsp : spot = none := by
        obtain ⟨cs0, hc0, _⟩ := hi 0 (by omega)
        obtain ⟨_, hl0, hat0⟩ := World.cells?_some hc0
        have := World.cell?_spot ((hat0 0 (by omega)).trans (List.getElem?_eq_getElem (by omega)))
        simpa [Addr.add] using this
      subst hsp
      have hadd : ∀ j, (⟨b, off, none⟩ : Addr).add j = ⟨b, off + j, none⟩ := by intro j; unfold Addr.add; split <;> simp_all
      have hcell : ∀ j v, (en a)[j]? = some v → w.cell? ⟨b, off + i * k + j, none⟩ = some v := by
        intro j v hv
        have hj : j < k := by rw [← hlc]; exact (List.getElem?_eq_some_iff.1 hv).1
        have e0 : w.cell? (Addr.add ⟨b, off, none⟩ (i * k + j)) = some v := by
          rw [← Go.Deep.add_add, hat j hj, hv]
        rw [hadd] at e0
        rw [← e0]; congr 2; omega
      have hlt : b < w.heap.size := by
        have : ∃ v, (en a)[0]? = some v := ⟨_, List.getElem?_eq_getElem (by rw [hlc]; exact hkp)⟩
        obtain ⟨v, hv⟩ := this
        exact World.block_lt_of_cell? _ _ (hcell 0 v hv)
      exact ⟨a, hg, b, off, rfl, hlt, hcell⟩
    by_cases h0 : len' = 0
    · subst h0
      exact ⟨some p, 0, cap', [], hcs, ⟨rfl, by omega, fun h => absurd h (Nat.lt_irrefl _)⟩, fun a ha => by simp at ha, fun h => by cases h⟩
    · obtain ⟨a0, _, b, off, hp, hlt, _⟩ := hone 0 (by omega)
      have ha : ∀ i, ∃ a : α, i < len' → good a ∧ ∀ j v, (en a)[j]? = some v → w.cell? ⟨b, off + i * k + j, none⟩ = some v := by
        intro i
        by_cases hil : i < len'
        · obtain ⟨a, hg, b', off', hp', _, hc⟩ := hone i hil
          rw [hp] at hp'
          cases hp'
          exact ⟨a, fun _ => ⟨hg, hc⟩⟩
        · exact ⟨a0, fun h => absurd h hil⟩
      refine ⟨some p, len', cap', (List.range len').map fun i => Classical.choose (ha i), hcs, ⟨by simp, by unfold maxLen at hm; omega, fun _ => ⟨b, off, by rw [hp], hlt, fun j x hj => ?_⟩⟩, fun a hmem => ?_, fun h => by cases h⟩
      · simp only [List.getElem?_map, Option.map_eq_some_iff] at hj
        obtain ⟨i', hi', rfl⟩ := hj
        have hjl : j < len' := by
          have := (List.getElem?_eq_some_iff.1 hi').1
          simpa using this
        have e : i' = j := by
          rw [List.getElem?_range hjl] at hi'
          simpa using hi'.symm
        subst e
        exact (Classical.choose_spec (ha i') hjl).2
      · obtain ⟨i, hi', rfl⟩ := List.mem_map.1 hmem
        exact (Classical.choose_spec (ha i) (List.mem_range.1 hi')).1

theorem open_key {r : Reach} {b0 : Nat} {v : Value} {d : DataW H} {ps : List MemPlace} (hval : Value.okWide Try.prog w r b0 36 v) (hd : DataW.Trod enc Try.prog w base spare held 36 v d ps) :
    ∃ k : Ky, v = .agg (KA k) ∧ KyOk k := by
  obtain ⟨cs, rfl, hs⟩ := okWide_struct Try.underlying36 hval
  obtain ⟨fuel, hf⟩ := hd
  obtain ⟨b, e, wb⟩ := open_key_cells (cs := cs.toList) (by simpa [Value.cells] using hf)
  refine ⟨b, ?_, wb⟩
  unfold KA
  rw [← e, Array.toArray_toList]
theorem open_flow {r : Reach} {b0 : Nat} {v : Value} {d : DataW H} {ps : List MemPlace} (hval : Value.okWide Try.prog w r b0 38 v) (hd : DataW.Trod enc Try.prog w base spare held 38 v d ps) :
    ∃ f : Fl, v = .agg (FA f) ∧ FlOk f := by
  obtain ⟨cs, rfl, hs⟩ := okWide_struct Try.underlying38 hval
  obtain ⟨fuel, hf⟩ := hd
  obtain ⟨b, e, wb⟩ := open_flow_cells (cs := cs.toList) (by simpa [Value.cells] using hf)
  refine ⟨b, ?_, wb⟩
  unfold FA
  rw [← e, Array.toArray_toList]
theorem open_steps {r : Reach} {b0 : Nat} {v : Value} {d : DataW H} {pl : List MemPlace} (hval : Value.okWide Try.prog w r b0 22 v) (hd : DataW.Trod enc Try.prog w base spare held 22 v d pl) :
    ∃ (A : Option Addr) (n c : Nat) (L : List Stp), v = .slice A n c ∧ Sl w 24 scells A n L ∧ ∀ s ∈ L, StpOk s := by
  obtain ⟨a, len, cap, rfl⟩ := okWide_slice Try.underlying22 hval
  obtain ⟨fuel, hf⟩ := hd
  obtain ⟨A, n, c, L, e, h1, h2, _⟩ := open_sl 22 40 24 Try.underlying22 n_step (by decide) scells StpOk (fun _ _ _ h => open_step_cells h) (c0 := .slice a len cap) (by simpa [Value.cells] using hf)
  exact ⟨A, n, c, L, e, h1, h2⟩
end
end Go.Proofs.Ytdgodndaaenafaa
