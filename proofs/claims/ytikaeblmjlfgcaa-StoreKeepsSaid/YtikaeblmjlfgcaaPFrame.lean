/- The frames of the store's rows: lists of puts are opened; by-name template. -/
import Derived.Test.YtikaeblmjlfgcaaHeavy
import Derived.ProofKit
import Derived.OpenShut
import Derived.ShutString
import Derived.ChangeOld
import Derived.Carry
import Derived.SizedLaws
import Derived.Deep.Slices
import Derived.Deep.Strs
namespace Go.Proofs.Ytikaeblmjlfgcaa
open Go.ChangeShapes Go.WideShapes Go.ChangeAt Go.RowKit
set_option linter.unusedVariables false

theorem own : ownKnob Try.prog.godebug = none := by kernel_rfl
theorem laidOut : laidOutB Try.prog = true := by kernel_rfl

theorem ok_of_wf {x : Int} (h : (Lit.int .i64 x).wf = true) : i64ok x := by
  simp [Lit.wf, IntKind.min, IntKind.max, IntKind.signed, IntKind.bits] at h
  exact ⟨by omega, by omega⟩

theorem put_cells : Try.prog.cellsOf 49 = 3 := by kernel_rfl
theorem put_bytes : Try.prog.bytesOf 49 = 32 := by kernel_rfl
theorem puts_cells : Try.prog.cellsOf 24 = 1 := by kernel_rfl
theorem int_cells : Try.prog.cellsOf 3 = 1 := by kernel_rfl
theorem str_cells : Try.prog.cellsOf 9 = 1 := by kernel_rfl
theorem bool_cells : Try.prog.cellsOf 4 = 1 := by kernel_rfl

section
variable {H : Type} {enc : TypeId × Value → H} {w : World} {base : Nat} {spare : Nat → Bool} {held : Bool}

theorem open_put {fuel : Nat} {cs : List Value} {x : DataW H × List MemPlace} (h : DataW.trod enc Try.prog w base spare held fuel 49 cs = some x) :
    ∃ s : Pt, cs = [.int .i64 s.slot, .string s.val, .bool s.gone] ∧ i64ok s.slot ∧ s.val.size ≤ maxLen := by
  obtain ⟨xs, n, _, _, hl, hxl, hf⟩ := DataW.trod_struct Try.underlying49 h
  rw [put_cells] at hl
  match cs, hl with
  | [c0, c1, c2], _ =>
    have h0 : DataW.trod enc Try.prog w base spare held n 3 [c0] = xs[0]? := by simpa [int_cells] using hf 0 _ rfl
    have h1 : DataW.trod enc Try.prog w base spare held n 9 [c1] = xs[1]? := by simpa [str_cells] using hf 1 _ rfl
    have h2 : DataW.trod enc Try.prog w base spare held n 4 [c2] = xs[2]? := by simpa [bool_cells] using hf 2 _ rfl
    have hx0 : xs[0]? = some (xs[0]'(by rw [hxl]; decide)) := List.getElem?_eq_getElem _
    have hx1 : xs[1]? = some (xs[1]'(by rw [hxl]; decide)) := List.getElem?_eq_getElem _
    have hx2 : xs[2]? = some (xs[2]'(by rw [hxl]; decide)) := List.getElem?_eq_getElem _
    obtain ⟨k, e0, _, w0⟩ := DataW.trod_int Try.underlying3 (h0.trans hx0)
    obtain ⟨s, e1, _, w1⟩ := DataW.trod_string Try.underlying9 (h1.trans hx1)
    obtain ⟨b, e2, _⟩ := DataW.trod_bool Try.underlying4 (h2.trans hx2)
    simp only [List.cons.injEq, and_true] at e0 e1 e2
    exact ⟨⟨k, s, b⟩, by rw [e0, e1, e2], ok_of_wf w0, w1⟩

/-- What the data of a list of puts says of its length. -/
def LenOf (d : DataW H) (n : Nat) : Prop := n = 0 ∨ ∃ elems spare, d = .slice elems spare ∧ elems.length = n

theorem open_puts {fuel : Nat} {a : Option Addr} {len cap : Nat} {x : DataW H × List MemPlace} (h : DataW.trod enc Try.prog w base spare held fuel 24 [.slice a len cap] = some x) :
    ∃ L : List Pt, L.length = len ∧ PutsAt w a L ∧ LenOf x.1 len := by
  rcases Go.Deep.open_slice Try.underlying24 h with ⟨hcs, _⟩ | ⟨p, len', cap', m, n, D, Pl, hcs, hb, hl, hm, hmm, hx, hi⟩
  · simp only [List.cons.injEq, Value.slice.injEq, and_true] at hcs
    obtain ⟨rfl, rfl, rfl⟩ := hcs
    exact ⟨[], rfl, ⟨by simp, fun i s hi => by simp at hi⟩, .inl rfl⟩
  · simp only [List.cons.injEq, Value.slice.injEq, and_true] at hcs
    obtain ⟨rfl, rfl, rfl⟩ := hcs
    have hlm : len ≤ m := by rw [hmm]; split <;> omega
    rw [put_cells] at hi
    have hs : ∀ i, ∃ s : Pt, i < len → ∃ b off, p = ⟨b, off, none⟩ ∧ b < w.heap.size ∧ PutAt w b (off + i * 3) s := by
      intro i
      by_cases hil : i < len
      · obtain ⟨cs', hc, ht⟩ := hi i (by omega)
        obtain ⟨s, rfl, wk, wt⟩ := open_put ht
        obtain ⟨_, hlc, hat⟩ := World.cells?_some hc
        have a0 := hat 0 (by omega)
        have a1 := hat 1 (by omega)
        have a2 := hat 2 (by omega)
        obtain ⟨b, off, spot⟩ := p
        have e0 : w.cell? (Addr.add ⟨b, off, spot⟩ (i * 3 + 0)) = some (.int .i64 s.slot) := by
          rw [← Go.Deep.add_add, a0]; rfl
        have e1 : w.cell? (Addr.add ⟨b, off, spot⟩ (i * 3 + 1)) = some (.string s.val) := by
          rw [← Go.Deep.add_add, a1]; rfl
        have e2 : w.cell? (Addr.add ⟨b, off, spot⟩ (i * 3 + 2)) = some (.bool s.gone) := by
          rw [← Go.Deep.add_add, a2]; rfl
        have hsp : spot = none := by
          obtain ⟨cs0, hc0, _⟩ := hi 0 (by omega)
          obtain ⟨_, hl0, hat0⟩ := World.cells?_some hc0
          have := World.cell?_spot ((hat0 0 (by omega)).trans (List.getElem?_eq_getElem (by omega)))
          simpa [Addr.add] using this
        subst hsp
        have hadd : ∀ j, (⟨b, off, none⟩ : Addr).add j = ⟨b, off + j, none⟩ := by intro j; unfold Addr.add; split <;> simp_all
        rw [hadd] at e0 e1 e2
        refine ⟨s, fun _ => ⟨b, off, rfl, block_lt_of_cell e0, ?_⟩⟩
        exact ⟨e0, by rw [← e1]; congr 2, by rw [← e2]; congr 2, wk, by unfold maxLen at wt; omega⟩
      · exact ⟨⟨0, ByteArray.empty, false⟩, fun h => absurd h hil⟩
    refine ⟨(List.range len).map fun i => Classical.choose (hs i), by simp, ⟨?_, fun i s hi => ?_⟩, .inr ⟨_, _, by rw [hx], by simp⟩⟩
    · simp; unfold maxLen at hm; omega
    · simp only [List.getElem?_map, Option.map_eq_some_iff] at hi
      obtain ⟨i', hi', rfl⟩ := hi
      have hlt : i < len := by
        have := (List.getElem?_eq_some_iff.1 hi').1
        simpa using this
      have e : i' = i := by
        rw [List.getElem?_range hlt] at hi'
        simpa using hi'.symm
      subst e
      obtain ⟨b, off, ha, hb, hst⟩ := Classical.choose_spec (hs i') hlt
      exact ⟨b, off, by rw [ha], hb, hst⟩

theorem slice_of_trod {fuel : Nat} {c : Value} {x : DataW H × List MemPlace} (h : DataW.trod enc Try.prog w base spare held fuel 24 [c] = some x) : ∃ a len cap, c = .slice a len cap := by
  rcases Go.Deep.open_slice Try.underlying24 h with ⟨hcs, _⟩ | ⟨p, len', cap', m, n, D, Pl, hcs, _⟩
  · simp only [List.cons.injEq, and_true] at hcs
    exact ⟨_, _, _, hcs⟩
  · simp only [List.cons.injEq, and_true] at hcs
    exact ⟨_, _, _, hcs⟩

theorem open_rows {fuel : Nat} {a : Option Addr} {len cap : Nat} {x : DataW H × List MemPlace} (h : DataW.trod enc Try.prog w base spare held fuel 22 [.slice a len cap] = some x) :
    ∃ X : List (List Pt), X.length = len ∧ RowsAt w 1 0 a X ∧ LenOf x.1 len ∧ ∀ M ∈ X, ∃ elems spare d, x.1 = .slice elems spare ∧ d ∈ elems ∧ LenOf d M.length := by
  rcases Go.Deep.open_slice Try.underlying22 h with ⟨hcs, _⟩ | ⟨p, len', cap', m, n, D, Pl, hcs, hb, hl, hm, hmm, hx, hi⟩
  · simp only [List.cons.injEq, Value.slice.injEq, and_true] at hcs
    obtain ⟨rfl, rfl, rfl⟩ := hcs
    exact ⟨[], rfl, ⟨by simp, fun i s hi => by simp at hi⟩, .inl rfl, fun M hM => by simp at hM⟩
  · simp only [List.cons.injEq, Value.slice.injEq, and_true] at hcs
    obtain ⟨rfl, rfl, rfl⟩ := hcs
    have hlm : len ≤ m := by rw [hmm]; split <;> omega
    rw [puts_cells] at hi
    have hs : ∀ i, ∃ M : List Pt, i < len → ∃ b off a' cap', p = ⟨b, off, none⟩ ∧ b < w.heap.size ∧ w.cell? ⟨b, off + i * 1 + 0, none⟩ = some (.slice a' M.length cap') ∧ PutsAt w a' M ∧ LenOf (D i) M.length := by
      intro i
      by_cases hil : i < len
      · obtain ⟨cs', hc, ht⟩ := hi i (by omega)
        obtain ⟨_, hlc, hat⟩ := World.cells?_some hc
        match cs', hlc with
        | [c], _ =>
          obtain ⟨a', len', cap', rfl⟩ := slice_of_trod ht
          obtain ⟨M, rfl, hM, hLen⟩ := open_puts ht
          have a0 := hat 0 (by omega)
          obtain ⟨b, off, spot⟩ := p
          have e0 : w.cell? (Addr.add ⟨b, off, spot⟩ (i * 1 + 0)) = some (.slice a' M.length cap') := by
            rw [← Go.Deep.add_add, a0]; rfl
          have hsp : spot = none := by
            obtain ⟨cs0, hc0, _⟩ := hi 0 (by omega)
            obtain ⟨_, hl0, hat0⟩ := World.cells?_some hc0
            have := World.cell?_spot ((hat0 0 (by omega)).trans (List.getElem?_eq_getElem (by omega)))
            simpa [Addr.add] using this
          subst hsp
          have hadd : ∀ j, (⟨b, off, none⟩ : Addr).add j = ⟨b, off + j, none⟩ := by intro j; unfold Addr.add; split <;> simp_all
          rw [hadd] at e0
          exact ⟨M, fun _ => ⟨b, off, a', cap', rfl, block_lt_of_cell e0, e0, hM, hLen⟩⟩
      · exact ⟨[], fun h => absurd h hil⟩
    refine ⟨(List.range len).map fun i => Classical.choose (hs i), by simp, ⟨?_, fun i s hi => ?_⟩, .inr ⟨_, _, by rw [hx], by simp⟩, fun M hM => ?_⟩
    · simp; unfold maxLen at hm; omega
    · simp only [List.getElem?_map, Option.map_eq_some_iff] at hi
      obtain ⟨i', hi', rfl⟩ := hi
      have hlt : i < len := by
        have := (List.getElem?_eq_some_iff.1 hi').1
        simpa using this
      have e : i' = i := by
        rw [List.getElem?_range hlt] at hi'
        simpa using hi'.symm
      subst e
      obtain ⟨b, off, a', cap', ha, hb, hc, hst, _⟩ := Classical.choose_spec (hs i') hlt
      exact ⟨b, off, a', cap', by rw [ha], hb, hc, hst⟩
    · obtain ⟨i, hi', rfl⟩ := List.mem_map.1 hM
      have hlt : i < len := List.mem_range.1 hi'
      obtain ⟨b, off, a', cap', ha, hb, hc, hst, hLen⟩ := Classical.choose_spec (hs i) hlt
      exact ⟨_, _, D i, by rw [hx], List.mem_map.2 ⟨i, hi', rfl⟩, hLen⟩

theorem mem_weightsAll {P : Program} {e : TypeId} {d : DataW H} {n : Nat} (hn : n ∈ d.weights P e) : ∀ {l : List (DataW H)}, d ∈ l → n ∈ DataW.weightsAll P e l
  | a :: l, hd => by
    simp only [DataW.weightsAll, List.mem_append]
    rcases List.mem_cons.1 hd with rfl | hd
    · exact .inl hn
    · exact .inr (mem_weightsAll hn hd)

/-- The reach: a list of puts is short of it. -/
theorem fit_puts {ts : List TypeId} {ds : List (DataW H)} (h : (DataW.weightsEach Try.prog ts ds).all (· ≤ reachBytes) = true) {j : Nat} {d : DataW H} {n : Nat} (ht : ts[j]? = some 24) (hd : ds[j]? = some d) (hl : LenOf d n) : n * 32 ≤ 140737488355328 := by
  rcases hl with rfl | ⟨elems, spare, rfl, hl⟩
  · omega
  · have := sized_slice h ht hd Try.underlying24
    rw [put_bytes, hl] at this
    have := reachBytes_lt
    omega
theorem fit_rows {ts : List TypeId} {ds : List (DataW H)} (h : (DataW.weightsEach Try.prog ts ds).all (· ≤ reachBytes) = true) {j : Nat} {d : DataW H} {X : List (List Pt)} (ht : ts[j]? = some 22) (hd : ds[j]? = some d) (hl : ∀ M ∈ X, ∃ elems spare d', d = .slice elems spare ∧ d' ∈ elems ∧ LenOf d' M.length) : Fits X := by
  intro M hM
  obtain ⟨elems, spare, d', rfl, hm, hL⟩ := hl M hM
  rcases hL with h0 | ⟨e2, s2, rfl, hl2⟩
  · omega
  · have hw : (e2.length + s2.length) * Try.prog.bytesOf 49 ∈ (DataW.slice elems spare).weights Try.prog 22 := by
      have h2 : (e2.length + s2.length) * Try.prog.bytesOf 49 ∈ (DataW.slice e2 s2).weights Try.prog 24 := by
        simp [DataW.weights, Try.underlying24]
      have h3 := mem_weightsAll h2 hm
      simp only [DataW.weights, Try.underlying22, List.mem_cons, List.mem_append]
      exact .inr (.inl h3)
    have := List.all_eq_true.1 h _ (DataW.weights_mem_each ht hd _ hw)
    have h4 := of_decide_eq_true this
    rw [put_bytes, hl2] at h4
    have := reachBytes_lt
    omega
end
end Go.Proofs.Ytikaeblmjlfgcaa
