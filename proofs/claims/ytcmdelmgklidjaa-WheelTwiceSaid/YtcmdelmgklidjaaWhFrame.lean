/- Scripts that come in are opened; by-name template (gen_sframe.py). -/
import Derived.Test.YtcmdelmgklidjaaWhSame
import Derived.ProofKit
import Derived.OpenShut
import Derived.ShutString
import Derived.ChangeOld
import Derived.Carry
import Derived.WideShapes
import Derived.ChangeSlices
import Derived.Deep.Slices
import Derived.Deep.Strs
namespace Go.Proofs.Ytcmdelmgklidjaa
open Go.ChangeShapes Go.WideShapes Go.ChangeAt Go.RowKit

theorem own : ownKnob Try.prog.godebug = none := by kernel_rfl
theorem laidOut : laidOutB Try.prog = true := by kernel_rfl

theorem ok_of_wf {x : Int} (h : (Lit.int .i64 x).wf = true) : i64ok x := by
  simp [Lit.wf, IntKind.min, IntKind.max, IntKind.signed, IntKind.bits] at h
  exact ⟨by omega, by omega⟩

structure Stp where
  kind : Int
  id : Int
  tm : Int

structure StpAt (w : World) (b o : Nat) (s : Stp) : Prop where
  c0 : w.cell? ⟨b, o, none⟩ = some (.int .i64 s.kind)
  c1 : w.cell? ⟨b, o + 1, none⟩ = some (.int .i64 s.id)
  c2 : w.cell? ⟨b, o + 2, none⟩ = some (.int .i64 s.tm)
  w_kind : i64ok s.kind
  w_id : i64ok s.id
  w_tm : i64ok s.tm

def StepsAt (w : World) (a : Option Addr) (L : List Stp) : Prop :=
  L.length ≤ 9223372036854775807 ∧ ∀ i s, L[i]? = some s → ∃ b off, a = some ⟨b, off, none⟩ ∧ b < w.heap.size ∧ StpAt w b (off + i * 3) s

theorem StpAt.block {w w' : World} {b o : Nat} {s : Stp} (h : StpAt w b o s) (e : w'.heap[b]? = w.heap[b]?) : StpAt w' b o s := by
  have e2 : ∀ o, w'.cell? ⟨b, o, none⟩ = w.cell? ⟨b, o, none⟩ := fun o => World.cell?_of_block (w := w) (a := ⟨b, o, none⟩) e
  exact ⟨by rw [e2]; exact h.c0, by rw [e2]; exact h.c1, by rw [e2]; exact h.c2, h.w_kind, h.w_id, h.w_tm⟩

theorem StepsAt.get {w : World} {a : Option Addr} {L : List Stp} (h : StepsAt w a L) {k : Nat} (hk : k < L.length) : ∃ b off s, a = some ⟨b, off, none⟩ ∧ b < w.heap.size ∧ L[k]? = some s ∧ StpAt w b (off + k * 3) s := by
  have e : L[k]? = some L[k] := by simp [hk]
  obtain ⟨b, off, ha, hb, hs⟩ := h.2 k _ e
  exact ⟨b, off, _, ha, hb, e, hs⟩

theorem stp_cells : Try.prog.cellsOf 38 = 3 := by kernel_rfl
theorem n_int : Try.prog.cellsOf 3 = 1 := by kernel_rfl

def IntsAt (w : World) (a : Option Addr) (Z : List Int) : Prop :=
  Z.length ≤ 9223372036854775807 ∧ ∀ i z, Z[i]? = some z → ∃ b off, a = some ⟨b, off, none⟩ ∧ b < w.heap.size ∧ w.cell? ⟨b, off + i, none⟩ = some (.int .i64 z) ∧ i64ok z

theorem IntsAt.get {w : World} {a : Option Addr} {Z : List Int} (h : IntsAt w a Z) {k : Nat} (hk : k < Z.length) : ∃ b off z, a = some ⟨b, off, none⟩ ∧ b < w.heap.size ∧ w.cell? ⟨b, off + k, none⟩ = some (.int .i64 z) ∧ i64ok z := by
  have e : Z[k]? = some Z[k] := by simp [hk]
  obtain ⟨b, off, ha, hb, hc, hs⟩ := h.2 k _ e
  exact ⟨b, off, _, ha, hb, hc, hs⟩

section
variable {H : Type} {enc : TypeId × Value → H} {w : World} {base : Nat} {spare : Nat → Bool} {held : Bool}

theorem open_stp {fuel : Nat} {cs : List Value} {x : DataW H × List MemPlace} (h : DataW.trod enc Try.prog w base spare held fuel 38 cs = some x) :
    ∃ s : Stp, cs = [.int .i64 s.kind, .int .i64 s.id, .int .i64 s.tm] ∧ i64ok s.kind ∧ i64ok s.id ∧ i64ok s.tm := by
  obtain ⟨xs, n, _, _, hl, hxl, hf⟩ := DataW.trod_struct Try.underlying38 h
  rw [stp_cells] at hl
  match cs, hl with
  | [c0, c1, c2], _ =>
    have h0 : DataW.trod enc Try.prog w base spare held n 3 [c0] = xs[0]? := by simpa [n_int] using hf 0 _ rfl
    have hx0 : xs[0]? = some (xs[0]'(by rw [hxl]; decide)) := List.getElem?_eq_getElem _
    have h1 : DataW.trod enc Try.prog w base spare held n 3 [c1] = xs[1]? := by simpa [n_int] using hf 1 _ rfl
    have hx1 : xs[1]? = some (xs[1]'(by rw [hxl]; decide)) := List.getElem?_eq_getElem _
    have h2 : DataW.trod enc Try.prog w base spare held n 3 [c2] = xs[2]? := by simpa [n_int] using hf 2 _ rfl
    have hx2 : xs[2]? = some (xs[2]'(by rw [hxl]; decide)) := List.getElem?_eq_getElem _
    obtain ⟨v0, e0, _, w0⟩ := DataW.trod_int Try.underlying3 (h0.trans hx0)
    obtain ⟨v1, e1, _, w1⟩ := DataW.trod_int Try.underlying3 (h1.trans hx1)
    obtain ⟨v2, e2, _, w2⟩ := DataW.trod_int Try.underlying3 (h2.trans hx2)
    simp only [List.cons.injEq, and_true] at e0 e1 e2
    exact ⟨⟨v0, v1, v2⟩, by rw [e0, e1, e2], ok_of_wf w0, ok_of_wf w1, ok_of_wf w2⟩

theorem open_steps {fuel : Nat} {a : Option Addr} {len cap : Nat} {x : DataW H × List MemPlace} (h : DataW.trod enc Try.prog w base spare held fuel 36 [.slice a len cap] = some x) :
    ∃ L : List Stp, L.length = len ∧ StepsAt w a L := by
  rcases Go.Deep.open_slice Try.underlying36 h with ⟨hcs, _⟩ | ⟨p, len', cap', m, n, D, Pl, hcs, hb, hl, hm, hmm, hx, hi⟩
  · simp only [List.cons.injEq, Value.slice.injEq, and_true] at hcs
    obtain ⟨rfl, rfl, rfl⟩ := hcs
    exact ⟨[], rfl, by simp, fun i s hi => by simp at hi⟩
  · simp only [List.cons.injEq, Value.slice.injEq, and_true] at hcs
    obtain ⟨rfl, rfl, rfl⟩ := hcs
    have hlm : len ≤ m := by rw [hmm]; split <;> omega
    rw [stp_cells] at hi
    have hs : ∀ i, ∃ s : Stp, i < len → ∃ b off, p = ⟨b, off, none⟩ ∧ b < w.heap.size ∧ StpAt w b (off + i * 3) s := by
      intro i
      by_cases hil : i < len
      · obtain ⟨cs', hc, ht⟩ := hi i (by omega)
        obtain ⟨s, rfl, w0, w1, w2⟩ := open_stp ht
        obtain ⟨_, hlc, hat⟩ := World.cells?_some hc
        have a0 := hat 0 (by simp)
        have a1 := hat 1 (by simp)
        have a2 := hat 2 (by simp)
        obtain ⟨b, off, spot⟩ := p
        have e0 : w.cell? (Addr.add ⟨b, off, spot⟩ (i * 3 + 0)) = some (.int .i64 s.kind) := by
          rw [← Go.Deep.add_add, a0]; rfl
        have e1 : w.cell? (Addr.add ⟨b, off, spot⟩ (i * 3 + 1)) = some (.int .i64 s.id) := by
          rw [← Go.Deep.add_add, a1]; rfl
        have e2 : w.cell? (Addr.add ⟨b, off, spot⟩ (i * 3 + 2)) = some (.int .i64 s.tm) := by
          rw [← Go.Deep.add_add, a2]; rfl
        have hsp : spot = none := by
          obtain ⟨cs0, hc0, _⟩ := hi 0 (by omega)
          obtain ⟨_, hl0, hat0⟩ := World.cells?_some hc0
          have := World.cell?_spot ((hat0 0 (by omega)).trans (List.getElem?_eq_getElem (by omega)))
          simpa [Addr.add] using this
        subst hsp
        have hadd : ∀ j, (⟨b, off, none⟩ : Addr).add j = ⟨b, off + j, none⟩ := by intro j; unfold Addr.add; split <;> simp_all
        rw [hadd] at e0 e1 e2
        refine ⟨s, fun _ => ⟨b, off, rfl, block_lt_of_cell e0, e0, ?_, ?_, w0, w1, w2⟩⟩
        · rw [← e1]; congr 2
        · rw [← e2]; congr 2
      · exact ⟨⟨0, 0, 0⟩, fun h => absurd h hil⟩
    refine ⟨(List.range len).map fun i => Classical.choose (hs i), by simp, ?_, fun i s hi => ?_⟩
    · simp; unfold maxLen at hm; omega
    · simp only [List.getElem?_map, Option.map_eq_some_iff] at hi
      obtain ⟨i', hi', rfl⟩ := hi
      have hlt : i < len := by
        have := (List.getElem?_eq_some_iff.1 hi').1
        simpa using this
      have e : i' = i := by
        rw [List.getElem?_range hlt] at hi'
        simpa using hi'.symm
      subst e
      obtain ⟨b, off, ha, hb, hst⟩ := Classical.choose_spec (hs i') hlt
      exact ⟨b, off, by rw [ha], hb, hst⟩
theorem open_intsAt {fuel : Nat} {a : Option Addr} {len cap : Nat} {x : DataW H × List MemPlace} (h : DataW.trod enc Try.prog w base spare held fuel 22 [.slice a len cap] = some x) :
    ∃ Z : List Int, Z.length = len ∧ IntsAt w a Z := by
  rcases open_ints Try.underlying22 Try.underlying3 (by kernel_rfl) h with ⟨hcs, _⟩ | ⟨p, len', cap', zs, hcs, _, hl, hm, hz, _, hcell, hwz⟩
  · simp only [List.cons.injEq, Value.slice.injEq, and_true] at hcs
    obtain ⟨rfl, rfl, rfl⟩ := hcs
    exact ⟨[], rfl, by simp, fun i s hi => by simp at hi⟩
  · simp only [List.cons.injEq, Value.slice.injEq, and_true] at hcs
    obtain ⟨rfl, rfl, rfl⟩ := hcs
    have hlm : len ≤ zs.length := by rw [hz]; split <;> omega
    unfold maxLen at hm
    refine ⟨zs.take len, by simp; omega, by simp; omega, fun i z hi => ?_⟩
    have hil : i < len := by
      have := (List.getElem?_eq_some_iff.1 hi).1
      simp at this
      omega
    rw [List.getElem?_take_of_lt hil] at hi
    have hc := hcell i (by omega)
    have hg : zs.getD i 0 = z := by rw [List.getD_eq_getElem?_getD, hi]; rfl
    rw [hg] at hc
    obtain ⟨b, off, spot⟩ := p
    have hsp : spot = none := by
      have := World.cell?_spot (hcell 0 (by omega))
      simpa [Addr.add] using this
    subst hsp
    have hadd : (⟨b, off, none⟩ : Addr).add i = ⟨b, off + i, none⟩ := by unfold Addr.add; split <;> simp_all
    rw [hadd] at hc
    exact ⟨b, off, rfl, block_lt_of_cell hc, hc, ok_of_wf (hwz z (List.mem_of_getElem? hi))⟩

end
theorem trodAll_five {H : Type} {enc : TypeId × Value → H} {P : Program} {w : World} {base : Nat} {spare : Nat → Bool} {held : Bool} {t0 t1 t2 t3 t4 : TypeId} {args : Array Value} {ds : List (DataW H)} {ps : List MemPlace}
    (h : DataW.TrodAll enc P w base spare held [t0, t1, t2, t3, t4] args.toList ds ps) : ∃ v0 v1 v2 v3 v4 d0 d1 d2 d3 d4 p0 p1 p2 p3 p4, args = #[v0, v1, v2, v3, v4] ∧ ds = [d0, d1, d2, d3, d4] ∧ ps = p0 ++ (p1 ++ (p2 ++ (p3 ++ (p4 ++ [])))) ∧
      DataW.Trod enc P w base spare held t0 v0 d0 p0 ∧ DataW.Trod enc P w base spare held t1 v1 d1 p1 ∧ DataW.Trod enc P w base spare held t2 v2 d2 p2 ∧ DataW.Trod enc P w base spare held t3 v3 d3 p3 ∧ DataW.Trod enc P w base spare held t4 v4 d4 p4 := by
  obtain ⟨v0, vs0, d0, ds0, p0, q0, hargs, rfl, rfl, h0, r0⟩ := trodAll_cons h
  obtain ⟨v1, vs1, d1, ds1, p1, q1, rfl, rfl, rfl, h1, r1⟩ := trodAll_cons r0
  obtain ⟨v2, vs2, d2, ds2, p2, q2, rfl, rfl, rfl, h2, r2⟩ := trodAll_cons r1
  obtain ⟨v3, vs3, d3, ds3, p3, q3, rfl, rfl, rfl, h3, r3⟩ := trodAll_cons r2
  obtain ⟨v4, vs4, d4, ds4, p4, q4, rfl, rfl, rfl, h4, r4⟩ := trodAll_cons r3
  obtain ⟨rfl, rfl, rfl⟩ := trodAll_nil r4
  refine ⟨v0, v1, v2, v3, v4, d0, d1, d2, d3, d4, p0, p1, p2, p3, p4, ?_, rfl, rfl, h0, h1, h2, h3, h4⟩
  apply Array.toList_inj.1; simpa using hargs
end Go.Proofs.Ytcmdelmgklidjaa
