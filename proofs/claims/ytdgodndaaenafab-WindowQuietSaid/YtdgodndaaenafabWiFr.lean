/- Headers, connections, scripts of segments that come in are opened; by-name template (gen_wifr.py). -/
import Derived.Test.YtdgodndaaenafabWiB
import Derived.ProofKit
import Derived.OpenShut
import Derived.ShutString
import Derived.ChangeOld
import Derived.Carry
import Derived.WideShapes
import Derived.ChangeSlices
import Derived.Deep.Slices
namespace Go.Proofs.Ytdgodndaaenafab
open Go.ChangeShapes Go.WideShapes Go.ChangeAt Go.RowKit
set_option maxRecDepth 100000
set_option linter.unusedVariables false
set_option linter.unusedSimpArgs false

theorem own : ownKnob Try.prog.godebug = none := by kernel_rfl
theorem laidOut : laidOutB Try.prog = true := by kernel_rfl
def u32ok (x : Int) : Prop := 0 ≤ x ∧ x < 4294967296
theorem u32_of_wf {x : Int} (h : (Lit.int .u32 x).wf = true) : u32ok x := by
  simp [Lit.wf, IntKind.min, IntKind.max, IntKind.signed, IntKind.bits] at h
  exact ⟨by omega, by omega⟩
def u16ok (x : Int) : Prop := 0 ≤ x ∧ x < 65536
theorem u16_of_wf {x : Int} (h : (Lit.int .u16 x).wf = true) : u16ok x := by
  simp [Lit.wf, IntKind.min, IntKind.max, IntKind.signed, IntKind.bits] at h
  exact ⟨by omega, by omega⟩
structure Sl {α : Type} (w : World) (k : Nat) (enc : α → List Value) (A : Option Addr) (n : Nat) (l : List α) : Prop where
  len : l.length = n
  big : n ≤ 9223372036854775807
  row : 0 < n → ∃ b off, A = some ⟨b, off, none⟩ ∧ b < w.heap.size ∧ ∀ j x, l[j]? = some x → ∀ i v, (enc x)[i]? = some v → w.cell? ⟨b, off + j * k + i, none⟩ = some v
structure WS where
  back : Bool
  t : TR
def tcells (t : TR) : List Value := [.int .i64 t.sp, .int .i64 t.dp, .int .u32 t.sq, .int .u32 t.ak, .int .i64 t.fl, .int .i64 t.wi, .int .i64 t.ty, .int .i64 t.co, .int .i64 t.he, .int .i64 t.da]
def sdcells (s : SD) : List Value := [.bool s.seen, .int .u32 s.e, .int .u32 s.m, .bool s.fin]
def cncells (c : CN) : List Value := [.int .i64 c.st, .bool c.a.seen, .int .u32 c.a.e, .int .u32 c.a.m, .bool c.a.fin, .bool c.b.seen, .int .u32 c.b.e, .int .u32 c.b.m, .bool c.b.fin]
def wscells (s : WS) : List Value := .bool s.back :: tcells s.t
def TrOk (t : TR) : Prop := u32ok t.sq ∧ u32ok t.ak
theorem n_int : Try.prog.cellsOf 3 = 1 := by kernel_rfl
theorem n_u32 : Try.prog.cellsOf 22 = 1 := by kernel_rfl
theorem n_bool : Try.prog.cellsOf 4 = 1 := by kernel_rfl
theorem n_trans : Try.prog.cellsOf 24 = 10 := by kernel_rfl
theorem n_side : Try.prog.cellsOf 27 = 4 := by kernel_rfl
theorem n_conn : Try.prog.cellsOf 29 = 9 := by kernel_rfl
theorem n_wstep : Try.prog.cellsOf 40 = 11 := by kernel_rfl
section
variable {H : Type} {enc : TypeId × Value → H} {w : World} {base : Nat} {spare : Nat → Bool} {held : Bool}
theorem open_trans_cells {fuel : Nat} {cs : List Value} {x : DataW H × List MemPlace} (h : DataW.trod enc Try.prog w base spare held fuel 24 cs = some x) :
    ∃ t : TR, cs = tcells t ∧ TrOk t := by
  obtain ⟨xs, n, _, _, hl, hxl, hf⟩ := DataW.trod_struct Try.underlying24 h
  rw [n_trans] at hl
  match cs, hl with
  | [c0, c1, c2, c3, c4, c5, c6, c7, c8, c9], _ =>
    have h0 : DataW.trod enc Try.prog w base spare held n 3 [c0] = xs[0]? := by simpa [n_int, n_u32, n_bool, n_trans, n_side, n_conn, n_wstep] using hf 0 _ rfl
    have hx0 : xs[0]? = some (xs[0]'(by rw [hxl]; decide)) := List.getElem?_eq_getElem _
    have h1 : DataW.trod enc Try.prog w base spare held n 3 [c1] = xs[1]? := by simpa [n_int, n_u32, n_bool, n_trans, n_side, n_conn, n_wstep] using hf 1 _ rfl
    have hx1 : xs[1]? = some (xs[1]'(by rw [hxl]; decide)) := List.getElem?_eq_getElem _
    have h2 : DataW.trod enc Try.prog w base spare held n 22 [c2] = xs[2]? := by simpa [n_int, n_u32, n_bool, n_trans, n_side, n_conn, n_wstep] using hf 2 _ rfl
    have hx2 : xs[2]? = some (xs[2]'(by rw [hxl]; decide)) := List.getElem?_eq_getElem _
    have h3 : DataW.trod enc Try.prog w base spare held n 22 [c3] = xs[3]? := by simpa [n_int, n_u32, n_bool, n_trans, n_side, n_conn, n_wstep] using hf 3 _ rfl
    have hx3 : xs[3]? = some (xs[3]'(by rw [hxl]; decide)) := List.getElem?_eq_getElem _
    have h4 : DataW.trod enc Try.prog w base spare held n 3 [c4] = xs[4]? := by simpa [n_int, n_u32, n_bool, n_trans, n_side, n_conn, n_wstep] using hf 4 _ rfl
    have hx4 : xs[4]? = some (xs[4]'(by rw [hxl]; decide)) := List.getElem?_eq_getElem _
    have h5 : DataW.trod enc Try.prog w base spare held n 3 [c5] = xs[5]? := by simpa [n_int, n_u32, n_bool, n_trans, n_side, n_conn, n_wstep] using hf 5 _ rfl
    have hx5 : xs[5]? = some (xs[5]'(by rw [hxl]; decide)) := List.getElem?_eq_getElem _
    have h6 : DataW.trod enc Try.prog w base spare held n 3 [c6] = xs[6]? := by simpa [n_int, n_u32, n_bool, n_trans, n_side, n_conn, n_wstep] using hf 6 _ rfl
    have hx6 : xs[6]? = some (xs[6]'(by rw [hxl]; decide)) := List.getElem?_eq_getElem _
    have h7 : DataW.trod enc Try.prog w base spare held n 3 [c7] = xs[7]? := by simpa [n_int, n_u32, n_bool, n_trans, n_side, n_conn, n_wstep] using hf 7 _ rfl
    have hx7 : xs[7]? = some (xs[7]'(by rw [hxl]; decide)) := List.getElem?_eq_getElem _
    have h8 : DataW.trod enc Try.prog w base spare held n 3 [c8] = xs[8]? := by simpa [n_int, n_u32, n_bool, n_trans, n_side, n_conn, n_wstep] using hf 8 _ rfl
    have hx8 : xs[8]? = some (xs[8]'(by rw [hxl]; decide)) := List.getElem?_eq_getElem _
    have h9 : DataW.trod enc Try.prog w base spare held n 3 [c9] = xs[9]? := by simpa [n_int, n_u32, n_bool, n_trans, n_side, n_conn, n_wstep] using hf 9 _ rfl
    have hx9 : xs[9]? = some (xs[9]'(by rw [hxl]; decide)) := List.getElem?_eq_getElem _
    obtain ⟨v0, e0, _, w0⟩ := DataW.trod_int Try.underlying3 (h0.trans hx0)
    obtain ⟨v1, e1, _, w1⟩ := DataW.trod_int Try.underlying3 (h1.trans hx1)
    obtain ⟨v2, e2, _, w2⟩ := DataW.trod_int Try.underlying22 (h2.trans hx2)
    obtain ⟨v3, e3, _, w3⟩ := DataW.trod_int Try.underlying22 (h3.trans hx3)
    obtain ⟨v4, e4, _, w4⟩ := DataW.trod_int Try.underlying3 (h4.trans hx4)
    obtain ⟨v5, e5, _, w5⟩ := DataW.trod_int Try.underlying3 (h5.trans hx5)
    obtain ⟨v6, e6, _, w6⟩ := DataW.trod_int Try.underlying3 (h6.trans hx6)
    obtain ⟨v7, e7, _, w7⟩ := DataW.trod_int Try.underlying3 (h7.trans hx7)
    obtain ⟨v8, e8, _, w8⟩ := DataW.trod_int Try.underlying3 (h8.trans hx8)
    obtain ⟨v9, e9, _, w9⟩ := DataW.trod_int Try.underlying3 (h9.trans hx9)
    simp only [tcells, sdcells, cncells, List.cons.injEq, and_true] at e0 e1 e2 e3 e4 e5 e6 e7 e8 e9
    subst e0
    subst e1
    subst e2
    subst e3
    subst e4
    subst e5
    subst e6
    subst e7
    subst e8
    subst e9
    exact ⟨⟨v0, v1, v2, v3, v4, v5, v6, v7, v8, v9⟩, rfl, ⟨u32_of_wf w2, u32_of_wf w3⟩⟩
theorem open_side_cells {fuel : Nat} {cs : List Value} {x : DataW H × List MemPlace} (h : DataW.trod enc Try.prog w base spare held fuel 27 cs = some x) :
    ∃ s : SD, cs = sdcells s ∧ True := by
  obtain ⟨xs, n, _, _, hl, hxl, hf⟩ := DataW.trod_struct Try.underlying27 h
  rw [n_side] at hl
  match cs, hl with
  | [c0, c1, c2, c3], _ =>
    have h0 : DataW.trod enc Try.prog w base spare held n 4 [c0] = xs[0]? := by simpa [n_int, n_u32, n_bool, n_trans, n_side, n_conn, n_wstep] using hf 0 _ rfl
    have hx0 : xs[0]? = some (xs[0]'(by rw [hxl]; decide)) := List.getElem?_eq_getElem _
    have h1 : DataW.trod enc Try.prog w base spare held n 22 [c1] = xs[1]? := by simpa [n_int, n_u32, n_bool, n_trans, n_side, n_conn, n_wstep] using hf 1 _ rfl
    have hx1 : xs[1]? = some (xs[1]'(by rw [hxl]; decide)) := List.getElem?_eq_getElem _
    have h2 : DataW.trod enc Try.prog w base spare held n 22 [c2] = xs[2]? := by simpa [n_int, n_u32, n_bool, n_trans, n_side, n_conn, n_wstep] using hf 2 _ rfl
    have hx2 : xs[2]? = some (xs[2]'(by rw [hxl]; decide)) := List.getElem?_eq_getElem _
    have h3 : DataW.trod enc Try.prog w base spare held n 4 [c3] = xs[3]? := by simpa [n_int, n_u32, n_bool, n_trans, n_side, n_conn, n_wstep] using hf 3 _ rfl
    have hx3 : xs[3]? = some (xs[3]'(by rw [hxl]; decide)) := List.getElem?_eq_getElem _
    obtain ⟨v0, e0, _⟩ := DataW.trod_bool Try.underlying4 (h0.trans hx0)
    obtain ⟨v1, e1, _, w1⟩ := DataW.trod_int Try.underlying22 (h1.trans hx1)
    obtain ⟨v2, e2, _, w2⟩ := DataW.trod_int Try.underlying22 (h2.trans hx2)
    obtain ⟨v3, e3, _⟩ := DataW.trod_bool Try.underlying4 (h3.trans hx3)
    simp only [tcells, sdcells, cncells, List.cons.injEq, and_true] at e0 e1 e2 e3
    subst e0
    subst e1
    subst e2
    subst e3
    exact ⟨⟨v0, v1, v2, v3⟩, rfl, trivial⟩
theorem open_conn_cells {fuel : Nat} {cs : List Value} {x : DataW H × List MemPlace} (h : DataW.trod enc Try.prog w base spare held fuel 29 cs = some x) :
    ∃ c : CN, cs = cncells c ∧ True := by
  obtain ⟨xs, n, _, _, hl, hxl, hf⟩ := DataW.trod_struct Try.underlying29 h
  rw [n_conn] at hl
  match cs, hl with
  | [c0, c1, c2, c3, c4, c5, c6, c7, c8], _ =>
    have h0 : DataW.trod enc Try.prog w base spare held n 3 [c0] = xs[0]? := by simpa [n_int, n_u32, n_bool, n_trans, n_side, n_conn, n_wstep] using hf 0 _ rfl
    have hx0 : xs[0]? = some (xs[0]'(by rw [hxl]; decide)) := List.getElem?_eq_getElem _
    have h1 : DataW.trod enc Try.prog w base spare held n 27 [c1, c2, c3, c4] = xs[1]? := by simpa [n_int, n_u32, n_bool, n_trans, n_side, n_conn, n_wstep] using hf 1 _ rfl
    have hx1 : xs[1]? = some (xs[1]'(by rw [hxl]; decide)) := List.getElem?_eq_getElem _
    have h2 : DataW.trod enc Try.prog w base spare held n 27 [c5, c6, c7, c8] = xs[2]? := by simpa [n_int, n_u32, n_bool, n_trans, n_side, n_conn, n_wstep] using hf 2 _ rfl
    have hx2 : xs[2]? = some (xs[2]'(by rw [hxl]; decide)) := List.getElem?_eq_getElem _
    obtain ⟨v0, e0, _, w0⟩ := DataW.trod_int Try.underlying3 (h0.trans hx0)
    obtain ⟨v1, e1, w1⟩ := open_side_cells (h1.trans hx1)
    obtain ⟨v2, e2, w2⟩ := open_side_cells (h2.trans hx2)
    simp only [tcells, sdcells, cncells, List.cons.injEq, and_true] at e0 e1 e2
    subst e0
    obtain ⟨rfl, rfl, rfl, rfl⟩ := e1
    obtain ⟨rfl, rfl, rfl, rfl⟩ := e2
    exact ⟨⟨v0, v1, v2⟩, rfl, trivial⟩
theorem open_wstep_cells {fuel : Nat} {cs : List Value} {x : DataW H × List MemPlace} (h : DataW.trod enc Try.prog w base spare held fuel 40 cs = some x) :
    ∃ s : WS, cs = wscells s ∧ TrOk s.t := by
  obtain ⟨xs, n, _, _, hl, hxl, hf⟩ := DataW.trod_struct Try.underlying40 h
  rw [n_wstep] at hl
  match cs, hl with
  | [c0, c1, c2, c3, c4, c5, c6, c7, c8, c9, c10], _ =>
    have h0 : DataW.trod enc Try.prog w base spare held n 4 [c0] = xs[0]? := by simpa [n_int, n_u32, n_bool, n_trans, n_side, n_conn, n_wstep] using hf 0 _ rfl
    have hx0 : xs[0]? = some (xs[0]'(by rw [hxl]; decide)) := List.getElem?_eq_getElem _
    have h1 : DataW.trod enc Try.prog w base spare held n 24 [c1, c2, c3, c4, c5, c6, c7, c8, c9, c10] = xs[1]? := by simpa [n_int, n_u32, n_bool, n_trans, n_side, n_conn, n_wstep] using hf 1 _ rfl
    have hx1 : xs[1]? = some (xs[1]'(by rw [hxl]; decide)) := List.getElem?_eq_getElem _
    obtain ⟨v0, e0, _⟩ := DataW.trod_bool Try.underlying4 (h0.trans hx0)
    obtain ⟨v1, e1, w1⟩ := open_trans_cells (h1.trans hx1)
    simp only [tcells, sdcells, cncells, List.cons.injEq, and_true] at e0 e1
    subst e0
    obtain ⟨rfl, rfl, rfl, rfl, rfl, rfl, rfl, rfl, rfl, rfl⟩ := e1
    exact ⟨⟨v0, v1⟩, rfl, w1⟩
/-- A slice of rows is opened. -/
theorem open_sl {α : Type} (S E : TypeId) (k : Nat) (hu : Try.prog.underlying S = some (.slice E)) (hk : Try.prog.cellsOf E = k) (hkp : 0 < k) (en : α → List Value) (good : α → Prop)
    (opn : ∀ (fuel : Nat) (cs : List Value) (x : DataW H × List MemPlace), DataW.trod enc Try.prog w base spare held fuel E cs = some x → ∃ a : α, cs = en a ∧ good a)
    {fuel : Nat} {c0 : Value} {x : DataW H × List MemPlace} (h : DataW.trod enc Try.prog w base spare held fuel S [c0] = some x) :
    ∃ (A : Option Addr) (len cap : Nat) (L : List α), c0 = .slice A len cap ∧ Sl w k en A len L ∧ (∀ a ∈ L, good a) ∧ (A = none → cap = 0) := by
  rcases Go.Deep.open_slice hu h with ⟨hcs, hx0⟩ | ⟨p, len', cap', m, n, D, Pl, hcs, hb, hl, hm, hmm, hx, hi⟩
  · simp only [List.cons.injEq, and_true] at hcs
    exact ⟨none, 0, 0, [], hcs, ⟨rfl, by omega, fun h => absurd h (Nat.lt_irrefl _)⟩, fun a ha => by simp at ha, fun _ => rfl⟩
  · simp only [List.cons.injEq, and_true] at hcs
    have hlm : len' ≤ m := by rw [hmm]; split <;> omega
    rw [hk] at hi
    have hone : ∀ i, i < len' → ∃ a : α, good a ∧ ∃ b off, p = ⟨b, off, none⟩ ∧ b < w.heap.size ∧ ∀ j v, (en a)[j]? = some v → w.cell? ⟨b, off + i * k + j, none⟩ = some v := by
      intro i hil
      obtain ⟨cs', hc, ht⟩ := hi i (by omega)
      obtain ⟨a, rfl, hg⟩ := opn _ _ _ ht
      obtain ⟨_, hlc, hat⟩ := World.cells?_some hc
      obtain ⟨b, off, spot⟩ := p
      have hsp : spot = none := by
        obtain ⟨cs0, hc0, _⟩ := hi 0 (by omega)
        obtain ⟨_, hl0, hat0⟩ := World.cells?_some hc0
        have := World.cell?_spot ((hat0 0 (by omega)).trans (List.getElem?_eq_getElem (by omega)))
        simpa [Addr.add] using this
      subst hsp
      have hadd : ∀ j, (⟨b, off, none⟩ : Addr).add j = ⟨b, off + j, none⟩ := by intro j; unfold Addr.add; split <;> simp_all
      have hcell : ∀ j v, (en a)[j]? = some v → w.cell? ⟨b, off + i * k + j, none⟩ = some v := by
        intro j v hv
        have hj : j < k := by rw [← hlc]; exact (List.getElem?_eq_some_iff.1 hv).1
        have e0 : w.cell? (Addr.add ⟨b, off, none⟩ (i * k + j)) = some v := by
          rw [← Go.Deep.add_add, hat j hj, hv]
        rw [hadd] at e0
        rw [← e0]; congr 2; omega
      have hlt : b < w.heap.size := by
        have : ∃ v, (en a)[0]? = some v := ⟨_, List.getElem?_eq_getElem (by rw [hlc]; exact hkp)⟩
        obtain ⟨v, hv⟩ := this
        exact World.block_lt_of_cell? _ _ (hcell 0 v hv)
      exact ⟨a, hg, b, off, rfl, hlt, hcell⟩
    by_cases h0 : len' = 0
    · subst h0
      exact ⟨some p, 0, cap', [], hcs, ⟨rfl, by omega, fun h => absurd h (Nat.lt_irrefl _)⟩, fun a ha => by simp at ha, fun h => by cases h⟩
    · obtain ⟨a0, _, b, off, hp, hlt, _⟩ := hone 0 (by omega)
      have ha : ∀ i, ∃ a : α, i < len' → good a ∧ ∀ j v, (en a)[j]? = some v → w.cell? ⟨b, off + i * k + j, none⟩ = some v := by
        intro i
        by_cases hil : i < len'
        · obtain ⟨a, hg, b', off', hp', _, hc⟩ := hone i hil
          rw [hp] at hp'
          cases hp'
          exact ⟨a, fun _ => ⟨hg, hc⟩⟩
        · exact ⟨a0, fun h => absurd h hil⟩
      refine ⟨some p, len', cap', (List.range len').map fun i => Classical.choose (ha i), hcs, ⟨by simp, by unfold maxLen at hm; omega, fun _ => ⟨b, off, by rw [hp], hlt, fun j x hj => ?_⟩⟩, fun a hmem => ?_, fun h => by cases h⟩
      · simp only [List.getElem?_map, Option.map_eq_some_iff] at hj
        obtain ⟨i', hi', rfl⟩ := hj
        have hjl : j < len' := by
          have := (List.getElem?_eq_some_iff.1 hi').1
          simpa using this
        have e : i' = j := by
          rw [List.getElem?_range hjl] at hi'
          simpa using hi'.symm
        subst e
        exact (Classical.choose_spec (ha i') hjl).2
      · obtain ⟨i, hi', rfl⟩ := List.mem_map.1 hmem
        exact (Classical.choose_spec (ha i) (List.mem_range.1 hi')).1

theorem open_trans {r : Reach} {b0 : Nat} {v : Value} {d : DataW H} {ps : List MemPlace} (hval : Value.okWide Try.prog w r b0 24 v) (hd : DataW.Trod enc Try.prog w base spare held 24 v d ps) :
    ∃ t : TR, v = .agg (TA t) ∧ TrOk t := by
  obtain ⟨cs, rfl, hs⟩ := okWide_struct Try.underlying24 hval
  obtain ⟨fuel, hf⟩ := hd
  obtain ⟨b, e, wb⟩ := open_trans_cells (cs := cs.toList) (by simpa [Value.cells] using hf)
  refine ⟨b, ?_, wb⟩
  have e2 : cs = (tcells b).toArray := by rw [← e, Array.toArray_toList]
  rw [e2]; rfl
theorem open_conn {r : Reach} {b0 : Nat} {v : Value} {d : DataW H} {ps : List MemPlace} (hval : Value.okWide Try.prog w r b0 29 v) (hd : DataW.Trod enc Try.prog w base spare held 29 v d ps) :
    ∃ c : CN, v = .agg (CA c) ∧ True := by
  obtain ⟨cs, rfl, hs⟩ := okWide_struct Try.underlying29 hval
  obtain ⟨fuel, hf⟩ := hd
  obtain ⟨b, e, wb⟩ := open_conn_cells (cs := cs.toList) (by simpa [Value.cells] using hf)
  refine ⟨b, ?_, wb⟩
  have e2 : cs = (cncells b).toArray := by rw [← e, Array.toArray_toList]
  rw [e2]; rfl
theorem open_wsteps {r : Reach} {b0 : Nat} {v : Value} {d : DataW H} {pl : List MemPlace} (hval : Value.okWide Try.prog w r b0 25 v) (hd : DataW.Trod enc Try.prog w base spare held 25 v d pl) :
    ∃ (A : Option Addr) (n c : Nat) (L : List WS), v = .slice A n c ∧ Sl w 11 wscells A n L ∧ ∀ s ∈ L, TrOk s.t := by
  obtain ⟨a, len, cap, rfl⟩ := okWide_slice Try.underlying25 hval
  obtain ⟨fuel, hf⟩ := hd
  obtain ⟨A, n, c, L, e, h1, h2, _⟩ := open_sl 25 40 11 Try.underlying25 n_wstep (by decide) wscells (fun s => TrOk s.t) (fun _ _ _ h => open_wstep_cells h) (c0 := .slice a len cap) (by simpa [Value.cells] using hf)
  exact ⟨A, n, c, L, by simpa using e, h1, h2⟩
end
end Go.Proofs.Ytdgodndaaenafab
