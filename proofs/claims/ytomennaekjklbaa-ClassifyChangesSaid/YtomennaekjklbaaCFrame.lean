/- The rows' frames: boxes, points, addresses are opened; by-name template (gen_cframe.py). -/
import Derived.Test.YtomennaekjklbaaCPl
import Derived.ProofKit
import Derived.OpenShut
import Derived.ShutString
import Derived.ChangeOld
import Derived.Carry
import Derived.WideShapes
namespace Go.Proofs.Ytomennaekjklbaa
open Go.ChangeShapes Go.WideShapes Go.ChangeAt Go.RowKit
set_option maxRecDepth 100000
set_option linter.unusedVariables false

theorem own : ownKnob Try.prog.godebug = none := by kernel_rfl

theorem laidOut : laidOutB Try.prog = true := by kernel_rfl

theorem word_of_wf {x : Int} (h : (Lit.int .u64 x).wf = true) : Word x := by
  simp [Lit.wf, IntKind.min, IntKind.max, IntKind.signed, IntKind.bits] at h
  exact ⟨by omega, by omega⟩

theorem i64_of_wf {x : Int} (h : (Lit.int .i64 x).wf = true) : -9223372036854775808 ≤ x ∧ x < 9223372036854775808 := by
  simp [Lit.wf, IntKind.min, IntKind.max, IntKind.signed, IntKind.bits] at h
  exact ⟨by omega, by omega⟩

theorem u64_cells : Try.prog.cellsOf 23 = 1 := by kernel_rfl

theorem addr_cells : Try.prog.cellsOf 25 = 2 := by kernel_rfl

theorem rng_cells : Try.prog.cellsOf 27 = 4 := by kernel_rfl

theorem box_cells : Try.prog.cellsOf 30 = 24 := by kernel_rfl
theorem pt_cells : Try.prog.cellsOf 68 = 12 := by kernel_rfl
theorem arr_cells : Try.prog.cellsOf 28 = 24 := by kernel_rfl
theorem parr_cells : Try.prog.cellsOf 66 = 12 := by kernel_rfl
section
variable {H : Type} {enc : TypeId × Value → H} {w : World} {base : Nat} {spare : Nat → Bool} {held : Bool}
theorem open_addr_cells {fuel : Nat} {cs : List Value} {x : DataW H × List MemPlace} (h : DataW.trod enc Try.prog w base spare held fuel 25 cs = some x) :
    ∃ a b : Int, cs = [.int .u64 a, .int .u64 b] ∧ Word a ∧ Word b := by
  obtain ⟨xs, n, _, _, hl, hxl, hf⟩ := DataW.trod_struct Try.underlying25 h
  rw [addr_cells] at hl
  match cs, hl with
  | [c0, c1], _ =>
    have h0 : DataW.trod enc Try.prog w base spare held n 23 [c0] = xs[0]? := by simpa [u64_cells] using hf 0 _ rfl
    have h1 : DataW.trod enc Try.prog w base spare held n 23 [c1] = xs[1]? := by simpa [u64_cells] using hf 1 _ rfl
    have hx0 : xs[0]? = some (xs[0]'(by rw [hxl]; decide)) := List.getElem?_eq_getElem _
    have hx1 : xs[1]? = some (xs[1]'(by rw [hxl]; decide)) := List.getElem?_eq_getElem _
    obtain ⟨k, e0, _, w0⟩ := DataW.trod_int Try.underlying23 (h0.trans hx0)
    obtain ⟨m, e1, _, w1⟩ := DataW.trod_int Try.underlying23 (h1.trans hx1)
    simp only [List.cons.injEq, and_true] at e0 e1
    exact ⟨k, m, by rw [e0, e1], word_of_wf w0, word_of_wf w1⟩

theorem open_rng_cells {fuel : Nat} {cs : List Value} {x : DataW H × List MemPlace} (h : DataW.trod enc Try.prog w base spare held fuel 27 cs = some x) :
    ∃ a b c d : Int, cs = [.int .u64 a, .int .u64 b, .int .u64 c, .int .u64 d] ∧ Word a ∧ Word b ∧ Word c ∧ Word d := by
  obtain ⟨xs, n, _, _, hl, hxl, hf⟩ := DataW.trod_struct Try.underlying27 h
  rw [rng_cells] at hl
  match cs, hl with
  | [c0, c1, c2, c3], _ =>
    have h0 : DataW.trod enc Try.prog w base spare held n 25 [c0, c1] = xs[0]? := by simpa [addr_cells] using hf 0 _ rfl
    have h1 : DataW.trod enc Try.prog w base spare held n 25 [c2, c3] = xs[1]? := by simpa [addr_cells] using hf 1 _ rfl
    have hx0 : xs[0]? = some (xs[0]'(by rw [hxl]; decide)) := List.getElem?_eq_getElem _
    have hx1 : xs[1]? = some (xs[1]'(by rw [hxl]; decide)) := List.getElem?_eq_getElem _
    obtain ⟨a, b, e0, wa, wb⟩ := open_addr_cells (h0.trans hx0)
    obtain ⟨c, d, e1, wc, wd⟩ := open_addr_cells (h1.trans hx1)
    simp only [List.cons.injEq, and_true] at e0 e1
    exact ⟨a, b, c, d, by rw [e0.1, e0.2, e1.1, e1.2], wa, wb, wc, wd⟩

theorem open_addr {r : Reach} {b0 : Nat} {v : Value} {d : DataW H} {ps : List MemPlace} (hval : Value.okWide Try.prog w r b0 25 v) (hd : DataW.Trod enc Try.prog w base spare held 25 v d ps) :
    ∃ a b : Int, v = .agg #[.int .u64 a, .int .u64 b] ∧ Word a ∧ Word b := by
  obtain ⟨cs, rfl, hs⟩ := okWide_struct Try.underlying25 hval
  obtain ⟨fuel, hf⟩ := hd
  obtain ⟨a, b, e, wa, wb⟩ := open_addr_cells (cs := cs.toList) (by simpa [Value.cells] using hf)
  exact ⟨a, b, by rw [show cs = #[.int .u64 a, .int .u64 b] by apply Array.toList_inj.1; simpa using e], wa, wb⟩

theorem open_box_arr {fuel : Nat} {cs : List Value} {x : DataW H × List MemPlace} (h : DataW.trod enc Try.prog w base spare held fuel 28 cs = some x) :
    ∃ b : Nat → R4, cs = (bxc b).toList ∧ WB b := by
  obtain ⟨xs, n, _, _, hl, hxl, hf⟩ := DataW.trod_array Try.underlying28 h
  rw [arr_cells] at hl
  match cs, hl with
  | [c0, c1, c2, c3, c4, c5, c6, c7, c8, c9, c10, c11, c12, c13, c14, c15, c16, c17, c18, c19, c20, c21, c22, c23], _ =>
    have h0 : DataW.trod enc Try.prog w base spare held n 27 [c0, c1, c2, c3] = xs[0]? := by simpa [rng_cells] using hf 0 (by omega)
    have hx0 : xs[0]? = some (xs[0]'(by rw [hxl]; decide)) := List.getElem?_eq_getElem _
    obtain ⟨p0, q0, r0, s0, e0, wp0, wq0, wr0, ws0⟩ := open_rng_cells (h0.trans hx0)
    simp only [List.cons.injEq, and_true] at e0
    have h1 : DataW.trod enc Try.prog w base spare held n 27 [c4, c5, c6, c7] = xs[1]? := by simpa [rng_cells] using hf 1 (by omega)
    have hx1 : xs[1]? = some (xs[1]'(by rw [hxl]; decide)) := List.getElem?_eq_getElem _
    obtain ⟨p1, q1, r1, s1, e1, wp1, wq1, wr1, ws1⟩ := open_rng_cells (h1.trans hx1)
    simp only [List.cons.injEq, and_true] at e1
    have h2 : DataW.trod enc Try.prog w base spare held n 27 [c8, c9, c10, c11] = xs[2]? := by simpa [rng_cells] using hf 2 (by omega)
    have hx2 : xs[2]? = some (xs[2]'(by rw [hxl]; decide)) := List.getElem?_eq_getElem _
    obtain ⟨p2, q2, r2, s2, e2, wp2, wq2, wr2, ws2⟩ := open_rng_cells (h2.trans hx2)
    simp only [List.cons.injEq, and_true] at e2
    have h3 : DataW.trod enc Try.prog w base spare held n 27 [c12, c13, c14, c15] = xs[3]? := by simpa [rng_cells] using hf 3 (by omega)
    have hx3 : xs[3]? = some (xs[3]'(by rw [hxl]; decide)) := List.getElem?_eq_getElem _
    obtain ⟨p3, q3, r3, s3, e3, wp3, wq3, wr3, ws3⟩ := open_rng_cells (h3.trans hx3)
    simp only [List.cons.injEq, and_true] at e3
    have h4 : DataW.trod enc Try.prog w base spare held n 27 [c16, c17, c18, c19] = xs[4]? := by simpa [rng_cells] using hf 4 (by omega)
    have hx4 : xs[4]? = some (xs[4]'(by rw [hxl]; decide)) := List.getElem?_eq_getElem _
    obtain ⟨p4, q4, r4, s4, e4, wp4, wq4, wr4, ws4⟩ := open_rng_cells (h4.trans hx4)
    simp only [List.cons.injEq, and_true] at e4
    have h5 : DataW.trod enc Try.prog w base spare held n 27 [c20, c21, c22, c23] = xs[5]? := by simpa [rng_cells] using hf 5 (by omega)
    have hx5 : xs[5]? = some (xs[5]'(by rw [hxl]; decide)) := List.getElem?_eq_getElem _
    obtain ⟨p5, q5, r5, s5, e5, wp5, wq5, wr5, ws5⟩ := open_rng_cells (h5.trans hx5)
    simp only [List.cons.injEq, and_true] at e5
    refine ⟨fun i => match i with | 0 => ⟨p0, q0, r0, s0⟩ | 1 => ⟨p1, q1, r1, s1⟩ | 2 => ⟨p2, q2, r2, s2⟩ | 3 => ⟨p3, q3, r3, s3⟩ | 4 => ⟨p4, q4, r4, s4⟩ | _ => ⟨p5, q5, r5, s5⟩, ?_, ?_⟩
    · unfold bxc; simp only [e0, e1, e2, e3, e4, e5]
    · intro k hk
      match k, hk with
      | 0, _ => exact ⟨wp0, wq0, wr0, ws0⟩
      | 1, _ => exact ⟨wp1, wq1, wr1, ws1⟩
      | 2, _ => exact ⟨wp2, wq2, wr2, ws2⟩
      | 3, _ => exact ⟨wp3, wq3, wr3, ws3⟩
      | 4, _ => exact ⟨wp4, wq4, wr4, ws4⟩
      | 5, _ => exact ⟨wp5, wq5, wr5, ws5⟩
theorem open_pt_arr {fuel : Nat} {cs : List Value} {x : DataW H × List MemPlace} (h : DataW.trod enc Try.prog w base spare held fuel 66 cs = some x) :
    ∃ b : Nat → P2, cs = (ptc b).toList ∧ WP b := by
  obtain ⟨xs, n, _, _, hl, hxl, hf⟩ := DataW.trod_array Try.underlying66 h
  rw [parr_cells] at hl
  match cs, hl with
  | [c0, c1, c2, c3, c4, c5, c6, c7, c8, c9, c10, c11], _ =>
    have h0 : DataW.trod enc Try.prog w base spare held n 25 [c0, c1] = xs[0]? := by simpa [addr_cells] using hf 0 (by omega)
    have hx0 : xs[0]? = some (xs[0]'(by rw [hxl]; decide)) := List.getElem?_eq_getElem _
    obtain ⟨p0, q0, e0, wp0, wq0⟩ := open_addr_cells (h0.trans hx0)
    simp only [List.cons.injEq, and_true] at e0
    have h1 : DataW.trod enc Try.prog w base spare held n 25 [c2, c3] = xs[1]? := by simpa [addr_cells] using hf 1 (by omega)
    have hx1 : xs[1]? = some (xs[1]'(by rw [hxl]; decide)) := List.getElem?_eq_getElem _
    obtain ⟨p1, q1, e1, wp1, wq1⟩ := open_addr_cells (h1.trans hx1)
    simp only [List.cons.injEq, and_true] at e1
    have h2 : DataW.trod enc Try.prog w base spare held n 25 [c4, c5] = xs[2]? := by simpa [addr_cells] using hf 2 (by omega)
    have hx2 : xs[2]? = some (xs[2]'(by rw [hxl]; decide)) := List.getElem?_eq_getElem _
    obtain ⟨p2, q2, e2, wp2, wq2⟩ := open_addr_cells (h2.trans hx2)
    simp only [List.cons.injEq, and_true] at e2
    have h3 : DataW.trod enc Try.prog w base spare held n 25 [c6, c7] = xs[3]? := by simpa [addr_cells] using hf 3 (by omega)
    have hx3 : xs[3]? = some (xs[3]'(by rw [hxl]; decide)) := List.getElem?_eq_getElem _
    obtain ⟨p3, q3, e3, wp3, wq3⟩ := open_addr_cells (h3.trans hx3)
    simp only [List.cons.injEq, and_true] at e3
    have h4 : DataW.trod enc Try.prog w base spare held n 25 [c8, c9] = xs[4]? := by simpa [addr_cells] using hf 4 (by omega)
    have hx4 : xs[4]? = some (xs[4]'(by rw [hxl]; decide)) := List.getElem?_eq_getElem _
    obtain ⟨p4, q4, e4, wp4, wq4⟩ := open_addr_cells (h4.trans hx4)
    simp only [List.cons.injEq, and_true] at e4
    have h5 : DataW.trod enc Try.prog w base spare held n 25 [c10, c11] = xs[5]? := by simpa [addr_cells] using hf 5 (by omega)
    have hx5 : xs[5]? = some (xs[5]'(by rw [hxl]; decide)) := List.getElem?_eq_getElem _
    obtain ⟨p5, q5, e5, wp5, wq5⟩ := open_addr_cells (h5.trans hx5)
    simp only [List.cons.injEq, and_true] at e5
    refine ⟨fun i => match i with | 0 => ⟨p0, q0⟩ | 1 => ⟨p1, q1⟩ | 2 => ⟨p2, q2⟩ | 3 => ⟨p3, q3⟩ | 4 => ⟨p4, q4⟩ | _ => ⟨p5, q5⟩, ?_, ?_⟩
    · unfold ptc; simp only [e0, e1, e2, e3, e4, e5]
    · intro k hk
      match k, hk with
      | 0, _ => exact ⟨wp0, wq0⟩
      | 1, _ => exact ⟨wp1, wq1⟩
      | 2, _ => exact ⟨wp2, wq2⟩
      | 3, _ => exact ⟨wp3, wq3⟩
      | 4, _ => exact ⟨wp4, wq4⟩
      | 5, _ => exact ⟨wp5, wq5⟩
theorem open_box_cells {fuel : Nat} {cs : List Value} {x : DataW H × List MemPlace} (h : DataW.trod enc Try.prog w base spare held fuel 30 cs = some x) :
    ∃ b : Nat → R4, cs = (bxc b).toList ∧ WB b := by
  obtain ⟨xs, n, _, _, hl, hxl, hf⟩ := DataW.trod_struct Try.underlying30 h
  rw [box_cells] at hl
  have h0 : DataW.trod enc Try.prog w base spare held n 28 ((cs.drop 0).take (Try.prog.cellsOf 28)) = xs[0]? := hf 0 _ rfl
  have hx0 : xs[0]? = some (xs[0]'(by rw [hxl]; decide)) := List.getElem?_eq_getElem _
  have hd : (cs.drop 0).take (Try.prog.cellsOf 28) = cs := by rw [arr_cells, List.drop_zero, List.take_of_length_le (by omega)]
  rw [hx0, hd] at h0
  exact open_box_arr h0
theorem open_box {r : Reach} {b0 : Nat} {v : Value} {d : DataW H} {ps : List MemPlace} (hval : Value.okWide Try.prog w r b0 30 v) (hd : DataW.Trod enc Try.prog w base spare held 30 v d ps) :
    ∃ b : Nat → R4, v = .agg (bxc b) ∧ WB b := by
  obtain ⟨cs, rfl, hs⟩ := okWide_struct Try.underlying30 hval
  obtain ⟨fuel, hf⟩ := hd
  obtain ⟨b, e, wb⟩ := open_box_cells (cs := cs.toList) (by simpa [Value.cells] using hf)
  exact ⟨b, by rw [show cs = bxc b by apply Array.toList_inj.1; simpa using e], wb⟩
theorem open_pt_cells {fuel : Nat} {cs : List Value} {x : DataW H × List MemPlace} (h : DataW.trod enc Try.prog w base spare held fuel 68 cs = some x) :
    ∃ b : Nat → P2, cs = (ptc b).toList ∧ WP b := by
  obtain ⟨xs, n, _, _, hl, hxl, hf⟩ := DataW.trod_struct Try.underlying68 h
  rw [pt_cells] at hl
  have h0 : DataW.trod enc Try.prog w base spare held n 66 ((cs.drop 0).take (Try.prog.cellsOf 66)) = xs[0]? := hf 0 _ rfl
  have hx0 : xs[0]? = some (xs[0]'(by rw [hxl]; decide)) := List.getElem?_eq_getElem _
  have hd : (cs.drop 0).take (Try.prog.cellsOf 66) = cs := by rw [parr_cells, List.drop_zero, List.take_of_length_le (by omega)]
  rw [hx0, hd] at h0
  exact open_pt_arr h0
theorem open_pt {r : Reach} {b0 : Nat} {v : Value} {d : DataW H} {ps : List MemPlace} (hval : Value.okWide Try.prog w r b0 68 v) (hd : DataW.Trod enc Try.prog w base spare held 68 v d ps) :
    ∃ b : Nat → P2, v = .agg (ptc b) ∧ WP b := by
  obtain ⟨cs, rfl, hs⟩ := okWide_struct Try.underlying68 hval
  obtain ⟨fuel, hf⟩ := hd
  obtain ⟨b, e, wb⟩ := open_pt_cells (cs := cs.toList) (by simpa [Value.cells] using hf)
  exact ⟨b, by rw [show cs = ptc b by apply Array.toList_inj.1; simpa using e], wb⟩
end
end Go.Proofs.Ytomennaekjklbaa
