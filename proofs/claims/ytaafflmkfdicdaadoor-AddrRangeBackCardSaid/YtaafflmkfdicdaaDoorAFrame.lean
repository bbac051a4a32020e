/- The rows' frames: addresses and ranges are opened; by-name template. -/
import Derived.Test.YtaafflmkfdicdaaDoorANum
import Derived.ProofKit
import Derived.OpenShut
import Derived.ShutString
import Derived.ChangeOld
import Derived.Carry
import Derived.WideShapes
namespace Go.Proofs.YtaafflmkfdicdaaDoor
open Go.ChangeShapes Go.WideShapes Go.ChangeAt Go.RowKit
set_option maxRecDepth 100000

theorem own : ownKnob Tryd.prog.godebug = none := by kernel_rfl
theorem laidOut : laidOutB Tryd.prog = true := by kernel_rfl

theorem word_of_wf {x : Int} (h : (Lit.int .u64 x).wf = true) : Word x := by
  simp [Lit.wf, IntKind.min, IntKind.max, IntKind.signed, IntKind.bits] at h
  exact ⟨by omega, by omega⟩
theorem u32_of_wf {x : Int} (h : (Lit.int .u32 x).wf = true) : 0 ≤ x ∧ x < 4294967296 := by
  simp [Lit.wf, IntKind.min, IntKind.max, IntKind.signed, IntKind.bits] at h
  exact ⟨by omega, by omega⟩
theorem i64_of_wf {x : Int} (h : (Lit.int .i64 x).wf = true) : -9223372036854775808 ≤ x ∧ x < 9223372036854775808 := by
  simp [Lit.wf, IntKind.min, IntKind.max, IntKind.signed, IntKind.bits] at h
  exact ⟨by omega, by omega⟩

theorem u64_cells : Tryd.prog.cellsOf 22 = 1 := by kernel_rfl
theorem addr_cells : Tryd.prog.cellsOf 24 = 2 := by kernel_rfl
theorem rng_cells : Tryd.prog.cellsOf 26 = 4 := by kernel_rfl

section
variable {H : Type} {enc : TypeId × Value → H} {w : World} {base : Nat} {spare : Nat → Bool} {held : Bool}

theorem open_addr_cells {fuel : Nat} {cs : List Value} {x : DataW H × List MemPlace} (h : DataW.trod enc Tryd.prog w base spare held fuel 24 cs = some x) :
    ∃ a b : Int, cs = [.int .u64 a, .int .u64 b] ∧ Word a ∧ Word b := by
  obtain ⟨xs, n, _, _, hl, hxl, hf⟩ := DataW.trod_struct Tryd.underlying24 h
  rw [addr_cells] at hl
  match cs, hl with
  | [c0, c1], _ =>
    have h0 : DataW.trod enc Tryd.prog w base spare held n 22 [c0] = xs[0]? := by simpa [u64_cells] using hf 0 _ rfl
    have h1 : DataW.trod enc Tryd.prog w base spare held n 22 [c1] = xs[1]? := by simpa [u64_cells] using hf 1 _ rfl
    have hx0 : xs[0]? = some (xs[0]'(by rw [hxl]; decide)) := List.getElem?_eq_getElem _
    have hx1 : xs[1]? = some (xs[1]'(by rw [hxl]; decide)) := List.getElem?_eq_getElem _
    obtain ⟨k, e0, _, w0⟩ := DataW.trod_int Tryd.underlying22 (h0.trans hx0)
    obtain ⟨m, e1, _, w1⟩ := DataW.trod_int Tryd.underlying22 (h1.trans hx1)
    simp only [List.cons.injEq, and_true] at e0 e1
    exact ⟨k, m, by rw [e0, e1], word_of_wf w0, word_of_wf w1⟩

theorem open_rng_cells {fuel : Nat} {cs : List Value} {x : DataW H × List MemPlace} (h : DataW.trod enc Tryd.prog w base spare held fuel 26 cs = some x) :
    ∃ a b c d : Int, cs = [.int .u64 a, .int .u64 b, .int .u64 c, .int .u64 d] ∧ Word a ∧ Word b ∧ Word c ∧ Word d := by
  obtain ⟨xs, n, _, _, hl, hxl, hf⟩ := DataW.trod_struct Tryd.underlying26 h
  rw [rng_cells] at hl
  match cs, hl with
  | [c0, c1, c2, c3], _ =>
    have h0 : DataW.trod enc Tryd.prog w base spare held n 24 [c0, c1] = xs[0]? := by simpa [addr_cells] using hf 0 _ rfl
    have h1 : DataW.trod enc Tryd.prog w base spare held n 24 [c2, c3] = xs[1]? := by simpa [addr_cells] using hf 1 _ rfl
    have hx0 : xs[0]? = some (xs[0]'(by rw [hxl]; decide)) := List.getElem?_eq_getElem _
    have hx1 : xs[1]? = some (xs[1]'(by rw [hxl]; decide)) := List.getElem?_eq_getElem _
    obtain ⟨a, b, e0, wa, wb⟩ := open_addr_cells (h0.trans hx0)
    obtain ⟨c, d, e1, wc, wd⟩ := open_addr_cells (h1.trans hx1)
    simp only [List.cons.injEq, and_true] at e0 e1
    exact ⟨a, b, c, d, by rw [e0.1, e0.2, e1.1, e1.2], wa, wb, wc, wd⟩

theorem open_addr {r : Reach} {b0 : Nat} {v : Value} {d : DataW H} {ps : List MemPlace} (hval : Value.okWide Tryd.prog w r b0 24 v) (hd : DataW.Trod enc Tryd.prog w base spare held 24 v d ps) :
    ∃ a b : Int, v = .agg #[.int .u64 a, .int .u64 b] ∧ Word a ∧ Word b := by
  obtain ⟨cs, rfl, hs⟩ := okWide_struct Tryd.underlying24 hval
  obtain ⟨fuel, hf⟩ := hd
  obtain ⟨a, b, e, wa, wb⟩ := open_addr_cells (cs := cs.toList) (by simpa [Value.cells] using hf)
  exact ⟨a, b, by rw [show cs = #[.int .u64 a, .int .u64 b] by apply Array.toList_inj.1; simpa using e], wa, wb⟩

theorem open_rng {r : Reach} {b0 : Nat} {v : Value} {d : DataW H} {ps : List MemPlace} (hval : Value.okWide Tryd.prog w r b0 26 v) (hd : DataW.Trod enc Tryd.prog w base spare held 26 v d ps) :
    ∃ a b c d : Int, v = .agg #[.int .u64 a, .int .u64 b, .int .u64 c, .int .u64 d] ∧ Word a ∧ Word b ∧ Word c ∧ Word d := by
  obtain ⟨cs, rfl, hs⟩ := okWide_struct Tryd.underlying26 hval
  obtain ⟨fuel, hf⟩ := hd
  obtain ⟨a, b, c, d, e, wa, wb, wc, wd⟩ := open_rng_cells (cs := cs.toList) (by simpa [Value.cells] using hf)
  exact ⟨a, b, c, d, by rw [show cs = #[.int .u64 a, .int .u64 b, .int .u64 c, .int .u64 d] by apply Array.toList_inj.1; simpa using e], wa, wb, wc, wd⟩
end
end Go.Proofs.YtaafflmkfdicdaaDoor
