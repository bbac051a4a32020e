/- The frame of a law of a packet's parts; by-name template (gen_wpframe.py). -/
import Derived.Test.YtpmbdjdhgcjkfaaWBuilds
namespace Go.Proofs.Ytpmbdjdhgcjkfaa
open Go.ChangeShapes Go.WideShapes Go.ChangeAt Go.RowKit
set_option linter.unusedVariables false
set_option linter.unusedSimpArgs false
set_option maxRecDepth 100000

theorem word_of_wfP {x : Int} (h : (Lit.int .u64 x).wf = true) : 0 ≤ x ∧ x < 18446744073709551616 := by
  simp [Lit.wf, IntKind.min, IntKind.max, IntKind.signed, IntKind.bits] at h
  exact ⟨by omega, by omega⟩
theorem u32_of_wfP {x : Int} (h : (Lit.int .u32 x).wf = true) : 0 ≤ x ∧ x < 4294967296 := by
  simp [Lit.wf, IntKind.min, IntKind.max, IntKind.signed, IntKind.bits] at h
  exact ⟨by omega, by omega⟩
theorem ca_u64 : Try.prog.cellsOf 23 = 1 := by kernel_rfl
theorem ca_u32 : Try.prog.cellsOf 28 = 1 := by kernel_rfl
theorem ca_int : Try.prog.cellsOf 3 = 1 := by kernel_rfl
theorem ca_adr : Try.prog.cellsOf 25 = 2 := by kernel_rfl
theorem ca_byt : Try.prog.cellsOf 22 = 1 := by kernel_rfl
theorem ca_parts : Try.prog.cellsOf 59 = 14 := by kernel_rfl

section
variable {H : Type} {enc : TypeId × Value → H} {w : World} {base : Nat} {spare : Nat → Bool} {held : Bool}
theorem open_adr {fuel : Nat} {c0 c1 : Value} {x : DataW H × List MemPlace} (h : DataW.trod enc Try.prog w base spare held fuel 25 [c0, c1] = some x) :
    ∃ a b : Nat, c0 = .int .u64 (a : Nat) ∧ c1 = .int .u64 (b : Nat) ∧ a < 18446744073709551616 ∧ b < 18446744073709551616 := by
  obtain ⟨xs, n, _, _, hl, hxl, hf⟩ := DataW.trod_struct Try.underlying25 h
  have h0 : DataW.trod enc Try.prog w base spare held n 23 [c0] = xs[0]? := by simpa [ca_u64] using hf 0 _ rfl
  have h1 : DataW.trod enc Try.prog w base spare held n 23 [c1] = xs[1]? := by simpa [ca_u64] using hf 1 _ rfl
  have hx0 : xs[0]? = some (xs[0]'(by rw [hxl]; decide)) := List.getElem?_eq_getElem _
  have hx1 : xs[1]? = some (xs[1]'(by rw [hxl]; decide)) := List.getElem?_eq_getElem _
  obtain ⟨k, e0, _, w0⟩ := DataW.trod_int Try.underlying23 (h0.trans hx0)
  obtain ⟨m, e1, _, w1⟩ := DataW.trod_int Try.underlying23 (h1.trans hx1)
  simp only [List.cons.injEq, and_true] at e0 e1
  obtain ⟨k0, k1⟩ := word_of_wfP w0
  obtain ⟨m0, m1⟩ := word_of_wfP w1
  obtain ⟨k, rfl⟩ := Int.eq_ofNat_of_zero_le k0
  obtain ⟨m, rfl⟩ := Int.eq_ofNat_of_zero_le m0
  exact ⟨k, m, e0, e1, by omega, by omega⟩
theorem open_i64 {fuel : Nat} {c0 : Value} {x : DataW H × List MemPlace} (h : DataW.trod enc Try.prog w base spare held fuel 3 [c0] = some x) :
    ∃ a : Int, c0 = .int .i64 a ∧ -9223372036854775808 ≤ a ∧ a < 9223372036854775808 := by
  obtain ⟨k, e0, _, w0⟩ := DataW.trod_int Try.underlying3 h
  simp only [List.cons.injEq, and_true] at e0
  obtain ⟨k0, k1⟩ := i64_of_wf w0
  exact ⟨k, e0, k0, k1⟩
theorem open_n32 {fuel : Nat} {c0 : Value} {x : DataW H × List MemPlace} (h : DataW.trod enc Try.prog w base spare held fuel 28 [c0] = some x) :
    ∃ a : Nat, c0 = .int .u32 (a : Nat) ∧ a < 4294967296 := by
  obtain ⟨k, e0, _, w0⟩ := DataW.trod_int Try.underlying28 h
  simp only [List.cons.injEq, and_true] at e0
  obtain ⟨k0, k1⟩ := u32_of_wfP w0
  obtain ⟨k, rfl⟩ := Int.eq_ofNat_of_zero_le k0
  exact ⟨k, e0, by omega⟩
theorem open_sl {fuel : Nat} {c0 : Value} {x : DataW H × List MemPlace} (h : DataW.trod enc Try.prog w base spare held fuel 22 [c0] = some x) :
    ∃ (A : Option Addr) (n c : Nat) (l : List UInt8), c0 = .slice A n c ∧ BytA w A n c l := by
  rcases open_ints Try.underlying22 Try.underlying5 byte_cells h with ⟨hcs, _⟩ | ⟨p, len, cap, zs, hcs, _⟩
  · simp only [List.cons.injEq, and_true] at hcs
    subst hcs
    obtain ⟨l, hl⟩ := open_bytesA h
    exact ⟨none, 0, 0, l, rfl, hl⟩
  · simp only [List.cons.injEq, and_true] at hcs
    subst hcs
    obtain ⟨l, hl⟩ := open_bytesA h
    exact ⟨some p, len, cap, l, rfl, hl⟩
theorem open_parts_cells {fuel : Nat} {cs : List Value} {x : DataW H × List MemPlace} (h : DataW.trod enc Try.prog w base spare held fuel 59 cs = some x) :
    ∃ y : PW, cs = (pcells y).toList ∧ y.Ok w := by
  obtain ⟨xs, n, _, _, hl, hxl, hf⟩ := DataW.trod_struct Try.underlying59 h
  rw [ca_parts] at hl
  match cs, hl with
  | [c0, c1, c2, c3, c4, c5, c6, c7, c8, c9, c10, c11, c12, c13], _ =>
    have h0 : DataW.trod enc Try.prog w base spare held n 25 [c0, c1] = xs[0]? := by simpa [ca_u64, ca_u32, ca_int, ca_adr, ca_byt] using hf 0 _ rfl
    have hx0 : xs[0]? = some (xs[0]'(by rw [hxl]; decide)) := List.getElem?_eq_getElem _
    have h1 : DataW.trod enc Try.prog w base spare held n 25 [c2, c3] = xs[1]? := by simpa [ca_u64, ca_u32, ca_int, ca_adr, ca_byt] using hf 1 _ rfl
    have hx1 : xs[1]? = some (xs[1]'(by rw [hxl]; decide)) := List.getElem?_eq_getElem _
    have h2 : DataW.trod enc Try.prog w base spare held n 3 [c4] = xs[2]? := by simpa [ca_u64, ca_u32, ca_int, ca_adr, ca_byt] using hf 2 _ rfl
    have hx2 : xs[2]? = some (xs[2]'(by rw [hxl]; decide)) := List.getElem?_eq_getElem _
    have h3 : DataW.trod enc Try.prog w base spare held n 3 [c5] = xs[3]? := by simpa [ca_u64, ca_u32, ca_int, ca_adr, ca_byt] using hf 3 _ rfl
    have hx3 : xs[3]? = some (xs[3]'(by rw [hxl]; decide)) := List.getElem?_eq_getElem _
    have h4 : DataW.trod enc Try.prog w base spare held n 22 [c6] = xs[4]? := by simpa [ca_u64, ca_u32, ca_int, ca_adr, ca_byt] using hf 4 _ rfl
    have hx4 : xs[4]? = some (xs[4]'(by rw [hxl]; decide)) := List.getElem?_eq_getElem _
    have h5 : DataW.trod enc Try.prog w base spare held n 22 [c7] = xs[5]? := by simpa [ca_u64, ca_u32, ca_int, ca_adr, ca_byt] using hf 5 _ rfl
    have hx5 : xs[5]? = some (xs[5]'(by rw [hxl]; decide)) := List.getElem?_eq_getElem _
    have h6 : DataW.trod enc Try.prog w base spare held n 3 [c8] = xs[6]? := by simpa [ca_u64, ca_u32, ca_int, ca_adr, ca_byt] using hf 6 _ rfl
    have hx6 : xs[6]? = some (xs[6]'(by rw [hxl]; decide)) := List.getElem?_eq_getElem _
    have h7 : DataW.trod enc Try.prog w base spare held n 3 [c9] = xs[7]? := by simpa [ca_u64, ca_u32, ca_int, ca_adr, ca_byt] using hf 7 _ rfl
    have hx7 : xs[7]? = some (xs[7]'(by rw [hxl]; decide)) := List.getElem?_eq_getElem _
    have h8 : DataW.trod enc Try.prog w base spare held n 28 [c10] = xs[8]? := by simpa [ca_u64, ca_u32, ca_int, ca_adr, ca_byt] using hf 8 _ rfl
    have hx8 : xs[8]? = some (xs[8]'(by rw [hxl]; decide)) := List.getElem?_eq_getElem _
    have h9 : DataW.trod enc Try.prog w base spare held n 28 [c11] = xs[9]? := by simpa [ca_u64, ca_u32, ca_int, ca_adr, ca_byt] using hf 9 _ rfl
    have hx9 : xs[9]? = some (xs[9]'(by rw [hxl]; decide)) := List.getElem?_eq_getElem _
    have h10 : DataW.trod enc Try.prog w base spare held n 3 [c12] = xs[10]? := by simpa [ca_u64, ca_u32, ca_int, ca_adr, ca_byt] using hf 10 _ rfl
    have hx10 : xs[10]? = some (xs[10]'(by rw [hxl]; decide)) := List.getElem?_eq_getElem _
    have h11 : DataW.trod enc Try.prog w base spare held n 3 [c13] = xs[11]? := by simpa [ca_u64, ca_u32, ca_int, ca_adr, ca_byt] using hf 11 _ rfl
    have hx11 : xs[11]? = some (xs[11]'(by rw [hxl]; decide)) := List.getElem?_eq_getElem _
    obtain ⟨sh, sl, rfl, rfl, g1, g2⟩ := open_adr (h0.trans hx0)
    obtain ⟨dh, dl, rfl, rfl, g3, g4⟩ := open_adr (h1.trans hx1)
    obtain ⟨p, rfl, _⟩ := open_i64 (h2.trans hx2)
    obtain ⟨ttl, rfl, _⟩ := open_i64 (h3.trans hx3)
    obtain ⟨A, na, ca, l, rfl, hb⟩ := open_sl (h4.trans hx4)
    obtain ⟨A2, na2, ca2, l2, rfl, hd⟩ := open_sl (h5.trans hx5)
    obtain ⟨sp, rfl, hsp⟩ := open_i64 (h6.trans hx6)
    obtain ⟨dp, rfl, hdp⟩ := open_i64 (h7.trans hx7)
    obtain ⟨sq, rfl, hsq⟩ := open_n32 (h8.trans hx8)
    obtain ⟨ak, rfl, hak⟩ := open_n32 (h9.trans hx9)
    obtain ⟨fl, rfl, _⟩ := open_i64 (h10.trans hx10)
    obtain ⟨wn, rfl, hwn⟩ := open_i64 (h11.trans hx11)
    exact ⟨⟨sh, sl, dh, dl, p, ttl, A, na, ca, l, A2, na2, ca2, l2, sp, dp, sq, ak, fl, wn⟩, rfl, ⟨g1, g2, g3, g4, hb, hd, hsp, hdp, hwn, hsq, hak⟩⟩
theorem open_parts {r : Reach} {b0 : Nat} {v : Value} {d : DataW H} {ps : List MemPlace} (hval : Value.okWide Try.prog w r b0 59 v) (hd : DataW.Trod enc Try.prog w base spare held 59 v d ps) :
    ∃ y : PW, v = .agg (pcells y) ∧ y.Ok w := by
  obtain ⟨cs, rfl, hs⟩ := okWide_struct Try.underlying59 hval
  obtain ⟨fuel, hf⟩ := hd
  obtain ⟨y, e, hy⟩ := open_parts_cells (cs := cs.toList) (by simpa [Value.cells] using hf)
  exact ⟨y, by rw [show cs = pcells y from Array.toList_inj.1 e], hy⟩
end
end Go.Proofs.Ytpmbdjdhgcjkfaa
