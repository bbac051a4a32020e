/- Steps' frame; by-name template. -/
import Derived.Test.YtomennaekjklbaaEFrame
import Derived.Test.YtomennaekjklbaaKChM
namespace Go.Proofs.Ytomennaekjklbaa
open Go.ChangeShapes Go.WideShapes Go.ChangeAt Go.RowKit
set_option maxRecDepth 100000
set_option linter.unusedVariables false
set_option linter.unusedSimpArgs false
section
variable {H : Type} {enc : TypeId × Value → H} {w : World} {base : Nat} {spare : Nat → Bool} {held : Bool}
theorem st_cellsOf : Try.prog.cellsOf 48 = 27 := by kernel_rfl
theorem open_st_cells {fuel : Nat} {cs : List Value} {x : DataW H × List MemPlace} (h : DataW.trod enc Try.prog w base spare held fuel 48 cs = some x) :
    ∃ s : SR, cs = encS s ∧ WB s.e.bx := by
  obtain ⟨xs, n, _, _, hl, hxl, hf⟩ := DataW.trod_struct Try.underlying48 h
  rw [st_cellsOf] at hl
  have h0 : DataW.trod enc Try.prog w base spare held n 3 ((cs.drop 0).take (Try.prog.cellsOf 3)) = xs[0]? := hf 0 _ rfl
  have h1 : DataW.trod enc Try.prog w base spare held n 3 ((cs.drop 1).take (Try.prog.cellsOf 3)) = xs[1]? := hf 1 _ rfl
  have h2 : DataW.trod enc Try.prog w base spare held n 32 ((cs.drop 2).take (Try.prog.cellsOf 32)) = xs[2]? := hf 2 _ rfl
  have hx0 : xs[0]? = some (xs[0]'(by rw [hxl]; decide)) := List.getElem?_eq_getElem _
  have hx1 : xs[1]? = some (xs[1]'(by rw [hxl]; decide)) := List.getElem?_eq_getElem _
  have hx2 : xs[2]? = some (xs[2]'(by rw [hxl]; decide)) := List.getElem?_eq_getElem _
  match cs, hl with
  | a :: b :: r, hl =>
    have hr : r.length = 25 := by simpa using hl
    rw [int_cells, hx0] at h0
    rw [int_cells, hx1] at h1
    rw [en_cellsOf, hx2] at h2
    have e0 : ((a :: b :: r).drop 0).take 1 = [a] := by simp
    have e1 : ((a :: b :: r).drop 1).take 1 = [b] := by simp
    have e2 : ((a :: b :: r).drop 2).take 25 = r := by simp [List.take_of_length_le, hr]
    rw [e0] at h0
    rw [e1] at h1
    rw [e2] at h2
    obtain ⟨k, e3, _, _⟩ := DataW.trod_int Try.underlying3 h0
    obtain ⟨i, e4, _, _⟩ := DataW.trod_int Try.underlying3 h1
    obtain ⟨e, e5, we, _⟩ := open_ent_cells h2
    simp only [List.cons.injEq, and_true] at e3 e4
    subst e3 e4 e5
    exact ⟨⟨k, i, e⟩, rfl, we⟩
theorem open_steps {r : Reach} {b0 : Nat} {v : Value} {d : DataW H} {pl : List MemPlace} (hval : Value.okWide Try.prog w r b0 46 v) (hd : DataW.Trod enc Try.prog w base spare held 46 v d pl) :
    ∃ (A : Option Addr) (n cap : Nat) (L : List SR), v = .slice A n cap ∧ Sl w 27 encS A n L ∧ (∀ e ∈ L, WB e.e.bx) ∧ (A = none → cap = 0) := by
  obtain ⟨a0, len0, cap0, rfl⟩ := okWide_slice Try.underlying46 hval
  obtain ⟨fuel, hf⟩ := hd
  obtain ⟨A, n, cap, L, h1, h2, h3, _, h4⟩ := open_sl 46 48 27 Try.underlying46 st_cellsOf (by omega) encS (fun e => WB e.e.bx) (fun fuel cs x h => open_st_cells h) (show DataW.trod enc Try.prog w base spare held fuel 46 [.slice a0 len0 cap0] = some (d, pl) by simpa [Value.cells] using hf)
  exact ⟨A, n, cap, L, h1, h2, h3, h4⟩
end
end Go.Proofs.Ytomennaekjklbaa

namespace Go.Proofs.Ytomennaekjklbaa
open Go.ChangeShapes Go.WideShapes Go.ChangeAt Go.RowKit
set_option linter.unusedVariables false

set_option maxRecDepth 100000 in
theorem cch_any_lifted (os : Os) (started : os.Started) (H : Type) (enc : TypeId × Value → H) :
    ReturnsInHanded {} Try.checked os 4 .any (Rows.classifyChangesSpec.pre6 enc Try.prog Try.f4 Rows.classifyChangesRow.domain false) (Rows.classifyChangesSpec.post enc Try.prog Try.f4 false true false false) := by
  refine returnsInHanded_of_change (C := Try.checked) own started (by kernel_rfl) Try.func4
    (ChangeSpec.witness6 (enc := enc) (C := Try.checked) false ⟨#[], #[.slice none 0 0, .slice none 0 0, .slice none 0 0], []⟩ 8 (by kernel_rfl) (by kernel_rfl) (by kernel_rfl) (by kernel_rfl)) ?_
  intro W base args ds gs before hval0 hW hcnd _
  have hval : ∀ (j : Nat) t v, Try.f4.params[j]? = some t → args[j]? = some v → Value.okWide Try.prog W .any base t v := hval0
  have hW' := hW
  obtain ⟨p, q, hA0, hV, rfl, hfz, hnd⟩ := hW
  have hA : DataW.TrodAll enc Try.prog W 0 (fun _ => true) true Try.f4.params.toList args.toList ds p := hA0
  rw [Try.params4] at hA hval
  obtain ⟨v0, v1, v2, d0, d1, d2, p0, p1, p2, rfl, rfl, rfl, h0, h1, h2⟩ := trodAll_three hA
  obtain ⟨rfl, rfl⟩ := trodVars_none hV
  have k0 := h0
  have lt0 : ∀ x ∈ p0, x.block < W.heap.size := by obtain ⟨m, hm⟩ := k0; exact DataW.trod_lt m _ _ _ hm
  obtain ⟨A0, n0, cc0, L0, rfl, hS0, hL0, hc0⟩ := open_ents (hval 0 22 v0 rfl rfl) h0
  have k1 := h1
  have lt1 : ∀ x ∈ p1, x.block < W.heap.size := by obtain ⟨m, hm⟩ := k1; exact DataW.trod_lt m _ _ _ hm
  obtain ⟨A1, n1, cc1, L1, rfl, hS1, hL1, hc1⟩ := open_steps (hval 1 46 v1 rfl rfl) h1
  have k2 := h2
  have lt2 : ∀ x ∈ p2, x.block < W.heap.size := by obtain ⟨m, hm⟩ := k2; exact DataW.trod_lt m _ _ _ hm
  obtain ⟨A2, n2, cc2, L2, rfl, hS2, hL2, hc2⟩ := open_pts (hval 2 33 v2 rfl rfl) h2
  clear hA0 hval0
  refine (cch_any A0 n0 cc0 L0 A1 n1 cc1 L1 A2 n2 cc2 L2 W hS0 hS1 hS2 (fun e h => (hL0 e h).1) hL1 hc0 hL2).mono fun e W' ⟨he, bel⟩ => ?_
  subst he
  exact ⟨_, rfl, _, _, _, [], _, [], hW', trodAll_mk1 (shut_bool Try.underlying4 _), (trodAll_mk3 (Below.trod laidOut (by kernel_rfl) (of_decide_eq_true (by kernel_rfl)) k0 bel lt0) (Below.trod laidOut (by kernel_rfl) (of_decide_eq_true (by kernel_rfl)) k1 bel lt1) (Below.trod laidOut (by kernel_rfl) (of_decide_eq_true (by kernel_rfl)) k2 bel lt2)), rfl, bel.frame _, fun h => by cases h⟩

theorem changes_holds : Rows.ClassifyChangesSaid :=
  OpenClaim.holds_of_wide 4 Try.f4 rfl rfl rfl rfl rfl rfl rfl ⟨rfl, rfl, rfl, rfl, rfl⟩ rfl rfl rfl rfl rfl (by kernel_rfl) Try.func4 (by kernel_rfl)
    (of_decide_eq_true (by kernel_rfl)) (by unfold Func.isWrapper; first | (rw [if_pos (by decide +kernel)]; kernel_rfl) | (rw [if_neg (by decide +kernel)]; exact ⟨rfl, rfl⟩))
    (fun os started H enc _ => cch_any_lifted os started H enc)
end Go.Proofs.Ytomennaekjklbaa
