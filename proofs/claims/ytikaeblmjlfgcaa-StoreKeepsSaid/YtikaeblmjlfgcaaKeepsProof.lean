/- For every list of puts and every list of lists of puts: StoreKeeps returns true, and leaves its arguments as they were. No condition. By-name template. -/
import Derived.Test.YtikaeblmjlfgcaaKeeps
import Derived.Test.YtikaeblmjlfgcaaPFrame
namespace Go.Proofs.Ytikaeblmjlfgcaa
open Go.ChangeShapes Go.WideShapes Go.ChangeAt Go.RowKit
set_option linter.unusedVariables false

set_option maxRecDepth 100000 in
theorem keeps_any_lifted (os : Os) (started : os.Started) (H : Type) (enc : TypeId × Value → H) :
    ReturnsInHanded {} Try.checked os 6 .any (Rows.storeKeepsSpec.pre6 enc Try.prog Try.f6 Rows.storeKeepsRow.domain false) (Rows.storeKeepsSpec.post enc Try.prog Try.f6 false true false false) := by
  refine returnsInHanded_of_change_sized (C := Try.checked) own started (by kernel_rfl) Try.func6
    (ChangeSpec.witness6 (enc := enc) (C := Try.checked) false ⟨#[], #[.slice none 0 0, .slice none 0 0], []⟩ 8 (by kernel_rfl) (by kernel_rfl) (by kernel_rfl) (by kernel_rfl)) ?_
  intro W base args ds gs before hval0 hW hcnd hsz _
  have hval : ∀ (j : Nat) t v, Try.f6.params[j]? = some t → args[j]? = some v → Value.okWide Try.prog W .any base t v := hval0
  have hW' := hW
  obtain ⟨p, q, hA0, hV, rfl, hfz, hnd⟩ := hW
  have hA : DataW.TrodAll enc Try.prog W 0 (fun _ => true) true Try.f6.params.toList args.toList ds p := hA0
  rw [Try.params6] at hA hval
  obtain ⟨v0, v1, d0, d1, p0, p1, rfl, rfl, rfl, h0, h1⟩ := trodAll_two hA
  obtain ⟨rfl, rfl⟩ := trodVars_none hV
  obtain ⟨a0, len0, cap0, rfl⟩ := okWide_slice Try.underlying24 (hval 0 24 v0 rfl rfl)
  have k0 := h0
  have lt0 : ∀ x ∈ p0, x.block < W.heap.size := by obtain ⟨m, hm⟩ := k0; exact DataW.trod_lt m _ _ _ hm
  obtain ⟨L0, rfl, hS0, hLn0⟩ : ∃ L : List Pt, L.length = len0 ∧ PutsAt W a0 L ∧ LenOf d0 len0 := by
    obtain ⟨fuel, hf⟩ := h0
    exact open_puts (by simpa [Value.cells] using hf)
  have hF0 : L0.length * 32 ≤ 140737488355328 := fit_puts hsz (j := 0) (d := d0) (by kernel_rfl) rfl hLn0
  obtain ⟨a1, len1, cap1, rfl⟩ := okWide_slice Try.underlying22 (hval 1 22 v1 rfl rfl)
  have k1 := h1
  have lt1 : ∀ x ∈ p1, x.block < W.heap.size := by obtain ⟨m, hm⟩ := k1; exact DataW.trod_lt m _ _ _ hm
  obtain ⟨L1, rfl, hS1, -, hLn1⟩ : ∃ X : List (List Pt), X.length = len1 ∧ RowsAt W 1 0 a1 X ∧ LenOf d1 len1 ∧ ∀ M ∈ X, ∃ elems spare d, d1 = .slice elems spare ∧ d ∈ elems ∧ LenOf d M.length := by
    obtain ⟨fuel, hf⟩ := h1
    exact open_rows (by simpa [Value.cells] using hf)
  have hF1 : Fits L1 := fit_rows hsz (j := 1) (d := d1) (by kernel_rfl) rfl hLn1
  clear hA0 hval0
  refine (keeps_any cap0 cap1 hS0 hF0 hS1 hF1).mono fun e W' ⟨he, bel⟩ => ?_
  subst he
  exact ⟨_, rfl, _, _, _, [], _, [], hW', trodAll_mk1 (shut_bool Try.underlying4 _), (trodAll_mk2 (Below.trod laidOut (by kernel_rfl) (of_decide_eq_true (by kernel_rfl)) k0 bel lt0) (Below.trod laidOut (by kernel_rfl) (of_decide_eq_true (by kernel_rfl)) k1 bel lt1)), rfl, bel.frame _, fun h => by cases h⟩

theorem keeps_holds : Rows.StoreKeepsSaid :=
  OpenClaim.holds_of_wide 6 Try.f6 rfl rfl rfl rfl rfl rfl rfl ⟨rfl, rfl, rfl, rfl, rfl⟩ rfl rfl rfl rfl rfl (by kernel_rfl) Try.func6 (by kernel_rfl)
    (of_decide_eq_true (by kernel_rfl)) (by unfold Func.isWrapper; rw [if_neg (of_decide_eq_false (by kernel_rfl))]; exact ⟨rfl, rfl⟩)
    (fun os started H enc _ => keeps_any_lifted os started H enc)
end Go.Proofs.Ytikaeblmjlfgcaa
