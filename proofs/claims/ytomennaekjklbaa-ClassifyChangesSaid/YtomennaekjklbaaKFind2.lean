/- A tree's Find, Len; the law's first; by-name template (gen_kfirst.py). -/
import Derived.Test.YtomennaekjklbaaKFind
import Derived.Test.YtomennaekjklbaaKBuild
namespace Go.Proofs.Ytomennaekjklbaa
open Go.RowKit Go.Lib Go.Sort
set_option linter.unusedVariables false
set_option linter.unusedSimpArgs false

theorem len_any (B : Nat) (A : Option Addr) (n c : Nat) (u : Value) (w : World) (hB : w.heap[B]? = some (.cells #[.slice A n c, u] 53 (0, 0))) : Calls Try.prog 8 #[.pointer (some ⟨B, 0, none⟩)] w fun e w' => e = .returned (.int .i64 n) ∧ w = w' := by
  obtain ⟨y0, y1, _, _⟩ := cells2 hB
  go_enter Try.func8, Try.ntmps8
  go_wp2
  go_ret
  exact ⟨rfl, rfl⟩
/-- A tree's Find. -/
def FindAt (p : Nat → P2) (w : World) (B : Nat) (t : TN) : Prop := ∀ W, Below w.heap.size w W → Calls Try.prog 20 #[.pointer (some ⟨B, 0, none⟩), .agg (ptc p)] W (FindPost W (findP p t))
set_option maxRecDepth 100000 in
set_option maxHeartbeats 4000000 in
theorem find_any (p : Nat → P2) (B : Nat) (l : List EN) (t : TN) (hbig : t.count ≤ 4096) (hl : ∀ l, l ∈ t.leafs → l.length ≤ 4096) (w : World) (hT : TreeAt w B l t) : Calls Try.prog 20 #[.pointer (some ⟨B, 0, none⟩), .agg (ptc p)] w (FindPost w (findP p t)) := by
  obtain ⟨A, c, ty, x, G, hB, _, _, hN⟩ := hT
  obtain ⟨M, hM⟩ : ∃ M, M = FindPost w (findP p t) := ⟨_, rfl⟩
  rw [← hM]
  have HM := Lib.hid hM; clear hM
  have nf := node_find p t hbig hl G w ty x hN
  unfold FindsAt FindPost at nf
  have iC := inf38 p
  obtain ⟨C, hC⟩ : ∃ C, C = ptc p := ⟨_, rfl⟩
  simp only [← hC] at nf
  rw [← hC] at iC ⊢
  have iC := Lib.hid iC
  clear hC hN hl
  have hP := heap_alloc_new w (.cells C 68)
  have b0 := Below.al (Below.refl w.heap.size w) (.cells C 68)
  have hB0 := blkB b0 hB
  have m1 := fun (w : World) (x : Value) (k : Nat) => hm_find1 k w x
  have m2 := fun (w : World) (x : Value) (k : Nat) => hm_find2 k w x
  have HFIN : ∀ W, Below w.heap.size w W → M (.returned (.tuple #[.int .i64 (findP p t).1, .int .i64 ((findP p t).2.1 : Nat), .int .i64 ((findP p t).2.2 : Nat)])) W := fun W hW => by rw [HM.out]; exact ⟨rfl, hW⟩
  have HFIN := Lib.hid HFIN
  go_enter Try.func20, Try.ntmps20
  go_upto_region 1 with fail
  obtain ⟨w0, hw0⟩ : ∃ w0, w0 = w.alloc (.cells C 68) := ⟨_, rfl⟩
  rw [← hw0] at hP b0 hB0 ⊢
  clear hw0 hB
  obtain ⟨y0, y1, _, _⟩ := cells2 hB0
  have k_y1 := cell_regrown y1
  cases t with
  | leaf l' =>
    obtain ⟨rfl, cc⟩ := nf
    generalize findP p (.leaf l') = R at *
    have q := fun d os => Calls.regrown_of (cc (grow (redrawn w0 d) os) (bel_via b0 (below_regrown w0 d os)))
    clear y0 y1
    refine wp_region_quiet_below (by kernel_rfl) (by kernel_rfl) ?_
    repeat (first | go_big_quiet_skip | (refine quiet_load_node (by rfl) (.tmp 9) rfl ⟨B, 1, none⟩ rfl _ (fun w' h => by obtain ⟨q, hq⟩ := h; rw [hq]; exact k_y1 q.d q.os) ?_; simp only [Act.put, List.setIfInBounds_toArray, List.set_cons_succ, List.set_cons_zero]) | (refine quiet_load_row (by rfl) 68 (.tmp 3) rfl w.heap.size rfl 68 C (0, 0) _ (rg_heap hP) Try.underlying68 rfl iC.out ?_; simp only [Act.put, List.setIfInBounds_toArray, List.set_cons_succ, List.set_cons_zero]) | quiet_step (first | (go_at_call 105; with_reducible exact q _ _)))
    refine wpQuiet_nil ?_
    intro _ hw'
    obtain ⟨⟨dq, osq⟩, hw''⟩ := hw'
    subst hw''
    have FIN := HFIN.out _ (bel_via b0 (below_regrown w0 dq osq))
    have FIN := Lib.hid FIN
    go_wp2_with fail
    first | exact FIN.out | (simp [bodyPost, results, Try.results20, go_sem]; exact FIN.out)
  | inner f a bx lo hi =>
    obtain ⟨rfl, cc⟩ := nf
    generalize findP p (.inner f a bx lo hi) = R at *
    have q := fun d os => Calls.regrown_of (cc (grow (redrawn w0 d) os) (bel_via b0 (below_regrown w0 d os)))
    clear y0 y1
    refine wp_region_quiet_below (by kernel_rfl) (by kernel_rfl) ?_
    repeat (first | go_big_quiet_skip | (refine quiet_load_node (by rfl) (.tmp 9) rfl ⟨B, 1, none⟩ rfl _ (fun w' h => by obtain ⟨q, hq⟩ := h; rw [hq]; exact k_y1 q.d q.os) ?_; simp only [Act.put, List.setIfInBounds_toArray, List.set_cons_succ, List.set_cons_zero]) | (refine quiet_load_row (by rfl) 68 (.tmp 3) rfl w.heap.size rfl 68 C (0, 0) _ (rg_heap hP) Try.underlying68 rfl iC.out ?_; simp only [Act.put, List.setIfInBounds_toArray, List.set_cons_succ, List.set_cons_zero]) | quiet_step (first | (go_at_call 109; with_reducible exact q _ _)))
    refine wpQuiet_nil ?_
    intro _ hw'
    obtain ⟨⟨dq, osq⟩, hw''⟩ := hw'
    subst hw''
    have FIN := HFIN.out _ (bel_via b0 (below_regrown w0 dq osq))
    have FIN := Lib.hid FIN
    go_wp2_with fail
    first | exact FIN.out | (simp [bodyPost, results, Try.results20, go_sem]; exact FIN.out)
end Go.Proofs.Ytomennaekjklbaa
