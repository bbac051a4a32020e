/- A tree's Find, Len; the law's first; by-name template (gen_kfirst.py). -/
import Derived.Test.YthjhioffgbnlaaaKFind
import Derived.Test.YthjhioffgbnlaaaKBuild
namespace Go.Proofs.Ythjhioffgbnlaaa
open Go.RowKit Go.Lib Go.Sort
set_option linter.unusedVariables false
set_option linter.unusedSimpArgs false

set_option maxRecDepth 100000 in
set_option maxHeartbeats 4000000 in
theorem first_any (p : Nat → P2) (A : Option Addr) (n c : Nat) (l : List EN) (hn : n ≤ 4096) (w : World) (hS : Sl w 25 enc25 A n l) : Calls Try.prog 18 #[.slice A n c, .agg (ptc p)] w fun e w' => e = .returned (.int .i64 (leafF l p).1) ∧ Below w.heap.size w w' := by
  obtain ⟨M, hM⟩ : ∃ M : Ending → World → Prop, M = fun e w' => e = .returned (.int .i64 (leafF l p).1) ∧ Below w.heap.size w w' := ⟨_, rfl⟩
  rw [← hM]
  have HM := Lib.hid hM; clear hM
  have HL := Lib.hid hS.len
  have iC := inf38 p
  have cr := fun (x : EN) (W : World) => rhasPoint_any x.bx p W
  obtain ⟨C, hC⟩ : ∃ C, C = ptc p := ⟨_, rfl⟩
  simp only [← hC] at cr
  rw [← hC] at iC ⊢
  have iC := Lib.hid iC
  clear hC
  have hP := heap_alloc_new w (.cells C 56)
  have b0 := Below.al (Below.refl w.heap.size w) (.cells C 56)
  have hS0 := hS.keep b0
  go_enter Try.func18, Try.ntmps18
  go_upto_region 1 with fail
  obtain ⟨w0, hw0⟩ : ∃ w0, w0 = w.alloc (.cells C 56) := ⟨_, rfl⟩
  rw [← hw0] at hP b0 hS0 ⊢
  clear hw0 hS
  go_wp2_with fail
  go_loopw [5] (fun v5 wr => ∃ i : Nat, v5 = .int .i64 i ∧ i ≤ n ∧ Hid (∀ j x, j < i → l[j]? = some x → hpB x.bx p = false) ∧ Below w0.heap.size w0 wr) (fun v5 _ => n - (intOf v5).toNat)
  case atStart => exact ⟨0, rfl, by omega, Lib.hid (fun j x h => absurd h (Nat.not_lt_zero _)), Below.refl _ _⟩
  case round =>
    obtain ⟨i, rfl, hi, HA, bw⟩ := hrel
    by_cases hlt : i < n
    · have hml : i < l.length := by rw [HL.out]; exact hlt
      obtain ⟨x, hx⟩ : ∃ x, l[i]? = some x := ⟨_, List.getElem?_eq_getElem hml⟩
      obtain ⟨b', off, hA1, _, hrow⟩ := hS0.row (by omega)
      have hcell := en_cells hrow hx
      have hru := hrow i x hx 24 _ rfl
      have cx := cr x
      have iE := inf29 x.bx
      obtain ⟨H, hH⟩ : ∃ H, H = hpB x.bx p := ⟨_, rfl⟩
      simp only [← hH] at cx
      generalize bxc x.bx = E at *
      have iE := Lib.hid iE
      have HH := Lib.hid hH; clear hH
      have HX := Lib.hid hx; clear hx
      have e0 : ∀ j v, E.toList[j]? = some v → wr.cell? ((⟨b', off + i * 25, none⟩ : Addr).add j) = some v := fun j v hj => keepc bw (hcell j v hj)
      have e1 := keepc bw hru
      have hPw := blkB bw hP
      subst hA1
      have hlti : (i : Int) < (n : Int) := by omega
      have hdn : decide (i < n) = true := by simp [hlt]
      clear hrow hcell hru
      have e0 := Lib.hid e0
      go_wp2_with fail
      have q := fun d os => Calls.regrown_of (cx (grow (redrawn wr d) os))
      refine wp_region_quiet_below (by kernel_rfl) (by kernel_rfl) ?_
      repeat (first | go_big_quiet_skip | (refine quiet_load_cells (by rfl) 30 (.tmp 15) rfl ⟨b', off + i * 25, none⟩ rfl E _ (rg_cells e0.out) Try.underlying30 rfl iE.out ?_; simp only [Act.put, List.setIfInBounds_toArray, List.set_cons_succ, List.set_cons_zero]) | (refine quiet_load_row (by rfl) 56 (.tmp 3) rfl w.heap.size rfl 56 C (0, 0) _ (rg_heap hPw) Try.underlying56 rfl iC.out ?_; simp only [Act.put, List.setIfInBounds_toArray, List.set_cons_succ, List.set_cons_zero]) | quiet_step (first | (go_at_call 27; with_reducible exact q _ _)))
      refine wpQuiet_nil ?_
      intro _ hw'
      obtain ⟨⟨dq, osq⟩, hw''⟩ := hw'
      subst hw''
      have hbq := below_regrown wr dq osq
      obtain ⟨wq, hwy⟩ : ∃ x, x = grow (redrawn wr dq) osq := ⟨_, rfl⟩
      rw [← hwy] at hbq ⊢
      clear hwy q cx cr
      cases H with
      | false =>
        go_wp2_with fail
        refine ⟨?_, by simp [intOf]; omega⟩
        have hn1 : Hid (∀ j x, j < i + 1 → l[j]? = some x → hpB x.bx p = false) := Lib.hid fun j y hj hy => by
          by_cases e : j = i
          · subst e; have := HX.out; rw [hy] at this; cases this; exact HH.out.symm
          · exact HA.out j y (by omega) hy
        first | exact ⟨i + 1, by simp, by omega, hn1, bel_via bw hbq⟩ | ((repeat apply Exists.intro); exact ⟨⟨i + 1, by simp, by omega, hn1, bel_via bw hbq⟩, rfl⟩)
      | true =>
        have hlf := leaf_hit HX.out HH.out.symm (fun j y hj hy => HA.out j y hj hy)
        have e2 := keepc hbq e1
        have FIN : M (.returned (.int .i64 x.ru)) wq := by rw [HM.out]; exact ⟨by rw [hlf], bel_via b0 (bel_via bw hbq)⟩
        have FIN := Lib.hid FIN
        clear hlf
        go_wp2_with fail
        first | exact FIN.out | (go_ret; exact FIN.out)
    · obtain rfl : i = n := by omega
      have hd0 : decide (i < i) = false := by simp
      have hdi : decide ((i : Int) < (i : Int)) = false := by simp
      have hlf : leafF l p = (-1, l.length) := leaf_miss (fun j x hx => HA.out j x (by rw [← HL.out]; exact (List.getElem?_eq_some_iff.1 hx).1) hx)
      have FIN : M (.returned (.int .i64 (-1))) wr := by rw [HM.out]; exact ⟨by rw [hlf], bel_via b0 bw⟩
      have FIN := Lib.hid FIN
      clear hlf
      go_wp2_with fail
      first | exact FIN.out | (go_ret; exact FIN.out)
theorem len_any (B : Nat) (A : Option Addr) (n c : Nat) (u : Value) (w : World) (hB : w.heap[B]? = some (.cells #[.slice A n c, u] 62 (0, 0))) : Calls Try.prog 10 #[.pointer (some ⟨B, 0, none⟩)] w fun e w' => e = .returned (.int .i64 n) ∧ w = w' := by
  obtain ⟨y0, y1, _, _⟩ := cells2 hB
  go_enter Try.func10, Try.ntmps10
  go_wp2
  go_ret
  exact ⟨rfl, rfl⟩
/-- A tree's Find. -/
def FindAt (p : Nat → P2) (w : World) (B : Nat) (t : TN) : Prop := ∀ W, Below w.heap.size w W → Calls Try.prog 17 #[.pointer (some ⟨B, 0, none⟩), .agg (ptc p)] W (FindPost W (findP p t))
set_option maxRecDepth 100000 in
set_option maxHeartbeats 4000000 in
theorem find_any (p : Nat → P2) (B : Nat) (l : List EN) (t : TN) (hbig : t.count ≤ 4096) (hl : ∀ l, l ∈ t.leafs → l.length ≤ 4096) (w : World) (hT : TreeAt w B l t) : Calls Try.prog 17 #[.pointer (some ⟨B, 0, none⟩), .agg (ptc p)] w (FindPost w (findP p t)) := by
  obtain ⟨A, c, ty, x, G, hB, _, _, hN⟩ := hT
  obtain ⟨M, hM⟩ : ∃ M, M = FindPost w (findP p t) := ⟨_, rfl⟩
  rw [← hM]
  have HM := Lib.hid hM; clear hM
  have nf := node_find p t hbig hl G w ty x hN
  unfold FindsAt FindPost at nf
  have iC := inf38 p
  obtain ⟨C, hC⟩ : ∃ C, C = ptc p := ⟨_, rfl⟩
  simp only [← hC] at nf
  rw [← hC] at iC ⊢
  have iC := Lib.hid iC
  clear hC hN hl
  have hP := heap_alloc_new w (.cells C 56)
  have b0 := Below.al (Below.refl w.heap.size w) (.cells C 56)
  have hB0 := blkB b0 hB
  have m1 := fun (w : World) (x : Value) (k : Nat) => hm_find1 k w x
  have m2 := fun (w : World) (x : Value) (k : Nat) => hm_find2 k w x
  have HFIN : ∀ W, Below w.heap.size w W → M (.returned (.tuple #[.int .i64 (findP p t).1, .int .i64 ((findP p t).2.1 : Nat), .int .i64 ((findP p t).2.2 : Nat)])) W := fun W hW => by rw [HM.out]; exact ⟨rfl, hW⟩
  have HFIN := Lib.hid HFIN
  go_enter Try.func17, Try.ntmps17
  go_upto_region 1 with fail
  obtain ⟨w0, hw0⟩ : ∃ w0, w0 = w.alloc (.cells C 56) := ⟨_, rfl⟩
  rw [← hw0] at hP b0 hB0 ⊢
  clear hw0 hB
  obtain ⟨y0, y1, _, _⟩ := cells2 hB0
  have k_y1 := cell_regrown y1
  cases t with
  | leaf l' =>
    obtain ⟨rfl, cc⟩ := nf
    generalize findP p (.leaf l') = R at *
    have q := fun d os => Calls.regrown_of (cc (grow (redrawn w0 d) os) (bel_via b0 (below_regrown w0 d os)))
    clear y0 y1
    refine wp_region_quiet_below (by kernel_rfl) (by kernel_rfl) ?_
    repeat (first | go_big_quiet_skip | (refine quiet_load_node (by rfl) (.tmp 9) rfl ⟨B, 1, none⟩ rfl _ (fun w' h => by obtain ⟨q, hq⟩ := h; rw [hq]; exact k_y1 q.d q.os) ?_; simp only [Act.put, List.setIfInBounds_toArray, List.set_cons_succ, List.set_cons_zero]) | (refine quiet_load_row (by rfl) 56 (.tmp 3) rfl w.heap.size rfl 56 C (0, 0) _ (rg_heap hP) Try.underlying56 rfl iC.out ?_; simp only [Act.put, List.setIfInBounds_toArray, List.set_cons_succ, List.set_cons_zero]) | quiet_step (first | (go_at_call 108; with_reducible exact q _ _)))
    refine wpQuiet_nil ?_
    intro _ hw'
    obtain ⟨⟨dq, osq⟩, hw''⟩ := hw'
    subst hw''
    have FIN := HFIN.out _ (bel_via b0 (below_regrown w0 dq osq))
    have FIN := Lib.hid FIN
    go_wp2_with fail
    first | exact FIN.out | (simp [bodyPost, results, Try.results17, go_sem]; exact FIN.out)
  | inner f a bx lo hi =>
    obtain ⟨rfl, cc⟩ := nf
    generalize findP p (.inner f a bx lo hi) = R at *
    have q := fun d os => Calls.regrown_of (cc (grow (redrawn w0 d) os) (bel_via b0 (below_regrown w0 d os)))
    clear y0 y1
    refine wp_region_quiet_below (by kernel_rfl) (by kernel_rfl) ?_
    repeat (first | go_big_quiet_skip | (refine quiet_load_node (by rfl) (.tmp 9) rfl ⟨B, 1, none⟩ rfl _ (fun w' h => by obtain ⟨q, hq⟩ := h; rw [hq]; exact k_y1 q.d q.os) ?_; simp only [Act.put, List.setIfInBounds_toArray, List.set_cons_succ, List.set_cons_zero]) | (refine quiet_load_row (by rfl) 56 (.tmp 3) rfl w.heap.size rfl 56 C (0, 0) _ (rg_heap hP) Try.underlying56 rfl iC.out ?_; simp only [Act.put, List.setIfInBounds_toArray, List.set_cons_succ, List.set_cons_zero]) | quiet_step (first | (go_at_call 112; with_reducible exact q _ _)))
    refine wpQuiet_nil ?_
    intro _ hw'
    obtain ⟨⟨dq, osq⟩, hw''⟩ := hw'
    subst hw''
    have FIN := HFIN.out _ (bel_via b0 (below_regrown w0 dq osq))
    have FIN := Lib.hid FIN
    go_wp2_with fail
    first | exact FIN.out | (simp [bodyPost, results, Try.results17, go_sem]; exact FIN.out)
end Go.Proofs.Ythjhioffgbnlaaa
