/- Where a body's ports stand, and what they are; by-name template (gen_wports.py). -/
import Derived.Test.YtpmbdjdhgcjkfaaWLeaf
import Derived.StillTailTactics
namespace Go.Proofs.Ytpmbdjdhgcjkfaa
open Go.RowKit Go.Sort
set_option linter.unusedVariables false
set_option linter.unusedSimpArgs false

theorem res_rowA {fn : Func} {p u : Tmp} {ty : TypeId} (h : fn.results = #[.cell p ty, .tmp u]) (tmps : Array Value) (W : World) (g : Nat) (t : TypeId) (cs : Array Value) (ln) (el) (hp : tmps.getD p undef = .pointer (some ⟨g, 0, none⟩)) (hg : W.heap[g]? = some (.cells cs t (0, 0)))
    (hu : Try.prog.underlying ty = some (.array ln el)) (hi : (Try.prog.info? ty).map (·.size) = some cs.size) :
    (results fn tmps).run Try.prog W = .ok (.tuple #[.agg cs, tmps.getD u undef]) W := by
  rw [results_cell_tmp h, hp]
  have e : (asAddr (.pointer (some ⟨g, 0, none⟩))).run Try.prog W = .ok ⟨g, 0, none⟩ W := rfl
  rw [e]
  simp only [Result.andThen]
  rw [run_loadVar_row W g t ty cs (0, 0) (.array ln el) hg hu rfl hi]
/-- Where in a body its ports stand; false: it has none. -/
def ppP (l : List UInt8) (v6 : Bool) (p : Int) : Int × Int × Bool :=
  if p = 6 then (0, 2, true) else if p = 17 then (0, 2, true) else if p = 1 then (if echoP v6 (byN l 0) then (4, 4, true) else (0, 0, false)) else if p = 58 then (if echoP v6 (byN l 0) then (4, 4, true) else (0, 0, false)) else (0, 0, false)

set_option maxHeartbeats 2000000 in
set_option maxRecDepth 100000 in
theorem ports_any (A : Option Addr) (n c : Nat) (l : List UInt8) (v6 : Bool) (p : Int) {w : World} (h : BytArg w A n c l) (h1 : p = 1 ∨ p = 58 → 0 < n) :
    Calls Try.prog 34 #[.slice A n c, .bool v6, .int .i64 p] w fun e w' => e = .returned (.tuple #[.agg #[.int .i64 (ppP l v6 p).1, .int .i64 (ppP l v6 p).2.1], .bool (ppP l v6 p).2.2]) ∧ Below w.heap.size w w' := by
  obtain ⟨hn, hc, hcm, hs⟩ := h
  unfold maxLen at hcm
  unfold ppP
  by_cases h6 : p = 6
  · subst h6
    rw [if_pos rfl]
    clear hs hn h1
    go_enter Try.func34, Try.ntmps34
    go_wp2_with (with_reducible refine stop_op (o := ⟨some 10, _, _, _, _, _⟩) ?_)
    obtain ⟨w1, hw1⟩ : ∃ v, v = w.alloc (.cells #[.int .i64 0, .int .i64 0] 76) := ⟨_, rfl⟩
    have hR : w1.heap[w.heap.size]? = some (.cells #[.int .i64 0, .int .i64 0] 76 (0, 0)) := by rw [hw1]; exact al_neww rfl _
    have bw1 : Below w.heap.size w w1 := by rw [hw1]; exact Below.al (Below.refl _ _) _
    rw [← hw1]
    clear hw1
    obtain ⟨r0, r1, q0, q1⟩ := cells2 hR
    refine Lib.hid ?_
    go_wp2
    refine bodyPost_ret_by (res_rowA Try.results34 _ _ w.heap.size 76 #[.int .i64 0, .int .i64 2] _ _ rfl (heap_set2w hR (.int .i64 0) (.int .i64 2)) Try.underlying76 (by kernel_rfl)) rfl ⟨rfl, ?_⟩
    exact below_set (below_set bw1 (Nat.le_refl _) 0 _) (Nat.le_refl _) 1 _
  rw [if_neg h6]
  have b6 : (p == 6) = false := by simp [h6]
  by_cases h17 : p = 17
  · subst h17
    rw [if_pos rfl]
    clear hs hn h1
    go_enter Try.func34, Try.ntmps34
    go_wp2_with (with_reducible refine stop_op (o := ⟨some 10, _, _, _, _, _⟩) ?_)
    obtain ⟨w1, hw1⟩ : ∃ v, v = w.alloc (.cells #[.int .i64 0, .int .i64 0] 76) := ⟨_, rfl⟩
    have hR : w1.heap[w.heap.size]? = some (.cells #[.int .i64 0, .int .i64 0] 76 (0, 0)) := by rw [hw1]; exact al_neww rfl _
    have bw1 : Below w.heap.size w w1 := by rw [hw1]; exact Below.al (Below.refl _ _) _
    rw [← hw1]
    clear hw1
    obtain ⟨r0, r1, q0, q1⟩ := cells2 hR
    refine Lib.hid ?_
    go_wp2
    refine bodyPost_ret_by (res_rowA Try.results34 _ _ w.heap.size 76 #[.int .i64 0, .int .i64 2] _ _ rfl (heap_set2w hR (.int .i64 0) (.int .i64 2)) Try.underlying76 (by kernel_rfl)) rfl ⟨rfl, ?_⟩
    exact below_set (below_set bw1 (Nat.le_refl _) 0 _) (Nat.le_refl _) 1 _
  rw [if_neg h17]
  have b17 : (p == 17) = false := by simp [h17]
  by_cases hp1 : p = 1
  · subst hp1
    rw [if_pos rfl]
    obtain ⟨g, o, rfl, hb⟩ := hs (h1 (by simp))
    have c0 := by_cell hb hn 0 (h1 (by simp))
    rw [Nat.add_zero] at c0
    have hX := byN_lt l 0
    have ce := echo_any v6 (byN l 0 : Nat)
    generalize byN l 0 = X at *
    have wX : IntKind.i64.wrap (X : Int) = (X : Int) := by rw [IntKind.wrap_i64]; omega
    have Xi : (X : Int) < 256 := by omega
    have n0 : (0 : Int) < (n : Int) := by have := h1 (by simp); omega
    have n1 : 0 < n := h1 (by simp)
    clear hb hs hn h1
    by_cases hx : echoP v6 (X : Int) = true
    · rw [hx] at ce ⊢
      simp only [if_true]
      go_enter Try.func34, Try.ntmps34
      go_wp2_with (with_reducible refine stop_op (o := ⟨some 10, _, _, _, _, _⟩) ?_)
      obtain ⟨w1, hw1⟩ : ∃ v, v = w.alloc (.cells #[.int .i64 0, .int .i64 0] 76) := ⟨_, rfl⟩
      have hR : w1.heap[w.heap.size]? = some (.cells #[.int .i64 0, .int .i64 0] 76 (0, 0)) := by rw [hw1]; exact al_neww rfl _
      have bw1 : Below w.heap.size w w1 := by rw [hw1]; exact Below.al (Below.refl _ _) _
      rw [← hw1]
      clear hw1
      obtain ⟨r0, r1, q0, q1⟩ := cells2 hR
      have c1 := keepc bw1 c0
      refine Lib.hid ?_
      go_wp2_with (go_at_call 65; refine (ce _).mono ?_; rintro e w' ⟨rfl, rfl⟩)
      refine bodyPost_ret_by (res_rowA Try.results34 _ _ w.heap.size 76 #[.int .i64 4, .int .i64 4] _ _ rfl (heap_set2w hR (.int .i64 4) (.int .i64 4)) Try.underlying76 (by kernel_rfl)) rfl ⟨rfl, ?_⟩
      exact below_set (below_set bw1 (Nat.le_refl _) 0 _) (Nat.le_refl _) 1 _
    · have hx := eq_false_of_ne_true hx
      rw [hx] at ce ⊢
      simp only [Bool.false_eq_true, if_false]
      go_enter Try.func34, Try.ntmps34
      go_wp2_with (with_reducible refine stop_op (o := ⟨some 10, _, _, _, _, _⟩) ?_)
      obtain ⟨w1, hw1⟩ : ∃ v, v = w.alloc (.cells #[.int .i64 0, .int .i64 0] 76) := ⟨_, rfl⟩
      have hR : w1.heap[w.heap.size]? = some (.cells #[.int .i64 0, .int .i64 0] 76 (0, 0)) := by rw [hw1]; exact al_neww rfl _
      have bw1 : Below w.heap.size w w1 := by rw [hw1]; exact Below.al (Below.refl _ _) _
      rw [← hw1]
      clear hw1
      obtain ⟨r0, r1, q0, q1⟩ := cells2 hR
      have c1 := keepc bw1 c0
      refine Lib.hid ?_
      go_wp2_with (go_at_call 65; refine (ce _).mono ?_; rintro e w' ⟨rfl, rfl⟩)
      refine bodyPost_ret_by (res_rowA Try.results34 _ _ w.heap.size 76 #[.int .i64 0, .int .i64 0] _ _ rfl (heap_set2w hR (.int .i64 0) (.int .i64 0)) Try.underlying76 (by kernel_rfl)) rfl ⟨rfl, ?_⟩
      exact below_set (below_set bw1 (Nat.le_refl _) 0 _) (Nat.le_refl _) 1 _
  rw [if_neg hp1]
  have b1 : (p == 1) = false := by simp [hp1]
  by_cases hp58 : p = 58
  · subst hp58
    rw [if_pos rfl]
    obtain ⟨g, o, rfl, hb⟩ := hs (h1 (by simp))
    have c0 := by_cell hb hn 0 (h1 (by simp))
    rw [Nat.add_zero] at c0
    have hX := byN_lt l 0
    have ce := echo_any v6 (byN l 0 : Nat)
    generalize byN l 0 = X at *
    have wX : IntKind.i64.wrap (X : Int) = (X : Int) := by rw [IntKind.wrap_i64]; omega
    have Xi : (X : Int) < 256 := by omega
    have n0 : (0 : Int) < (n : Int) := by have := h1 (by simp); omega
    have n1 : 0 < n := h1 (by simp)
    clear hb hs hn h1
    by_cases hx : echoP v6 (X : Int) = true
    · rw [hx] at ce ⊢
      simp only [if_true]
      go_enter Try.func34, Try.ntmps34
      go_wp2_with (with_reducible refine stop_op (o := ⟨some 10, _, _, _, _, _⟩) ?_)
      obtain ⟨w1, hw1⟩ : ∃ v, v = w.alloc (.cells #[.int .i64 0, .int .i64 0] 76) := ⟨_, rfl⟩
      have hR : w1.heap[w.heap.size]? = some (.cells #[.int .i64 0, .int .i64 0] 76 (0, 0)) := by rw [hw1]; exact al_neww rfl _
      have bw1 : Below w.heap.size w w1 := by rw [hw1]; exact Below.al (Below.refl _ _) _
      rw [← hw1]
      clear hw1
      obtain ⟨r0, r1, q0, q1⟩ := cells2 hR
      have c1 := keepc bw1 c0
      refine Lib.hid ?_
      go_wp2_with (go_at_call 65; refine (ce _).mono ?_; rintro e w' ⟨rfl, rfl⟩)
      refine bodyPost_ret_by (res_rowA Try.results34 _ _ w.heap.size 76 #[.int .i64 4, .int .i64 4] _ _ rfl (heap_set2w hR (.int .i64 4) (.int .i64 4)) Try.underlying76 (by kernel_rfl)) rfl ⟨rfl, ?_⟩
      exact below_set (below_set bw1 (Nat.le_refl _) 0 _) (Nat.le_refl _) 1 _
    · have hx := eq_false_of_ne_true hx
      rw [hx] at ce ⊢
      simp only [Bool.false_eq_true, if_false]
      go_enter Try.func34, Try.ntmps34
      go_wp2_with (with_reducible refine stop_op (o := ⟨some 10, _, _, _, _, _⟩) ?_)
      obtain ⟨w1, hw1⟩ : ∃ v, v = w.alloc (.cells #[.int .i64 0, .int .i64 0] 76) := ⟨_, rfl⟩
      have hR : w1.heap[w.heap.size]? = some (.cells #[.int .i64 0, .int .i64 0] 76 (0, 0)) := by rw [hw1]; exact al_neww rfl _
      have bw1 : Below w.heap.size w w1 := by rw [hw1]; exact Below.al (Below.refl _ _) _
      rw [← hw1]
      clear hw1
      obtain ⟨r0, r1, q0, q1⟩ := cells2 hR
      have c1 := keepc bw1 c0
      refine Lib.hid ?_
      go_wp2_with (go_at_call 65; refine (ce _).mono ?_; rintro e w' ⟨rfl, rfl⟩)
      refine bodyPost_ret_by (res_rowA Try.results34 _ _ w.heap.size 76 #[.int .i64 0, .int .i64 0] _ _ rfl (heap_set2w hR (.int .i64 0) (.int .i64 0)) Try.underlying76 (by kernel_rfl)) rfl ⟨rfl, ?_⟩
      exact below_set (below_set bw1 (Nat.le_refl _) 0 _) (Nat.le_refl _) 1 _
  rw [if_neg hp58]
  have b58 : (p == 58) = false := by simp [hp58]
  clear hs hn h1
  go_enter Try.func34, Try.ntmps34
  go_wp2_with (with_reducible refine stop_op (o := ⟨some 10, _, _, _, _, _⟩) ?_)
  obtain ⟨w1, hw1⟩ : ∃ v, v = w.alloc (.cells #[.int .i64 0, .int .i64 0] 76) := ⟨_, rfl⟩
  have hR : w1.heap[w.heap.size]? = some (.cells #[.int .i64 0, .int .i64 0] 76 (0, 0)) := by rw [hw1]; exact al_neww rfl _
  have bw1 : Below w.heap.size w w1 := by rw [hw1]; exact Below.al (Below.refl _ _) _
  rw [← hw1]
  clear hw1
  obtain ⟨r0, r1, q0, q1⟩ := cells2 hR
  refine Lib.hid ?_
  go_wp2
  refine bodyPost_ret_by (res_rowA Try.results34 _ _ w.heap.size 76 #[.int .i64 0, .int .i64 0] _ _ rfl (heap_set2w hR (.int .i64 0) (.int .i64 0)) Try.underlying76 (by kernel_rfl)) rfl ⟨rfl, ?_⟩
  exact below_set (below_set bw1 (Nat.le_refl _) 0 _) (Nat.le_refl _) 1 _
end Go.Proofs.Ytpmbdjdhgcjkfaa
