/- IPv6 headers: the program's parse6; by-name template (gen_wp6.py). -/
import Derived.Test.YtpmbdjdhgcjkfaaWP4
import Derived.Laws.BitsAllLaws
namespace Go.Proofs.Ytpmbdjdhgcjkfaa
open Go.RowKit Go.Sort
set_option linter.unusedVariables false
set_option linter.unusedSimpArgs false

theorem and_mask8 (p : Nat) (h : p < 65536) : p &&& 18446744073709551608 = p / 8 * 8 := by
  have e1 : (18446744073709551608 : Nat) = (2 ^ 61 - 1) <<< 3 := by decide
  have e2 : p / 8 * 8 = (p >>> 3) <<< 3 := by rw [Nat.shiftLeft_eq, Nat.shiftRight_eq_div_pow]
  rw [e1, e2]
  refine Nat.eq_of_testBit_eq fun j => ?_
  rw [Nat.testBit_and, Nat.testBit_shiftLeft, Nat.testBit_shiftLeft, Nat.testBit_two_pow_sub_one, Nat.testBit_shiftRight]
  by_cases h3 : 3 ≤ j
  · by_cases h64 : j < 64
    · rw [show 3 + (j - 3) = j by omega]; simp [h3, show j - 3 < 61 by omega]
    · have : p.testBit j = false := Nat.testBit_lt_two_pow (Nat.lt_of_lt_of_le h (Nat.le_trans (by decide : 65536 ≤ 2 ^ 64) (Nat.pow_le_pow_right (by omega) (by omega))))
      rw [show 3 + (j - 3) = j by omega, this]; simp
  · simp [h3]
theorem andNot7 (p : Nat) (h : p < 65536) : bits .andNot .u64 (p : Int) 7 = ((p / 8 * 8 : Nat) : Int) := by
  rw [u64_andNot (p : Int) 7 (by omega) (by omega) (by omega) (by omega)]
  rw [← and_mask8 p h]; rfl
theorem hasP_two (a b : Int × Int) : hasP true [a, b] = !(is4I a.1 a.2 || is4I b.1 b.2) := by simp [hasP]
theorem set_v2 {w : World} {B : Nat} {x0 x1 x2 x3 x4 x5 x6 x7 x8 x9 x10 x11 x12 : Value} {t : TypeId} {fz : Nat × Nat} (h : w.heap[B]? = some (.cells #[x0, x1, x2, x3, x4, x5, x6, x7, x8, x9, x10, x11, x12] t fz)) (a b : Value) :
    ((w.setCell ⟨B, 1, none⟩ a).setCell ⟨B, 4, none⟩ b).heap[B]? = some (.cells #[x0, a, x2, x3, b, x5, x6, x7, x8, x9, x10, x11, x12] t fz) := by
  rw [heap_setw (heap_setw h 1 _) 4 _]
  kernel_rfl
theorem adrH_lt {l : List UInt8} (h : l.length = 16) : Word (adrH l : Nat) := by
  unfold adrH Word
  rw [if_neg (by omega)]
  have := numB_lt (l.take 8)
  rw [show (l.take 8).length = 8 by rw [List.length_take]; omega] at this
  omega
theorem adrL_lt {l : List UInt8} (h : l.length = 16) : Word (adrL l : Nat) := by
  unfold adrL Word
  rw [if_neg (by omega)]
  have := numB_lt ((l.drop 8).take 8)
  rw [show ((l.drop 8).take 8).length = 8 by rw [List.length_take, List.length_drop]; omega] at this
  omega

set_option maxHeartbeats 2000000 in
set_option maxRecDepth 100000 in
theorem p6_a (g o c n : Nat) (l : List UInt8) (hn : l.length = n) (hc : n ≤ c) (hcm : c ≤ 9223372036854775807) (h1 : n < 40) {w : World} (hb : Byt w g o l) :
    Calls Try.prog 75 #[.slice (some ⟨g, o, none⟩) n c] w fun e w' => e = .returned (.tuple #[.agg (vcells zvw), .int .i64 40]) ∧ Below w.heap.size w w' := by
  have hi : (n : Int) < 40 := by omega
  clear hb hn
  simp only [vcells, zvw]
  have cf := fam_any true
  simp only [famCells, if_true] at cf
  go_enter Try.func75, Try.ntmps75
  go_wp2_with (go_at_call 28; refine (cf _).mono ?_; rintro e w2 ⟨rfl, hb2⟩; refine Hid.out ?_)
  have bw2 : Below w.heap.size w w2 := bel_via (Below.al (Below.refl _ _) _) hb2
  have hR2 : w2.heap[w.heap.size]? = some (.cells #[.bool false, .int .i64 0, .int .i64 0, .int .i64 0, .int .i64 0, .int .u64 0, .int .u64 0, .int .u64 0, .int .u64 0, .bool false, .int .u32 0, .int .i64 0, .bool false] 40 (0, 0)) := by rw [hb2.block _ (by simp)]; exact al_neww rfl _
  have hz2 : w.heap.size < w2.heap.size := (Array.getElem?_eq_some_iff.1 hR2).1
  clear hb2 cf
  refine Lib.hid ?_
  go_wp2_with (with_reducible refine stop_op (o := ⟨some 13, _, _, _, _, _⟩) ?_)
  obtain ⟨w3, hw3⟩ : ∃ v, v = w2.alloc (.cells #[.bool true, .int .i64 40, .int .i64 7, .int .i64 6, .int .i64 8, .int .i64 16] 69) := ⟨_, rfl⟩
  have hF3 : w3.heap[w2.heap.size]? = some (.cells #[.bool true, .int .i64 40, .int .i64 7, .int .i64 6, .int .i64 8, .int .i64 16] 69 (0, 0)) := by rw [hw3]; exact al_neww rfl _
  have hR3 : w3.heap[w.heap.size]? = some (.cells #[.bool false, .int .i64 0, .int .i64 0, .int .i64 0, .int .i64 0, .int .u64 0, .int .u64 0, .int .u64 0, .int .u64 0, .bool false, .int .u32 0, .int .i64 0, .bool false] 40 (0, 0)) := by rw [hw3, al_oldw hz2]; exact hR2
  have bw3 : Below w.heap.size w w3 := by rw [hw3]; exact Below.al bw2 _
  obtain ⟨⟨f0, f1, f2, f3, f4, f5⟩, _⟩ := cells6 hF3
  obtain ⟨⟨r0, r1, r2, r3, r4, r5, r6, r7, r8, r9, r10, r11, r12⟩, q0, q1, q2, q3, q4, q5, q6, q7, q8, q9, q10, q11, q12⟩ := cells13 hR3
  rw [← hw3]
  clear hw3 hR2 bw2
  refine Lib.hid ?_
  go_wp2
  refine bodyPost_ret_by (res_row Try.results75 _ _ w.heap.size 40 #[.bool false, .int .i64 0, .int .i64 0, .int .i64 0, .int .i64 0, .int .u64 0, .int .u64 0, .int .u64 0, .int .u64 0, .bool false, .int .u32 0, .int .i64 0, .bool false] _ rfl (heap_set13w hR3 (.bool false) (.int .i64 0) (.int .i64 0) (.int .i64 0) (.int .i64 0) (.int .u64 0) (.int .u64 0) (.int .u64 0) (.int .u64 0) (.bool false) (.int .u32 0) (.int .i64 0) (.bool false)) Try.underlying40 (by kernel_rfl)) rfl ⟨rfl, ?_⟩
  exact below_set13 bw3 (by omega) _ _ _ _ _ _ _ _ _ _ _ _ _

set_option maxHeartbeats 2000000 in
set_option maxRecDepth 100000 in
theorem p6_b (g o c n : Nat) (l : List UInt8) (hn : l.length = n) (hc : n ≤ c) (hcm : c ≤ 9223372036854775807) (h1 : 40 ≤ n) (h2 : n < nbN l 4 2 + 40) {w : World} (hb : Byt w g o l) :
    Calls Try.prog 75 #[.slice (some ⟨g, o, none⟩) n c] w fun e w' => e = .returned (.tuple #[.agg (vcells zvw), .int .i64 40]) ∧ Below w.heap.size w w' := by
  have hi : ¬ (n : Int) < 40 := by omega
  have hi2 : decide ((n : Int) < 40) = false := by simp; omega
  have hi3 : decide (n < 40) = false := by simp; omega
  have s4 : ∀ W, (Instr.slice 22 (.slice (some ⟨g, o, none⟩) n c) (some (.int .i64 4)) (some (.int .i64 6)) none).run Try.prog W = .ok (.slice (some ⟨g, o + 4, none⟩) 2 (c - 4)) W := cut_lh g o n c 4 6 (by omega) (by omega) (by omega) hcm
  have n4 := nb_bel g o n c 4 2 l hn (by omega) (by omega) hb
  have cv := fun (W : World) (h : Below w.heap.size w W) => view_6 g o c n (nbN l 4 2 + 40) l hn (by omega) hc hcm (hb.below h)
  have HB := Lib.hid hb
  have HN := Lib.hid hn
  have hN := nb2_lt l 4
  have wx0 := adrH_lt (l := (l.drop 8).take 16) (by rw [List.length_take, List.length_drop]; omega)
  have wx1 := adrL_lt (l := (l.drop 8).take 16) (by rw [List.length_take, List.length_drop]; omega)
  have wy0 := adrH_lt (l := (l.drop 24).take 16) (by rw [List.length_take, List.length_drop]; omega)
  have wy1 := adrL_lt (l := (l.drop 24).take 16) (by rw [List.length_take, List.length_drop]; omega)
  simp only [vcells, view6] at cv
  have hQ := byN_lt l 6
  have hP := byN_lt l 7
  skip
  generalize nbN l 4 2 = N at *
  generalize byN l 6 = Q at *
  generalize byN l 7 = P at *
  generalize adrH ((l.drop 8).take 16) = X0 at *
  generalize adrL ((l.drop 8).take 16) = X1 at *
  generalize adrH ((l.drop 24).take 16) = Y0 at *
  generalize adrL ((l.drop 24).take 16) = Y1 at *
  clear hb hn
  obtain ⟨T, hT⟩ : ∃ T, T = N + 40 := ⟨_, rfl⟩
  rw [← hT] at cv h2
  have HT := Lib.hid hT
  have wN : IntKind.i64.wrap (N : Int) = (N : Int) := by rw [IntKind.wrap_i64]; omega
  have wT : IntKind.i64.wrap ((N : Int) + 40) = (T : Int) := by rw [IntKind.wrap_i64]; omega
  have hTb : T < 65577 := by omega
  have hTbi : (T : Int) < 65577 := by omega
  have hT40i : (40 : Int) ≤ (T : Int) := by omega
  clear hT
  have hTn : decide ((n : Int) < (T : Int)) = true := by simp; have := HT.out; omega
  have hTnn : decide (n < T) = true := by simp; have := HT.out; omega
  have hTni : (n : Int) < (T : Int) := by have := HT.out; omega
  clear h2
  simp only [vcells, zvw]
  have cf := fam_any true
  simp only [famCells, if_true] at cf
  go_enter Try.func75, Try.ntmps75
  go_wp2_with (go_at_call 28; refine (cf _).mono ?_; rintro e w2 ⟨rfl, hb2⟩; refine Hid.out ?_)
  have bw2 : Below w.heap.size w w2 := bel_via (Below.al (Below.refl _ _) _) hb2
  have hR2 : w2.heap[w.heap.size]? = some (.cells #[.bool false, .int .i64 0, .int .i64 0, .int .i64 0, .int .i64 0, .int .u64 0, .int .u64 0, .int .u64 0, .int .u64 0, .bool false, .int .u32 0, .int .i64 0, .bool false] 40 (0, 0)) := by rw [hb2.block _ (by simp)]; exact al_neww rfl _
  have hz2 : w.heap.size < w2.heap.size := (Array.getElem?_eq_some_iff.1 hR2).1
  clear hb2 cf
  refine Lib.hid ?_
  go_wp2_with (with_reducible refine stop_op (o := ⟨some 13, _, _, _, _, _⟩) ?_)
  obtain ⟨w3, hw3⟩ : ∃ v, v = w2.alloc (.cells #[.bool true, .int .i64 40, .int .i64 7, .int .i64 6, .int .i64 8, .int .i64 16] 69) := ⟨_, rfl⟩
  have hF3 : w3.heap[w2.heap.size]? = some (.cells #[.bool true, .int .i64 40, .int .i64 7, .int .i64 6, .int .i64 8, .int .i64 16] 69 (0, 0)) := by rw [hw3]; exact al_neww rfl _
  have hR3 : w3.heap[w.heap.size]? = some (.cells #[.bool false, .int .i64 0, .int .i64 0, .int .i64 0, .int .i64 0, .int .u64 0, .int .u64 0, .int .u64 0, .int .u64 0, .bool false, .int .u32 0, .int .i64 0, .bool false] 40 (0, 0)) := by rw [hw3, al_oldw hz2]; exact hR2
  have bw3 : Below w.heap.size w w3 := by rw [hw3]; exact Below.al bw2 _
  obtain ⟨⟨f0, f1, f2, f3, f4, f5⟩, _⟩ := cells6 hF3
  obtain ⟨⟨r0, r1, r2, r3, r4, r5, r6, r7, r8, r9, r10, r11, r12⟩, q0, q1, q2, q3, q4, q5, q6, q7, q8, q9, q10, q11, q12⟩ := cells13 hR3
  rw [← hw3]
  clear hw3 hR2 bw2
  refine Lib.hid ?_
  go_wp2_with fail
  have hz3 : w2.heap.size < w3.heap.size := (Array.getElem?_eq_some_iff.1 hF3).1
  have bq := fun d os => bw3.trans ((below_regrown w3 d os).mono bw3.size)
  have qa := fun d os => Calls.regrown_of (n4 (grow (redrawn w3 d) os) (bq d os))
  have k1 := cell_regrown f1
  refine wp_region_quiet_below (by kernel_rfl) (by kernel_rfl) ?_
  repeat (first | go_big_quiet_skip | quiet_step (first | (go_at_call 69; with_reducible exact qa _ _)))
  refine wpQuiet_nil ?_
  intro _ hw'
  obtain ⟨⟨dq, osq⟩, hw''⟩ := hw'
  subst hw''
  obtain ⟨w4, hw4⟩ : ∃ v, v = grow (redrawn w3 dq) osq := ⟨_, rfl⟩
  have b34 : Below w3.heap.size w3 w4 := by rw [hw4]; exact below_regrown _ _ _
  have bw4 : Below w.heap.size w w4 := bw3.trans (b34.mono bw3.size)
  have hF4 : w4.heap[w2.heap.size]? = some (.cells #[.bool true, .int .i64 40, .int .i64 7, .int .i64 6, .int .i64 8, .int .i64 16] 69 (0, 0)) := (b34.block _ hz3).trans hF3
  have hR4 : w4.heap[w.heap.size]? = some (.cells #[.bool false, .int .i64 0, .int .i64 0, .int .i64 0, .int .i64 0, .int .u64 0, .int .u64 0, .int .u64 0, .int .u64 0, .bool false, .int .u32 0, .int .i64 0, .bool false] 40 (0, 0)) := (b34.block _ (by omega)).trans hR3
  rw [← hw4]
  clear hw4 b34 bq qa n4 k1 wN wT r0 r1 r2 r3 r4 r5 r6 r7 r8 r9 r10 r11 r12 q0 q1 q2 q3 q4 q5 q6 q7 q8 q9 q10 q11 q12 f0 f1 f2 f3 f4 f5 hF3 hR3 bw3
  obtain ⟨⟨f0, f1, f2, f3, f4, f5⟩, _⟩ := cells6 hF4
  obtain ⟨⟨r0, r1, r2, r3, r4, r5, r6, r7, r8, r9, r10, r11, r12⟩, q0, q1, q2, q3, q4, q5, q6, q7, q8, q9, q10, q11, q12⟩ := cells13 hR4
  go_wp2
  refine bodyPost_ret_by (res_row Try.results75 _ _ w.heap.size 40 #[.bool false, .int .i64 0, .int .i64 0, .int .i64 0, .int .i64 0, .int .u64 0, .int .u64 0, .int .u64 0, .int .u64 0, .bool false, .int .u32 0, .int .i64 0, .bool false] _ rfl (heap_set13w hR4 (.bool false) (.int .i64 0) (.int .i64 0) (.int .i64 0) (.int .i64 0) (.int .u64 0) (.int .u64 0) (.int .u64 0) (.int .u64 0) (.bool false) (.int .u32 0) (.int .i64 0) (.bool false)) Try.underlying40 (by kernel_rfl)) rfl ⟨rfl, ?_⟩
  exact below_set13 bw4 (by omega) _ _ _ _ _ _ _ _ _ _ _ _ _

set_option maxHeartbeats 2000000 in
set_option maxRecDepth 100000 in
theorem p6_c (g o c n : Nat) (l : List UInt8) (hn : l.length = n) (hc : n ≤ c) (hcm : c ≤ 9223372036854775807) (h1 : 40 ≤ n) (h2 : nbN l 4 2 + 40 ≤ n) (h3 : (is4I (view6 l 0).srcH (view6 l 0).srcL || is4I (view6 l 0).dstH (view6 l 0).dstL) = true) {w : World} (hb : Byt w g o l) :
    Calls Try.prog 75 #[.slice (some ⟨g, o, none⟩) n c] w fun e w' => e = .returned (.tuple #[.agg (vcells zvw), .int .i64 42]) ∧ Below w.heap.size w w' := by
  have hi : ¬ (n : Int) < 40 := by omega
  have hi2 : decide ((n : Int) < 40) = false := by simp; omega
  have hi3 : decide (n < 40) = false := by simp; omega
  have s4 : ∀ W, (Instr.slice 22 (.slice (some ⟨g, o, none⟩) n c) (some (.int .i64 4)) (some (.int .i64 6)) none).run Try.prog W = .ok (.slice (some ⟨g, o + 4, none⟩) 2 (c - 4)) W := cut_lh g o n c 4 6 (by omega) (by omega) (by omega) hcm
  have n4 := nb_bel g o n c 4 2 l hn (by omega) (by omega) hb
  have cv := fun (W : World) (h : Below w.heap.size w W) => view_6 g o c n (nbN l 4 2 + 40) l hn (by omega) hc hcm (hb.below h)
  have HB := Lib.hid hb
  have HN := Lib.hid hn
  have hN := nb2_lt l 4
  have wx0 := adrH_lt (l := (l.drop 8).take 16) (by rw [List.length_take, List.length_drop]; omega)
  have wx1 := adrL_lt (l := (l.drop 8).take 16) (by rw [List.length_take, List.length_drop]; omega)
  have wy0 := adrH_lt (l := (l.drop 24).take 16) (by rw [List.length_take, List.length_drop]; omega)
  have wy1 := adrL_lt (l := (l.drop 24).take 16) (by rw [List.length_take, List.length_drop]; omega)
  simp only [vcells, view6] at cv
  have hQ := byN_lt l 6
  have hP := byN_lt l 7
  simp only [view6] at h3
  generalize nbN l 4 2 = N at *
  generalize byN l 6 = Q at *
  generalize byN l 7 = P at *
  generalize adrH ((l.drop 8).take 16) = X0 at *
  generalize adrL ((l.drop 8).take 16) = X1 at *
  generalize adrH ((l.drop 24).take 16) = Y0 at *
  generalize adrL ((l.drop 24).take 16) = Y1 at *
  clear hb hn
  obtain ⟨T, hT⟩ : ∃ T, T = N + 40 := ⟨_, rfl⟩
  rw [← hT] at cv h2
  have HT := Lib.hid hT
  have wN : IntKind.i64.wrap (N : Int) = (N : Int) := by rw [IntKind.wrap_i64]; omega
  have wT : IntKind.i64.wrap ((N : Int) + 40) = (T : Int) := by rw [IntKind.wrap_i64]; omega
  have hTb : T < 65577 := by omega
  have hTbi : (T : Int) < 65577 := by omega
  have hT40i : (40 : Int) ≤ (T : Int) := by omega
  clear hT
  have hTn : decide ((n : Int) < (T : Int)) = false := by simp; have := HT.out; omega
  have hTnn : decide (n < T) = false := by simp; have := HT.out; omega
  have hTni : ¬ (n : Int) < (T : Int) := by have := HT.out; omega
  clear h2
  simp only [vcells, zvw]
  have cf := fam_any true
  simp only [famCells, if_true] at cf
  go_enter Try.func75, Try.ntmps75
  go_wp2_with (go_at_call 28; refine (cf _).mono ?_; rintro e w2 ⟨rfl, hb2⟩; refine Hid.out ?_)
  have bw2 : Below w.heap.size w w2 := bel_via (Below.al (Below.refl _ _) _) hb2
  have hR2 : w2.heap[w.heap.size]? = some (.cells #[.bool false, .int .i64 0, .int .i64 0, .int .i64 0, .int .i64 0, .int .u64 0, .int .u64 0, .int .u64 0, .int .u64 0, .bool false, .int .u32 0, .int .i64 0, .bool false] 40 (0, 0)) := by rw [hb2.block _ (by simp)]; exact al_neww rfl _
  have hz2 : w.heap.size < w2.heap.size := (Array.getElem?_eq_some_iff.1 hR2).1
  clear hb2 cf
  refine Lib.hid ?_
  go_wp2_with (with_reducible refine stop_op (o := ⟨some 13, _, _, _, _, _⟩) ?_)
  obtain ⟨w3, hw3⟩ : ∃ v, v = w2.alloc (.cells #[.bool true, .int .i64 40, .int .i64 7, .int .i64 6, .int .i64 8, .int .i64 16] 69) := ⟨_, rfl⟩
  have hF3 : w3.heap[w2.heap.size]? = some (.cells #[.bool true, .int .i64 40, .int .i64 7, .int .i64 6, .int .i64 8, .int .i64 16] 69 (0, 0)) := by rw [hw3]; exact al_neww rfl _
  have hR3 : w3.heap[w.heap.size]? = some (.cells #[.bool false, .int .i64 0, .int .i64 0, .int .i64 0, .int .i64 0, .int .u64 0, .int .u64 0, .int .u64 0, .int .u64 0, .bool false, .int .u32 0, .int .i64 0, .bool false] 40 (0, 0)) := by rw [hw3, al_oldw hz2]; exact hR2
  have bw3 : Below w.heap.size w w3 := by rw [hw3]; exact Below.al bw2 _
  obtain ⟨⟨f0, f1, f2, f3, f4, f5⟩, _⟩ := cells6 hF3
  obtain ⟨⟨r0, r1, r2, r3, r4, r5, r6, r7, r8, r9, r10, r11, r12⟩, q0, q1, q2, q3, q4, q5, q6, q7, q8, q9, q10, q11, q12⟩ := cells13 hR3
  rw [← hw3]
  clear hw3 hR2 bw2
  refine Lib.hid ?_
  go_wp2_with fail
  have hz3 : w2.heap.size < w3.heap.size := (Array.getElem?_eq_some_iff.1 hF3).1
  have bq := fun d os => bw3.trans ((below_regrown w3 d os).mono bw3.size)
  have qa := fun d os => Calls.regrown_of (n4 (grow (redrawn w3 d) os) (bq d os))
  have k1 := cell_regrown f1
  refine wp_region_quiet_below (by kernel_rfl) (by kernel_rfl) ?_
  repeat (first | go_big_quiet_skip | quiet_step (first | (go_at_call 69; with_reducible exact qa _ _)))
  refine wpQuiet_nil ?_
  intro _ hw'
  obtain ⟨⟨dq, osq⟩, hw''⟩ := hw'
  subst hw''
  obtain ⟨w4, hw4⟩ : ∃ v, v = grow (redrawn w3 dq) osq := ⟨_, rfl⟩
  have b34 : Below w3.heap.size w3 w4 := by rw [hw4]; exact below_regrown _ _ _
  have bw4 : Below w.heap.size w w4 := bw3.trans (b34.mono bw3.size)
  have hF4 : w4.heap[w2.heap.size]? = some (.cells #[.bool true, .int .i64 40, .int .i64 7, .int .i64 6, .int .i64 8, .int .i64 16] 69 (0, 0)) := (b34.block _ hz3).trans hF3
  have hR4 : w4.heap[w.heap.size]? = some (.cells #[.bool false, .int .i64 0, .int .i64 0, .int .i64 0, .int .i64 0, .int .u64 0, .int .u64 0, .int .u64 0, .int .u64 0, .bool false, .int .u32 0, .int .i64 0, .bool false] 40 (0, 0)) := (b34.block _ (by omega)).trans hR3
  rw [← hw4]
  clear hw4 b34 bq qa n4 k1 wN wT r0 r1 r2 r3 r4 r5 r6 r7 r8 r9 r10 r11 r12 q0 q1 q2 q3 q4 q5 q6 q7 q8 q9 q10 q11 q12 f0 f1 f2 f3 f4 f5 hF3 hR3 bw3
  obtain ⟨⟨f0, f1, f2, f3, f4, f5⟩, _⟩ := cells6 hF4
  obtain ⟨⟨r0, r1, r2, r3, r4, r5, r6, r7, r8, r9, r10, r11, r12⟩, q0, q1, q2, q3, q4, q5, q6, q7, q8, q9, q10, q11, q12⟩ := cells13 hR4
  go_wp2_with (go_at_call 83; refine (cv _ bw4).mono ?_; rintro e w6 ⟨rfl, hb6w⟩; refine Hid.out ?_)
  have bw6 : Below w.heap.size w w6 := bw4.trans (hb6w.mono bw4.size)
  have hz4 : w2.heap.size < w4.heap.size := (Array.getElem?_eq_some_iff.1 hF4).1
  have hR6 : w6.heap[w.heap.size]? = some (.cells #[.bool false, .int .i64 0, .int .i64 0, .int .i64 0, .int .i64 0, .int .u64 0, .int .u64 0, .int .u64 0, .int .u64 0, .bool false, .int .u32 0, .int .i64 0, .bool false] 40 (0, 0)) := (hb6w.block _ (by omega)).trans hR4
  have hF6 : w6.heap[w2.heap.size]? = some (.cells #[.bool true, .int .i64 40, .int .i64 7, .int .i64 6, .int .i64 8, .int .i64 16] 69 (0, 0)) := (hb6w.block _ hz4).trans hF4
  have hz6 : w2.heap.size < w6.heap.size := (Array.getElem?_eq_some_iff.1 hF6).1
  clear hb6w cv r0 r1 r2 r3 r4 r5 r6 r7 r8 r9 r10 r11 r12 q0 q1 q2 q3 q4 q5 q6 q7 q8 q9 q10 q11 q12 f0 f1 f2 f3 f4 f5 hF4 hR4 bw4
  refine Lib.hid ?_
  go_wp2_with (with_reducible refine stop_op (o := ⟨some 33, _, _, _, _, _⟩) ?_)
  obtain ⟨w7, hw7⟩ : ∃ x, x = w6.alloc (.cells #[.bool true, .int .i64 40, .int .i64 (T : Int), .int .i64 (P : Int), .int .i64 (Q : Int), .int .u64 (X0 : Int), .int .u64 (X1 : Int), .int .u64 (Y0 : Int), .int .u64 (Y1 : Int), .bool false, .int .u32 0, .int .i64 0, .bool false] 40) := ⟨_, rfl⟩
  have hV7 : w7.heap[w6.heap.size]? = some (.cells #[.bool true, .int .i64 40, .int .i64 (T : Int), .int .i64 (P : Int), .int .i64 (Q : Int), .int .u64 (X0 : Int), .int .u64 (X1 : Int), .int .u64 (Y0 : Int), .int .u64 (Y1 : Int), .bool false, .int .u32 0, .int .i64 0, .bool false] 40 (0, 0)) := by rw [hw7]; exact al_neww rfl _
  have hR7 : w7.heap[w.heap.size]? = some (.cells #[.bool false, .int .i64 0, .int .i64 0, .int .i64 0, .int .i64 0, .int .u64 0, .int .u64 0, .int .u64 0, .int .u64 0, .bool false, .int .u32 0, .int .i64 0, .bool false] 40 (0, 0)) := by rw [hw7, al_oldw (by omega)]; exact hR6
  have hF7 : w7.heap[w2.heap.size]? = some (.cells #[.bool true, .int .i64 40, .int .i64 7, .int .i64 6, .int .i64 8, .int .i64 16] 69 (0, 0)) := by rw [hw7, al_oldw hz6]; exact hF6
  have bw7 : Below w.heap.size w w7 := by rw [hw7]; exact Below.al bw6 _
  obtain ⟨⟨t0, t1, t2, t3, t4, t5, t6, t7, t8, t9, t10, t11, t12⟩, _⟩ := cells13 hV7
  obtain ⟨⟨f0, f1, f2, f3, f4, f5⟩, _⟩ := cells6 hF7
  rw [← hw7]
  clear hw7 hR6 hF6 bw6
  refine Lib.hid ?_
  go_wp2_with (with_reducible refine stop_op (o := ⟨some 39, _, _, _, _, _⟩) ?_)
  obtain ⟨w8, hw8⟩ : ∃ x, x = w7.alloc (.cells #[.int .u64 (X0 : Int), .int .u64 (X1 : Int), .int .u64 (Y0 : Int), .int .u64 (Y1 : Int)] 25) := ⟨_, rfl⟩
  have hz7 : w6.heap.size < w7.heap.size := (Array.getElem?_eq_some_iff.1 hV7).1
  have hL8 : w8.heap[w7.heap.size]? = some (.cells #[.int .u64 (X0 : Int), .int .u64 (X1 : Int), .int .u64 (Y0 : Int), .int .u64 (Y1 : Int)] 25 (0, 0)) := by rw [hw8]; exact al_neww rfl _
  have hV8 : w8.heap[w6.heap.size]? = some (.cells #[.bool true, .int .i64 40, .int .i64 (T : Int), .int .i64 (P : Int), .int .i64 (Q : Int), .int .u64 (X0 : Int), .int .u64 (X1 : Int), .int .u64 (Y0 : Int), .int .u64 (Y1 : Int), .bool false, .int .u32 0, .int .i64 0, .bool false] 40 (0, 0)) := by rw [hw8, al_oldw hz7]; exact hV7
  have hR8 : w8.heap[w.heap.size]? = some (.cells #[.bool false, .int .i64 0, .int .i64 0, .int .i64 0, .int .i64 0, .int .u64 0, .int .u64 0, .int .u64 0, .int .u64 0, .bool false, .int .u32 0, .int .i64 0, .bool false] 40 (0, 0)) := by rw [hw8, al_oldw (by omega)]; exact hR7
  have hF8 : w8.heap[w2.heap.size]? = some (.cells #[.bool true, .int .i64 40, .int .i64 7, .int .i64 6, .int .i64 8, .int .i64 16] 69 (0, 0)) := by rw [hw8, al_oldw (by omega)]; exact hF7
  have bw8 : Below w.heap.size w w8 := by rw [hw8]; exact Below.al bw7 _
  have hA8 : AdrsAt w8 w7.heap.size 0 [((X0 : Int), (X1 : Int)), ((Y0 : Int), (Y1 : Int))] := by
    obtain ⟨⟨a0, a1, a2, a3⟩, _⟩ := cells4 hL8
    intro k a h
    match k, h with
    | 0, h => obtain rfl : _ = a := by simpa using h
              exact ⟨a0, a1, wx0, wx1⟩
    | 1, h => obtain rfl : _ = a := by simpa using h
              exact ⟨a2, a3, wy0, wy1⟩
    | k + 2, h => simp at h
  have ch := has_true w7.heap.size 0 2 2 _ rfl (by omega) hA8
  rw [show hasP true [((X0 : Int), (X1 : Int)), ((Y0 : Int), (Y1 : Int))] = false from by rw [hasP_two]; simp only; rw [h3]; rfl] at ch
  rw [← hw8]
  clear hw8 hL8 hA8 hR7 hF7 hV7 bw7 t0 t1 t2 t3 t4 t5 t6 t7 t8 t9 t10 t11 t12 f0 f1 f2 f3 f4 f5 wx0 wx1 wy0 wy1
  simp only [famCells, if_true] at ch
  refine Lib.hid ?_
  go_wp2_with (go_at_call 29; refine ch.mono ?_; rintro e w9 ⟨rfl, hb9w⟩; refine Hid.out ?_)
  have bw9 : Below w.heap.size w w9 := bw8.trans (hb9w.mono bw8.size)
  have hz8 : w6.heap.size < w8.heap.size := (Array.getElem?_eq_some_iff.1 hV8).1
  have hV9 : w9.heap[w6.heap.size]? = some (.cells #[.bool true, .int .i64 40, .int .i64 (T : Int), .int .i64 (P : Int), .int .i64 (Q : Int), .int .u64 (X0 : Int), .int .u64 (X1 : Int), .int .u64 (Y0 : Int), .int .u64 (Y1 : Int), .bool false, .int .u32 0, .int .i64 0, .bool false] 40 (0, 0)) := (hb9w.block _ hz8).trans hV8
  have hR9 : w9.heap[w.heap.size]? = some (.cells #[.bool false, .int .i64 0, .int .i64 0, .int .i64 0, .int .i64 0, .int .u64 0, .int .u64 0, .int .u64 0, .int .u64 0, .bool false, .int .u32 0, .int .i64 0, .bool false] 40 (0, 0)) := (hb9w.block _ (by omega)).trans hR8
  have hF9 : w9.heap[w2.heap.size]? = some (.cells #[.bool true, .int .i64 40, .int .i64 7, .int .i64 6, .int .i64 8, .int .i64 16] 69 (0, 0)) := (hb9w.block _ (by omega)).trans hF8
  clear hb9w ch hV8 hR8 hF8 bw8 h3
  obtain ⟨⟨t0, t1, t2, t3, t4, t5, t6, t7, t8, t9, t10, t11, t12⟩, u0, u1, u2, u3, u4, u5, u6, u7, u8, u9, u10, u11, u12⟩ := cells13 hV9
  obtain ⟨⟨f0, f1, f2, f3, f4, f5⟩, _⟩ := cells6 hF9
  obtain ⟨⟨r0, r1, r2, r3, r4, r5, r6, r7, r8, r9, r10, r11, r12⟩, q0, q1, q2, q3, q4, q5, q6, q7, q8, q9, q10, q11, q12⟩ := cells13 hR9
  refine Lib.hid ?_
  go_wp2
  refine bodyPost_ret_by (res_row Try.results75 _ _ w.heap.size 40 #[.bool false, .int .i64 0, .int .i64 0, .int .i64 0, .int .i64 0, .int .u64 0, .int .u64 0, .int .u64 0, .int .u64 0, .bool false, .int .u32 0, .int .i64 0, .bool false] _ rfl (heap_set13w hR9 (.bool false) (.int .i64 0) (.int .i64 0) (.int .i64 0) (.int .i64 0) (.int .u64 0) (.int .u64 0) (.int .u64 0) (.int .u64 0) (.bool false) (.int .u32 0) (.int .i64 0) (.bool false)) Try.underlying40 (by kernel_rfl)) rfl ⟨rfl, ?_⟩
  exact below_set13 bw9 (by omega) _ _ _ _ _ _ _ _ _ _ _ _ _

set_option maxHeartbeats 2000000 in
set_option maxRecDepth 100000 in
theorem p6_d (g o c n : Nat) (l : List UInt8) (hn : l.length = n) (hc : n ≤ c) (hcm : c ≤ 9223372036854775807) (h1 : 40 ≤ n) (h2 : nbN l 4 2 + 40 ≤ n) (h3 : (is4I (view6 l 0).srcH (view6 l 0).srcL || is4I (view6 l 0).dstH (view6 l 0).dstL) = false) (h4 : byN l 6 ≠ 44) {w : World} (hb : Byt w g o l) :
    Calls Try.prog 75 #[.slice (some ⟨g, o, none⟩) n c] w fun e w' => e = .returned (.tuple #[.agg (vcells (view6 l (nbN l 4 2 + 40))), .int .i64 0]) ∧ Below w.heap.size w w' := by
  have hi : ¬ (n : Int) < 40 := by omega
  have hi2 : decide ((n : Int) < 40) = false := by simp; omega
  have hi3 : decide (n < 40) = false := by simp; omega
  have s4 : ∀ W, (Instr.slice 22 (.slice (some ⟨g, o, none⟩) n c) (some (.int .i64 4)) (some (.int .i64 6)) none).run Try.prog W = .ok (.slice (some ⟨g, o + 4, none⟩) 2 (c - 4)) W := cut_lh g o n c 4 6 (by omega) (by omega) (by omega) hcm
  have n4 := nb_bel g o n c 4 2 l hn (by omega) (by omega) hb
  have cv := fun (W : World) (h : Below w.heap.size w W) => view_6 g o c n (nbN l 4 2 + 40) l hn (by omega) hc hcm (hb.below h)
  have HB := Lib.hid hb
  have HN := Lib.hid hn
  have hN := nb2_lt l 4
  have wx0 := adrH_lt (l := (l.drop 8).take 16) (by rw [List.length_take, List.length_drop]; omega)
  have wx1 := adrL_lt (l := (l.drop 8).take 16) (by rw [List.length_take, List.length_drop]; omega)
  have wy0 := adrH_lt (l := (l.drop 24).take 16) (by rw [List.length_take, List.length_drop]; omega)
  have wy1 := adrL_lt (l := (l.drop 24).take 16) (by rw [List.length_take, List.length_drop]; omega)
  simp only [vcells, view6] at cv
  have hQ := byN_lt l 6
  have hP := byN_lt l 7
  simp only [view6] at h3 ⊢
  generalize nbN l 4 2 = N at *
  generalize byN l 6 = Q at *
  generalize byN l 7 = P at *
  generalize adrH ((l.drop 8).take 16) = X0 at *
  generalize adrL ((l.drop 8).take 16) = X1 at *
  generalize adrH ((l.drop 24).take 16) = Y0 at *
  generalize adrL ((l.drop 24).take 16) = Y1 at *
  clear hb hn
  obtain ⟨T, hT⟩ : ∃ T, T = N + 40 := ⟨_, rfl⟩
  rw [← hT] at cv h2 ⊢
  have HT := Lib.hid hT
  have wN : IntKind.i64.wrap (N : Int) = (N : Int) := by rw [IntKind.wrap_i64]; omega
  have wT : IntKind.i64.wrap ((N : Int) + 40) = (T : Int) := by rw [IntKind.wrap_i64]; omega
  have hTb : T < 65577 := by omega
  have hTbi : (T : Int) < 65577 := by omega
  have hT40i : (40 : Int) ≤ (T : Int) := by omega
  clear hT
  have hTn : decide ((n : Int) < (T : Int)) = false := by simp; have := HT.out; omega
  have hTnn : decide (n < T) = false := by simp; have := HT.out; omega
  have hTni : ¬ (n : Int) < (T : Int) := by have := HT.out; omega
  have hq : ((Q : Int) != 44) = true := by simp; omega
  clear h2
  simp only [vcells, zvw, view6]
  have cf := fam_any true
  simp only [famCells, if_true] at cf
  go_enter Try.func75, Try.ntmps75
  go_wp2_with (go_at_call 28; refine (cf _).mono ?_; rintro e w2 ⟨rfl, hb2⟩; refine Hid.out ?_)
  have bw2 : Below w.heap.size w w2 := bel_via (Below.al (Below.refl _ _) _) hb2
  have hR2 : w2.heap[w.heap.size]? = some (.cells #[.bool false, .int .i64 0, .int .i64 0, .int .i64 0, .int .i64 0, .int .u64 0, .int .u64 0, .int .u64 0, .int .u64 0, .bool false, .int .u32 0, .int .i64 0, .bool false] 40 (0, 0)) := by rw [hb2.block _ (by simp)]; exact al_neww rfl _
  have hz2 : w.heap.size < w2.heap.size := (Array.getElem?_eq_some_iff.1 hR2).1
  clear hb2 cf
  refine Lib.hid ?_
  go_wp2_with (with_reducible refine stop_op (o := ⟨some 13, _, _, _, _, _⟩) ?_)
  obtain ⟨w3, hw3⟩ : ∃ v, v = w2.alloc (.cells #[.bool true, .int .i64 40, .int .i64 7, .int .i64 6, .int .i64 8, .int .i64 16] 69) := ⟨_, rfl⟩
  have hF3 : w3.heap[w2.heap.size]? = some (.cells #[.bool true, .int .i64 40, .int .i64 7, .int .i64 6, .int .i64 8, .int .i64 16] 69 (0, 0)) := by rw [hw3]; exact al_neww rfl _
  have hR3 : w3.heap[w.heap.size]? = some (.cells #[.bool false, .int .i64 0, .int .i64 0, .int .i64 0, .int .i64 0, .int .u64 0, .int .u64 0, .int .u64 0, .int .u64 0, .bool false, .int .u32 0, .int .i64 0, .bool false] 40 (0, 0)) := by rw [hw3, al_oldw hz2]; exact hR2
  have bw3 : Below w.heap.size w w3 := by rw [hw3]; exact Below.al bw2 _
  obtain ⟨⟨f0, f1, f2, f3, f4, f5⟩, _⟩ := cells6 hF3
  obtain ⟨⟨r0, r1, r2, r3, r4, r5, r6, r7, r8, r9, r10, r11, r12⟩, q0, q1, q2, q3, q4, q5, q6, q7, q8, q9, q10, q11, q12⟩ := cells13 hR3
  rw [← hw3]
  clear hw3 hR2 bw2
  refine Lib.hid ?_
  go_wp2_with fail
  have hz3 : w2.heap.size < w3.heap.size := (Array.getElem?_eq_some_iff.1 hF3).1
  have bq := fun d os => bw3.trans ((below_regrown w3 d os).mono bw3.size)
  have qa := fun d os => Calls.regrown_of (n4 (grow (redrawn w3 d) os) (bq d os))
  have k1 := cell_regrown f1
  refine wp_region_quiet_below (by kernel_rfl) (by kernel_rfl) ?_
  repeat (first | go_big_quiet_skip | quiet_step (first | (go_at_call 69; with_reducible exact qa _ _)))
  refine wpQuiet_nil ?_
  intro _ hw'
  obtain ⟨⟨dq, osq⟩, hw''⟩ := hw'
  subst hw''
  obtain ⟨w4, hw4⟩ : ∃ v, v = grow (redrawn w3 dq) osq := ⟨_, rfl⟩
  have b34 : Below w3.heap.size w3 w4 := by rw [hw4]; exact below_regrown _ _ _
  have bw4 : Below w.heap.size w w4 := bw3.trans (b34.mono bw3.size)
  have hF4 : w4.heap[w2.heap.size]? = some (.cells #[.bool true, .int .i64 40, .int .i64 7, .int .i64 6, .int .i64 8, .int .i64 16] 69 (0, 0)) := (b34.block _ hz3).trans hF3
  have hR4 : w4.heap[w.heap.size]? = some (.cells #[.bool false, .int .i64 0, .int .i64 0, .int .i64 0, .int .i64 0, .int .u64 0, .int .u64 0, .int .u64 0, .int .u64 0, .bool false, .int .u32 0, .int .i64 0, .bool false] 40 (0, 0)) := (b34.block _ (by omega)).trans hR3
  rw [← hw4]
  clear hw4 b34 bq qa n4 k1 wN wT r0 r1 r2 r3 r4 r5 r6 r7 r8 r9 r10 r11 r12 q0 q1 q2 q3 q4 q5 q6 q7 q8 q9 q10 q11 q12 f0 f1 f2 f3 f4 f5 hF3 hR3 bw3
  obtain ⟨⟨f0, f1, f2, f3, f4, f5⟩, _⟩ := cells6 hF4
  obtain ⟨⟨r0, r1, r2, r3, r4, r5, r6, r7, r8, r9, r10, r11, r12⟩, q0, q1, q2, q3, q4, q5, q6, q7, q8, q9, q10, q11, q12⟩ := cells13 hR4
  go_wp2_with (go_at_call 83; refine (cv _ bw4).mono ?_; rintro e w6 ⟨rfl, hb6w⟩; refine Hid.out ?_)
  have bw6 : Below w.heap.size w w6 := bw4.trans (hb6w.mono bw4.size)
  have hz4 : w2.heap.size < w4.heap.size := (Array.getElem?_eq_some_iff.1 hF4).1
  have hR6 : w6.heap[w.heap.size]? = some (.cells #[.bool false, .int .i64 0, .int .i64 0, .int .i64 0, .int .i64 0, .int .u64 0, .int .u64 0, .int .u64 0, .int .u64 0, .bool false, .int .u32 0, .int .i64 0, .bool false] 40 (0, 0)) := (hb6w.block _ (by omega)).trans hR4
  have hF6 : w6.heap[w2.heap.size]? = some (.cells #[.bool true, .int .i64 40, .int .i64 7, .int .i64 6, .int .i64 8, .int .i64 16] 69 (0, 0)) := (hb6w.block _ hz4).trans hF4
  have hz6 : w2.heap.size < w6.heap.size := (Array.getElem?_eq_some_iff.1 hF6).1
  clear hb6w cv r0 r1 r2 r3 r4 r5 r6 r7 r8 r9 r10 r11 r12 q0 q1 q2 q3 q4 q5 q6 q7 q8 q9 q10 q11 q12 f0 f1 f2 f3 f4 f5 hF4 hR4 bw4
  refine Lib.hid ?_
  go_wp2_with (with_reducible refine stop_op (o := ⟨some 33, _, _, _, _, _⟩) ?_)
  obtain ⟨w7, hw7⟩ : ∃ x, x = w6.alloc (.cells #[.bool true, .int .i64 40, .int .i64 (T : Int), .int .i64 (P : Int), .int .i64 (Q : Int), .int .u64 (X0 : Int), .int .u64 (X1 : Int), .int .u64 (Y0 : Int), .int .u64 (Y1 : Int), .bool false, .int .u32 0, .int .i64 0, .bool false] 40) := ⟨_, rfl⟩
  have hV7 : w7.heap[w6.heap.size]? = some (.cells #[.bool true, .int .i64 40, .int .i64 (T : Int), .int .i64 (P : Int), .int .i64 (Q : Int), .int .u64 (X0 : Int), .int .u64 (X1 : Int), .int .u64 (Y0 : Int), .int .u64 (Y1 : Int), .bool false, .int .u32 0, .int .i64 0, .bool false] 40 (0, 0)) := by rw [hw7]; exact al_neww rfl _
  have hR7 : w7.heap[w.heap.size]? = some (.cells #[.bool false, .int .i64 0, .int .i64 0, .int .i64 0, .int .i64 0, .int .u64 0, .int .u64 0, .int .u64 0, .int .u64 0, .bool false, .int .u32 0, .int .i64 0, .bool false] 40 (0, 0)) := by rw [hw7, al_oldw (by omega)]; exact hR6
  have hF7 : w7.heap[w2.heap.size]? = some (.cells #[.bool true, .int .i64 40, .int .i64 7, .int .i64 6, .int .i64 8, .int .i64 16] 69 (0, 0)) := by rw [hw7, al_oldw hz6]; exact hF6
  have bw7 : Below w.heap.size w w7 := by rw [hw7]; exact Below.al bw6 _
  obtain ⟨⟨t0, t1, t2, t3, t4, t5, t6, t7, t8, t9, t10, t11, t12⟩, _⟩ := cells13 hV7
  obtain ⟨⟨f0, f1, f2, f3, f4, f5⟩, _⟩ := cells6 hF7
  rw [← hw7]
  clear hw7 hR6 hF6 bw6
  refine Lib.hid ?_
  go_wp2_with (with_reducible refine stop_op (o := ⟨some 39, _, _, _, _, _⟩) ?_)
  obtain ⟨w8, hw8⟩ : ∃ x, x = w7.alloc (.cells #[.int .u64 (X0 : Int), .int .u64 (X1 : Int), .int .u64 (Y0 : Int), .int .u64 (Y1 : Int)] 25) := ⟨_, rfl⟩
  have hz7 : w6.heap.size < w7.heap.size := (Array.getElem?_eq_some_iff.1 hV7).1
  have hL8 : w8.heap[w7.heap.size]? = some (.cells #[.int .u64 (X0 : Int), .int .u64 (X1 : Int), .int .u64 (Y0 : Int), .int .u64 (Y1 : Int)] 25 (0, 0)) := by rw [hw8]; exact al_neww rfl _
  have hV8 : w8.heap[w6.heap.size]? = some (.cells #[.bool true, .int .i64 40, .int .i64 (T : Int), .int .i64 (P : Int), .int .i64 (Q : Int), .int .u64 (X0 : Int), .int .u64 (X1 : Int), .int .u64 (Y0 : Int), .int .u64 (Y1 : Int), .bool false, .int .u32 0, .int .i64 0, .bool false] 40 (0, 0)) := by rw [hw8, al_oldw hz7]; exact hV7
  have hR8 : w8.heap[w.heap.size]? = some (.cells #[.bool false, .int .i64 0, .int .i64 0, .int .i64 0, .int .i64 0, .int .u64 0, .int .u64 0, .int .u64 0, .int .u64 0, .bool false, .int .u32 0, .int .i64 0, .bool false] 40 (0, 0)) := by rw [hw8, al_oldw (by omega)]; exact hR7
  have hF8 : w8.heap[w2.heap.size]? = some (.cells #[.bool true, .int .i64 40, .int .i64 7, .int .i64 6, .int .i64 8, .int .i64 16] 69 (0, 0)) := by rw [hw8, al_oldw (by omega)]; exact hF7
  have bw8 : Below w.heap.size w w8 := by rw [hw8]; exact Below.al bw7 _
  have hA8 : AdrsAt w8 w7.heap.size 0 [((X0 : Int), (X1 : Int)), ((Y0 : Int), (Y1 : Int))] := by
    obtain ⟨⟨a0, a1, a2, a3⟩, _⟩ := cells4 hL8
    intro k a h
    match k, h with
    | 0, h => obtain rfl : _ = a := by simpa using h
              exact ⟨a0, a1, wx0, wx1⟩
    | 1, h => obtain rfl : _ = a := by simpa using h
              exact ⟨a2, a3, wy0, wy1⟩
    | k + 2, h => simp at h
  have ch := has_true w7.heap.size 0 2 2 _ rfl (by omega) hA8
  rw [show hasP true [((X0 : Int), (X1 : Int)), ((Y0 : Int), (Y1 : Int))] = true from by rw [hasP_two]; simp only; rw [h3]; rfl] at ch
  rw [← hw8]
  clear hw8 hL8 hA8 hR7 hF7 hV7 bw7 t0 t1 t2 t3 t4 t5 t6 t7 t8 t9 t10 t11 t12 f0 f1 f2 f3 f4 f5 wx0 wx1 wy0 wy1
  simp only [famCells, if_true] at ch
  refine Lib.hid ?_
  go_wp2_with (go_at_call 29; refine ch.mono ?_; rintro e w9 ⟨rfl, hb9w⟩; refine Hid.out ?_)
  have bw9 : Below w.heap.size w w9 := bw8.trans (hb9w.mono bw8.size)
  have hz8 : w6.heap.size < w8.heap.size := (Array.getElem?_eq_some_iff.1 hV8).1
  have hV9 : w9.heap[w6.heap.size]? = some (.cells #[.bool true, .int .i64 40, .int .i64 (T : Int), .int .i64 (P : Int), .int .i64 (Q : Int), .int .u64 (X0 : Int), .int .u64 (X1 : Int), .int .u64 (Y0 : Int), .int .u64 (Y1 : Int), .bool false, .int .u32 0, .int .i64 0, .bool false] 40 (0, 0)) := (hb9w.block _ hz8).trans hV8
  have hR9 : w9.heap[w.heap.size]? = some (.cells #[.bool false, .int .i64 0, .int .i64 0, .int .i64 0, .int .i64 0, .int .u64 0, .int .u64 0, .int .u64 0, .int .u64 0, .bool false, .int .u32 0, .int .i64 0, .bool false] 40 (0, 0)) := (hb9w.block _ (by omega)).trans hR8
  have hF9 : w9.heap[w2.heap.size]? = some (.cells #[.bool true, .int .i64 40, .int .i64 7, .int .i64 6, .int .i64 8, .int .i64 16] 69 (0, 0)) := (hb9w.block _ (by omega)).trans hF8
  clear hb9w ch hV8 hR8 hF8 bw8 h3
  obtain ⟨⟨t0, t1, t2, t3, t4, t5, t6, t7, t8, t9, t10, t11, t12⟩, u0, u1, u2, u3, u4, u5, u6, u7, u8, u9, u10, u11, u12⟩ := cells13 hV9
  obtain ⟨⟨f0, f1, f2, f3, f4, f5⟩, _⟩ := cells6 hF9
  obtain ⟨⟨r0, r1, r2, r3, r4, r5, r6, r7, r8, r9, r10, r11, r12⟩, q0, q1, q2, q3, q4, q5, q6, q7, q8, q9, q10, q11, q12⟩ := cells13 hR9
  refine Lib.hid ?_
  go_wp2
  refine bodyPost_ret_by (res_row Try.results75 _ _ w.heap.size 40 #[.bool true, .int .i64 40, .int .i64 (T : Int), .int .i64 (P : Int), .int .i64 (Q : Int), .int .u64 (X0 : Int), .int .u64 (X1 : Int), .int .u64 (Y0 : Int), .int .u64 (Y1 : Int), .bool false, .int .u32 0, .int .i64 0, .bool false] _ rfl (heap_set13w hR9 (.bool true) (.int .i64 40) (.int .i64 (T : Int)) (.int .i64 (P : Int)) (.int .i64 (Q : Int)) (.int .u64 (X0 : Int)) (.int .u64 (X1 : Int)) (.int .u64 (Y0 : Int)) (.int .u64 (Y1 : Int)) (.bool false) (.int .u32 0) (.int .i64 0) (.bool false)) Try.underlying40 (by kernel_rfl)) rfl ⟨rfl, ?_⟩
  exact below_set13 bw9 (by omega) _ _ _ _ _ _ _ _ _ _ _ _ _

set_option maxHeartbeats 2000000 in
set_option maxRecDepth 100000 in
theorem p6_e (g o c n : Nat) (l : List UInt8) (hn : l.length = n) (hc : n ≤ c) (hcm : c ≤ 9223372036854775807) (h1 : 40 ≤ n) (h2 : nbN l 4 2 + 40 ≤ n) (h3 : (is4I (view6 l 0).srcH (view6 l 0).srcL || is4I (view6 l 0).dstH (view6 l 0).dstL) = false) (h4 : byN l 6 = 44) (h5 : nbN l 4 2 + 40 < 48) {w : World} (hb : Byt w g o l) :
    Calls Try.prog 75 #[.slice (some ⟨g, o, none⟩) n c] w fun e w' => e = .returned (.tuple #[.agg (vcells zvw), .int .i64 40]) ∧ Below w.heap.size w w' := by
  have hi : ¬ (n : Int) < 40 := by omega
  have hi2 : decide ((n : Int) < 40) = false := by simp; omega
  have hi3 : decide (n < 40) = false := by simp; omega
  have s4 : ∀ W, (Instr.slice 22 (.slice (some ⟨g, o, none⟩) n c) (some (.int .i64 4)) (some (.int .i64 6)) none).run Try.prog W = .ok (.slice (some ⟨g, o + 4, none⟩) 2 (c - 4)) W := cut_lh g o n c 4 6 (by omega) (by omega) (by omega) hcm
  have n4 := nb_bel g o n c 4 2 l hn (by omega) (by omega) hb
  have cv := fun (W : World) (h : Below w.heap.size w W) => view_6 g o c n (nbN l 4 2 + 40) l hn (by omega) hc hcm (hb.below h)
  have HB := Lib.hid hb
  have HN := Lib.hid hn
  have hN := nb2_lt l 4
  have wx0 := adrH_lt (l := (l.drop 8).take 16) (by rw [List.length_take, List.length_drop]; omega)
  have wx1 := adrL_lt (l := (l.drop 8).take 16) (by rw [List.length_take, List.length_drop]; omega)
  have wy0 := adrH_lt (l := (l.drop 24).take 16) (by rw [List.length_take, List.length_drop]; omega)
  have wy1 := adrL_lt (l := (l.drop 24).take 16) (by rw [List.length_take, List.length_drop]; omega)
  simp only [vcells, view6] at cv
  have hQ := byN_lt l 6
  have hP := byN_lt l 7
  simp only [view6] at h3
  generalize nbN l 4 2 = N at *
  generalize byN l 6 = Q at *
  generalize byN l 7 = P at *
  generalize adrH ((l.drop 8).take 16) = X0 at *
  generalize adrL ((l.drop 8).take 16) = X1 at *
  generalize adrH ((l.drop 24).take 16) = Y0 at *
  generalize adrL ((l.drop 24).take 16) = Y1 at *
  clear hb hn
  obtain ⟨T, hT⟩ : ∃ T, T = N + 40 := ⟨_, rfl⟩
  rw [← hT] at cv h2 h5
  have HT := Lib.hid hT
  have wN : IntKind.i64.wrap (N : Int) = (N : Int) := by rw [IntKind.wrap_i64]; omega
  have wT : IntKind.i64.wrap ((N : Int) + 40) = (T : Int) := by rw [IntKind.wrap_i64]; omega
  have hTb : T < 65577 := by omega
  have hTbi : (T : Int) < 65577 := by omega
  have hT40i : (40 : Int) ≤ (T : Int) := by omega
  clear hT
  have hTn : decide ((n : Int) < (T : Int)) = false := by simp; have := HT.out; omega
  have hTnn : decide (n < T) = false := by simp; have := HT.out; omega
  have hTni : ¬ (n : Int) < (T : Int) := by have := HT.out; omega
  have hq : ((Q : Int) != 44) = false := by simp; omega
  have hl : decide ((T : Int) < 48) = true := by simp; omega
  have hli : (T : Int) < 48 := by omega
  clear h5 h4
  clear h2
  simp only [vcells, zvw, view6]
  have cf := fam_any true
  simp only [famCells, if_true] at cf
  go_enter Try.func75, Try.ntmps75
  go_wp2_with (go_at_call 28; refine (cf _).mono ?_; rintro e w2 ⟨rfl, hb2⟩; refine Hid.out ?_)
  have bw2 : Below w.heap.size w w2 := bel_via (Below.al (Below.refl _ _) _) hb2
  have hR2 : w2.heap[w.heap.size]? = some (.cells #[.bool false, .int .i64 0, .int .i64 0, .int .i64 0, .int .i64 0, .int .u64 0, .int .u64 0, .int .u64 0, .int .u64 0, .bool false, .int .u32 0, .int .i64 0, .bool false] 40 (0, 0)) := by rw [hb2.block _ (by simp)]; exact al_neww rfl _
  have hz2 : w.heap.size < w2.heap.size := (Array.getElem?_eq_some_iff.1 hR2).1
  clear hb2 cf
  refine Lib.hid ?_
  go_wp2_with (with_reducible refine stop_op (o := ⟨some 13, _, _, _, _, _⟩) ?_)
  obtain ⟨w3, hw3⟩ : ∃ v, v = w2.alloc (.cells #[.bool true, .int .i64 40, .int .i64 7, .int .i64 6, .int .i64 8, .int .i64 16] 69) := ⟨_, rfl⟩
  have hF3 : w3.heap[w2.heap.size]? = some (.cells #[.bool true, .int .i64 40, .int .i64 7, .int .i64 6, .int .i64 8, .int .i64 16] 69 (0, 0)) := by rw [hw3]; exact al_neww rfl _
  have hR3 : w3.heap[w.heap.size]? = some (.cells #[.bool false, .int .i64 0, .int .i64 0, .int .i64 0, .int .i64 0, .int .u64 0, .int .u64 0, .int .u64 0, .int .u64 0, .bool false, .int .u32 0, .int .i64 0, .bool false] 40 (0, 0)) := by rw [hw3, al_oldw hz2]; exact hR2
  have bw3 : Below w.heap.size w w3 := by rw [hw3]; exact Below.al bw2 _
  obtain ⟨⟨f0, f1, f2, f3, f4, f5⟩, _⟩ := cells6 hF3
  obtain ⟨⟨r0, r1, r2, r3, r4, r5, r6, r7, r8, r9, r10, r11, r12⟩, q0, q1, q2, q3, q4, q5, q6, q7, q8, q9, q10, q11, q12⟩ := cells13 hR3
  rw [← hw3]
  clear hw3 hR2 bw2
  refine Lib.hid ?_
  go_wp2_with fail
  have hz3 : w2.heap.size < w3.heap.size := (Array.getElem?_eq_some_iff.1 hF3).1
  have bq := fun d os => bw3.trans ((below_regrown w3 d os).mono bw3.size)
  have qa := fun d os => Calls.regrown_of (n4 (grow (redrawn w3 d) os) (bq d os))
  have k1 := cell_regrown f1
  refine wp_region_quiet_below (by kernel_rfl) (by kernel_rfl) ?_
  repeat (first | go_big_quiet_skip | quiet_step (first | (go_at_call 69; with_reducible exact qa _ _)))
  refine wpQuiet_nil ?_
  intro _ hw'
  obtain ⟨⟨dq, osq⟩, hw''⟩ := hw'
  subst hw''
  obtain ⟨w4, hw4⟩ : ∃ v, v = grow (redrawn w3 dq) osq := ⟨_, rfl⟩
  have b34 : Below w3.heap.size w3 w4 := by rw [hw4]; exact below_regrown _ _ _
  have bw4 : Below w.heap.size w w4 := bw3.trans (b34.mono bw3.size)
  have hF4 : w4.heap[w2.heap.size]? = some (.cells #[.bool true, .int .i64 40, .int .i64 7, .int .i64 6, .int .i64 8, .int .i64 16] 69 (0, 0)) := (b34.block _ hz3).trans hF3
  have hR4 : w4.heap[w.heap.size]? = some (.cells #[.bool false, .int .i64 0, .int .i64 0, .int .i64 0, .int .i64 0, .int .u64 0, .int .u64 0, .int .u64 0, .int .u64 0, .bool false, .int .u32 0, .int .i64 0, .bool false] 40 (0, 0)) := (b34.block _ (by omega)).trans hR3
  rw [← hw4]
  clear hw4 b34 bq qa n4 k1 wN wT r0 r1 r2 r3 r4 r5 r6 r7 r8 r9 r10 r11 r12 q0 q1 q2 q3 q4 q5 q6 q7 q8 q9 q10 q11 q12 f0 f1 f2 f3 f4 f5 hF3 hR3 bw3
  obtain ⟨⟨f0, f1, f2, f3, f4, f5⟩, _⟩ := cells6 hF4
  obtain ⟨⟨r0, r1, r2, r3, r4, r5, r6, r7, r8, r9, r10, r11, r12⟩, q0, q1, q2, q3, q4, q5, q6, q7, q8, q9, q10, q11, q12⟩ := cells13 hR4
  go_wp2_with (go_at_call 83; refine (cv _ bw4).mono ?_; rintro e w6 ⟨rfl, hb6w⟩; refine Hid.out ?_)
  have bw6 : Below w.heap.size w w6 := bw4.trans (hb6w.mono bw4.size)
  have hz4 : w2.heap.size < w4.heap.size := (Array.getElem?_eq_some_iff.1 hF4).1
  have hR6 : w6.heap[w.heap.size]? = some (.cells #[.bool false, .int .i64 0, .int .i64 0, .int .i64 0, .int .i64 0, .int .u64 0, .int .u64 0, .int .u64 0, .int .u64 0, .bool false, .int .u32 0, .int .i64 0, .bool false] 40 (0, 0)) := (hb6w.block _ (by omega)).trans hR4
  have hF6 : w6.heap[w2.heap.size]? = some (.cells #[.bool true, .int .i64 40, .int .i64 7, .int .i64 6, .int .i64 8, .int .i64 16] 69 (0, 0)) := (hb6w.block _ hz4).trans hF4
  have hz6 : w2.heap.size < w6.heap.size := (Array.getElem?_eq_some_iff.1 hF6).1
  clear hb6w cv r0 r1 r2 r3 r4 r5 r6 r7 r8 r9 r10 r11 r12 q0 q1 q2 q3 q4 q5 q6 q7 q8 q9 q10 q11 q12 f0 f1 f2 f3 f4 f5 hF4 hR4 bw4
  refine Lib.hid ?_
  go_wp2_with (with_reducible refine stop_op (o := ⟨some 33, _, _, _, _, _⟩) ?_)
  obtain ⟨w7, hw7⟩ : ∃ x, x = w6.alloc (.cells #[.bool true, .int .i64 40, .int .i64 (T : Int), .int .i64 (P : Int), .int .i64 (Q : Int), .int .u64 (X0 : Int), .int .u64 (X1 : Int), .int .u64 (Y0 : Int), .int .u64 (Y1 : Int), .bool false, .int .u32 0, .int .i64 0, .bool false] 40) := ⟨_, rfl⟩
  have hV7 : w7.heap[w6.heap.size]? = some (.cells #[.bool true, .int .i64 40, .int .i64 (T : Int), .int .i64 (P : Int), .int .i64 (Q : Int), .int .u64 (X0 : Int), .int .u64 (X1 : Int), .int .u64 (Y0 : Int), .int .u64 (Y1 : Int), .bool false, .int .u32 0, .int .i64 0, .bool false] 40 (0, 0)) := by rw [hw7]; exact al_neww rfl _
  have hR7 : w7.heap[w.heap.size]? = some (.cells #[.bool false, .int .i64 0, .int .i64 0, .int .i64 0, .int .i64 0, .int .u64 0, .int .u64 0, .int .u64 0, .int .u64 0, .bool false, .int .u32 0, .int .i64 0, .bool false] 40 (0, 0)) := by rw [hw7, al_oldw (by omega)]; exact hR6
  have hF7 : w7.heap[w2.heap.size]? = some (.cells #[.bool true, .int .i64 40, .int .i64 7, .int .i64 6, .int .i64 8, .int .i64 16] 69 (0, 0)) := by rw [hw7, al_oldw hz6]; exact hF6
  have bw7 : Below w.heap.size w w7 := by rw [hw7]; exact Below.al bw6 _
  obtain ⟨⟨t0, t1, t2, t3, t4, t5, t6, t7, t8, t9, t10, t11, t12⟩, _⟩ := cells13 hV7
  obtain ⟨⟨f0, f1, f2, f3, f4, f5⟩, _⟩ := cells6 hF7
  rw [← hw7]
  clear hw7 hR6 hF6 bw6
  refine Lib.hid ?_
  go_wp2_with (with_reducible refine stop_op (o := ⟨some 39, _, _, _, _, _⟩) ?_)
  obtain ⟨w8, hw8⟩ : ∃ x, x = w7.alloc (.cells #[.int .u64 (X0 : Int), .int .u64 (X1 : Int), .int .u64 (Y0 : Int), .int .u64 (Y1 : Int)] 25) := ⟨_, rfl⟩
  have hz7 : w6.heap.size < w7.heap.size := (Array.getElem?_eq_some_iff.1 hV7).1
  have hL8 : w8.heap[w7.heap.size]? = some (.cells #[.int .u64 (X0 : Int), .int .u64 (X1 : Int), .int .u64 (Y0 : Int), .int .u64 (Y1 : Int)] 25 (0, 0)) := by rw [hw8]; exact al_neww rfl _
  have hV8 : w8.heap[w6.heap.size]? = some (.cells #[.bool true, .int .i64 40, .int .i64 (T : Int), .int .i64 (P : Int), .int .i64 (Q : Int), .int .u64 (X0 : Int), .int .u64 (X1 : Int), .int .u64 (Y0 : Int), .int .u64 (Y1 : Int), .bool false, .int .u32 0, .int .i64 0, .bool false] 40 (0, 0)) := by rw [hw8, al_oldw hz7]; exact hV7
  have hR8 : w8.heap[w.heap.size]? = some (.cells #[.bool false, .int .i64 0, .int .i64 0, .int .i64 0, .int .i64 0, .int .u64 0, .int .u64 0, .int .u64 0, .int .u64 0, .bool false, .int .u32 0, .int .i64 0, .bool false] 40 (0, 0)) := by rw [hw8, al_oldw (by omega)]; exact hR7
  have hF8 : w8.heap[w2.heap.size]? = some (.cells #[.bool true, .int .i64 40, .int .i64 7, .int .i64 6, .int .i64 8, .int .i64 16] 69 (0, 0)) := by rw [hw8, al_oldw (by omega)]; exact hF7
  have bw8 : Below w.heap.size w w8 := by rw [hw8]; exact Below.al bw7 _
  have hA8 : AdrsAt w8 w7.heap.size 0 [((X0 : Int), (X1 : Int)), ((Y0 : Int), (Y1 : Int))] := by
    obtain ⟨⟨a0, a1, a2, a3⟩, _⟩ := cells4 hL8
    intro k a h
    match k, h with
    | 0, h => obtain rfl : _ = a := by simpa using h
              exact ⟨a0, a1, wx0, wx1⟩
    | 1, h => obtain rfl : _ = a := by simpa using h
              exact ⟨a2, a3, wy0, wy1⟩
    | k + 2, h => simp at h
  have ch := has_true w7.heap.size 0 2 2 _ rfl (by omega) hA8
  rw [show hasP true [((X0 : Int), (X1 : Int)), ((Y0 : Int), (Y1 : Int))] = true from by rw [hasP_two]; simp only; rw [h3]; rfl] at ch
  rw [← hw8]
  clear hw8 hL8 hA8 hR7 hF7 hV7 bw7 t0 t1 t2 t3 t4 t5 t6 t7 t8 t9 t10 t11 t12 f0 f1 f2 f3 f4 f5 wx0 wx1 wy0 wy1
  simp only [famCells, if_true] at ch
  refine Lib.hid ?_
  go_wp2_with (go_at_call 29; refine ch.mono ?_; rintro e w9 ⟨rfl, hb9w⟩; refine Hid.out ?_)
  have bw9 : Below w.heap.size w w9 := bw8.trans (hb9w.mono bw8.size)
  have hz8 : w6.heap.size < w8.heap.size := (Array.getElem?_eq_some_iff.1 hV8).1
  have hV9 : w9.heap[w6.heap.size]? = some (.cells #[.bool true, .int .i64 40, .int .i64 (T : Int), .int .i64 (P : Int), .int .i64 (Q : Int), .int .u64 (X0 : Int), .int .u64 (X1 : Int), .int .u64 (Y0 : Int), .int .u64 (Y1 : Int), .bool false, .int .u32 0, .int .i64 0, .bool false] 40 (0, 0)) := (hb9w.block _ hz8).trans hV8
  have hR9 : w9.heap[w.heap.size]? = some (.cells #[.bool false, .int .i64 0, .int .i64 0, .int .i64 0, .int .i64 0, .int .u64 0, .int .u64 0, .int .u64 0, .int .u64 0, .bool false, .int .u32 0, .int .i64 0, .bool false] 40 (0, 0)) := (hb9w.block _ (by omega)).trans hR8
  have hF9 : w9.heap[w2.heap.size]? = some (.cells #[.bool true, .int .i64 40, .int .i64 7, .int .i64 6, .int .i64 8, .int .i64 16] 69 (0, 0)) := (hb9w.block _ (by omega)).trans hF8
  clear hb9w ch hV8 hR8 hF8 bw8 h3
  obtain ⟨⟨t0, t1, t2, t3, t4, t5, t6, t7, t8, t9, t10, t11, t12⟩, u0, u1, u2, u3, u4, u5, u6, u7, u8, u9, u10, u11, u12⟩ := cells13 hV9
  obtain ⟨⟨f0, f1, f2, f3, f4, f5⟩, _⟩ := cells6 hF9
  obtain ⟨⟨r0, r1, r2, r3, r4, r5, r6, r7, r8, r9, r10, r11, r12⟩, q0, q1, q2, q3, q4, q5, q6, q7, q8, q9, q10, q11, q12⟩ := cells13 hR9
  refine Lib.hid ?_
  go_wp2
  refine bodyPost_ret_by (res_row Try.results75 _ _ w.heap.size 40 #[.bool false, .int .i64 0, .int .i64 0, .int .i64 0, .int .i64 0, .int .u64 0, .int .u64 0, .int .u64 0, .int .u64 0, .bool false, .int .u32 0, .int .i64 0, .bool false] _ rfl (heap_set13w hR9 (.bool false) (.int .i64 0) (.int .i64 0) (.int .i64 0) (.int .i64 0) (.int .u64 0) (.int .u64 0) (.int .u64 0) (.int .u64 0) (.bool false) (.int .u32 0) (.int .i64 0) (.bool false)) Try.underlying40 (by kernel_rfl)) rfl ⟨rfl, ?_⟩
  exact below_set13 bw9 (by omega) _ _ _ _ _ _ _ _ _ _ _ _ _

set_option maxHeartbeats 2000000 in
set_option maxRecDepth 100000 in
theorem p6_f (g o c n : Nat) (l : List UInt8) (hn : l.length = n) (hc : n ≤ c) (hcm : c ≤ 9223372036854775807) (h1 : 40 ≤ n) (h2 : nbN l 4 2 + 40 ≤ n) (h3 : (is4I (view6 l 0).srcH (view6 l 0).srcL || is4I (view6 l 0).dstH (view6 l 0).dstL) = false) (h4 : byN l 6 = 44) (h5 : 48 ≤ nbN l 4 2 + 40) (h6 : byN l 40 = 44) {w : World} (hb : Byt w g o l) :
    Calls Try.prog 75 #[.slice (some ⟨g, o, none⟩) n c] w fun e w' => e = .returned (.tuple #[.agg (vcells zvw), .int .i64 42]) ∧ Below w.heap.size w w' := by
  have hi : ¬ (n : Int) < 40 := by omega
  have hi2 : decide ((n : Int) < 40) = false := by simp; omega
  have hi3 : decide (n < 40) = false := by simp; omega
  have s4 : ∀ W, (Instr.slice 22 (.slice (some ⟨g, o, none⟩) n c) (some (.int .i64 4)) (some (.int .i64 6)) none).run Try.prog W = .ok (.slice (some ⟨g, o + 4, none⟩) 2 (c - 4)) W := cut_lh g o n c 4 6 (by omega) (by omega) (by omega) hcm
  have n4 := nb_bel g o n c 4 2 l hn (by omega) (by omega) hb
  have cv := fun (W : World) (h : Below w.heap.size w W) => view_6 g o c n (nbN l 4 2 + 40) l hn (by omega) hc hcm (hb.below h)
  have HB := Lib.hid hb
  have HN := Lib.hid hn
  have hN := nb2_lt l 4
  have wx0 := adrH_lt (l := (l.drop 8).take 16) (by rw [List.length_take, List.length_drop]; omega)
  have wx1 := adrL_lt (l := (l.drop 8).take 16) (by rw [List.length_take, List.length_drop]; omega)
  have wy0 := adrH_lt (l := (l.drop 24).take 16) (by rw [List.length_take, List.length_drop]; omega)
  have wy1 := adrL_lt (l := (l.drop 24).take 16) (by rw [List.length_take, List.length_drop]; omega)
  simp only [vcells, view6] at cv
  have hQ := byN_lt l 6
  have hP := byN_lt l 7
  simp only [view6] at h3
  generalize nbN l 4 2 = N at *
  generalize byN l 6 = Q at *
  generalize byN l 7 = P at *
  generalize adrH ((l.drop 8).take 16) = X0 at *
  generalize adrL ((l.drop 8).take 16) = X1 at *
  generalize adrH ((l.drop 24).take 16) = Y0 at *
  generalize adrL ((l.drop 24).take 16) = Y1 at *
  clear hb hn
  obtain ⟨T, hT⟩ : ∃ T, T = N + 40 := ⟨_, rfl⟩
  rw [← hT] at cv h2 h5
  have HT := Lib.hid hT
  have wN : IntKind.i64.wrap (N : Int) = (N : Int) := by rw [IntKind.wrap_i64]; omega
  have wT : IntKind.i64.wrap ((N : Int) + 40) = (T : Int) := by rw [IntKind.wrap_i64]; omega
  have hTb : T < 65577 := by omega
  have hTbi : (T : Int) < 65577 := by omega
  have hT40i : (40 : Int) ≤ (T : Int) := by omega
  clear hT
  have hTn : decide ((n : Int) < (T : Int)) = false := by simp; have := HT.out; omega
  have hTnn : decide (n < T) = false := by simp; have := HT.out; omega
  have hTni : ¬ (n : Int) < (T : Int) := by have := HT.out; omega
  have hq : ((Q : Int) != 44) = false := by simp; omega
  have hl : decide ((T : Int) < 48) = false := by simp; omega
  have hli : ¬ (T : Int) < 48 := by omega
  have s40 : ∀ W, (Instr.slice 22 (.slice (some ⟨g, o, none⟩) n c) (some (.int .i64 40)) (some (.int .i64 48)) none).run Try.prog W = .ok (.slice (some ⟨g, o + 40, none⟩) 8 (c - 40)) W := cut_lh g o n c 40 48 (by omega) (by omega) (by omega) hcm
  have c40 := by_cell HB.out HN.out 40 (by omega)
  have hH := byN_lt l 40
  generalize byN l 40 = H at *
  have wH : IntKind.i64.wrap (H : Int) = (H : Int) := by rw [IntKind.wrap_i64]; omega
  have hh44 : ((H : Int) == 44) = true := by simp; omega
  clear h5 h4 h6
  clear h2
  simp only [vcells, zvw, view6]
  have cf := fam_any true
  simp only [famCells, if_true] at cf
  go_enter Try.func75, Try.ntmps75
  go_wp2_with (go_at_call 28; refine (cf _).mono ?_; rintro e w2 ⟨rfl, hb2⟩; refine Hid.out ?_)
  have bw2 : Below w.heap.size w w2 := bel_via (Below.al (Below.refl _ _) _) hb2
  have hR2 : w2.heap[w.heap.size]? = some (.cells #[.bool false, .int .i64 0, .int .i64 0, .int .i64 0, .int .i64 0, .int .u64 0, .int .u64 0, .int .u64 0, .int .u64 0, .bool false, .int .u32 0, .int .i64 0, .bool false] 40 (0, 0)) := by rw [hb2.block _ (by simp)]; exact al_neww rfl _
  have hz2 : w.heap.size < w2.heap.size := (Array.getElem?_eq_some_iff.1 hR2).1
  clear hb2 cf
  refine Lib.hid ?_
  go_wp2_with (with_reducible refine stop_op (o := ⟨some 13, _, _, _, _, _⟩) ?_)
  obtain ⟨w3, hw3⟩ : ∃ v, v = w2.alloc (.cells #[.bool true, .int .i64 40, .int .i64 7, .int .i64 6, .int .i64 8, .int .i64 16] 69) := ⟨_, rfl⟩
  have hF3 : w3.heap[w2.heap.size]? = some (.cells #[.bool true, .int .i64 40, .int .i64 7, .int .i64 6, .int .i64 8, .int .i64 16] 69 (0, 0)) := by rw [hw3]; exact al_neww rfl _
  have hR3 : w3.heap[w.heap.size]? = some (.cells #[.bool false, .int .i64 0, .int .i64 0, .int .i64 0, .int .i64 0, .int .u64 0, .int .u64 0, .int .u64 0, .int .u64 0, .bool false, .int .u32 0, .int .i64 0, .bool false] 40 (0, 0)) := by rw [hw3, al_oldw hz2]; exact hR2
  have bw3 : Below w.heap.size w w3 := by rw [hw3]; exact Below.al bw2 _
  obtain ⟨⟨f0, f1, f2, f3, f4, f5⟩, _⟩ := cells6 hF3
  obtain ⟨⟨r0, r1, r2, r3, r4, r5, r6, r7, r8, r9, r10, r11, r12⟩, q0, q1, q2, q3, q4, q5, q6, q7, q8, q9, q10, q11, q12⟩ := cells13 hR3
  rw [← hw3]
  clear hw3 hR2 bw2
  refine Lib.hid ?_
  go_wp2_with fail
  have hz3 : w2.heap.size < w3.heap.size := (Array.getElem?_eq_some_iff.1 hF3).1
  have bq := fun d os => bw3.trans ((below_regrown w3 d os).mono bw3.size)
  have qa := fun d os => Calls.regrown_of (n4 (grow (redrawn w3 d) os) (bq d os))
  have k1 := cell_regrown f1
  refine wp_region_quiet_below (by kernel_rfl) (by kernel_rfl) ?_
  repeat (first | go_big_quiet_skip | quiet_step (first | (go_at_call 69; with_reducible exact qa _ _)))
  refine wpQuiet_nil ?_
  intro _ hw'
  obtain ⟨⟨dq, osq⟩, hw''⟩ := hw'
  subst hw''
  obtain ⟨w4, hw4⟩ : ∃ v, v = grow (redrawn w3 dq) osq := ⟨_, rfl⟩
  have b34 : Below w3.heap.size w3 w4 := by rw [hw4]; exact below_regrown _ _ _
  have bw4 : Below w.heap.size w w4 := bw3.trans (b34.mono bw3.size)
  have hF4 : w4.heap[w2.heap.size]? = some (.cells #[.bool true, .int .i64 40, .int .i64 7, .int .i64 6, .int .i64 8, .int .i64 16] 69 (0, 0)) := (b34.block _ hz3).trans hF3
  have hR4 : w4.heap[w.heap.size]? = some (.cells #[.bool false, .int .i64 0, .int .i64 0, .int .i64 0, .int .i64 0, .int .u64 0, .int .u64 0, .int .u64 0, .int .u64 0, .bool false, .int .u32 0, .int .i64 0, .bool false] 40 (0, 0)) := (b34.block _ (by omega)).trans hR3
  rw [← hw4]
  clear hw4 b34 bq qa n4 k1 wN wT r0 r1 r2 r3 r4 r5 r6 r7 r8 r9 r10 r11 r12 q0 q1 q2 q3 q4 q5 q6 q7 q8 q9 q10 q11 q12 f0 f1 f2 f3 f4 f5 hF3 hR3 bw3
  obtain ⟨⟨f0, f1, f2, f3, f4, f5⟩, _⟩ := cells6 hF4
  obtain ⟨⟨r0, r1, r2, r3, r4, r5, r6, r7, r8, r9, r10, r11, r12⟩, q0, q1, q2, q3, q4, q5, q6, q7, q8, q9, q10, q11, q12⟩ := cells13 hR4
  go_wp2_with (go_at_call 83; refine (cv _ bw4).mono ?_; rintro e w6 ⟨rfl, hb6w⟩; refine Hid.out ?_)
  have bw6 : Below w.heap.size w w6 := bw4.trans (hb6w.mono bw4.size)
  have hz4 : w2.heap.size < w4.heap.size := (Array.getElem?_eq_some_iff.1 hF4).1
  have hR6 : w6.heap[w.heap.size]? = some (.cells #[.bool false, .int .i64 0, .int .i64 0, .int .i64 0, .int .i64 0, .int .u64 0, .int .u64 0, .int .u64 0, .int .u64 0, .bool false, .int .u32 0, .int .i64 0, .bool false] 40 (0, 0)) := (hb6w.block _ (by omega)).trans hR4
  have hF6 : w6.heap[w2.heap.size]? = some (.cells #[.bool true, .int .i64 40, .int .i64 7, .int .i64 6, .int .i64 8, .int .i64 16] 69 (0, 0)) := (hb6w.block _ hz4).trans hF4
  have hz6 : w2.heap.size < w6.heap.size := (Array.getElem?_eq_some_iff.1 hF6).1
  clear hb6w cv r0 r1 r2 r3 r4 r5 r6 r7 r8 r9 r10 r11 r12 q0 q1 q2 q3 q4 q5 q6 q7 q8 q9 q10 q11 q12 f0 f1 f2 f3 f4 f5 hF4 hR4 bw4
  refine Lib.hid ?_
  go_wp2_with (with_reducible refine stop_op (o := ⟨some 33, _, _, _, _, _⟩) ?_)
  obtain ⟨w7, hw7⟩ : ∃ x, x = w6.alloc (.cells #[.bool true, .int .i64 40, .int .i64 (T : Int), .int .i64 (P : Int), .int .i64 (Q : Int), .int .u64 (X0 : Int), .int .u64 (X1 : Int), .int .u64 (Y0 : Int), .int .u64 (Y1 : Int), .bool false, .int .u32 0, .int .i64 0, .bool false] 40) := ⟨_, rfl⟩
  have hV7 : w7.heap[w6.heap.size]? = some (.cells #[.bool true, .int .i64 40, .int .i64 (T : Int), .int .i64 (P : Int), .int .i64 (Q : Int), .int .u64 (X0 : Int), .int .u64 (X1 : Int), .int .u64 (Y0 : Int), .int .u64 (Y1 : Int), .bool false, .int .u32 0, .int .i64 0, .bool false] 40 (0, 0)) := by rw [hw7]; exact al_neww rfl _
  have hR7 : w7.heap[w.heap.size]? = some (.cells #[.bool false, .int .i64 0, .int .i64 0, .int .i64 0, .int .i64 0, .int .u64 0, .int .u64 0, .int .u64 0, .int .u64 0, .bool false, .int .u32 0, .int .i64 0, .bool false] 40 (0, 0)) := by rw [hw7, al_oldw (by omega)]; exact hR6
  have hF7 : w7.heap[w2.heap.size]? = some (.cells #[.bool true, .int .i64 40, .int .i64 7, .int .i64 6, .int .i64 8, .int .i64 16] 69 (0, 0)) := by rw [hw7, al_oldw hz6]; exact hF6
  have bw7 : Below w.heap.size w w7 := by rw [hw7]; exact Below.al bw6 _
  obtain ⟨⟨t0, t1, t2, t3, t4, t5, t6, t7, t8, t9, t10, t11, t12⟩, _⟩ := cells13 hV7
  obtain ⟨⟨f0, f1, f2, f3, f4, f5⟩, _⟩ := cells6 hF7
  rw [← hw7]
  clear hw7 hR6 hF6 bw6
  refine Lib.hid ?_
  go_wp2_with (with_reducible refine stop_op (o := ⟨some 39, _, _, _, _, _⟩) ?_)
  obtain ⟨w8, hw8⟩ : ∃ x, x = w7.alloc (.cells #[.int .u64 (X0 : Int), .int .u64 (X1 : Int), .int .u64 (Y0 : Int), .int .u64 (Y1 : Int)] 25) := ⟨_, rfl⟩
  have hz7 : w6.heap.size < w7.heap.size := (Array.getElem?_eq_some_iff.1 hV7).1
  have hL8 : w8.heap[w7.heap.size]? = some (.cells #[.int .u64 (X0 : Int), .int .u64 (X1 : Int), .int .u64 (Y0 : Int), .int .u64 (Y1 : Int)] 25 (0, 0)) := by rw [hw8]; exact al_neww rfl _
  have hV8 : w8.heap[w6.heap.size]? = some (.cells #[.bool true, .int .i64 40, .int .i64 (T : Int), .int .i64 (P : Int), .int .i64 (Q : Int), .int .u64 (X0 : Int), .int .u64 (X1 : Int), .int .u64 (Y0 : Int), .int .u64 (Y1 : Int), .bool false, .int .u32 0, .int .i64 0, .bool false] 40 (0, 0)) := by rw [hw8, al_oldw hz7]; exact hV7
  have hR8 : w8.heap[w.heap.size]? = some (.cells #[.bool false, .int .i64 0, .int .i64 0, .int .i64 0, .int .i64 0, .int .u64 0, .int .u64 0, .int .u64 0, .int .u64 0, .bool false, .int .u32 0, .int .i64 0, .bool false] 40 (0, 0)) := by rw [hw8, al_oldw (by omega)]; exact hR7
  have hF8 : w8.heap[w2.heap.size]? = some (.cells #[.bool true, .int .i64 40, .int .i64 7, .int .i64 6, .int .i64 8, .int .i64 16] 69 (0, 0)) := by rw [hw8, al_oldw (by omega)]; exact hF7
  have bw8 : Below w.heap.size w w8 := by rw [hw8]; exact Below.al bw7 _
  have hA8 : AdrsAt w8 w7.heap.size 0 [((X0 : Int), (X1 : Int)), ((Y0 : Int), (Y1 : Int))] := by
    obtain ⟨⟨a0, a1, a2, a3⟩, _⟩ := cells4 hL8
    intro k a h
    match k, h with
    | 0, h => obtain rfl : _ = a := by simpa using h
              exact ⟨a0, a1, wx0, wx1⟩
    | 1, h => obtain rfl : _ = a := by simpa using h
              exact ⟨a2, a3, wy0, wy1⟩
    | k + 2, h => simp at h
  have ch := has_true w7.heap.size 0 2 2 _ rfl (by omega) hA8
  rw [show hasP true [((X0 : Int), (X1 : Int)), ((Y0 : Int), (Y1 : Int))] = true from by rw [hasP_two]; simp only; rw [h3]; rfl] at ch
  rw [← hw8]
  clear hw8 hL8 hA8 hR7 hF7 hV7 bw7 t0 t1 t2 t3 t4 t5 t6 t7 t8 t9 t10 t11 t12 f0 f1 f2 f3 f4 f5 wx0 wx1 wy0 wy1
  simp only [famCells, if_true] at ch
  refine Lib.hid ?_
  go_wp2_with (go_at_call 29; refine ch.mono ?_; rintro e w9 ⟨rfl, hb9w⟩; refine Hid.out ?_)
  have bw9 : Below w.heap.size w w9 := bw8.trans (hb9w.mono bw8.size)
  have hz8 : w6.heap.size < w8.heap.size := (Array.getElem?_eq_some_iff.1 hV8).1
  have hV9 : w9.heap[w6.heap.size]? = some (.cells #[.bool true, .int .i64 40, .int .i64 (T : Int), .int .i64 (P : Int), .int .i64 (Q : Int), .int .u64 (X0 : Int), .int .u64 (X1 : Int), .int .u64 (Y0 : Int), .int .u64 (Y1 : Int), .bool false, .int .u32 0, .int .i64 0, .bool false] 40 (0, 0)) := (hb9w.block _ hz8).trans hV8
  have hR9 : w9.heap[w.heap.size]? = some (.cells #[.bool false, .int .i64 0, .int .i64 0, .int .i64 0, .int .i64 0, .int .u64 0, .int .u64 0, .int .u64 0, .int .u64 0, .bool false, .int .u32 0, .int .i64 0, .bool false] 40 (0, 0)) := (hb9w.block _ (by omega)).trans hR8
  have hF9 : w9.heap[w2.heap.size]? = some (.cells #[.bool true, .int .i64 40, .int .i64 7, .int .i64 6, .int .i64 8, .int .i64 16] 69 (0, 0)) := (hb9w.block _ (by omega)).trans hF8
  clear hb9w ch hV8 hR8 hF8 bw8 h3
  obtain ⟨⟨t0, t1, t2, t3, t4, t5, t6, t7, t8, t9, t10, t11, t12⟩, u0, u1, u2, u3, u4, u5, u6, u7, u8, u9, u10, u11, u12⟩ := cells13 hV9
  obtain ⟨⟨f0, f1, f2, f3, f4, f5⟩, _⟩ := cells6 hF9
  obtain ⟨⟨r0, r1, r2, r3, r4, r5, r6, r7, r8, r9, r10, r11, r12⟩, q0, q1, q2, q3, q4, q5, q6, q7, q8, q9, q10, q11, q12⟩ := cells13 hR9
  refine Lib.hid ?_
  have c49 := keepc bw9 c40
  go_wp2_with (with_reducible refine stop_op (o := ⟨some 71, _, _, _, _, _⟩) ?_)
  obtain ⟨w10, hw10⟩ : ∃ x, x = (w9.setCell ⟨w6.heap.size, 1, none⟩ (.int .i64 48)).setCell ⟨w6.heap.size, 4, none⟩ (.int .i64 (H : Int)) := ⟨_, rfl⟩
  have hV10 : w10.heap[w6.heap.size]? = some (.cells #[.bool true, .int .i64 48, .int .i64 (T : Int), .int .i64 (P : Int), .int .i64 (H : Int), .int .u64 (X0 : Int), .int .u64 (X1 : Int), .int .u64 (Y0 : Int), .int .u64 (Y1 : Int), .bool false, .int .u32 0, .int .i64 0, .bool false] 40 (0, 0)) := by rw [hw10]; exact set_v2 hV9 _ _
  have hR10 : w10.heap[w.heap.size]? = some (.cells #[.bool false, .int .i64 0, .int .i64 0, .int .i64 0, .int .i64 0, .int .u64 0, .int .u64 0, .int .u64 0, .int .u64 0, .bool false, .int .u32 0, .int .i64 0, .bool false] 40 (0, 0)) := by rw [hw10, set_other (by omega), set_other (by omega)]; exact hR9
  have bw10 : Below w.heap.size w w10 := by rw [hw10]; exact below_set (below_set bw9 (by omega) 1 _) (by omega) 4 _
  rw [← hw10]
  clear hw10 bw9 t0 t1 t2 t3 t4 t5 t6 t7 t8 t9 t10 t11 t12 u0 u1 u2 u3 u4 u5 u6 u7 u8 u9 u10 u11 u12 f0 f1 f2 f3 f4 f5 r0 r1 r2 r3 r4 r5 r6 r7 r8 r9 r10 r11 r12 q0 q1 q2 q3 q4 q5 q6 q7 q8 q9 q10 q11 q12 hV9 hR9 hF9 c49 s40
  obtain ⟨⟨t0, t1, t2, t3, t4, t5, t6, t7, t8, t9, t10, t11, t12⟩, u0, u1, u2, u3, u4, u5, u6, u7, u8, u9, u10, u11, u12⟩ := cells13 hV10
  obtain ⟨⟨r0, r1, r2, r3, r4, r5, r6, r7, r8, r9, r10, r11, r12⟩, q0, q1, q2, q3, q4, q5, q6, q7, q8, q9, q10, q11, q12⟩ := cells13 hR10
  refine Lib.hid ?_
  go_wp2
  refine bodyPost_ret_by (res_row Try.results75 _ _ w.heap.size 40 #[.bool false, .int .i64 0, .int .i64 0, .int .i64 0, .int .i64 0, .int .u64 0, .int .u64 0, .int .u64 0, .int .u64 0, .bool false, .int .u32 0, .int .i64 0, .bool false] _ rfl (heap_set13w hR10 (.bool false) (.int .i64 0) (.int .i64 0) (.int .i64 0) (.int .i64 0) (.int .u64 0) (.int .u64 0) (.int .u64 0) (.int .u64 0) (.bool false) (.int .u32 0) (.int .i64 0) (.bool false)) Try.underlying40 (by kernel_rfl)) rfl ⟨rfl, ?_⟩
  exact below_set13 bw10 (by omega) _ _ _ _ _ _ _ _ _ _ _ _ _

set_option maxHeartbeats 2000000 in
set_option maxRecDepth 100000 in
theorem p6_g (g o c n : Nat) (l : List UInt8) (hn : l.length = n) (hc : n ≤ c) (hcm : c ≤ 9223372036854775807) (h1 : 40 ≤ n) (h2 : nbN l 4 2 + 40 ≤ n) (h3 : (is4I (view6 l 0).srcH (view6 l 0).srcL || is4I (view6 l 0).dstH (view6 l 0).dstL) = false) (h4 : byN l 6 = 44) (h5 : 48 ≤ nbN l 4 2 + 40) (h6 : byN l 40 ≠ 44) {w : World} (hb : Byt w g o l) :
    Calls Try.prog 75 #[.slice (some ⟨g, o, none⟩) n c] w fun e w' => e = .returned (.tuple #[.agg (vcells (partP { view6 l (nbN l 4 2 + 40) with head := 48, proto := byN l 40, id := nbN l 44 4 } ((nbN l 42 2 / 8 * 8 : Nat) : Int) ((nbN l 42 2 % 2 : Nat) : Int))), .int .i64 0]) ∧ Below w.heap.size w w' := by
  have hi : ¬ (n : Int) < 40 := by omega
  have hi2 : decide ((n : Int) < 40) = false := by simp; omega
  have hi3 : decide (n < 40) = false := by simp; omega
  have s4 : ∀ W, (Instr.slice 22 (.slice (some ⟨g, o, none⟩) n c) (some (.int .i64 4)) (some (.int .i64 6)) none).run Try.prog W = .ok (.slice (some ⟨g, o + 4, none⟩) 2 (c - 4)) W := cut_lh g o n c 4 6 (by omega) (by omega) (by omega) hcm
  have n4 := nb_bel g o n c 4 2 l hn (by omega) (by omega) hb
  have cv := fun (W : World) (h : Below w.heap.size w W) => view_6 g o c n (nbN l 4 2 + 40) l hn (by omega) hc hcm (hb.below h)
  have HB := Lib.hid hb
  have HN := Lib.hid hn
  have hN := nb2_lt l 4
  have wx0 := adrH_lt (l := (l.drop 8).take 16) (by rw [List.length_take, List.length_drop]; omega)
  have wx1 := adrL_lt (l := (l.drop 8).take 16) (by rw [List.length_take, List.length_drop]; omega)
  have wy0 := adrH_lt (l := (l.drop 24).take 16) (by rw [List.length_take, List.length_drop]; omega)
  have wy1 := adrL_lt (l := (l.drop 24).take 16) (by rw [List.length_take, List.length_drop]; omega)
  simp only [vcells, view6] at cv
  have hQ := byN_lt l 6
  have hP := byN_lt l 7
  simp only [view6] at h3 ⊢
  generalize nbN l 4 2 = N at *
  generalize byN l 6 = Q at *
  generalize byN l 7 = P at *
  generalize adrH ((l.drop 8).take 16) = X0 at *
  generalize adrL ((l.drop 8).take 16) = X1 at *
  generalize adrH ((l.drop 24).take 16) = Y0 at *
  generalize adrL ((l.drop 24).take 16) = Y1 at *
  clear hb hn
  obtain ⟨T, hT⟩ : ∃ T, T = N + 40 := ⟨_, rfl⟩
  rw [← hT] at cv h2 h5 ⊢
  have HT := Lib.hid hT
  have wN : IntKind.i64.wrap (N : Int) = (N : Int) := by rw [IntKind.wrap_i64]; omega
  have wT : IntKind.i64.wrap ((N : Int) + 40) = (T : Int) := by rw [IntKind.wrap_i64]; omega
  have hTb : T < 65577 := by omega
  have hTbi : (T : Int) < 65577 := by omega
  have hT40i : (40 : Int) ≤ (T : Int) := by omega
  clear hT
  have hTn : decide ((n : Int) < (T : Int)) = false := by simp; have := HT.out; omega
  have hTnn : decide (n < T) = false := by simp; have := HT.out; omega
  have hTni : ¬ (n : Int) < (T : Int) := by have := HT.out; omega
  have hq : ((Q : Int) != 44) = false := by simp; omega
  have hl : decide ((T : Int) < 48) = false := by simp; omega
  have hli : ¬ (T : Int) < 48 := by omega
  have s40 : ∀ W, (Instr.slice 22 (.slice (some ⟨g, o, none⟩) n c) (some (.int .i64 40)) (some (.int .i64 48)) none).run Try.prog W = .ok (.slice (some ⟨g, o + 40, none⟩) 8 (c - 40)) W := cut_lh g o n c 40 48 (by omega) (by omega) (by omega) hcm
  have c40 := by_cell HB.out HN.out 40 (by omega)
  have hH := byN_lt l 40
  generalize byN l 40 = H at *
  have wH : IntKind.i64.wrap (H : Int) = (H : Int) := by rw [IntKind.wrap_i64]; omega
  have hh44 : ((H : Int) == 44) = false := by simp; omega
  have s44 : ∀ W, (Instr.slice 22 (.slice (some ⟨g, o + 40, none⟩) 8 (c - 40)) (some (.int .i64 4)) (some (.int .i64 8)) none).run Try.prog W = .ok (.slice (some ⟨g, o + 40 + 4, none⟩) 4 (c - 40 - 4)) W := cut_lh g (o + 40) 8 (c - 40) 4 8 (by omega) (by omega) (by omega) (by omega)
  have s42 : ∀ W, (Instr.slice 22 (.slice (some ⟨g, o + 40, none⟩) 8 (c - 40)) (some (.int .i64 2)) (some (.int .i64 4)) none).run Try.prog W = .ok (.slice (some ⟨g, o + 40 + 2, none⟩) 2 (c - 40 - 2)) W := cut_lh g (o + 40) 8 (c - 40) 2 4 (by omega) (by omega) (by omega) (by omega)
  have n44 := fun (W : World) (h : Below w.heap.size w W) => number_any g (o + 40 + 4) (c - 40 - 4) 4 ((l.drop 44).take 4) (by rw [List.length_take, List.length_drop]; have := HN.out; omega) (by omega) (show Byt W g (o + 40 + 4) ((l.drop 44).take 4) from (HB.out.below h).sub 44 4)
  have n42 := fun (W : World) (h : Below w.heap.size w W) => number_any g (o + 40 + 2) (c - 40 - 2) 2 ((l.drop 42).take 2) (by rw [List.length_take, List.length_drop]; have := HN.out; omega) (by omega) (show Byt W g (o + 40 + 2) ((l.drop 42).take 2) from (HB.out.below h).sub 42 2)
  have hI := nb4_lt l 44
  have hS := nb2_lt l 42
  simp only [show numB ((l.drop 44).take 4) = nbN l 44 4 from rfl] at n44
  simp only [show numB ((l.drop 42).take 2) = nbN l 42 2 from rfl] at n42
  generalize nbN l 44 4 = I4 at *
  generalize nbN l 42 2 = S at *
  have wI : IntKind.u32.wrap (I4 : Int) = (I4 : Int) := by rw [IntKind.wrap_u32]; omega
  have hIi : (I4 : Int) < 4294967296 := by omega
  obtain ⟨a, ha⟩ : ∃ a, a = S / 8 * 8 := ⟨_, rfl⟩
  obtain ⟨m, hm⟩ : ∃ a, a = S % 2 := ⟨_, rfl⟩
  have ea : bits .andNot .u64 (S : Int) 7 = (a : Int) := by rw [ha]; exact andNot7 S hS
  have em : bits .and .u64 (S : Int) 1 = (m : Int) := by have := andU64 S 1 (by omega) hS; rw [hm]; exact this
  have a8 : a < 65536 := by omega
  have a8i : (a : Int) < 65536 := by omega
  have m8i : (m : Int) < 2 := by omega
  rw [← ha, ← hm]
  have Ha := Lib.hid ha
  have Hm := Lib.hid hm
  clear ha hm h5 h4
  obtain ⟨vp, hvp⟩ : ∃ x, x = partP ⟨true, 48, T, P, H, X0, X1, Y0, Y1, false, I4, 0, false⟩ (a : Int) (m : Int) := ⟨_, rfl⟩
  rw [← hvp]
  have Hvp := Lib.hid hvp
  clear hvp
  clear h2
  simp only [vcells, zvw, view6]
  have cf := fam_any true
  simp only [famCells, if_true] at cf
  go_enter Try.func75, Try.ntmps75
  go_wp2_with (go_at_call 28; refine (cf _).mono ?_; rintro e w2 ⟨rfl, hb2⟩; refine Hid.out ?_)
  have bw2 : Below w.heap.size w w2 := bel_via (Below.al (Below.refl _ _) _) hb2
  have hR2 : w2.heap[w.heap.size]? = some (.cells #[.bool false, .int .i64 0, .int .i64 0, .int .i64 0, .int .i64 0, .int .u64 0, .int .u64 0, .int .u64 0, .int .u64 0, .bool false, .int .u32 0, .int .i64 0, .bool false] 40 (0, 0)) := by rw [hb2.block _ (by simp)]; exact al_neww rfl _
  have hz2 : w.heap.size < w2.heap.size := (Array.getElem?_eq_some_iff.1 hR2).1
  clear hb2 cf
  refine Lib.hid ?_
  go_wp2_with (with_reducible refine stop_op (o := ⟨some 13, _, _, _, _, _⟩) ?_)
  obtain ⟨w3, hw3⟩ : ∃ v, v = w2.alloc (.cells #[.bool true, .int .i64 40, .int .i64 7, .int .i64 6, .int .i64 8, .int .i64 16] 69) := ⟨_, rfl⟩
  have hF3 : w3.heap[w2.heap.size]? = some (.cells #[.bool true, .int .i64 40, .int .i64 7, .int .i64 6, .int .i64 8, .int .i64 16] 69 (0, 0)) := by rw [hw3]; exact al_neww rfl _
  have hR3 : w3.heap[w.heap.size]? = some (.cells #[.bool false, .int .i64 0, .int .i64 0, .int .i64 0, .int .i64 0, .int .u64 0, .int .u64 0, .int .u64 0, .int .u64 0, .bool false, .int .u32 0, .int .i64 0, .bool false] 40 (0, 0)) := by rw [hw3, al_oldw hz2]; exact hR2
  have bw3 : Below w.heap.size w w3 := by rw [hw3]; exact Below.al bw2 _
  obtain ⟨⟨f0, f1, f2, f3, f4, f5⟩, _⟩ := cells6 hF3
  obtain ⟨⟨r0, r1, r2, r3, r4, r5, r6, r7, r8, r9, r10, r11, r12⟩, q0, q1, q2, q3, q4, q5, q6, q7, q8, q9, q10, q11, q12⟩ := cells13 hR3
  rw [← hw3]
  clear hw3 hR2 bw2
  refine Lib.hid ?_
  go_wp2_with fail
  have hz3 : w2.heap.size < w3.heap.size := (Array.getElem?_eq_some_iff.1 hF3).1
  have bq := fun d os => bw3.trans ((below_regrown w3 d os).mono bw3.size)
  have qa := fun d os => Calls.regrown_of (n4 (grow (redrawn w3 d) os) (bq d os))
  have k1 := cell_regrown f1
  refine wp_region_quiet_below (by kernel_rfl) (by kernel_rfl) ?_
  repeat (first | go_big_quiet_skip | quiet_step (first | (go_at_call 69; with_reducible exact qa _ _)))
  refine wpQuiet_nil ?_
  intro _ hw'
  obtain ⟨⟨dq, osq⟩, hw''⟩ := hw'
  subst hw''
  obtain ⟨w4, hw4⟩ : ∃ v, v = grow (redrawn w3 dq) osq := ⟨_, rfl⟩
  have b34 : Below w3.heap.size w3 w4 := by rw [hw4]; exact below_regrown _ _ _
  have bw4 : Below w.heap.size w w4 := bw3.trans (b34.mono bw3.size)
  have hF4 : w4.heap[w2.heap.size]? = some (.cells #[.bool true, .int .i64 40, .int .i64 7, .int .i64 6, .int .i64 8, .int .i64 16] 69 (0, 0)) := (b34.block _ hz3).trans hF3
  have hR4 : w4.heap[w.heap.size]? = some (.cells #[.bool false, .int .i64 0, .int .i64 0, .int .i64 0, .int .i64 0, .int .u64 0, .int .u64 0, .int .u64 0, .int .u64 0, .bool false, .int .u32 0, .int .i64 0, .bool false] 40 (0, 0)) := (b34.block _ (by omega)).trans hR3
  rw [← hw4]
  clear hw4 b34 bq qa n4 k1 wN wT r0 r1 r2 r3 r4 r5 r6 r7 r8 r9 r10 r11 r12 q0 q1 q2 q3 q4 q5 q6 q7 q8 q9 q10 q11 q12 f0 f1 f2 f3 f4 f5 hF3 hR3 bw3
  obtain ⟨⟨f0, f1, f2, f3, f4, f5⟩, _⟩ := cells6 hF4
  obtain ⟨⟨r0, r1, r2, r3, r4, r5, r6, r7, r8, r9, r10, r11, r12⟩, q0, q1, q2, q3, q4, q5, q6, q7, q8, q9, q10, q11, q12⟩ := cells13 hR4
  go_wp2_with (go_at_call 83; refine (cv _ bw4).mono ?_; rintro e w6 ⟨rfl, hb6w⟩; refine Hid.out ?_)
  have bw6 : Below w.heap.size w w6 := bw4.trans (hb6w.mono bw4.size)
  have hz4 : w2.heap.size < w4.heap.size := (Array.getElem?_eq_some_iff.1 hF4).1
  have hR6 : w6.heap[w.heap.size]? = some (.cells #[.bool false, .int .i64 0, .int .i64 0, .int .i64 0, .int .i64 0, .int .u64 0, .int .u64 0, .int .u64 0, .int .u64 0, .bool false, .int .u32 0, .int .i64 0, .bool false] 40 (0, 0)) := (hb6w.block _ (by omega)).trans hR4
  have hF6 : w6.heap[w2.heap.size]? = some (.cells #[.bool true, .int .i64 40, .int .i64 7, .int .i64 6, .int .i64 8, .int .i64 16] 69 (0, 0)) := (hb6w.block _ hz4).trans hF4
  have hz6 : w2.heap.size < w6.heap.size := (Array.getElem?_eq_some_iff.1 hF6).1
  clear hb6w cv r0 r1 r2 r3 r4 r5 r6 r7 r8 r9 r10 r11 r12 q0 q1 q2 q3 q4 q5 q6 q7 q8 q9 q10 q11 q12 f0 f1 f2 f3 f4 f5 hF4 hR4 bw4
  refine Lib.hid ?_
  go_wp2_with (with_reducible refine stop_op (o := ⟨some 33, _, _, _, _, _⟩) ?_)
  obtain ⟨w7, hw7⟩ : ∃ x, x = w6.alloc (.cells #[.bool true, .int .i64 40, .int .i64 (T : Int), .int .i64 (P : Int), .int .i64 (Q : Int), .int .u64 (X0 : Int), .int .u64 (X1 : Int), .int .u64 (Y0 : Int), .int .u64 (Y1 : Int), .bool false, .int .u32 0, .int .i64 0, .bool false] 40) := ⟨_, rfl⟩
  have hV7 : w7.heap[w6.heap.size]? = some (.cells #[.bool true, .int .i64 40, .int .i64 (T : Int), .int .i64 (P : Int), .int .i64 (Q : Int), .int .u64 (X0 : Int), .int .u64 (X1 : Int), .int .u64 (Y0 : Int), .int .u64 (Y1 : Int), .bool false, .int .u32 0, .int .i64 0, .bool false] 40 (0, 0)) := by rw [hw7]; exact al_neww rfl _
  have hR7 : w7.heap[w.heap.size]? = some (.cells #[.bool false, .int .i64 0, .int .i64 0, .int .i64 0, .int .i64 0, .int .u64 0, .int .u64 0, .int .u64 0, .int .u64 0, .bool false, .int .u32 0, .int .i64 0, .bool false] 40 (0, 0)) := by rw [hw7, al_oldw (by omega)]; exact hR6
  have hF7 : w7.heap[w2.heap.size]? = some (.cells #[.bool true, .int .i64 40, .int .i64 7, .int .i64 6, .int .i64 8, .int .i64 16] 69 (0, 0)) := by rw [hw7, al_oldw hz6]; exact hF6
  have bw7 : Below w.heap.size w w7 := by rw [hw7]; exact Below.al bw6 _
  obtain ⟨⟨t0, t1, t2, t3, t4, t5, t6, t7, t8, t9, t10, t11, t12⟩, _⟩ := cells13 hV7
  obtain ⟨⟨f0, f1, f2, f3, f4, f5⟩, _⟩ := cells6 hF7
  rw [← hw7]
  clear hw7 hR6 hF6 bw6
  refine Lib.hid ?_
  go_wp2_with (with_reducible refine stop_op (o := ⟨some 39, _, _, _, _, _⟩) ?_)
  obtain ⟨w8, hw8⟩ : ∃ x, x = w7.alloc (.cells #[.int .u64 (X0 : Int), .int .u64 (X1 : Int), .int .u64 (Y0 : Int), .int .u64 (Y1 : Int)] 25) := ⟨_, rfl⟩
  have hz7 : w6.heap.size < w7.heap.size := (Array.getElem?_eq_some_iff.1 hV7).1
  have hL8 : w8.heap[w7.heap.size]? = some (.cells #[.int .u64 (X0 : Int), .int .u64 (X1 : Int), .int .u64 (Y0 : Int), .int .u64 (Y1 : Int)] 25 (0, 0)) := by rw [hw8]; exact al_neww rfl _
  have hV8 : w8.heap[w6.heap.size]? = some (.cells #[.bool true, .int .i64 40, .int .i64 (T : Int), .int .i64 (P : Int), .int .i64 (Q : Int), .int .u64 (X0 : Int), .int .u64 (X1 : Int), .int .u64 (Y0 : Int), .int .u64 (Y1 : Int), .bool false, .int .u32 0, .int .i64 0, .bool false] 40 (0, 0)) := by rw [hw8, al_oldw hz7]; exact hV7
  have hR8 : w8.heap[w.heap.size]? = some (.cells #[.bool false, .int .i64 0, .int .i64 0, .int .i64 0, .int .i64 0, .int .u64 0, .int .u64 0, .int .u64 0, .int .u64 0, .bool false, .int .u32 0, .int .i64 0, .bool false] 40 (0, 0)) := by rw [hw8, al_oldw (by omega)]; exact hR7
  have hF8 : w8.heap[w2.heap.size]? = some (.cells #[.bool true, .int .i64 40, .int .i64 7, .int .i64 6, .int .i64 8, .int .i64 16] 69 (0, 0)) := by rw [hw8, al_oldw (by omega)]; exact hF7
  have bw8 : Below w.heap.size w w8 := by rw [hw8]; exact Below.al bw7 _
  have hA8 : AdrsAt w8 w7.heap.size 0 [((X0 : Int), (X1 : Int)), ((Y0 : Int), (Y1 : Int))] := by
    obtain ⟨⟨a0, a1, a2, a3⟩, _⟩ := cells4 hL8
    intro k a h
    match k, h with
    | 0, h => obtain rfl : _ = a := by simpa using h
              exact ⟨a0, a1, wx0, wx1⟩
    | 1, h => obtain rfl : _ = a := by simpa using h
              exact ⟨a2, a3, wy0, wy1⟩
    | k + 2, h => simp at h
  have ch := has_true w7.heap.size 0 2 2 _ rfl (by omega) hA8
  rw [show hasP true [((X0 : Int), (X1 : Int)), ((Y0 : Int), (Y1 : Int))] = true from by rw [hasP_two]; simp only; rw [h3]; rfl] at ch
  rw [← hw8]
  clear hw8 hL8 hA8 hR7 hF7 hV7 bw7 t0 t1 t2 t3 t4 t5 t6 t7 t8 t9 t10 t11 t12 f0 f1 f2 f3 f4 f5 wx0 wx1 wy0 wy1
  simp only [famCells, if_true] at ch
  refine Lib.hid ?_
  go_wp2_with (go_at_call 29; refine ch.mono ?_; rintro e w9 ⟨rfl, hb9w⟩; refine Hid.out ?_)
  have bw9 : Below w.heap.size w w9 := bw8.trans (hb9w.mono bw8.size)
  have hz8 : w6.heap.size < w8.heap.size := (Array.getElem?_eq_some_iff.1 hV8).1
  have hV9 : w9.heap[w6.heap.size]? = some (.cells #[.bool true, .int .i64 40, .int .i64 (T : Int), .int .i64 (P : Int), .int .i64 (Q : Int), .int .u64 (X0 : Int), .int .u64 (X1 : Int), .int .u64 (Y0 : Int), .int .u64 (Y1 : Int), .bool false, .int .u32 0, .int .i64 0, .bool false] 40 (0, 0)) := (hb9w.block _ hz8).trans hV8
  have hR9 : w9.heap[w.heap.size]? = some (.cells #[.bool false, .int .i64 0, .int .i64 0, .int .i64 0, .int .i64 0, .int .u64 0, .int .u64 0, .int .u64 0, .int .u64 0, .bool false, .int .u32 0, .int .i64 0, .bool false] 40 (0, 0)) := (hb9w.block _ (by omega)).trans hR8
  have hF9 : w9.heap[w2.heap.size]? = some (.cells #[.bool true, .int .i64 40, .int .i64 7, .int .i64 6, .int .i64 8, .int .i64 16] 69 (0, 0)) := (hb9w.block _ (by omega)).trans hF8
  clear hb9w ch hV8 hR8 hF8 bw8 h3
  obtain ⟨⟨t0, t1, t2, t3, t4, t5, t6, t7, t8, t9, t10, t11, t12⟩, u0, u1, u2, u3, u4, u5, u6, u7, u8, u9, u10, u11, u12⟩ := cells13 hV9
  obtain ⟨⟨f0, f1, f2, f3, f4, f5⟩, _⟩ := cells6 hF9
  obtain ⟨⟨r0, r1, r2, r3, r4, r5, r6, r7, r8, r9, r10, r11, r12⟩, q0, q1, q2, q3, q4, q5, q6, q7, q8, q9, q10, q11, q12⟩ := cells13 hR9
  refine Lib.hid ?_
  have c49 := keepc bw9 c40
  go_wp2_with (with_reducible refine stop_op (o := ⟨some 71, _, _, _, _, _⟩) ?_)
  obtain ⟨w10, hw10⟩ : ∃ x, x = (w9.setCell ⟨w6.heap.size, 1, none⟩ (.int .i64 48)).setCell ⟨w6.heap.size, 4, none⟩ (.int .i64 (H : Int)) := ⟨_, rfl⟩
  have hV10 : w10.heap[w6.heap.size]? = some (.cells #[.bool true, .int .i64 48, .int .i64 (T : Int), .int .i64 (P : Int), .int .i64 (H : Int), .int .u64 (X0 : Int), .int .u64 (X1 : Int), .int .u64 (Y0 : Int), .int .u64 (Y1 : Int), .bool false, .int .u32 0, .int .i64 0, .bool false] 40 (0, 0)) := by rw [hw10]; exact set_v2 hV9 _ _
  have hR10 : w10.heap[w.heap.size]? = some (.cells #[.bool false, .int .i64 0, .int .i64 0, .int .i64 0, .int .i64 0, .int .u64 0, .int .u64 0, .int .u64 0, .int .u64 0, .bool false, .int .u32 0, .int .i64 0, .bool false] 40 (0, 0)) := by rw [hw10, set_other (by omega), set_other (by omega)]; exact hR9
  have bw10 : Below w.heap.size w w10 := by rw [hw10]; exact below_set (below_set bw9 (by omega) 1 _) (by omega) 4 _
  rw [← hw10]
  clear hw10 bw9 t0 t1 t2 t3 t4 t5 t6 t7 t8 t9 t10 t11 t12 u0 u1 u2 u3 u4 u5 u6 u7 u8 u9 u10 u11 u12 f0 f1 f2 f3 f4 f5 r0 r1 r2 r3 r4 r5 r6 r7 r8 r9 r10 r11 r12 q0 q1 q2 q3 q4 q5 q6 q7 q8 q9 q10 q11 q12 hV9 hR9 hF9 c49 s40
  obtain ⟨⟨t0, t1, t2, t3, t4, t5, t6, t7, t8, t9, t10, t11, t12⟩, u0, u1, u2, u3, u4, u5, u6, u7, u8, u9, u10, u11, u12⟩ := cells13 hV10
  obtain ⟨⟨r0, r1, r2, r3, r4, r5, r6, r7, r8, r9, r10, r11, r12⟩, q0, q1, q2, q3, q4, q5, q6, q7, q8, q9, q10, q11, q12⟩ := cells13 hR10
  refine Lib.hid ?_
  have dV : ViewAt (w10.setCell ⟨w6.heap.size, 10, none⟩ (.int .u32 (I4 : Int))) w6.heap.size ⟨true, 48, T, P, H, X0, X1, Y0, Y1, false, I4, 0, false⟩ := ViewAt.set (v := ⟨true, 48, T, P, H, X0, X1, Y0, Y1, false, 0, 0, false⟩) hV10 rfl
  have cp := part_any _ w6.heap.size (a : Int) (m : Int) (by omega) (by omega) dV
  rw [← Hvp.out] at cp
  have b11 : Below w.heap.size w (w10.setCell ⟨w6.heap.size, 10, none⟩ (.int .u32 (I4 : Int))) := below_set bw10 (by omega) 10 _
  have m44 := n44 _ bw10
  have m42 := n42 _ b11
  clear n44 n42 b11
  go_wp2_with (first | (go_at_call 69; (with_reducible refine m44.mono ?_); rintro e w' ⟨rfl, rfl⟩) | (go_at_call 69; (with_reducible refine m42.mono ?_); rintro e w' ⟨rfl, rfl⟩) | (go_at_call 84; refine cp.mono ?_; rintro e w12 ⟨rfl, hV12, hw12⟩; refine Hid.out ?_))
  obtain ⟨x9, y9, z9, hw12⟩ := hw12
  have hR12 : w12.heap[w.heap.size]? = some (.cells #[.bool false, .int .i64 0, .int .i64 0, .int .i64 0, .int .i64 0, .int .u64 0, .int .u64 0, .int .u64 0, .int .u64 0, .bool false, .int .u32 0, .int .i64 0, .bool false] 40 (0, 0)) := by rw [hw12, set_other (by omega), set_other (by omega), set_other (by omega), set_other (by omega)]; exact hR10
  have bw12 : Below w.heap.size w w12 := by rw [hw12]; exact below_set (below_set (below_set (below_set bw10 (by omega) 10 _) (by omega) 11 _) (by omega) 12 _) (by omega) 9 _
  have hV12c : w12.heap[w6.heap.size]? = some (.cells #[.bool vp.v6, .int .i64 vp.head, .int .i64 vp.total, .int .i64 vp.ttl, .int .i64 vp.proto, .int .u64 vp.srcH, .int .u64 vp.srcL, .int .u64 vp.dstH, .int .u64 vp.dstL, .bool vp.frag, .int .u32 vp.id, .int .i64 vp.off, .bool vp.more] 40 (0, 0)) := hV12
  clear hw12 hV12 dV cp hV10 hR10 bw10 Hvp m44 m42 t0 t1 t2 t3 t4 t5 t6 t7 t8 t9 t10 t11 t12 u0 u1 u2 u3 u4 u5 u6 u7 u8 u9 u10 u11 u12 r0 r1 r2 r3 r4 r5 r6 r7 r8 r9 r10 r11 r12 q0 q1 q2 q3 q4 q5 q6 q7 q8 q9 q10 q11 q12 s44 s42
  obtain ⟨⟨r0, r1, r2, r3, r4, r5, r6, r7, r8, r9, r10, r11, r12⟩, q0, q1, q2, q3, q4, q5, q6, q7, q8, q9, q10, q11, q12⟩ := cells13 hR12
  obtain ⟨⟨t0, t1, t2, t3, t4, t5, t6, t7, t8, t9, t10, t11, t12⟩, _⟩ := cells13 hV12c
  refine Lib.hid ?_
  go_wp2
  refine bodyPost_ret_by (res_row Try.results75 _ _ w.heap.size 40 #[.bool vp.v6, .int .i64 vp.head, .int .i64 vp.total, .int .i64 vp.ttl, .int .i64 vp.proto, .int .u64 vp.srcH, .int .u64 vp.srcL, .int .u64 vp.dstH, .int .u64 vp.dstL, .bool vp.frag, .int .u32 vp.id, .int .i64 vp.off, .bool vp.more] _ rfl (heap_set13w hR12 (.bool vp.v6) (.int .i64 vp.head) (.int .i64 vp.total) (.int .i64 vp.ttl) (.int .i64 vp.proto) (.int .u64 vp.srcH) (.int .u64 vp.srcL) (.int .u64 vp.dstH) (.int .u64 vp.dstL) (.bool vp.frag) (.int .u32 vp.id) (.int .i64 vp.off) (.bool vp.more)) Try.underlying40 (by kernel_rfl)) rfl ⟨rfl, ?_⟩
  exact below_set13 bw12 (by omega) _ _ _ _ _ _ _ _ _ _ _ _ _

/-- IPv6 headers. -/
theorem parse6_any (g o c n : Nat) (l : List UInt8) (hn : l.length = n) (hc : n ≤ c) (hcm : c ≤ 9223372036854775807) {w : World} (hb : Byt w g o l) :
    Calls Try.prog 75 #[.slice (some ⟨g, o, none⟩) n c] w fun e w' => e = .returned (.tuple #[.agg (vcells (parse6P l).1), .int .i64 (parse6P l).2]) ∧ Below w.heap.size w w' := by
  unfold parse6P
  rw [hn]
  by_cases h1 : n < 40
  · rw [if_pos h1]; exact p6_a g o c n l hn hc hcm h1 hb
  rw [if_neg h1]
  by_cases h2 : n < nbN l 4 2 + 40
  · rw [if_pos h2]; exact p6_b g o c n l hn hc hcm (by omega) h2 hb
  rw [if_neg h2]
  by_cases h3 : (is4I (view6 l 0).srcH (view6 l 0).srcL || is4I (view6 l 0).dstH (view6 l 0).dstL) = true
  · rw [if_pos h3]; exact p6_c g o c n l hn hc hcm (by omega) (by omega) h3 hb
  rw [if_neg h3]
  have h3 := eq_false_of_ne_true h3
  by_cases h4 : byN l 6 ≠ 44
  · rw [if_pos h4]; exact p6_d g o c n l hn hc hcm (by omega) (by omega) h3 h4 hb
  rw [if_neg h4]
  by_cases h5 : nbN l 4 2 + 40 < 48
  · rw [if_pos h5]; exact p6_e g o c n l hn hc hcm (by omega) (by omega) h3 (by omega) h5 hb
  rw [if_neg h5]
  by_cases h6 : byN l 40 = 44
  · rw [if_pos h6]; exact p6_f g o c n l hn hc hcm (by omega) (by omega) h3 (by omega) (by omega) h6 hb
  rw [if_neg h6]
  exact p6_g g o c n l hn hc hcm (by omega) (by omega) h3 (by omega) (by omega) h6 hb
end Go.Proofs.Ytpmbdjdhgcjkfaa
