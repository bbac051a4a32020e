/- IPv4 headers: the program's parse4; by-name template (gen_wp4.py). -/
import Derived.Test.YtpmbdjdhgcjkfaaWHas
namespace Go.Proofs.Ytpmbdjdhgcjkfaa
open Go.RowKit Go.Sort
set_option linter.unusedVariables false
set_option linter.unusedSimpArgs false

theorem number_bel (g o c n : Nat) (l : List UInt8) (hn : l.length = n) (h8 : n ≤ 8) {w : World} (hb : Byt w g o l) :
    Calls Try.prog 69 #[.slice (some ⟨g, o, none⟩) n c] w fun e w' => e = .returned (.int .u64 (numB l : Nat)) ∧ Below w.heap.size w w' :=
  (number_any g o c n l hn h8 hb).mono fun e w' ⟨he, hw⟩ => ⟨he, by rw [← hw]; exact Below.refl _ _⟩
theorem sum_bel (g o c n : Nat) (l : List UInt8) (hn : l.length = n) (hc : n ≤ c) (hcm : c ≤ 9223372036854775807) (hm : n ≤ 65540) {w : World} (hb : Byt w g o l) :
    Calls Try.prog 15 #[.slice (some ⟨g, o, none⟩) n c] w fun e w' => e = .returned (.int .i64 (sumP l : Nat)) ∧ Below w.heap.size w w' :=
  (sum_any g o c n l hn hc hcm hm hb).mono fun e w' ⟨he, hw⟩ => ⟨he, by rw [← hw]; exact Below.refl _ _⟩
theorem cut_h (g o n c h : Nat) (h2 : h ≤ c) (hc : c ≤ 9223372036854775807) : ∀ W, (Instr.slice 22 (.slice (some ⟨g, o, none⟩) n c) none (some (.int .i64 (h : Nat))) none).run Try.prog W = .ok (.slice (some ⟨g, o, none⟩) h c) W := by
  intro W
  have hs : (sizeOf (Try.prog.elem 22)).run Try.prog W = .ok 1 W := by kernel_rfl
  rw [run_slice_h W 22 (some ⟨g, o, none⟩) n c (by kernel_rfl) .i64 (h : Nat) (by omega) (by omega), hs]
  simp only [Result.andThen, sliced, Int.toNat_natCast, Nat.zero_mul, Nat.mul_one, Nat.sub_zero]
  split <;> simp [Addr.add]
/-- A number out of some of the bytes, in every world that has them. -/
theorem nb_bel (g o n c f m : Nat) (l : List UInt8) (hn : l.length = n) (h8 : m ≤ 8) (h : f + m ≤ n) {w : World} (hb : Byt w g o l) (W : World) (hW : Below w.heap.size w W) :
    Calls Try.prog 69 #[.slice (some ⟨g, o + f, none⟩) m (c - f)] W fun e w' => e = .returned (.int .u64 (nbN l f m : Nat)) ∧ Below W.heap.size W w' :=
  number_bel g (o + f) (c - f) m _ (by rw [List.length_take, List.length_drop]; omega) h8 ((hb.below hW).sub f m)
theorem nb_eq (g o n c f m : Nat) (l : List UInt8) (hn : l.length = n) (h8 : m ≤ 8) (h : f + m ≤ n) {w : World} (hb : Byt w g o l) (W : World) (hW : Below w.heap.size w W) :
    Calls Try.prog 69 #[.slice (some ⟨g, o + f, none⟩) m (c - f)] W fun e w' => e = .returned (.int .u64 (nbN l f m : Nat)) ∧ W = w' :=
  number_any g (o + f) (c - f) m _ (by rw [List.length_take, List.length_drop]; omega) h8 ((hb.below hW).sub f m)
theorem by_cell {w : World} {g o n : Nat} {l : List UInt8} (hb : Byt w g o l) (hn : l.length = n) (k : Nat) (hk : k < n) : w.cell? ⟨g, o + k, none⟩ = some (.int .u8 (byN l k : Nat)) := by
  have hx : l[k]? = some (l[k]'(by omega)) := List.getElem?_eq_getElem _
  rw [hb k _ hx]
  unfold byN
  rw [List.getD_eq_getElem?_getD, hx]; rfl
theorem andU8 (x : Nat) (h : x < 256) : bits .and .u8 (x : Int) 15 = ((x % 16 : Nat) : Int) := by
  rw [u8_and15 (x := (x : Int)) (by omega) (by omega)]; omega
theorem res_row {fn : Func} {p u : Tmp} {ty : TypeId} (h : fn.results = #[.cell p ty, .tmp u]) (tmps : Array Value) (W : World) (g : Nat) (t : TypeId) (cs : Array Value) (fs) (hp : tmps.getD p undef = .pointer (some ⟨g, 0, none⟩)) (hg : W.heap[g]? = some (.cells cs t (0, 0)))
    (hu : Try.prog.underlying ty = some (.struct fs)) (hi : (Try.prog.info? ty).map (·.size) = some cs.size) :
    (results fn tmps).run Try.prog W = .ok (.tuple #[.agg cs, tmps.getD u undef]) W := by
  rw [results_cell_tmp h, hp]
  have e : (asAddr (.pointer (some ⟨g, 0, none⟩))).run Try.prog W = .ok ⟨g, 0, none⟩ W := rfl
  rw [e]
  simp only [Result.andThen]
  rw [run_loadVar_row W g t ty cs (0, 0) (.struct fs) hg hu rfl hi]
theorem andU64 (x k : Nat) (hk : k ≤ 16) (h : x < 65536) : bits .and .u64 (x : Int) ((2 ^ k - 1 : Nat) : Int) = ((x % 2 ^ k : Nat) : Int) := by
  have hp : 1 ≤ 2 ^ k := Nat.one_le_two_pow
  have := bits_mask .u64 64 (Nat.le_refl _) (fun n h0 h1 => by rw [IntKind.wrap_u64]; omega) k (by omega) (x : Int) (by omega) (by omega)
  have e : (2 : Int) ^ k - 1 = ((2 ^ k - 1 : Nat) : Int) := by rw [Int.ofNat_sub hp]; simp
  rw [e] at this
  rw [this]
  simp

set_option maxHeartbeats 2000000 in
set_option maxRecDepth 100000 in
theorem p4_a (g o c n : Nat) (l : List UInt8) (hn : l.length = n) (hc : n ≤ c) (hcm : c ≤ 9223372036854775807) (h1 : n < 20) {w : World} (hb : Byt w g o l) :
    Calls Try.prog 74 #[.slice (some ⟨g, o, none⟩) n c] w fun e w' => e = .returned (.tuple #[.agg (vcells zvw), .int .i64 40]) ∧ Below w.heap.size w w' := by
  have hi : (n : Int) < 20 := by omega
  clear hb hn
  simp only [vcells, zvw]
  have cf := fam_any false
  simp only [famCells, if_false, Bool.false_eq_true] at cf
  go_enter Try.func74, Try.ntmps74
  go_wp2_with (go_at_call 28; refine (cf _).mono ?_; rintro e w2 ⟨rfl, hb2⟩; refine Hid.out ?_)
  have bw2 : Below w.heap.size w w2 := bel_via (Below.al (Below.refl _ _) _) hb2
  have hR2 : w2.heap[w.heap.size]? = some (.cells #[.bool false, .int .i64 0, .int .i64 0, .int .i64 0, .int .i64 0, .int .u64 0, .int .u64 0, .int .u64 0, .int .u64 0, .bool false, .int .u32 0, .int .i64 0, .bool false] 40 (0, 0)) := by rw [hb2.block _ (by simp)]; exact al_neww rfl _
  have hz2 : w.heap.size < w2.heap.size := (Array.getElem?_eq_some_iff.1 hR2).1
  clear hb2 cf
  refine Lib.hid ?_
  go_wp2_with (with_reducible refine stop_op (o := ⟨some 12, _, _, _, _, _⟩) ?_)
  obtain ⟨w3, hw3⟩ : ∃ v, v = w2.alloc (.cells #[.bool false, .int .i64 20, .int .i64 8, .int .i64 9, .int .i64 12, .int .i64 4] 69) := ⟨_, rfl⟩
  have hF3 : w3.heap[w2.heap.size]? = some (.cells #[.bool false, .int .i64 20, .int .i64 8, .int .i64 9, .int .i64 12, .int .i64 4] 69 (0, 0)) := by rw [hw3]; exact al_neww rfl _
  have hR3 : w3.heap[w.heap.size]? = some (.cells #[.bool false, .int .i64 0, .int .i64 0, .int .i64 0, .int .i64 0, .int .u64 0, .int .u64 0, .int .u64 0, .int .u64 0, .bool false, .int .u32 0, .int .i64 0, .bool false] 40 (0, 0)) := by rw [hw3, al_oldw hz2]; exact hR2
  have bw3 : Below w.heap.size w w3 := by rw [hw3]; exact Below.al bw2 _
  obtain ⟨⟨f0, f1, f2, f3, f4, f5⟩, _⟩ := cells6 hF3
  obtain ⟨⟨r0, r1, r2, r3, r4, r5, r6, r7, r8, r9, r10, r11, r12⟩, q0, q1, q2, q3, q4, q5, q6, q7, q8, q9, q10, q11, q12⟩ := cells13 hR3
  rw [← hw3]
  clear hw3 hR2 bw2
  refine Lib.hid ?_
  go_wp2
  refine bodyPost_ret_by (res_row Try.results74 _ _ w.heap.size 40 #[.bool false, .int .i64 0, .int .i64 0, .int .i64 0, .int .i64 0, .int .u64 0, .int .u64 0, .int .u64 0, .int .u64 0, .bool false, .int .u32 0, .int .i64 0, .bool false] _ rfl (heap_set13w hR3 (.bool false) (.int .i64 0) (.int .i64 0) (.int .i64 0) (.int .i64 0) (.int .u64 0) (.int .u64 0) (.int .u64 0) (.int .u64 0) (.bool false) (.int .u32 0) (.int .i64 0) (.bool false)) Try.underlying40 (by kernel_rfl)) rfl ⟨rfl, ?_⟩
  exact below_set13 bw3 (by omega) _ _ _ _ _ _ _ _ _ _ _ _ _

set_option maxHeartbeats 2000000 in
set_option maxRecDepth 100000 in
theorem p4_b (g o c n : Nat) (l : List UInt8) (hn : l.length = n) (hc : n ≤ c) (hcm : c ≤ 9223372036854775807) (h1 : 20 ≤ n) (h2 : byN l 0 % 16 ≠ 5) {w : World} (hb : Byt w g o l) :
    Calls Try.prog 74 #[.slice (some ⟨g, o, none⟩) n c] w fun e w' => e = .returned (.tuple #[.agg (vcells zvw), .int .i64 42]) ∧ Below w.heap.size w w' := by
  have hi : ¬ (n : Int) < 20 := by omega
  have hi2 : decide ((n : Int) < 20) = false := by simp; omega
  have hi3 : decide (n < 20) = false := by simp; omega
  have h0n : 0 < n := by omega
  have h0i : (0 : Int) < (n : Int) := by omega
  have s2 : ∀ W, (Instr.slice 22 (.slice (some ⟨g, o, none⟩) n c) (some (.int .i64 2)) (some (.int .i64 4)) none).run Try.prog W = .ok (.slice (some ⟨g, o + 2, none⟩) 2 (c - 2)) W := cut_lh g o n c 2 4 (by omega) (by omega) (by omega) hcm
  have s6 : ∀ W, (Instr.slice 22 (.slice (some ⟨g, o, none⟩) n c) (some (.int .i64 6)) (some (.int .i64 8)) none).run Try.prog W = .ok (.slice (some ⟨g, o + 6, none⟩) 2 (c - 6)) W := cut_lh g o n c 6 8 (by omega) (by omega) (by omega) hcm
  have s4 : ∀ W, (Instr.slice 22 (.slice (some ⟨g, o, none⟩) n c) (some (.int .i64 4)) (some (.int .i64 6)) none).run Try.prog W = .ok (.slice (some ⟨g, o + 4, none⟩) 2 (c - 4)) W := cut_lh g o n c 4 6 (by omega) (by omega) (by omega) hcm
  have s20 : ∀ W, (Instr.slice 22 (.slice (some ⟨g, o, none⟩) n c) none (some (.int .i64 20)) none).run Try.prog W = .ok (.slice (some ⟨g, o, none⟩) 20 c) W := cut_h g o n c 20 (by omega) hcm
  have n2 := nb_bel g o n c 2 2 l hn (by omega) (by omega) hb
  have n6 := nb_bel g o n c 6 2 l hn (by omega) (by omega) hb
  have n4 := nb_eq g o n c 4 2 l hn (by omega) (by omega) hb
  have nS := fun (W : World) (h : Below w.heap.size w W) => sum_bel g o c 20 (l.take 20) (by rw [List.length_take]; omega) (by omega) hcm (by omega) (show Byt W g o (l.take 20) by have := (hb.below h).sub 0 20; simpa using this)
  have cv := fun (W : World) (h : Below w.heap.size w W) => view_4 g o c n (nbN l 2 2) l hn (by omega) hc hcm (hb.below h)
  have c0 := by_cell hb hn 0 h0n
  rw [Nat.add_zero] at c0
  have x8 := byN_lt l 0
  have hT := nb2_lt l 2
  have hS := nb2_lt l 6
  have hI := nb2_lt l 4
  have hsl := sumP_le (l.take 20)
  have e0 := andU8 (byN l 0) x8
  generalize hv : view4 l (nbN l 2 2) = v at cv
  generalize byN l 0 = X at *
  generalize nbN l 2 2 = T at *
  generalize nbN l 6 2 = S at *
  generalize nbN l 4 2 = I4 at *
  generalize sumP (l.take 20) = sm at *
  simp only [vcells] at cv
  have Hv := Lib.hid hv
  clear hv hb hn
  have Ti : (T : Int) < 65536 := by omega
  have Si : (S : Int) < 65536 := by omega
  have Ii : (I4 : Int) < 65536 := by omega
  have wT : IntKind.i64.wrap (T : Int) = (T : Int) := by rw [IntKind.wrap_i64]; omega
  obtain ⟨r, hr⟩ : ∃ r, r = X % 16 := ⟨_, rfl⟩
  rw [← hr] at e0
  have Hr := Lib.hid hr
  clear hr
  have hb5 : ((r : Int) != 5) = true := by simp; have := Hr.out; omega
  simp only [vcells, zvw]
  have cf := fam_any false
  simp only [famCells, if_false, Bool.false_eq_true] at cf
  go_enter Try.func74, Try.ntmps74
  go_wp2_with (go_at_call 28; refine (cf _).mono ?_; rintro e w2 ⟨rfl, hb2⟩; refine Hid.out ?_)
  have bw2 : Below w.heap.size w w2 := bel_via (Below.al (Below.refl _ _) _) hb2
  have hR2 : w2.heap[w.heap.size]? = some (.cells #[.bool false, .int .i64 0, .int .i64 0, .int .i64 0, .int .i64 0, .int .u64 0, .int .u64 0, .int .u64 0, .int .u64 0, .bool false, .int .u32 0, .int .i64 0, .bool false] 40 (0, 0)) := by rw [hb2.block _ (by simp)]; exact al_neww rfl _
  have hz2 : w.heap.size < w2.heap.size := (Array.getElem?_eq_some_iff.1 hR2).1
  clear hb2 cf
  refine Lib.hid ?_
  go_wp2_with (with_reducible refine stop_op (o := ⟨some 12, _, _, _, _, _⟩) ?_)
  obtain ⟨w3, hw3⟩ : ∃ v, v = w2.alloc (.cells #[.bool false, .int .i64 20, .int .i64 8, .int .i64 9, .int .i64 12, .int .i64 4] 69) := ⟨_, rfl⟩
  have hF3 : w3.heap[w2.heap.size]? = some (.cells #[.bool false, .int .i64 20, .int .i64 8, .int .i64 9, .int .i64 12, .int .i64 4] 69 (0, 0)) := by rw [hw3]; exact al_neww rfl _
  have hR3 : w3.heap[w.heap.size]? = some (.cells #[.bool false, .int .i64 0, .int .i64 0, .int .i64 0, .int .i64 0, .int .u64 0, .int .u64 0, .int .u64 0, .int .u64 0, .bool false, .int .u32 0, .int .i64 0, .bool false] 40 (0, 0)) := by rw [hw3, al_oldw hz2]; exact hR2
  have bw3 : Below w.heap.size w w3 := by rw [hw3]; exact Below.al bw2 _
  obtain ⟨⟨f0, f1, f2, f3, f4, f5⟩, _⟩ := cells6 hF3
  obtain ⟨⟨r0, r1, r2, r3, r4, r5, r6, r7, r8, r9, r10, r11, r12⟩, q0, q1, q2, q3, q4, q5, q6, q7, q8, q9, q10, q11, q12⟩ := cells13 hR3
  rw [← hw3]
  clear hw3 hR2 bw2
  refine Lib.hid ?_
  go_wp2_with fail
  have hz3 : w2.heap.size < w3.heap.size := (Array.getElem?_eq_some_iff.1 hF3).1
  have bq := fun d os => bw3.trans ((below_regrown w3 d os).mono bw3.size)
  have qa := fun d os => Calls.regrown_of (n2 (grow (redrawn w3 d) os) (bq d os))
  have qb := fun d os => Calls.regrown_of (n6 (grow (redrawn w3 d) os) (bq d os))
  refine wp_region_quiet_below (by kernel_rfl) (by kernel_rfl) ?_
  repeat (first | go_big_quiet_skip | quiet_step (first | (go_at_call 69; with_reducible exact qa _ _) | (go_at_call 69; with_reducible exact qb _ _)))
  refine wpQuiet_nil ?_
  intro _ hw'
  obtain ⟨⟨dq, osq⟩, hw''⟩ := hw'
  subst hw''
  obtain ⟨w4, hw4⟩ : ∃ v, v = grow (redrawn w3 dq) osq := ⟨_, rfl⟩
  have b34 : Below w3.heap.size w3 w4 := by rw [hw4]; exact below_regrown _ _ _
  have bw4 : Below w.heap.size w w4 := bw3.trans (b34.mono bw3.size)
  have hF4 : w4.heap[w2.heap.size]? = some (.cells #[.bool false, .int .i64 20, .int .i64 8, .int .i64 9, .int .i64 12, .int .i64 4] 69 (0, 0)) := (b34.block _ hz3).trans hF3
  have hR4 : w4.heap[w.heap.size]? = some (.cells #[.bool false, .int .i64 0, .int .i64 0, .int .i64 0, .int .i64 0, .int .u64 0, .int .u64 0, .int .u64 0, .int .u64 0, .bool false, .int .u32 0, .int .i64 0, .bool false] 40 (0, 0)) := (b34.block _ (by omega)).trans hR3
  have c04 := keepc bw4 c0
  rw [← hw4]
  clear hw4 b34 bq qa qb n2 n6 r0 r1 r2 r3 r4 r5 r6 r7 r8 r9 r10 r11 r12 q0 q1 q2 q3 q4 q5 q6 q7 q8 q9 q10 q11 q12 f0 f1 f2 f3 f4 f5 hF3 hR3 bw3 c0
  obtain ⟨⟨f0, f1, f2, f3, f4, f5⟩, _⟩ := cells6 hF4
  obtain ⟨⟨r0, r1, r2, r3, r4, r5, r6, r7, r8, r9, r10, r11, r12⟩, q0, q1, q2, q3, q4, q5, q6, q7, q8, q9, q10, q11, q12⟩ := cells13 hR4
  go_wp2
  refine bodyPost_ret_by (res_row Try.results74 _ _ w.heap.size 40 #[.bool false, .int .i64 0, .int .i64 0, .int .i64 0, .int .i64 0, .int .u64 0, .int .u64 0, .int .u64 0, .int .u64 0, .bool false, .int .u32 0, .int .i64 0, .bool false] _ rfl (heap_set13w hR4 (.bool false) (.int .i64 0) (.int .i64 0) (.int .i64 0) (.int .i64 0) (.int .u64 0) (.int .u64 0) (.int .u64 0) (.int .u64 0) (.bool false) (.int .u32 0) (.int .i64 0) (.bool false)) Try.underlying40 (by kernel_rfl)) rfl ⟨rfl, ?_⟩
  exact below_set13 bw4 (by omega) _ _ _ _ _ _ _ _ _ _ _ _ _

set_option maxHeartbeats 2000000 in
set_option maxRecDepth 100000 in
theorem p4_c (g o c n : Nat) (l : List UInt8) (hn : l.length = n) (hc : n ≤ c) (hcm : c ≤ 9223372036854775807) (h1 : 20 ≤ n) (h2 : byN l 0 % 16 = 5) (h3 : nbN l 2 2 < 20) {w : World} (hb : Byt w g o l) :
    Calls Try.prog 74 #[.slice (some ⟨g, o, none⟩) n c] w fun e w' => e = .returned (.tuple #[.agg (vcells zvw), .int .i64 42]) ∧ Below w.heap.size w w' := by
  have hi : ¬ (n : Int) < 20 := by omega
  have hi2 : decide ((n : Int) < 20) = false := by simp; omega
  have hi3 : decide (n < 20) = false := by simp; omega
  have h0n : 0 < n := by omega
  have h0i : (0 : Int) < (n : Int) := by omega
  have s2 : ∀ W, (Instr.slice 22 (.slice (some ⟨g, o, none⟩) n c) (some (.int .i64 2)) (some (.int .i64 4)) none).run Try.prog W = .ok (.slice (some ⟨g, o + 2, none⟩) 2 (c - 2)) W := cut_lh g o n c 2 4 (by omega) (by omega) (by omega) hcm
  have s6 : ∀ W, (Instr.slice 22 (.slice (some ⟨g, o, none⟩) n c) (some (.int .i64 6)) (some (.int .i64 8)) none).run Try.prog W = .ok (.slice (some ⟨g, o + 6, none⟩) 2 (c - 6)) W := cut_lh g o n c 6 8 (by omega) (by omega) (by omega) hcm
  have s4 : ∀ W, (Instr.slice 22 (.slice (some ⟨g, o, none⟩) n c) (some (.int .i64 4)) (some (.int .i64 6)) none).run Try.prog W = .ok (.slice (some ⟨g, o + 4, none⟩) 2 (c - 4)) W := cut_lh g o n c 4 6 (by omega) (by omega) (by omega) hcm
  have s20 : ∀ W, (Instr.slice 22 (.slice (some ⟨g, o, none⟩) n c) none (some (.int .i64 20)) none).run Try.prog W = .ok (.slice (some ⟨g, o, none⟩) 20 c) W := cut_h g o n c 20 (by omega) hcm
  have n2 := nb_bel g o n c 2 2 l hn (by omega) (by omega) hb
  have n6 := nb_bel g o n c 6 2 l hn (by omega) (by omega) hb
  have n4 := nb_eq g o n c 4 2 l hn (by omega) (by omega) hb
  have nS := fun (W : World) (h : Below w.heap.size w W) => sum_bel g o c 20 (l.take 20) (by rw [List.length_take]; omega) (by omega) hcm (by omega) (show Byt W g o (l.take 20) by have := (hb.below h).sub 0 20; simpa using this)
  have cv := fun (W : World) (h : Below w.heap.size w W) => view_4 g o c n (nbN l 2 2) l hn (by omega) hc hcm (hb.below h)
  have c0 := by_cell hb hn 0 h0n
  rw [Nat.add_zero] at c0
  have x8 := byN_lt l 0
  have hT := nb2_lt l 2
  have hS := nb2_lt l 6
  have hI := nb2_lt l 4
  have hsl := sumP_le (l.take 20)
  have e0 := andU8 (byN l 0) x8
  generalize hv : view4 l (nbN l 2 2) = v at cv
  generalize byN l 0 = X at *
  generalize nbN l 2 2 = T at *
  generalize nbN l 6 2 = S at *
  generalize nbN l 4 2 = I4 at *
  generalize sumP (l.take 20) = sm at *
  simp only [vcells] at cv
  have Hv := Lib.hid hv
  clear hv hb hn
  have Ti : (T : Int) < 65536 := by omega
  have Si : (S : Int) < 65536 := by omega
  have Ii : (I4 : Int) < 65536 := by omega
  have wT : IntKind.i64.wrap (T : Int) = (T : Int) := by rw [IntKind.wrap_i64]; omega
  obtain ⟨r, hr⟩ : ∃ r, r = X % 16 := ⟨_, rfl⟩
  rw [← hr] at e0
  have Hr := Lib.hid hr
  clear hr
  have hb5 : ((r : Int) != 5) = false := by simp; have := Hr.out; omega
  have hT20 : decide ((T : Int) < 20) = true := by simp; omega
  have hT20n : decide (T < 20) = true := by simp; omega
  have hT20i : (T : Int) < 20 := by omega
  simp only [vcells, zvw]
  have cf := fam_any false
  simp only [famCells, if_false, Bool.false_eq_true] at cf
  go_enter Try.func74, Try.ntmps74
  go_wp2_with (go_at_call 28; refine (cf _).mono ?_; rintro e w2 ⟨rfl, hb2⟩; refine Hid.out ?_)
  have bw2 : Below w.heap.size w w2 := bel_via (Below.al (Below.refl _ _) _) hb2
  have hR2 : w2.heap[w.heap.size]? = some (.cells #[.bool false, .int .i64 0, .int .i64 0, .int .i64 0, .int .i64 0, .int .u64 0, .int .u64 0, .int .u64 0, .int .u64 0, .bool false, .int .u32 0, .int .i64 0, .bool false] 40 (0, 0)) := by rw [hb2.block _ (by simp)]; exact al_neww rfl _
  have hz2 : w.heap.size < w2.heap.size := (Array.getElem?_eq_some_iff.1 hR2).1
  clear hb2 cf
  refine Lib.hid ?_
  go_wp2_with (with_reducible refine stop_op (o := ⟨some 12, _, _, _, _, _⟩) ?_)
  obtain ⟨w3, hw3⟩ : ∃ v, v = w2.alloc (.cells #[.bool false, .int .i64 20, .int .i64 8, .int .i64 9, .int .i64 12, .int .i64 4] 69) := ⟨_, rfl⟩
  have hF3 : w3.heap[w2.heap.size]? = some (.cells #[.bool false, .int .i64 20, .int .i64 8, .int .i64 9, .int .i64 12, .int .i64 4] 69 (0, 0)) := by rw [hw3]; exact al_neww rfl _
  have hR3 : w3.heap[w.heap.size]? = some (.cells #[.bool false, .int .i64 0, .int .i64 0, .int .i64 0, .int .i64 0, .int .u64 0, .int .u64 0, .int .u64 0, .int .u64 0, .bool false, .int .u32 0, .int .i64 0, .bool false] 40 (0, 0)) := by rw [hw3, al_oldw hz2]; exact hR2
  have bw3 : Below w.heap.size w w3 := by rw [hw3]; exact Below.al bw2 _
  obtain ⟨⟨f0, f1, f2, f3, f4, f5⟩, _⟩ := cells6 hF3
  obtain ⟨⟨r0, r1, r2, r3, r4, r5, r6, r7, r8, r9, r10, r11, r12⟩, q0, q1, q2, q3, q4, q5, q6, q7, q8, q9, q10, q11, q12⟩ := cells13 hR3
  rw [← hw3]
  clear hw3 hR2 bw2
  refine Lib.hid ?_
  go_wp2_with fail
  have hz3 : w2.heap.size < w3.heap.size := (Array.getElem?_eq_some_iff.1 hF3).1
  have bq := fun d os => bw3.trans ((below_regrown w3 d os).mono bw3.size)
  have qa := fun d os => Calls.regrown_of (n2 (grow (redrawn w3 d) os) (bq d os))
  have qb := fun d os => Calls.regrown_of (n6 (grow (redrawn w3 d) os) (bq d os))
  refine wp_region_quiet_below (by kernel_rfl) (by kernel_rfl) ?_
  repeat (first | go_big_quiet_skip | quiet_step (first | (go_at_call 69; with_reducible exact qa _ _) | (go_at_call 69; with_reducible exact qb _ _)))
  refine wpQuiet_nil ?_
  intro _ hw'
  obtain ⟨⟨dq, osq⟩, hw''⟩ := hw'
  subst hw''
  obtain ⟨w4, hw4⟩ : ∃ v, v = grow (redrawn w3 dq) osq := ⟨_, rfl⟩
  have b34 : Below w3.heap.size w3 w4 := by rw [hw4]; exact below_regrown _ _ _
  have bw4 : Below w.heap.size w w4 := bw3.trans (b34.mono bw3.size)
  have hF4 : w4.heap[w2.heap.size]? = some (.cells #[.bool false, .int .i64 20, .int .i64 8, .int .i64 9, .int .i64 12, .int .i64 4] 69 (0, 0)) := (b34.block _ hz3).trans hF3
  have hR4 : w4.heap[w.heap.size]? = some (.cells #[.bool false, .int .i64 0, .int .i64 0, .int .i64 0, .int .i64 0, .int .u64 0, .int .u64 0, .int .u64 0, .int .u64 0, .bool false, .int .u32 0, .int .i64 0, .bool false] 40 (0, 0)) := (b34.block _ (by omega)).trans hR3
  have c04 := keepc bw4 c0
  rw [← hw4]
  clear hw4 b34 bq qa qb n2 n6 r0 r1 r2 r3 r4 r5 r6 r7 r8 r9 r10 r11 r12 q0 q1 q2 q3 q4 q5 q6 q7 q8 q9 q10 q11 q12 f0 f1 f2 f3 f4 f5 hF3 hR3 bw3 c0
  obtain ⟨⟨f0, f1, f2, f3, f4, f5⟩, _⟩ := cells6 hF4
  obtain ⟨⟨r0, r1, r2, r3, r4, r5, r6, r7, r8, r9, r10, r11, r12⟩, q0, q1, q2, q3, q4, q5, q6, q7, q8, q9, q10, q11, q12⟩ := cells13 hR4
  go_wp2
  refine bodyPost_ret_by (res_row Try.results74 _ _ w.heap.size 40 #[.bool false, .int .i64 0, .int .i64 0, .int .i64 0, .int .i64 0, .int .u64 0, .int .u64 0, .int .u64 0, .int .u64 0, .bool false, .int .u32 0, .int .i64 0, .bool false] _ rfl (heap_set13w hR4 (.bool false) (.int .i64 0) (.int .i64 0) (.int .i64 0) (.int .i64 0) (.int .u64 0) (.int .u64 0) (.int .u64 0) (.int .u64 0) (.bool false) (.int .u32 0) (.int .i64 0) (.bool false)) Try.underlying40 (by kernel_rfl)) rfl ⟨rfl, ?_⟩
  exact below_set13 bw4 (by omega) _ _ _ _ _ _ _ _ _ _ _ _ _

set_option maxHeartbeats 2000000 in
set_option maxRecDepth 100000 in
theorem p4_d (g o c n : Nat) (l : List UInt8) (hn : l.length = n) (hc : n ≤ c) (hcm : c ≤ 9223372036854775807) (h1 : 20 ≤ n) (h2 : byN l 0 % 16 = 5) (h3 : 20 ≤ nbN l 2 2) (h4 : n < nbN l 2 2) {w : World} (hb : Byt w g o l) :
    Calls Try.prog 74 #[.slice (some ⟨g, o, none⟩) n c] w fun e w' => e = .returned (.tuple #[.agg (vcells zvw), .int .i64 40]) ∧ Below w.heap.size w w' := by
  have hi : ¬ (n : Int) < 20 := by omega
  have hi2 : decide ((n : Int) < 20) = false := by simp; omega
  have hi3 : decide (n < 20) = false := by simp; omega
  have h0n : 0 < n := by omega
  have h0i : (0 : Int) < (n : Int) := by omega
  have s2 : ∀ W, (Instr.slice 22 (.slice (some ⟨g, o, none⟩) n c) (some (.int .i64 2)) (some (.int .i64 4)) none).run Try.prog W = .ok (.slice (some ⟨g, o + 2, none⟩) 2 (c - 2)) W := cut_lh g o n c 2 4 (by omega) (by omega) (by omega) hcm
  have s6 : ∀ W, (Instr.slice 22 (.slice (some ⟨g, o, none⟩) n c) (some (.int .i64 6)) (some (.int .i64 8)) none).run Try.prog W = .ok (.slice (some ⟨g, o + 6, none⟩) 2 (c - 6)) W := cut_lh g o n c 6 8 (by omega) (by omega) (by omega) hcm
  have s4 : ∀ W, (Instr.slice 22 (.slice (some ⟨g, o, none⟩) n c) (some (.int .i64 4)) (some (.int .i64 6)) none).run Try.prog W = .ok (.slice (some ⟨g, o + 4, none⟩) 2 (c - 4)) W := cut_lh g o n c 4 6 (by omega) (by omega) (by omega) hcm
  have s20 : ∀ W, (Instr.slice 22 (.slice (some ⟨g, o, none⟩) n c) none (some (.int .i64 20)) none).run Try.prog W = .ok (.slice (some ⟨g, o, none⟩) 20 c) W := cut_h g o n c 20 (by omega) hcm
  have n2 := nb_bel g o n c 2 2 l hn (by omega) (by omega) hb
  have n6 := nb_bel g o n c 6 2 l hn (by omega) (by omega) hb
  have n4 := nb_eq g o n c 4 2 l hn (by omega) (by omega) hb
  have nS := fun (W : World) (h : Below w.heap.size w W) => sum_bel g o c 20 (l.take 20) (by rw [List.length_take]; omega) (by omega) hcm (by omega) (show Byt W g o (l.take 20) by have := (hb.below h).sub 0 20; simpa using this)
  have cv := fun (W : World) (h : Below w.heap.size w W) => view_4 g o c n (nbN l 2 2) l hn (by omega) hc hcm (hb.below h)
  have c0 := by_cell hb hn 0 h0n
  rw [Nat.add_zero] at c0
  have x8 := byN_lt l 0
  have hT := nb2_lt l 2
  have hS := nb2_lt l 6
  have hI := nb2_lt l 4
  have hsl := sumP_le (l.take 20)
  have e0 := andU8 (byN l 0) x8
  generalize hv : view4 l (nbN l 2 2) = v at cv
  generalize byN l 0 = X at *
  generalize nbN l 2 2 = T at *
  generalize nbN l 6 2 = S at *
  generalize nbN l 4 2 = I4 at *
  generalize sumP (l.take 20) = sm at *
  simp only [vcells] at cv
  have Hv := Lib.hid hv
  clear hv hb hn
  have Ti : (T : Int) < 65536 := by omega
  have Si : (S : Int) < 65536 := by omega
  have Ii : (I4 : Int) < 65536 := by omega
  have wT : IntKind.i64.wrap (T : Int) = (T : Int) := by rw [IntKind.wrap_i64]; omega
  obtain ⟨r, hr⟩ : ∃ r, r = X % 16 := ⟨_, rfl⟩
  rw [← hr] at e0
  have Hr := Lib.hid hr
  clear hr
  have hb5 : ((r : Int) != 5) = false := by simp; have := Hr.out; omega
  have hT20 : decide ((T : Int) < 20) = false := by simp; omega
  have hT20n : decide (T < 20) = false := by simp; omega
  have hT20i : ¬ (T : Int) < 20 := by omega
  have hTn : decide ((n : Int) < (T : Int)) = true := by simp; omega
  have hTnn : decide (n < T) = true := by simp; omega
  have hTni : (n : Int) < (T : Int) := by omega
  simp only [vcells, zvw]
  have cf := fam_any false
  simp only [famCells, if_false, Bool.false_eq_true] at cf
  go_enter Try.func74, Try.ntmps74
  go_wp2_with (go_at_call 28; refine (cf _).mono ?_; rintro e w2 ⟨rfl, hb2⟩; refine Hid.out ?_)
  have bw2 : Below w.heap.size w w2 := bel_via (Below.al (Below.refl _ _) _) hb2
  have hR2 : w2.heap[w.heap.size]? = some (.cells #[.bool false, .int .i64 0, .int .i64 0, .int .i64 0, .int .i64 0, .int .u64 0, .int .u64 0, .int .u64 0, .int .u64 0, .bool false, .int .u32 0, .int .i64 0, .bool false] 40 (0, 0)) := by rw [hb2.block _ (by simp)]; exact al_neww rfl _
  have hz2 : w.heap.size < w2.heap.size := (Array.getElem?_eq_some_iff.1 hR2).1
  clear hb2 cf
  refine Lib.hid ?_
  go_wp2_with (with_reducible refine stop_op (o := ⟨some 12, _, _, _, _, _⟩) ?_)
  obtain ⟨w3, hw3⟩ : ∃ v, v = w2.alloc (.cells #[.bool false, .int .i64 20, .int .i64 8, .int .i64 9, .int .i64 12, .int .i64 4] 69) := ⟨_, rfl⟩
  have hF3 : w3.heap[w2.heap.size]? = some (.cells #[.bool false, .int .i64 20, .int .i64 8, .int .i64 9, .int .i64 12, .int .i64 4] 69 (0, 0)) := by rw [hw3]; exact al_neww rfl _
  have hR3 : w3.heap[w.heap.size]? = some (.cells #[.bool false, .int .i64 0, .int .i64 0, .int .i64 0, .int .i64 0, .int .u64 0, .int .u64 0, .int .u64 0, .int .u64 0, .bool false, .int .u32 0, .int .i64 0, .bool false] 40 (0, 0)) := by rw [hw3, al_oldw hz2]; exact hR2
  have bw3 : Below w.heap.size w w3 := by rw [hw3]; exact Below.al bw2 _
  obtain ⟨⟨f0, f1, f2, f3, f4, f5⟩, _⟩ := cells6 hF3
  obtain ⟨⟨r0, r1, r2, r3, r4, r5, r6, r7, r8, r9, r10, r11, r12⟩, q0, q1, q2, q3, q4, q5, q6, q7, q8, q9, q10, q11, q12⟩ := cells13 hR3
  rw [← hw3]
  clear hw3 hR2 bw2
  refine Lib.hid ?_
  go_wp2_with fail
  have hz3 : w2.heap.size < w3.heap.size := (Array.getElem?_eq_some_iff.1 hF3).1
  have bq := fun d os => bw3.trans ((below_regrown w3 d os).mono bw3.size)
  have qa := fun d os => Calls.regrown_of (n2 (grow (redrawn w3 d) os) (bq d os))
  have qb := fun d os => Calls.regrown_of (n6 (grow (redrawn w3 d) os) (bq d os))
  refine wp_region_quiet_below (by kernel_rfl) (by kernel_rfl) ?_
  repeat (first | go_big_quiet_skip | quiet_step (first | (go_at_call 69; with_reducible exact qa _ _) | (go_at_call 69; with_reducible exact qb _ _)))
  refine wpQuiet_nil ?_
  intro _ hw'
  obtain ⟨⟨dq, osq⟩, hw''⟩ := hw'
  subst hw''
  obtain ⟨w4, hw4⟩ : ∃ v, v = grow (redrawn w3 dq) osq := ⟨_, rfl⟩
  have b34 : Below w3.heap.size w3 w4 := by rw [hw4]; exact below_regrown _ _ _
  have bw4 : Below w.heap.size w w4 := bw3.trans (b34.mono bw3.size)
  have hF4 : w4.heap[w2.heap.size]? = some (.cells #[.bool false, .int .i64 20, .int .i64 8, .int .i64 9, .int .i64 12, .int .i64 4] 69 (0, 0)) := (b34.block _ hz3).trans hF3
  have hR4 : w4.heap[w.heap.size]? = some (.cells #[.bool false, .int .i64 0, .int .i64 0, .int .i64 0, .int .i64 0, .int .u64 0, .int .u64 0, .int .u64 0, .int .u64 0, .bool false, .int .u32 0, .int .i64 0, .bool false] 40 (0, 0)) := (b34.block _ (by omega)).trans hR3
  have c04 := keepc bw4 c0
  rw [← hw4]
  clear hw4 b34 bq qa qb n2 n6 r0 r1 r2 r3 r4 r5 r6 r7 r8 r9 r10 r11 r12 q0 q1 q2 q3 q4 q5 q6 q7 q8 q9 q10 q11 q12 f0 f1 f2 f3 f4 f5 hF3 hR3 bw3 c0
  obtain ⟨⟨f0, f1, f2, f3, f4, f5⟩, _⟩ := cells6 hF4
  obtain ⟨⟨r0, r1, r2, r3, r4, r5, r6, r7, r8, r9, r10, r11, r12⟩, q0, q1, q2, q3, q4, q5, q6, q7, q8, q9, q10, q11, q12⟩ := cells13 hR4
  go_wp2
  refine bodyPost_ret_by (res_row Try.results74 _ _ w.heap.size 40 #[.bool false, .int .i64 0, .int .i64 0, .int .i64 0, .int .i64 0, .int .u64 0, .int .u64 0, .int .u64 0, .int .u64 0, .bool false, .int .u32 0, .int .i64 0, .bool false] _ rfl (heap_set13w hR4 (.bool false) (.int .i64 0) (.int .i64 0) (.int .i64 0) (.int .i64 0) (.int .u64 0) (.int .u64 0) (.int .u64 0) (.int .u64 0) (.bool false) (.int .u32 0) (.int .i64 0) (.bool false)) Try.underlying40 (by kernel_rfl)) rfl ⟨rfl, ?_⟩
  exact below_set13 bw4 (by omega) _ _ _ _ _ _ _ _ _ _ _ _ _

set_option maxHeartbeats 2000000 in
set_option maxRecDepth 100000 in
theorem p4_e (g o c n : Nat) (l : List UInt8) (hn : l.length = n) (hc : n ≤ c) (hcm : c ≤ 9223372036854775807) (h1 : 20 ≤ n) (h2 : byN l 0 % 16 = 5) (h3 : 20 ≤ nbN l 2 2) (h4 : nbN l 2 2 ≤ n) (h5 : sumP (l.take 20) ≠ 0) {w : World} (hb : Byt w g o l) :
    Calls Try.prog 74 #[.slice (some ⟨g, o, none⟩) n c] w fun e w' => e = .returned (.tuple #[.agg (vcells zvw), .int .i64 43]) ∧ Below w.heap.size w w' := by
  have hi : ¬ (n : Int) < 20 := by omega
  have hi2 : decide ((n : Int) < 20) = false := by simp; omega
  have hi3 : decide (n < 20) = false := by simp; omega
  have h0n : 0 < n := by omega
  have h0i : (0 : Int) < (n : Int) := by omega
  have s2 : ∀ W, (Instr.slice 22 (.slice (some ⟨g, o, none⟩) n c) (some (.int .i64 2)) (some (.int .i64 4)) none).run Try.prog W = .ok (.slice (some ⟨g, o + 2, none⟩) 2 (c - 2)) W := cut_lh g o n c 2 4 (by omega) (by omega) (by omega) hcm
  have s6 : ∀ W, (Instr.slice 22 (.slice (some ⟨g, o, none⟩) n c) (some (.int .i64 6)) (some (.int .i64 8)) none).run Try.prog W = .ok (.slice (some ⟨g, o + 6, none⟩) 2 (c - 6)) W := cut_lh g o n c 6 8 (by omega) (by omega) (by omega) hcm
  have s4 : ∀ W, (Instr.slice 22 (.slice (some ⟨g, o, none⟩) n c) (some (.int .i64 4)) (some (.int .i64 6)) none).run Try.prog W = .ok (.slice (some ⟨g, o + 4, none⟩) 2 (c - 4)) W := cut_lh g o n c 4 6 (by omega) (by omega) (by omega) hcm
  have s20 : ∀ W, (Instr.slice 22 (.slice (some ⟨g, o, none⟩) n c) none (some (.int .i64 20)) none).run Try.prog W = .ok (.slice (some ⟨g, o, none⟩) 20 c) W := cut_h g o n c 20 (by omega) hcm
  have n2 := nb_bel g o n c 2 2 l hn (by omega) (by omega) hb
  have n6 := nb_bel g o n c 6 2 l hn (by omega) (by omega) hb
  have n4 := nb_eq g o n c 4 2 l hn (by omega) (by omega) hb
  have nS := fun (W : World) (h : Below w.heap.size w W) => sum_bel g o c 20 (l.take 20) (by rw [List.length_take]; omega) (by omega) hcm (by omega) (show Byt W g o (l.take 20) by have := (hb.below h).sub 0 20; simpa using this)
  have cv := fun (W : World) (h : Below w.heap.size w W) => view_4 g o c n (nbN l 2 2) l hn (by omega) hc hcm (hb.below h)
  have c0 := by_cell hb hn 0 h0n
  rw [Nat.add_zero] at c0
  have x8 := byN_lt l 0
  have hT := nb2_lt l 2
  have hS := nb2_lt l 6
  have hI := nb2_lt l 4
  have hsl := sumP_le (l.take 20)
  have e0 := andU8 (byN l 0) x8
  generalize hv : view4 l (nbN l 2 2) = v at cv
  generalize byN l 0 = X at *
  generalize nbN l 2 2 = T at *
  generalize nbN l 6 2 = S at *
  generalize nbN l 4 2 = I4 at *
  generalize sumP (l.take 20) = sm at *
  simp only [vcells] at cv
  have Hv := Lib.hid hv
  clear hv hb hn
  have Ti : (T : Int) < 65536 := by omega
  have Si : (S : Int) < 65536 := by omega
  have Ii : (I4 : Int) < 65536 := by omega
  have wT : IntKind.i64.wrap (T : Int) = (T : Int) := by rw [IntKind.wrap_i64]; omega
  obtain ⟨r, hr⟩ : ∃ r, r = X % 16 := ⟨_, rfl⟩
  rw [← hr] at e0
  have Hr := Lib.hid hr
  clear hr
  have hb5 : ((r : Int) != 5) = false := by simp; have := Hr.out; omega
  have hT20 : decide ((T : Int) < 20) = false := by simp; omega
  have hT20n : decide (T < 20) = false := by simp; omega
  have hT20i : ¬ (T : Int) < 20 := by omega
  have hTn : decide ((n : Int) < (T : Int)) = false := by simp; omega
  have hTnn : decide (n < T) = false := by simp; omega
  have hTni : ¬ (n : Int) < (T : Int) := by omega
  have hs0 : ((sm : Int) != 0) = true := by simp; omega
  simp only [vcells, zvw]
  have cf := fam_any false
  simp only [famCells, if_false, Bool.false_eq_true] at cf
  go_enter Try.func74, Try.ntmps74
  go_wp2_with (go_at_call 28; refine (cf _).mono ?_; rintro e w2 ⟨rfl, hb2⟩; refine Hid.out ?_)
  have bw2 : Below w.heap.size w w2 := bel_via (Below.al (Below.refl _ _) _) hb2
  have hR2 : w2.heap[w.heap.size]? = some (.cells #[.bool false, .int .i64 0, .int .i64 0, .int .i64 0, .int .i64 0, .int .u64 0, .int .u64 0, .int .u64 0, .int .u64 0, .bool false, .int .u32 0, .int .i64 0, .bool false] 40 (0, 0)) := by rw [hb2.block _ (by simp)]; exact al_neww rfl _
  have hz2 : w.heap.size < w2.heap.size := (Array.getElem?_eq_some_iff.1 hR2).1
  clear hb2 cf
  refine Lib.hid ?_
  go_wp2_with (with_reducible refine stop_op (o := ⟨some 12, _, _, _, _, _⟩) ?_)
  obtain ⟨w3, hw3⟩ : ∃ v, v = w2.alloc (.cells #[.bool false, .int .i64 20, .int .i64 8, .int .i64 9, .int .i64 12, .int .i64 4] 69) := ⟨_, rfl⟩
  have hF3 : w3.heap[w2.heap.size]? = some (.cells #[.bool false, .int .i64 20, .int .i64 8, .int .i64 9, .int .i64 12, .int .i64 4] 69 (0, 0)) := by rw [hw3]; exact al_neww rfl _
  have hR3 : w3.heap[w.heap.size]? = some (.cells #[.bool false, .int .i64 0, .int .i64 0, .int .i64 0, .int .i64 0, .int .u64 0, .int .u64 0, .int .u64 0, .int .u64 0, .bool false, .int .u32 0, .int .i64 0, .bool false] 40 (0, 0)) := by rw [hw3, al_oldw hz2]; exact hR2
  have bw3 : Below w.heap.size w w3 := by rw [hw3]; exact Below.al bw2 _
  obtain ⟨⟨f0, f1, f2, f3, f4, f5⟩, _⟩ := cells6 hF3
  obtain ⟨⟨r0, r1, r2, r3, r4, r5, r6, r7, r8, r9, r10, r11, r12⟩, q0, q1, q2, q3, q4, q5, q6, q7, q8, q9, q10, q11, q12⟩ := cells13 hR3
  rw [← hw3]
  clear hw3 hR2 bw2
  refine Lib.hid ?_
  go_wp2_with fail
  have hz3 : w2.heap.size < w3.heap.size := (Array.getElem?_eq_some_iff.1 hF3).1
  have bq := fun d os => bw3.trans ((below_regrown w3 d os).mono bw3.size)
  have qa := fun d os => Calls.regrown_of (n2 (grow (redrawn w3 d) os) (bq d os))
  have qb := fun d os => Calls.regrown_of (n6 (grow (redrawn w3 d) os) (bq d os))
  refine wp_region_quiet_below (by kernel_rfl) (by kernel_rfl) ?_
  repeat (first | go_big_quiet_skip | quiet_step (first | (go_at_call 69; with_reducible exact qa _ _) | (go_at_call 69; with_reducible exact qb _ _)))
  refine wpQuiet_nil ?_
  intro _ hw'
  obtain ⟨⟨dq, osq⟩, hw''⟩ := hw'
  subst hw''
  obtain ⟨w4, hw4⟩ : ∃ v, v = grow (redrawn w3 dq) osq := ⟨_, rfl⟩
  have b34 : Below w3.heap.size w3 w4 := by rw [hw4]; exact below_regrown _ _ _
  have bw4 : Below w.heap.size w w4 := bw3.trans (b34.mono bw3.size)
  have hF4 : w4.heap[w2.heap.size]? = some (.cells #[.bool false, .int .i64 20, .int .i64 8, .int .i64 9, .int .i64 12, .int .i64 4] 69 (0, 0)) := (b34.block _ hz3).trans hF3
  have hR4 : w4.heap[w.heap.size]? = some (.cells #[.bool false, .int .i64 0, .int .i64 0, .int .i64 0, .int .i64 0, .int .u64 0, .int .u64 0, .int .u64 0, .int .u64 0, .bool false, .int .u32 0, .int .i64 0, .bool false] 40 (0, 0)) := (b34.block _ (by omega)).trans hR3
  have c04 := keepc bw4 c0
  rw [← hw4]
  clear hw4 b34 bq qa qb n2 n6 r0 r1 r2 r3 r4 r5 r6 r7 r8 r9 r10 r11 r12 q0 q1 q2 q3 q4 q5 q6 q7 q8 q9 q10 q11 q12 f0 f1 f2 f3 f4 f5 hF3 hR3 bw3 c0
  obtain ⟨⟨f0, f1, f2, f3, f4, f5⟩, _⟩ := cells6 hF4
  obtain ⟨⟨r0, r1, r2, r3, r4, r5, r6, r7, r8, r9, r10, r11, r12⟩, q0, q1, q2, q3, q4, q5, q6, q7, q8, q9, q10, q11, q12⟩ := cells13 hR4
  go_wp2_with (go_at_call 15; refine (nS _ bw4).mono ?_; rintro e w5 ⟨rfl, hb5w⟩; refine Hid.out ?_)
  have bw5 : Below w.heap.size w w5 := bw4.trans (hb5w.mono bw4.size)
  have hz4 : w2.heap.size < w4.heap.size := (Array.getElem?_eq_some_iff.1 hF4).1
  have hF5 : w5.heap[w2.heap.size]? = some (.cells #[.bool false, .int .i64 20, .int .i64 8, .int .i64 9, .int .i64 12, .int .i64 4] 69 (0, 0)) := (hb5w.block _ hz4).trans hF4
  have hR5 : w5.heap[w.heap.size]? = some (.cells #[.bool false, .int .i64 0, .int .i64 0, .int .i64 0, .int .i64 0, .int .u64 0, .int .u64 0, .int .u64 0, .int .u64 0, .bool false, .int .u32 0, .int .i64 0, .bool false] 40 (0, 0)) := (hb5w.block _ (by omega)).trans hR4
  clear hb5w nS r0 r1 r2 r3 r4 r5 r6 r7 r8 r9 r10 r11 r12 q0 q1 q2 q3 q4 q5 q6 q7 q8 q9 q10 q11 q12 f0 f1 f2 f3 f4 f5 hF4 hR4 bw4 c04
  obtain ⟨⟨f0, f1, f2, f3, f4, f5⟩, _⟩ := cells6 hF5
  obtain ⟨⟨r0, r1, r2, r3, r4, r5, r6, r7, r8, r9, r10, r11, r12⟩, q0, q1, q2, q3, q4, q5, q6, q7, q8, q9, q10, q11, q12⟩ := cells13 hR5
  refine Lib.hid ?_
  go_wp2
  refine bodyPost_ret_by (res_row Try.results74 _ _ w.heap.size 40 #[.bool false, .int .i64 0, .int .i64 0, .int .i64 0, .int .i64 0, .int .u64 0, .int .u64 0, .int .u64 0, .int .u64 0, .bool false, .int .u32 0, .int .i64 0, .bool false] _ rfl (heap_set13w hR5 (.bool false) (.int .i64 0) (.int .i64 0) (.int .i64 0) (.int .i64 0) (.int .u64 0) (.int .u64 0) (.int .u64 0) (.int .u64 0) (.bool false) (.int .u32 0) (.int .i64 0) (.bool false)) Try.underlying40 (by kernel_rfl)) rfl ⟨rfl, ?_⟩
  exact below_set13 bw5 (by omega) _ _ _ _ _ _ _ _ _ _ _ _ _

set_option maxHeartbeats 2000000 in
set_option maxRecDepth 100000 in
theorem p4_f (g o c n : Nat) (l : List UInt8) (hn : l.length = n) (hc : n ≤ c) (hcm : c ≤ 9223372036854775807) (h1 : 20 ≤ n) (h2 : byN l 0 % 16 = 5) (h3 : 20 ≤ nbN l 2 2) (h4 : nbN l 2 2 ≤ n) (h5 : sumP (l.take 20) = 0) (h6 : 32768 ≤ nbN l 6 2) {w : World} (hb : Byt w g o l) :
    Calls Try.prog 74 #[.slice (some ⟨g, o, none⟩) n c] w fun e w' => e = .returned (.tuple #[.agg (vcells zvw), .int .i64 42]) ∧ Below w.heap.size w w' := by
  have hi : ¬ (n : Int) < 20 := by omega
  have hi2 : decide ((n : Int) < 20) = false := by simp; omega
  have hi3 : decide (n < 20) = false := by simp; omega
  have h0n : 0 < n := by omega
  have h0i : (0 : Int) < (n : Int) := by omega
  have s2 : ∀ W, (Instr.slice 22 (.slice (some ⟨g, o, none⟩) n c) (some (.int .i64 2)) (some (.int .i64 4)) none).run Try.prog W = .ok (.slice (some ⟨g, o + 2, none⟩) 2 (c - 2)) W := cut_lh g o n c 2 4 (by omega) (by omega) (by omega) hcm
  have s6 : ∀ W, (Instr.slice 22 (.slice (some ⟨g, o, none⟩) n c) (some (.int .i64 6)) (some (.int .i64 8)) none).run Try.prog W = .ok (.slice (some ⟨g, o + 6, none⟩) 2 (c - 6)) W := cut_lh g o n c 6 8 (by omega) (by omega) (by omega) hcm
  have s4 : ∀ W, (Instr.slice 22 (.slice (some ⟨g, o, none⟩) n c) (some (.int .i64 4)) (some (.int .i64 6)) none).run Try.prog W = .ok (.slice (some ⟨g, o + 4, none⟩) 2 (c - 4)) W := cut_lh g o n c 4 6 (by omega) (by omega) (by omega) hcm
  have s20 : ∀ W, (Instr.slice 22 (.slice (some ⟨g, o, none⟩) n c) none (some (.int .i64 20)) none).run Try.prog W = .ok (.slice (some ⟨g, o, none⟩) 20 c) W := cut_h g o n c 20 (by omega) hcm
  have n2 := nb_bel g o n c 2 2 l hn (by omega) (by omega) hb
  have n6 := nb_bel g o n c 6 2 l hn (by omega) (by omega) hb
  have n4 := nb_eq g o n c 4 2 l hn (by omega) (by omega) hb
  have nS := fun (W : World) (h : Below w.heap.size w W) => sum_bel g o c 20 (l.take 20) (by rw [List.length_take]; omega) (by omega) hcm (by omega) (show Byt W g o (l.take 20) by have := (hb.below h).sub 0 20; simpa using this)
  have cv := fun (W : World) (h : Below w.heap.size w W) => view_4 g o c n (nbN l 2 2) l hn (by omega) hc hcm (hb.below h)
  have c0 := by_cell hb hn 0 h0n
  rw [Nat.add_zero] at c0
  have x8 := byN_lt l 0
  have hT := nb2_lt l 2
  have hS := nb2_lt l 6
  have hI := nb2_lt l 4
  have hsl := sumP_le (l.take 20)
  have e0 := andU8 (byN l 0) x8
  generalize hv : view4 l (nbN l 2 2) = v at cv
  generalize byN l 0 = X at *
  generalize nbN l 2 2 = T at *
  generalize nbN l 6 2 = S at *
  generalize nbN l 4 2 = I4 at *
  generalize sumP (l.take 20) = sm at *
  simp only [vcells] at cv
  have Hv := Lib.hid hv
  clear hv hb hn
  have Ti : (T : Int) < 65536 := by omega
  have Si : (S : Int) < 65536 := by omega
  have Ii : (I4 : Int) < 65536 := by omega
  have wT : IntKind.i64.wrap (T : Int) = (T : Int) := by rw [IntKind.wrap_i64]; omega
  obtain ⟨r, hr⟩ : ∃ r, r = X % 16 := ⟨_, rfl⟩
  rw [← hr] at e0
  have Hr := Lib.hid hr
  clear hr
  have hb5 : ((r : Int) != 5) = false := by simp; have := Hr.out; omega
  have hT20 : decide ((T : Int) < 20) = false := by simp; omega
  have hT20n : decide (T < 20) = false := by simp; omega
  have hT20i : ¬ (T : Int) < 20 := by omega
  have hTn : decide ((n : Int) < (T : Int)) = false := by simp; omega
  have hTnn : decide (n < T) = false := by simp; omega
  have hTni : ¬ (n : Int) < (T : Int) := by omega
  have hs0 : ((sm : Int) != 0) = false := by simp; omega
  have hp0 : ((S : Int) / 32768 != 0) = true := by simp; omega
  simp only [vcells, zvw]
  have cf := fam_any false
  simp only [famCells, if_false, Bool.false_eq_true] at cf
  go_enter Try.func74, Try.ntmps74
  go_wp2_with (go_at_call 28; refine (cf _).mono ?_; rintro e w2 ⟨rfl, hb2⟩; refine Hid.out ?_)
  have bw2 : Below w.heap.size w w2 := bel_via (Below.al (Below.refl _ _) _) hb2
  have hR2 : w2.heap[w.heap.size]? = some (.cells #[.bool false, .int .i64 0, .int .i64 0, .int .i64 0, .int .i64 0, .int .u64 0, .int .u64 0, .int .u64 0, .int .u64 0, .bool false, .int .u32 0, .int .i64 0, .bool false] 40 (0, 0)) := by rw [hb2.block _ (by simp)]; exact al_neww rfl _
  have hz2 : w.heap.size < w2.heap.size := (Array.getElem?_eq_some_iff.1 hR2).1
  clear hb2 cf
  refine Lib.hid ?_
  go_wp2_with (with_reducible refine stop_op (o := ⟨some 12, _, _, _, _, _⟩) ?_)
  obtain ⟨w3, hw3⟩ : ∃ v, v = w2.alloc (.cells #[.bool false, .int .i64 20, .int .i64 8, .int .i64 9, .int .i64 12, .int .i64 4] 69) := ⟨_, rfl⟩
  have hF3 : w3.heap[w2.heap.size]? = some (.cells #[.bool false, .int .i64 20, .int .i64 8, .int .i64 9, .int .i64 12, .int .i64 4] 69 (0, 0)) := by rw [hw3]; exact al_neww rfl _
  have hR3 : w3.heap[w.heap.size]? = some (.cells #[.bool false, .int .i64 0, .int .i64 0, .int .i64 0, .int .i64 0, .int .u64 0, .int .u64 0, .int .u64 0, .int .u64 0, .bool false, .int .u32 0, .int .i64 0, .bool false] 40 (0, 0)) := by rw [hw3, al_oldw hz2]; exact hR2
  have bw3 : Below w.heap.size w w3 := by rw [hw3]; exact Below.al bw2 _
  obtain ⟨⟨f0, f1, f2, f3, f4, f5⟩, _⟩ := cells6 hF3
  obtain ⟨⟨r0, r1, r2, r3, r4, r5, r6, r7, r8, r9, r10, r11, r12⟩, q0, q1, q2, q3, q4, q5, q6, q7, q8, q9, q10, q11, q12⟩ := cells13 hR3
  rw [← hw3]
  clear hw3 hR2 bw2
  refine Lib.hid ?_
  go_wp2_with fail
  have hz3 : w2.heap.size < w3.heap.size := (Array.getElem?_eq_some_iff.1 hF3).1
  have bq := fun d os => bw3.trans ((below_regrown w3 d os).mono bw3.size)
  have qa := fun d os => Calls.regrown_of (n2 (grow (redrawn w3 d) os) (bq d os))
  have qb := fun d os => Calls.regrown_of (n6 (grow (redrawn w3 d) os) (bq d os))
  refine wp_region_quiet_below (by kernel_rfl) (by kernel_rfl) ?_
  repeat (first | go_big_quiet_skip | quiet_step (first | (go_at_call 69; with_reducible exact qa _ _) | (go_at_call 69; with_reducible exact qb _ _)))
  refine wpQuiet_nil ?_
  intro _ hw'
  obtain ⟨⟨dq, osq⟩, hw''⟩ := hw'
  subst hw''
  obtain ⟨w4, hw4⟩ : ∃ v, v = grow (redrawn w3 dq) osq := ⟨_, rfl⟩
  have b34 : Below w3.heap.size w3 w4 := by rw [hw4]; exact below_regrown _ _ _
  have bw4 : Below w.heap.size w w4 := bw3.trans (b34.mono bw3.size)
  have hF4 : w4.heap[w2.heap.size]? = some (.cells #[.bool false, .int .i64 20, .int .i64 8, .int .i64 9, .int .i64 12, .int .i64 4] 69 (0, 0)) := (b34.block _ hz3).trans hF3
  have hR4 : w4.heap[w.heap.size]? = some (.cells #[.bool false, .int .i64 0, .int .i64 0, .int .i64 0, .int .i64 0, .int .u64 0, .int .u64 0, .int .u64 0, .int .u64 0, .bool false, .int .u32 0, .int .i64 0, .bool false] 40 (0, 0)) := (b34.block _ (by omega)).trans hR3
  have c04 := keepc bw4 c0
  rw [← hw4]
  clear hw4 b34 bq qa qb n2 n6 r0 r1 r2 r3 r4 r5 r6 r7 r8 r9 r10 r11 r12 q0 q1 q2 q3 q4 q5 q6 q7 q8 q9 q10 q11 q12 f0 f1 f2 f3 f4 f5 hF3 hR3 bw3 c0
  obtain ⟨⟨f0, f1, f2, f3, f4, f5⟩, _⟩ := cells6 hF4
  obtain ⟨⟨r0, r1, r2, r3, r4, r5, r6, r7, r8, r9, r10, r11, r12⟩, q0, q1, q2, q3, q4, q5, q6, q7, q8, q9, q10, q11, q12⟩ := cells13 hR4
  go_wp2_with (go_at_call 15; refine (nS _ bw4).mono ?_; rintro e w5 ⟨rfl, hb5w⟩; refine Hid.out ?_)
  have bw5 : Below w.heap.size w w5 := bw4.trans (hb5w.mono bw4.size)
  have hz4 : w2.heap.size < w4.heap.size := (Array.getElem?_eq_some_iff.1 hF4).1
  have hF5 : w5.heap[w2.heap.size]? = some (.cells #[.bool false, .int .i64 20, .int .i64 8, .int .i64 9, .int .i64 12, .int .i64 4] 69 (0, 0)) := (hb5w.block _ hz4).trans hF4
  have hR5 : w5.heap[w.heap.size]? = some (.cells #[.bool false, .int .i64 0, .int .i64 0, .int .i64 0, .int .i64 0, .int .u64 0, .int .u64 0, .int .u64 0, .int .u64 0, .bool false, .int .u32 0, .int .i64 0, .bool false] 40 (0, 0)) := (hb5w.block _ (by omega)).trans hR4
  clear hb5w nS r0 r1 r2 r3 r4 r5 r6 r7 r8 r9 r10 r11 r12 q0 q1 q2 q3 q4 q5 q6 q7 q8 q9 q10 q11 q12 f0 f1 f2 f3 f4 f5 hF4 hR4 bw4 c04
  obtain ⟨⟨f0, f1, f2, f3, f4, f5⟩, _⟩ := cells6 hF5
  obtain ⟨⟨r0, r1, r2, r3, r4, r5, r6, r7, r8, r9, r10, r11, r12⟩, q0, q1, q2, q3, q4, q5, q6, q7, q8, q9, q10, q11, q12⟩ := cells13 hR5
  refine Lib.hid ?_
  go_wp2
  refine bodyPost_ret_by (res_row Try.results74 _ _ w.heap.size 40 #[.bool false, .int .i64 0, .int .i64 0, .int .i64 0, .int .i64 0, .int .u64 0, .int .u64 0, .int .u64 0, .int .u64 0, .bool false, .int .u32 0, .int .i64 0, .bool false] _ rfl (heap_set13w hR5 (.bool false) (.int .i64 0) (.int .i64 0) (.int .i64 0) (.int .i64 0) (.int .u64 0) (.int .u64 0) (.int .u64 0) (.int .u64 0) (.bool false) (.int .u32 0) (.int .i64 0) (.bool false)) Try.underlying40 (by kernel_rfl)) rfl ⟨rfl, ?_⟩
  exact below_set13 bw5 (by omega) _ _ _ _ _ _ _ _ _ _ _ _ _

set_option maxHeartbeats 2000000 in
set_option maxRecDepth 100000 in
theorem p4_g (g o c n : Nat) (l : List UInt8) (hn : l.length = n) (hc : n ≤ c) (hcm : c ≤ 9223372036854775807) (h1 : 20 ≤ n) (h2 : byN l 0 % 16 = 5) (h3 : 20 ≤ nbN l 2 2) (h4 : nbN l 2 2 ≤ n) (h5 : sumP (l.take 20) = 0) (h6 : nbN l 6 2 < 32768) {w : World} (hb : Byt w g o l) :
    Calls Try.prog 74 #[.slice (some ⟨g, o, none⟩) n c] w fun e w' => e = .returned (.tuple #[.agg (vcells (partP { view4 l (nbN l 2 2) with id := nbN l 4 2 } ((nbN l 6 2 % 8192 * 8 : Nat) : Int) ((nbN l 6 2 / 8192 % 2 : Nat) : Int))), .int .i64 0]) ∧ Below w.heap.size w w' := by
  have hi : ¬ (n : Int) < 20 := by omega
  have hi2 : decide ((n : Int) < 20) = false := by simp; omega
  have hi3 : decide (n < 20) = false := by simp; omega
  have h0n : 0 < n := by omega
  have h0i : (0 : Int) < (n : Int) := by omega
  have s2 : ∀ W, (Instr.slice 22 (.slice (some ⟨g, o, none⟩) n c) (some (.int .i64 2)) (some (.int .i64 4)) none).run Try.prog W = .ok (.slice (some ⟨g, o + 2, none⟩) 2 (c - 2)) W := cut_lh g o n c 2 4 (by omega) (by omega) (by omega) hcm
  have s6 : ∀ W, (Instr.slice 22 (.slice (some ⟨g, o, none⟩) n c) (some (.int .i64 6)) (some (.int .i64 8)) none).run Try.prog W = .ok (.slice (some ⟨g, o + 6, none⟩) 2 (c - 6)) W := cut_lh g o n c 6 8 (by omega) (by omega) (by omega) hcm
  have s4 : ∀ W, (Instr.slice 22 (.slice (some ⟨g, o, none⟩) n c) (some (.int .i64 4)) (some (.int .i64 6)) none).run Try.prog W = .ok (.slice (some ⟨g, o + 4, none⟩) 2 (c - 4)) W := cut_lh g o n c 4 6 (by omega) (by omega) (by omega) hcm
  have s20 : ∀ W, (Instr.slice 22 (.slice (some ⟨g, o, none⟩) n c) none (some (.int .i64 20)) none).run Try.prog W = .ok (.slice (some ⟨g, o, none⟩) 20 c) W := cut_h g o n c 20 (by omega) hcm
  have n2 := nb_bel g o n c 2 2 l hn (by omega) (by omega) hb
  have n6 := nb_bel g o n c 6 2 l hn (by omega) (by omega) hb
  have n4 := nb_eq g o n c 4 2 l hn (by omega) (by omega) hb
  have nS := fun (W : World) (h : Below w.heap.size w W) => sum_bel g o c 20 (l.take 20) (by rw [List.length_take]; omega) (by omega) hcm (by omega) (show Byt W g o (l.take 20) by have := (hb.below h).sub 0 20; simpa using this)
  have cv := fun (W : World) (h : Below w.heap.size w W) => view_4 g o c n (nbN l 2 2) l hn (by omega) hc hcm (hb.below h)
  have c0 := by_cell hb hn 0 h0n
  rw [Nat.add_zero] at c0
  have x8 := byN_lt l 0
  have hT := nb2_lt l 2
  have hS := nb2_lt l 6
  have hI := nb2_lt l 4
  have hsl := sumP_le (l.take 20)
  have e0 := andU8 (byN l 0) x8
  generalize hv : view4 l (nbN l 2 2) = v at cv
  generalize byN l 0 = X at *
  generalize nbN l 2 2 = T at *
  generalize nbN l 6 2 = S at *
  generalize nbN l 4 2 = I4 at *
  generalize sumP (l.take 20) = sm at *
  simp only [vcells] at cv
  have Hv := Lib.hid hv
  clear hv hb hn
  have Ti : (T : Int) < 65536 := by omega
  have Si : (S : Int) < 65536 := by omega
  have Ii : (I4 : Int) < 65536 := by omega
  have wT : IntKind.i64.wrap (T : Int) = (T : Int) := by rw [IntKind.wrap_i64]; omega
  obtain ⟨r, hr⟩ : ∃ r, r = X % 16 := ⟨_, rfl⟩
  rw [← hr] at e0
  have Hr := Lib.hid hr
  clear hr
  have hb5 : ((r : Int) != 5) = false := by simp; have := Hr.out; omega
  have hT20 : decide ((T : Int) < 20) = false := by simp; omega
  have hT20n : decide (T < 20) = false := by simp; omega
  have hT20i : ¬ (T : Int) < 20 := by omega
  have hTn : decide ((n : Int) < (T : Int)) = false := by simp; omega
  have hTnn : decide (n < T) = false := by simp; omega
  have hTni : ¬ (n : Int) < (T : Int) := by omega
  have hs0 : ((sm : Int) != 0) = false := by simp; omega
  have hp0 : ((S : Int) / 32768 != 0) = false := by simp; omega

  obtain ⟨a, ha⟩ : ∃ a, a = S % 8192 := ⟨_, rfl⟩
  obtain ⟨m, hm⟩ : ∃ a, a = S / 8192 % 2 := ⟨_, rfl⟩
  have ea : bits .and .u64 (S : Int) 8191 = (a : Int) := by have := andU64 S 13 (by omega) hS; rw [ha]; exact this
  have em : bits .and .u64 ((S : Int) / 8192) 1 = (m : Int) := by have := andU64 (S / 8192) 1 (by omega) (by omega); rw [hm]; exact this
  have eI : IntKind.u32.wrap (I4 : Int) = (I4 : Int) := by rw [IntKind.wrap_u32]; omega
  have a8 : a < 8192 := by omega
  have a8i : (a : Int) < 8192 := by omega
  have m8i : (m : Int) < 2 := by omega
  have e8 : ((a * 8 : Nat) : Int) = (a : Int) * 8 := by omega
  rw [← ha, ← hm, e8]
  have Ha := Lib.hid ha
  have Hm := Lib.hid hm
  clear ha hm e8
  obtain ⟨vp, hvp⟩ : ∃ x, x = partP { v with id := I4 } ((a : Int) * 8) (m : Int) := ⟨_, rfl⟩
  rw [← hvp]
  have Hvp := Lib.hid hvp
  clear hvp
  simp only [vcells]
  have cf := fam_any false
  simp only [famCells, if_false, Bool.false_eq_true] at cf
  go_enter Try.func74, Try.ntmps74
  go_wp2_with (go_at_call 28; refine (cf _).mono ?_; rintro e w2 ⟨rfl, hb2⟩; refine Hid.out ?_)
  have bw2 : Below w.heap.size w w2 := bel_via (Below.al (Below.refl _ _) _) hb2
  have hR2 : w2.heap[w.heap.size]? = some (.cells #[.bool false, .int .i64 0, .int .i64 0, .int .i64 0, .int .i64 0, .int .u64 0, .int .u64 0, .int .u64 0, .int .u64 0, .bool false, .int .u32 0, .int .i64 0, .bool false] 40 (0, 0)) := by rw [hb2.block _ (by simp)]; exact al_neww rfl _
  have hz2 : w.heap.size < w2.heap.size := (Array.getElem?_eq_some_iff.1 hR2).1
  clear hb2 cf
  refine Lib.hid ?_
  go_wp2_with (with_reducible refine stop_op (o := ⟨some 12, _, _, _, _, _⟩) ?_)
  obtain ⟨w3, hw3⟩ : ∃ v, v = w2.alloc (.cells #[.bool false, .int .i64 20, .int .i64 8, .int .i64 9, .int .i64 12, .int .i64 4] 69) := ⟨_, rfl⟩
  have hF3 : w3.heap[w2.heap.size]? = some (.cells #[.bool false, .int .i64 20, .int .i64 8, .int .i64 9, .int .i64 12, .int .i64 4] 69 (0, 0)) := by rw [hw3]; exact al_neww rfl _
  have hR3 : w3.heap[w.heap.size]? = some (.cells #[.bool false, .int .i64 0, .int .i64 0, .int .i64 0, .int .i64 0, .int .u64 0, .int .u64 0, .int .u64 0, .int .u64 0, .bool false, .int .u32 0, .int .i64 0, .bool false] 40 (0, 0)) := by rw [hw3, al_oldw hz2]; exact hR2
  have bw3 : Below w.heap.size w w3 := by rw [hw3]; exact Below.al bw2 _
  obtain ⟨⟨f0, f1, f2, f3, f4, f5⟩, _⟩ := cells6 hF3
  obtain ⟨⟨r0, r1, r2, r3, r4, r5, r6, r7, r8, r9, r10, r11, r12⟩, q0, q1, q2, q3, q4, q5, q6, q7, q8, q9, q10, q11, q12⟩ := cells13 hR3
  rw [← hw3]
  clear hw3 hR2 bw2
  refine Lib.hid ?_
  go_wp2_with fail
  have hz3 : w2.heap.size < w3.heap.size := (Array.getElem?_eq_some_iff.1 hF3).1
  have bq := fun d os => bw3.trans ((below_regrown w3 d os).mono bw3.size)
  have qa := fun d os => Calls.regrown_of (n2 (grow (redrawn w3 d) os) (bq d os))
  have qb := fun d os => Calls.regrown_of (n6 (grow (redrawn w3 d) os) (bq d os))
  refine wp_region_quiet_below (by kernel_rfl) (by kernel_rfl) ?_
  repeat (first | go_big_quiet_skip | quiet_step (first | (go_at_call 69; with_reducible exact qa _ _) | (go_at_call 69; with_reducible exact qb _ _)))
  refine wpQuiet_nil ?_
  intro _ hw'
  obtain ⟨⟨dq, osq⟩, hw''⟩ := hw'
  subst hw''
  obtain ⟨w4, hw4⟩ : ∃ v, v = grow (redrawn w3 dq) osq := ⟨_, rfl⟩
  have b34 : Below w3.heap.size w3 w4 := by rw [hw4]; exact below_regrown _ _ _
  have bw4 : Below w.heap.size w w4 := bw3.trans (b34.mono bw3.size)
  have hF4 : w4.heap[w2.heap.size]? = some (.cells #[.bool false, .int .i64 20, .int .i64 8, .int .i64 9, .int .i64 12, .int .i64 4] 69 (0, 0)) := (b34.block _ hz3).trans hF3
  have hR4 : w4.heap[w.heap.size]? = some (.cells #[.bool false, .int .i64 0, .int .i64 0, .int .i64 0, .int .i64 0, .int .u64 0, .int .u64 0, .int .u64 0, .int .u64 0, .bool false, .int .u32 0, .int .i64 0, .bool false] 40 (0, 0)) := (b34.block _ (by omega)).trans hR3
  have c04 := keepc bw4 c0
  rw [← hw4]
  clear hw4 b34 bq qa qb n2 n6 r0 r1 r2 r3 r4 r5 r6 r7 r8 r9 r10 r11 r12 q0 q1 q2 q3 q4 q5 q6 q7 q8 q9 q10 q11 q12 f0 f1 f2 f3 f4 f5 hF3 hR3 bw3 c0
  obtain ⟨⟨f0, f1, f2, f3, f4, f5⟩, _⟩ := cells6 hF4
  obtain ⟨⟨r0, r1, r2, r3, r4, r5, r6, r7, r8, r9, r10, r11, r12⟩, q0, q1, q2, q3, q4, q5, q6, q7, q8, q9, q10, q11, q12⟩ := cells13 hR4
  go_wp2_with (go_at_call 15; refine (nS _ bw4).mono ?_; rintro e w5 ⟨rfl, hb5w⟩; refine Hid.out ?_)
  have bw5 : Below w.heap.size w w5 := bw4.trans (hb5w.mono bw4.size)
  have hz4 : w2.heap.size < w4.heap.size := (Array.getElem?_eq_some_iff.1 hF4).1
  have hF5 : w5.heap[w2.heap.size]? = some (.cells #[.bool false, .int .i64 20, .int .i64 8, .int .i64 9, .int .i64 12, .int .i64 4] 69 (0, 0)) := (hb5w.block _ hz4).trans hF4
  have hR5 : w5.heap[w.heap.size]? = some (.cells #[.bool false, .int .i64 0, .int .i64 0, .int .i64 0, .int .i64 0, .int .u64 0, .int .u64 0, .int .u64 0, .int .u64 0, .bool false, .int .u32 0, .int .i64 0, .bool false] 40 (0, 0)) := (hb5w.block _ (by omega)).trans hR4
  clear hb5w nS r0 r1 r2 r3 r4 r5 r6 r7 r8 r9 r10 r11 r12 q0 q1 q2 q3 q4 q5 q6 q7 q8 q9 q10 q11 q12 f0 f1 f2 f3 f4 f5 hF4 hR4 bw4 c04
  obtain ⟨⟨f0, f1, f2, f3, f4, f5⟩, _⟩ := cells6 hF5
  obtain ⟨⟨r0, r1, r2, r3, r4, r5, r6, r7, r8, r9, r10, r11, r12⟩, q0, q1, q2, q3, q4, q5, q6, q7, q8, q9, q10, q11, q12⟩ := cells13 hR5
  refine Lib.hid ?_
  go_wp2_with (go_at_call 83; refine (cv _ bw5).mono ?_; rintro e w6 ⟨rfl, hb6w⟩; refine Hid.out ?_)
  have bw6 : Below w.heap.size w w6 := bw5.trans (hb6w.mono bw5.size)
  have hz5 : w.heap.size < w5.heap.size := (Array.getElem?_eq_some_iff.1 hR5).1
  have hR6 : w6.heap[w.heap.size]? = some (.cells #[.bool false, .int .i64 0, .int .i64 0, .int .i64 0, .int .i64 0, .int .u64 0, .int .u64 0, .int .u64 0, .int .u64 0, .bool false, .int .u32 0, .int .i64 0, .bool false] 40 (0, 0)) := (hb6w.block _ hz5).trans hR5
  have hz6 : w.heap.size < w6.heap.size := (Array.getElem?_eq_some_iff.1 hR6).1
  clear hb6w cv r0 r1 r2 r3 r4 r5 r6 r7 r8 r9 r10 r11 r12 q0 q1 q2 q3 q4 q5 q6 q7 q8 q9 q10 q11 q12 f0 f1 f2 f3 f4 f5 hF5 hR5 bw5
  refine Lib.hid ?_
  go_wp2_with (with_reducible refine stop_op (o := ⟨some 57, _, _, _, _, _⟩) ?_)
  obtain ⟨w7, hw7⟩ : ∃ x, x = w6.alloc (.cells #[.bool v.v6, .int .i64 v.head, .int .i64 v.total, .int .i64 v.ttl, .int .i64 v.proto, .int .u64 v.srcH, .int .u64 v.srcL, .int .u64 v.dstH, .int .u64 v.dstL, .bool v.frag, .int .u32 v.id, .int .i64 v.off, .bool v.more] 40) := ⟨_, rfl⟩
  have hV7 : ViewAt w7 w6.heap.size v := by rw [hw7]; exact al_neww rfl _
  have hR7 : w7.heap[w.heap.size]? = some (.cells #[.bool false, .int .i64 0, .int .i64 0, .int .i64 0, .int .i64 0, .int .u64 0, .int .u64 0, .int .u64 0, .int .u64 0, .bool false, .int .u32 0, .int .i64 0, .bool false] 40 (0, 0)) := by rw [hw7, al_oldw hz6]; exact hR6
  have bw7 : Below w.heap.size w w7 := by rw [hw7]; exact Below.al bw6 _
  rw [← hw7]
  clear hw7 hR6 bw6
  have v10 : w7.cell? ⟨w6.heap.size, 10, none⟩ = some (.int .u32 v.id) := hV7.cell 10
  have vf10 := hV7.free 10
  have dV : ViewAt (w7.setCell ⟨w6.heap.size, 10, none⟩ (.int .u32 (I4 : Int))) w6.heap.size { v with id := I4 } := hV7.set rfl
  have cp := part_any { v with id := I4 } w6.heap.size ((a : Int) * 8) (m : Int) (by omega) (by omega) dV
  rw [← Hvp.out] at cp
  refine Lib.hid ?_
  go_wp2_with (first | (go_at_call 69; refine (n4 _ bw7).mono ?_; rintro e w8 ⟨rfl, rfl⟩) | (go_at_call 84; refine cp.mono ?_; rintro e w9 ⟨rfl, hV9, hw9⟩; refine Hid.out ?_))
  obtain ⟨x9, y9, z9, hw9⟩ := hw9
  have hR9 : w9.heap[w.heap.size]? = some (.cells #[.bool false, .int .i64 0, .int .i64 0, .int .i64 0, .int .i64 0, .int .u64 0, .int .u64 0, .int .u64 0, .int .u64 0, .bool false, .int .u32 0, .int .i64 0, .bool false] 40 (0, 0)) := by rw [hw9, set_other (by omega), set_other (by omega), set_other (by omega), set_other (by omega)]; exact hR7
  have bw9 : Below w.heap.size w w9 := by rw [hw9]; exact below_set (below_set (below_set (below_set bw7 (by omega) 10 _) (by omega) 11 _) (by omega) 12 _) (by omega) 9 _
  have hV9c : w9.heap[w6.heap.size]? = some (.cells #[.bool vp.v6, .int .i64 vp.head, .int .i64 vp.total, .int .i64 vp.ttl, .int .i64 vp.proto, .int .u64 vp.srcH, .int .u64 vp.srcL, .int .u64 vp.dstH, .int .u64 vp.dstL, .bool vp.frag, .int .u32 vp.id, .int .i64 vp.off, .bool vp.more] 40 (0, 0)) := hV9
  obtain ⟨⟨r0, r1, r2, r3, r4, r5, r6, r7, r8, r9, r10, r11, r12⟩, q0, q1, q2, q3, q4, q5, q6, q7, q8, q9, q10, q11, q12⟩ := cells13 hR9
  obtain ⟨⟨t0, t1, t2, t3, t4, t5, t6, t7, t8, t9, t10, t11, t12⟩, _⟩ := cells13 hV9c
  clear hw9 hV9 hV9c v10 vf10 dV cp hV7 hR7 bw7 Hvp n4 Hv s2 s6 s4 s20
  refine Lib.hid ?_
  go_wp2
  refine bodyPost_ret_by (res_row Try.results74 _ _ w.heap.size 40 #[.bool vp.v6, .int .i64 vp.head, .int .i64 vp.total, .int .i64 vp.ttl, .int .i64 vp.proto, .int .u64 vp.srcH, .int .u64 vp.srcL, .int .u64 vp.dstH, .int .u64 vp.dstL, .bool vp.frag, .int .u32 vp.id, .int .i64 vp.off, .bool vp.more] _ rfl (heap_set13w hR9 (.bool vp.v6) (.int .i64 vp.head) (.int .i64 vp.total) (.int .i64 vp.ttl) (.int .i64 vp.proto) (.int .u64 vp.srcH) (.int .u64 vp.srcL) (.int .u64 vp.dstH) (.int .u64 vp.dstL) (.bool vp.frag) (.int .u32 vp.id) (.int .i64 vp.off) (.bool vp.more)) Try.underlying40 (by kernel_rfl)) rfl ⟨rfl, ?_⟩
  exact below_set13 bw9 (by omega) _ _ _ _ _ _ _ _ _ _ _ _ _

/-- IPv4 headers. -/
theorem parse4_any (g o c n : Nat) (l : List UInt8) (hn : l.length = n) (hc : n ≤ c) (hcm : c ≤ 9223372036854775807) {w : World} (hb : Byt w g o l) :
    Calls Try.prog 74 #[.slice (some ⟨g, o, none⟩) n c] w fun e w' => e = .returned (.tuple #[.agg (vcells (parse4P l).1), .int .i64 (parse4P l).2]) ∧ Below w.heap.size w w' := by
  unfold parse4P
  rw [hn]
  by_cases h1 : n < 20
  · rw [if_pos h1]; exact p4_a g o c n l hn hc hcm h1 hb
  rw [if_neg h1]
  by_cases h2 : byN l 0 % 16 ≠ 5
  · rw [if_pos h2]; exact p4_b g o c n l hn hc hcm (by omega) h2 hb
  rw [if_neg h2]
  by_cases h3 : nbN l 2 2 < 20
  · rw [if_pos h3]; exact p4_c g o c n l hn hc hcm (by omega) (by omega) h3 hb
  rw [if_neg h3]
  by_cases h4 : n < nbN l 2 2
  · rw [if_pos h4]; exact p4_d g o c n l hn hc hcm (by omega) (by omega) (by omega) h4 hb
  rw [if_neg h4]
  by_cases h5 : sumP (l.take 20) ≠ 0
  · rw [if_pos h5]; exact p4_e g o c n l hn hc hcm (by omega) (by omega) (by omega) (by omega) h5 hb
  rw [if_neg h5]
  by_cases h6 : 32768 ≤ nbN l 6 2
  · rw [if_pos h6]; exact p4_f g o c n l hn hc hcm (by omega) (by omega) (by omega) (by omega) (by omega) h6 hb
  rw [if_neg h6]
  exact p4_g g o c n l hn hc hcm (by omega) (by omega) (by omega) (by omega) (by omega) (by omega) hb
end Go.Proofs.Ytpmbdjdhgcjkfaa
