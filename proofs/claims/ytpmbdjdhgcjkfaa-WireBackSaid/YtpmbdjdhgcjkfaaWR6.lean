/- IPv6 headers: the document's parse6; by-name template (gen_wr6.py). -/
import Derived.Test.YtpmbdjdhgcjkfaaWR4
namespace Go.Proofs.Ytpmbdjdhgcjkfaa
open Go.RowKit Go.Sort
set_option linter.unusedVariables false
set_option linter.unusedSimpArgs false

theorem parse6P_all (l : List UInt8) (h1 : 40 ≤ l.length) (T : Nat) (hT : T = nbN l 4 2 + 40) :
    (l.length < T → parse6P l = (zvw, 40)) ∧
    (¬ l.length < T → (is4I (adrH ((l.drop 8).take 16) : Nat) (adrL ((l.drop 8).take 16) : Nat) || is4I (adrH ((l.drop 24).take 16) : Nat) (adrL ((l.drop 24).take 16) : Nat)) = true → parse6P l = (zvw, 42)) ∧
    (¬ l.length < T → (is4I (adrH ((l.drop 8).take 16) : Nat) (adrL ((l.drop 8).take 16) : Nat) || is4I (adrH ((l.drop 24).take 16) : Nat) (adrL ((l.drop 24).take 16) : Nat)) = false →
      (byN l 6 ≠ 44 → parse6P l = (⟨true, 40, T, byN l 7, byN l 6, adrH ((l.drop 8).take 16), adrL ((l.drop 8).take 16), adrH ((l.drop 24).take 16), adrL ((l.drop 24).take 16), false, 0, 0, false⟩, 0)) ∧
      (¬ byN l 6 ≠ 44 → (T < 48 → parse6P l = (zvw, 40)) ∧ (¬ T < 48 → (byN l 40 = 44 → parse6P l = (zvw, 42)) ∧
        (¬ byN l 40 = 44 → parse6P l = (partP ⟨true, 48, T, byN l 7, byN l 40, adrH ((l.drop 8).take 16), adrL ((l.drop 8).take 16), adrH ((l.drop 24).take 16), adrL ((l.drop 24).take 16), false, nbN l 44 4, 0, false⟩ ((nbN l 42 2 / 8 * 8 : Nat) : Int) ((nbN l 42 2 % 2 : Nat) : Int), 0))))) := by
  subst hT
  unfold parse6P
  rw [if_neg (by omega)]
  refine ⟨fun h => by rw [if_pos h], fun h k => ?_, fun h k => ⟨fun q => ?_, fun q => ⟨fun t => ?_, fun t => ⟨fun m => ?_, fun m => ?_⟩⟩⟩⟩
  · rw [if_neg h, if_pos (show (is4I (view6 l 0).srcH (view6 l 0).srcL || is4I (view6 l 0).dstH (view6 l 0).dstL) = true from k)]
  all_goals rw [if_neg h, if_neg (show ¬ (is4I (view6 l 0).srcH (view6 l 0).srcL || is4I (view6 l 0).dstH (view6 l 0).dstL) = true from by rw [show (is4I (view6 l 0).srcH (view6 l 0).srcL || is4I (view6 l 0).dstH (view6 l 0).dstL) = false from k]; exact Bool.false_ne_true)]
  · rw [if_pos q]; rfl
  · rw [if_neg q, if_pos t]
  · rw [if_neg q, if_neg t, if_pos m]
  · rw [if_neg q, if_neg t, if_neg m]; rfl
theorem take_two {l : List UInt8} {o : Nat} (h : o + 2 ≤ l.length) : nbN l o 2 = byN l o * 256 + byN l (o + 1) := by
  unfold nbN byN
  rw [List.drop_eq_getElem_cons (by omega), List.drop_eq_getElem_cons (by omega)]
  simp only [List.take_succ_cons, List.take_zero, numB, List.foldl_cons, List.foldl_nil, List.getD_eq_getElem?_getD, List.getElem?_eq_getElem (show o < l.length by omega), List.getElem?_eq_getElem (show o + 1 < l.length by omega), Option.getD_some]
  omega
theorem set_v1 {w : World} {B : Nat} {x0 x1 x2 x3 x4 x5 x6 x7 x8 x9 x10 x11 x12 : Value} {t : TypeId} {fz : Nat × Nat} (h : w.heap[B]? = some (.cells #[x0, x1, x2, x3, x4, x5, x6, x7, x8, x9, x10, x11, x12] t fz)) (a : Value) :
    (w.setCell ⟨B, 4, none⟩ a).heap[B]? = some (.cells #[x0, x1, x2, x3, a, x5, x6, x7, x8, x9, x10, x11, x12] t fz) ∧
    (w.setCell ⟨B, 11, none⟩ a).heap[B]? = some (.cells #[x0, x1, x2, x3, x4, x5, x6, x7, x8, x9, x10, a, x12] t fz) ∧
    (w.setCell ⟨B, 12, none⟩ a).heap[B]? = some (.cells #[x0, x1, x2, x3, x4, x5, x6, x7, x8, x9, x10, x11, a] t fz) ∧
    (w.setCell ⟨B, 10, none⟩ a).heap[B]? = some (.cells #[x0, x1, x2, x3, x4, x5, x6, x7, x8, x9, a, x11, x12] t fz) := by
  refine ⟨?_, ?_, ?_, ?_⟩ <;> (rw [heap_setw h]; kernel_rfl)
theorem set_v91 {w : World} {B : Nat} {x0 x1 x2 x3 x4 x5 x6 x7 x8 x9 x10 x11 x12 : Value} {t : TypeId} {fz : Nat × Nat} (h : w.heap[B]? = some (.cells #[x0, x1, x2, x3, x4, x5, x6, x7, x8, x9, x10, x11, x12] t fz)) (a b : Value) :
    ((w.setCell ⟨B, 9, none⟩ a).setCell ⟨B, 1, none⟩ b).heap[B]? = some (.cells #[x0, b, x2, x3, x4, x5, x6, x7, x8, a, x10, x11, x12] t fz) := by
  rw [heap_setw (heap_setw h 9 _) 1 _]; kernel_rfl

set_option maxHeartbeats 2000000 in
set_option maxRecDepth 100000 in
theorem r6_a (g o c n : Nat) (l : List UInt8) (hn : l.length = n) (hc : n ≤ c) (hcm : c ≤ 9223372036854775807) (h1 : n < 40) {w : World} (hb : Byt w g o l) :
    Calls Try.prog 50 #[.slice (some ⟨g, o, none⟩) n c] w fun e w' => e = .returned (.tuple #[.agg (vcells zvw), .int .i64 40]) ∧ Below w.heap.size w w' := by
  have hi : (n : Int) < 40 := by omega
  clear hb hn
  simp only [vcells, zvw]
  go_enter Try.func50, Try.ntmps50
  go_wp2_with (with_reducible refine stop_op (o := ⟨some 6, _, _, _, _, _⟩) ?_)
  obtain ⟨w1, hw1⟩ : ∃ v, v = w.alloc (.cells #[.bool false, .int .i64 0, .int .i64 0, .int .i64 0, .int .i64 0, .int .u64 0, .int .u64 0, .int .u64 0, .int .u64 0, .bool false, .int .u32 0, .int .i64 0, .bool false] 43) := ⟨_, rfl⟩
  have hR : w1.heap[w.heap.size]? = some (.cells #[.bool false, .int .i64 0, .int .i64 0, .int .i64 0, .int .i64 0, .int .u64 0, .int .u64 0, .int .u64 0, .int .u64 0, .bool false, .int .u32 0, .int .i64 0, .bool false] 43 (0, 0)) := by rw [hw1]; exact al_neww rfl _
  have bw1 : Below w.heap.size w w1 := by rw [hw1]; exact Below.al (Below.refl _ _) _
  rw [← hw1]
  clear hw1
  obtain ⟨⟨r0, r1, r2, r3, r4, r5, r6, r7, r8, r9, r10, r11, r12⟩, q0, q1, q2, q3, q4, q5, q6, q7, q8, q9, q10, q11, q12⟩ := cells13 hR
  refine Lib.hid ?_
  go_wp2
  refine bodyPost_ret_by (res_row Try.results50 _ _ w.heap.size 43 #[.bool false, .int .i64 0, .int .i64 0, .int .i64 0, .int .i64 0, .int .u64 0, .int .u64 0, .int .u64 0, .int .u64 0, .bool false, .int .u32 0, .int .i64 0, .bool false] _ rfl (heap_set13w hR (.bool false) (.int .i64 0) (.int .i64 0) (.int .i64 0) (.int .i64 0) (.int .u64 0) (.int .u64 0) (.int .u64 0) (.int .u64 0) (.bool false) (.int .u32 0) (.int .i64 0) (.bool false)) Try.underlying43 (by kernel_rfl)) rfl ⟨rfl, ?_⟩
  exact below_set13 bw1 (by omega) _ _ _ _ _ _ _ _ _ _ _ _ _

set_option maxHeartbeats 2000000 in
set_option maxRecDepth 100000 in
theorem r6_b (g o c n : Nat) (l : List UInt8) (hn : l.length = n) (hc : n ≤ c) (hcm : c ≤ 9223372036854775807) (h1 : 40 ≤ n) {w : World} (hb : Byt w g o l) :
    Calls Try.prog 50 #[.slice (some ⟨g, o, none⟩) n c] w fun e w' => e = .returned (.tuple #[.agg (vcells (parse6P l).1), .int .i64 (parse6P l).2]) ∧ Below w.heap.size w w' := by
  have hi : ¬ (n : Int) < 40 := by omega
  have hi2 : decide ((n : Int) < 40) = false := by simp; omega
  have hi3 : decide (n < 40) = false := by simp; omega
  have s4 : ∀ W, (Instr.slice 22 (.slice (some ⟨g, o, none⟩) n c) (some (.int .i64 4)) (some (.int .i64 6)) none).run Try.prog W = .ok (.slice (some ⟨g, o + 4, none⟩) 2 (c - 4)) W := cut_lh g o n c 4 6 (by omega) (by omega) (by omega) hcm
  have s8 : ∀ W, (Instr.slice 22 (.slice (some ⟨g, o, none⟩) n c) (some (.int .i64 8)) (some (.int .i64 24)) none).run Try.prog W = .ok (.slice (some ⟨g, o + 8, none⟩) 16 (c - 8)) W := cut_lh g o n c 8 24 (by omega) (by omega) (by omega) hcm
  have s24 : ∀ W, (Instr.slice 22 (.slice (some ⟨g, o, none⟩) n c) (some (.int .i64 24)) (some (.int .i64 40)) none).run Try.prog W = .ok (.slice (some ⟨g, o + 24, none⟩) 16 (c - 24)) W := cut_lh g o n c 24 40 (by omega) (by omega) (by omega) hcm
  have n4 := get_eq g o n c 4 2 l hn (by omega) (by omega) hb
  have n8 := fun (W : World) (h : Below w.heap.size w W) => wide16 g (o + 8) (c - 8) ((l.drop 8).take 16) (by rw [List.length_take, List.length_drop]; omega) (by omega) (by omega) ((hb.below h).sub 8 16)
  have n24 := fun (W : World) (h : Below w.heap.size w W) => wide16 g (o + 24) (c - 24) ((l.drop 24).take 16) (by rw [List.length_take, List.length_drop]; omega) (by omega) (by omega) ((hb.below h).sub 24 16)
  have c7 := by_cell hb hn 7 (by omega)
  have c6 := by_cell hb hn 6 (by omega)
  have HB := Lib.hid hb
  have HN := Lib.hid hn
  have hQ := byN_lt l 6
  have hP := byN_lt l 7
  have hN := nb2_lt l 4
  have wx0 := adrH_lt (l := (l.drop 8).take 16) (by rw [List.length_take, List.length_drop]; omega)
  have wx1 := adrL_lt (l := (l.drop 8).take 16) (by rw [List.length_take, List.length_drop]; omega)
  have wy0 := adrH_lt (l := (l.drop 24).take 16) (by rw [List.length_take, List.length_drop]; omega)
  have wy1 := adrL_lt (l := (l.drop 24).take 16) (by rw [List.length_take, List.length_drop]; omega)
  obtain ⟨T, hT⟩ : ∃ T, T = nbN l 4 2 + 40 := ⟨_, rfl⟩
  have hr := parse6P_all l (by omega) T hT
  rw [hn] at hr
  generalize parse6P l = rr at *
  obtain ⟨vr, er⟩ := rr
  simp only
  generalize nbN l 4 2 = N at *
  generalize byN l 6 = Q at *
  generalize byN l 7 = P at *
  generalize adrH ((l.drop 8).take 16) = X0 at *
  generalize adrL ((l.drop 8).take 16) = X1 at *
  generalize adrH ((l.drop 24).take 16) = Y0 at *
  generalize adrL ((l.drop 24).take 16) = Y1 at *
  have HR := Lib.hid hr
  have wT : IntKind.i64.wrap (40 + (N : Int)) = (T : Int) := by rw [IntKind.wrap_i64]; omega
  have wT2 : 40 + (N : Int) = (T : Int) := by omega
  have wT3 : IntKind.i64.wrap (T : Int) = (T : Int) := by rw [IntKind.wrap_i64]; omega
  have hTb : T < 65577 := by omega
  have hT40 : 40 ≤ T := by omega
  have hTbi : (T : Int) < 65577 := by omega
  have wP : IntKind.i64.wrap (P : Int) = (P : Int) := by rw [IntKind.wrap_i64]; omega
  have wQ : IntKind.i64.wrap (Q : Int) = (Q : Int) := by rw [IntKind.wrap_i64]; omega
  have Pi8 : (P : Int) < 256 := by omega
  have Qi8 : (Q : Int) < 256 := by omega
  have HT := Lib.hid hT
  clear hb hn hr hT
  go_enter Try.func50, Try.ntmps50
  go_wp2_with (with_reducible refine stop_op (o := ⟨some 6, _, _, _, _, _⟩) ?_)
  obtain ⟨w1, hw1⟩ : ∃ v, v = w.alloc (.cells #[.bool false, .int .i64 0, .int .i64 0, .int .i64 0, .int .i64 0, .int .u64 0, .int .u64 0, .int .u64 0, .int .u64 0, .bool false, .int .u32 0, .int .i64 0, .bool false] 43) := ⟨_, rfl⟩
  have hR : w1.heap[w.heap.size]? = some (.cells #[.bool false, .int .i64 0, .int .i64 0, .int .i64 0, .int .i64 0, .int .u64 0, .int .u64 0, .int .u64 0, .int .u64 0, .bool false, .int .u32 0, .int .i64 0, .bool false] 43 (0, 0)) := by rw [hw1]; exact al_neww rfl _
  have bw1 : Below w.heap.size w w1 := by rw [hw1]; exact Below.al (Below.refl _ _) _
  rw [← hw1]
  clear hw1
  obtain ⟨⟨r0, r1, r2, r3, r4, r5, r6, r7, r8, r9, r10, r11, r12⟩, q0, q1, q2, q3, q4, q5, q6, q7, q8, q9, q10, q11, q12⟩ := cells13 hR
  refine Lib.hid ?_
  go_wp2_with fail
  have b7 := keepc bw1 c7
  have b6 := keepc bw1 c6
  have hC1 : ∀ w', Below w1.heap.size w1 w' → w'.cell? ⟨g, o + 7, none⟩ = some (.int .u8 (P : Int)) ∧ w'.cell? ⟨g, o + 6, none⟩ = some (.int .u8 (Q : Int)) := fun w' h => ⟨keepc h b7, keepc h b6⟩
  have p4 := fun (W : World) (h : Below w1.heap.size w1 W) => n4 W (bw1.trans (h.mono bw1.size))
  have p8 := fun (W : World) (h : Below w1.heap.size w1 W) => n8 W (bw1.trans (h.mono bw1.size))
  have p24 := fun (W : World) (h : Below w1.heap.size w1 W) => n24 W (bw1.trans (h.mono bw1.size))
  clear n4 n8 n24 b7 b6 c7 c6 r0 r1 r2 r3 r4 r5 r6 r7 r8 r9 r10 r11 r12 q0 q1 q2 q3 q4 q5 q6 q7 q8 q9 q10 q11 q12
  have j8 : (7 : Int) < (n : Int) := by omega
  have j9 : (6 : Int) < (n : Int) := by omega
  have k8 : 7 < n := by omega
  have k9 : 6 < n := by omega
  go_cut [4] from 9 (fun v6 wr => ∃ B, v6 = .pointer (some ⟨B, 0, none⟩) ∧ w1.heap.size ≤ B ∧ Below w1.heap.size w1 wr ∧ wr.heap[B]? = some (.cells #[.bool true, .int .i64 40, .int .i64 (T : Int), .int .i64 (P : Int), .int .i64 (Q : Int), .int .u64 (X0 : Int), .int .u64 (X1 : Int), .int .u64 (Y0 : Int), .int .u64 (Y1 : Int), .bool false, .int .u32 0, .int .i64 0, .bool false] 43 (0, 0)))
  case first =>
    have hz : ∀ w, (zeroValue 43).run Try.prog w = .ok (.agg #[.bool false, .int .i64 0, .int .i64 0, .int .i64 0, .int .i64 0, .int .u64 0, .int .u64 0, .int .u64 0, .int .u64 0, .bool false, .int .u32 0, .int .i64 0, .bool false]) w := fun w => by kernel_rfl
    refine wp_region_held (S := (fun w' => Below w1.heap.size w1 w' ∧ w'.cell? ⟨g, o + 7, none⟩ = some (.int .u8 (P : Int)) ∧ w'.cell? ⟨g, o + 6, none⟩ = some (.int .u8 (Q : Int)))) (by kernel_rfl) ?_
    change wpAnyH _ _ _ _ _ _ _ _ (World.drew _)
    have hS0 := keep0 hC1
    generalize w1.drew = wd at hS0 ⊢
    refine wpAnyH_take (i := 0) (v := ?_) rfl (by kernel_rfl) (by kernel_rfl) (by kernel_rfl) (fun _ _ _ h => h) (Or.inl ⟨by rfl, ?_⟩) hS0 ?_
    rotate_left 1
    · intro W hW
      obtain ⟨hW0, hW1, hW2⟩ := hW
      go_simp
      with_reducible rfl
    refine wpAnyH_take (i := 1) (v := ?_) rfl (by kernel_rfl) (by kernel_rfl) (by kernel_rfl) (fun _ _ _ h => h) (Or.inl ⟨by rfl, ?_⟩) hS0 ?_
    rotate_left 1
    · intro W hW
      obtain ⟨hW0, hW1, hW2⟩ := hW
      go_simp
      with_reducible rfl
    refine wpAnyH_take (i := 4) (v := ?_) rfl (by kernel_rfl) (by kernel_rfl) (by kernel_rfl) (fun _ _ _ h => h) (Or.inl ⟨by rfl, ?_⟩) hS0 ?_
    rotate_left 1
    · intro W hW
      obtain ⟨hW0, hW1, hW2⟩ := hW
      go_simp
      with_reducible rfl
    refine wpAnyH_take (i := 5) (v := ?_) rfl (by kernel_rfl) (by kernel_rfl) (by kernel_rfl) (fun _ _ _ h => h) (Or.inl ⟨by rfl, ?_⟩) hS0 ?_
    rotate_left 1
    · intro W hW
      obtain ⟨hW0, hW1, hW2⟩ := hW
      go_simp
      with_reducible rfl
    refine wpAnyH_take (i := 6) (v := ?_) rfl (by kernel_rfl) (by kernel_rfl) (by kernel_rfl) (fun _ _ _ h => h) (Or.inl ⟨by rfl, ?_⟩) hS0 ?_
    rotate_left 1
    · intro W hW
      obtain ⟨hW0, hW1, hW2⟩ := hW
      go_simp
      with_reducible rfl
    refine wpAnyH_take (i := 7) (v := ?_) rfl (by kernel_rfl) (by kernel_rfl) (by kernel_rfl) (fun _ _ _ h => h) (Or.inl ⟨by rfl, ?_⟩) hS0 ?_
    rotate_left 1
    · intro W hW
      obtain ⟨hW0, hW1, hW2⟩ := hW
      go_simp
      with_reducible rfl
    refine wpAnyH_take (i := 8) (v := ?_) rfl (by kernel_rfl) (by kernel_rfl) (by kernel_rfl) (fun _ _ _ h => h) (Or.inl ⟨by rfl, ?_⟩) hS0 ?_
    rotate_left 1
    · intro W hW
      obtain ⟨hW0, hW1, hW2⟩ := hW
      go_simp
      with_reducible rfl
    refine wpAnyH_take (i := 9) (v := ?_) rfl (by kernel_rfl) (by kernel_rfl) (by kernel_rfl) (fun _ _ _ h => h) (Or.inl ⟨by rfl, ?_⟩) hS0 ?_
    rotate_left 1
    · intro W hW
      obtain ⟨hW0, hW1, hW2⟩ := hW
      go_simp
      with_reducible rfl
    refine wpAnyH_take (i := 10) (v := ?_) rfl (by kernel_rfl) (by kernel_rfl) (by kernel_rfl) (fun _ _ _ h => h) (Or.inl ⟨by rfl, ?_⟩) hS0 ?_
    rotate_left 1
    · intro W hW
      obtain ⟨hW0, hW1, hW2⟩ := hW
      go_simp
      with_reducible rfl
    refine wpAnyH_take (i := 11) (v := ?_) rfl (by kernel_rfl) (by kernel_rfl) (by kernel_rfl) (fun _ _ _ h => h) (Or.inl ⟨by rfl, ?_⟩) hS0 ?_
    rotate_left 1
    · intro W hW
      obtain ⟨hW0, hW1, hW2⟩ := hW
      go_simp
      with_reducible rfl
    refine wpAnyH_take (i := 12) (v := ?_) rfl (by kernel_rfl) (by kernel_rfl) (by kernel_rfl) (fun _ _ _ h => h) (Or.inl ⟨by rfl, ?_⟩) hS0 ?_
    rotate_left 1
    · intro W hW
      obtain ⟨hW0, hW1, hW2⟩ := hW
      go_simp
      with_reducible rfl
    refine wpAnyH_take (i := 13) (v := ?_) rfl (by kernel_rfl) (by kernel_rfl) (by kernel_rfl) (fun _ _ _ h => h) (Or.inl ⟨by rfl, ?_⟩) hS0 ?_
    rotate_left 1
    · intro W hW
      obtain ⟨hW0, hW1, hW2⟩ := hW
      go_simp
      with_reducible rfl
    refine wpAnyH_take (i := 15) (v := ?_) rfl (by kernel_rfl) (by kernel_rfl) (by kernel_rfl) (fun _ _ _ h => h) (Or.inl ⟨by rfl, ?_⟩) hS0 ?_
    rotate_left 1
    · intro W hW
      obtain ⟨hW0, hW1, hW2⟩ := hW
      go_simp
      with_reducible rfl
    refine wpAnyH_take (i := 16) (v := ?_) rfl (by kernel_rfl) (by kernel_rfl) (by kernel_rfl) (fun _ _ _ h => h) (Or.inl ⟨by rfl, ?_⟩) hS0 ?_
    rotate_left 1
    · intro W hW
      obtain ⟨hW0, hW1, hW2⟩ := hW
      go_simp
      with_reducible rfl
    refine wpAnyH_ready (rs := [2, 19]) (by kernel_rfl) (by simp) ?_
    refine AllReadyH.cons rfl (fun K hK => ?_) (AllReadyH.cons rfl (fun K hK => ?_) AllReadyH.nil)
    · go_simp
      go_at_call 44
      refine (p4 _ hS0.1).mono ?_
      rintro e w20 ⟨rfl, rfl⟩
      refine hK.out _ _ hS0 (fun _ => ?_)
      clear hK K
      refine wpAnyH_take (i := 3) (v := ?_) rfl (by kernel_rfl) (by kernel_rfl) (by kernel_rfl) (fun _ _ _ h => h) (Or.inl ⟨by rfl, ?_⟩) hS0 ?_
      rotate_left 1
      · intro W hW
        obtain ⟨hW0, hW1, hW2⟩ := hW
        go_simp
        with_reducible rfl
      refine wpAnyH_ready (rs := [14, 19]) (by kernel_rfl) (by simp) ?_
      refine AllReadyH.cons rfl (fun K hK => ?_) (AllReadyH.cons rfl (fun K hK => ?_) AllReadyH.nil)
      · go_simp
        go_at_call 76
        refine (p8 _ hS0.1).mono ?_
        rintro e w21 ⟨rfl, hb21⟩
        have hS21 := keepB hC1 hb21 hS0
        refine hK.out _ _ hS21 (fun _ => ?_)
        clear hK K
        refine wpAnyH_ready (rs := [17, 19]) (by kernel_rfl) (by simp) ?_
        refine AllReadyH.cons rfl (fun K hK => ?_) (AllReadyH.cons rfl (fun K hK => ?_) AllReadyH.nil)
        · go_simp
          go_at_call 76
          refine (p24 _ hS21.1).mono ?_
          rintro e w22 ⟨rfl, hb22⟩
          have hS22 := keepB hC1 hb22 hS21
          refine hK.out _ _ hS22 (fun _ => ?_)
          clear hK K
          refine wpAnyH_take (i := 18) (v := ?_) rfl (by kernel_rfl) (by kernel_rfl) (by kernel_rfl) (fun _ _ _ h => h) (Or.inl ⟨by rfl, ?_⟩) hS22 ?_
          rotate_left 1
          · intro W hW
            obtain ⟨hW0, hW1, hW2⟩ := hW
            go_simp
            with_reducible rfl
          refine wpAnyH_ready (rs := [19]) (by kernel_rfl) (by simp) ?_
          refine AllReadyH.cons rfl (fun K hK => ?_) AllReadyH.nil
          refine step_alloc rfl 43 rfl #[.bool false, .int .i64 0, .int .i64 0, .int .i64 0, .int .i64 0, .int .u64 0, .int .u64 0, .int .u64 0, .int .u64 0, .bool false, .int .u32 0, .int .i64 0, .bool false] hz (fun w23 B hV hb23 hg23 => ?_)
          have hS23 := keepB hC1 hb23 hS22
          have hBs : w1.heap.size ≤ B := Nat.le_trans hS22.1.size hg23
          refine hK.out _ _ hS23 (fun _ => ?_)
          clear hK K
          refine wpAnyH_ready (rs := [20]) (by kernel_rfl) (by simp) ?_
          refine AllReadyH.cons rfl (fun K hK => ?_) AllReadyH.nil
          refine step_store_row rfl 43 (.tmp 4) (.tmp 27) rfl B #[.bool true, .int .i64 40, .int .i64 (T : Int), .int .i64 (P : Int), .int .i64 (Q : Int), .int .u64 (X0 : Int), .int .u64 (X1 : Int), .int .u64 (Y0 : Int), .int .u64 (Y1 : Int), .bool false, .int .u32 0, .int .i64 0, .bool false] rfl rfl 43 #[.bool false, .int .i64 0, .int .i64 0, .int .i64 0, .int .i64 0, .int .u64 0, .int .u64 0, .int .u64 0, .int .u64 0, .bool false, .int .u32 0, .int .i64 0, .bool false] hV (by kernel_rfl) rfl (by kernel_rfl) ?_
          refine hK.out _ _ (keepS hC1 (Below.setRow hS23.1 hBs _)) (fun _ => ?_)
          clear hK K
          refine wpAnyH_done (by kernel_rfl) ?_ _
          go_wp2_with fail
          go_meet
          exact ⟨B, rfl, hBs, Below.setRow hS23.1 hBs _, blk_setRow hV _⟩
        · refine step_alloc rfl 43 rfl #[.bool false, .int .i64 0, .int .i64 0, .int .i64 0, .int .i64 0, .int .u64 0, .int .u64 0, .int .u64 0, .int .u64 0, .bool false, .int .u32 0, .int .i64 0, .bool false] hz (fun w22 B hV hb22 hg22 => ?_)
          have hS22 := keepB hC1 hb22 hS21
          have hBs : w1.heap.size ≤ B := Nat.le_trans hS21.1.size hg22
          refine hK.out _ _ hS22 (fun _ => ?_)
          clear hK K
          refine wpAnyH_ready (rs := [17]) (by kernel_rfl) (by simp) ?_
          refine AllReadyH.cons rfl (fun K hK => ?_) AllReadyH.nil
          go_simp
          go_at_call 76
          refine (p24 _ hS22.1).mono ?_
          rintro e w23 ⟨rfl, hb23⟩
          have hS23 := keepB hC1 hb23 hS22
          have hV := hV_keep hb23 hV
          refine hK.out _ _ hS23 (fun _ => ?_)
          clear hK K
          refine wpAnyH_take (i := 18) (v := ?_) rfl (by kernel_rfl) (by kernel_rfl) (by kernel_rfl) (fun _ _ _ h => h) (Or.inl ⟨by rfl, ?_⟩) hS23 ?_
          rotate_left 1
          · intro W hW
            obtain ⟨hW0, hW1, hW2⟩ := hW
            go_simp
            with_reducible rfl
          refine wpAnyH_ready (rs := [20]) (by kernel_rfl) (by simp) ?_
          refine AllReadyH.cons rfl (fun K hK => ?_) AllReadyH.nil
          refine step_store_row rfl 43 (.tmp 4) (.tmp 27) rfl B #[.bool true, .int .i64 40, .int .i64 (T : Int), .int .i64 (P : Int), .int .i64 (Q : Int), .int .u64 (X0 : Int), .int .u64 (X1 : Int), .int .u64 (Y0 : Int), .int .u64 (Y1 : Int), .bool false, .int .u32 0, .int .i64 0, .bool false] rfl rfl 43 #[.bool false, .int .i64 0, .int .i64 0, .int .i64 0, .int .i64 0, .int .u64 0, .int .u64 0, .int .u64 0, .int .u64 0, .bool false, .int .u32 0, .int .i64 0, .bool false] hV (by kernel_rfl) rfl (by kernel_rfl) ?_
          refine hK.out _ _ (keepS hC1 (Below.setRow hS23.1 hBs _)) (fun _ => ?_)
          clear hK K
          refine wpAnyH_done (by kernel_rfl) ?_ _
          go_wp2_with fail
          go_meet
          exact ⟨B, rfl, hBs, Below.setRow hS23.1 hBs _, blk_setRow hV _⟩
      · refine step_alloc rfl 43 rfl #[.bool false, .int .i64 0, .int .i64 0, .int .i64 0, .int .i64 0, .int .u64 0, .int .u64 0, .int .u64 0, .int .u64 0, .bool false, .int .u32 0, .int .i64 0, .bool false] hz (fun w21 B hV hb21 hg21 => ?_)
        have hS21 := keepB hC1 hb21 hS0
        have hBs : w1.heap.size ≤ B := Nat.le_trans hS0.1.size hg21
        refine hK.out _ _ hS21 (fun _ => ?_)
        clear hK K
        refine wpAnyH_ready (rs := [14]) (by kernel_rfl) (by simp) ?_
        refine AllReadyH.cons rfl (fun K hK => ?_) AllReadyH.nil
        go_simp
        go_at_call 76
        refine (p8 _ hS21.1).mono ?_
        rintro e w22 ⟨rfl, hb22⟩
        have hS22 := keepB hC1 hb22 hS21
        have hV := hV_keep hb22 hV
        refine hK.out _ _ hS22 (fun _ => ?_)
        clear hK K
        refine wpAnyH_ready (rs := [17]) (by kernel_rfl) (by simp) ?_
        refine AllReadyH.cons rfl (fun K hK => ?_) AllReadyH.nil
        go_simp
        go_at_call 76
        refine (p24 _ hS22.1).mono ?_
        rintro e w23 ⟨rfl, hb23⟩
        have hS23 := keepB hC1 hb23 hS22
        have hV := hV_keep hb23 hV
        refine hK.out _ _ hS23 (fun _ => ?_)
        clear hK K
        refine wpAnyH_take (i := 18) (v := ?_) rfl (by kernel_rfl) (by kernel_rfl) (by kernel_rfl) (fun _ _ _ h => h) (Or.inl ⟨by rfl, ?_⟩) hS23 ?_
        rotate_left 1
        · intro W hW
          obtain ⟨hW0, hW1, hW2⟩ := hW
          go_simp
          with_reducible rfl
        refine wpAnyH_ready (rs := [20]) (by kernel_rfl) (by simp) ?_
        refine AllReadyH.cons rfl (fun K hK => ?_) AllReadyH.nil
        refine step_store_row rfl 43 (.tmp 4) (.tmp 27) rfl B #[.bool true, .int .i64 40, .int .i64 (T : Int), .int .i64 (P : Int), .int .i64 (Q : Int), .int .u64 (X0 : Int), .int .u64 (X1 : Int), .int .u64 (Y0 : Int), .int .u64 (Y1 : Int), .bool false, .int .u32 0, .int .i64 0, .bool false] rfl rfl 43 #[.bool false, .int .i64 0, .int .i64 0, .int .i64 0, .int .i64 0, .int .u64 0, .int .u64 0, .int .u64 0, .int .u64 0, .bool false, .int .u32 0, .int .i64 0, .bool false] hV (by kernel_rfl) rfl (by kernel_rfl) ?_
        refine hK.out _ _ (keepS hC1 (Below.setRow hS23.1 hBs _)) (fun _ => ?_)
        clear hK K
        refine wpAnyH_done (by kernel_rfl) ?_ _
        go_wp2_with fail
        go_meet
        exact ⟨B, rfl, hBs, Below.setRow hS23.1 hBs _, blk_setRow hV _⟩
    · refine step_alloc rfl 43 rfl #[.bool false, .int .i64 0, .int .i64 0, .int .i64 0, .int .i64 0, .int .u64 0, .int .u64 0, .int .u64 0, .int .u64 0, .bool false, .int .u32 0, .int .i64 0, .bool false] hz (fun w20 B hV hb20 hg20 => ?_)
      have hS20 := keepB hC1 hb20 hS0
      have hBs : w1.heap.size ≤ B := Nat.le_trans hS0.1.size hg20
      refine hK.out _ _ hS20 (fun _ => ?_)
      clear hK K
      refine wpAnyH_ready (rs := [2]) (by kernel_rfl) (by simp) ?_
      refine AllReadyH.cons rfl (fun K hK => ?_) AllReadyH.nil
      go_simp
      go_at_call 44
      refine (p4 _ hS20.1).mono ?_
      rintro e w21 ⟨rfl, rfl⟩
      refine hK.out _ _ hS20 (fun _ => ?_)
      clear hK K
      refine wpAnyH_take (i := 3) (v := ?_) rfl (by kernel_rfl) (by kernel_rfl) (by kernel_rfl) (fun _ _ _ h => h) (Or.inl ⟨by rfl, ?_⟩) hS20 ?_
      rotate_left 1
      · intro W hW
        obtain ⟨hW0, hW1, hW2⟩ := hW
        go_simp
        with_reducible rfl
      refine wpAnyH_ready (rs := [14]) (by kernel_rfl) (by simp) ?_
      refine AllReadyH.cons rfl (fun K hK => ?_) AllReadyH.nil
      go_simp
      go_at_call 76
      refine (p8 _ hS20.1).mono ?_
      rintro e w22 ⟨rfl, hb22⟩
      have hS22 := keepB hC1 hb22 hS20
      have hV := hV_keep hb22 hV
      refine hK.out _ _ hS22 (fun _ => ?_)
      clear hK K
      refine wpAnyH_ready (rs := [17]) (by kernel_rfl) (by simp) ?_
      refine AllReadyH.cons rfl (fun K hK => ?_) AllReadyH.nil
      go_simp
      go_at_call 76
      refine (p24 _ hS22.1).mono ?_
      rintro e w23 ⟨rfl, hb23⟩
      have hS23 := keepB hC1 hb23 hS22
      have hV := hV_keep hb23 hV
      refine hK.out _ _ hS23 (fun _ => ?_)
      clear hK K
      refine wpAnyH_take (i := 18) (v := ?_) rfl (by kernel_rfl) (by kernel_rfl) (by kernel_rfl) (fun _ _ _ h => h) (Or.inl ⟨by rfl, ?_⟩) hS23 ?_
      rotate_left 1
      · intro W hW
        obtain ⟨hW0, hW1, hW2⟩ := hW
        go_simp
        with_reducible rfl
      refine wpAnyH_ready (rs := [20]) (by kernel_rfl) (by simp) ?_
      refine AllReadyH.cons rfl (fun K hK => ?_) AllReadyH.nil
      refine step_store_row rfl 43 (.tmp 4) (.tmp 27) rfl B #[.bool true, .int .i64 40, .int .i64 (T : Int), .int .i64 (P : Int), .int .i64 (Q : Int), .int .u64 (X0 : Int), .int .u64 (X1 : Int), .int .u64 (Y0 : Int), .int .u64 (Y1 : Int), .bool false, .int .u32 0, .int .i64 0, .bool false] rfl rfl 43 #[.bool false, .int .i64 0, .int .i64 0, .int .i64 0, .int .i64 0, .int .u64 0, .int .u64 0, .int .u64 0, .int .u64 0, .bool false, .int .u32 0, .int .i64 0, .bool false] hV (by kernel_rfl) rfl (by kernel_rfl) ?_
      refine hK.out _ _ (keepS hC1 (Below.setRow hS23.1 hBs _)) (fun _ => ?_)
      clear hK K
      refine wpAnyH_done (by kernel_rfl) ?_ _
      go_wp2_with fail
      go_meet
      exact ⟨B, rfl, hBs, Below.setRow hS23.1 hBs _, blk_setRow hV _⟩
  case rest =>
    obtain ⟨B, rfl, hBs, hbr, hV⟩ := hcut
    have hz1 : w.heap.size < w1.heap.size := (Array.getElem?_eq_some_iff.1 hR).1
    have hRn : wc.heap[w.heap.size]? = some (.cells #[.bool false, .int .i64 0, .int .i64 0, .int .i64 0, .int .i64 0, .int .u64 0, .int .u64 0, .int .u64 0, .int .u64 0, .bool false, .int .u32 0, .int .i64 0, .bool false] 43 (0, 0)) := (hbr.block _ hz1).trans hR
    have bw : Below w.heap.size w wc := bw1.trans (hbr.mono bw1.size)
    clear hR bw1 hbr p4 p8 p24 hC1 s4 s8 s24 wT wT2 wT3 wP wQ
    have hR := hRn
    clear hRn
    have hne : w.heap.size ≠ B := by omega
    have hle : w.heap.size ≤ B := by omega
    obtain ⟨⟨t0, t1, t2, t3, t4, t5, t6, t7, t8, t9, t10, t11, t12⟩, u0, u1, u2, u3, u4, u5, u6, u7, u8, u9, u10, u11, u12⟩ := cells13 hV
    obtain ⟨⟨r0, r1, r2, r3, r4, r5, r6, r7, r8, r9, r10, r11, r12⟩, q0, q1, q2, q3, q4, q5, q6, q7, q8, q9, q10, q11, q12⟩ := cells13 hR
    by_cases h2 : n < T
    · have hTn : decide ((n : Int) < (T : Int)) = true := by simp; omega
      have hTnn : decide (n < T) = true := by simp; omega
      have hTni : (n : Int) < (T : Int) := by omega
      have HE : Hid (vr = zvw ∧ er = 40) := Lib.hid (by
        have e := HR.out
        have e := HR.out.1 h2
        exact Prod.mk.inj e)
      clear h2
      go_wp2
      refine bodyPost_ret_by (res_row Try.results50 _ _ w.heap.size 43 #[.bool false, .int .i64 0, .int .i64 0, .int .i64 0, .int .i64 0, .int .u64 0, .int .u64 0, .int .u64 0, .int .u64 0, .bool false, .int .u32 0, .int .i64 0, .bool false] _ rfl (heap_set13w hR (.bool false) (.int .i64 0) (.int .i64 0) (.int .i64 0) (.int .i64 0) (.int .u64 0) (.int .u64 0) (.int .u64 0) (.int .u64 0) (.bool false) (.int .u32 0) (.int .i64 0) (.bool false)) Try.underlying43 (by kernel_rfl)) rfl ⟨by rw [HE.out.1, HE.out.2]; rfl, ?_⟩
      exact below_set13 bw (by omega) _ _ _ _ _ _ _ _ _ _ _ _ _
    have hTn : decide ((n : Int) < (T : Int)) = false := by simp; omega
    have hTnn : decide (n < T) = false := by simp; omega
    have hTni : ¬ (n : Int) < (T : Int) := by omega
    have H2 := Lib.hid h2
    clear h2
    by_cases h3 : is4I (X0 : Int) (X1 : Int) = true
    · have c4 := fun (W : World) => ris4_any (X0 : Int) (X1 : Int) wx0 wx1 W
      rw [h3] at c4
      have H3 := Lib.hid h3
      clear h3
      have HE : Hid (vr = zvw ∧ er = 42) := Lib.hid (by
        have e := HR.out
        have e := HR.out.2.1 H2.out (by rw [H3.out, Bool.true_or])
        exact Prod.mk.inj e)
      go_wp2_with (go_at_call 62; refine (c4 _).mono ?_; rintro e wd ⟨rfl, hbx⟩; refine Hid.out ?_)
      have hVn := hV_keep hbx hV
      have hRn := hV_keep hbx hR
      have bwn : Below w.heap.size w wd := bw.trans (hbx.mono bw.size)
      clear hbx hV hR bw t0 t1 t2 t3 t4 t5 t6 t7 t8 t9 t10 t11 t12 u0 u1 u2 u3 u4 u5 u6 u7 u8 u9 u10 u11 u12 r0 r1 r2 r3 r4 r5 r6 r7 r8 r9 r10 r11 r12 q0 q1 q2 q3 q4 q5 q6 q7 q8 q9 q10 q11 q12
      have hV := hVn
      have hR := hRn
      have bw := bwn
      clear hVn hRn bwn
      obtain ⟨⟨t0, t1, t2, t3, t4, t5, t6, t7, t8, t9, t10, t11, t12⟩, u0, u1, u2, u3, u4, u5, u6, u7, u8, u9, u10, u11, u12⟩ := cells13 hV
      obtain ⟨⟨r0, r1, r2, r3, r4, r5, r6, r7, r8, r9, r10, r11, r12⟩, q0, q1, q2, q3, q4, q5, q6, q7, q8, q9, q10, q11, q12⟩ := cells13 hR
      refine Lib.hid ?_
      go_wp2
      refine bodyPost_ret_by (res_row Try.results50 _ _ w.heap.size 43 #[.bool false, .int .i64 0, .int .i64 0, .int .i64 0, .int .i64 0, .int .u64 0, .int .u64 0, .int .u64 0, .int .u64 0, .bool false, .int .u32 0, .int .i64 0, .bool false] _ rfl (heap_set13w hR (.bool false) (.int .i64 0) (.int .i64 0) (.int .i64 0) (.int .i64 0) (.int .u64 0) (.int .u64 0) (.int .u64 0) (.int .u64 0) (.bool false) (.int .u32 0) (.int .i64 0) (.bool false)) Try.underlying43 (by kernel_rfl)) rfl ⟨by rw [HE.out.1, HE.out.2]; rfl, ?_⟩
      exact below_set13 bw (by omega) _ _ _ _ _ _ _ _ _ _ _ _ _
    have h3f := eq_false_of_ne_true h3
    have c4 := fun (W : World) => ris4_any (X0 : Int) (X1 : Int) wx0 wx1 W
    have c5 := fun (W : World) => ris4_any (Y0 : Int) (Y1 : Int) wy0 wy1 W
    rw [h3f] at c4
    have H3 := Lib.hid h3f
    clear h3 h3f
    by_cases h4 : is4I (Y0 : Int) (Y1 : Int) = true
    · rw [h4] at c5
      have H4 := Lib.hid h4
      clear h4
      have HE : Hid (vr = zvw ∧ er = 42) := Lib.hid (by
        have e := HR.out
        have e := HR.out.2.1 H2.out (by rw [H3.out, H4.out, Bool.false_or])
        exact Prod.mk.inj e)
      go_wp2_with (go_at_call 62; refine (c4 _).mono ?_; rintro e wd ⟨rfl, hbx⟩; refine Hid.out ?_)
      have hVn := hV_keep hbx hV
      have hRn := hV_keep hbx hR
      have bwn : Below w.heap.size w wd := bw.trans (hbx.mono bw.size)
      clear hbx hV hR bw t0 t1 t2 t3 t4 t5 t6 t7 t8 t9 t10 t11 t12 u0 u1 u2 u3 u4 u5 u6 u7 u8 u9 u10 u11 u12 r0 r1 r2 r3 r4 r5 r6 r7 r8 r9 r10 r11 r12 q0 q1 q2 q3 q4 q5 q6 q7 q8 q9 q10 q11 q12
      have hV := hVn
      have hR := hRn
      have bw := bwn
      clear hVn hRn bwn
      obtain ⟨⟨t0, t1, t2, t3, t4, t5, t6, t7, t8, t9, t10, t11, t12⟩, u0, u1, u2, u3, u4, u5, u6, u7, u8, u9, u10, u11, u12⟩ := cells13 hV
      obtain ⟨⟨r0, r1, r2, r3, r4, r5, r6, r7, r8, r9, r10, r11, r12⟩, q0, q1, q2, q3, q4, q5, q6, q7, q8, q9, q10, q11, q12⟩ := cells13 hR
      refine Lib.hid ?_
      go_wp2_with (go_at_call 62; refine (c5 _).mono ?_; rintro e we ⟨rfl, hbx⟩; refine Hid.out ?_)
      have hVn := hV_keep hbx hV
      have hRn := hV_keep hbx hR
      have bwn : Below w.heap.size w we := bw.trans (hbx.mono bw.size)
      clear hbx hV hR bw t0 t1 t2 t3 t4 t5 t6 t7 t8 t9 t10 t11 t12 u0 u1 u2 u3 u4 u5 u6 u7 u8 u9 u10 u11 u12 r0 r1 r2 r3 r4 r5 r6 r7 r8 r9 r10 r11 r12 q0 q1 q2 q3 q4 q5 q6 q7 q8 q9 q10 q11 q12
      have hV := hVn
      have hR := hRn
      have bw := bwn
      clear hVn hRn bwn
      obtain ⟨⟨t0, t1, t2, t3, t4, t5, t6, t7, t8, t9, t10, t11, t12⟩, u0, u1, u2, u3, u4, u5, u6, u7, u8, u9, u10, u11, u12⟩ := cells13 hV
      obtain ⟨⟨r0, r1, r2, r3, r4, r5, r6, r7, r8, r9, r10, r11, r12⟩, q0, q1, q2, q3, q4, q5, q6, q7, q8, q9, q10, q11, q12⟩ := cells13 hR
      refine Lib.hid ?_
      go_wp2
      refine bodyPost_ret_by (res_row Try.results50 _ _ w.heap.size 43 #[.bool false, .int .i64 0, .int .i64 0, .int .i64 0, .int .i64 0, .int .u64 0, .int .u64 0, .int .u64 0, .int .u64 0, .bool false, .int .u32 0, .int .i64 0, .bool false] _ rfl (heap_set13w hR (.bool false) (.int .i64 0) (.int .i64 0) (.int .i64 0) (.int .i64 0) (.int .u64 0) (.int .u64 0) (.int .u64 0) (.int .u64 0) (.bool false) (.int .u32 0) (.int .i64 0) (.bool false)) Try.underlying43 (by kernel_rfl)) rfl ⟨by rw [HE.out.1, HE.out.2]; rfl, ?_⟩
      exact below_set13 bw (by omega) _ _ _ _ _ _ _ _ _ _ _ _ _
    have h4f := eq_false_of_ne_true h4
    rw [h4f] at c5
    have H4 := Lib.hid h4f
    clear h4 h4f
    by_cases h5 : Q ≠ 44
    · have hq : ((Q : Int) != 44) = true := by simp; omega
      have H5 := Lib.hid h5
      clear h5
      have HE : Hid (vr = ⟨true, 40, (T : Int), P, (Q : Int), X0, X1, Y0, Y1, false, 0, 0, false⟩ ∧ er = 0) := Lib.hid (by
        have e := HR.out
        have e := HR.out.2.2 H2.out (by rw [H3.out, H4.out, Bool.false_or])
        have e := e.1 H5.out
        exact Prod.mk.inj e)
      go_wp2_with (go_at_call 62; refine (c4 _).mono ?_; rintro e wd ⟨rfl, hbx⟩; refine Hid.out ?_)
      have hVn := hV_keep hbx hV
      have hRn := hV_keep hbx hR
      have bwn : Below w.heap.size w wd := bw.trans (hbx.mono bw.size)
      clear hbx hV hR bw t0 t1 t2 t3 t4 t5 t6 t7 t8 t9 t10 t11 t12 u0 u1 u2 u3 u4 u5 u6 u7 u8 u9 u10 u11 u12 r0 r1 r2 r3 r4 r5 r6 r7 r8 r9 r10 r11 r12 q0 q1 q2 q3 q4 q5 q6 q7 q8 q9 q10 q11 q12
      have hV := hVn
      have hR := hRn
      have bw := bwn
      clear hVn hRn bwn
      obtain ⟨⟨t0, t1, t2, t3, t4, t5, t6, t7, t8, t9, t10, t11, t12⟩, u0, u1, u2, u3, u4, u5, u6, u7, u8, u9, u10, u11, u12⟩ := cells13 hV
      obtain ⟨⟨r0, r1, r2, r3, r4, r5, r6, r7, r8, r9, r10, r11, r12⟩, q0, q1, q2, q3, q4, q5, q6, q7, q8, q9, q10, q11, q12⟩ := cells13 hR
      refine Lib.hid ?_
      go_wp2_with (go_at_call 62; refine (c5 _).mono ?_; rintro e we ⟨rfl, hbx⟩; refine Hid.out ?_)
      have hVn := hV_keep hbx hV
      have hRn := hV_keep hbx hR
      have bwn : Below w.heap.size w we := bw.trans (hbx.mono bw.size)
      clear hbx hV hR bw t0 t1 t2 t3 t4 t5 t6 t7 t8 t9 t10 t11 t12 u0 u1 u2 u3 u4 u5 u6 u7 u8 u9 u10 u11 u12 r0 r1 r2 r3 r4 r5 r6 r7 r8 r9 r10 r11 r12 q0 q1 q2 q3 q4 q5 q6 q7 q8 q9 q10 q11 q12
      have hV := hVn
      have hR := hRn
      have bw := bwn
      clear hVn hRn bwn
      obtain ⟨⟨t0, t1, t2, t3, t4, t5, t6, t7, t8, t9, t10, t11, t12⟩, u0, u1, u2, u3, u4, u5, u6, u7, u8, u9, u10, u11, u12⟩ := cells13 hV
      obtain ⟨⟨r0, r1, r2, r3, r4, r5, r6, r7, r8, r9, r10, r11, r12⟩, q0, q1, q2, q3, q4, q5, q6, q7, q8, q9, q10, q11, q12⟩ := cells13 hR
      refine Lib.hid ?_
      go_wp2
      refine bodyPost_ret_by (res_row Try.results50 _ _ w.heap.size 43 #[.bool true, .int .i64 40, .int .i64 (T : Int), .int .i64 (P : Int), .int .i64 (Q : Int), .int .u64 (X0 : Int), .int .u64 (X1 : Int), .int .u64 (Y0 : Int), .int .u64 (Y1 : Int), .bool false, .int .u32 0, .int .i64 0, .bool false] _ rfl (heap_set13w hR (.bool true) (.int .i64 40) (.int .i64 (T : Int)) (.int .i64 (P : Int)) (.int .i64 (Q : Int)) (.int .u64 (X0 : Int)) (.int .u64 (X1 : Int)) (.int .u64 (Y0 : Int)) (.int .u64 (Y1 : Int)) (.bool false) (.int .u32 0) (.int .i64 0) (.bool false)) Try.underlying43 (by kernel_rfl)) rfl ⟨by rw [HE.out.1, HE.out.2]; rfl, ?_⟩
      exact below_set13 bw (by omega) _ _ _ _ _ _ _ _ _ _ _ _ _
    have hq : ((Q : Int) != 44) = false := by simp; omega
    have H5 := Lib.hid h5
    clear h5
    by_cases h6 : T < 48
    · have hl : decide ((T : Int) < 48) = true := by simp; omega
      have hli : (T : Int) < 48 := by omega
      have H6 := Lib.hid h6
      clear h6
      have HE : Hid (vr = zvw ∧ er = 40) := Lib.hid (by
        have e := HR.out
        have e := HR.out.2.2 H2.out (by rw [H3.out, H4.out, Bool.false_or])
        have e := (e.2 H5.out).1 H6.out
        exact Prod.mk.inj e)
      go_wp2_with (go_at_call 62; refine (c4 _).mono ?_; rintro e wd ⟨rfl, hbx⟩; refine Hid.out ?_)
      have hVn := hV_keep hbx hV
      have hRn := hV_keep hbx hR
      have bwn : Below w.heap.size w wd := bw.trans (hbx.mono bw.size)
      clear hbx hV hR bw t0 t1 t2 t3 t4 t5 t6 t7 t8 t9 t10 t11 t12 u0 u1 u2 u3 u4 u5 u6 u7 u8 u9 u10 u11 u12 r0 r1 r2 r3 r4 r5 r6 r7 r8 r9 r10 r11 r12 q0 q1 q2 q3 q4 q5 q6 q7 q8 q9 q10 q11 q12
      have hV := hVn
      have hR := hRn
      have bw := bwn
      clear hVn hRn bwn
      obtain ⟨⟨t0, t1, t2, t3, t4, t5, t6, t7, t8, t9, t10, t11, t12⟩, u0, u1, u2, u3, u4, u5, u6, u7, u8, u9, u10, u11, u12⟩ := cells13 hV
      obtain ⟨⟨r0, r1, r2, r3, r4, r5, r6, r7, r8, r9, r10, r11, r12⟩, q0, q1, q2, q3, q4, q5, q6, q7, q8, q9, q10, q11, q12⟩ := cells13 hR
      refine Lib.hid ?_
      go_wp2_with (go_at_call 62; refine (c5 _).mono ?_; rintro e we ⟨rfl, hbx⟩; refine Hid.out ?_)
      have hVn := hV_keep hbx hV
      have hRn := hV_keep hbx hR
      have bwn : Below w.heap.size w we := bw.trans (hbx.mono bw.size)
      clear hbx hV hR bw t0 t1 t2 t3 t4 t5 t6 t7 t8 t9 t10 t11 t12 u0 u1 u2 u3 u4 u5 u6 u7 u8 u9 u10 u11 u12 r0 r1 r2 r3 r4 r5 r6 r7 r8 r9 r10 r11 r12 q0 q1 q2 q3 q4 q5 q6 q7 q8 q9 q10 q11 q12
      have hV := hVn
      have hR := hRn
      have bw := bwn
      clear hVn hRn bwn
      obtain ⟨⟨t0, t1, t2, t3, t4, t5, t6, t7, t8, t9, t10, t11, t12⟩, u0, u1, u2, u3, u4, u5, u6, u7, u8, u9, u10, u11, u12⟩ := cells13 hV
      obtain ⟨⟨r0, r1, r2, r3, r4, r5, r6, r7, r8, r9, r10, r11, r12⟩, q0, q1, q2, q3, q4, q5, q6, q7, q8, q9, q10, q11, q12⟩ := cells13 hR
      refine Lib.hid ?_
      go_wp2
      refine bodyPost_ret_by (res_row Try.results50 _ _ w.heap.size 43 #[.bool false, .int .i64 0, .int .i64 0, .int .i64 0, .int .i64 0, .int .u64 0, .int .u64 0, .int .u64 0, .int .u64 0, .bool false, .int .u32 0, .int .i64 0, .bool false] _ rfl (heap_set13w hR (.bool false) (.int .i64 0) (.int .i64 0) (.int .i64 0) (.int .i64 0) (.int .u64 0) (.int .u64 0) (.int .u64 0) (.int .u64 0) (.bool false) (.int .u32 0) (.int .i64 0) (.bool false)) Try.underlying43 (by kernel_rfl)) rfl ⟨by rw [HE.out.1, HE.out.2]; rfl, ?_⟩
      exact below_set13 bw (by omega) _ _ _ _ _ _ _ _ _ _ _ _ _
    have hl : decide ((T : Int) < 48) = false := by simp; omega
    have hli : ¬ (T : Int) < 48 := by omega
    have hn48 : 48 ≤ n := by have := H2.out; omega
    have H6 := Lib.hid h6
    clear h6
    have c40 := by_cell HB.out HN.out 40 (by omega)
    have c43 := by_cell HB.out HN.out 43 (by omega)
    have hH := byN_lt l 40
    have h43 := byN_lt l 43
    have e43 := take_two (l := l) (o := 42) (by have := HN.out; omega)
    have h42 := byN_lt l 42
    have m42 := get_eq g o n c 42 2 l HN.out (by omega) (by omega) HB.out
    have m44 := get_eq g o n c 44 4 l HN.out (by omega) (by omega) HB.out
    have s42 : ∀ W, (Instr.slice 22 (.slice (some ⟨g, o, none⟩) n c) (some (.int .i64 42)) (some (.int .i64 44)) none).run Try.prog W = .ok (.slice (some ⟨g, o + 42, none⟩) 2 (c - 42)) W := cut_lh g o n c 42 44 (by omega) (by omega) (by omega) hcm
    have s44 : ∀ W, (Instr.slice 22 (.slice (some ⟨g, o, none⟩) n c) (some (.int .i64 44)) (some (.int .i64 48)) none).run Try.prog W = .ok (.slice (some ⟨g, o + 44, none⟩) 4 (c - 44)) W := cut_lh g o n c 44 48 (by omega) (by omega) (by omega) hcm
    have hI := nb4_lt l 44
    have hS := nb2_lt l 42
    have HR2 := HR.out
    clear HR
    generalize byN l 40 = H at *
    generalize byN l 43 = M at *
    generalize nbN l 44 4 = I4 at *
    generalize nbN l 42 2 = S at *
    have HR := Lib.hid HR2
    clear HR2
    have wH : IntKind.i64.wrap (H : Int) = (H : Int) := by rw [IntKind.wrap_i64]; omega
    have Hi8 : (H : Int) < 256 := by omega
    have Mi8 : (M : Int) < 256 := by omega
    have j40 : (40 : Int) < (n : Int) := by omega
    have j43 : (43 : Int) < (n : Int) := by omega
    have k40 : 40 < n := by omega
    have k43 : 43 < n := by omega
    have b40 := keepc bw c40
    by_cases h7 : H = 44
    · have hh44 : ((H : Int) == 44) = true := by simp; omega
      have H7 := Lib.hid h7
      clear h7
      have HE : Hid (vr = zvw ∧ er = 42) := Lib.hid (by
        have e := HR.out
        have e := HR.out.2.2 H2.out (by rw [H3.out, H4.out, Bool.false_or])
        have e := ((e.2 H5.out).2 H6.out).1 H7.out
        exact Prod.mk.inj e)
      go_wp2_with (go_at_call 62; refine (c4 _).mono ?_; rintro e wd ⟨rfl, hbx⟩; refine Hid.out ?_)
      have hVn := hV_keep hbx hV
      have hRn := hV_keep hbx hR
      have bwn : Below w.heap.size w wd := bw.trans (hbx.mono bw.size)
      clear hbx hV hR bw t0 t1 t2 t3 t4 t5 t6 t7 t8 t9 t10 t11 t12 u0 u1 u2 u3 u4 u5 u6 u7 u8 u9 u10 u11 u12 r0 r1 r2 r3 r4 r5 r6 r7 r8 r9 r10 r11 r12 q0 q1 q2 q3 q4 q5 q6 q7 q8 q9 q10 q11 q12
      have hV := hVn
      have hR := hRn
      have bw := bwn
      clear hVn hRn bwn
      obtain ⟨⟨t0, t1, t2, t3, t4, t5, t6, t7, t8, t9, t10, t11, t12⟩, u0, u1, u2, u3, u4, u5, u6, u7, u8, u9, u10, u11, u12⟩ := cells13 hV
      obtain ⟨⟨r0, r1, r2, r3, r4, r5, r6, r7, r8, r9, r10, r11, r12⟩, q0, q1, q2, q3, q4, q5, q6, q7, q8, q9, q10, q11, q12⟩ := cells13 hR
      refine Lib.hid ?_
      go_wp2_with (go_at_call 62; refine (c5 _).mono ?_; rintro e we ⟨rfl, hbx⟩; refine Hid.out ?_)
      have hVn := hV_keep hbx hV
      have hRn := hV_keep hbx hR
      have bwn : Below w.heap.size w we := bw.trans (hbx.mono bw.size)
      clear hbx hV hR bw t0 t1 t2 t3 t4 t5 t6 t7 t8 t9 t10 t11 t12 u0 u1 u2 u3 u4 u5 u6 u7 u8 u9 u10 u11 u12 r0 r1 r2 r3 r4 r5 r6 r7 r8 r9 r10 r11 r12 q0 q1 q2 q3 q4 q5 q6 q7 q8 q9 q10 q11 q12
      have hV := hVn
      have hR := hRn
      have bw := bwn
      clear hVn hRn bwn
      obtain ⟨⟨t0, t1, t2, t3, t4, t5, t6, t7, t8, t9, t10, t11, t12⟩, u0, u1, u2, u3, u4, u5, u6, u7, u8, u9, u10, u11, u12⟩ := cells13 hV
      obtain ⟨⟨r0, r1, r2, r3, r4, r5, r6, r7, r8, r9, r10, r11, r12⟩, q0, q1, q2, q3, q4, q5, q6, q7, q8, q9, q10, q11, q12⟩ := cells13 hR
      refine Lib.hid ?_
      have bx40 := keepc bw c40
      go_wp2_with (with_reducible refine stop_op (o := ⟨some 57, _, _, _, _, _⟩) ?_)
      obtain ⟨wf, hwn⟩ : ∃ x, x = we.setCell ⟨B, 4, none⟩ (.int .i64 (H : Int)) := ⟨_, rfl⟩
      have hVn : wf.heap[B]? = some (.cells #[.bool true, .int .i64 40, .int .i64 (T : Int), .int .i64 (P : Int), .int .i64 (H : Int), .int .u64 (X0 : Int), .int .u64 (X1 : Int), .int .u64 (Y0 : Int), .int .u64 (Y1 : Int), .bool false, .int .u32 0, .int .i64 0, .bool false] 43 (0, 0)) := by rw [hwn]; exact (set_v1 hV _).1
      have hRn : wf.heap[w.heap.size]? = some (.cells #[.bool false, .int .i64 0, .int .i64 0, .int .i64 0, .int .i64 0, .int .u64 0, .int .u64 0, .int .u64 0, .int .u64 0, .bool false, .int .u32 0, .int .i64 0, .bool false] 43 (0, 0)) := by rw [hwn, set_other (Ne.symm hne)]; exact hR
      have bwn : Below w.heap.size w wf := by rw [hwn]; exact (below_set bw hle 4 _)
      rw [← hwn]
      clear hwn hV hR bw t0 t1 t2 t3 t4 t5 t6 t7 t8 t9 t10 t11 t12 u0 u1 u2 u3 u4 u5 u6 u7 u8 u9 u10 u11 u12 r0 r1 r2 r3 r4 r5 r6 r7 r8 r9 r10 r11 r12 q0 q1 q2 q3 q4 q5 q6 q7 q8 q9 q10 q11 q12
      have hV := hVn
      have hR := hRn
      have bw := bwn
      clear hVn hRn bwn
      obtain ⟨⟨t0, t1, t2, t3, t4, t5, t6, t7, t8, t9, t10, t11, t12⟩, u0, u1, u2, u3, u4, u5, u6, u7, u8, u9, u10, u11, u12⟩ := cells13 hV
      obtain ⟨⟨r0, r1, r2, r3, r4, r5, r6, r7, r8, r9, r10, r11, r12⟩, q0, q1, q2, q3, q4, q5, q6, q7, q8, q9, q10, q11, q12⟩ := cells13 hR
      refine Lib.hid ?_
      go_wp2
      refine bodyPost_ret_by (res_row Try.results50 _ _ w.heap.size 43 #[.bool false, .int .i64 0, .int .i64 0, .int .i64 0, .int .i64 0, .int .u64 0, .int .u64 0, .int .u64 0, .int .u64 0, .bool false, .int .u32 0, .int .i64 0, .bool false] _ rfl (heap_set13w hR (.bool false) (.int .i64 0) (.int .i64 0) (.int .i64 0) (.int .i64 0) (.int .u64 0) (.int .u64 0) (.int .u64 0) (.int .u64 0) (.bool false) (.int .u32 0) (.int .i64 0) (.bool false)) Try.underlying43 (by kernel_rfl)) rfl ⟨by rw [HE.out.1, HE.out.2]; rfl, ?_⟩
      exact below_set13 bw (by omega) _ _ _ _ _ _ _ _ _ _ _ _ _
    have hh44 : ((H : Int) == 44) = false := by simp; omega
    have H7 := Lib.hid h7
    clear h7
    obtain ⟨a, ha⟩ : ∃ a, a = S / 8 * 8 := ⟨_, rfl⟩
    have eo : (S : Int) / 8 * 8 = (a : Int) := by omega
    have wI : IntKind.u32.wrap (I4 : Int) = (I4 : Int) := by rw [IntKind.wrap_u32]; omega
    have hIi : (I4 : Int) < 4294967296 := by omega
    have hSi : (S : Int) < 65536 := by omega
    have hai : (a : Int) < 65536 := by omega
    have HR3 := HR.out
    clear HR
    rw [← ha] at HR3
    have HR := Lib.hid HR3
    have Ha := Lib.hid ha
    have He43 := Lib.hid e43
    clear HR3 ha e43
    by_cases h8 : M % 2 = 1
    · have em : ((M : Int) % 2 == 1) = true := by simp; omega
      have H8 := Lib.hid h8
      clear h8
      have HE : Hid (vr = ⟨true, 48, (T : Int), P, (H : Int), X0, X1, Y0, Y1, true, I4, a, true⟩ ∧ er = 0) := Lib.hid (by
        have e := HR.out
        have e := HR.out.2.2 H2.out (by rw [H3.out, H4.out, Bool.false_or])
        have e := ((e.2 H5.out).2 H6.out).2 H7.out
        simp only [partP] at e
        rw [show decide (((S % 2 : Nat) : Int) = 1) = true by have := H8.out; have := He43.out; simp; omega] at e
        simp only [Bool.true_or] at e
        exact Prod.mk.inj e)
      go_wp2_with (go_at_call 62; refine (c4 _).mono ?_; rintro e wd ⟨rfl, hbx⟩; refine Hid.out ?_)
      have hVn := hV_keep hbx hV
      have hRn := hV_keep hbx hR
      have bwn : Below w.heap.size w wd := bw.trans (hbx.mono bw.size)
      clear hbx hV hR bw t0 t1 t2 t3 t4 t5 t6 t7 t8 t9 t10 t11 t12 u0 u1 u2 u3 u4 u5 u6 u7 u8 u9 u10 u11 u12 r0 r1 r2 r3 r4 r5 r6 r7 r8 r9 r10 r11 r12 q0 q1 q2 q3 q4 q5 q6 q7 q8 q9 q10 q11 q12
      have hV := hVn
      have hR := hRn
      have bw := bwn
      clear hVn hRn bwn
      obtain ⟨⟨t0, t1, t2, t3, t4, t5, t6, t7, t8, t9, t10, t11, t12⟩, u0, u1, u2, u3, u4, u5, u6, u7, u8, u9, u10, u11, u12⟩ := cells13 hV
      obtain ⟨⟨r0, r1, r2, r3, r4, r5, r6, r7, r8, r9, r10, r11, r12⟩, q0, q1, q2, q3, q4, q5, q6, q7, q8, q9, q10, q11, q12⟩ := cells13 hR
      refine Lib.hid ?_
      go_wp2_with (go_at_call 62; refine (c5 _).mono ?_; rintro e we ⟨rfl, hbx⟩; refine Hid.out ?_)
      have hVn := hV_keep hbx hV
      have hRn := hV_keep hbx hR
      have bwn : Below w.heap.size w we := bw.trans (hbx.mono bw.size)
      clear hbx hV hR bw t0 t1 t2 t3 t4 t5 t6 t7 t8 t9 t10 t11 t12 u0 u1 u2 u3 u4 u5 u6 u7 u8 u9 u10 u11 u12 r0 r1 r2 r3 r4 r5 r6 r7 r8 r9 r10 r11 r12 q0 q1 q2 q3 q4 q5 q6 q7 q8 q9 q10 q11 q12
      have hV := hVn
      have hR := hRn
      have bw := bwn
      clear hVn hRn bwn
      obtain ⟨⟨t0, t1, t2, t3, t4, t5, t6, t7, t8, t9, t10, t11, t12⟩, u0, u1, u2, u3, u4, u5, u6, u7, u8, u9, u10, u11, u12⟩ := cells13 hV
      obtain ⟨⟨r0, r1, r2, r3, r4, r5, r6, r7, r8, r9, r10, r11, r12⟩, q0, q1, q2, q3, q4, q5, q6, q7, q8, q9, q10, q11, q12⟩ := cells13 hR
      refine Lib.hid ?_
      have bx40 := keepc bw c40
      go_wp2_with (with_reducible refine stop_op (o := ⟨some 57, _, _, _, _, _⟩) ?_)
      obtain ⟨wf, hwn⟩ : ∃ x, x = we.setCell ⟨B, 4, none⟩ (.int .i64 (H : Int)) := ⟨_, rfl⟩
      have hVn : wf.heap[B]? = some (.cells #[.bool true, .int .i64 40, .int .i64 (T : Int), .int .i64 (P : Int), .int .i64 (H : Int), .int .u64 (X0 : Int), .int .u64 (X1 : Int), .int .u64 (Y0 : Int), .int .u64 (Y1 : Int), .bool false, .int .u32 0, .int .i64 0, .bool false] 43 (0, 0)) := by rw [hwn]; exact (set_v1 hV _).1
      have hRn : wf.heap[w.heap.size]? = some (.cells #[.bool false, .int .i64 0, .int .i64 0, .int .i64 0, .int .i64 0, .int .u64 0, .int .u64 0, .int .u64 0, .int .u64 0, .bool false, .int .u32 0, .int .i64 0, .bool false] 43 (0, 0)) := by rw [hwn, set_other (Ne.symm hne)]; exact hR
      have bwn : Below w.heap.size w wf := by rw [hwn]; exact (below_set bw hle 4 _)
      rw [← hwn]
      clear hwn hV hR bw t0 t1 t2 t3 t4 t5 t6 t7 t8 t9 t10 t11 t12 u0 u1 u2 u3 u4 u5 u6 u7 u8 u9 u10 u11 u12 r0 r1 r2 r3 r4 r5 r6 r7 r8 r9 r10 r11 r12 q0 q1 q2 q3 q4 q5 q6 q7 q8 q9 q10 q11 q12
      have hV := hVn
      have hR := hRn
      have bw := bwn
      clear hVn hRn bwn
      obtain ⟨⟨t0, t1, t2, t3, t4, t5, t6, t7, t8, t9, t10, t11, t12⟩, u0, u1, u2, u3, u4, u5, u6, u7, u8, u9, u10, u11, u12⟩ := cells13 hV
      obtain ⟨⟨r0, r1, r2, r3, r4, r5, r6, r7, r8, r9, r10, r11, r12⟩, q0, q1, q2, q3, q4, q5, q6, q7, q8, q9, q10, q11, q12⟩ := cells13 hR
      refine Lib.hid ?_
      have mm42 := m42 _ bw
      have bx43 := c43
      go_wp2_with (first | (go_at_call 44; (with_reducible refine mm42.mono ?_); rintro e w' ⟨rfl, rfl⟩) | (with_reducible refine stop_op (o := ⟨some 68, _, _, _, _, _⟩) ?_))
      obtain ⟨wh, hwn⟩ : ∃ x, x = wf.setCell ⟨B, 11, none⟩ (.int .i64 (a : Int)) := ⟨_, rfl⟩
      have hVn : wh.heap[B]? = some (.cells #[.bool true, .int .i64 40, .int .i64 (T : Int), .int .i64 (P : Int), .int .i64 (H : Int), .int .u64 (X0 : Int), .int .u64 (X1 : Int), .int .u64 (Y0 : Int), .int .u64 (Y1 : Int), .bool false, .int .u32 0, .int .i64 (a : Int), .bool false] 43 (0, 0)) := by rw [hwn]; exact (set_v1 hV _).2.1
      have hRn : wh.heap[w.heap.size]? = some (.cells #[.bool false, .int .i64 0, .int .i64 0, .int .i64 0, .int .i64 0, .int .u64 0, .int .u64 0, .int .u64 0, .int .u64 0, .bool false, .int .u32 0, .int .i64 0, .bool false] 43 (0, 0)) := by rw [hwn, set_other (Ne.symm hne)]; exact hR
      have bwn : Below w.heap.size w wh := by rw [hwn]; exact (below_set bw hle 11 _)
      rw [← hwn]
      clear hwn hV hR bw t0 t1 t2 t3 t4 t5 t6 t7 t8 t9 t10 t11 t12 u0 u1 u2 u3 u4 u5 u6 u7 u8 u9 u10 u11 u12 r0 r1 r2 r3 r4 r5 r6 r7 r8 r9 r10 r11 r12 q0 q1 q2 q3 q4 q5 q6 q7 q8 q9 q10 q11 q12
      have hV := hVn
      have hR := hRn
      have bw := bwn
      clear hVn hRn bwn
      obtain ⟨⟨t0, t1, t2, t3, t4, t5, t6, t7, t8, t9, t10, t11, t12⟩, u0, u1, u2, u3, u4, u5, u6, u7, u8, u9, u10, u11, u12⟩ := cells13 hV
      obtain ⟨⟨r0, r1, r2, r3, r4, r5, r6, r7, r8, r9, r10, r11, r12⟩, q0, q1, q2, q3, q4, q5, q6, q7, q8, q9, q10, q11, q12⟩ := cells13 hR
      have by43 := keepc bw c43
      refine Lib.hid ?_
      go_wp2_with (with_reducible refine stop_op (o := ⟨some 74, _, _, _, _, _⟩) ?_)
      obtain ⟨wi, hwn⟩ : ∃ x, x = wh.setCell ⟨B, 12, none⟩ (.bool true) := ⟨_, rfl⟩
      have hVn : wi.heap[B]? = some (.cells #[.bool true, .int .i64 40, .int .i64 (T : Int), .int .i64 (P : Int), .int .i64 (H : Int), .int .u64 (X0 : Int), .int .u64 (X1 : Int), .int .u64 (Y0 : Int), .int .u64 (Y1 : Int), .bool false, .int .u32 0, .int .i64 (a : Int), .bool true] 43 (0, 0)) := by rw [hwn]; exact (set_v1 hV _).2.2.1
      have hRn : wi.heap[w.heap.size]? = some (.cells #[.bool false, .int .i64 0, .int .i64 0, .int .i64 0, .int .i64 0, .int .u64 0, .int .u64 0, .int .u64 0, .int .u64 0, .bool false, .int .u32 0, .int .i64 0, .bool false] 43 (0, 0)) := by rw [hwn, set_other (Ne.symm hne)]; exact hR
      have bwn : Below w.heap.size w wi := by rw [hwn]; exact (below_set bw hle 12 _)
      rw [← hwn]
      clear hwn hV hR bw t0 t1 t2 t3 t4 t5 t6 t7 t8 t9 t10 t11 t12 u0 u1 u2 u3 u4 u5 u6 u7 u8 u9 u10 u11 u12 r0 r1 r2 r3 r4 r5 r6 r7 r8 r9 r10 r11 r12 q0 q1 q2 q3 q4 q5 q6 q7 q8 q9 q10 q11 q12
      have hV := hVn
      have hR := hRn
      have bw := bwn
      clear hVn hRn bwn
      obtain ⟨⟨t0, t1, t2, t3, t4, t5, t6, t7, t8, t9, t10, t11, t12⟩, u0, u1, u2, u3, u4, u5, u6, u7, u8, u9, u10, u11, u12⟩ := cells13 hV
      obtain ⟨⟨r0, r1, r2, r3, r4, r5, r6, r7, r8, r9, r10, r11, r12⟩, q0, q1, q2, q3, q4, q5, q6, q7, q8, q9, q10, q11, q12⟩ := cells13 hR
      have mm45 := m44 _ bw
      refine Lib.hid ?_
      go_wp2_with (first | (go_at_call 44; (with_reducible refine mm45.mono ?_); rintro e w' ⟨rfl, rfl⟩) | (with_reducible refine stop_op (o := ⟨some 78, _, _, _, _, _⟩) ?_))
      obtain ⟨wj, hwn⟩ : ∃ x, x = wi.setCell ⟨B, 10, none⟩ (.int .u32 (I4 : Int)) := ⟨_, rfl⟩
      have hVn : wj.heap[B]? = some (.cells #[.bool true, .int .i64 40, .int .i64 (T : Int), .int .i64 (P : Int), .int .i64 (H : Int), .int .u64 (X0 : Int), .int .u64 (X1 : Int), .int .u64 (Y0 : Int), .int .u64 (Y1 : Int), .bool false, .int .u32 (I4 : Int), .int .i64 (a : Int), .bool true] 43 (0, 0)) := by rw [hwn]; exact (set_v1 hV _).2.2.2
      have hRn : wj.heap[w.heap.size]? = some (.cells #[.bool false, .int .i64 0, .int .i64 0, .int .i64 0, .int .i64 0, .int .u64 0, .int .u64 0, .int .u64 0, .int .u64 0, .bool false, .int .u32 0, .int .i64 0, .bool false] 43 (0, 0)) := by rw [hwn, set_other (Ne.symm hne)]; exact hR
      have bwn : Below w.heap.size w wj := by rw [hwn]; exact (below_set bw hle 10 _)
      rw [← hwn]
      clear hwn hV hR bw t0 t1 t2 t3 t4 t5 t6 t7 t8 t9 t10 t11 t12 u0 u1 u2 u3 u4 u5 u6 u7 u8 u9 u10 u11 u12 r0 r1 r2 r3 r4 r5 r6 r7 r8 r9 r10 r11 r12 q0 q1 q2 q3 q4 q5 q6 q7 q8 q9 q10 q11 q12
      have hV := hVn
      have hR := hRn
      have bw := bwn
      clear hVn hRn bwn
      obtain ⟨⟨t0, t1, t2, t3, t4, t5, t6, t7, t8, t9, t10, t11, t12⟩, u0, u1, u2, u3, u4, u5, u6, u7, u8, u9, u10, u11, u12⟩ := cells13 hV
      obtain ⟨⟨r0, r1, r2, r3, r4, r5, r6, r7, r8, r9, r10, r11, r12⟩, q0, q1, q2, q3, q4, q5, q6, q7, q8, q9, q10, q11, q12⟩ := cells13 hR
      refine Lib.hid ?_
      go_wp2_with (with_reducible refine stop_op (o := ⟨some 86, _, _, _, _, _⟩) ?_)
      obtain ⟨wk, hwn⟩ : ∃ x, x = (wj.setCell ⟨B, 9, none⟩ (.bool true)).setCell ⟨B, 1, none⟩ (.int .i64 48) := ⟨_, rfl⟩
      have hVn : wk.heap[B]? = some (.cells #[.bool true, .int .i64 48, .int .i64 (T : Int), .int .i64 (P : Int), .int .i64 (H : Int), .int .u64 (X0 : Int), .int .u64 (X1 : Int), .int .u64 (Y0 : Int), .int .u64 (Y1 : Int), .bool true, .int .u32 (I4 : Int), .int .i64 (a : Int), .bool true] 43 (0, 0)) := by rw [hwn]; exact set_v91 hV _ _
      have hRn : wk.heap[w.heap.size]? = some (.cells #[.bool false, .int .i64 0, .int .i64 0, .int .i64 0, .int .i64 0, .int .u64 0, .int .u64 0, .int .u64 0, .int .u64 0, .bool false, .int .u32 0, .int .i64 0, .bool false] 43 (0, 0)) := by rw [hwn, set_other (Ne.symm hne), set_other (Ne.symm hne)]; exact hR
      have bwn : Below w.heap.size w wk := by rw [hwn]; exact (below_set (below_set bw hle 9 _) hle 1 _)
      rw [← hwn]
      clear hwn hV hR bw t0 t1 t2 t3 t4 t5 t6 t7 t8 t9 t10 t11 t12 u0 u1 u2 u3 u4 u5 u6 u7 u8 u9 u10 u11 u12 r0 r1 r2 r3 r4 r5 r6 r7 r8 r9 r10 r11 r12 q0 q1 q2 q3 q4 q5 q6 q7 q8 q9 q10 q11 q12
      have hV := hVn
      have hR := hRn
      have bw := bwn
      clear hVn hRn bwn
      obtain ⟨⟨t0, t1, t2, t3, t4, t5, t6, t7, t8, t9, t10, t11, t12⟩, u0, u1, u2, u3, u4, u5, u6, u7, u8, u9, u10, u11, u12⟩ := cells13 hV
      obtain ⟨⟨r0, r1, r2, r3, r4, r5, r6, r7, r8, r9, r10, r11, r12⟩, q0, q1, q2, q3, q4, q5, q6, q7, q8, q9, q10, q11, q12⟩ := cells13 hR
      refine Lib.hid ?_
      go_wp2
      refine bodyPost_ret_by (res_row Try.results50 _ _ w.heap.size 43 #[.bool true, .int .i64 48, .int .i64 (T : Int), .int .i64 (P : Int), .int .i64 (H : Int), .int .u64 (X0 : Int), .int .u64 (X1 : Int), .int .u64 (Y0 : Int), .int .u64 (Y1 : Int), .bool true, .int .u32 (I4 : Int), .int .i64 (a : Int), .bool true] _ rfl (heap_set13w hR (.bool true) (.int .i64 48) (.int .i64 (T : Int)) (.int .i64 (P : Int)) (.int .i64 (H : Int)) (.int .u64 (X0 : Int)) (.int .u64 (X1 : Int)) (.int .u64 (Y0 : Int)) (.int .u64 (Y1 : Int)) (.bool true) (.int .u32 (I4 : Int)) (.int .i64 (a : Int)) (.bool true)) Try.underlying43 (by kernel_rfl)) rfl ⟨by rw [HE.out.1, HE.out.2]; rfl, ?_⟩
      exact below_set13 bw (by omega) _ _ _ _ _ _ _ _ _ _ _ _ _
    have em : ((M : Int) % 2 == 1) = false := by simp; omega
    have H8 := Lib.hid h8
    clear h8
    obtain ⟨fo, hfo⟩ : ∃ fo, fo = decide ((a : Int) ≠ 0) := ⟨_, rfl⟩
    have ef : ((a : Int) != 0) = fo := by rw [hfo]; by_cases h : a = 0 <;> simp [h, bne]
    have Hfo := Lib.hid hfo
    clear hfo
    have HE : Hid (vr = ⟨true, 48, (T : Int), P, (H : Int), X0, X1, Y0, Y1, fo, I4, a, false⟩ ∧ er = 0) := Lib.hid (by
      have e := HR.out
      have e := HR.out.2.2 H2.out (by rw [H3.out, H4.out, Bool.false_or])
      have e := ((e.2 H5.out).2 H6.out).2 H7.out
      simp only [partP] at e
      rw [show decide (((S % 2 : Nat) : Int) = 1) = false by have := H8.out; have := He43.out; simp; omega, ← Hfo.out] at e
      simp only [Bool.false_or] at e
      exact Prod.mk.inj e)
    go_wp2_with (go_at_call 62; refine (c4 _).mono ?_; rintro e wd ⟨rfl, hbx⟩; refine Hid.out ?_)
    have hVn := hV_keep hbx hV
    have hRn := hV_keep hbx hR
    have bwn : Below w.heap.size w wd := bw.trans (hbx.mono bw.size)
    clear hbx hV hR bw t0 t1 t2 t3 t4 t5 t6 t7 t8 t9 t10 t11 t12 u0 u1 u2 u3 u4 u5 u6 u7 u8 u9 u10 u11 u12 r0 r1 r2 r3 r4 r5 r6 r7 r8 r9 r10 r11 r12 q0 q1 q2 q3 q4 q5 q6 q7 q8 q9 q10 q11 q12
    have hV := hVn
    have hR := hRn
    have bw := bwn
    clear hVn hRn bwn
    obtain ⟨⟨t0, t1, t2, t3, t4, t5, t6, t7, t8, t9, t10, t11, t12⟩, u0, u1, u2, u3, u4, u5, u6, u7, u8, u9, u10, u11, u12⟩ := cells13 hV
    obtain ⟨⟨r0, r1, r2, r3, r4, r5, r6, r7, r8, r9, r10, r11, r12⟩, q0, q1, q2, q3, q4, q5, q6, q7, q8, q9, q10, q11, q12⟩ := cells13 hR
    refine Lib.hid ?_
    go_wp2_with (go_at_call 62; refine (c5 _).mono ?_; rintro e we ⟨rfl, hbx⟩; refine Hid.out ?_)
    have hVn := hV_keep hbx hV
    have hRn := hV_keep hbx hR
    have bwn : Below w.heap.size w we := bw.trans (hbx.mono bw.size)
    clear hbx hV hR bw t0 t1 t2 t3 t4 t5 t6 t7 t8 t9 t10 t11 t12 u0 u1 u2 u3 u4 u5 u6 u7 u8 u9 u10 u11 u12 r0 r1 r2 r3 r4 r5 r6 r7 r8 r9 r10 r11 r12 q0 q1 q2 q3 q4 q5 q6 q7 q8 q9 q10 q11 q12
    have hV := hVn
    have hR := hRn
    have bw := bwn
    clear hVn hRn bwn
    obtain ⟨⟨t0, t1, t2, t3, t4, t5, t6, t7, t8, t9, t10, t11, t12⟩, u0, u1, u2, u3, u4, u5, u6, u7, u8, u9, u10, u11, u12⟩ := cells13 hV
    obtain ⟨⟨r0, r1, r2, r3, r4, r5, r6, r7, r8, r9, r10, r11, r12⟩, q0, q1, q2, q3, q4, q5, q6, q7, q8, q9, q10, q11, q12⟩ := cells13 hR
    refine Lib.hid ?_
    have bx40 := keepc bw c40
    go_wp2_with (with_reducible refine stop_op (o := ⟨some 57, _, _, _, _, _⟩) ?_)
    obtain ⟨wf, hwn⟩ : ∃ x, x = we.setCell ⟨B, 4, none⟩ (.int .i64 (H : Int)) := ⟨_, rfl⟩
    have hVn : wf.heap[B]? = some (.cells #[.bool true, .int .i64 40, .int .i64 (T : Int), .int .i64 (P : Int), .int .i64 (H : Int), .int .u64 (X0 : Int), .int .u64 (X1 : Int), .int .u64 (Y0 : Int), .int .u64 (Y1 : Int), .bool false, .int .u32 0, .int .i64 0, .bool false] 43 (0, 0)) := by rw [hwn]; exact (set_v1 hV _).1
    have hRn : wf.heap[w.heap.size]? = some (.cells #[.bool false, .int .i64 0, .int .i64 0, .int .i64 0, .int .i64 0, .int .u64 0, .int .u64 0, .int .u64 0, .int .u64 0, .bool false, .int .u32 0, .int .i64 0, .bool false] 43 (0, 0)) := by rw [hwn, set_other (Ne.symm hne)]; exact hR
    have bwn : Below w.heap.size w wf := by rw [hwn]; exact (below_set bw hle 4 _)
    rw [← hwn]
    clear hwn hV hR bw t0 t1 t2 t3 t4 t5 t6 t7 t8 t9 t10 t11 t12 u0 u1 u2 u3 u4 u5 u6 u7 u8 u9 u10 u11 u12 r0 r1 r2 r3 r4 r5 r6 r7 r8 r9 r10 r11 r12 q0 q1 q2 q3 q4 q5 q6 q7 q8 q9 q10 q11 q12
    have hV := hVn
    have hR := hRn
    have bw := bwn
    clear hVn hRn bwn
    obtain ⟨⟨t0, t1, t2, t3, t4, t5, t6, t7, t8, t9, t10, t11, t12⟩, u0, u1, u2, u3, u4, u5, u6, u7, u8, u9, u10, u11, u12⟩ := cells13 hV
    obtain ⟨⟨r0, r1, r2, r3, r4, r5, r6, r7, r8, r9, r10, r11, r12⟩, q0, q1, q2, q3, q4, q5, q6, q7, q8, q9, q10, q11, q12⟩ := cells13 hR
    refine Lib.hid ?_
    have mm42 := m42 _ bw
    have bx43 := c43
    go_wp2_with (first | (go_at_call 44; (with_reducible refine mm42.mono ?_); rintro e w' ⟨rfl, rfl⟩) | (with_reducible refine stop_op (o := ⟨some 68, _, _, _, _, _⟩) ?_))
    obtain ⟨wh, hwn⟩ : ∃ x, x = wf.setCell ⟨B, 11, none⟩ (.int .i64 (a : Int)) := ⟨_, rfl⟩
    have hVn : wh.heap[B]? = some (.cells #[.bool true, .int .i64 40, .int .i64 (T : Int), .int .i64 (P : Int), .int .i64 (H : Int), .int .u64 (X0 : Int), .int .u64 (X1 : Int), .int .u64 (Y0 : Int), .int .u64 (Y1 : Int), .bool false, .int .u32 0, .int .i64 (a : Int), .bool false] 43 (0, 0)) := by rw [hwn]; exact (set_v1 hV _).2.1
    have hRn : wh.heap[w.heap.size]? = some (.cells #[.bool false, .int .i64 0, .int .i64 0, .int .i64 0, .int .i64 0, .int .u64 0, .int .u64 0, .int .u64 0, .int .u64 0, .bool false, .int .u32 0, .int .i64 0, .bool false] 43 (0, 0)) := by rw [hwn, set_other (Ne.symm hne)]; exact hR
    have bwn : Below w.heap.size w wh := by rw [hwn]; exact (below_set bw hle 11 _)
    rw [← hwn]
    clear hwn hV hR bw t0 t1 t2 t3 t4 t5 t6 t7 t8 t9 t10 t11 t12 u0 u1 u2 u3 u4 u5 u6 u7 u8 u9 u10 u11 u12 r0 r1 r2 r3 r4 r5 r6 r7 r8 r9 r10 r11 r12 q0 q1 q2 q3 q4 q5 q6 q7 q8 q9 q10 q11 q12
    have hV := hVn
    have hR := hRn
    have bw := bwn
    clear hVn hRn bwn
    obtain ⟨⟨t0, t1, t2, t3, t4, t5, t6, t7, t8, t9, t10, t11, t12⟩, u0, u1, u2, u3, u4, u5, u6, u7, u8, u9, u10, u11, u12⟩ := cells13 hV
    obtain ⟨⟨r0, r1, r2, r3, r4, r5, r6, r7, r8, r9, r10, r11, r12⟩, q0, q1, q2, q3, q4, q5, q6, q7, q8, q9, q10, q11, q12⟩ := cells13 hR
    have by43 := keepc bw c43
    refine Lib.hid ?_
    go_wp2_with (with_reducible refine stop_op (o := ⟨some 74, _, _, _, _, _⟩) ?_)
    obtain ⟨wi, hwn⟩ : ∃ x, x = wh.setCell ⟨B, 12, none⟩ (.bool false) := ⟨_, rfl⟩
    have hVn : wi.heap[B]? = some (.cells #[.bool true, .int .i64 40, .int .i64 (T : Int), .int .i64 (P : Int), .int .i64 (H : Int), .int .u64 (X0 : Int), .int .u64 (X1 : Int), .int .u64 (Y0 : Int), .int .u64 (Y1 : Int), .bool false, .int .u32 0, .int .i64 (a : Int), .bool false] 43 (0, 0)) := by rw [hwn]; exact (set_v1 hV _).2.2.1
    have hRn : wi.heap[w.heap.size]? = some (.cells #[.bool false, .int .i64 0, .int .i64 0, .int .i64 0, .int .i64 0, .int .u64 0, .int .u64 0, .int .u64 0, .int .u64 0, .bool false, .int .u32 0, .int .i64 0, .bool false] 43 (0, 0)) := by rw [hwn, set_other (Ne.symm hne)]; exact hR
    have bwn : Below w.heap.size w wi := by rw [hwn]; exact (below_set bw hle 12 _)
    rw [← hwn]
    clear hwn hV hR bw t0 t1 t2 t3 t4 t5 t6 t7 t8 t9 t10 t11 t12 u0 u1 u2 u3 u4 u5 u6 u7 u8 u9 u10 u11 u12 r0 r1 r2 r3 r4 r5 r6 r7 r8 r9 r10 r11 r12 q0 q1 q2 q3 q4 q5 q6 q7 q8 q9 q10 q11 q12
    have hV := hVn
    have hR := hRn
    have bw := bwn
    clear hVn hRn bwn
    obtain ⟨⟨t0, t1, t2, t3, t4, t5, t6, t7, t8, t9, t10, t11, t12⟩, u0, u1, u2, u3, u4, u5, u6, u7, u8, u9, u10, u11, u12⟩ := cells13 hV
    obtain ⟨⟨r0, r1, r2, r3, r4, r5, r6, r7, r8, r9, r10, r11, r12⟩, q0, q1, q2, q3, q4, q5, q6, q7, q8, q9, q10, q11, q12⟩ := cells13 hR
    have mm45 := m44 _ bw
    refine Lib.hid ?_
    go_wp2_with (first | (go_at_call 44; (with_reducible refine mm45.mono ?_); rintro e w' ⟨rfl, rfl⟩) | (with_reducible refine stop_op (o := ⟨some 78, _, _, _, _, _⟩) ?_))
    obtain ⟨wj, hwn⟩ : ∃ x, x = wi.setCell ⟨B, 10, none⟩ (.int .u32 (I4 : Int)) := ⟨_, rfl⟩
    have hVn : wj.heap[B]? = some (.cells #[.bool true, .int .i64 40, .int .i64 (T : Int), .int .i64 (P : Int), .int .i64 (H : Int), .int .u64 (X0 : Int), .int .u64 (X1 : Int), .int .u64 (Y0 : Int), .int .u64 (Y1 : Int), .bool false, .int .u32 (I4 : Int), .int .i64 (a : Int), .bool false] 43 (0, 0)) := by rw [hwn]; exact (set_v1 hV _).2.2.2
    have hRn : wj.heap[w.heap.size]? = some (.cells #[.bool false, .int .i64 0, .int .i64 0, .int .i64 0, .int .i64 0, .int .u64 0, .int .u64 0, .int .u64 0, .int .u64 0, .bool false, .int .u32 0, .int .i64 0, .bool false] 43 (0, 0)) := by rw [hwn, set_other (Ne.symm hne)]; exact hR
    have bwn : Below w.heap.size w wj := by rw [hwn]; exact (below_set bw hle 10 _)
    rw [← hwn]
    clear hwn hV hR bw t0 t1 t2 t3 t4 t5 t6 t7 t8 t9 t10 t11 t12 u0 u1 u2 u3 u4 u5 u6 u7 u8 u9 u10 u11 u12 r0 r1 r2 r3 r4 r5 r6 r7 r8 r9 r10 r11 r12 q0 q1 q2 q3 q4 q5 q6 q7 q8 q9 q10 q11 q12
    have hV := hVn
    have hR := hRn
    have bw := bwn
    clear hVn hRn bwn
    obtain ⟨⟨t0, t1, t2, t3, t4, t5, t6, t7, t8, t9, t10, t11, t12⟩, u0, u1, u2, u3, u4, u5, u6, u7, u8, u9, u10, u11, u12⟩ := cells13 hV
    obtain ⟨⟨r0, r1, r2, r3, r4, r5, r6, r7, r8, r9, r10, r11, r12⟩, q0, q1, q2, q3, q4, q5, q6, q7, q8, q9, q10, q11, q12⟩ := cells13 hR
    refine Lib.hid ?_
    go_wp2_with (with_reducible refine stop_op (o := ⟨some 86, _, _, _, _, _⟩) ?_)
    obtain ⟨wk, hwn⟩ : ∃ x, x = (wj.setCell ⟨B, 9, none⟩ (.bool fo)).setCell ⟨B, 1, none⟩ (.int .i64 48) := ⟨_, rfl⟩
    have hVn : wk.heap[B]? = some (.cells #[.bool true, .int .i64 48, .int .i64 (T : Int), .int .i64 (P : Int), .int .i64 (H : Int), .int .u64 (X0 : Int), .int .u64 (X1 : Int), .int .u64 (Y0 : Int), .int .u64 (Y1 : Int), .bool fo, .int .u32 (I4 : Int), .int .i64 (a : Int), .bool false] 43 (0, 0)) := by rw [hwn]; exact set_v91 hV _ _
    have hRn : wk.heap[w.heap.size]? = some (.cells #[.bool false, .int .i64 0, .int .i64 0, .int .i64 0, .int .i64 0, .int .u64 0, .int .u64 0, .int .u64 0, .int .u64 0, .bool false, .int .u32 0, .int .i64 0, .bool false] 43 (0, 0)) := by rw [hwn, set_other (Ne.symm hne), set_other (Ne.symm hne)]; exact hR
    have bwn : Below w.heap.size w wk := by rw [hwn]; exact (below_set (below_set bw hle 9 _) hle 1 _)
    rw [← hwn]
    clear hwn hV hR bw t0 t1 t2 t3 t4 t5 t6 t7 t8 t9 t10 t11 t12 u0 u1 u2 u3 u4 u5 u6 u7 u8 u9 u10 u11 u12 r0 r1 r2 r3 r4 r5 r6 r7 r8 r9 r10 r11 r12 q0 q1 q2 q3 q4 q5 q6 q7 q8 q9 q10 q11 q12
    have hV := hVn
    have hR := hRn
    have bw := bwn
    clear hVn hRn bwn
    obtain ⟨⟨t0, t1, t2, t3, t4, t5, t6, t7, t8, t9, t10, t11, t12⟩, u0, u1, u2, u3, u4, u5, u6, u7, u8, u9, u10, u11, u12⟩ := cells13 hV
    obtain ⟨⟨r0, r1, r2, r3, r4, r5, r6, r7, r8, r9, r10, r11, r12⟩, q0, q1, q2, q3, q4, q5, q6, q7, q8, q9, q10, q11, q12⟩ := cells13 hR
    refine Lib.hid ?_
    go_wp2
    refine bodyPost_ret_by (res_row Try.results50 _ _ w.heap.size 43 #[.bool true, .int .i64 48, .int .i64 (T : Int), .int .i64 (P : Int), .int .i64 (H : Int), .int .u64 (X0 : Int), .int .u64 (X1 : Int), .int .u64 (Y0 : Int), .int .u64 (Y1 : Int), .bool fo, .int .u32 (I4 : Int), .int .i64 (a : Int), .bool false] _ rfl (heap_set13w hR (.bool true) (.int .i64 48) (.int .i64 (T : Int)) (.int .i64 (P : Int)) (.int .i64 (H : Int)) (.int .u64 (X0 : Int)) (.int .u64 (X1 : Int)) (.int .u64 (Y0 : Int)) (.int .u64 (Y1 : Int)) (.bool fo) (.int .u32 (I4 : Int)) (.int .i64 (a : Int)) (.bool false)) Try.underlying43 (by kernel_rfl)) rfl ⟨by rw [HE.out.1, HE.out.2]; rfl, ?_⟩
    exact below_set13 bw (by omega) _ _ _ _ _ _ _ _ _ _ _ _ _

/-- IPv6 headers: the document's own reading. -/
theorem rparse6_any (g o c n : Nat) (l : List UInt8) (hn : l.length = n) (hc : n ≤ c) (hcm : c ≤ 9223372036854775807) {w : World} (hb : Byt w g o l) :
    Calls Try.prog 50 #[.slice (some ⟨g, o, none⟩) n c] w fun e w' => e = .returned (.tuple #[.agg (vcells (parse6P l).1), .int .i64 (parse6P l).2]) ∧ Below w.heap.size w w' := by
  by_cases h1 : n < 40
  · have e : parse6P l = (zvw, 40) := by unfold parse6P; rw [if_pos (by omega)]
    rw [e]; exact r6_a g o c n l hn hc hcm h1 hb
  · exact r6_b g o c n l hn hc hcm (by omega) hb
end Go.Proofs.Ytpmbdjdhgcjkfaa
