/- IPv4 headers: the document's parse4; by-name template (gen_wr4.py). -/
import Derived.Test.YtpmbdjdhgcjkfaaWParse
import Derived.Deep.RegionHeld3
import Derived.OrdersHeld
import Derived.Laws.Rows
import Derived.Deep.DeepCutAuto
namespace Go.Proofs.Ytpmbdjdhgcjkfaa
open Go.RowKit Go.Sort
set_option linter.unusedVariables false
set_option linter.unusedSimpArgs false

theorem get_eq (g o n c f m : Nat) (l : List UInt8) (hn : l.length = n) (h8 : m ≤ 4) (h : f + m ≤ n) {w : World} (hb : Byt w g o l) (W : World) (hW : Below w.heap.size w W) :
    Calls Try.prog 44 #[.slice (some ⟨g, o + f, none⟩) m (c - f)] W fun e w' => e = .returned (.int .i64 (nbN l f m : Nat)) ∧ W = w' :=
  get_any g (o + f) (c - f) m _ (by rw [List.length_take, List.length_drop]; omega) h8 ((hb.below hW).sub f m)
theorem get_bel (g o n c f m : Nat) (l : List UInt8) (hn : l.length = n) (h8 : m ≤ 4) (h : f + m ≤ n) {w : World} (hb : Byt w g o l) (W : World) (hW : Below w.heap.size w W) :
    Calls Try.prog 44 #[.slice (some ⟨g, o + f, none⟩) m (c - f)] W fun e w' => e = .returned (.int .i64 (nbN l f m : Nat)) ∧ Below W.heap.size W w' :=
  (get_eq g o n c f m l hn h8 h hb W hW).mono fun e w' ⟨he, hw⟩ => ⟨he, by rw [← hw]; exact Below.refl _ _⟩
theorem rsum_eq (g o c n : Nat) (l : List UInt8) (hn : l.length = n) (hm : n ≤ 65540) {w : World} (hb : Byt w g o l) :
    Calls Try.prog 16 #[.slice (some ⟨g, o, none⟩) n c] w fun e w' => e = .returned (.int .i64 (sumP l : Nat)) ∧ w = w' := rsum_any g o c n l hn hm hb

theorem step_store_row {P : Program} {ops : Array Oper} {op : Oper} {a : Act} {w : World} {K : Act → World → Prop} {Q : Exit → Act → World → Prop} {E : Prop} (hgd : op.guard = none) (ty : TypeId) (x y : Operand) (ho : op.op = .store ty x y)
    (g : Nat) (cells : Array Value) (hx : a.eval x = .pointer (some ⟨g, 0, none⟩)) (hy : a.eval y = .agg cells)
    (t : TypeId) (old : Array Value) (hg : w.heap[g]? = some (.cells old t (0, 0))) (hi : (P.info? ty).map (·.size) = some cells.size)
    (hold : old.size = cells.size) (h1 : cells.all (·.oneCell') = true)
    (h : K (a.put op.dst undef) (w.setRow g cells)) : if Region.wanted op (yielded ops a.tmps) = true then Oper.wp P op a w K Q else E := by
  have hw : Region.wanted op (yielded ops a.tmps) = true := by simp [Region.wanted, hgd]
  rw [if_pos hw]
  unfold Oper.wp
  simp only [execOp, ho, hx, hy, Instr.storeAt, Instr.sureAddr, Sem.run_bind, Sem.run_pure, Result.andThen_ok, run_storeVar_row w g t ty old cells hg hi hold h1]
  exact h

theorem step_alloc {P : Program} {ops : Array Oper} {op : Oper} {a : Act} {w : World} {K : Act → World → Prop} {Q : Exit → Act → World → Prop} {E : Prop} (hgd : op.guard = none) (ty : TypeId) (ho : op.op = .alloc ty)
    (Z : Array Value) (hz : ∀ w, (zeroValue ty).run P w = .ok (.agg Z) w)
    (h : ∀ (w' : World) (g : Nat), w'.heap[g]? = some (.cells Z ty (0, 0)) → Below w.heap.size w w' → w.heap.size ≤ g → K (a.put op.dst (.pointer (some ⟨g, 0, none⟩))) w') : if Region.wanted op (yielded ops a.tmps) = true then Oper.wp P op a w K Q else E := by
  have hw : Region.wanted op (yielded ops a.tmps) = true := by simp [Region.wanted, hgd]
  rw [if_pos hw]
  have h2 := h _ _ (heap_alloc_new w (.cells Z ty)) ((Below.refl _ _).alloc (Nat.le_refl _) _) (Nat.le_refl _)
  unfold Oper.wp
  simp [go_sem, execOp, ho, hz]
  exact h2

theorem Below.setRow {N : Nat} {w w1 : World} (h : Below N w w1) {B : Nat} (hB : N ≤ B) (C : Array Value) : Below N w (w1.setRow B C) :=
  ⟨h.os, h.tape, h.output, by simpa [World.setRow] using h.size, fun k hk => by
    have : B ≠ k := by omega
    simp only [World.setRow, Array.getElem?_modify]
    rw [if_neg this]; exact h.block k hk⟩
theorem blk_setRow {w : World} {b : Nat} {cs : Array Value} {t : TypeId} (h : w.heap[b]? = some (.cells cs t (0, 0))) (C : Array Value) : (w.setRow b C).heap[b]? = some (.cells C t (0, 0)) := by
  unfold World.setRow
  simp [Array.getElem?_modify, h]
theorem hV_of {w1 X w' : World} {o : Obj} (hX : Below w1.heap.size w1 X) (hb : Below (X.alloc o).heap.size (X.alloc o) w') : w'.heap[X.heap.size]? = some o ∧ w1.heap.size ≤ X.heap.size :=
  ⟨(hb.block _ (by simp)).trans (al_neww rfl _), hX.size⟩
theorem hV_new {X w' : World} {o : Obj} (hb : Below (X.alloc o).heap.size (X.alloc o) w') : w'.heap[X.heap.size]? = some o := (hb.block _ (by simp)).trans (al_neww rfl _)
theorem hV_keep {X w' : World} {B : Nat} {o : Obj} (hb : Below X.heap.size X w') (h : X.heap[B]? = some o) : w'.heap[B]? = some o :=
  (hb.block _ (Array.getElem?_eq_some_iff.1 h).1).trans h
theorem keepA {w4 wr : World} {X : Prop} {C : World → Prop} (hC : ∀ w', Below w4.heap.size w4 w' → C w') (o : Obj) (hH : Below w4.heap.size w4 wr ∧ X) : Below w4.heap.size w4 (wr.alloc o) ∧ C (wr.alloc o) := ⟨Below.al hH.1 o, hC _ (Below.al hH.1 o)⟩
theorem keepS {w4 wr : World} {C : World → Prop} (hC : ∀ w', Below w4.heap.size w4 w' → C w') (hH : Below w4.heap.size w4 wr) : Below w4.heap.size w4 wr ∧ C wr := ⟨hH, hC _ hH⟩
theorem keepB {w4 wr w' : World} {X : Prop} {C : World → Prop} (hC : ∀ w', Below w4.heap.size w4 w' → C w') (hb : Below wr.heap.size wr w') (hH : Below w4.heap.size w4 wr ∧ X) : Below w4.heap.size w4 w' ∧ C w' :=
  ⟨bel_via hH.1 hb, hC _ (bel_via hH.1 hb)⟩
theorem keepD {w4 wr : World} {X : Prop} {C : World → Prop} (hC : ∀ w', Below w4.heap.size w4 w' → C w') (hH : Below w4.heap.size w4 wr ∧ X) : Below w4.heap.size w4 wr.drew ∧ C wr.drew :=
  ⟨Below.dr hH.1, hC _ (Below.dr hH.1)⟩
theorem keep0 {w4 : World} {C : World → Prop} (hC : ∀ w', Below w4.heap.size w4 w' → C w') : Below w4.heap.size w4 w4.drew ∧ C w4.drew := ⟨Below.dr (Below.refl _ _), hC _ (Below.dr (Below.refl _ _))⟩
theorem keep00 {w4 : World} {C : World → Prop} (hC : ∀ w', Below w4.heap.size w4 w' → C w') : Below w4.heap.size w4 w4 ∧ C w4 := ⟨(Below.refl _ _), hC _ ((Below.refl _ _))⟩

theorem set_v3 {w : World} {B : Nat} {x0 x1 x2 x3 x4 x5 x6 x7 x8 x9 x10 x11 x12 : Value} {t : TypeId} {fz : Nat × Nat} (h : w.heap[B]? = some (.cells #[x0, x1, x2, x3, x4, x5, x6, x7, x8, x9, x10, x11, x12] t fz)) (a b c : Value) :
    (((w.setCell ⟨B, 12, none⟩ a).setCell ⟨B, 11, none⟩ b).setCell ⟨B, 9, none⟩ c).heap[B]? = some (.cells #[x0, x1, x2, x3, x4, x5, x6, x7, x8, c, x10, b, a] t fz) := by
  rw [heap_setw (heap_setw (heap_setw h 12 _) 11 _) 9 _]
  kernel_rfl

set_option maxHeartbeats 2000000 in
set_option maxRecDepth 100000 in
theorem r4_a (g o c n : Nat) (l : List UInt8) (hn : l.length = n) (hc : n ≤ c) (hcm : c ≤ 9223372036854775807) (h1 : n < 20) {w : World} (hb : Byt w g o l) :
    Calls Try.prog 49 #[.slice (some ⟨g, o, none⟩) n c] w fun e w' => e = .returned (.tuple #[.agg (vcells zvw), .int .i64 40]) ∧ Below w.heap.size w w' := by
  have hi : (n : Int) < 20 := by omega
  clear hb hn
  simp only [vcells, zvw]
  go_enter Try.func49, Try.ntmps49
  go_wp2_with (with_reducible refine stop_op (o := ⟨some 8, _, _, _, _, _⟩) ?_)
  obtain ⟨w1, hw1⟩ : ∃ v, v = w.alloc (.cells #[.bool false, .int .i64 0, .int .i64 0, .int .i64 0, .int .i64 0, .int .u64 0, .int .u64 0, .int .u64 0, .int .u64 0, .bool false, .int .u32 0, .int .i64 0, .bool false] 43) := ⟨_, rfl⟩
  have hR : w1.heap[w.heap.size]? = some (.cells #[.bool false, .int .i64 0, .int .i64 0, .int .i64 0, .int .i64 0, .int .u64 0, .int .u64 0, .int .u64 0, .int .u64 0, .bool false, .int .u32 0, .int .i64 0, .bool false] 43 (0, 0)) := by rw [hw1]; exact al_neww rfl _
  have bw1 : Below w.heap.size w w1 := by rw [hw1]; exact Below.al (Below.refl _ _) _
  rw [← hw1]
  clear hw1
  obtain ⟨⟨r0, r1, r2, r3, r4, r5, r6, r7, r8, r9, r10, r11, r12⟩, q0, q1, q2, q3, q4, q5, q6, q7, q8, q9, q10, q11, q12⟩ := cells13 hR
  refine Lib.hid ?_
  go_wp2
  refine bodyPost_ret_by (res_row Try.results49 _ _ w.heap.size 43 #[.bool false, .int .i64 0, .int .i64 0, .int .i64 0, .int .i64 0, .int .u64 0, .int .u64 0, .int .u64 0, .int .u64 0, .bool false, .int .u32 0, .int .i64 0, .bool false] _ rfl (heap_set13w hR (.bool false) (.int .i64 0) (.int .i64 0) (.int .i64 0) (.int .i64 0) (.int .u64 0) (.int .u64 0) (.int .u64 0) (.int .u64 0) (.bool false) (.int .u32 0) (.int .i64 0) (.bool false)) Try.underlying43 (by kernel_rfl)) rfl ⟨rfl, ?_⟩
  exact below_set13 bw1 (by omega) _ _ _ _ _ _ _ _ _ _ _ _ _

set_option maxHeartbeats 2000000 in
set_option maxRecDepth 100000 in
theorem r4_b (g o c n : Nat) (l : List UInt8) (hn : l.length = n) (hc : n ≤ c) (hcm : c ≤ 9223372036854775807) (h1 : 20 ≤ n) (h2 : byN l 0 % 16 ≠ 5) {w : World} (hb : Byt w g o l) :
    Calls Try.prog 49 #[.slice (some ⟨g, o, none⟩) n c] w fun e w' => e = .returned (.tuple #[.agg (vcells zvw), .int .i64 42]) ∧ Below w.heap.size w w' := by
  have hi : ¬ (n : Int) < 20 := by omega
  have hi2 : decide ((n : Int) < 20) = false := by simp; omega
  have hi3 : decide (n < 20) = false := by simp; omega
  have h0n : 0 < n := by omega
  have h0i : (0 : Int) < (n : Int) := by omega
  have s2 : ∀ W, (Instr.slice 22 (.slice (some ⟨g, o, none⟩) n c) (some (.int .i64 2)) (some (.int .i64 4)) none).run Try.prog W = .ok (.slice (some ⟨g, o + 2, none⟩) 2 (c - 2)) W := cut_lh g o n c 2 4 (by omega) (by omega) (by omega) hcm
  have s6 : ∀ W, (Instr.slice 22 (.slice (some ⟨g, o, none⟩) n c) (some (.int .i64 6)) (some (.int .i64 8)) none).run Try.prog W = .ok (.slice (some ⟨g, o + 6, none⟩) 2 (c - 6)) W := cut_lh g o n c 6 8 (by omega) (by omega) (by omega) hcm
  have s4 : ∀ W, (Instr.slice 22 (.slice (some ⟨g, o, none⟩) n c) (some (.int .i64 4)) (some (.int .i64 6)) none).run Try.prog W = .ok (.slice (some ⟨g, o + 4, none⟩) 2 (c - 4)) W := cut_lh g o n c 4 6 (by omega) (by omega) (by omega) hcm
  have s12 : ∀ W, (Instr.slice 22 (.slice (some ⟨g, o, none⟩) n c) (some (.int .i64 12)) (some (.int .i64 16)) none).run Try.prog W = .ok (.slice (some ⟨g, o + 12, none⟩) 4 (c - 12)) W := cut_lh g o n c 12 16 (by omega) (by omega) (by omega) hcm
  have s16 : ∀ W, (Instr.slice 22 (.slice (some ⟨g, o, none⟩) n c) (some (.int .i64 16)) (some (.int .i64 20)) none).run Try.prog W = .ok (.slice (some ⟨g, o + 16, none⟩) 4 (c - 16)) W := cut_lh g o n c 16 20 (by omega) (by omega) (by omega) hcm
  have s20 : ∀ W, (Instr.slice 22 (.slice (some ⟨g, o, none⟩) n c) none (some (.int .i64 20)) none).run Try.prog W = .ok (.slice (some ⟨g, o, none⟩) 20 c) W := cut_h g o n c 20 (by omega) hcm
  have n2 := get_eq g o n c 2 2 l hn (by omega) (by omega) hb
  have n6 := get_eq g o n c 6 2 l hn (by omega) (by omega) hb
  have n4 := get_eq g o n c 4 2 l hn (by omega) (by omega) hb
  have nS := fun (W : World) (h : Below w.heap.size w W) => rsum_eq g o c 20 (l.take 20) (by rw [List.length_take]; omega) (by omega) (show Byt W g o (l.take 20) by have := (hb.below h).sub 0 20; simpa using this)
  have n12 := fun (W : World) (h : Below w.heap.size w W) => wide4 g (o + 12) (c - 12) ((l.drop 12).take 4) (by rw [List.length_take, List.length_drop]; omega) ((hb.below h).sub 12 4)
  have n16 := fun (W : World) (h : Below w.heap.size w W) => wide4 g (o + 16) (c - 16) ((l.drop 16).take 4) (by rw [List.length_take, List.length_drop]; omega) ((hb.below h).sub 16 4)
  have c0 := by_cell hb hn 0 h0n
  rw [Nat.add_zero] at c0
  have c8 := by_cell hb hn 8 (by omega)
  have c9 := by_cell hb hn 9 (by omega)
  have x8 := byN_lt l 0
  have hP := byN_lt l 8
  have hQ := byN_lt l 9
  have hT := nb2_lt l 2
  have hS := nb2_lt l 6
  have hI := nb2_lt l 4
  have hsl := sumP_le (l.take 20)
  try simp only [view4] at *
  generalize byN l 0 = X at *
  generalize byN l 8 = P at *
  generalize byN l 9 = Q at *
  generalize nbN l 2 2 = T at *
  generalize nbN l 6 2 = S at *
  generalize nbN l 4 2 = I4 at *
  generalize sumP (l.take 20) = sm at *
  generalize adrH ((l.drop 12).take 4) = X0 at *
  generalize adrL ((l.drop 12).take 4) = X1 at *
  generalize adrH ((l.drop 16).take 4) = Y0 at *
  generalize adrL ((l.drop 16).take 4) = Y1 at *
  clear hb hn
  have Ti : (T : Int) < 65536 := by omega
  have Si : (S : Int) < 65536 := by omega
  have Ii : (I4 : Int) < 65536 := by omega
  have Xi : (X : Int) < 256 := by omega
  have Pi8 : (P : Int) < 256 := by omega
  have Qi8 : (Q : Int) < 256 := by omega
  have n2 := n2
  have wP : IntKind.i64.wrap (P : Int) = (P : Int) := by rw [IntKind.wrap_i64]; omega
  have wQ : IntKind.i64.wrap (Q : Int) = (Q : Int) := by rw [IntKind.wrap_i64]; omega
  have wI : IntKind.u32.wrap (I4 : Int) = (I4 : Int) := by rw [IntKind.wrap_u32]; omega
  have hb5 : ((X : Int) % 16 != 5) = true := by simp; omega
  simp only [vcells, zvw]
  go_enter Try.func49, Try.ntmps49
  go_wp2_with (with_reducible refine stop_op (o := ⟨some 8, _, _, _, _, _⟩) ?_)
  obtain ⟨w1, hw1⟩ : ∃ v, v = w.alloc (.cells #[.bool false, .int .i64 0, .int .i64 0, .int .i64 0, .int .i64 0, .int .u64 0, .int .u64 0, .int .u64 0, .int .u64 0, .bool false, .int .u32 0, .int .i64 0, .bool false] 43) := ⟨_, rfl⟩
  have hR : w1.heap[w.heap.size]? = some (.cells #[.bool false, .int .i64 0, .int .i64 0, .int .i64 0, .int .i64 0, .int .u64 0, .int .u64 0, .int .u64 0, .int .u64 0, .bool false, .int .u32 0, .int .i64 0, .bool false] 43 (0, 0)) := by rw [hw1]; exact al_neww rfl _
  have bw1 : Below w.heap.size w w1 := by rw [hw1]; exact Below.al (Below.refl _ _) _
  rw [← hw1]
  clear hw1
  obtain ⟨⟨r0, r1, r2, r3, r4, r5, r6, r7, r8, r9, r10, r11, r12⟩, q0, q1, q2, q3, q4, q5, q6, q7, q8, q9, q10, q11, q12⟩ := cells13 hR
  refine Lib.hid ?_
  have m2 := n2 _ bw1
  have m6 := n6 _ bw1
  have mS := nS _ bw1
  have c01 := keepc bw1 c0
  clear n2 n6 nS c0
  go_wp2_with (first | (go_at_call 44; (with_reducible refine m2.mono ?_); rintro e w' ⟨rfl, rfl⟩) | (go_at_call 44; (with_reducible refine m6.mono ?_); rintro e w' ⟨rfl, rfl⟩) | (go_at_call 16; (with_reducible refine mS.mono ?_); rintro e w' ⟨rfl, rfl⟩))
  refine bodyPost_ret_by (res_row Try.results49 _ _ w.heap.size 43 #[.bool false, .int .i64 0, .int .i64 0, .int .i64 0, .int .i64 0, .int .u64 0, .int .u64 0, .int .u64 0, .int .u64 0, .bool false, .int .u32 0, .int .i64 0, .bool false] _ rfl (heap_set13w hR (.bool false) (.int .i64 0) (.int .i64 0) (.int .i64 0) (.int .i64 0) (.int .u64 0) (.int .u64 0) (.int .u64 0) (.int .u64 0) (.bool false) (.int .u32 0) (.int .i64 0) (.bool false)) Try.underlying43 (by kernel_rfl)) rfl ⟨rfl, ?_⟩
  exact below_set13 bw1 (by omega) _ _ _ _ _ _ _ _ _ _ _ _ _

set_option maxHeartbeats 2000000 in
set_option maxRecDepth 100000 in
theorem r4_c (g o c n : Nat) (l : List UInt8) (hn : l.length = n) (hc : n ≤ c) (hcm : c ≤ 9223372036854775807) (h1 : 20 ≤ n) (h2 : byN l 0 % 16 = 5) (h3 : nbN l 2 2 < 20) {w : World} (hb : Byt w g o l) :
    Calls Try.prog 49 #[.slice (some ⟨g, o, none⟩) n c] w fun e w' => e = .returned (.tuple #[.agg (vcells zvw), .int .i64 42]) ∧ Below w.heap.size w w' := by
  have hi : ¬ (n : Int) < 20 := by omega
  have hi2 : decide ((n : Int) < 20) = false := by simp; omega
  have hi3 : decide (n < 20) = false := by simp; omega
  have h0n : 0 < n := by omega
  have h0i : (0 : Int) < (n : Int) := by omega
  have s2 : ∀ W, (Instr.slice 22 (.slice (some ⟨g, o, none⟩) n c) (some (.int .i64 2)) (some (.int .i64 4)) none).run Try.prog W = .ok (.slice (some ⟨g, o + 2, none⟩) 2 (c - 2)) W := cut_lh g o n c 2 4 (by omega) (by omega) (by omega) hcm
  have s6 : ∀ W, (Instr.slice 22 (.slice (some ⟨g, o, none⟩) n c) (some (.int .i64 6)) (some (.int .i64 8)) none).run Try.prog W = .ok (.slice (some ⟨g, o + 6, none⟩) 2 (c - 6)) W := cut_lh g o n c 6 8 (by omega) (by omega) (by omega) hcm
  have s4 : ∀ W, (Instr.slice 22 (.slice (some ⟨g, o, none⟩) n c) (some (.int .i64 4)) (some (.int .i64 6)) none).run Try.prog W = .ok (.slice (some ⟨g, o + 4, none⟩) 2 (c - 4)) W := cut_lh g o n c 4 6 (by omega) (by omega) (by omega) hcm
  have s12 : ∀ W, (Instr.slice 22 (.slice (some ⟨g, o, none⟩) n c) (some (.int .i64 12)) (some (.int .i64 16)) none).run Try.prog W = .ok (.slice (some ⟨g, o + 12, none⟩) 4 (c - 12)) W := cut_lh g o n c 12 16 (by omega) (by omega) (by omega) hcm
  have s16 : ∀ W, (Instr.slice 22 (.slice (some ⟨g, o, none⟩) n c) (some (.int .i64 16)) (some (.int .i64 20)) none).run Try.prog W = .ok (.slice (some ⟨g, o + 16, none⟩) 4 (c - 16)) W := cut_lh g o n c 16 20 (by omega) (by omega) (by omega) hcm
  have s20 : ∀ W, (Instr.slice 22 (.slice (some ⟨g, o, none⟩) n c) none (some (.int .i64 20)) none).run Try.prog W = .ok (.slice (some ⟨g, o, none⟩) 20 c) W := cut_h g o n c 20 (by omega) hcm
  have n2 := get_eq g o n c 2 2 l hn (by omega) (by omega) hb
  have n6 := get_eq g o n c 6 2 l hn (by omega) (by omega) hb
  have n4 := get_eq g o n c 4 2 l hn (by omega) (by omega) hb
  have nS := fun (W : World) (h : Below w.heap.size w W) => rsum_eq g o c 20 (l.take 20) (by rw [List.length_take]; omega) (by omega) (show Byt W g o (l.take 20) by have := (hb.below h).sub 0 20; simpa using this)
  have n12 := fun (W : World) (h : Below w.heap.size w W) => wide4 g (o + 12) (c - 12) ((l.drop 12).take 4) (by rw [List.length_take, List.length_drop]; omega) ((hb.below h).sub 12 4)
  have n16 := fun (W : World) (h : Below w.heap.size w W) => wide4 g (o + 16) (c - 16) ((l.drop 16).take 4) (by rw [List.length_take, List.length_drop]; omega) ((hb.below h).sub 16 4)
  have c0 := by_cell hb hn 0 h0n
  rw [Nat.add_zero] at c0
  have c8 := by_cell hb hn 8 (by omega)
  have c9 := by_cell hb hn 9 (by omega)
  have x8 := byN_lt l 0
  have hP := byN_lt l 8
  have hQ := byN_lt l 9
  have hT := nb2_lt l 2
  have hS := nb2_lt l 6
  have hI := nb2_lt l 4
  have hsl := sumP_le (l.take 20)
  try simp only [view4] at *
  generalize byN l 0 = X at *
  generalize byN l 8 = P at *
  generalize byN l 9 = Q at *
  generalize nbN l 2 2 = T at *
  generalize nbN l 6 2 = S at *
  generalize nbN l 4 2 = I4 at *
  generalize sumP (l.take 20) = sm at *
  generalize adrH ((l.drop 12).take 4) = X0 at *
  generalize adrL ((l.drop 12).take 4) = X1 at *
  generalize adrH ((l.drop 16).take 4) = Y0 at *
  generalize adrL ((l.drop 16).take 4) = Y1 at *
  clear hb hn
  have Ti : (T : Int) < 65536 := by omega
  have Si : (S : Int) < 65536 := by omega
  have Ii : (I4 : Int) < 65536 := by omega
  have Xi : (X : Int) < 256 := by omega
  have Pi8 : (P : Int) < 256 := by omega
  have Qi8 : (Q : Int) < 256 := by omega
  have n2 := n2
  have wP : IntKind.i64.wrap (P : Int) = (P : Int) := by rw [IntKind.wrap_i64]; omega
  have wQ : IntKind.i64.wrap (Q : Int) = (Q : Int) := by rw [IntKind.wrap_i64]; omega
  have wI : IntKind.u32.wrap (I4 : Int) = (I4 : Int) := by rw [IntKind.wrap_u32]; omega
  have hb5 : ((X : Int) % 16 != 5) = false := by simp; omega
  have hT20 : decide ((T : Int) < 20) = true := by simp; omega
  have hT20n : decide (T < 20) = true := by simp; omega
  have hT20i : (T : Int) < 20 := by omega
  simp only [vcells, zvw]
  go_enter Try.func49, Try.ntmps49
  go_wp2_with (with_reducible refine stop_op (o := ⟨some 8, _, _, _, _, _⟩) ?_)
  obtain ⟨w1, hw1⟩ : ∃ v, v = w.alloc (.cells #[.bool false, .int .i64 0, .int .i64 0, .int .i64 0, .int .i64 0, .int .u64 0, .int .u64 0, .int .u64 0, .int .u64 0, .bool false, .int .u32 0, .int .i64 0, .bool false] 43) := ⟨_, rfl⟩
  have hR : w1.heap[w.heap.size]? = some (.cells #[.bool false, .int .i64 0, .int .i64 0, .int .i64 0, .int .i64 0, .int .u64 0, .int .u64 0, .int .u64 0, .int .u64 0, .bool false, .int .u32 0, .int .i64 0, .bool false] 43 (0, 0)) := by rw [hw1]; exact al_neww rfl _
  have bw1 : Below w.heap.size w w1 := by rw [hw1]; exact Below.al (Below.refl _ _) _
  rw [← hw1]
  clear hw1
  obtain ⟨⟨r0, r1, r2, r3, r4, r5, r6, r7, r8, r9, r10, r11, r12⟩, q0, q1, q2, q3, q4, q5, q6, q7, q8, q9, q10, q11, q12⟩ := cells13 hR
  refine Lib.hid ?_
  have m2 := n2 _ bw1
  have m6 := n6 _ bw1
  have mS := nS _ bw1
  have c01 := keepc bw1 c0
  clear n2 n6 nS c0
  go_wp2_with (first | (go_at_call 44; (with_reducible refine m2.mono ?_); rintro e w' ⟨rfl, rfl⟩) | (go_at_call 44; (with_reducible refine m6.mono ?_); rintro e w' ⟨rfl, rfl⟩) | (go_at_call 16; (with_reducible refine mS.mono ?_); rintro e w' ⟨rfl, rfl⟩))
  refine bodyPost_ret_by (res_row Try.results49 _ _ w.heap.size 43 #[.bool false, .int .i64 0, .int .i64 0, .int .i64 0, .int .i64 0, .int .u64 0, .int .u64 0, .int .u64 0, .int .u64 0, .bool false, .int .u32 0, .int .i64 0, .bool false] _ rfl (heap_set13w hR (.bool false) (.int .i64 0) (.int .i64 0) (.int .i64 0) (.int .i64 0) (.int .u64 0) (.int .u64 0) (.int .u64 0) (.int .u64 0) (.bool false) (.int .u32 0) (.int .i64 0) (.bool false)) Try.underlying43 (by kernel_rfl)) rfl ⟨rfl, ?_⟩
  exact below_set13 bw1 (by omega) _ _ _ _ _ _ _ _ _ _ _ _ _

set_option maxHeartbeats 2000000 in
set_option maxRecDepth 100000 in
theorem r4_d (g o c n : Nat) (l : List UInt8) (hn : l.length = n) (hc : n ≤ c) (hcm : c ≤ 9223372036854775807) (h1 : 20 ≤ n) (h2 : byN l 0 % 16 = 5) (h3 : 20 ≤ nbN l 2 2) (h4 : n < nbN l 2 2) {w : World} (hb : Byt w g o l) :
    Calls Try.prog 49 #[.slice (some ⟨g, o, none⟩) n c] w fun e w' => e = .returned (.tuple #[.agg (vcells zvw), .int .i64 40]) ∧ Below w.heap.size w w' := by
  have hi : ¬ (n : Int) < 20 := by omega
  have hi2 : decide ((n : Int) < 20) = false := by simp; omega
  have hi3 : decide (n < 20) = false := by simp; omega
  have h0n : 0 < n := by omega
  have h0i : (0 : Int) < (n : Int) := by omega
  have s2 : ∀ W, (Instr.slice 22 (.slice (some ⟨g, o, none⟩) n c) (some (.int .i64 2)) (some (.int .i64 4)) none).run Try.prog W = .ok (.slice (some ⟨g, o + 2, none⟩) 2 (c - 2)) W := cut_lh g o n c 2 4 (by omega) (by omega) (by omega) hcm
  have s6 : ∀ W, (Instr.slice 22 (.slice (some ⟨g, o, none⟩) n c) (some (.int .i64 6)) (some (.int .i64 8)) none).run Try.prog W = .ok (.slice (some ⟨g, o + 6, none⟩) 2 (c - 6)) W := cut_lh g o n c 6 8 (by omega) (by omega) (by omega) hcm
  have s4 : ∀ W, (Instr.slice 22 (.slice (some ⟨g, o, none⟩) n c) (some (.int .i64 4)) (some (.int .i64 6)) none).run Try.prog W = .ok (.slice (some ⟨g, o + 4, none⟩) 2 (c - 4)) W := cut_lh g o n c 4 6 (by omega) (by omega) (by omega) hcm
  have s12 : ∀ W, (Instr.slice 22 (.slice (some ⟨g, o, none⟩) n c) (some (.int .i64 12)) (some (.int .i64 16)) none).run Try.prog W = .ok (.slice (some ⟨g, o + 12, none⟩) 4 (c - 12)) W := cut_lh g o n c 12 16 (by omega) (by omega) (by omega) hcm
  have s16 : ∀ W, (Instr.slice 22 (.slice (some ⟨g, o, none⟩) n c) (some (.int .i64 16)) (some (.int .i64 20)) none).run Try.prog W = .ok (.slice (some ⟨g, o + 16, none⟩) 4 (c - 16)) W := cut_lh g o n c 16 20 (by omega) (by omega) (by omega) hcm
  have s20 : ∀ W, (Instr.slice 22 (.slice (some ⟨g, o, none⟩) n c) none (some (.int .i64 20)) none).run Try.prog W = .ok (.slice (some ⟨g, o, none⟩) 20 c) W := cut_h g o n c 20 (by omega) hcm
  have n2 := get_eq g o n c 2 2 l hn (by omega) (by omega) hb
  have n6 := get_eq g o n c 6 2 l hn (by omega) (by omega) hb
  have n4 := get_eq g o n c 4 2 l hn (by omega) (by omega) hb
  have nS := fun (W : World) (h : Below w.heap.size w W) => rsum_eq g o c 20 (l.take 20) (by rw [List.length_take]; omega) (by omega) (show Byt W g o (l.take 20) by have := (hb.below h).sub 0 20; simpa using this)
  have n12 := fun (W : World) (h : Below w.heap.size w W) => wide4 g (o + 12) (c - 12) ((l.drop 12).take 4) (by rw [List.length_take, List.length_drop]; omega) ((hb.below h).sub 12 4)
  have n16 := fun (W : World) (h : Below w.heap.size w W) => wide4 g (o + 16) (c - 16) ((l.drop 16).take 4) (by rw [List.length_take, List.length_drop]; omega) ((hb.below h).sub 16 4)
  have c0 := by_cell hb hn 0 h0n
  rw [Nat.add_zero] at c0
  have c8 := by_cell hb hn 8 (by omega)
  have c9 := by_cell hb hn 9 (by omega)
  have x8 := byN_lt l 0
  have hP := byN_lt l 8
  have hQ := byN_lt l 9
  have hT := nb2_lt l 2
  have hS := nb2_lt l 6
  have hI := nb2_lt l 4
  have hsl := sumP_le (l.take 20)
  try simp only [view4] at *
  generalize byN l 0 = X at *
  generalize byN l 8 = P at *
  generalize byN l 9 = Q at *
  generalize nbN l 2 2 = T at *
  generalize nbN l 6 2 = S at *
  generalize nbN l 4 2 = I4 at *
  generalize sumP (l.take 20) = sm at *
  generalize adrH ((l.drop 12).take 4) = X0 at *
  generalize adrL ((l.drop 12).take 4) = X1 at *
  generalize adrH ((l.drop 16).take 4) = Y0 at *
  generalize adrL ((l.drop 16).take 4) = Y1 at *
  clear hb hn
  have Ti : (T : Int) < 65536 := by omega
  have Si : (S : Int) < 65536 := by omega
  have Ii : (I4 : Int) < 65536 := by omega
  have Xi : (X : Int) < 256 := by omega
  have Pi8 : (P : Int) < 256 := by omega
  have Qi8 : (Q : Int) < 256 := by omega
  have n2 := n2
  have wP : IntKind.i64.wrap (P : Int) = (P : Int) := by rw [IntKind.wrap_i64]; omega
  have wQ : IntKind.i64.wrap (Q : Int) = (Q : Int) := by rw [IntKind.wrap_i64]; omega
  have wI : IntKind.u32.wrap (I4 : Int) = (I4 : Int) := by rw [IntKind.wrap_u32]; omega
  have hb5 : ((X : Int) % 16 != 5) = false := by simp; omega
  have hT20 : decide ((T : Int) < 20) = false := by simp; omega
  have hT20n : decide (T < 20) = false := by simp; omega
  have hT20i : ¬ (T : Int) < 20 := by omega
  have hTn : decide ((n : Int) < (T : Int)) = true := by simp; omega
  have hTnn : decide (n < T) = true := by simp; omega
  have hTni : (n : Int) < (T : Int) := by omega
  simp only [vcells, zvw]
  go_enter Try.func49, Try.ntmps49
  go_wp2_with (with_reducible refine stop_op (o := ⟨some 8, _, _, _, _, _⟩) ?_)
  obtain ⟨w1, hw1⟩ : ∃ v, v = w.alloc (.cells #[.bool false, .int .i64 0, .int .i64 0, .int .i64 0, .int .i64 0, .int .u64 0, .int .u64 0, .int .u64 0, .int .u64 0, .bool false, .int .u32 0, .int .i64 0, .bool false] 43) := ⟨_, rfl⟩
  have hR : w1.heap[w.heap.size]? = some (.cells #[.bool false, .int .i64 0, .int .i64 0, .int .i64 0, .int .i64 0, .int .u64 0, .int .u64 0, .int .u64 0, .int .u64 0, .bool false, .int .u32 0, .int .i64 0, .bool false] 43 (0, 0)) := by rw [hw1]; exact al_neww rfl _
  have bw1 : Below w.heap.size w w1 := by rw [hw1]; exact Below.al (Below.refl _ _) _
  rw [← hw1]
  clear hw1
  obtain ⟨⟨r0, r1, r2, r3, r4, r5, r6, r7, r8, r9, r10, r11, r12⟩, q0, q1, q2, q3, q4, q5, q6, q7, q8, q9, q10, q11, q12⟩ := cells13 hR
  refine Lib.hid ?_
  have m2 := n2 _ bw1
  have m6 := n6 _ bw1
  have mS := nS _ bw1
  have c01 := keepc bw1 c0
  clear n2 n6 nS c0
  go_wp2_with (first | (go_at_call 44; (with_reducible refine m2.mono ?_); rintro e w' ⟨rfl, rfl⟩) | (go_at_call 44; (with_reducible refine m6.mono ?_); rintro e w' ⟨rfl, rfl⟩) | (go_at_call 16; (with_reducible refine mS.mono ?_); rintro e w' ⟨rfl, rfl⟩))
  refine bodyPost_ret_by (res_row Try.results49 _ _ w.heap.size 43 #[.bool false, .int .i64 0, .int .i64 0, .int .i64 0, .int .i64 0, .int .u64 0, .int .u64 0, .int .u64 0, .int .u64 0, .bool false, .int .u32 0, .int .i64 0, .bool false] _ rfl (heap_set13w hR (.bool false) (.int .i64 0) (.int .i64 0) (.int .i64 0) (.int .i64 0) (.int .u64 0) (.int .u64 0) (.int .u64 0) (.int .u64 0) (.bool false) (.int .u32 0) (.int .i64 0) (.bool false)) Try.underlying43 (by kernel_rfl)) rfl ⟨rfl, ?_⟩
  exact below_set13 bw1 (by omega) _ _ _ _ _ _ _ _ _ _ _ _ _

set_option maxHeartbeats 2000000 in
set_option maxRecDepth 100000 in
theorem r4_e (g o c n : Nat) (l : List UInt8) (hn : l.length = n) (hc : n ≤ c) (hcm : c ≤ 9223372036854775807) (h1 : 20 ≤ n) (h2 : byN l 0 % 16 = 5) (h3 : 20 ≤ nbN l 2 2) (h4 : nbN l 2 2 ≤ n) (h5 : sumP (l.take 20) ≠ 0) {w : World} (hb : Byt w g o l) :
    Calls Try.prog 49 #[.slice (some ⟨g, o, none⟩) n c] w fun e w' => e = .returned (.tuple #[.agg (vcells zvw), .int .i64 43]) ∧ Below w.heap.size w w' := by
  have hi : ¬ (n : Int) < 20 := by omega
  have hi2 : decide ((n : Int) < 20) = false := by simp; omega
  have hi3 : decide (n < 20) = false := by simp; omega
  have h0n : 0 < n := by omega
  have h0i : (0 : Int) < (n : Int) := by omega
  have s2 : ∀ W, (Instr.slice 22 (.slice (some ⟨g, o, none⟩) n c) (some (.int .i64 2)) (some (.int .i64 4)) none).run Try.prog W = .ok (.slice (some ⟨g, o + 2, none⟩) 2 (c - 2)) W := cut_lh g o n c 2 4 (by omega) (by omega) (by omega) hcm
  have s6 : ∀ W, (Instr.slice 22 (.slice (some ⟨g, o, none⟩) n c) (some (.int .i64 6)) (some (.int .i64 8)) none).run Try.prog W = .ok (.slice (some ⟨g, o + 6, none⟩) 2 (c - 6)) W := cut_lh g o n c 6 8 (by omega) (by omega) (by omega) hcm
  have s4 : ∀ W, (Instr.slice 22 (.slice (some ⟨g, o, none⟩) n c) (some (.int .i64 4)) (some (.int .i64 6)) none).run Try.prog W = .ok (.slice (some ⟨g, o + 4, none⟩) 2 (c - 4)) W := cut_lh g o n c 4 6 (by omega) (by omega) (by omega) hcm
  have s12 : ∀ W, (Instr.slice 22 (.slice (some ⟨g, o, none⟩) n c) (some (.int .i64 12)) (some (.int .i64 16)) none).run Try.prog W = .ok (.slice (some ⟨g, o + 12, none⟩) 4 (c - 12)) W := cut_lh g o n c 12 16 (by omega) (by omega) (by omega) hcm
  have s16 : ∀ W, (Instr.slice 22 (.slice (some ⟨g, o, none⟩) n c) (some (.int .i64 16)) (some (.int .i64 20)) none).run Try.prog W = .ok (.slice (some ⟨g, o + 16, none⟩) 4 (c - 16)) W := cut_lh g o n c 16 20 (by omega) (by omega) (by omega) hcm
  have s20 : ∀ W, (Instr.slice 22 (.slice (some ⟨g, o, none⟩) n c) none (some (.int .i64 20)) none).run Try.prog W = .ok (.slice (some ⟨g, o, none⟩) 20 c) W := cut_h g o n c 20 (by omega) hcm
  have n2 := get_eq g o n c 2 2 l hn (by omega) (by omega) hb
  have n6 := get_eq g o n c 6 2 l hn (by omega) (by omega) hb
  have n4 := get_eq g o n c 4 2 l hn (by omega) (by omega) hb
  have nS := fun (W : World) (h : Below w.heap.size w W) => rsum_eq g o c 20 (l.take 20) (by rw [List.length_take]; omega) (by omega) (show Byt W g o (l.take 20) by have := (hb.below h).sub 0 20; simpa using this)
  have n12 := fun (W : World) (h : Below w.heap.size w W) => wide4 g (o + 12) (c - 12) ((l.drop 12).take 4) (by rw [List.length_take, List.length_drop]; omega) ((hb.below h).sub 12 4)
  have n16 := fun (W : World) (h : Below w.heap.size w W) => wide4 g (o + 16) (c - 16) ((l.drop 16).take 4) (by rw [List.length_take, List.length_drop]; omega) ((hb.below h).sub 16 4)
  have c0 := by_cell hb hn 0 h0n
  rw [Nat.add_zero] at c0
  have c8 := by_cell hb hn 8 (by omega)
  have c9 := by_cell hb hn 9 (by omega)
  have x8 := byN_lt l 0
  have hP := byN_lt l 8
  have hQ := byN_lt l 9
  have hT := nb2_lt l 2
  have hS := nb2_lt l 6
  have hI := nb2_lt l 4
  have hsl := sumP_le (l.take 20)
  try simp only [view4] at *
  generalize byN l 0 = X at *
  generalize byN l 8 = P at *
  generalize byN l 9 = Q at *
  generalize nbN l 2 2 = T at *
  generalize nbN l 6 2 = S at *
  generalize nbN l 4 2 = I4 at *
  generalize sumP (l.take 20) = sm at *
  generalize adrH ((l.drop 12).take 4) = X0 at *
  generalize adrL ((l.drop 12).take 4) = X1 at *
  generalize adrH ((l.drop 16).take 4) = Y0 at *
  generalize adrL ((l.drop 16).take 4) = Y1 at *
  clear hb hn
  have Ti : (T : Int) < 65536 := by omega
  have Si : (S : Int) < 65536 := by omega
  have Ii : (I4 : Int) < 65536 := by omega
  have Xi : (X : Int) < 256 := by omega
  have Pi8 : (P : Int) < 256 := by omega
  have Qi8 : (Q : Int) < 256 := by omega
  have n2 := n2
  have wP : IntKind.i64.wrap (P : Int) = (P : Int) := by rw [IntKind.wrap_i64]; omega
  have wQ : IntKind.i64.wrap (Q : Int) = (Q : Int) := by rw [IntKind.wrap_i64]; omega
  have wI : IntKind.u32.wrap (I4 : Int) = (I4 : Int) := by rw [IntKind.wrap_u32]; omega
  have hb5 : ((X : Int) % 16 != 5) = false := by simp; omega
  have hT20 : decide ((T : Int) < 20) = false := by simp; omega
  have hT20n : decide (T < 20) = false := by simp; omega
  have hT20i : ¬ (T : Int) < 20 := by omega
  have hTn : decide ((n : Int) < (T : Int)) = false := by simp; omega
  have hTnn : decide (n < T) = false := by simp; omega
  have hTni : ¬ (n : Int) < (T : Int) := by omega
  have hs0 : ((sm : Int) != 0) = true := by simp; omega
  simp only [vcells, zvw]
  go_enter Try.func49, Try.ntmps49
  go_wp2_with (with_reducible refine stop_op (o := ⟨some 8, _, _, _, _, _⟩) ?_)
  obtain ⟨w1, hw1⟩ : ∃ v, v = w.alloc (.cells #[.bool false, .int .i64 0, .int .i64 0, .int .i64 0, .int .i64 0, .int .u64 0, .int .u64 0, .int .u64 0, .int .u64 0, .bool false, .int .u32 0, .int .i64 0, .bool false] 43) := ⟨_, rfl⟩
  have hR : w1.heap[w.heap.size]? = some (.cells #[.bool false, .int .i64 0, .int .i64 0, .int .i64 0, .int .i64 0, .int .u64 0, .int .u64 0, .int .u64 0, .int .u64 0, .bool false, .int .u32 0, .int .i64 0, .bool false] 43 (0, 0)) := by rw [hw1]; exact al_neww rfl _
  have bw1 : Below w.heap.size w w1 := by rw [hw1]; exact Below.al (Below.refl _ _) _
  rw [← hw1]
  clear hw1
  obtain ⟨⟨r0, r1, r2, r3, r4, r5, r6, r7, r8, r9, r10, r11, r12⟩, q0, q1, q2, q3, q4, q5, q6, q7, q8, q9, q10, q11, q12⟩ := cells13 hR
  refine Lib.hid ?_
  have m2 := n2 _ bw1
  have m6 := n6 _ bw1
  have mS := nS _ bw1
  have c01 := keepc bw1 c0
  clear n2 n6 nS c0
  go_wp2_with (first | (go_at_call 44; (with_reducible refine m2.mono ?_); rintro e w' ⟨rfl, rfl⟩) | (go_at_call 44; (with_reducible refine m6.mono ?_); rintro e w' ⟨rfl, rfl⟩) | (go_at_call 16; (with_reducible refine mS.mono ?_); rintro e w' ⟨rfl, rfl⟩))
  refine bodyPost_ret_by (res_row Try.results49 _ _ w.heap.size 43 #[.bool false, .int .i64 0, .int .i64 0, .int .i64 0, .int .i64 0, .int .u64 0, .int .u64 0, .int .u64 0, .int .u64 0, .bool false, .int .u32 0, .int .i64 0, .bool false] _ rfl (heap_set13w hR (.bool false) (.int .i64 0) (.int .i64 0) (.int .i64 0) (.int .i64 0) (.int .u64 0) (.int .u64 0) (.int .u64 0) (.int .u64 0) (.bool false) (.int .u32 0) (.int .i64 0) (.bool false)) Try.underlying43 (by kernel_rfl)) rfl ⟨rfl, ?_⟩
  exact below_set13 bw1 (by omega) _ _ _ _ _ _ _ _ _ _ _ _ _

set_option maxHeartbeats 2000000 in
set_option maxRecDepth 100000 in
theorem r4_f (g o c n : Nat) (l : List UInt8) (hn : l.length = n) (hc : n ≤ c) (hcm : c ≤ 9223372036854775807) (h1 : 20 ≤ n) (h2 : byN l 0 % 16 = 5) (h3 : 20 ≤ nbN l 2 2) (h4 : nbN l 2 2 ≤ n) (h5 : sumP (l.take 20) = 0) (h6 : 32768 ≤ nbN l 6 2) {w : World} (hb : Byt w g o l) :
    Calls Try.prog 49 #[.slice (some ⟨g, o, none⟩) n c] w fun e w' => e = .returned (.tuple #[.agg (vcells zvw), .int .i64 42]) ∧ Below w.heap.size w w' := by
  have hi : ¬ (n : Int) < 20 := by omega
  have hi2 : decide ((n : Int) < 20) = false := by simp; omega
  have hi3 : decide (n < 20) = false := by simp; omega
  have h0n : 0 < n := by omega
  have h0i : (0 : Int) < (n : Int) := by omega
  have s2 : ∀ W, (Instr.slice 22 (.slice (some ⟨g, o, none⟩) n c) (some (.int .i64 2)) (some (.int .i64 4)) none).run Try.prog W = .ok (.slice (some ⟨g, o + 2, none⟩) 2 (c - 2)) W := cut_lh g o n c 2 4 (by omega) (by omega) (by omega) hcm
  have s6 : ∀ W, (Instr.slice 22 (.slice (some ⟨g, o, none⟩) n c) (some (.int .i64 6)) (some (.int .i64 8)) none).run Try.prog W = .ok (.slice (some ⟨g, o + 6, none⟩) 2 (c - 6)) W := cut_lh g o n c 6 8 (by omega) (by omega) (by omega) hcm
  have s4 : ∀ W, (Instr.slice 22 (.slice (some ⟨g, o, none⟩) n c) (some (.int .i64 4)) (some (.int .i64 6)) none).run Try.prog W = .ok (.slice (some ⟨g, o + 4, none⟩) 2 (c - 4)) W := cut_lh g o n c 4 6 (by omega) (by omega) (by omega) hcm
  have s12 : ∀ W, (Instr.slice 22 (.slice (some ⟨g, o, none⟩) n c) (some (.int .i64 12)) (some (.int .i64 16)) none).run Try.prog W = .ok (.slice (some ⟨g, o + 12, none⟩) 4 (c - 12)) W := cut_lh g o n c 12 16 (by omega) (by omega) (by omega) hcm
  have s16 : ∀ W, (Instr.slice 22 (.slice (some ⟨g, o, none⟩) n c) (some (.int .i64 16)) (some (.int .i64 20)) none).run Try.prog W = .ok (.slice (some ⟨g, o + 16, none⟩) 4 (c - 16)) W := cut_lh g o n c 16 20 (by omega) (by omega) (by omega) hcm
  have s20 : ∀ W, (Instr.slice 22 (.slice (some ⟨g, o, none⟩) n c) none (some (.int .i64 20)) none).run Try.prog W = .ok (.slice (some ⟨g, o, none⟩) 20 c) W := cut_h g o n c 20 (by omega) hcm
  have n2 := get_eq g o n c 2 2 l hn (by omega) (by omega) hb
  have n6 := get_eq g o n c 6 2 l hn (by omega) (by omega) hb
  have n4 := get_eq g o n c 4 2 l hn (by omega) (by omega) hb
  have nS := fun (W : World) (h : Below w.heap.size w W) => rsum_eq g o c 20 (l.take 20) (by rw [List.length_take]; omega) (by omega) (show Byt W g o (l.take 20) by have := (hb.below h).sub 0 20; simpa using this)
  have n12 := fun (W : World) (h : Below w.heap.size w W) => wide4 g (o + 12) (c - 12) ((l.drop 12).take 4) (by rw [List.length_take, List.length_drop]; omega) ((hb.below h).sub 12 4)
  have n16 := fun (W : World) (h : Below w.heap.size w W) => wide4 g (o + 16) (c - 16) ((l.drop 16).take 4) (by rw [List.length_take, List.length_drop]; omega) ((hb.below h).sub 16 4)
  have c0 := by_cell hb hn 0 h0n
  rw [Nat.add_zero] at c0
  have c8 := by_cell hb hn 8 (by omega)
  have c9 := by_cell hb hn 9 (by omega)
  have x8 := byN_lt l 0
  have hP := byN_lt l 8
  have hQ := byN_lt l 9
  have hT := nb2_lt l 2
  have hS := nb2_lt l 6
  have hI := nb2_lt l 4
  have hsl := sumP_le (l.take 20)
  try simp only [view4] at *
  generalize byN l 0 = X at *
  generalize byN l 8 = P at *
  generalize byN l 9 = Q at *
  generalize nbN l 2 2 = T at *
  generalize nbN l 6 2 = S at *
  generalize nbN l 4 2 = I4 at *
  generalize sumP (l.take 20) = sm at *
  generalize adrH ((l.drop 12).take 4) = X0 at *
  generalize adrL ((l.drop 12).take 4) = X1 at *
  generalize adrH ((l.drop 16).take 4) = Y0 at *
  generalize adrL ((l.drop 16).take 4) = Y1 at *
  clear hb hn
  have Ti : (T : Int) < 65536 := by omega
  have Si : (S : Int) < 65536 := by omega
  have Ii : (I4 : Int) < 65536 := by omega
  have Xi : (X : Int) < 256 := by omega
  have Pi8 : (P : Int) < 256 := by omega
  have Qi8 : (Q : Int) < 256 := by omega
  have n2 := n2
  have wP : IntKind.i64.wrap (P : Int) = (P : Int) := by rw [IntKind.wrap_i64]; omega
  have wQ : IntKind.i64.wrap (Q : Int) = (Q : Int) := by rw [IntKind.wrap_i64]; omega
  have wI : IntKind.u32.wrap (I4 : Int) = (I4 : Int) := by rw [IntKind.wrap_u32]; omega
  have hb5 : ((X : Int) % 16 != 5) = false := by simp; omega
  have hT20 : decide ((T : Int) < 20) = false := by simp; omega
  have hT20n : decide (T < 20) = false := by simp; omega
  have hT20i : ¬ (T : Int) < 20 := by omega
  have hTn : decide ((n : Int) < (T : Int)) = false := by simp; omega
  have hTnn : decide (n < T) = false := by simp; omega
  have hTni : ¬ (n : Int) < (T : Int) := by omega
  have hs0 : ((sm : Int) != 0) = false := by simp; omega
  have hp0 : decide ((32768 : Int) ≤ (S : Int)) = true := by simp; omega
  have hp1 : (32768 : Int) ≤ (S : Int) := by omega
  simp only [vcells, zvw]
  go_enter Try.func49, Try.ntmps49
  go_wp2_with (with_reducible refine stop_op (o := ⟨some 8, _, _, _, _, _⟩) ?_)
  obtain ⟨w1, hw1⟩ : ∃ v, v = w.alloc (.cells #[.bool false, .int .i64 0, .int .i64 0, .int .i64 0, .int .i64 0, .int .u64 0, .int .u64 0, .int .u64 0, .int .u64 0, .bool false, .int .u32 0, .int .i64 0, .bool false] 43) := ⟨_, rfl⟩
  have hR : w1.heap[w.heap.size]? = some (.cells #[.bool false, .int .i64 0, .int .i64 0, .int .i64 0, .int .i64 0, .int .u64 0, .int .u64 0, .int .u64 0, .int .u64 0, .bool false, .int .u32 0, .int .i64 0, .bool false] 43 (0, 0)) := by rw [hw1]; exact al_neww rfl _
  have bw1 : Below w.heap.size w w1 := by rw [hw1]; exact Below.al (Below.refl _ _) _
  rw [← hw1]
  clear hw1
  obtain ⟨⟨r0, r1, r2, r3, r4, r5, r6, r7, r8, r9, r10, r11, r12⟩, q0, q1, q2, q3, q4, q5, q6, q7, q8, q9, q10, q11, q12⟩ := cells13 hR
  refine Lib.hid ?_
  have m2 := n2 _ bw1
  have m6 := n6 _ bw1
  have mS := nS _ bw1
  have c01 := keepc bw1 c0
  clear n2 n6 nS c0
  go_wp2_with (first | (go_at_call 44; (with_reducible refine m2.mono ?_); rintro e w' ⟨rfl, rfl⟩) | (go_at_call 44; (with_reducible refine m6.mono ?_); rintro e w' ⟨rfl, rfl⟩) | (go_at_call 16; (with_reducible refine mS.mono ?_); rintro e w' ⟨rfl, rfl⟩))
  refine bodyPost_ret_by (res_row Try.results49 _ _ w.heap.size 43 #[.bool false, .int .i64 0, .int .i64 0, .int .i64 0, .int .i64 0, .int .u64 0, .int .u64 0, .int .u64 0, .int .u64 0, .bool false, .int .u32 0, .int .i64 0, .bool false] _ rfl (heap_set13w hR (.bool false) (.int .i64 0) (.int .i64 0) (.int .i64 0) (.int .i64 0) (.int .u64 0) (.int .u64 0) (.int .u64 0) (.int .u64 0) (.bool false) (.int .u32 0) (.int .i64 0) (.bool false)) Try.underlying43 (by kernel_rfl)) rfl ⟨rfl, ?_⟩
  exact below_set13 bw1 (by omega) _ _ _ _ _ _ _ _ _ _ _ _ _

set_option maxHeartbeats 2000000 in
set_option maxRecDepth 100000 in
theorem r4_g1 (g o c n : Nat) (l : List UInt8) (hn : l.length = n) (hc : n ≤ c) (hcm : c ≤ 9223372036854775807) (h1 : 20 ≤ n) (h2 : byN l 0 % 16 = 5) (h3 : 20 ≤ nbN l 2 2) (h4 : nbN l 2 2 ≤ n) (h5 : sumP (l.take 20) = 0) (h6 : nbN l 6 2 < 32768) (h7 : nbN l 6 2 / 8192 % 2 = 1) {w : World} (hb : Byt w g o l) :
    Calls Try.prog 49 #[.slice (some ⟨g, o, none⟩) n c] w fun e w' => e = .returned (.tuple #[.agg (vcells (partP { view4 l (nbN l 2 2) with id := nbN l 4 2 } ((nbN l 6 2 % 8192 * 8 : Nat) : Int) ((nbN l 6 2 / 8192 % 2 : Nat) : Int))), .int .i64 0]) ∧ Below w.heap.size w w' := by
  have hi : ¬ (n : Int) < 20 := by omega
  have hi2 : decide ((n : Int) < 20) = false := by simp; omega
  have hi3 : decide (n < 20) = false := by simp; omega
  have h0n : 0 < n := by omega
  have h0i : (0 : Int) < (n : Int) := by omega
  have s2 : ∀ W, (Instr.slice 22 (.slice (some ⟨g, o, none⟩) n c) (some (.int .i64 2)) (some (.int .i64 4)) none).run Try.prog W = .ok (.slice (some ⟨g, o + 2, none⟩) 2 (c - 2)) W := cut_lh g o n c 2 4 (by omega) (by omega) (by omega) hcm
  have s6 : ∀ W, (Instr.slice 22 (.slice (some ⟨g, o, none⟩) n c) (some (.int .i64 6)) (some (.int .i64 8)) none).run Try.prog W = .ok (.slice (some ⟨g, o + 6, none⟩) 2 (c - 6)) W := cut_lh g o n c 6 8 (by omega) (by omega) (by omega) hcm
  have s4 : ∀ W, (Instr.slice 22 (.slice (some ⟨g, o, none⟩) n c) (some (.int .i64 4)) (some (.int .i64 6)) none).run Try.prog W = .ok (.slice (some ⟨g, o + 4, none⟩) 2 (c - 4)) W := cut_lh g o n c 4 6 (by omega) (by omega) (by omega) hcm
  have s12 : ∀ W, (Instr.slice 22 (.slice (some ⟨g, o, none⟩) n c) (some (.int .i64 12)) (some (.int .i64 16)) none).run Try.prog W = .ok (.slice (some ⟨g, o + 12, none⟩) 4 (c - 12)) W := cut_lh g o n c 12 16 (by omega) (by omega) (by omega) hcm
  have s16 : ∀ W, (Instr.slice 22 (.slice (some ⟨g, o, none⟩) n c) (some (.int .i64 16)) (some (.int .i64 20)) none).run Try.prog W = .ok (.slice (some ⟨g, o + 16, none⟩) 4 (c - 16)) W := cut_lh g o n c 16 20 (by omega) (by omega) (by omega) hcm
  have s20 : ∀ W, (Instr.slice 22 (.slice (some ⟨g, o, none⟩) n c) none (some (.int .i64 20)) none).run Try.prog W = .ok (.slice (some ⟨g, o, none⟩) 20 c) W := cut_h g o n c 20 (by omega) hcm
  have n2 := get_eq g o n c 2 2 l hn (by omega) (by omega) hb
  have n6 := get_eq g o n c 6 2 l hn (by omega) (by omega) hb
  have n4 := get_eq g o n c 4 2 l hn (by omega) (by omega) hb
  have nS := fun (W : World) (h : Below w.heap.size w W) => rsum_eq g o c 20 (l.take 20) (by rw [List.length_take]; omega) (by omega) (show Byt W g o (l.take 20) by have := (hb.below h).sub 0 20; simpa using this)
  have n12 := fun (W : World) (h : Below w.heap.size w W) => wide4 g (o + 12) (c - 12) ((l.drop 12).take 4) (by rw [List.length_take, List.length_drop]; omega) ((hb.below h).sub 12 4)
  have n16 := fun (W : World) (h : Below w.heap.size w W) => wide4 g (o + 16) (c - 16) ((l.drop 16).take 4) (by rw [List.length_take, List.length_drop]; omega) ((hb.below h).sub 16 4)
  have c0 := by_cell hb hn 0 h0n
  rw [Nat.add_zero] at c0
  have c8 := by_cell hb hn 8 (by omega)
  have c9 := by_cell hb hn 9 (by omega)
  have x8 := byN_lt l 0
  have hP := byN_lt l 8
  have hQ := byN_lt l 9
  have hT := nb2_lt l 2
  have hS := nb2_lt l 6
  have hI := nb2_lt l 4
  have hsl := sumP_le (l.take 20)
  try simp only [view4] at *
  generalize byN l 0 = X at *
  generalize byN l 8 = P at *
  generalize byN l 9 = Q at *
  generalize nbN l 2 2 = T at *
  generalize nbN l 6 2 = S at *
  generalize nbN l 4 2 = I4 at *
  generalize sumP (l.take 20) = sm at *
  generalize adrH ((l.drop 12).take 4) = X0 at *
  generalize adrL ((l.drop 12).take 4) = X1 at *
  generalize adrH ((l.drop 16).take 4) = Y0 at *
  generalize adrL ((l.drop 16).take 4) = Y1 at *
  clear hb hn
  have Ti : (T : Int) < 65536 := by omega
  have Si : (S : Int) < 65536 := by omega
  have Ii : (I4 : Int) < 65536 := by omega
  have Xi : (X : Int) < 256 := by omega
  have Pi8 : (P : Int) < 256 := by omega
  have Qi8 : (Q : Int) < 256 := by omega
  have n2 := n2
  have wP : IntKind.i64.wrap (P : Int) = (P : Int) := by rw [IntKind.wrap_i64]; omega
  have wQ : IntKind.i64.wrap (Q : Int) = (Q : Int) := by rw [IntKind.wrap_i64]; omega
  have wI : IntKind.u32.wrap (I4 : Int) = (I4 : Int) := by rw [IntKind.wrap_u32]; omega
  have hb5 : ((X : Int) % 16 != 5) = false := by simp; omega
  have hT20 : decide ((T : Int) < 20) = false := by simp; omega
  have hT20n : decide (T < 20) = false := by simp; omega
  have hT20i : ¬ (T : Int) < 20 := by omega
  have hTn : decide ((n : Int) < (T : Int)) = false := by simp; omega
  have hTnn : decide (n < T) = false := by simp; omega
  have hTni : ¬ (n : Int) < (T : Int) := by omega
  have hs0 : ((sm : Int) != 0) = false := by simp; omega
  have hp0 : decide ((32768 : Int) ≤ (S : Int)) = false := by simp; omega
  have hp1 : ¬ (32768 : Int) ≤ (S : Int) := by omega
  obtain ⟨a, ha⟩ : ∃ a, a = S % 8192 * 8 := ⟨_, rfl⟩
  have eo : (S : Int) % 8192 * 8 = (a : Int) := by omega
  have ho : a < 65536 := by omega
  have hoi : (a : Int) < 65536 := by omega
  rw [← ha]
  simp only [vcells, partP]
  have d1 : decide (((S / 8192 % 2 : Nat) : Int) = 1) = true := by simp; omega
  rw [d1]
  simp only [Bool.true_or]
  have em : ((S : Int) / 8192 % 2 == 1) = true := by simp; omega
  clear ha h7 d1
  go_enter Try.func49, Try.ntmps49
  go_wp2_with (with_reducible refine stop_op (o := ⟨some 8, _, _, _, _, _⟩) ?_)
  obtain ⟨w1, hw1⟩ : ∃ v, v = w.alloc (.cells #[.bool false, .int .i64 0, .int .i64 0, .int .i64 0, .int .i64 0, .int .u64 0, .int .u64 0, .int .u64 0, .int .u64 0, .bool false, .int .u32 0, .int .i64 0, .bool false] 43) := ⟨_, rfl⟩
  have hR : w1.heap[w.heap.size]? = some (.cells #[.bool false, .int .i64 0, .int .i64 0, .int .i64 0, .int .i64 0, .int .u64 0, .int .u64 0, .int .u64 0, .int .u64 0, .bool false, .int .u32 0, .int .i64 0, .bool false] 43 (0, 0)) := by rw [hw1]; exact al_neww rfl _
  have bw1 : Below w.heap.size w w1 := by rw [hw1]; exact Below.al (Below.refl _ _) _
  rw [← hw1]
  clear hw1
  obtain ⟨⟨r0, r1, r2, r3, r4, r5, r6, r7, r8, r9, r10, r11, r12⟩, q0, q1, q2, q3, q4, q5, q6, q7, q8, q9, q10, q11, q12⟩ := cells13 hR
  refine Lib.hid ?_
  have m2 := n2 _ bw1
  have m6 := n6 _ bw1
  have mS := nS _ bw1
  have c01 := keepc bw1 c0
  clear n2 n6 nS c0
  go_wp2_with (first | (go_at_call 44; (with_reducible refine m2.mono ?_); rintro e w' ⟨rfl, rfl⟩) | (go_at_call 44; (with_reducible refine m6.mono ?_); rintro e w' ⟨rfl, rfl⟩) | (go_at_call 16; (with_reducible refine mS.mono ?_); rintro e w' ⟨rfl, rfl⟩))
  clear m2 m6 mS c01 r0 r1 r2 r3 r4 r5 r6 r7 r8 r9 r10 r11 r12 q0 q1 q2 q3 q4 q5 q6 q7 q8 q9 q10 q11 q12
  have b8 := keepc bw1 c8
  have b9 := keepc bw1 c9
  have hC1 : ∀ w', Below w1.heap.size w1 w' → w'.cell? ⟨g, o + 8, none⟩ = some (.int .u8 (P : Int)) ∧ w'.cell? ⟨g, o + 9, none⟩ = some (.int .u8 (Q : Int)) := fun w' h => ⟨keepc h b8, keepc h b9⟩
  have p4 := fun (W : World) (h : Below w1.heap.size w1 W) => n4 W (bw1.trans (h.mono bw1.size))
  have p12 := fun (W : World) (h : Below w1.heap.size w1 W) => n12 W (bw1.trans (h.mono bw1.size))
  have p16 := fun (W : World) (h : Below w1.heap.size w1 W) => n16 W (bw1.trans (h.mono bw1.size))
  clear n4 n12 n16 b8 b9 c8 c9
  have j8 : (8 : Int) < (n : Int) := by omega
  have j9 : (9 : Int) < (n : Int) := by omega
  have k8 : 8 < n := by omega
  have k9 : 9 < n := by omega
  have j8b : decide ((8 : Int) < (n : Int)) = true := by simp; omega
  have j9b : decide ((9 : Int) < (n : Int)) = true := by simp; omega
  go_cut [6] from 40 (fun v6 wr => ∃ B, v6 = .pointer (some ⟨B, 0, none⟩) ∧ w1.heap.size ≤ B ∧ Below w1.heap.size w1 wr ∧ wr.heap[B]? = some (.cells #[.bool false, .int .i64 20, .int .i64 (T : Int), .int .i64 (P : Int), .int .i64 (Q : Int), .int .u64 (X0 : Int), .int .u64 (X1 : Int), .int .u64 (Y0 : Int), .int .u64 (Y1 : Int), .bool false, .int .u32 (I4 : Int), .int .i64 0, .bool false] 43 (0, 0)))
  case first =>
    have hz : ∀ w, (zeroValue 43).run Try.prog w = .ok (.agg #[.bool false, .int .i64 0, .int .i64 0, .int .i64 0, .int .i64 0, .int .u64 0, .int .u64 0, .int .u64 0, .int .u64 0, .bool false, .int .u32 0, .int .i64 0, .bool false]) w := fun w => by kernel_rfl
    refine wp_region_held (S := (fun w' => Below w1.heap.size w1 w' ∧ w'.cell? ⟨g, o + 8, none⟩ = some (.int .u8 (P : Int)) ∧ w'.cell? ⟨g, o + 9, none⟩ = some (.int .u8 (Q : Int)))) (by kernel_rfl) ?_
    change wpAnyH _ _ _ _ _ _ _ _ (World.drew _)
    have hS0 := keep0 hC1
    generalize w1.drew = wd at hS0 ⊢
    refine wpAnyH_take (i := 0) (v := ?_) rfl (by kernel_rfl) (by kernel_rfl) (by kernel_rfl) (fun _ _ _ h => h) (Or.inl ⟨by rfl, ?_⟩) hS0 ?_
    rotate_left 1
    · intro W hW
      obtain ⟨hW0, hW1, hW2⟩ := hW
      go_simp
      with_reducible rfl
    refine wpAnyH_take (i := 1) (v := ?_) rfl (by kernel_rfl) (by kernel_rfl) (by kernel_rfl) (fun _ _ _ h => h) (Or.inl ⟨by rfl, ?_⟩) hS0 ?_
    rotate_left 1
    · intro W hW
      obtain ⟨hW0, hW1, hW2⟩ := hW
      go_simp
      with_reducible rfl
    refine wpAnyH_take (i := 2) (v := ?_) rfl (by kernel_rfl) (by kernel_rfl) (by kernel_rfl) (fun _ _ _ h => h) (Or.inl ⟨by rfl, ?_⟩) hS0 ?_
    rotate_left 1
    · intro W hW
      obtain ⟨hW0, hW1, hW2⟩ := hW
      go_simp
      with_reducible rfl
    refine wpAnyH_take (i := 3) (v := ?_) rfl (by kernel_rfl) (by kernel_rfl) (by kernel_rfl) (fun _ _ _ h => h) (Or.inl ⟨by rfl, ?_⟩) hS0 ?_
    rotate_left 1
    · intro W hW
      obtain ⟨hW0, hW1, hW2⟩ := hW
      go_simp
      with_reducible rfl
    refine wpAnyH_take (i := 4) (v := ?_) rfl (by kernel_rfl) (by kernel_rfl) (by kernel_rfl) (fun _ _ _ h => h) (Or.inl ⟨by rfl, ?_⟩) hS0 ?_
    rotate_left 1
    · intro W hW
      obtain ⟨hW0, hW1, hW2⟩ := hW
      go_simp
      with_reducible rfl
    refine wpAnyH_take (i := 5) (v := ?_) rfl (by kernel_rfl) (by kernel_rfl) (by kernel_rfl) (fun _ _ _ h => h) (Or.inl ⟨by rfl, ?_⟩) hS0 ?_
    rotate_left 1
    · intro W hW
      obtain ⟨hW0, hW1, hW2⟩ := hW
      go_simp
      with_reducible rfl
    refine wpAnyH_take (i := 6) (v := ?_) rfl (by kernel_rfl) (by kernel_rfl) (by kernel_rfl) (fun _ _ _ h => h) (Or.inl ⟨by rfl, ?_⟩) hS0 ?_
    rotate_left 1
    · intro W hW
      obtain ⟨hW0, hW1, hW2⟩ := hW
      go_simp
      with_reducible rfl
    refine wpAnyH_take (i := 7) (v := ?_) rfl (by kernel_rfl) (by kernel_rfl) (by kernel_rfl) (fun _ _ _ h => h) (Or.inl ⟨by rfl, ?_⟩) hS0 ?_
    rotate_left 1
    · intro W hW
      obtain ⟨hW0, hW1, hW2⟩ := hW
      go_simp
      with_reducible rfl
    refine wpAnyH_take (i := 8) (v := ?_) rfl (by kernel_rfl) (by kernel_rfl) (by kernel_rfl) (fun _ _ _ h => h) (Or.inl ⟨by rfl, ?_⟩) hS0 ?_
    rotate_left 1
    · intro W hW
      obtain ⟨hW0, hW1, hW2⟩ := hW
      go_simp
      with_reducible rfl
    refine wpAnyH_take (i := 9) (v := ?_) rfl (by kernel_rfl) (by kernel_rfl) (by kernel_rfl) (fun _ _ _ h => h) (Or.inl ⟨by rfl, ?_⟩) hS0 ?_
    rotate_left 1
    · intro W hW
      obtain ⟨hW0, hW1, hW2⟩ := hW
      go_simp
      with_reducible rfl
    refine wpAnyH_take (i := 10) (v := ?_) rfl (by kernel_rfl) (by kernel_rfl) (by kernel_rfl) (fun _ _ _ h => h) (Or.inl ⟨by rfl, ?_⟩) hS0 ?_
    rotate_left 1
    · intro W hW
      obtain ⟨hW0, hW1, hW2⟩ := hW
      go_simp
      with_reducible rfl
    refine wpAnyH_take (i := 13) (v := ?_) rfl (by kernel_rfl) (by kernel_rfl) (by kernel_rfl) (fun _ _ _ h => h) (Or.inl ⟨by rfl, ?_⟩) hS0 ?_
    rotate_left 1
    · intro W hW
      obtain ⟨hW0, hW1, hW2⟩ := hW
      go_simp
      with_reducible rfl
    refine wpAnyH_take (i := 14) (v := ?_) rfl (by kernel_rfl) (by kernel_rfl) (by kernel_rfl) (fun _ _ _ h => h) (Or.inl ⟨by rfl, ?_⟩) hS0 ?_
    rotate_left 1
    · intro W hW
      obtain ⟨hW0, hW1, hW2⟩ := hW
      go_simp
      with_reducible rfl
    refine wpAnyH_take (i := 16) (v := ?_) rfl (by kernel_rfl) (by kernel_rfl) (by kernel_rfl) (fun _ _ _ h => h) (Or.inl ⟨by rfl, ?_⟩) hS0 ?_
    rotate_left 1
    · intro W hW
      obtain ⟨hW0, hW1, hW2⟩ := hW
      go_simp
      with_reducible rfl
    refine wpAnyH_take (i := 17) (v := ?_) rfl (by kernel_rfl) (by kernel_rfl) (by kernel_rfl) (fun _ _ _ h => h) (Or.inl ⟨by rfl, ?_⟩) hS0 ?_
    rotate_left 1
    · intro W hW
      obtain ⟨hW0, hW1, hW2⟩ := hW
      go_simp
      with_reducible rfl
    refine wpAnyH_ready (rs := [11, 20]) (by kernel_rfl) (by simp) ?_
    refine AllReadyH.cons rfl (fun K hK => ?_) (AllReadyH.cons rfl (fun K hK => ?_) AllReadyH.nil)
    · go_simp
      go_at_call 44
      refine (p4 _ hS0.1).mono ?_
      rintro e w20 ⟨rfl, rfl⟩
      refine hK.out _ _ hS0 (fun _ => ?_)
      clear hK K
      refine wpAnyH_take (i := 12) (v := ?_) rfl (by kernel_rfl) (by kernel_rfl) (by kernel_rfl) (fun _ _ _ h => h) (Or.inl ⟨by rfl, ?_⟩) hS0 ?_
      rotate_left 1
      · intro W hW
        obtain ⟨hW0, hW1, hW2⟩ := hW
        go_simp
        with_reducible rfl
      refine wpAnyH_ready (rs := [15, 20]) (by kernel_rfl) (by simp) ?_
      refine AllReadyH.cons rfl (fun K hK => ?_) (AllReadyH.cons rfl (fun K hK => ?_) AllReadyH.nil)
      · go_simp
        go_at_call 76
        refine (p12 _ hS0.1).mono ?_
        rintro e w21 ⟨rfl, hb21⟩
        have hS21 := keepB hC1 hb21 hS0
        refine hK.out _ _ hS21 (fun _ => ?_)
        clear hK K
        refine wpAnyH_ready (rs := [18, 20]) (by kernel_rfl) (by simp) ?_
        refine AllReadyH.cons rfl (fun K hK => ?_) (AllReadyH.cons rfl (fun K hK => ?_) AllReadyH.nil)
        · go_simp
          go_at_call 76
          refine (p16 _ hS21.1).mono ?_
          rintro e w22 ⟨rfl, hb22⟩
          have hS22 := keepB hC1 hb22 hS21
          refine hK.out _ _ hS22 (fun _ => ?_)
          clear hK K
          refine wpAnyH_take (i := 19) (v := ?_) rfl (by kernel_rfl) (by kernel_rfl) (by kernel_rfl) (fun _ _ _ h => h) (Or.inl ⟨by rfl, ?_⟩) hS22 ?_
          rotate_left 1
          · intro W hW
            obtain ⟨hW0, hW1, hW2⟩ := hW
            go_simp
            with_reducible rfl
          refine wpAnyH_ready (rs := [20]) (by kernel_rfl) (by simp) ?_
          refine AllReadyH.cons rfl (fun K hK => ?_) AllReadyH.nil
          refine step_alloc rfl 43 rfl #[.bool false, .int .i64 0, .int .i64 0, .int .i64 0, .int .i64 0, .int .u64 0, .int .u64 0, .int .u64 0, .int .u64 0, .bool false, .int .u32 0, .int .i64 0, .bool false] hz (fun w23 B hV hb23 hg23 => ?_)
          have hS23 := keepB hC1 hb23 hS22
          have hBs : w1.heap.size ≤ B := Nat.le_trans hS22.1.size hg23
          refine hK.out _ _ hS23 (fun _ => ?_)
          clear hK K
          refine wpAnyH_ready (rs := [21]) (by kernel_rfl) (by simp) ?_
          refine AllReadyH.cons rfl (fun K hK => ?_) AllReadyH.nil
          refine step_store_row rfl 43 (.tmp 6) (.tmp 59) rfl B #[.bool false, .int .i64 20, .int .i64 (T : Int), .int .i64 (P : Int), .int .i64 (Q : Int), .int .u64 (X0 : Int), .int .u64 (X1 : Int), .int .u64 (Y0 : Int), .int .u64 (Y1 : Int), .bool false, .int .u32 (I4 : Int), .int .i64 0, .bool false] rfl rfl 43 #[.bool false, .int .i64 0, .int .i64 0, .int .i64 0, .int .i64 0, .int .u64 0, .int .u64 0, .int .u64 0, .int .u64 0, .bool false, .int .u32 0, .int .i64 0, .bool false] hV (by kernel_rfl) rfl (by kernel_rfl) ?_
          refine hK.out _ _ (keepS hC1 (Below.setRow hS23.1 hBs _)) (fun _ => ?_)
          clear hK K
          refine wpAnyH_done (by kernel_rfl) ?_ _
          go_wp2_with fail
          go_meet
          exact ⟨B, rfl, hBs, Below.setRow hS23.1 hBs _, blk_setRow hV _⟩
        · refine step_alloc rfl 43 rfl #[.bool false, .int .i64 0, .int .i64 0, .int .i64 0, .int .i64 0, .int .u64 0, .int .u64 0, .int .u64 0, .int .u64 0, .bool false, .int .u32 0, .int .i64 0, .bool false] hz (fun w22 B hV hb22 hg22 => ?_)
          have hS22 := keepB hC1 hb22 hS21
          have hBs : w1.heap.size ≤ B := Nat.le_trans hS21.1.size hg22
          refine hK.out _ _ hS22 (fun _ => ?_)
          clear hK K
          refine wpAnyH_ready (rs := [18]) (by kernel_rfl) (by simp) ?_
          refine AllReadyH.cons rfl (fun K hK => ?_) AllReadyH.nil
          go_simp
          go_at_call 76
          refine (p16 _ hS22.1).mono ?_
          rintro e w23 ⟨rfl, hb23⟩
          have hS23 := keepB hC1 hb23 hS22
          have hV := hV_keep hb23 hV
          refine hK.out _ _ hS23 (fun _ => ?_)
          clear hK K
          refine wpAnyH_take (i := 19) (v := ?_) rfl (by kernel_rfl) (by kernel_rfl) (by kernel_rfl) (fun _ _ _ h => h) (Or.inl ⟨by rfl, ?_⟩) hS23 ?_
          rotate_left 1
          · intro W hW
            obtain ⟨hW0, hW1, hW2⟩ := hW
            go_simp
            with_reducible rfl
          refine wpAnyH_ready (rs := [21]) (by kernel_rfl) (by simp) ?_
          refine AllReadyH.cons rfl (fun K hK => ?_) AllReadyH.nil
          refine step_store_row rfl 43 (.tmp 6) (.tmp 59) rfl B #[.bool false, .int .i64 20, .int .i64 (T : Int), .int .i64 (P : Int), .int .i64 (Q : Int), .int .u64 (X0 : Int), .int .u64 (X1 : Int), .int .u64 (Y0 : Int), .int .u64 (Y1 : Int), .bool false, .int .u32 (I4 : Int), .int .i64 0, .bool false] rfl rfl 43 #[.bool false, .int .i64 0, .int .i64 0, .int .i64 0, .int .i64 0, .int .u64 0, .int .u64 0, .int .u64 0, .int .u64 0, .bool false, .int .u32 0, .int .i64 0, .bool false] hV (by kernel_rfl) rfl (by kernel_rfl) ?_
          refine hK.out _ _ (keepS hC1 (Below.setRow hS23.1 hBs _)) (fun _ => ?_)
          clear hK K
          refine wpAnyH_done (by kernel_rfl) ?_ _
          go_wp2_with fail
          go_meet
          exact ⟨B, rfl, hBs, Below.setRow hS23.1 hBs _, blk_setRow hV _⟩
      · refine step_alloc rfl 43 rfl #[.bool false, .int .i64 0, .int .i64 0, .int .i64 0, .int .i64 0, .int .u64 0, .int .u64 0, .int .u64 0, .int .u64 0, .bool false, .int .u32 0, .int .i64 0, .bool false] hz (fun w21 B hV hb21 hg21 => ?_)
        have hS21 := keepB hC1 hb21 hS0
        have hBs : w1.heap.size ≤ B := Nat.le_trans hS0.1.size hg21
        refine hK.out _ _ hS21 (fun _ => ?_)
        clear hK K
        refine wpAnyH_ready (rs := [15]) (by kernel_rfl) (by simp) ?_
        refine AllReadyH.cons rfl (fun K hK => ?_) AllReadyH.nil
        go_simp
        go_at_call 76
        refine (p12 _ hS21.1).mono ?_
        rintro e w22 ⟨rfl, hb22⟩
        have hS22 := keepB hC1 hb22 hS21
        have hV := hV_keep hb22 hV
        refine hK.out _ _ hS22 (fun _ => ?_)
        clear hK K
        refine wpAnyH_ready (rs := [18]) (by kernel_rfl) (by simp) ?_
        refine AllReadyH.cons rfl (fun K hK => ?_) AllReadyH.nil
        go_simp
        go_at_call 76
        refine (p16 _ hS22.1).mono ?_
        rintro e w23 ⟨rfl, hb23⟩
        have hS23 := keepB hC1 hb23 hS22
        have hV := hV_keep hb23 hV
        refine hK.out _ _ hS23 (fun _ => ?_)
        clear hK K
        refine wpAnyH_take (i := 19) (v := ?_) rfl (by kernel_rfl) (by kernel_rfl) (by kernel_rfl) (fun _ _ _ h => h) (Or.inl ⟨by rfl, ?_⟩) hS23 ?_
        rotate_left 1
        · intro W hW
          obtain ⟨hW0, hW1, hW2⟩ := hW
          go_simp
          with_reducible rfl
        refine wpAnyH_ready (rs := [21]) (by kernel_rfl) (by simp) ?_
        refine AllReadyH.cons rfl (fun K hK => ?_) AllReadyH.nil
        refine step_store_row rfl 43 (.tmp 6) (.tmp 59) rfl B #[.bool false, .int .i64 20, .int .i64 (T : Int), .int .i64 (P : Int), .int .i64 (Q : Int), .int .u64 (X0 : Int), .int .u64 (X1 : Int), .int .u64 (Y0 : Int), .int .u64 (Y1 : Int), .bool false, .int .u32 (I4 : Int), .int .i64 0, .bool false] rfl rfl 43 #[.bool false, .int .i64 0, .int .i64 0, .int .i64 0, .int .i64 0, .int .u64 0, .int .u64 0, .int .u64 0, .int .u64 0, .bool false, .int .u32 0, .int .i64 0, .bool false] hV (by kernel_rfl) rfl (by kernel_rfl) ?_
        refine hK.out _ _ (keepS hC1 (Below.setRow hS23.1 hBs _)) (fun _ => ?_)
        clear hK K
        refine wpAnyH_done (by kernel_rfl) ?_ _
        go_wp2_with fail
        go_meet
        exact ⟨B, rfl, hBs, Below.setRow hS23.1 hBs _, blk_setRow hV _⟩
    · refine step_alloc rfl 43 rfl #[.bool false, .int .i64 0, .int .i64 0, .int .i64 0, .int .i64 0, .int .u64 0, .int .u64 0, .int .u64 0, .int .u64 0, .bool false, .int .u32 0, .int .i64 0, .bool false] hz (fun w20 B hV hb20 hg20 => ?_)
      have hS20 := keepB hC1 hb20 hS0
      have hBs : w1.heap.size ≤ B := Nat.le_trans hS0.1.size hg20
      refine hK.out _ _ hS20 (fun _ => ?_)
      clear hK K
      refine wpAnyH_ready (rs := [11]) (by kernel_rfl) (by simp) ?_
      refine AllReadyH.cons rfl (fun K hK => ?_) AllReadyH.nil
      go_simp
      go_at_call 44
      refine (p4 _ hS20.1).mono ?_
      rintro e w21 ⟨rfl, rfl⟩
      refine hK.out _ _ hS20 (fun _ => ?_)
      clear hK K
      refine wpAnyH_take (i := 12) (v := ?_) rfl (by kernel_rfl) (by kernel_rfl) (by kernel_rfl) (fun _ _ _ h => h) (Or.inl ⟨by rfl, ?_⟩) hS20 ?_
      rotate_left 1
      · intro W hW
        obtain ⟨hW0, hW1, hW2⟩ := hW
        go_simp
        with_reducible rfl
      refine wpAnyH_ready (rs := [15]) (by kernel_rfl) (by simp) ?_
      refine AllReadyH.cons rfl (fun K hK => ?_) AllReadyH.nil
      go_simp
      go_at_call 76
      refine (p12 _ hS20.1).mono ?_
      rintro e w22 ⟨rfl, hb22⟩
      have hS22 := keepB hC1 hb22 hS20
      have hV := hV_keep hb22 hV
      refine hK.out _ _ hS22 (fun _ => ?_)
      clear hK K
      refine wpAnyH_ready (rs := [18]) (by kernel_rfl) (by simp) ?_
      refine AllReadyH.cons rfl (fun K hK => ?_) AllReadyH.nil
      go_simp
      go_at_call 76
      refine (p16 _ hS22.1).mono ?_
      rintro e w23 ⟨rfl, hb23⟩
      have hS23 := keepB hC1 hb23 hS22
      have hV := hV_keep hb23 hV
      refine hK.out _ _ hS23 (fun _ => ?_)
      clear hK K
      refine wpAnyH_take (i := 19) (v := ?_) rfl (by kernel_rfl) (by kernel_rfl) (by kernel_rfl) (fun _ _ _ h => h) (Or.inl ⟨by rfl, ?_⟩) hS23 ?_
      rotate_left 1
      · intro W hW
        obtain ⟨hW0, hW1, hW2⟩ := hW
        go_simp
        with_reducible rfl
      refine wpAnyH_ready (rs := [21]) (by kernel_rfl) (by simp) ?_
      refine AllReadyH.cons rfl (fun K hK => ?_) AllReadyH.nil
      refine step_store_row rfl 43 (.tmp 6) (.tmp 59) rfl B #[.bool false, .int .i64 20, .int .i64 (T : Int), .int .i64 (P : Int), .int .i64 (Q : Int), .int .u64 (X0 : Int), .int .u64 (X1 : Int), .int .u64 (Y0 : Int), .int .u64 (Y1 : Int), .bool false, .int .u32 (I4 : Int), .int .i64 0, .bool false] rfl rfl 43 #[.bool false, .int .i64 0, .int .i64 0, .int .i64 0, .int .i64 0, .int .u64 0, .int .u64 0, .int .u64 0, .int .u64 0, .bool false, .int .u32 0, .int .i64 0, .bool false] hV (by kernel_rfl) rfl (by kernel_rfl) ?_
      refine hK.out _ _ (keepS hC1 (Below.setRow hS23.1 hBs _)) (fun _ => ?_)
      clear hK K
      refine wpAnyH_done (by kernel_rfl) ?_ _
      go_wp2_with fail
      go_meet
      exact ⟨B, rfl, hBs, Below.setRow hS23.1 hBs _, blk_setRow hV _⟩
  case rest =>
    obtain ⟨B, rfl, hBs, hbr, hV⟩ := hcut
    have hz1 : w.heap.size < w1.heap.size := (Array.getElem?_eq_some_iff.1 hR).1
    have hR3 : wc.heap[w.heap.size]? = some (.cells #[.bool false, .int .i64 0, .int .i64 0, .int .i64 0, .int .i64 0, .int .u64 0, .int .u64 0, .int .u64 0, .int .u64 0, .bool false, .int .u32 0, .int .i64 0, .bool false] 43 (0, 0)) := (hbr.block _ hz1).trans hR
    have bw3 : Below w.heap.size w wc := bw1.trans (hbr.mono bw1.size)
    clear hR bw1 hbr p4 p12 p16 hC1
    have hne : w.heap.size ≠ B := by omega
    have hle : w.heap.size ≤ B := by omega
    obtain ⟨⟨t0, t1, t2, t3, t4, t5, t6, t7, t8, t9, t10, t11, t12⟩, u0, u1, u2, u3, u4, u5, u6, u7, u8, u9, u10, u11, u12⟩ := cells13 hV
    go_wp2_with (with_reducible refine stop_op (o := ⟨some 77, _, _, _, _, _⟩) ?_)
    obtain ⟨w5, hw5⟩ : ∃ x, x = ((wc.setCell ⟨B, 12, none⟩ (.bool true)).setCell ⟨B, 11, none⟩ (.int .i64 (a : Int))).setCell ⟨B, 9, none⟩ (.bool true) := ⟨_, rfl⟩
    have hV5 : w5.heap[B]? = some (.cells #[.bool false, .int .i64 20, .int .i64 (T : Int), .int .i64 (P : Int), .int .i64 (Q : Int), .int .u64 (X0 : Int), .int .u64 (X1 : Int), .int .u64 (Y0 : Int), .int .u64 (Y1 : Int), .bool true, .int .u32 (I4 : Int), .int .i64 (a : Int), .bool true] 43 (0, 0)) := by rw [hw5]; exact set_v3 hV _ _ _
    have hR5 : w5.heap[w.heap.size]? = some (.cells #[.bool false, .int .i64 0, .int .i64 0, .int .i64 0, .int .i64 0, .int .u64 0, .int .u64 0, .int .u64 0, .int .u64 0, .bool false, .int .u32 0, .int .i64 0, .bool false] 43 (0, 0)) := by rw [hw5, set_other (Ne.symm hne), set_other (Ne.symm hne), set_other (Ne.symm hne)]; exact hR3
    have bw5 : Below w.heap.size w w5 := by rw [hw5]; exact below_set (below_set (below_set bw3 hle 12 _) hle 11 _) hle 9 _
    rw [← hw5]
    clear hw5 t0 t1 t2 t3 t4 t5 t6 t7 t8 t9 t10 t11 t12 u0 u1 u2 u3 u4 u5 u6 u7 u8 u9 u10 u11 u12 hV hR3 bw3
    obtain ⟨⟨t0, t1, t2, t3, t4, t5, t6, t7, t8, t9, t10, t11, t12⟩, _⟩ := cells13 hV5
    obtain ⟨⟨r0, r1, r2, r3, r4, r5, r6, r7, r8, r9, r10, r11, r12⟩, q0, q1, q2, q3, q4, q5, q6, q7, q8, q9, q10, q11, q12⟩ := cells13 hR5
    refine Lib.hid ?_
    go_wp2
    refine bodyPost_ret_by (res_row Try.results49 _ _ w.heap.size 43 #[.bool false, .int .i64 20, .int .i64 (T : Int), .int .i64 (P : Int), .int .i64 (Q : Int), .int .u64 (X0 : Int), .int .u64 (X1 : Int), .int .u64 (Y0 : Int), .int .u64 (Y1 : Int), .bool true, .int .u32 (I4 : Int), .int .i64 (a : Int), .bool true] _ rfl (heap_set13w hR5 (.bool false) (.int .i64 20) (.int .i64 (T : Int)) (.int .i64 (P : Int)) (.int .i64 (Q : Int)) (.int .u64 (X0 : Int)) (.int .u64 (X1 : Int)) (.int .u64 (Y0 : Int)) (.int .u64 (Y1 : Int)) (.bool true) (.int .u32 (I4 : Int)) (.int .i64 (a : Int)) (.bool true)) Try.underlying43 (by kernel_rfl)) rfl ⟨rfl, ?_⟩
    exact below_set13 bw5 (by omega) _ _ _ _ _ _ _ _ _ _ _ _ _

set_option maxHeartbeats 2000000 in
set_option maxRecDepth 100000 in
theorem r4_g2 (g o c n : Nat) (l : List UInt8) (hn : l.length = n) (hc : n ≤ c) (hcm : c ≤ 9223372036854775807) (h1 : 20 ≤ n) (h2 : byN l 0 % 16 = 5) (h3 : 20 ≤ nbN l 2 2) (h4 : nbN l 2 2 ≤ n) (h5 : sumP (l.take 20) = 0) (h6 : nbN l 6 2 < 32768) (h7 : nbN l 6 2 / 8192 % 2 = 0) {w : World} (hb : Byt w g o l) :
    Calls Try.prog 49 #[.slice (some ⟨g, o, none⟩) n c] w fun e w' => e = .returned (.tuple #[.agg (vcells (partP { view4 l (nbN l 2 2) with id := nbN l 4 2 } ((nbN l 6 2 % 8192 * 8 : Nat) : Int) ((nbN l 6 2 / 8192 % 2 : Nat) : Int))), .int .i64 0]) ∧ Below w.heap.size w w' := by
  have hi : ¬ (n : Int) < 20 := by omega
  have hi2 : decide ((n : Int) < 20) = false := by simp; omega
  have hi3 : decide (n < 20) = false := by simp; omega
  have h0n : 0 < n := by omega
  have h0i : (0 : Int) < (n : Int) := by omega
  have s2 : ∀ W, (Instr.slice 22 (.slice (some ⟨g, o, none⟩) n c) (some (.int .i64 2)) (some (.int .i64 4)) none).run Try.prog W = .ok (.slice (some ⟨g, o + 2, none⟩) 2 (c - 2)) W := cut_lh g o n c 2 4 (by omega) (by omega) (by omega) hcm
  have s6 : ∀ W, (Instr.slice 22 (.slice (some ⟨g, o, none⟩) n c) (some (.int .i64 6)) (some (.int .i64 8)) none).run Try.prog W = .ok (.slice (some ⟨g, o + 6, none⟩) 2 (c - 6)) W := cut_lh g o n c 6 8 (by omega) (by omega) (by omega) hcm
  have s4 : ∀ W, (Instr.slice 22 (.slice (some ⟨g, o, none⟩) n c) (some (.int .i64 4)) (some (.int .i64 6)) none).run Try.prog W = .ok (.slice (some ⟨g, o + 4, none⟩) 2 (c - 4)) W := cut_lh g o n c 4 6 (by omega) (by omega) (by omega) hcm
  have s12 : ∀ W, (Instr.slice 22 (.slice (some ⟨g, o, none⟩) n c) (some (.int .i64 12)) (some (.int .i64 16)) none).run Try.prog W = .ok (.slice (some ⟨g, o + 12, none⟩) 4 (c - 12)) W := cut_lh g o n c 12 16 (by omega) (by omega) (by omega) hcm
  have s16 : ∀ W, (Instr.slice 22 (.slice (some ⟨g, o, none⟩) n c) (some (.int .i64 16)) (some (.int .i64 20)) none).run Try.prog W = .ok (.slice (some ⟨g, o + 16, none⟩) 4 (c - 16)) W := cut_lh g o n c 16 20 (by omega) (by omega) (by omega) hcm
  have s20 : ∀ W, (Instr.slice 22 (.slice (some ⟨g, o, none⟩) n c) none (some (.int .i64 20)) none).run Try.prog W = .ok (.slice (some ⟨g, o, none⟩) 20 c) W := cut_h g o n c 20 (by omega) hcm
  have n2 := get_eq g o n c 2 2 l hn (by omega) (by omega) hb
  have n6 := get_eq g o n c 6 2 l hn (by omega) (by omega) hb
  have n4 := get_eq g o n c 4 2 l hn (by omega) (by omega) hb
  have nS := fun (W : World) (h : Below w.heap.size w W) => rsum_eq g o c 20 (l.take 20) (by rw [List.length_take]; omega) (by omega) (show Byt W g o (l.take 20) by have := (hb.below h).sub 0 20; simpa using this)
  have n12 := fun (W : World) (h : Below w.heap.size w W) => wide4 g (o + 12) (c - 12) ((l.drop 12).take 4) (by rw [List.length_take, List.length_drop]; omega) ((hb.below h).sub 12 4)
  have n16 := fun (W : World) (h : Below w.heap.size w W) => wide4 g (o + 16) (c - 16) ((l.drop 16).take 4) (by rw [List.length_take, List.length_drop]; omega) ((hb.below h).sub 16 4)
  have c0 := by_cell hb hn 0 h0n
  rw [Nat.add_zero] at c0
  have c8 := by_cell hb hn 8 (by omega)
  have c9 := by_cell hb hn 9 (by omega)
  have x8 := byN_lt l 0
  have hP := byN_lt l 8
  have hQ := byN_lt l 9
  have hT := nb2_lt l 2
  have hS := nb2_lt l 6
  have hI := nb2_lt l 4
  have hsl := sumP_le (l.take 20)
  try simp only [view4] at *
  generalize byN l 0 = X at *
  generalize byN l 8 = P at *
  generalize byN l 9 = Q at *
  generalize nbN l 2 2 = T at *
  generalize nbN l 6 2 = S at *
  generalize nbN l 4 2 = I4 at *
  generalize sumP (l.take 20) = sm at *
  generalize adrH ((l.drop 12).take 4) = X0 at *
  generalize adrL ((l.drop 12).take 4) = X1 at *
  generalize adrH ((l.drop 16).take 4) = Y0 at *
  generalize adrL ((l.drop 16).take 4) = Y1 at *
  clear hb hn
  have Ti : (T : Int) < 65536 := by omega
  have Si : (S : Int) < 65536 := by omega
  have Ii : (I4 : Int) < 65536 := by omega
  have Xi : (X : Int) < 256 := by omega
  have Pi8 : (P : Int) < 256 := by omega
  have Qi8 : (Q : Int) < 256 := by omega
  have n2 := n2
  have wP : IntKind.i64.wrap (P : Int) = (P : Int) := by rw [IntKind.wrap_i64]; omega
  have wQ : IntKind.i64.wrap (Q : Int) = (Q : Int) := by rw [IntKind.wrap_i64]; omega
  have wI : IntKind.u32.wrap (I4 : Int) = (I4 : Int) := by rw [IntKind.wrap_u32]; omega
  have hb5 : ((X : Int) % 16 != 5) = false := by simp; omega
  have hT20 : decide ((T : Int) < 20) = false := by simp; omega
  have hT20n : decide (T < 20) = false := by simp; omega
  have hT20i : ¬ (T : Int) < 20 := by omega
  have hTn : decide ((n : Int) < (T : Int)) = false := by simp; omega
  have hTnn : decide (n < T) = false := by simp; omega
  have hTni : ¬ (n : Int) < (T : Int) := by omega
  have hs0 : ((sm : Int) != 0) = false := by simp; omega
  have hp0 : decide ((32768 : Int) ≤ (S : Int)) = false := by simp; omega
  have hp1 : ¬ (32768 : Int) ≤ (S : Int) := by omega
  obtain ⟨a, ha⟩ : ∃ a, a = S % 8192 * 8 := ⟨_, rfl⟩
  have eo : (S : Int) % 8192 * 8 = (a : Int) := by omega
  have ho : a < 65536 := by omega
  have hoi : (a : Int) < 65536 := by omega
  rw [← ha]
  simp only [vcells, partP]
  have d1 : decide (((S / 8192 % 2 : Nat) : Int) = 1) = false := by simp; omega
  rw [d1]
  simp only [Bool.false_or]
  have em : ((S : Int) / 8192 % 2 == 1) = false := by simp; omega
  obtain ⟨fo, hfo⟩ : ∃ fo, fo = decide ((a : Int) ≠ 0) := ⟨_, rfl⟩
  have ef : ((a : Int) != 0) = fo := by rw [hfo]; by_cases h : a = 0 <;> simp [h, bne]
  rw [← hfo]
  clear ha h7 d1 hfo
  go_enter Try.func49, Try.ntmps49
  go_wp2_with (with_reducible refine stop_op (o := ⟨some 8, _, _, _, _, _⟩) ?_)
  obtain ⟨w1, hw1⟩ : ∃ v, v = w.alloc (.cells #[.bool false, .int .i64 0, .int .i64 0, .int .i64 0, .int .i64 0, .int .u64 0, .int .u64 0, .int .u64 0, .int .u64 0, .bool false, .int .u32 0, .int .i64 0, .bool false] 43) := ⟨_, rfl⟩
  have hR : w1.heap[w.heap.size]? = some (.cells #[.bool false, .int .i64 0, .int .i64 0, .int .i64 0, .int .i64 0, .int .u64 0, .int .u64 0, .int .u64 0, .int .u64 0, .bool false, .int .u32 0, .int .i64 0, .bool false] 43 (0, 0)) := by rw [hw1]; exact al_neww rfl _
  have bw1 : Below w.heap.size w w1 := by rw [hw1]; exact Below.al (Below.refl _ _) _
  rw [← hw1]
  clear hw1
  obtain ⟨⟨r0, r1, r2, r3, r4, r5, r6, r7, r8, r9, r10, r11, r12⟩, q0, q1, q2, q3, q4, q5, q6, q7, q8, q9, q10, q11, q12⟩ := cells13 hR
  refine Lib.hid ?_
  have m2 := n2 _ bw1
  have m6 := n6 _ bw1
  have mS := nS _ bw1
  have c01 := keepc bw1 c0
  clear n2 n6 nS c0
  go_wp2_with (first | (go_at_call 44; (with_reducible refine m2.mono ?_); rintro e w' ⟨rfl, rfl⟩) | (go_at_call 44; (with_reducible refine m6.mono ?_); rintro e w' ⟨rfl, rfl⟩) | (go_at_call 16; (with_reducible refine mS.mono ?_); rintro e w' ⟨rfl, rfl⟩))
  clear m2 m6 mS c01 r0 r1 r2 r3 r4 r5 r6 r7 r8 r9 r10 r11 r12 q0 q1 q2 q3 q4 q5 q6 q7 q8 q9 q10 q11 q12
  have b8 := keepc bw1 c8
  have b9 := keepc bw1 c9
  have hC1 : ∀ w', Below w1.heap.size w1 w' → w'.cell? ⟨g, o + 8, none⟩ = some (.int .u8 (P : Int)) ∧ w'.cell? ⟨g, o + 9, none⟩ = some (.int .u8 (Q : Int)) := fun w' h => ⟨keepc h b8, keepc h b9⟩
  have p4 := fun (W : World) (h : Below w1.heap.size w1 W) => n4 W (bw1.trans (h.mono bw1.size))
  have p12 := fun (W : World) (h : Below w1.heap.size w1 W) => n12 W (bw1.trans (h.mono bw1.size))
  have p16 := fun (W : World) (h : Below w1.heap.size w1 W) => n16 W (bw1.trans (h.mono bw1.size))
  clear n4 n12 n16 b8 b9 c8 c9
  have j8 : (8 : Int) < (n : Int) := by omega
  have j9 : (9 : Int) < (n : Int) := by omega
  have k8 : 8 < n := by omega
  have k9 : 9 < n := by omega
  have j8b : decide ((8 : Int) < (n : Int)) = true := by simp; omega
  have j9b : decide ((9 : Int) < (n : Int)) = true := by simp; omega
  go_cut [6] from 40 (fun v6 wr => ∃ B, v6 = .pointer (some ⟨B, 0, none⟩) ∧ w1.heap.size ≤ B ∧ Below w1.heap.size w1 wr ∧ wr.heap[B]? = some (.cells #[.bool false, .int .i64 20, .int .i64 (T : Int), .int .i64 (P : Int), .int .i64 (Q : Int), .int .u64 (X0 : Int), .int .u64 (X1 : Int), .int .u64 (Y0 : Int), .int .u64 (Y1 : Int), .bool false, .int .u32 (I4 : Int), .int .i64 0, .bool false] 43 (0, 0)))
  case first =>
    have hz : ∀ w, (zeroValue 43).run Try.prog w = .ok (.agg #[.bool false, .int .i64 0, .int .i64 0, .int .i64 0, .int .i64 0, .int .u64 0, .int .u64 0, .int .u64 0, .int .u64 0, .bool false, .int .u32 0, .int .i64 0, .bool false]) w := fun w => by kernel_rfl
    refine wp_region_held (S := (fun w' => Below w1.heap.size w1 w' ∧ w'.cell? ⟨g, o + 8, none⟩ = some (.int .u8 (P : Int)) ∧ w'.cell? ⟨g, o + 9, none⟩ = some (.int .u8 (Q : Int)))) (by kernel_rfl) ?_
    change wpAnyH _ _ _ _ _ _ _ _ (World.drew _)
    have hS0 := keep0 hC1
    generalize w1.drew = wd at hS0 ⊢
    refine wpAnyH_take (i := 0) (v := ?_) rfl (by kernel_rfl) (by kernel_rfl) (by kernel_rfl) (fun _ _ _ h => h) (Or.inl ⟨by rfl, ?_⟩) hS0 ?_
    rotate_left 1
    · intro W hW
      obtain ⟨hW0, hW1, hW2⟩ := hW
      go_simp
      with_reducible rfl
    refine wpAnyH_take (i := 1) (v := ?_) rfl (by kernel_rfl) (by kernel_rfl) (by kernel_rfl) (fun _ _ _ h => h) (Or.inl ⟨by rfl, ?_⟩) hS0 ?_
    rotate_left 1
    · intro W hW
      obtain ⟨hW0, hW1, hW2⟩ := hW
      go_simp
      with_reducible rfl
    refine wpAnyH_take (i := 2) (v := ?_) rfl (by kernel_rfl) (by kernel_rfl) (by kernel_rfl) (fun _ _ _ h => h) (Or.inl ⟨by rfl, ?_⟩) hS0 ?_
    rotate_left 1
    · intro W hW
      obtain ⟨hW0, hW1, hW2⟩ := hW
      go_simp
      with_reducible rfl
    refine wpAnyH_take (i := 3) (v := ?_) rfl (by kernel_rfl) (by kernel_rfl) (by kernel_rfl) (fun _ _ _ h => h) (Or.inl ⟨by rfl, ?_⟩) hS0 ?_
    rotate_left 1
    · intro W hW
      obtain ⟨hW0, hW1, hW2⟩ := hW
      go_simp
      with_reducible rfl
    refine wpAnyH_take (i := 4) (v := ?_) rfl (by kernel_rfl) (by kernel_rfl) (by kernel_rfl) (fun _ _ _ h => h) (Or.inl ⟨by rfl, ?_⟩) hS0 ?_
    rotate_left 1
    · intro W hW
      obtain ⟨hW0, hW1, hW2⟩ := hW
      go_simp
      with_reducible rfl
    refine wpAnyH_take (i := 5) (v := ?_) rfl (by kernel_rfl) (by kernel_rfl) (by kernel_rfl) (fun _ _ _ h => h) (Or.inl ⟨by rfl, ?_⟩) hS0 ?_
    rotate_left 1
    · intro W hW
      obtain ⟨hW0, hW1, hW2⟩ := hW
      go_simp
      with_reducible rfl
    refine wpAnyH_take (i := 6) (v := ?_) rfl (by kernel_rfl) (by kernel_rfl) (by kernel_rfl) (fun _ _ _ h => h) (Or.inl ⟨by rfl, ?_⟩) hS0 ?_
    rotate_left 1
    · intro W hW
      obtain ⟨hW0, hW1, hW2⟩ := hW
      go_simp
      with_reducible rfl
    refine wpAnyH_take (i := 7) (v := ?_) rfl (by kernel_rfl) (by kernel_rfl) (by kernel_rfl) (fun _ _ _ h => h) (Or.inl ⟨by rfl, ?_⟩) hS0 ?_
    rotate_left 1
    · intro W hW
      obtain ⟨hW0, hW1, hW2⟩ := hW
      go_simp
      with_reducible rfl
    refine wpAnyH_take (i := 8) (v := ?_) rfl (by kernel_rfl) (by kernel_rfl) (by kernel_rfl) (fun _ _ _ h => h) (Or.inl ⟨by rfl, ?_⟩) hS0 ?_
    rotate_left 1
    · intro W hW
      obtain ⟨hW0, hW1, hW2⟩ := hW
      go_simp
      with_reducible rfl
    refine wpAnyH_take (i := 9) (v := ?_) rfl (by kernel_rfl) (by kernel_rfl) (by kernel_rfl) (fun _ _ _ h => h) (Or.inl ⟨by rfl, ?_⟩) hS0 ?_
    rotate_left 1
    · intro W hW
      obtain ⟨hW0, hW1, hW2⟩ := hW
      go_simp
      with_reducible rfl
    refine wpAnyH_take (i := 10) (v := ?_) rfl (by kernel_rfl) (by kernel_rfl) (by kernel_rfl) (fun _ _ _ h => h) (Or.inl ⟨by rfl, ?_⟩) hS0 ?_
    rotate_left 1
    · intro W hW
      obtain ⟨hW0, hW1, hW2⟩ := hW
      go_simp
      with_reducible rfl
    refine wpAnyH_take (i := 13) (v := ?_) rfl (by kernel_rfl) (by kernel_rfl) (by kernel_rfl) (fun _ _ _ h => h) (Or.inl ⟨by rfl, ?_⟩) hS0 ?_
    rotate_left 1
    · intro W hW
      obtain ⟨hW0, hW1, hW2⟩ := hW
      go_simp
      with_reducible rfl
    refine wpAnyH_take (i := 14) (v := ?_) rfl (by kernel_rfl) (by kernel_rfl) (by kernel_rfl) (fun _ _ _ h => h) (Or.inl ⟨by rfl, ?_⟩) hS0 ?_
    rotate_left 1
    · intro W hW
      obtain ⟨hW0, hW1, hW2⟩ := hW
      go_simp
      with_reducible rfl
    refine wpAnyH_take (i := 16) (v := ?_) rfl (by kernel_rfl) (by kernel_rfl) (by kernel_rfl) (fun _ _ _ h => h) (Or.inl ⟨by rfl, ?_⟩) hS0 ?_
    rotate_left 1
    · intro W hW
      obtain ⟨hW0, hW1, hW2⟩ := hW
      go_simp
      with_reducible rfl
    refine wpAnyH_take (i := 17) (v := ?_) rfl (by kernel_rfl) (by kernel_rfl) (by kernel_rfl) (fun _ _ _ h => h) (Or.inl ⟨by rfl, ?_⟩) hS0 ?_
    rotate_left 1
    · intro W hW
      obtain ⟨hW0, hW1, hW2⟩ := hW
      go_simp
      with_reducible rfl
    refine wpAnyH_ready (rs := [11, 20]) (by kernel_rfl) (by simp) ?_
    refine AllReadyH.cons rfl (fun K hK => ?_) (AllReadyH.cons rfl (fun K hK => ?_) AllReadyH.nil)
    · go_simp
      go_at_call 44
      refine (p4 _ hS0.1).mono ?_
      rintro e w20 ⟨rfl, rfl⟩
      refine hK.out _ _ hS0 (fun _ => ?_)
      clear hK K
      refine wpAnyH_take (i := 12) (v := ?_) rfl (by kernel_rfl) (by kernel_rfl) (by kernel_rfl) (fun _ _ _ h => h) (Or.inl ⟨by rfl, ?_⟩) hS0 ?_
      rotate_left 1
      · intro W hW
        obtain ⟨hW0, hW1, hW2⟩ := hW
        go_simp
        with_reducible rfl
      refine wpAnyH_ready (rs := [15, 20]) (by kernel_rfl) (by simp) ?_
      refine AllReadyH.cons rfl (fun K hK => ?_) (AllReadyH.cons rfl (fun K hK => ?_) AllReadyH.nil)
      · go_simp
        go_at_call 76
        refine (p12 _ hS0.1).mono ?_
        rintro e w21 ⟨rfl, hb21⟩
        have hS21 := keepB hC1 hb21 hS0
        refine hK.out _ _ hS21 (fun _ => ?_)
        clear hK K
        refine wpAnyH_ready (rs := [18, 20]) (by kernel_rfl) (by simp) ?_
        refine AllReadyH.cons rfl (fun K hK => ?_) (AllReadyH.cons rfl (fun K hK => ?_) AllReadyH.nil)
        · go_simp
          go_at_call 76
          refine (p16 _ hS21.1).mono ?_
          rintro e w22 ⟨rfl, hb22⟩
          have hS22 := keepB hC1 hb22 hS21
          refine hK.out _ _ hS22 (fun _ => ?_)
          clear hK K
          refine wpAnyH_take (i := 19) (v := ?_) rfl (by kernel_rfl) (by kernel_rfl) (by kernel_rfl) (fun _ _ _ h => h) (Or.inl ⟨by rfl, ?_⟩) hS22 ?_
          rotate_left 1
          · intro W hW
            obtain ⟨hW0, hW1, hW2⟩ := hW
            go_simp
            with_reducible rfl
          refine wpAnyH_ready (rs := [20]) (by kernel_rfl) (by simp) ?_
          refine AllReadyH.cons rfl (fun K hK => ?_) AllReadyH.nil
          refine step_alloc rfl 43 rfl #[.bool false, .int .i64 0, .int .i64 0, .int .i64 0, .int .i64 0, .int .u64 0, .int .u64 0, .int .u64 0, .int .u64 0, .bool false, .int .u32 0, .int .i64 0, .bool false] hz (fun w23 B hV hb23 hg23 => ?_)
          have hS23 := keepB hC1 hb23 hS22
          have hBs : w1.heap.size ≤ B := Nat.le_trans hS22.1.size hg23
          refine hK.out _ _ hS23 (fun _ => ?_)
          clear hK K
          refine wpAnyH_ready (rs := [21]) (by kernel_rfl) (by simp) ?_
          refine AllReadyH.cons rfl (fun K hK => ?_) AllReadyH.nil
          refine step_store_row rfl 43 (.tmp 6) (.tmp 59) rfl B #[.bool false, .int .i64 20, .int .i64 (T : Int), .int .i64 (P : Int), .int .i64 (Q : Int), .int .u64 (X0 : Int), .int .u64 (X1 : Int), .int .u64 (Y0 : Int), .int .u64 (Y1 : Int), .bool false, .int .u32 (I4 : Int), .int .i64 0, .bool false] rfl rfl 43 #[.bool false, .int .i64 0, .int .i64 0, .int .i64 0, .int .i64 0, .int .u64 0, .int .u64 0, .int .u64 0, .int .u64 0, .bool false, .int .u32 0, .int .i64 0, .bool false] hV (by kernel_rfl) rfl (by kernel_rfl) ?_
          refine hK.out _ _ (keepS hC1 (Below.setRow hS23.1 hBs _)) (fun _ => ?_)
          clear hK K
          refine wpAnyH_done (by kernel_rfl) ?_ _
          go_wp2_with fail
          go_meet
          exact ⟨B, rfl, hBs, Below.setRow hS23.1 hBs _, blk_setRow hV _⟩
        · refine step_alloc rfl 43 rfl #[.bool false, .int .i64 0, .int .i64 0, .int .i64 0, .int .i64 0, .int .u64 0, .int .u64 0, .int .u64 0, .int .u64 0, .bool false, .int .u32 0, .int .i64 0, .bool false] hz (fun w22 B hV hb22 hg22 => ?_)
          have hS22 := keepB hC1 hb22 hS21
          have hBs : w1.heap.size ≤ B := Nat.le_trans hS21.1.size hg22
          refine hK.out _ _ hS22 (fun _ => ?_)
          clear hK K
          refine wpAnyH_ready (rs := [18]) (by kernel_rfl) (by simp) ?_
          refine AllReadyH.cons rfl (fun K hK => ?_) AllReadyH.nil
          go_simp
          go_at_call 76
          refine (p16 _ hS22.1).mono ?_
          rintro e w23 ⟨rfl, hb23⟩
          have hS23 := keepB hC1 hb23 hS22
          have hV := hV_keep hb23 hV
          refine hK.out _ _ hS23 (fun _ => ?_)
          clear hK K
          refine wpAnyH_take (i := 19) (v := ?_) rfl (by kernel_rfl) (by kernel_rfl) (by kernel_rfl) (fun _ _ _ h => h) (Or.inl ⟨by rfl, ?_⟩) hS23 ?_
          rotate_left 1
          · intro W hW
            obtain ⟨hW0, hW1, hW2⟩ := hW
            go_simp
            with_reducible rfl
          refine wpAnyH_ready (rs := [21]) (by kernel_rfl) (by simp) ?_
          refine AllReadyH.cons rfl (fun K hK => ?_) AllReadyH.nil
          refine step_store_row rfl 43 (.tmp 6) (.tmp 59) rfl B #[.bool false, .int .i64 20, .int .i64 (T : Int), .int .i64 (P : Int), .int .i64 (Q : Int), .int .u64 (X0 : Int), .int .u64 (X1 : Int), .int .u64 (Y0 : Int), .int .u64 (Y1 : Int), .bool false, .int .u32 (I4 : Int), .int .i64 0, .bool false] rfl rfl 43 #[.bool false, .int .i64 0, .int .i64 0, .int .i64 0, .int .i64 0, .int .u64 0, .int .u64 0, .int .u64 0, .int .u64 0, .bool false, .int .u32 0, .int .i64 0, .bool false] hV (by kernel_rfl) rfl (by kernel_rfl) ?_
          refine hK.out _ _ (keepS hC1 (Below.setRow hS23.1 hBs _)) (fun _ => ?_)
          clear hK K
          refine wpAnyH_done (by kernel_rfl) ?_ _
          go_wp2_with fail
          go_meet
          exact ⟨B, rfl, hBs, Below.setRow hS23.1 hBs _, blk_setRow hV _⟩
      · refine step_alloc rfl 43 rfl #[.bool false, .int .i64 0, .int .i64 0, .int .i64 0, .int .i64 0, .int .u64 0, .int .u64 0, .int .u64 0, .int .u64 0, .bool false, .int .u32 0, .int .i64 0, .bool false] hz (fun w21 B hV hb21 hg21 => ?_)
        have hS21 := keepB hC1 hb21 hS0
        have hBs : w1.heap.size ≤ B := Nat.le_trans hS0.1.size hg21
        refine hK.out _ _ hS21 (fun _ => ?_)
        clear hK K
        refine wpAnyH_ready (rs := [15]) (by kernel_rfl) (by simp) ?_
        refine AllReadyH.cons rfl (fun K hK => ?_) AllReadyH.nil
        go_simp
        go_at_call 76
        refine (p12 _ hS21.1).mono ?_
        rintro e w22 ⟨rfl, hb22⟩
        have hS22 := keepB hC1 hb22 hS21
        have hV := hV_keep hb22 hV
        refine hK.out _ _ hS22 (fun _ => ?_)
        clear hK K
        refine wpAnyH_ready (rs := [18]) (by kernel_rfl) (by simp) ?_
        refine AllReadyH.cons rfl (fun K hK => ?_) AllReadyH.nil
        go_simp
        go_at_call 76
        refine (p16 _ hS22.1).mono ?_
        rintro e w23 ⟨rfl, hb23⟩
        have hS23 := keepB hC1 hb23 hS22
        have hV := hV_keep hb23 hV
        refine hK.out _ _ hS23 (fun _ => ?_)
        clear hK K
        refine wpAnyH_take (i := 19) (v := ?_) rfl (by kernel_rfl) (by kernel_rfl) (by kernel_rfl) (fun _ _ _ h => h) (Or.inl ⟨by rfl, ?_⟩) hS23 ?_
        rotate_left 1
        · intro W hW
          obtain ⟨hW0, hW1, hW2⟩ := hW
          go_simp
          with_reducible rfl
        refine wpAnyH_ready (rs := [21]) (by kernel_rfl) (by simp) ?_
        refine AllReadyH.cons rfl (fun K hK => ?_) AllReadyH.nil
        refine step_store_row rfl 43 (.tmp 6) (.tmp 59) rfl B #[.bool false, .int .i64 20, .int .i64 (T : Int), .int .i64 (P : Int), .int .i64 (Q : Int), .int .u64 (X0 : Int), .int .u64 (X1 : Int), .int .u64 (Y0 : Int), .int .u64 (Y1 : Int), .bool false, .int .u32 (I4 : Int), .int .i64 0, .bool false] rfl rfl 43 #[.bool false, .int .i64 0, .int .i64 0, .int .i64 0, .int .i64 0, .int .u64 0, .int .u64 0, .int .u64 0, .int .u64 0, .bool false, .int .u32 0, .int .i64 0, .bool false] hV (by kernel_rfl) rfl (by kernel_rfl) ?_
        refine hK.out _ _ (keepS hC1 (Below.setRow hS23.1 hBs _)) (fun _ => ?_)
        clear hK K
        refine wpAnyH_done (by kernel_rfl) ?_ _
        go_wp2_with fail
        go_meet
        exact ⟨B, rfl, hBs, Below.setRow hS23.1 hBs _, blk_setRow hV _⟩
    · refine step_alloc rfl 43 rfl #[.bool false, .int .i64 0, .int .i64 0, .int .i64 0, .int .i64 0, .int .u64 0, .int .u64 0, .int .u64 0, .int .u64 0, .bool false, .int .u32 0, .int .i64 0, .bool false] hz (fun w20 B hV hb20 hg20 => ?_)
      have hS20 := keepB hC1 hb20 hS0
      have hBs : w1.heap.size ≤ B := Nat.le_trans hS0.1.size hg20
      refine hK.out _ _ hS20 (fun _ => ?_)
      clear hK K
      refine wpAnyH_ready (rs := [11]) (by kernel_rfl) (by simp) ?_
      refine AllReadyH.cons rfl (fun K hK => ?_) AllReadyH.nil
      go_simp
      go_at_call 44
      refine (p4 _ hS20.1).mono ?_
      rintro e w21 ⟨rfl, rfl⟩
      refine hK.out _ _ hS20 (fun _ => ?_)
      clear hK K
      refine wpAnyH_take (i := 12) (v := ?_) rfl (by kernel_rfl) (by kernel_rfl) (by kernel_rfl) (fun _ _ _ h => h) (Or.inl ⟨by rfl, ?_⟩) hS20 ?_
      rotate_left 1
      · intro W hW
        obtain ⟨hW0, hW1, hW2⟩ := hW
        go_simp
        with_reducible rfl
      refine wpAnyH_ready (rs := [15]) (by kernel_rfl) (by simp) ?_
      refine AllReadyH.cons rfl (fun K hK => ?_) AllReadyH.nil
      go_simp
      go_at_call 76
      refine (p12 _ hS20.1).mono ?_
      rintro e w22 ⟨rfl, hb22⟩
      have hS22 := keepB hC1 hb22 hS20
      have hV := hV_keep hb22 hV
      refine hK.out _ _ hS22 (fun _ => ?_)
      clear hK K
      refine wpAnyH_ready (rs := [18]) (by kernel_rfl) (by simp) ?_
      refine AllReadyH.cons rfl (fun K hK => ?_) AllReadyH.nil
      go_simp
      go_at_call 76
      refine (p16 _ hS22.1).mono ?_
      rintro e w23 ⟨rfl, hb23⟩
      have hS23 := keepB hC1 hb23 hS22
      have hV := hV_keep hb23 hV
      refine hK.out _ _ hS23 (fun _ => ?_)
      clear hK K
      refine wpAnyH_take (i := 19) (v := ?_) rfl (by kernel_rfl) (by kernel_rfl) (by kernel_rfl) (fun _ _ _ h => h) (Or.inl ⟨by rfl, ?_⟩) hS23 ?_
      rotate_left 1
      · intro W hW
        obtain ⟨hW0, hW1, hW2⟩ := hW
        go_simp
        with_reducible rfl
      refine wpAnyH_ready (rs := [21]) (by kernel_rfl) (by simp) ?_
      refine AllReadyH.cons rfl (fun K hK => ?_) AllReadyH.nil
      refine step_store_row rfl 43 (.tmp 6) (.tmp 59) rfl B #[.bool false, .int .i64 20, .int .i64 (T : Int), .int .i64 (P : Int), .int .i64 (Q : Int), .int .u64 (X0 : Int), .int .u64 (X1 : Int), .int .u64 (Y0 : Int), .int .u64 (Y1 : Int), .bool false, .int .u32 (I4 : Int), .int .i64 0, .bool false] rfl rfl 43 #[.bool false, .int .i64 0, .int .i64 0, .int .i64 0, .int .i64 0, .int .u64 0, .int .u64 0, .int .u64 0, .int .u64 0, .bool false, .int .u32 0, .int .i64 0, .bool false] hV (by kernel_rfl) rfl (by kernel_rfl) ?_
      refine hK.out _ _ (keepS hC1 (Below.setRow hS23.1 hBs _)) (fun _ => ?_)
      clear hK K
      refine wpAnyH_done (by kernel_rfl) ?_ _
      go_wp2_with fail
      go_meet
      exact ⟨B, rfl, hBs, Below.setRow hS23.1 hBs _, blk_setRow hV _⟩
  case rest =>
    obtain ⟨B, rfl, hBs, hbr, hV⟩ := hcut
    have hz1 : w.heap.size < w1.heap.size := (Array.getElem?_eq_some_iff.1 hR).1
    have hR3 : wc.heap[w.heap.size]? = some (.cells #[.bool false, .int .i64 0, .int .i64 0, .int .i64 0, .int .i64 0, .int .u64 0, .int .u64 0, .int .u64 0, .int .u64 0, .bool false, .int .u32 0, .int .i64 0, .bool false] 43 (0, 0)) := (hbr.block _ hz1).trans hR
    have bw3 : Below w.heap.size w wc := bw1.trans (hbr.mono bw1.size)
    clear hR bw1 hbr p4 p12 p16 hC1
    have hne : w.heap.size ≠ B := by omega
    have hle : w.heap.size ≤ B := by omega
    obtain ⟨⟨t0, t1, t2, t3, t4, t5, t6, t7, t8, t9, t10, t11, t12⟩, u0, u1, u2, u3, u4, u5, u6, u7, u8, u9, u10, u11, u12⟩ := cells13 hV
    go_wp2_with (with_reducible refine stop_op (o := ⟨some 77, _, _, _, _, _⟩) ?_)
    obtain ⟨w5, hw5⟩ : ∃ x, x = ((wc.setCell ⟨B, 12, none⟩ (.bool false)).setCell ⟨B, 11, none⟩ (.int .i64 (a : Int))).setCell ⟨B, 9, none⟩ (.bool fo) := ⟨_, rfl⟩
    have hV5 : w5.heap[B]? = some (.cells #[.bool false, .int .i64 20, .int .i64 (T : Int), .int .i64 (P : Int), .int .i64 (Q : Int), .int .u64 (X0 : Int), .int .u64 (X1 : Int), .int .u64 (Y0 : Int), .int .u64 (Y1 : Int), .bool fo, .int .u32 (I4 : Int), .int .i64 (a : Int), .bool false] 43 (0, 0)) := by rw [hw5]; exact set_v3 hV _ _ _
    have hR5 : w5.heap[w.heap.size]? = some (.cells #[.bool false, .int .i64 0, .int .i64 0, .int .i64 0, .int .i64 0, .int .u64 0, .int .u64 0, .int .u64 0, .int .u64 0, .bool false, .int .u32 0, .int .i64 0, .bool false] 43 (0, 0)) := by rw [hw5, set_other (Ne.symm hne), set_other (Ne.symm hne), set_other (Ne.symm hne)]; exact hR3
    have bw5 : Below w.heap.size w w5 := by rw [hw5]; exact below_set (below_set (below_set bw3 hle 12 _) hle 11 _) hle 9 _
    rw [← hw5]
    clear hw5 t0 t1 t2 t3 t4 t5 t6 t7 t8 t9 t10 t11 t12 u0 u1 u2 u3 u4 u5 u6 u7 u8 u9 u10 u11 u12 hV hR3 bw3
    obtain ⟨⟨t0, t1, t2, t3, t4, t5, t6, t7, t8, t9, t10, t11, t12⟩, _⟩ := cells13 hV5
    obtain ⟨⟨r0, r1, r2, r3, r4, r5, r6, r7, r8, r9, r10, r11, r12⟩, q0, q1, q2, q3, q4, q5, q6, q7, q8, q9, q10, q11, q12⟩ := cells13 hR5
    refine Lib.hid ?_
    go_wp2
    refine bodyPost_ret_by (res_row Try.results49 _ _ w.heap.size 43 #[.bool false, .int .i64 20, .int .i64 (T : Int), .int .i64 (P : Int), .int .i64 (Q : Int), .int .u64 (X0 : Int), .int .u64 (X1 : Int), .int .u64 (Y0 : Int), .int .u64 (Y1 : Int), .bool fo, .int .u32 (I4 : Int), .int .i64 (a : Int), .bool false] _ rfl (heap_set13w hR5 (.bool false) (.int .i64 20) (.int .i64 (T : Int)) (.int .i64 (P : Int)) (.int .i64 (Q : Int)) (.int .u64 (X0 : Int)) (.int .u64 (X1 : Int)) (.int .u64 (Y0 : Int)) (.int .u64 (Y1 : Int)) (.bool fo) (.int .u32 (I4 : Int)) (.int .i64 (a : Int)) (.bool false)) Try.underlying43 (by kernel_rfl)) rfl ⟨rfl, ?_⟩
    exact below_set13 bw5 (by omega) _ _ _ _ _ _ _ _ _ _ _ _ _

/-- IPv4 headers: the document's own reading. -/
theorem rparse4_any (g o c n : Nat) (l : List UInt8) (hn : l.length = n) (hc : n ≤ c) (hcm : c ≤ 9223372036854775807) {w : World} (hb : Byt w g o l) :
    Calls Try.prog 49 #[.slice (some ⟨g, o, none⟩) n c] w fun e w' => e = .returned (.tuple #[.agg (vcells (parse4P l).1), .int .i64 (parse4P l).2]) ∧ Below w.heap.size w w' := by
  unfold parse4P
  rw [hn]
  by_cases h1 : n < 20
  · rw [if_pos h1]; exact r4_a g o c n l hn hc hcm h1 hb
  rw [if_neg h1]
  by_cases h2 : byN l 0 % 16 ≠ 5
  · rw [if_pos h2]; exact r4_b g o c n l hn hc hcm (by omega) h2 hb
  rw [if_neg h2]
  by_cases h3 : nbN l 2 2 < 20
  · rw [if_pos h3]; exact r4_c g o c n l hn hc hcm (by omega) (by omega) h3 hb
  rw [if_neg h3]
  by_cases h4 : n < nbN l 2 2
  · rw [if_pos h4]; exact r4_d g o c n l hn hc hcm (by omega) (by omega) (by omega) h4 hb
  rw [if_neg h4]
  by_cases h5 : sumP (l.take 20) ≠ 0
  · rw [if_pos h5]; exact r4_e g o c n l hn hc hcm (by omega) (by omega) (by omega) (by omega) h5 hb
  rw [if_neg h5]
  by_cases h6 : 32768 ≤ nbN l 6 2
  · rw [if_pos h6]; exact r4_f g o c n l hn hc hcm (by omega) (by omega) (by omega) (by omega) (by omega) h6 hb
  rw [if_neg h6]
  by_cases h7 : nbN l 6 2 / 8192 % 2 = 1
  · exact r4_g1 g o c n l hn hc hcm (by omega) (by omega) (by omega) (by omega) (by omega) (by omega) h7 hb
  · exact r4_g2 g o c n l hn hc hcm (by omega) (by omega) (by omega) (by omega) (by omega) (by omega) (by omega) hb
end Go.Proofs.Ytpmbdjdhgcjkfaa
