/- What stands in the headers of both families; by-name template (gen_wview.py). -/
import Derived.Test.YtpmbdjdhgcjkfaaWAddrs
import Derived.StillTailTactics
namespace Go.Proofs.Ytpmbdjdhgcjkfaa
open Go.RowKit Go.Sort
set_option linter.unusedVariables false
set_option linter.unusedSimpArgs false

theorem heap_set13w {w : World} {B : Nat} {x0 x1 x2 x3 x4 x5 x6 x7 x8 x9 x10 x11 x12 : Value} {t : TypeId} {fz : Nat × Nat} (h : w.heap[B]? = some (.cells #[x0, x1, x2, x3, x4, x5, x6, x7, x8, x9, x10, x11, x12] t fz)) (y0 y1 y2 y3 y4 y5 y6 y7 y8 y9 y10 y11 y12 : Value) :
    (((((((((((((w.setCell ⟨B, 0, none⟩ y0).setCell ⟨B, 1, none⟩ y1).setCell ⟨B, 2, none⟩ y2).setCell ⟨B, 3, none⟩ y3).setCell ⟨B, 4, none⟩ y4).setCell ⟨B, 5, none⟩ y5).setCell ⟨B, 6, none⟩ y6).setCell ⟨B, 7, none⟩ y7).setCell ⟨B, 8, none⟩ y8).setCell ⟨B, 9, none⟩ y9).setCell ⟨B, 10, none⟩ y10).setCell ⟨B, 11, none⟩ y11).setCell ⟨B, 12, none⟩ y12).heap[B]? = some (.cells #[y0, y1, y2, y3, y4, y5, y6, y7, y8, y9, y10, y11, y12] t fz) := by
  rw [heap_setw (heap_setw (heap_setw (heap_setw (heap_setw (heap_setw (heap_setw (heap_setw (heap_setw (heap_setw (heap_setw (heap_setw (heap_setw h 0 _) 1 _) 2 _) 3 _) 4 _) 5 _) 6 _) 7 _) 8 _) 9 _) 10 _) 11 _) 12 _]
  kernel_rfl
theorem below_set13 {N B : Nat} {w w1 : World} (h : Below N w w1) (hB : N ≤ B) (y0 y1 y2 y3 y4 y5 y6 y7 y8 y9 y10 y11 y12 : Value) : Below N w (((((((((((((w1.setCell ⟨B, 0, none⟩ y0).setCell ⟨B, 1, none⟩ y1).setCell ⟨B, 2, none⟩ y2).setCell ⟨B, 3, none⟩ y3).setCell ⟨B, 4, none⟩ y4).setCell ⟨B, 5, none⟩ y5).setCell ⟨B, 6, none⟩ y6).setCell ⟨B, 7, none⟩ y7).setCell ⟨B, 8, none⟩ y8).setCell ⟨B, 9, none⟩ y9).setCell ⟨B, 10, none⟩ y10).setCell ⟨B, 11, none⟩ y11).setCell ⟨B, 12, none⟩ y12) := by
  exact (below_set (below_set (below_set (below_set (below_set (below_set (below_set (below_set (below_set (below_set (below_set (below_set (below_set h hB 0 _) hB 1 _) hB 2 _) hB 3 _) hB 4 _) hB 5 _) hB 6 _) hB 7 _) hB 8 _) hB 9 _) hB 10 _) hB 11 _) hB 12 _)
theorem cells13 {w : World} {B : Nat} {x0 x1 x2 x3 x4 x5 x6 x7 x8 x9 x10 x11 x12 : Value} {t : TypeId} (h : w.heap[B]? = some (.cells #[x0, x1, x2, x3, x4, x5, x6, x7, x8, x9, x10, x11, x12] t (0, 0))) : (w.cell? ⟨B, 0, none⟩ = some x0 ∧ w.cell? ⟨B, 1, none⟩ = some x1 ∧ w.cell? ⟨B, 2, none⟩ = some x2 ∧ w.cell? ⟨B, 3, none⟩ = some x3 ∧ w.cell? ⟨B, 4, none⟩ = some x4 ∧ w.cell? ⟨B, 5, none⟩ = some x5 ∧ w.cell? ⟨B, 6, none⟩ = some x6 ∧ w.cell? ⟨B, 7, none⟩ = some x7 ∧ w.cell? ⟨B, 8, none⟩ = some x8 ∧ w.cell? ⟨B, 9, none⟩ = some x9 ∧ w.cell? ⟨B, 10, none⟩ = some x10 ∧ w.cell? ⟨B, 11, none⟩ = some x11 ∧ w.cell? ⟨B, 12, none⟩ = some x12) ∧ (w.frozen? ⟨B, 0, none⟩ = false ∧ w.frozen? ⟨B, 1, none⟩ = false ∧ w.frozen? ⟨B, 2, none⟩ = false ∧ w.frozen? ⟨B, 3, none⟩ = false ∧ w.frozen? ⟨B, 4, none⟩ = false ∧ w.frozen? ⟨B, 5, none⟩ = false ∧ w.frozen? ⟨B, 6, none⟩ = false ∧ w.frozen? ⟨B, 7, none⟩ = false ∧ w.frozen? ⟨B, 8, none⟩ = false ∧ w.frozen? ⟨B, 9, none⟩ = false ∧ w.frozen? ⟨B, 10, none⟩ = false ∧ w.frozen? ⟨B, 11, none⟩ = false ∧ w.frozen? ⟨B, 12, none⟩ = false) := by
  refine ⟨⟨?_, ?_, ?_, ?_, ?_, ?_, ?_, ?_, ?_, ?_, ?_, ?_, ?_⟩, ?_, ?_, ?_, ?_, ?_, ?_, ?_, ?_, ?_, ?_, ?_, ?_, ?_⟩ <;> simp [World.cell?, World.frozen?, h]

set_option maxHeartbeats 2000000 in
set_option maxRecDepth 100000 in
theorem view_4 (g o c n t : Nat) (l : List UInt8) (hn : l.length = n) (h2 : 20 ≤ n) (hc : n ≤ c) (hcm : c ≤ 9223372036854775807) {w : World} (hb : Byt w g o l) :
    Calls Try.prog 83 #[.agg (famCells false), .slice (some ⟨g, o, none⟩) n c, .int .i64 (t : Int)] w fun e w' => e = .returned (.agg (vcells (view4 l t))) ∧ Below w.heap.size w w' := by
  have ca := fun (W : World) (h : Below w.heap.size w W) => addrs4 g o c n l hn h2 hc hcm (hb.below h)
  obtain ⟨x, hx⟩ : ∃ x, l[8]? = some x := ⟨l[8]'(by omega), List.getElem?_eq_getElem _⟩
  obtain ⟨y, hy⟩ : ∃ x, l[9]? = some x := ⟨l[9]'(by omega), List.getElem?_eq_getElem _⟩
  have cx := hb 8 x hx
  have cy := hb 9 y hy
  have ex : byN l 8 = x.toNat := by unfold byN; rw [List.getD_eq_getElem?_getD, hx]; rfl
  have ey : byN l 9 = y.toNat := by unfold byN; rw [List.getD_eq_getElem?_getD, hy]; rfl
  have x8 := x.toNat_lt
  have y8 := y.toNat_lt
  simp only [vcells, view4]
  rw [ex, ey]
  clear ex ey hx hy
  generalize x.toNat = P at cx x8 ⊢
  generalize y.toNat = Q at cy y8 ⊢
  generalize adrH ((l.drop 12).take 4) = X0 at ca ⊢
  generalize adrL ((l.drop 12).take 4) = X1 at ca ⊢
  generalize adrH ((l.drop 16).take 4) = Y0 at ca ⊢
  generalize adrL ((l.drop 16).take 4) = Y1 at ca ⊢
  have x8i : (P : Int) < 256 := by omega
  have y8i : (Q : Int) < 256 := by omega
  clear hb hn
  have hni : (20 : Int) ≤ (n : Int) := by omega
  have hblt := World.block_lt_of_cell? _ _ cx
  simp only at hblt
  simp only [famCells, if_true, if_false, Bool.false_eq_true] at ca ⊢
  go_enter Try.func83, Try.ntmps83
  go_wp2_with (go_at_call 87; refine (ca _ (Below.al (Below.al (Below.refl _ _) _) _)).mono ?_; rintro e w2 ⟨rfl, hb2⟩; refine Hid.out ?_)
  have bw2 : Below w.heap.size w w2 := bel_via (Below.al (Below.al (Below.refl _ _) _) _) hb2
  have hF2 : w2.heap[w.heap.size]? = some (.cells #[.bool false, .int .i64 20, .int .i64 8, .int .i64 9, .int .i64 12, .int .i64 4] 69 (0, 0)) := by rw [hb2.block _ (by simp; omega)]; exact (al_oldw (by simp) _).trans (al_neww rfl _)
  have hR2 : w2.heap[w.heap.size + 1]? = some (.cells #[.bool false, .int .i64 0, .int .i64 0, .int .i64 0, .int .i64 0, .int .u64 0, .int .u64 0, .int .u64 0, .int .u64 0, .bool false, .int .u32 0, .int .i64 0, .bool false] 40 (0, 0)) := by rw [hb2.block _ (by simp)]; exact al_neww (by simp) _
  have hz2 : w.heap.size + 1 < w2.heap.size := (Array.getElem?_eq_some_iff.1 hR2).1
  clear hb2 ca
  refine Lib.hid ?_
  go_wp2
  obtain ⟨w3, hw3⟩ : ∃ v, v = w2.alloc (.cells #[.int .u64 (X0 : Int), .int .u64 (X1 : Int), .int .u64 (Y0 : Int), .int .u64 (Y1 : Int)] 98) := ⟨_, rfl⟩
  have hL3 : w3.heap[w2.heap.size]? = some (.cells #[.int .u64 (X0 : Int), .int .u64 (X1 : Int), .int .u64 (Y0 : Int), .int .u64 (Y1 : Int)] 98 (0, 0)) := by rw [hw3]; exact al_neww rfl _
  have hF3 : w3.heap[w.heap.size]? = some (.cells #[.bool false, .int .i64 20, .int .i64 8, .int .i64 9, .int .i64 12, .int .i64 4] 69 (0, 0)) := by rw [hw3, al_oldw (by omega)]; exact hF2
  have hR3 : w3.heap[w.heap.size + 1]? = some (.cells #[.bool false, .int .i64 0, .int .i64 0, .int .i64 0, .int .i64 0, .int .u64 0, .int .u64 0, .int .u64 0, .int .u64 0, .bool false, .int .u32 0, .int .i64 0, .bool false] 40 (0, 0)) := by rw [hw3, al_oldw hz2]; exact hR2
  have bw3 : Below w.heap.size w w3 := by rw [hw3]; exact Below.al bw2 _
  have cx3 := keepc bw3 cx
  have cy3 := keepc bw3 cy
  obtain ⟨⟨f0, f1, f2, f3, f4, f5⟩, _⟩ := cells6 hF3
  obtain ⟨⟨a0, a1, a2, a3⟩, _⟩ := cells4 hL3
  rw [← hw3]
  clear hw3 hF2 hR2 bw2 cx cy
  have u1 : IntKind.i64.wrap (P : Int) = (P : Int) := by rw [IntKind.wrap_i64]; omega
  have u2 : IntKind.i64.wrap (Q : Int) = (Q : Int) := by rw [IntKind.wrap_i64]; omega
  have i1 : (8 : Int) < (n : Int) := by omega
  have i2 : (9 : Int) < (n : Int) := by omega
  have i3 : 8 < n := by omega
  have i4 : 9 < n := by omega
  go_still_tail 22, (by kernel_rfl)
  change wpList _ _ _ _ _ w3.drew
  obtain ⟨w4, hw4⟩ : ∃ v, v = w3.drew := ⟨_, rfl⟩
  have hR4 : w4.heap[w.heap.size + 1]? = some (.cells #[.bool false, .int .i64 0, .int .i64 0, .int .i64 0, .int .i64 0, .int .u64 0, .int .u64 0, .int .u64 0, .int .u64 0, .bool false, .int .u32 0, .int .i64 0, .bool false] 40 (0, 0)) := by rw [hw4]; exact hR3
  have bw4 : Below w.heap.size w w4 := by rw [hw4]; exact Below.dr bw3
  rw [← hw4]
  clear hw4 hR3 hF3 hL3 bw3 f0 f1 f2 f3 f4 f5 a0 a1 a2 a3 cx3 cy3
  obtain ⟨⟨r0, r1, r2, r3, r4, r5, r6, r7, r8, r9, r10, r11, r12⟩, q0, q1, q2, q3, q4, q5, q6, q7, q8, q9, q10, q11, q12⟩ := cells13 hR4
  go_wp2
  refine bodyPost_ret_by (results_cell_row Try.results83 _ _ (w.heap.size + 1) 40 #[.bool false, .int .i64 20, .int .i64 (t : Int), .int .i64 (P : Int), .int .i64 (Q : Int), .int .u64 (X0 : Int), .int .u64 (X1 : Int), .int .u64 (Y0 : Int), .int .u64 (Y1 : Int), .bool false, .int .u32 0, .int .i64 0, .bool false] (0, 0) _ rfl (heap_set13w hR4 (.bool false) (.int .i64 20) (.int .i64 (t : Int)) (.int .i64 (P : Int)) (.int .i64 (Q : Int)) (.int .u64 (X0 : Int)) (.int .u64 (X1 : Int)) (.int .u64 (Y0 : Int)) (.int .u64 (Y1 : Int)) (.bool false) (.int .u32 0) (.int .i64 0) (.bool false)) Try.underlying40 rfl (by kernel_rfl)) rfl ⟨rfl, ?_⟩
  exact below_set13 bw4 (by omega) _ _ _ _ _ _ _ _ _ _ _ _ _

set_option maxHeartbeats 2000000 in
set_option maxRecDepth 100000 in
theorem view_6 (g o c n t : Nat) (l : List UInt8) (hn : l.length = n) (h2 : 40 ≤ n) (hc : n ≤ c) (hcm : c ≤ 9223372036854775807) {w : World} (hb : Byt w g o l) :
    Calls Try.prog 83 #[.agg (famCells true), .slice (some ⟨g, o, none⟩) n c, .int .i64 (t : Int)] w fun e w' => e = .returned (.agg (vcells (view6 l t))) ∧ Below w.heap.size w w' := by
  have ca := fun (W : World) (h : Below w.heap.size w W) => addrs6 g o c n l hn h2 hc hcm (hb.below h)
  obtain ⟨x, hx⟩ : ∃ x, l[7]? = some x := ⟨l[7]'(by omega), List.getElem?_eq_getElem _⟩
  obtain ⟨y, hy⟩ : ∃ x, l[6]? = some x := ⟨l[6]'(by omega), List.getElem?_eq_getElem _⟩
  have cx := hb 7 x hx
  have cy := hb 6 y hy
  have ex : byN l 7 = x.toNat := by unfold byN; rw [List.getD_eq_getElem?_getD, hx]; rfl
  have ey : byN l 6 = y.toNat := by unfold byN; rw [List.getD_eq_getElem?_getD, hy]; rfl
  have x8 := x.toNat_lt
  have y8 := y.toNat_lt
  simp only [vcells, view6]
  rw [ex, ey]
  clear ex ey hx hy
  generalize x.toNat = P at cx x8 ⊢
  generalize y.toNat = Q at cy y8 ⊢
  generalize adrH ((l.drop 8).take 16) = X0 at ca ⊢
  generalize adrL ((l.drop 8).take 16) = X1 at ca ⊢
  generalize adrH ((l.drop 24).take 16) = Y0 at ca ⊢
  generalize adrL ((l.drop 24).take 16) = Y1 at ca ⊢
  have x8i : (P : Int) < 256 := by omega
  have y8i : (Q : Int) < 256 := by omega
  clear hb hn
  have hni : (40 : Int) ≤ (n : Int) := by omega
  have hblt := World.block_lt_of_cell? _ _ cx
  simp only at hblt
  simp only [famCells, if_true, if_false, Bool.false_eq_true] at ca ⊢
  go_enter Try.func83, Try.ntmps83
  go_wp2_with (go_at_call 87; refine (ca _ (Below.al (Below.al (Below.refl _ _) _) _)).mono ?_; rintro e w2 ⟨rfl, hb2⟩; refine Hid.out ?_)
  have bw2 : Below w.heap.size w w2 := bel_via (Below.al (Below.al (Below.refl _ _) _) _) hb2
  have hF2 : w2.heap[w.heap.size]? = some (.cells #[.bool true, .int .i64 40, .int .i64 7, .int .i64 6, .int .i64 8, .int .i64 16] 69 (0, 0)) := by rw [hb2.block _ (by simp; omega)]; exact (al_oldw (by simp) _).trans (al_neww rfl _)
  have hR2 : w2.heap[w.heap.size + 1]? = some (.cells #[.bool false, .int .i64 0, .int .i64 0, .int .i64 0, .int .i64 0, .int .u64 0, .int .u64 0, .int .u64 0, .int .u64 0, .bool false, .int .u32 0, .int .i64 0, .bool false] 40 (0, 0)) := by rw [hb2.block _ (by simp)]; exact al_neww (by simp) _
  have hz2 : w.heap.size + 1 < w2.heap.size := (Array.getElem?_eq_some_iff.1 hR2).1
  clear hb2 ca
  refine Lib.hid ?_
  go_wp2
  obtain ⟨w3, hw3⟩ : ∃ v, v = w2.alloc (.cells #[.int .u64 (X0 : Int), .int .u64 (X1 : Int), .int .u64 (Y0 : Int), .int .u64 (Y1 : Int)] 98) := ⟨_, rfl⟩
  have hL3 : w3.heap[w2.heap.size]? = some (.cells #[.int .u64 (X0 : Int), .int .u64 (X1 : Int), .int .u64 (Y0 : Int), .int .u64 (Y1 : Int)] 98 (0, 0)) := by rw [hw3]; exact al_neww rfl _
  have hF3 : w3.heap[w.heap.size]? = some (.cells #[.bool true, .int .i64 40, .int .i64 7, .int .i64 6, .int .i64 8, .int .i64 16] 69 (0, 0)) := by rw [hw3, al_oldw (by omega)]; exact hF2
  have hR3 : w3.heap[w.heap.size + 1]? = some (.cells #[.bool false, .int .i64 0, .int .i64 0, .int .i64 0, .int .i64 0, .int .u64 0, .int .u64 0, .int .u64 0, .int .u64 0, .bool false, .int .u32 0, .int .i64 0, .bool false] 40 (0, 0)) := by rw [hw3, al_oldw hz2]; exact hR2
  have bw3 : Below w.heap.size w w3 := by rw [hw3]; exact Below.al bw2 _
  have cx3 := keepc bw3 cx
  have cy3 := keepc bw3 cy
  obtain ⟨⟨f0, f1, f2, f3, f4, f5⟩, _⟩ := cells6 hF3
  obtain ⟨⟨a0, a1, a2, a3⟩, _⟩ := cells4 hL3
  rw [← hw3]
  clear hw3 hF2 hR2 bw2 cx cy
  have u1 : IntKind.i64.wrap (P : Int) = (P : Int) := by rw [IntKind.wrap_i64]; omega
  have u2 : IntKind.i64.wrap (Q : Int) = (Q : Int) := by rw [IntKind.wrap_i64]; omega
  have i1 : (7 : Int) < (n : Int) := by omega
  have i2 : (6 : Int) < (n : Int) := by omega
  have i3 : 7 < n := by omega
  have i4 : 6 < n := by omega
  go_still_tail 22, (by kernel_rfl)
  change wpList _ _ _ _ _ w3.drew
  obtain ⟨w4, hw4⟩ : ∃ v, v = w3.drew := ⟨_, rfl⟩
  have hR4 : w4.heap[w.heap.size + 1]? = some (.cells #[.bool false, .int .i64 0, .int .i64 0, .int .i64 0, .int .i64 0, .int .u64 0, .int .u64 0, .int .u64 0, .int .u64 0, .bool false, .int .u32 0, .int .i64 0, .bool false] 40 (0, 0)) := by rw [hw4]; exact hR3
  have bw4 : Below w.heap.size w w4 := by rw [hw4]; exact Below.dr bw3
  rw [← hw4]
  clear hw4 hR3 hF3 hL3 bw3 f0 f1 f2 f3 f4 f5 a0 a1 a2 a3 cx3 cy3
  obtain ⟨⟨r0, r1, r2, r3, r4, r5, r6, r7, r8, r9, r10, r11, r12⟩, q0, q1, q2, q3, q4, q5, q6, q7, q8, q9, q10, q11, q12⟩ := cells13 hR4
  go_wp2
  refine bodyPost_ret_by (results_cell_row Try.results83 _ _ (w.heap.size + 1) 40 #[.bool true, .int .i64 40, .int .i64 (t : Int), .int .i64 (P : Int), .int .i64 (Q : Int), .int .u64 (X0 : Int), .int .u64 (X1 : Int), .int .u64 (Y0 : Int), .int .u64 (Y1 : Int), .bool false, .int .u32 0, .int .i64 0, .bool false] (0, 0) _ rfl (heap_set13w hR4 (.bool true) (.int .i64 40) (.int .i64 (t : Int)) (.int .i64 (P : Int)) (.int .i64 (Q : Int)) (.int .u64 (X0 : Int)) (.int .u64 (X1 : Int)) (.int .u64 (Y0 : Int)) (.int .u64 (Y1 : Int)) (.bool false) (.int .u32 0) (.int .i64 0) (.bool false)) Try.underlying40 rfl (by kernel_rfl)) rfl ⟨rfl, ?_⟩
  exact below_set13 bw4 (by omega) _ _ _ _ _ _ _ _ _ _ _ _ _
end Go.Proofs.Ytpmbdjdhgcjkfaa
