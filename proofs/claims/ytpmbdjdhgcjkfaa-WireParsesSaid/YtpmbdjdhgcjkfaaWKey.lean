/- Key, of the program and of the document; by-name template (gen_wkey.py). -/
import Derived.Test.YtpmbdjdhgcjkfaaWFields
namespace Go.Proofs.Ytpmbdjdhgcjkfaa
open Go.RowKit Go.Sort
set_option linter.unusedVariables false
set_option linter.unusedSimpArgs false

def kcells (v : VW) (t : TW) : Array Value := #[.int .i64 v.proto, .int .u64 v.srcH, .int .u64 v.srcL, .int .u64 v.dstH, .int .u64 v.dstL, .int .i64 t.sport, .int .i64 t.dport]
theorem heap_set7w {w : World} {B : Nat} {x0 x1 x2 x3 x4 x5 x6 : Value} {t : TypeId} {fz : Nat × Nat} (h : w.heap[B]? = some (.cells #[x0, x1, x2, x3, x4, x5, x6] t fz)) (y0 y1 y2 y3 y4 y5 y6 : Value) :
    (((((((w.setCell ⟨B, 0, none⟩ y0).setCell ⟨B, 1, none⟩ y1).setCell ⟨B, 2, none⟩ y2).setCell ⟨B, 3, none⟩ y3).setCell ⟨B, 4, none⟩ y4).setCell ⟨B, 5, none⟩ y5).setCell ⟨B, 6, none⟩ y6).heap[B]? = some (.cells #[y0, y1, y2, y3, y4, y5, y6] t fz) := by
  rw [heap_setw (heap_setw (heap_setw (heap_setw (heap_setw (heap_setw (heap_setw h 0 _) 1 _) 2 _) 3 _) 4 _) 5 _) 6 _]
  kernel_rfl
theorem below_set7 {N B : Nat} {w w1 : World} (h : Below N w w1) (hB : N ≤ B) (y0 y1 y2 y3 y4 y5 y6 : Value) : Below N w (((((((w1.setCell ⟨B, 0, none⟩ y0).setCell ⟨B, 1, none⟩ y1).setCell ⟨B, 2, none⟩ y2).setCell ⟨B, 3, none⟩ y3).setCell ⟨B, 4, none⟩ y4).setCell ⟨B, 5, none⟩ y5).setCell ⟨B, 6, none⟩ y6) := by
  exact (below_set (below_set (below_set (below_set (below_set (below_set (below_set h hB 0 _) hB 1 _) hB 2 _) hB 3 _) hB 4 _) hB 5 _) hB 6 _)
theorem cells7 {w : World} {B : Nat} {x0 x1 x2 x3 x4 x5 x6 : Value} {t : TypeId} (h : w.heap[B]? = some (.cells #[x0, x1, x2, x3, x4, x5, x6] t (0, 0))) : (w.cell? ⟨B, 0, none⟩ = some x0 ∧ w.cell? ⟨B, 1, none⟩ = some x1 ∧ w.cell? ⟨B, 2, none⟩ = some x2 ∧ w.cell? ⟨B, 3, none⟩ = some x3 ∧ w.cell? ⟨B, 4, none⟩ = some x4 ∧ w.cell? ⟨B, 5, none⟩ = some x5 ∧ w.cell? ⟨B, 6, none⟩ = some x6) ∧ (w.frozen? ⟨B, 0, none⟩ = false ∧ w.frozen? ⟨B, 1, none⟩ = false ∧ w.frozen? ⟨B, 2, none⟩ = false ∧ w.frozen? ⟨B, 3, none⟩ = false ∧ w.frozen? ⟨B, 4, none⟩ = false ∧ w.frozen? ⟨B, 5, none⟩ = false ∧ w.frozen? ⟨B, 6, none⟩ = false) := by
  refine ⟨⟨?_, ?_, ?_, ?_, ?_, ?_, ?_⟩, ?_, ?_, ?_, ?_, ?_, ?_, ?_⟩ <;> simp [World.cell?, World.frozen?, h]

set_option maxHeartbeats 1000000 in
set_option maxRecDepth 100000 in
theorem key_any (v : VW) (t : TW) (w : World) : Calls Try.prog 19 #[.agg (vcells v), .agg (tcells t)] w fun e w' => e = .returned (.agg (kcells v t)) ∧ Below w.heap.size w w' := by
  obtain ⟨vv, vhd, vtt, vttl, vp, vsH, vsL, vdH, vdL, vfr, vid, voff, vmo⟩ := v
  obtain ⟨ts, td, tq, ta, tf, tw, tt, tc, th, tx⟩ := t
  simp only [vcells, tcells, kcells]
  go_enter Try.func19, Try.ntmps19
  go_wp2_with (with_reducible refine stop_op (o := ⟨some 6, _, _, _, _, _⟩) ?_)
  obtain ⟨w3, hw3⟩ : ∃ x, x = ((w.alloc (.cells #[.bool vv, .int .i64 vhd, .int .i64 vtt, .int .i64 vttl, .int .i64 vp, .int .u64 vsH, .int .u64 vsL, .int .u64 vdH, .int .u64 vdL, .bool vfr, .int .u32 vid, .int .i64 voff, .bool vmo] 40)).alloc (.cells #[.int .i64 ts, .int .i64 td, .int .u32 tq, .int .u32 ta, .int .i64 tf, .int .i64 tw, .int .i64 tt, .int .i64 tc, .int .i64 th, .int .i64 tx] 50)).alloc (.cells #[.int .i64 0, .int .u64 0, .int .u64 0, .int .u64 0, .int .u64 0, .int .i64 0, .int .i64 0] 27) := ⟨_, rfl⟩
  have hV : w3.heap[w.heap.size]? = some (.cells #[.bool vv, .int .i64 vhd, .int .i64 vtt, .int .i64 vttl, .int .i64 vp, .int .u64 vsH, .int .u64 vsL, .int .u64 vdH, .int .u64 vdL, .bool vfr, .int .u32 vid, .int .i64 voff, .bool vmo] 40 (0, 0)) := by rw [hw3]; exact (al_oldw (by first | (simp; done) | (simp; omega)) _).trans ((al_oldw (by first | (simp; done) | (simp; omega)) _).trans (al_neww rfl _))
  have hT : w3.heap[w.heap.size + 1]? = some (.cells #[.int .i64 ts, .int .i64 td, .int .u32 tq, .int .u32 ta, .int .i64 tf, .int .i64 tw, .int .i64 tt, .int .i64 tc, .int .i64 th, .int .i64 tx] 50 (0, 0)) := by rw [hw3]; exact (al_oldw (by first | (simp; done) | (simp; omega)) _).trans (al_neww (by simp) _)
  have hR : w3.heap[w.heap.size + 1 + 1]? = some (.cells #[.int .i64 0, .int .u64 0, .int .u64 0, .int .u64 0, .int .u64 0, .int .i64 0, .int .i64 0] 27 (0, 0)) := by rw [hw3]; exact al_neww (by simp) _
  have bw : Below w.heap.size w w3 := by rw [hw3]; exact Below.al (Below.al (Below.al (Below.refl _ _) _) _) _
  rw [← hw3]
  clear hw3
  obtain ⟨⟨v0, v1, v2, v3, v4, v5, v6, v7, v8, v9, v10, v11, v12⟩, _⟩ := cells13 hV
  obtain ⟨⟨t0, t1, t2, t3, t4, t5, t6, t7, t8, t9⟩, _⟩ := cells10 hT
  obtain ⟨⟨r0, r1, r2, r3, r4, r5, r6⟩, q0, q1, q2, q3, q4, q5, q6⟩ := cells7 hR
  refine Lib.hid ?_
  go_wp2
  refine bodyPost_ret_by (results_cell_row Try.results19 _ _ (w.heap.size + 1 + 1) 27 #[.int .i64 vp, .int .u64 vsH, .int .u64 vsL, .int .u64 vdH, .int .u64 vdL, .int .i64 ts, .int .i64 td] (0, 0) _ rfl (heap_set7w hR (.int .i64 vp) (.int .u64 vsH) (.int .u64 vsL) (.int .u64 vdH) (.int .u64 vdL) (.int .i64 ts) (.int .i64 td)) Try.underlying27 rfl (by kernel_rfl)) rfl ⟨rfl, ?_⟩
  exact below_set7 bw (by omega) _ _ _ _ _ _ _

set_option maxHeartbeats 1000000 in
set_option maxRecDepth 100000 in
theorem rkey_any (v : VW) (t : TW) (w : World) : Calls Try.prog 20 #[.agg (vcells v), .agg (tcells t)] w fun e w' => e = .returned (.agg (kcells v t)) ∧ Below w.heap.size w w' := by
  obtain ⟨vv, vhd, vtt, vttl, vp, vsH, vsL, vdH, vdL, vfr, vid, voff, vmo⟩ := v
  obtain ⟨ts, td, tq, ta, tf, tw, tt, tc, th, tx⟩ := t
  simp only [vcells, tcells, kcells]
  go_enter Try.func20, Try.ntmps20
  go_wp2_with (with_reducible refine stop_op (o := ⟨some 6, _, _, _, _, _⟩) ?_)
  obtain ⟨w3, hw3⟩ : ∃ x, x = ((w.alloc (.cells #[.bool vv, .int .i64 vhd, .int .i64 vtt, .int .i64 vttl, .int .i64 vp, .int .u64 vsH, .int .u64 vsL, .int .u64 vdH, .int .u64 vdL, .bool vfr, .int .u32 vid, .int .i64 voff, .bool vmo] 43)).alloc (.cells #[.int .i64 ts, .int .i64 td, .int .u32 tq, .int .u32 ta, .int .i64 tf, .int .i64 tw, .int .i64 tt, .int .i64 tc, .int .i64 th, .int .i64 tx] 53)).alloc (.cells #[.int .i64 0, .int .u64 0, .int .u64 0, .int .u64 0, .int .u64 0, .int .i64 0, .int .i64 0] 27) := ⟨_, rfl⟩
  have hV : w3.heap[w.heap.size]? = some (.cells #[.bool vv, .int .i64 vhd, .int .i64 vtt, .int .i64 vttl, .int .i64 vp, .int .u64 vsH, .int .u64 vsL, .int .u64 vdH, .int .u64 vdL, .bool vfr, .int .u32 vid, .int .i64 voff, .bool vmo] 43 (0, 0)) := by rw [hw3]; exact (al_oldw (by first | (simp; done) | (simp; omega)) _).trans ((al_oldw (by first | (simp; done) | (simp; omega)) _).trans (al_neww rfl _))
  have hT : w3.heap[w.heap.size + 1]? = some (.cells #[.int .i64 ts, .int .i64 td, .int .u32 tq, .int .u32 ta, .int .i64 tf, .int .i64 tw, .int .i64 tt, .int .i64 tc, .int .i64 th, .int .i64 tx] 53 (0, 0)) := by rw [hw3]; exact (al_oldw (by first | (simp; done) | (simp; omega)) _).trans (al_neww (by simp) _)
  have hR : w3.heap[w.heap.size + 1 + 1]? = some (.cells #[.int .i64 0, .int .u64 0, .int .u64 0, .int .u64 0, .int .u64 0, .int .i64 0, .int .i64 0] 27 (0, 0)) := by rw [hw3]; exact al_neww (by simp) _
  have bw : Below w.heap.size w w3 := by rw [hw3]; exact Below.al (Below.al (Below.al (Below.refl _ _) _) _) _
  rw [← hw3]
  clear hw3
  obtain ⟨⟨v0, v1, v2, v3, v4, v5, v6, v7, v8, v9, v10, v11, v12⟩, _⟩ := cells13 hV
  obtain ⟨⟨t0, t1, t2, t3, t4, t5, t6, t7, t8, t9⟩, _⟩ := cells10 hT
  obtain ⟨⟨r0, r1, r2, r3, r4, r5, r6⟩, q0, q1, q2, q3, q4, q5, q6⟩ := cells7 hR
  refine Lib.hid ?_
  go_wp2
  refine bodyPost_ret_by (results_cell_row Try.results20 _ _ (w.heap.size + 1 + 1) 27 #[.int .i64 vp, .int .u64 vsH, .int .u64 vsL, .int .u64 vdH, .int .u64 vdL, .int .i64 ts, .int .i64 td] (0, 0) _ rfl (heap_set7w hR (.int .i64 vp) (.int .u64 vsH) (.int .u64 vsL) (.int .u64 vdH) (.int .u64 vdL) (.int .i64 ts) (.int .i64 td)) Try.underlying27 rfl (by kernel_rfl)) rfl ⟨rfl, ?_⟩
  exact below_set7 bw (by omega) _ _ _ _ _ _ _
end Go.Proofs.Ytpmbdjdhgcjkfaa
