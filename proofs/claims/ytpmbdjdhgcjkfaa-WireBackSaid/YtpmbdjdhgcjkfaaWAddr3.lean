/- The document's own address of sixteen bytes; families; by-name template. -/
import Derived.Test.YtpmbdjdhgcjkfaaWAddr2
import Derived.Deep.RegionWith
namespace Go.Proofs.Ytpmbdjdhgcjkfaa
open Go.RowKit Go.Sort
set_option linter.unusedVariables false
set_option linter.unusedSimpArgs false

theorem orU32 (x y : Int) (h0 : 0 ≤ x) (h1 : x < 4294967296) (k0 : 0 ≤ y) (k : y < 4294967296) : bits .or .u64 (x * 4294967296) y = x * 4294967296 + y :=
  bits_join .u64 64 (Nat.le_refl _) (fun n h0 h1 => by rw [IntKind.wrap_u64]; omega) 32 (x * 4294967296) y (by omega) (by omega) (by omega) k0 k (by omega)

theorem numB_8 {l : List UInt8} (h : l.length = 8) : numB l = numB (l.take 4) * 4294967296 + numB (l.drop 4) := by
  have e : l = l.take 4 ++ l.drop 4 := (List.take_append_drop 4 l).symm
  have := numB_app (l.take 4) (l.drop 4)
  rw [← e] at this
  rw [this, List.length_drop, h]

set_option maxHeartbeats 1000000 in
set_option maxRecDepth 100000 in
/-- The document's own address of sixteen bytes. -/
theorem wide16 (g o c : Nat) (l : List UInt8) (hn : l.length = 16) (hc : 16 ≤ c) (hcm : c ≤ 9223372036854775807) {w : World} (hb : Byt w g o l) :
    Calls Try.prog 76 #[.slice (some ⟨g, o, none⟩) 16 c] w fun e w' => e = .returned (.agg #[.int .u64 (adrH l : Nat), .int .u64 (adrL l : Nat)]) ∧ Below w.heap.size w w' := by
  have e1 : adrH l = numB (l.take 8) := by unfold adrH; rw [if_neg (by omega)]
  have e2 : adrL l = numB ((l.drop 8).take 8) := by unfold adrL; rw [if_neg (by omega)]
  have x1 := numB_8 (l := l.take 8) (by rw [List.length_take]; omega)
  have x2 := numB_8 (l := (l.drop 8).take 8) (by rw [List.length_take, List.length_drop]; omega)
  have t1 : (l.take 8).take 4 = l.take 4 := by rw [List.take_take]; rfl
  have t2 : (l.take 8).drop 4 = (l.drop 4).take 4 := by rw [List.drop_take]
  have t3 : ((l.drop 8).take 8).take 4 = (l.drop 8).take 4 := by rw [List.take_take]; rfl
  have t4 : ((l.drop 8).take 8).drop 4 = (l.drop 12).take 4 := by rw [List.drop_take, List.drop_drop]
  rw [t1, t2] at x1
  rw [t3, t4] at x2
  have s1 : ∀ W, (Instr.slice 22 (.slice (some ⟨g, o, none⟩) 16 c) none (some (.int .i64 4)) none).run Try.prog W = .ok (.slice (some ⟨g, o, none⟩) 4 c) W := by
    intro W
    have hs : (sizeOf (Try.prog.elem 22)).run Try.prog W = .ok 1 W := by kernel_rfl
    rw [run_slice_h W 22 (some ⟨g, o, none⟩) 16 c (by kernel_rfl) .i64 4 (by omega) (by omega), hs]
    simp only [Result.andThen, sliced]
    rw [if_neg (by omega)]
    rfl
  have s2 : ∀ W, (Instr.slice 22 (.slice (some ⟨g, o, none⟩) 16 c) (some (.int .i64 4)) (some (.int .i64 8)) none).run Try.prog W = .ok (.slice (some ⟨g, o + 4, none⟩) 4 (c - 4)) W := cut_lh g o 16 c 4 8 (by omega) (by omega) (by omega) hcm
  have s3 : ∀ W, (Instr.slice 22 (.slice (some ⟨g, o, none⟩) 16 c) (some (.int .i64 8)) (some (.int .i64 12)) none).run Try.prog W = .ok (.slice (some ⟨g, o + 8, none⟩) 4 (c - 8)) W := cut_lh g o 16 c 8 12 (by omega) (by omega) (by omega) hcm
  have s4 : ∀ W, (Instr.slice 22 (.slice (some ⟨g, o, none⟩) 16 c) (some (.int .i64 12)) (some (.int .i64 16)) none).run Try.prog W = .ok (.slice (some ⟨g, o + 12, none⟩) 4 (c - 12)) W := cut_lh g o 16 c 12 16 (by omega) (by omega) (by omega) hcm
  have b0 := fun (W : World) (h : Below w.heap.size w W) => (hb.below h).sub 0 4
  simp only [List.drop_zero, Nat.add_zero] at b0
  have n1 := fun (W : World) (h : Below w.heap.size w W) => get_any g o c 4 (l.take 4) (by rw [List.length_take]; omega) (by omega) (b0 W h)
  have n2 := fun (W : World) (h : Below w.heap.size w W) => get_any g (o + 4) (c - 4) 4 ((l.drop 4).take 4) (by rw [List.length_take, List.length_drop]; omega) (by omega) ((hb.below h).sub 4 4)
  have n3 := fun (W : World) (h : Below w.heap.size w W) => get_any g (o + 8) (c - 8) 4 ((l.drop 8).take 4) (by rw [List.length_take, List.length_drop]; omega) (by omega) ((hb.below h).sub 8 4)
  have n4 := fun (W : World) (h : Below w.heap.size w W) => get_any g (o + 12) (c - 12) 4 ((l.drop 12).take 4) (by rw [List.length_take, List.length_drop]; omega) (by omega) ((hb.below h).sub 12 4)
  have q1 := numB_lt (l.take 4)
  have q2 := numB_lt ((l.drop 4).take 4)
  have q3 := numB_lt ((l.drop 8).take 4)
  have q4 := numB_lt ((l.drop 12).take 4)
  rw [show (l.take 4).length = 4 by rw [List.length_take]; omega] at q1
  rw [show ((l.drop 4).take 4).length = 4 by rw [List.length_take, List.length_drop]; omega] at q2
  rw [show ((l.drop 8).take 4).length = 4 by rw [List.length_take, List.length_drop]; omega] at q3
  rw [show ((l.drop 12).take 4).length = 4 by rw [List.length_take, List.length_drop]; omega] at q4
  rw [e1, e2, x1, x2]
  obtain ⟨A, hA⟩ : ∃ X, X = numB (l.take 4) := ⟨_, rfl⟩
  obtain ⟨B, hB⟩ : ∃ X, X = numB ((l.drop 4).take 4) := ⟨_, rfl⟩
  obtain ⟨C, hC⟩ : ∃ X, X = numB ((l.drop 8).take 4) := ⟨_, rfl⟩
  obtain ⟨D, hD⟩ : ∃ X, X = numB ((l.drop 12).take 4) := ⟨_, rfl⟩
  rw [← hA] at n1 q1 ⊢
  rw [← hB] at n2 q2 ⊢
  rw [← hC] at n3 q3 ⊢
  rw [← hD] at n4 q4 ⊢
  have iA : (A : Int) < 4294967296 := by omega
  have iB : (B : Int) < 4294967296 := by omega
  have iC : (C : Int) < 4294967296 := by omega
  have iD : (D : Int) < 4294967296 := by omega
  have o1 := orU32 (A : Int) (B : Int) (by omega) iA (by omega) iB
  have o2 := orU32 (C : Int) (D : Int) (by omega) iC (by omega) iD
  have v1 : IntKind.u64.wrap (A : Int) = (A : Int) := by rw [IntKind.wrap_u64]; omega
  have v2 : IntKind.u64.wrap (B : Int) = (B : Int) := by rw [IntKind.wrap_u64]; omega
  have v3 : IntKind.u64.wrap (C : Int) = (C : Int) := by rw [IntKind.wrap_u64]; omega
  have v4 : IntKind.u64.wrap (D : Int) = (D : Int) := by rw [IntKind.wrap_u64]; omega
  have v5 : IntKind.u64.wrap ((A : Int) * 4294967296) = (A : Int) * 4294967296 := by rw [IntKind.wrap_u64]; omega
  have v6 : IntKind.u64.wrap ((C : Int) * 4294967296) = (C : Int) * 4294967296 := by rw [IntKind.wrap_u64]; omega
  clear hA hB hC hD e1 e2 x1 x2 t1 t2 t3 t4 b0 hb hn q1 q2 q3 q4
  go_enter Try.func76, Try.ntmps76
  go_wp2
  obtain ⟨w1, hw1⟩ : ∃ v, v = w.alloc (.cells #[.int .u64 0, .int .u64 0] 25) := ⟨_, rfl⟩
  have bw1 : Below w.heap.size w w1 := by rw [hw1]; exact Below.al (Below.refl _ _) _
  have hH1 : w1.heap[w.heap.size]? = some (.cells #[.int .u64 0, .int .u64 0] 25 (0, 0)) := by rw [hw1]; exact al_neww rfl _
  obtain ⟨c0, c1, g0, g1⟩ := cells2 hH1
  have m1 := n1 w1.drew (Below.dr bw1)
  have m2 := n2 w1.drew (Below.dr bw1)
  have m3 := n3 w1.drew (Below.dr bw1)
  have m4 := n4 w1.drew (Below.dr bw1)
  rw [← hw1]
  clear hw1 n1 n2 n3 n4
  go_region_with (go_at_call 44; (first | (with_reducible refine m1.mono ?_) | (with_reducible refine m2.mono ?_) | (with_reducible refine m3.mono ?_) | (with_reducible refine m4.mono ?_)); rintro e w' ⟨rfl, hw'⟩; rw [← hw']; clear hw' w')
  all_goals (
    go_wp2
    refine bodyPost_ret_by (results_cell_row Try.results76 _ _ w.heap.size 25 #[.int .u64 ((A : Int) * 4294967296 + (B : Int)), .int .u64 ((C : Int) * 4294967296 + (D : Int))] (0, 0) _ rfl (heap_set2w (w := w1.drew) hH1 _ _) Try.underlying25 rfl (by kernel_rfl)) rfl ⟨by simp, ?_⟩
    exact below_set (below_set (Below.dr bw1) (Nat.le_refl _) 0 _) (Nat.le_refl _) 1 _)
end Go.Proofs.Ytpmbdjdhgcjkfaa
