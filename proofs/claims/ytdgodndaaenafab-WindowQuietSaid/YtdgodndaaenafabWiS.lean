/- A side is written; the state behind; by-name template (gen_wi2.py). -/
import Derived.Test.YtdgodndaaenafabWiL
namespace Go.Proofs.Ytdgodndaaenafab
open Go.RowKit Go.Lib
set_option linter.unusedVariables false
set_option linter.unusedSimpArgs false

theorem uwrap (a b : Int) : IntKind.u32.wrap (a + IntKind.u32.wrap b) = (a + b) % 4294967296 := by simp only [IntKind.wrap_u32]; omega
theorem off_al {B : Nat} {w W : World} (h : Below w.heap.size w W) : Off B w W := Off.of h
set_option maxHeartbeats 2000000 in
theorem allow_a {w : World} {B : Nat} {c : CN} (h : w.heap[B]? = some (.cells (CA c) 29 (0, 0))) (t : TR) (en : Int) :
    Calls Try.prog 22 #[.pointer (some ⟨B, 1, none⟩), .agg (SG t en)] w fun e w' => e = .returned (.tuple #[]) ∧ w'.heap[B]? = some (.cells (CA { c with a := allowP c.a t }) 29 (0, 0)) ∧ Off B w w' := by
  have hh := fun (w1 : World) => has_any t en 16 w1
  have hg := fun (w1 : World) => gr_any c.a.m (IntKind.u32.wrap (t.ak + IntKind.u32.wrap t.wi)) w1
  have hBl := blk_lt h
  obtain ⟨W, hW⟩ : ∃ W, W = w.alloc (.cells (SG t en) 51) := ⟨_, rfl⟩
  have hb1 : Below w.heap.size w W := by rw [hW]; exact bel_al _ _
  have B1 : W.heap[w.heap.size]? = some (.cells (SG t en) 51 (0, 0)) := by rw [hW]; exact blk_new w _
  have hC := kb hb1 h
  have q0 : W.cell? ⟨B, 1, none⟩ = some (.bool c.a.seen) := blk_cell hC rfl
  have hWs : w.heap.size ≤ W.heap.size := hb1.size
  have hbb : ∀ w1, Below W.heap.size W w1 → Below w.heap.size w w1 := fun w1 b1 => hb1.trans (b1.mono hWs)
  have HBB := Lib.hid hbb
  have HB1 := Lib.hid B1
  have HC := Lib.hid hC
  clear B1 hC h hbb
  rcases hx : c.a.seen with _ | _
  · have FIN : Hid (allowP c.a t = c.a) := Lib.hid (by unfold allowP; rw [hx]; rfl)
    rw [hx] at q0
    clear hx
    go_enter Try.func22, Try.ntmps22
    go_upto_region 1 with fail
    rw [← hW]
    clear hW
    go_wp2_with fail
    simp [bodyPost, results, Try.results22, go_sem]
    rw [FIN.out]
    exact ⟨HC.out, Off.of hb1⟩
  · rcases hz : hb t 16 with _ | _
    · have FIN : Hid (allowP c.a t = c.a) := Lib.hid (by unfold allowP; rw [hx, hz]; rfl)
      rw [hz] at hh
      rw [hx] at q0
      clear hz hx
      go_enter Try.func22, Try.ntmps22
      go_upto_region 1 with fail
      rw [← hW]
      clear hW
      go_wp2_with (first | ((with_reducible refine stop_op (o := ⟨some 9, _, _, _, _, _⟩) ?_); refine Lib.hid ?_; refine wpList_load_cells_on (by kernel_rfl) 51 (.tmp 3) rfl ⟨w.heap.size, 0, none⟩ rfl (SG t en) _ (blk_all HB1.out) Try.underlying51 rfl (sg_inf t _) ?_) | (go_at_call 19; refine (hh _).mono ?_; rintro e w1 ⟨rfl, b1⟩))
      simp [bodyPost, results, Try.results22, go_sem]
      rw [FIN.out]
      exact ⟨kb b1 HC.out, Off.of (HBB.out _ b1)⟩
    · obtain ⟨G, hG⟩ : ∃ G, G = grP c.a.m (IntKind.u32.wrap (t.ak + IntKind.u32.wrap t.wi)) := ⟨_, rfl⟩
      have FIN : Hid (allowP c.a t = ⟨c.a.seen, c.a.e, G, c.a.fin⟩) := Lib.hid (by rw [hG, uwrap]; unfold allowP; rw [hx, hz]; rfl)
      rw [hz] at hh
      rw [hx] at q0
      rw [← hG] at hg
      clear hz hG hx
      go_enter Try.func22, Try.ntmps22
      go_upto_region 1 with fail
      rw [← hW]
      clear hW
      go_upto_region 2 with (first | ((with_reducible refine stop_op (o := ⟨some 9, _, _, _, _, _⟩) ?_); refine Lib.hid ?_; refine wpList_load_cells_on (by kernel_rfl) 51 (.tmp 3) rfl ⟨w.heap.size, 0, none⟩ rfl (SG t en) _ (blk_all HB1.out) Try.underlying51 rfl (sg_inf t _) ?_) | (go_at_call 19; refine (hh _).mono ?_; rintro e w1 ⟨rfl, b1⟩; have hC1 := kb b1 HC.out; have hB1 := kb b1 HB1.out; have d2 : w1.cell? ⟨B, 3, none⟩ = some (.int .u32 c.a.m) := blk_cell hC1 rfl; have d3 : w1.cell? ⟨w.heap.size, 3, none⟩ = some (.int .u32 t.ak) := blk_cell hB1 rfl; have d5 : w1.cell? ⟨w.heap.size, 5, none⟩ = some (.int .i64 t.wi) := blk_cell hB1 rfl; have f2 : w1.frozen? ⟨B, 3, none⟩ = false := blk_free hC1))
      have m := hg w1.drew
      have HC1 := Lib.hid hC1
      clear hC1 hB1
      refine wp_region_still_tail 16 (by kernel_rfl) (by kernel_rfl) ?_
      simp only [List.take_succ_cons, List.take_zero, List.drop_succ_cons, List.drop_zero]
      still_step
      still_step
      still_step
      still_step
      still_step
      still_step
      still_step
      still_step
      still_step
      still_step
      still_step
      still_step
      still_step
      still_call m
      still_step
      still_step
      try refine wpStill_nil ?_
      change wpList _ _ _ _ _ w1.drew
      go_wp2_with fail
      simp [bodyPost, results, Try.results22, go_sem]
      rw [FIN.out]
      exact ⟨heap_set HC1.out 3 _, ((Off.of (bel_dr (HBB.out _ b1))).set 3 _)⟩
set_option maxHeartbeats 2000000 in
theorem sent_a {w : World} {B : Nat} {c : CN} (h : w.heap[B]? = some (.cells (CA c) 29 (0, 0))) (t : TR) :
    Calls Try.prog 24 #[.pointer (some ⟨B, 1, none⟩), .agg (SG t (endP t))] w fun e w' => e = .returned (.tuple #[]) ∧ w'.heap[B]? = some (.cells (CA { c with a := sentP c.a t }) 29 (0, 0)) ∧ Off B w w' := by
  have hh := fun (w1 : World) => has_any t (endP t) 1 w1
  have hg := fun (w1 : World) => gr_any c.a.e (endP t) w1
  have hBl := blk_lt h
  obtain ⟨W, hW⟩ : ∃ W, W = w.alloc (.cells (SG t (endP t)) 51) := ⟨_, rfl⟩
  have hb1 : Below w.heap.size w W := by rw [hW]; exact bel_al _ _
  have B1 : W.heap[w.heap.size]? = some (.cells (SG t (endP t)) 51 (0, 0)) := by rw [hW]; exact blk_new w _
  have hC := kb hb1 h
  have q1 : W.cell? ⟨B, 2, none⟩ = some (.int .u32 c.a.e) := blk_cell hC rfl
  have p1 : W.cell? ⟨w.heap.size, 10, none⟩ = some (.int .u32 (endP t)) := blk_cell B1 rfl
  have f1 : W.frozen? ⟨B, 2, none⟩ = false := blk_free hC
  have hWs : w.heap.size ≤ W.heap.size := hb1.size
  have hbb : ∀ w1, Below W.heap.size W w1 → Below w.heap.size w w1 := fun w1 b1 => hb1.trans (b1.mono hWs)
  have HBB := Lib.hid hbb
  have HB1 := Lib.hid B1
  have HC := Lib.hid hC
  clear B1 hC h hbb
  obtain ⟨G, hG⟩ : ∃ G, G = grP c.a.e (endP t) := ⟨_, rfl⟩
  have HG : Hid (G = grP c.a.e (endP t)) := Lib.hid hG
  rw [← hG] at hg
  clear hG
  have m := hg W.drew
  go_enter Try.func24, Try.ntmps24
  go_upto_region 1 with fail
  rw [← hW]
  clear hW
  refine wp_region_still_tail 10 (by kernel_rfl) (by kernel_rfl) ?_
  simp only [List.take_succ_cons, List.take_zero, List.drop_succ_cons, List.drop_zero]
  still_step
  still_step
  still_step
  still_step
  still_step
  still_step
  still_step
  still_call m
  still_step
  still_step
  try refine wpStill_nil ?_
  change wpList _ _ _ _ _ W.drew
  go_upto_region 2 with fail
  have hC2 : (W.drew.setCell ⟨B, 2, none⟩ (.int .u32 G)).heap[B]? = some (.cells (CA { c with a := ⟨c.a.seen, G, c.a.m, c.a.fin⟩ }) 29 (0, 0)) := heap_set (w := W.drew) HC.out 2 _
  have hB2 : (W.drew.setCell ⟨B, 2, none⟩ (.int .u32 G)).heap[w.heap.size]? = some (.cells (SG t (endP t)) 51 (0, 0)) := by rw [set_other (by omega)]; exact HB1.out
  have o2 : Off B w (W.drew.setCell ⟨B, 2, none⟩ (.int .u32 G)) := (Off.of (bel_dr hb1)).set _ _
  have o2s := o2.size
  have q4 : (W.drew.setCell ⟨B, 2, none⟩ (.int .u32 G)).cell? ⟨B, 4, none⟩ = some (.bool c.a.fin) := blk_cell hC2 rfl
  have g4 : (W.drew.setCell ⟨B, 2, none⟩ (.int .u32 G)).frozen? ⟨B, 4, none⟩ = false := blk_free hC2
  simp only [World.setCell_drew] at *
  clear q1 p1 f1 m hg
  generalize (W.setCell ⟨B, 2, none⟩ (.int .u32 G)).drew = w2 at *
  have HD := Lib.hid hB2
  have HC2 := Lib.hid hC2
  clear hB2 hC2
  rcases hx : c.a.fin with _ | _
  · rw [hx] at q4
    have FIN : Hid (sentP c.a t = ⟨c.a.seen, G, c.a.m, hb t 1⟩) := Lib.hid (by unfold sentP; rw [hx, HG.out]; simp)
    clear hx HG
    generalize hb t 1 = x at *
    cases x
    all_goals (
    go_wp2_with (first | ((with_reducible refine stop_op (o := ⟨some 20, _, _, _, _, _⟩) ?_); refine Lib.hid ?_; refine wpList_load_cells_on (by kernel_rfl) 51 (.tmp 3) rfl ⟨w.heap.size, 0, none⟩ rfl (SG t (endP t)) _ (blk_all HD.out) Try.underlying51 rfl (sg_inf t _) ?_) | (go_at_call 19; refine (hh _).mono ?_; rintro e w3 ⟨rfl, b3⟩; have hC3 := kb b3 HC2.out; have q5 : w3.cell? ⟨B, 4, none⟩ = some (.bool c.a.fin) := blk_cell hC3 rfl; have g5 : w3.frozen? ⟨B, 4, none⟩ = false := blk_free hC3))
    simp [bodyPost, results, Try.results24, go_sem]
    rw [FIN.out]
    exact ⟨heap_set hC3 4 _, (o2.below b3).set 4 _⟩)
  · rw [hx] at q4
    have FIN : Hid (sentP c.a t = ⟨c.a.seen, G, c.a.m, true⟩) := Lib.hid (by unfold sentP; rw [hx, HG.out]; simp)
    clear hx HG
    go_wp2_with fail
    simp [bodyPost, results, Try.results24, go_sem]
    rw [FIN.out]
    exact ⟨heap_set HC2.out 4 _, o2.set 4 _⟩
set_option maxHeartbeats 2000000 in
theorem allow_b {w : World} {B : Nat} {c : CN} (h : w.heap[B]? = some (.cells (CA c) 29 (0, 0))) (t : TR) (en : Int) :
    Calls Try.prog 22 #[.pointer (some ⟨B, 5, none⟩), .agg (SG t en)] w fun e w' => e = .returned (.tuple #[]) ∧ w'.heap[B]? = some (.cells (CA { c with b := allowP c.b t }) 29 (0, 0)) ∧ Off B w w' := by
  have hh := fun (w1 : World) => has_any t en 16 w1
  have hg := fun (w1 : World) => gr_any c.b.m (IntKind.u32.wrap (t.ak + IntKind.u32.wrap t.wi)) w1
  have hBl := blk_lt h
  obtain ⟨W, hW⟩ : ∃ W, W = w.alloc (.cells (SG t en) 51) := ⟨_, rfl⟩
  have hb1 : Below w.heap.size w W := by rw [hW]; exact bel_al _ _
  have B1 : W.heap[w.heap.size]? = some (.cells (SG t en) 51 (0, 0)) := by rw [hW]; exact blk_new w _
  have hC := kb hb1 h
  have q0 : W.cell? ⟨B, 5, none⟩ = some (.bool c.b.seen) := blk_cell hC rfl
  have hWs : w.heap.size ≤ W.heap.size := hb1.size
  have hbb : ∀ w1, Below W.heap.size W w1 → Below w.heap.size w w1 := fun w1 b1 => hb1.trans (b1.mono hWs)
  have HBB := Lib.hid hbb
  have HB1 := Lib.hid B1
  have HC := Lib.hid hC
  clear B1 hC h hbb
  rcases hx : c.b.seen with _ | _
  · have FIN : Hid (allowP c.b t = c.b) := Lib.hid (by unfold allowP; rw [hx]; rfl)
    rw [hx] at q0
    clear hx
    go_enter Try.func22, Try.ntmps22
    go_upto_region 1 with fail
    rw [← hW]
    clear hW
    go_wp2_with fail
    simp [bodyPost, results, Try.results22, go_sem]
    rw [FIN.out]
    exact ⟨HC.out, Off.of hb1⟩
  · rcases hz : hb t 16 with _ | _
    · have FIN : Hid (allowP c.b t = c.b) := Lib.hid (by unfold allowP; rw [hx, hz]; rfl)
      rw [hz] at hh
      rw [hx] at q0
      clear hz hx
      go_enter Try.func22, Try.ntmps22
      go_upto_region 1 with fail
      rw [← hW]
      clear hW
      go_wp2_with (first | ((with_reducible refine stop_op (o := ⟨some 9, _, _, _, _, _⟩) ?_); refine Lib.hid ?_; refine wpList_load_cells_on (by kernel_rfl) 51 (.tmp 3) rfl ⟨w.heap.size, 0, none⟩ rfl (SG t en) _ (blk_all HB1.out) Try.underlying51 rfl (sg_inf t _) ?_) | (go_at_call 19; refine (hh _).mono ?_; rintro e w1 ⟨rfl, b1⟩))
      simp [bodyPost, results, Try.results22, go_sem]
      rw [FIN.out]
      exact ⟨kb b1 HC.out, Off.of (HBB.out _ b1)⟩
    · obtain ⟨G, hG⟩ : ∃ G, G = grP c.b.m (IntKind.u32.wrap (t.ak + IntKind.u32.wrap t.wi)) := ⟨_, rfl⟩
      have FIN : Hid (allowP c.b t = ⟨c.b.seen, c.b.e, G, c.b.fin⟩) := Lib.hid (by rw [hG, uwrap]; unfold allowP; rw [hx, hz]; rfl)
      rw [hz] at hh
      rw [hx] at q0
      rw [← hG] at hg
      clear hz hG hx
      go_enter Try.func22, Try.ntmps22
      go_upto_region 1 with fail
      rw [← hW]
      clear hW
      go_upto_region 2 with (first | ((with_reducible refine stop_op (o := ⟨some 9, _, _, _, _, _⟩) ?_); refine Lib.hid ?_; refine wpList_load_cells_on (by kernel_rfl) 51 (.tmp 3) rfl ⟨w.heap.size, 0, none⟩ rfl (SG t en) _ (blk_all HB1.out) Try.underlying51 rfl (sg_inf t _) ?_) | (go_at_call 19; refine (hh _).mono ?_; rintro e w1 ⟨rfl, b1⟩; have hC1 := kb b1 HC.out; have hB1 := kb b1 HB1.out; have d2 : w1.cell? ⟨B, 7, none⟩ = some (.int .u32 c.b.m) := blk_cell hC1 rfl; have d3 : w1.cell? ⟨w.heap.size, 3, none⟩ = some (.int .u32 t.ak) := blk_cell hB1 rfl; have d5 : w1.cell? ⟨w.heap.size, 5, none⟩ = some (.int .i64 t.wi) := blk_cell hB1 rfl; have f2 : w1.frozen? ⟨B, 7, none⟩ = false := blk_free hC1))
      have m := hg w1.drew
      have HC1 := Lib.hid hC1
      clear hC1 hB1
      refine wp_region_still_tail 16 (by kernel_rfl) (by kernel_rfl) ?_
      simp only [List.take_succ_cons, List.take_zero, List.drop_succ_cons, List.drop_zero]
      still_step
      still_step
      still_step
      still_step
      still_step
      still_step
      still_step
      still_step
      still_step
      still_step
      still_step
      still_step
      still_step
      still_call m
      still_step
      still_step
      try refine wpStill_nil ?_
      change wpList _ _ _ _ _ w1.drew
      go_wp2_with fail
      simp [bodyPost, results, Try.results22, go_sem]
      rw [FIN.out]
      exact ⟨heap_set HC1.out 7 _, ((Off.of (bel_dr (HBB.out _ b1))).set 7 _)⟩
set_option maxHeartbeats 2000000 in
theorem sent_b {w : World} {B : Nat} {c : CN} (h : w.heap[B]? = some (.cells (CA c) 29 (0, 0))) (t : TR) :
    Calls Try.prog 24 #[.pointer (some ⟨B, 5, none⟩), .agg (SG t (endP t))] w fun e w' => e = .returned (.tuple #[]) ∧ w'.heap[B]? = some (.cells (CA { c with b := sentP c.b t }) 29 (0, 0)) ∧ Off B w w' := by
  have hh := fun (w1 : World) => has_any t (endP t) 1 w1
  have hg := fun (w1 : World) => gr_any c.b.e (endP t) w1
  have hBl := blk_lt h
  obtain ⟨W, hW⟩ : ∃ W, W = w.alloc (.cells (SG t (endP t)) 51) := ⟨_, rfl⟩
  have hb1 : Below w.heap.size w W := by rw [hW]; exact bel_al _ _
  have B1 : W.heap[w.heap.size]? = some (.cells (SG t (endP t)) 51 (0, 0)) := by rw [hW]; exact blk_new w _
  have hC := kb hb1 h
  have q1 : W.cell? ⟨B, 6, none⟩ = some (.int .u32 c.b.e) := blk_cell hC rfl
  have p1 : W.cell? ⟨w.heap.size, 10, none⟩ = some (.int .u32 (endP t)) := blk_cell B1 rfl
  have f1 : W.frozen? ⟨B, 6, none⟩ = false := blk_free hC
  have hWs : w.heap.size ≤ W.heap.size := hb1.size
  have hbb : ∀ w1, Below W.heap.size W w1 → Below w.heap.size w w1 := fun w1 b1 => hb1.trans (b1.mono hWs)
  have HBB := Lib.hid hbb
  have HB1 := Lib.hid B1
  have HC := Lib.hid hC
  clear B1 hC h hbb
  obtain ⟨G, hG⟩ : ∃ G, G = grP c.b.e (endP t) := ⟨_, rfl⟩
  have HG : Hid (G = grP c.b.e (endP t)) := Lib.hid hG
  rw [← hG] at hg
  clear hG
  have m := hg W.drew
  go_enter Try.func24, Try.ntmps24
  go_upto_region 1 with fail
  rw [← hW]
  clear hW
  refine wp_region_still_tail 10 (by kernel_rfl) (by kernel_rfl) ?_
  simp only [List.take_succ_cons, List.take_zero, List.drop_succ_cons, List.drop_zero]
  still_step
  still_step
  still_step
  still_step
  still_step
  still_step
  still_step
  still_call m
  still_step
  still_step
  try refine wpStill_nil ?_
  change wpList _ _ _ _ _ W.drew
  go_upto_region 2 with fail
  have hC2 : (W.drew.setCell ⟨B, 6, none⟩ (.int .u32 G)).heap[B]? = some (.cells (CA { c with b := ⟨c.b.seen, G, c.b.m, c.b.fin⟩ }) 29 (0, 0)) := heap_set (w := W.drew) HC.out 6 _
  have hB2 : (W.drew.setCell ⟨B, 6, none⟩ (.int .u32 G)).heap[w.heap.size]? = some (.cells (SG t (endP t)) 51 (0, 0)) := by rw [set_other (by omega)]; exact HB1.out
  have o2 : Off B w (W.drew.setCell ⟨B, 6, none⟩ (.int .u32 G)) := (Off.of (bel_dr hb1)).set _ _
  have o2s := o2.size
  have q4 : (W.drew.setCell ⟨B, 6, none⟩ (.int .u32 G)).cell? ⟨B, 8, none⟩ = some (.bool c.b.fin) := blk_cell hC2 rfl
  have g4 : (W.drew.setCell ⟨B, 6, none⟩ (.int .u32 G)).frozen? ⟨B, 8, none⟩ = false := blk_free hC2
  simp only [World.setCell_drew] at *
  clear q1 p1 f1 m hg
  generalize (W.setCell ⟨B, 6, none⟩ (.int .u32 G)).drew = w2 at *
  have HD := Lib.hid hB2
  have HC2 := Lib.hid hC2
  clear hB2 hC2
  rcases hx : c.b.fin with _ | _
  · rw [hx] at q4
    have FIN : Hid (sentP c.b t = ⟨c.b.seen, G, c.b.m, hb t 1⟩) := Lib.hid (by unfold sentP; rw [hx, HG.out]; simp)
    clear hx HG
    generalize hb t 1 = x at *
    cases x
    all_goals (
    go_wp2_with (first | ((with_reducible refine stop_op (o := ⟨some 20, _, _, _, _, _⟩) ?_); refine Lib.hid ?_; refine wpList_load_cells_on (by kernel_rfl) 51 (.tmp 3) rfl ⟨w.heap.size, 0, none⟩ rfl (SG t (endP t)) _ (blk_all HD.out) Try.underlying51 rfl (sg_inf t _) ?_) | (go_at_call 19; refine (hh _).mono ?_; rintro e w3 ⟨rfl, b3⟩; have hC3 := kb b3 HC2.out; have q5 : w3.cell? ⟨B, 8, none⟩ = some (.bool c.b.fin) := blk_cell hC3 rfl; have g5 : w3.frozen? ⟨B, 8, none⟩ = false := blk_free hC3))
    simp [bodyPost, results, Try.results24, go_sem]
    rw [FIN.out]
    exact ⟨heap_set hC3 8 _, (o2.below b3).set 8 _⟩)
  · rw [hx] at q4
    have FIN : Hid (sentP c.b t = ⟨c.b.seen, G, c.b.m, true⟩) := Lib.hid (by unfold sentP; rw [hx, HG.out]; simp)
    clear hx HG
    go_wp2_with fail
    simp [bodyPost, results, Try.results24, go_sem]
    rw [FIN.out]
    exact ⟨heap_set HC2.out 8 _, o2.set 8 _⟩
end Go.Proofs.Ytdgodndaaenafab
