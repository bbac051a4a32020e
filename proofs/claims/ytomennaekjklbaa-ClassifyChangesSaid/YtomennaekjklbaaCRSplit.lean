/- Boxes: how they are split; the document's; by-name template (gen_crsplit.py). -/
import Derived.Test.YtomennaekjklbaaCSplit
namespace Go.Proofs.Ytomennaekjklbaa
open Go.RowKit Go.Lib Go.Sort
set_option linter.unusedVariables false
set_option linter.unusedSimpArgs false

theorem ic_of (r : R4) (p : P2) : icB r p = (!(decide (cmpA p.h p.l r.fh r.fl < 0)) && decide (cmpA p.h p.l r.th r.tl < 0)) := by
  unfold icB
  congr 1
  have := cmpA_swap p.h p.l r.fh r.fl
  rw [this]
  by_cases h : cmpA p.h p.l r.fh r.fl < 0
  · have e : ¬ - cmpA p.h p.l r.fh r.fl ≤ 0 := by omega
    simp [h, e]
  · have e : - cmpA p.h p.l r.fh r.fl ≤ 0 := by omega
    simp [h, e]

set_option maxRecDepth 100000 in
set_option maxHeartbeats 8000000 in
theorem rsplit_neg (b : Nat → R4) (f : Int) (p : P2) (hf : f < 0) (w : World) : Calls Try.prog 26 #[.agg (bxc b), .int .i64 f, .agg #[.int .u64 p.h, .int .u64 p.l]] w fun e w' => e = .returned (.tuple #[.agg (bxc fun _ => zr4), .agg (bxc fun _ => zr4), .bool false]) ∧ Below w.heap.size w w' := by
  obtain ⟨C, hC⟩ : ∃ C, C = bxc b := ⟨_, rfl⟩
  obtain ⟨Z, hZ⟩ : ∃ Z, Z = bxc (fun _ => zr4) := ⟨_, rfl⟩
  rw [← hC]
  have HC := Lib.hid hC; clear hC
  have HZ := Lib.hid hZ; clear hZ
  rw [← HZ.out]
  have hd : decide (f < 0) = true := by simp [hf]
  go_enter Try.func26, Try.ntmps26
  go_wp2_with fail
  obtain ⟨w0, hw0⟩ : ∃ w0, w0 = World.alloc (World.alloc ((w.alloc (.cells C 30)).alloc (.cells #[.int .u64 p.h, .int .u64 p.l] 25)) (.cells #[.int .u64 0, .int .u64 0, .int .u64 0, .int .u64 0, .int .u64 0, .int .u64 0, .int .u64 0, .int .u64 0, .int .u64 0, .int .u64 0, .int .u64 0, .int .u64 0, .int .u64 0, .int .u64 0, .int .u64 0, .int .u64 0, .int .u64 0, .int .u64 0, .int .u64 0, .int .u64 0, .int .u64 0, .int .u64 0, .int .u64 0, .int .u64 0] 30)) (.cells #[.int .u64 0, .int .u64 0, .int .u64 0, .int .u64 0, .int .u64 0, .int .u64 0, .int .u64 0, .int .u64 0, .int .u64 0, .int .u64 0, .int .u64 0, .int .u64 0, .int .u64 0, .int .u64 0, .int .u64 0, .int .u64 0, .int .u64 0, .int .u64 0, .int .u64 0, .int .u64 0, .int .u64 0, .int .u64 0, .int .u64 0, .int .u64 0] 30) := ⟨_, rfl⟩
  have A0 : w0.heap[w.heap.size]? = some (.cells C 30) := by rw [hw0]; exact blk_al (blk_al (blk_al (heap_alloc_new w _) _) _) _
  have A1 : w0.heap[w.heap.size + 1]? = some (.cells #[.int .u64 p.h, .int .u64 p.l] 25) := by rw [hw0]; exact blk_al (blk_al (al_new (al_size _ _).symm _) _) _
  have A2 : w0.heap[w.heap.size + 2]? = some (.cells Z 30) := by rw [hw0, HZ.out, bxc_zero]; exact blk_al (al_new (by rw [al_size, al_size]) _) _
  have A3 : w0.heap[w.heap.size + 3]? = some (.cells Z 30) := by rw [hw0, HZ.out, bxc_zero]; exact al_new (by rw [al_size, al_size, al_size]) _
  have b0 : Below w.heap.size w w0 := by rw [hw0]; exact Below.al (Below.al (Below.al (Below.al (Below.refl _ _) _) _) _) _
  rw [← hw0]
  clear hw0
  refine wp_region_quiet_below (by kernel_rfl) (by kernel_rfl) ?_
  repeat (first | go_big_quiet_skip | quiet_step (fail))
  refine wpQuiet_nil ?_
  intro _ hw'
  obtain ⟨⟨dq, osq⟩, hw''⟩ := hw'
  subst hw''
  have D2 := blkB (below_regrown w0 dq osq) A2
  have D3 := blkB (below_regrown w0 dq osq) A3
  have bd := bel_via b0 (below_regrown w0 dq osq)
  obtain ⟨w3, hw3⟩ : ∃ x, x = grow (redrawn w0 dq) osq := ⟨_, rfl⟩
  rw [← hw3] at D2 D3 bd ⊢
  clear hw3 A0 A1 A2 A3 b0
  have hvz : Z = #[.int .u64 0, .int .u64 0, .int .u64 0, .int .u64 0, .int .u64 0, .int .u64 0, .int .u64 0, .int .u64 0, .int .u64 0, .int .u64 0, .int .u64 0, .int .u64 0, .int .u64 0, .int .u64 0, .int .u64 0, .int .u64 0, .int .u64 0, .int .u64 0, .int .u64 0, .int .u64 0, .int .u64 0, .int .u64 0, .int .u64 0, .int .u64 0] := by rw [HZ.out, bxc_zero]
  have HVz := Lib.hid hvz
  have i29 : (Try.prog.info? 30).map (·.size) = some Z.size := by rw [HZ.out]; exact inf29 _
  have i1 : Z.all (·.oneCell') = true := by rw [HZ.out]; exact bx_one _
  have i29 := Lib.hid i29
  have i1 := Lib.hid i1
  clear hvz
  have D3' : (w3.setRow (w.heap.size + 2) Z).heap[w.heap.size + 3]? = some (.cells Z 30) := by rw [setRow_other (by omega)]; exact D3
  go_wp2_with (first
    | (refine wpList_store_row rfl 30 (.tmp 6) (.tmp 36) rfl (w.heap.size + 2) Z rfl (by rw [HVz.out]; rfl) 30 Z D2 i29.out rfl i1.out ?_)
    | (refine wpList_store_row rfl 30 (.tmp 7) (.tmp 37) rfl (w.heap.size + 3) Z rfl (by rw [HVz.out]; rfl) 30 Z D3' i29.out rfl i1.out ?_))
  refine bodyPost_ret_by (res_row3 Try.results26 _ _ (w.heap.size + 2) (w.heap.size + 3) 30 30 Z Z _ _ rfl (by rw [setRow_other (by omega)]; exact blk_setRow D2 Z) Try.underlying30 i29.out rfl (blk_setRow D3' Z) Try.underlying30 i29.out) rfl ⟨rfl, Below.setRow (Below.setRow bd (by omega) _) (by omega) _⟩


set_option maxRecDepth 100000 in
set_option maxHeartbeats 8000000 in
theorem rsplit_big (b : Nat → R4) (f : Int) (p : P2) (hf : 6 ≤ f) (w : World) : Calls Try.prog 26 #[.agg (bxc b), .int .i64 f, .agg #[.int .u64 p.h, .int .u64 p.l]] w fun e w' => e = .returned (.tuple #[.agg (bxc fun _ => zr4), .agg (bxc fun _ => zr4), .bool false]) ∧ Below w.heap.size w w' := by
  obtain ⟨C, hC⟩ : ∃ C, C = bxc b := ⟨_, rfl⟩
  obtain ⟨Z, hZ⟩ : ∃ Z, Z = bxc (fun _ => zr4) := ⟨_, rfl⟩
  rw [← hC]
  have HC := Lib.hid hC; clear hC
  have HZ := Lib.hid hZ; clear hZ
  rw [← HZ.out]
  have hd : decide (f < 0) = false := by simp; omega
  have hd2 : decide ((6 : Int) ≤ f) = true := by simp [hf]
  go_enter Try.func26, Try.ntmps26
  go_wp2_with fail
  obtain ⟨w0, hw0⟩ : ∃ w0, w0 = World.alloc (World.alloc ((w.alloc (.cells C 30)).alloc (.cells #[.int .u64 p.h, .int .u64 p.l] 25)) (.cells #[.int .u64 0, .int .u64 0, .int .u64 0, .int .u64 0, .int .u64 0, .int .u64 0, .int .u64 0, .int .u64 0, .int .u64 0, .int .u64 0, .int .u64 0, .int .u64 0, .int .u64 0, .int .u64 0, .int .u64 0, .int .u64 0, .int .u64 0, .int .u64 0, .int .u64 0, .int .u64 0, .int .u64 0, .int .u64 0, .int .u64 0, .int .u64 0] 30)) (.cells #[.int .u64 0, .int .u64 0, .int .u64 0, .int .u64 0, .int .u64 0, .int .u64 0, .int .u64 0, .int .u64 0, .int .u64 0, .int .u64 0, .int .u64 0, .int .u64 0, .int .u64 0, .int .u64 0, .int .u64 0, .int .u64 0, .int .u64 0, .int .u64 0, .int .u64 0, .int .u64 0, .int .u64 0, .int .u64 0, .int .u64 0, .int .u64 0] 30) := ⟨_, rfl⟩
  have A0 : w0.heap[w.heap.size]? = some (.cells C 30) := by rw [hw0]; exact blk_al (blk_al (blk_al (heap_alloc_new w _) _) _) _
  have A1 : w0.heap[w.heap.size + 1]? = some (.cells #[.int .u64 p.h, .int .u64 p.l] 25) := by rw [hw0]; exact blk_al (blk_al (al_new (al_size _ _).symm _) _) _
  have A2 : w0.heap[w.heap.size + 2]? = some (.cells Z 30) := by rw [hw0, HZ.out, bxc_zero]; exact blk_al (al_new (by rw [al_size, al_size]) _) _
  have A3 : w0.heap[w.heap.size + 3]? = some (.cells Z 30) := by rw [hw0, HZ.out, bxc_zero]; exact al_new (by rw [al_size, al_size, al_size]) _
  have b0 : Below w.heap.size w w0 := by rw [hw0]; exact Below.al (Below.al (Below.al (Below.al (Below.refl _ _) _) _) _) _
  rw [← hw0]
  clear hw0
  refine wp_region_quiet_below (by kernel_rfl) (by kernel_rfl) ?_
  repeat (first | go_big_quiet_skip | quiet_step (fail))
  refine wpQuiet_nil ?_
  intro _ hw'
  obtain ⟨⟨dq, osq⟩, hw''⟩ := hw'
  subst hw''
  have D2 := blkB (below_regrown w0 dq osq) A2
  have D3 := blkB (below_regrown w0 dq osq) A3
  have bd := bel_via b0 (below_regrown w0 dq osq)
  obtain ⟨w3, hw3⟩ : ∃ x, x = grow (redrawn w0 dq) osq := ⟨_, rfl⟩
  rw [← hw3] at D2 D3 bd ⊢
  clear hw3 A0 A1 A2 A3 b0
  have hvz : Z = #[.int .u64 0, .int .u64 0, .int .u64 0, .int .u64 0, .int .u64 0, .int .u64 0, .int .u64 0, .int .u64 0, .int .u64 0, .int .u64 0, .int .u64 0, .int .u64 0, .int .u64 0, .int .u64 0, .int .u64 0, .int .u64 0, .int .u64 0, .int .u64 0, .int .u64 0, .int .u64 0, .int .u64 0, .int .u64 0, .int .u64 0, .int .u64 0] := by rw [HZ.out, bxc_zero]
  have HVz := Lib.hid hvz
  have i29 : (Try.prog.info? 30).map (·.size) = some Z.size := by rw [HZ.out]; exact inf29 _
  have i1 : Z.all (·.oneCell') = true := by rw [HZ.out]; exact bx_one _
  have i29 := Lib.hid i29
  have i1 := Lib.hid i1
  clear hvz
  have D3' : (w3.setRow (w.heap.size + 2) Z).heap[w.heap.size + 3]? = some (.cells Z 30) := by rw [setRow_other (by omega)]; exact D3
  go_wp2_with (first
    | (refine wpList_store_row rfl 30 (.tmp 6) (.tmp 36) rfl (w.heap.size + 2) Z rfl (by rw [HVz.out]; rfl) 30 Z D2 i29.out rfl i1.out ?_)
    | (refine wpList_store_row rfl 30 (.tmp 7) (.tmp 37) rfl (w.heap.size + 3) Z rfl (by rw [HVz.out]; rfl) 30 Z D3' i29.out rfl i1.out ?_))
  refine bodyPost_ret_by (res_row3 Try.results26 _ _ (w.heap.size + 2) (w.heap.size + 3) 30 30 Z Z _ _ rfl (by rw [setRow_other (by omega)]; exact blk_setRow D2 Z) Try.underlying30 i29.out rfl (blk_setRow D3' Z) Try.underlying30 i29.out) rfl ⟨rfl, Below.setRow (Below.setRow bd (by omega) _) (by omega) _⟩


set_option maxRecDepth 100000 in
set_option maxHeartbeats 8000000 in
theorem rsplit_low (b : Nat → R4) (k : Nat) (hk : k < 6) (p : P2) (hX : decide (cmpA p.h p.l (b k).fh (b k).fl < 0) = true) (w : World) : Calls Try.prog 26 #[.agg (bxc b), .int .i64 k, .agg #[.int .u64 p.h, .int .u64 p.l]] w fun e w' => e = .returned (.tuple #[.agg (bxc fun _ => zr4), .agg (bxc fun _ => zr4), .bool false]) ∧ Below w.heap.size w w' := by
  obtain ⟨C, hC⟩ : ∃ C, C = bxc b := ⟨_, rfl⟩
  obtain ⟨Z, hZ⟩ : ∃ Z, Z = bxc (fun _ => zr4) := ⟨_, rfl⟩
  rw [← hC]
  have HC := Lib.hid hC; clear hC
  have HZ := Lib.hid hZ; clear hZ
  rw [← HZ.out]
  have hk0 : (0 : Int) ≤ (k : Int) := by omega
  have hk1 : (k : Int) < 6 := by omega
  have hd : decide ((k : Int) < 0) = false := by simp
  have hd2 : decide ((6 : Int) ≤ (k : Int)) = false := by simp; omega
  have l1 := rless_any p.h p.l (b k).fh (b k).fl
  rw [hX] at l1
  clear hX
  go_enter Try.func26, Try.ntmps26
  go_wp2_with fail
  obtain ⟨w0, hw0⟩ : ∃ w0, w0 = World.alloc (World.alloc ((w.alloc (.cells C 30)).alloc (.cells #[.int .u64 p.h, .int .u64 p.l] 25)) (.cells #[.int .u64 0, .int .u64 0, .int .u64 0, .int .u64 0, .int .u64 0, .int .u64 0, .int .u64 0, .int .u64 0, .int .u64 0, .int .u64 0, .int .u64 0, .int .u64 0, .int .u64 0, .int .u64 0, .int .u64 0, .int .u64 0, .int .u64 0, .int .u64 0, .int .u64 0, .int .u64 0, .int .u64 0, .int .u64 0, .int .u64 0, .int .u64 0] 30)) (.cells #[.int .u64 0, .int .u64 0, .int .u64 0, .int .u64 0, .int .u64 0, .int .u64 0, .int .u64 0, .int .u64 0, .int .u64 0, .int .u64 0, .int .u64 0, .int .u64 0, .int .u64 0, .int .u64 0, .int .u64 0, .int .u64 0, .int .u64 0, .int .u64 0, .int .u64 0, .int .u64 0, .int .u64 0, .int .u64 0, .int .u64 0, .int .u64 0] 30) := ⟨_, rfl⟩
  have A0 : w0.heap[w.heap.size]? = some (.cells C 30) := by rw [hw0]; exact blk_al (blk_al (blk_al (heap_alloc_new w _) _) _) _
  have A1 : w0.heap[w.heap.size + 1]? = some (.cells #[.int .u64 p.h, .int .u64 p.l] 25) := by rw [hw0]; exact blk_al (blk_al (al_new (al_size _ _).symm _) _) _
  have A2 : w0.heap[w.heap.size + 2]? = some (.cells Z 30) := by rw [hw0, HZ.out, bxc_zero]; exact blk_al (al_new (by rw [al_size, al_size]) _) _
  have A3 : w0.heap[w.heap.size + 3]? = some (.cells Z 30) := by rw [hw0, HZ.out, bxc_zero]; exact al_new (by rw [al_size, al_size, al_size]) _
  have b0 : Below w.heap.size w w0 := by rw [hw0]; exact Below.al (Below.al (Below.al (Below.al (Below.refl _ _) _) _) _) _
  rw [← hw0]
  clear hw0
  obtain ⟨y0, y1, y2, y3⟩ := BoxAt.of (b := b) (by rw [← HC.out]; exact A0) k hk
  obtain ⟨z0, z1, _, _⟩ := cells2 A1
  have k_y0 := cell_regrown y0
  have k_y1 := cell_regrown y1
  have k_y2 := cell_regrown y2
  have k_y3 := cell_regrown y3
  have k_z0 := cell_regrown z0
  have k_z1 := cell_regrown z1
  have q1 := fun d os => Calls.regrown_of (l1 (grow (redrawn w0 d) os))
  clear y0 y1 y2 y3 z0 z1
  refine wp_region_quiet_below (by kernel_rfl) (by kernel_rfl) ?_
  repeat (first | go_big_quiet_skip | quiet_step (first | (go_at_call 36; with_reducible exact q1 _ _)))
  refine wpQuiet_nil ?_
  intro _ hw'
  obtain ⟨⟨dq, osq⟩, hw''⟩ := hw'
  subst hw''
  have D2 := blkB (below_regrown w0 dq osq) A2
  have D3 := blkB (below_regrown w0 dq osq) A3
  have bd := bel_via b0 (below_regrown w0 dq osq)
  obtain ⟨w3, hw3⟩ : ∃ x, x = grow (redrawn w0 dq) osq := ⟨_, rfl⟩
  rw [← hw3] at D2 D3 bd ⊢
  clear hw3 A0 A1 A2 A3 b0
  have hvz : Z = #[.int .u64 0, .int .u64 0, .int .u64 0, .int .u64 0, .int .u64 0, .int .u64 0, .int .u64 0, .int .u64 0, .int .u64 0, .int .u64 0, .int .u64 0, .int .u64 0, .int .u64 0, .int .u64 0, .int .u64 0, .int .u64 0, .int .u64 0, .int .u64 0, .int .u64 0, .int .u64 0, .int .u64 0, .int .u64 0, .int .u64 0, .int .u64 0] := by rw [HZ.out, bxc_zero]
  have HVz := Lib.hid hvz
  have i29 : (Try.prog.info? 30).map (·.size) = some Z.size := by rw [HZ.out]; exact inf29 _
  have i1 : Z.all (·.oneCell') = true := by rw [HZ.out]; exact bx_one _
  have i29 := Lib.hid i29
  have i1 := Lib.hid i1
  clear hvz
  have D3' : (w3.setRow (w.heap.size + 2) Z).heap[w.heap.size + 3]? = some (.cells Z 30) := by rw [setRow_other (by omega)]; exact D3
  go_wp2_with (first
    | (refine wpList_store_row rfl 30 (.tmp 6) (.tmp 36) rfl (w.heap.size + 2) Z rfl (by rw [HVz.out]; rfl) 30 Z D2 i29.out rfl i1.out ?_)
    | (refine wpList_store_row rfl 30 (.tmp 7) (.tmp 37) rfl (w.heap.size + 3) Z rfl (by rw [HVz.out]; rfl) 30 Z D3' i29.out rfl i1.out ?_))
  refine bodyPost_ret_by (res_row3 Try.results26 _ _ (w.heap.size + 2) (w.heap.size + 3) 30 30 Z Z _ _ rfl (by rw [setRow_other (by omega)]; exact blk_setRow D2 Z) Try.underlying30 i29.out rfl (blk_setRow D3' Z) Try.underlying30 i29.out) rfl ⟨rfl, Below.setRow (Below.setRow bd (by omega) _) (by omega) _⟩


set_option maxRecDepth 100000 in
set_option maxHeartbeats 8000000 in
theorem rsplit_high (b : Nat → R4) (k : Nat) (hk : k < 6) (p : P2) (hX : decide (cmpA p.h p.l (b k).fh (b k).fl < 0) = false) (hY : decide (cmpA p.h p.l (b k).th (b k).tl < 0) = false) (w : World) : Calls Try.prog 26 #[.agg (bxc b), .int .i64 k, .agg #[.int .u64 p.h, .int .u64 p.l]] w fun e w' => e = .returned (.tuple #[.agg (bxc fun _ => zr4), .agg (bxc fun _ => zr4), .bool false]) ∧ Below w.heap.size w w' := by
  obtain ⟨C, hC⟩ : ∃ C, C = bxc b := ⟨_, rfl⟩
  obtain ⟨Z, hZ⟩ : ∃ Z, Z = bxc (fun _ => zr4) := ⟨_, rfl⟩
  rw [← hC]
  have HC := Lib.hid hC; clear hC
  have HZ := Lib.hid hZ; clear hZ
  rw [← HZ.out]
  have hk0 : (0 : Int) ≤ (k : Int) := by omega
  have hk1 : (k : Int) < 6 := by omega
  have hd : decide ((k : Int) < 0) = false := by simp
  have hd2 : decide ((6 : Int) ≤ (k : Int)) = false := by simp; omega
  have l1 := rless_any p.h p.l (b k).fh (b k).fl
  rw [hX] at l1
  clear hX
  have l2 := rless_any p.h p.l (b k).th (b k).tl
  rw [hY] at l2
  clear hY
  go_enter Try.func26, Try.ntmps26
  go_wp2_with fail
  obtain ⟨w0, hw0⟩ : ∃ w0, w0 = World.alloc (World.alloc ((w.alloc (.cells C 30)).alloc (.cells #[.int .u64 p.h, .int .u64 p.l] 25)) (.cells #[.int .u64 0, .int .u64 0, .int .u64 0, .int .u64 0, .int .u64 0, .int .u64 0, .int .u64 0, .int .u64 0, .int .u64 0, .int .u64 0, .int .u64 0, .int .u64 0, .int .u64 0, .int .u64 0, .int .u64 0, .int .u64 0, .int .u64 0, .int .u64 0, .int .u64 0, .int .u64 0, .int .u64 0, .int .u64 0, .int .u64 0, .int .u64 0] 30)) (.cells #[.int .u64 0, .int .u64 0, .int .u64 0, .int .u64 0, .int .u64 0, .int .u64 0, .int .u64 0, .int .u64 0, .int .u64 0, .int .u64 0, .int .u64 0, .int .u64 0, .int .u64 0, .int .u64 0, .int .u64 0, .int .u64 0, .int .u64 0, .int .u64 0, .int .u64 0, .int .u64 0, .int .u64 0, .int .u64 0, .int .u64 0, .int .u64 0] 30) := ⟨_, rfl⟩
  have A0 : w0.heap[w.heap.size]? = some (.cells C 30) := by rw [hw0]; exact blk_al (blk_al (blk_al (heap_alloc_new w _) _) _) _
  have A1 : w0.heap[w.heap.size + 1]? = some (.cells #[.int .u64 p.h, .int .u64 p.l] 25) := by rw [hw0]; exact blk_al (blk_al (al_new (al_size _ _).symm _) _) _
  have A2 : w0.heap[w.heap.size + 2]? = some (.cells Z 30) := by rw [hw0, HZ.out, bxc_zero]; exact blk_al (al_new (by rw [al_size, al_size]) _) _
  have A3 : w0.heap[w.heap.size + 3]? = some (.cells Z 30) := by rw [hw0, HZ.out, bxc_zero]; exact al_new (by rw [al_size, al_size, al_size]) _
  have b0 : Below w.heap.size w w0 := by rw [hw0]; exact Below.al (Below.al (Below.al (Below.al (Below.refl _ _) _) _) _) _
  rw [← hw0]
  clear hw0
  obtain ⟨y0, y1, y2, y3⟩ := BoxAt.of (b := b) (by rw [← HC.out]; exact A0) k hk
  obtain ⟨z0, z1, _, _⟩ := cells2 A1
  have k_y0 := cell_regrown y0
  have k_y1 := cell_regrown y1
  have k_y2 := cell_regrown y2
  have k_y3 := cell_regrown y3
  have k_z0 := cell_regrown z0
  have k_z1 := cell_regrown z1
  have q1 := fun d os => Calls.regrown_of (l1 (grow (redrawn w0 d) os))
  have q2 := fun d os => Calls.regrown_of (l2 (grow (redrawn w0 d) os))
  clear y0 y1 y2 y3 z0 z1
  refine wp_region_quiet_below (by kernel_rfl) (by kernel_rfl) ?_
  repeat (first | go_big_quiet_skip | quiet_step (first | (go_at_call 36; with_reducible exact q1 _ _) | (go_at_call 36; with_reducible exact q2 _ _)))
  refine wpQuiet_nil ?_
  intro _ hw'
  obtain ⟨⟨dq, osq⟩, hw''⟩ := hw'
  subst hw''
  have D2 := blkB (below_regrown w0 dq osq) A2
  have D3 := blkB (below_regrown w0 dq osq) A3
  have bd := bel_via b0 (below_regrown w0 dq osq)
  obtain ⟨w3, hw3⟩ : ∃ x, x = grow (redrawn w0 dq) osq := ⟨_, rfl⟩
  rw [← hw3] at D2 D3 bd ⊢
  clear hw3 A0 A1 A2 A3 b0
  have hvz : Z = #[.int .u64 0, .int .u64 0, .int .u64 0, .int .u64 0, .int .u64 0, .int .u64 0, .int .u64 0, .int .u64 0, .int .u64 0, .int .u64 0, .int .u64 0, .int .u64 0, .int .u64 0, .int .u64 0, .int .u64 0, .int .u64 0, .int .u64 0, .int .u64 0, .int .u64 0, .int .u64 0, .int .u64 0, .int .u64 0, .int .u64 0, .int .u64 0] := by rw [HZ.out, bxc_zero]
  have HVz := Lib.hid hvz
  have i29 : (Try.prog.info? 30).map (·.size) = some Z.size := by rw [HZ.out]; exact inf29 _
  have i1 : Z.all (·.oneCell') = true := by rw [HZ.out]; exact bx_one _
  have i29 := Lib.hid i29
  have i1 := Lib.hid i1
  clear hvz
  have D3' : (w3.setRow (w.heap.size + 2) Z).heap[w.heap.size + 3]? = some (.cells Z 30) := by rw [setRow_other (by omega)]; exact D3
  go_wp2_with (first
    | (refine wpList_store_row rfl 30 (.tmp 6) (.tmp 36) rfl (w.heap.size + 2) Z rfl (by rw [HVz.out]; rfl) 30 Z D2 i29.out rfl i1.out ?_)
    | (refine wpList_store_row rfl 30 (.tmp 7) (.tmp 37) rfl (w.heap.size + 3) Z rfl (by rw [HVz.out]; rfl) 30 Z D3' i29.out rfl i1.out ?_))
  refine bodyPost_ret_by (res_row3 Try.results26 _ _ (w.heap.size + 2) (w.heap.size + 3) 30 30 Z Z _ _ rfl (by rw [setRow_other (by omega)]; exact blk_setRow D2 Z) Try.underlying30 i29.out rfl (blk_setRow D3' Z) Try.underlying30 i29.out) rfl ⟨rfl, Below.setRow (Below.setRow bd (by omega) _) (by omega) _⟩


set_option maxRecDepth 100000 in
set_option maxHeartbeats 8000000 in
theorem rsplit_yes (b : Nat → R4) (k : Nat) (hk : k < 6) (p : P2) (hX : decide (cmpA p.h p.l (b k).fh (b k).fl < 0) = false) (hY : decide (cmpA p.h p.l (b k).th (b k).tl < 0) = true) (wb : WB b) (h0 : Word p.h) (h1 : Word p.l) (w : World) : Calls Try.prog 26 #[.agg (bxc b), .int .i64 k, .agg #[.int .u64 p.h, .int .u64 p.l]] w fun e w' => e = .returned (.tuple #[.agg (bxc (upd b k ⟨(b k).fh, (b k).fl, p.h, p.l⟩)), .agg (bxc (upd b k ⟨(nx p).h, (nx p).l, (b k).th, (b k).tl⟩)), .bool true]) ∧ Below w.heap.size w w' := by
  have cn := fun W : World => rnext_any p.h p.l h0 h1 W
  rw [nextT_ok p (ic_next (r := b k) (by rw [ic_of, hX, hY]; rfl) (wb k hk).2.2.1 (wb k hk).2.2.2)] at cn
  clear h0 h1 wb
  obtain ⟨LV, hLV⟩ : ∃ V, V = bxc (upd b k ⟨(b k).fh, (b k).fl, p.h, p.l⟩) := ⟨_, rfl⟩
  obtain ⟨HV, hHV⟩ : ∃ V, V = bxc (upd b k ⟨(nx p).h, (nx p).l, (b k).th, (b k).tl⟩) := ⟨_, rfl⟩
  rw [← hLV, ← hHV]
  have HLV := Lib.hid hLV; clear hLV
  have HHV := Lib.hid hHV; clear hHV
  obtain ⟨C, hC⟩ : ∃ C, C = bxc b := ⟨_, rfl⟩
  obtain ⟨Z, hZ⟩ : ∃ Z, Z = bxc (fun _ => zr4) := ⟨_, rfl⟩
  rw [← hC]
  have HC := Lib.hid hC; clear hC
  have HZ := Lib.hid hZ; clear hZ
  have hk0 : (0 : Int) ≤ (k : Int) := by omega
  have hk1 : (k : Int) < 6 := by omega
  have hd : decide ((k : Int) < 0) = false := by simp
  have hd2 : decide ((6 : Int) ≤ (k : Int)) = false := by simp; omega
  have l1 := rless_any p.h p.l (b k).fh (b k).fl
  rw [hX] at l1
  clear hX
  have l2 := rless_any p.h p.l (b k).th (b k).tl
  rw [hY] at l2
  clear hY
  go_enter Try.func26, Try.ntmps26
  go_wp2_with fail
  obtain ⟨w0, hw0⟩ : ∃ w0, w0 = World.alloc (World.alloc ((w.alloc (.cells C 30)).alloc (.cells #[.int .u64 p.h, .int .u64 p.l] 25)) (.cells #[.int .u64 0, .int .u64 0, .int .u64 0, .int .u64 0, .int .u64 0, .int .u64 0, .int .u64 0, .int .u64 0, .int .u64 0, .int .u64 0, .int .u64 0, .int .u64 0, .int .u64 0, .int .u64 0, .int .u64 0, .int .u64 0, .int .u64 0, .int .u64 0, .int .u64 0, .int .u64 0, .int .u64 0, .int .u64 0, .int .u64 0, .int .u64 0] 30)) (.cells #[.int .u64 0, .int .u64 0, .int .u64 0, .int .u64 0, .int .u64 0, .int .u64 0, .int .u64 0, .int .u64 0, .int .u64 0, .int .u64 0, .int .u64 0, .int .u64 0, .int .u64 0, .int .u64 0, .int .u64 0, .int .u64 0, .int .u64 0, .int .u64 0, .int .u64 0, .int .u64 0, .int .u64 0, .int .u64 0, .int .u64 0, .int .u64 0] 30) := ⟨_, rfl⟩
  have A0 : w0.heap[w.heap.size]? = some (.cells C 30) := by rw [hw0]; exact blk_al (blk_al (blk_al (heap_alloc_new w _) _) _) _
  have A1 : w0.heap[w.heap.size + 1]? = some (.cells #[.int .u64 p.h, .int .u64 p.l] 25) := by rw [hw0]; exact blk_al (blk_al (al_new (al_size _ _).symm _) _) _
  have A2 : w0.heap[w.heap.size + 2]? = some (.cells Z 30) := by rw [hw0, HZ.out, bxc_zero]; exact blk_al (al_new (by rw [al_size, al_size]) _) _
  have A3 : w0.heap[w.heap.size + 3]? = some (.cells Z 30) := by rw [hw0, HZ.out, bxc_zero]; exact al_new (by rw [al_size, al_size, al_size]) _
  have b0 : Below w.heap.size w w0 := by rw [hw0]; exact Below.al (Below.al (Below.al (Below.al (Below.refl _ _) _) _) _) _
  rw [← hw0]
  clear hw0
  obtain ⟨y0, y1, y2, y3⟩ := BoxAt.of (b := b) (by rw [← HC.out]; exact A0) k hk
  obtain ⟨z0, z1, _, _⟩ := cells2 A1
  have k_y0 := cell_regrown y0
  have k_y1 := cell_regrown y1
  have k_y2 := cell_regrown y2
  have k_y3 := cell_regrown y3
  have k_z0 := cell_regrown z0
  have k_z1 := cell_regrown z1
  have q1 := fun d os => Calls.regrown_of (l1 (grow (redrawn w0 d) os))
  have q2 := fun d os => Calls.regrown_of (l2 (grow (redrawn w0 d) os))
  clear y0 y1 y2 y3 z0 z1
  refine wp_region_quiet_below (by kernel_rfl) (by kernel_rfl) ?_
  repeat (first | go_big_quiet_skip | quiet_step (first | (go_at_call 36; with_reducible exact q1 _ _) | (go_at_call 36; with_reducible exact q2 _ _)))
  refine wpQuiet_nil ?_
  intro _ hw'
  obtain ⟨⟨dq, osq⟩, hw''⟩ := hw'
  subst hw''
  have D0 := blkB (below_regrown w0 dq osq) A0
  have D1 := blkB (below_regrown w0 dq osq) A1
  have D2 := blkB (below_regrown w0 dq osq) A2
  have D3 := blkB (below_regrown w0 dq osq) A3
  have bd := bel_via b0 (below_regrown w0 dq osq)
  obtain ⟨wz, hw3⟩ : ∃ x, x = grow (redrawn w0 dq) osq := ⟨_, rfl⟩
  rw [← hw3] at D0 D1 D2 D3 bd ⊢
  clear hw3 A0 A1 A2 A3 b0 l1 l2 q1 q2 k_y0 k_y1 k_y2 k_y3 k_z0 k_z1
  have i29 : (Try.prog.info? 30).map (·.size) = some C.size := by rw [HC.out]; exact inf29 _
  have i1 : C.all (·.oneCell') = true := by rw [HC.out]; exact bx_one _
  have zC : (#[.int .u64 0, .int .u64 0, .int .u64 0, .int .u64 0, .int .u64 0, .int .u64 0, .int .u64 0, .int .u64 0, .int .u64 0, .int .u64 0, .int .u64 0, .int .u64 0, .int .u64 0, .int .u64 0, .int .u64 0, .int .u64 0, .int .u64 0, .int .u64 0, .int .u64 0, .int .u64 0, .int .u64 0, .int .u64 0, .int .u64 0, .int .u64 0] : Array Value).size = C.size := by rw [HC.out]; rfl
  have i29 := Lib.hid i29
  have i1 := Lib.hid i1
  have zC := Lib.hid zC
  go_upto_region 5 with (first | (refine wpList_load_row rfl 30 (.tmp 3) rfl w.heap.size rfl 30 C (0, 0) _ D0 Try.underlying30 rfl i29.out ?_) | (refine wpList_store_row rfl 30 (.tmp 9) (.tmp 38) rfl wz.heap.size C rfl rfl 30 #[.int .u64 0, .int .u64 0, .int .u64 0, .int .u64 0, .int .u64 0, .int .u64 0, .int .u64 0, .int .u64 0, .int .u64 0, .int .u64 0, .int .u64 0, .int .u64 0, .int .u64 0, .int .u64 0, .int .u64 0, .int .u64 0, .int .u64 0, .int .u64 0, .int .u64 0, .int .u64 0, .int .u64 0, .int .u64 0, .int .u64 0, .int .u64 0] (heap_alloc_new wz _) i29.out zC.out i1.out ?_; rw [World.setRow_alloc_new]; obtain ⟨wy, hwy⟩ : ∃ x, x = wz.alloc (.cells C 30) := ⟨_, rfl⟩; rw [← hwy]; have hPl := blk_lt D3; replace D0 := blk_al2 hwy D0; replace D1 := blk_al2 hwy D1; replace D2 := blk_al2 hwy D2; replace D3 := blk_al2 hwy D3; have hVP := al_hd2 hwy; replace bd := bel_al2 hwy bd; obtain ⟨P, hP⟩ : ∃ P, P = wz.heap.size := ⟨_, rfl⟩; rw [← hP] at hVP hPl ⊢; clear hP hwy; obtain ⟨wz, hwz⟩ : ∃ x, x = wy := ⟨_, rfl⟩; subst hwz) | (refine wpList_store_row rfl 30 (.tmp 10) (.tmp 39) rfl wz.heap.size C rfl rfl 30 #[.int .u64 0, .int .u64 0, .int .u64 0, .int .u64 0, .int .u64 0, .int .u64 0, .int .u64 0, .int .u64 0, .int .u64 0, .int .u64 0, .int .u64 0, .int .u64 0, .int .u64 0, .int .u64 0, .int .u64 0, .int .u64 0, .int .u64 0, .int .u64 0, .int .u64 0, .int .u64 0, .int .u64 0, .int .u64 0, .int .u64 0, .int .u64 0] (heap_alloc_new wz _) i29.out zC.out i1.out ?_; rw [World.setRow_alloc_new]; obtain ⟨wy, hwy⟩ : ∃ x, x = wz.alloc (.cells C 30) := ⟨_, rfl⟩; rw [← hwy]; have hPQ := blk_lt hVP; replace D0 := blk_al2 hwy D0; replace D1 := blk_al2 hwy D1; replace D2 := blk_al2 hwy D2; replace D3 := blk_al2 hwy D3; replace hVP := blk_al2 hwy hVP; have hVQ := al_hd2 hwy; replace bd := bel_al2 hwy bd; obtain ⟨Q, hP⟩ : ∃ P, P = wz.heap.size := ⟨_, rfl⟩; rw [← hP] at hVQ hPQ ⊢; clear hP hwy; obtain ⟨wz, hwz⟩ : ∃ x, x = wy := ⟨_, rfl⟩; subst hwz))
  obtain ⟨wc, hwc⟩ : ∃ x, x = wz := ⟨_, rfl⟩
  subst hwc
  have bc := bd
  have hne : P ≠ Q := by omega
  obtain ⟨z0, z1, _, _⟩ := cells2 D1
  obtain ⟨y0, y1, y2, y3⟩ := BoxAt.of (b := b) (by rw [← HC.out]; exact hVP) k hk
  have f0 := fr4 hVP
  have hP0 : w.heap.size + 1 ≠ P := by omega
  have hP2 : w.heap.size + 2 ≠ P := by omega
  have hP3 : w.heap.size + 3 ≠ P := by omega
  have hQ0 : w.heap.size + 1 ≠ Q := by omega
  have hQ2 : w.heap.size + 2 ≠ Q := by omega
  have hQ3 : w.heap.size + 3 ≠ Q := by omega
  have hlP : w.heap.size ≤ P := by omega
  have hlQ : w.heap.size ≤ Q := by omega
  go_wp2_with fail
  obtain ⟨w6, hw6⟩ : ∃ x, x = (wc.setCell ⟨P, k * 4 + 2, none⟩ (.int .u64 p.h)).setCell ⟨P, k * 4 + 3, none⟩ (.int .u64 p.l) := ⟨_, rfl⟩
  have E0 : w6.heap[P]? = some (.cells (bxc (upd b k ⟨(b k).fh, (b k).fl, p.h, p.l⟩)) 30 (0, 0)) := by rw [hw6]; exact bset2 (b := b) (by rw [← HC.out]; exact hVP) k hk _ _
  have E1 : w6.heap[Q]? = some (.cells C 30 (0, 0)) := by rw [hw6, set_other (Ne.symm hne), set_other (Ne.symm hne)]; exact hVQ
  have E4 : w6.heap[w.heap.size + 1]? = some (.cells #[.int .u64 p.h, .int .u64 p.l] 25) := by rw [hw6, set_other hP0, set_other hP0]; exact D1
  have E2 : w6.heap[w.heap.size + 2]? = some (.cells Z 30) := by rw [hw6, set_other hP2, set_other hP2]; exact D2
  have E3 : w6.heap[w.heap.size + 3]? = some (.cells Z 30) := by rw [hw6, set_other hP3, set_other hP3]; exact D3
  have b6 : Below w.heap.size w w6 := by rw [hw6]; exact below_set (below_set bc hlP _ _) hlP _ _
  rw [← hw6]
  clear hw6 y0 y1 y2 y3 z0 z1 f0 hVP hVQ D1 D2 D3 bc
  refine (cn _).mono ?_
  rintro e w7 ⟨rfl, hb7⟩
  have E0 := blkB hb7 E0
  have E1 := blkB hb7 E1
  have E2 := blkB hb7 E2
  have E3 := blkB hb7 E3
  have b7 := bel_via b6 hb7
  clear hb7 b6 E4 cn
  obtain ⟨y0, y1, y2, y3⟩ := BoxAt.of (b := b) (by rw [← HC.out]; exact E1) k hk
  have f0 := fr4 E1
  have hQ := Lib.hid (bset2f (b := b) (by rw [← HC.out]; exact E1) k hk (nx p).h (nx p).l)

  go_wp2_with fail
  obtain ⟨w8, hw8⟩ : ∃ x, x = (w7.setCell ⟨Q, k * 4, none⟩ (.int .u64 (nx p).h)).setCell ⟨Q, k * 4 + 1, none⟩ (.int .u64 (nx p).l) := ⟨_, rfl⟩
  have G0 : w8.heap[P]? = some (.cells LV 30 (0, 0)) := by rw [hw8, set_other hne, set_other hne, HLV.out]; exact E0
  have G1 : w8.heap[Q]? = some (.cells HV 30 (0, 0)) := by rw [hw8, HHV.out]; exact hQ.out
  have G2 : w8.heap[w.heap.size + 2]? = some (.cells Z 30 (0, 0)) := by rw [hw8, set_other hQ2, set_other hQ2]; exact E2
  have G3 : w8.heap[w.heap.size + 3]? = some (.cells Z 30 (0, 0)) := by rw [hw8, set_other hQ3, set_other hQ3]; exact E3
  have b8 : Below w.heap.size w w8 := by rw [hw8]; exact below_set (below_set b7 hlQ _ _) hlQ _ _
  rw [← hw8]
  clear hw8 y0 y1 y2 y3 f0 hQ E0 E1 E2 E3 b7
  have iL : (Try.prog.info? 30).map (·.size) = some LV.size := by rw [HLV.out]; exact inf29 _
  have iH : (Try.prog.info? 30).map (·.size) = some HV.size := by rw [HHV.out]; exact inf29 _
  have oL : LV.all (·.oneCell') = true := by rw [HLV.out]; exact bx_one _
  have oH : HV.all (·.oneCell') = true := by rw [HHV.out]; exact bx_one _
  have zL : Z.size = LV.size := by rw [HZ.out, HLV.out]; rfl
  have zH : Z.size = HV.size := by rw [HZ.out, HHV.out]; rfl
  have iL := Lib.hid iL
  have iH := Lib.hid iH
  have oL := Lib.hid oL
  have oH := Lib.hid oH
  have zL := Lib.hid zL
  have zH := Lib.hid zH
  have hS0 : Below w8.heap.size w8 w8.drew ∧ True := ⟨Below.dr (Below.refl _ _), trivial⟩
  refine wp_region_held (S := fun w' => w'.heap[P]? = some (.cells LV 30) ∧ w'.heap[Q]? = some (.cells HV 30)) (by kernel_rfl) ?_
  change wpAnyH _ _ _ _ _ _ _ _ (World.drew _)
  have hS0 : w8.drew.heap[P]? = some (.cells LV 30) ∧ w8.drew.heap[Q]? = some (.cells HV 30) := ⟨G0, G1⟩
  have F2 : w8.drew.heap[w.heap.size + 2]? = some (.cells Z 30) := G2
  have F3 : w8.drew.heap[w.heap.size + 3]? = some (.cells Z 30) := G3
  have bd : Below w.heap.size w w8.drew := Below.dr b8
  generalize w8.drew = wd at hS0 F2 F3 bd ⊢
  refine wpAnyH_take (i := 0) (oi := ⟨some 54, _, _, _, _, _⟩) (v := .agg LV) rfl (by kernel_rfl) (by kernel_rfl) (by kernel_rfl) (fun _ _ _ h => h) (Or.inl ⟨by rfl, fun W hW => exec_row 30 (.tmp 9) rfl P rfl 30 LV (0, 0) _ hW.1 Try.underlying30 rfl iL.out⟩) hS0 ?_
  refine wpAnyH_take (i := 1) (oi := ⟨some 55, _, _, _, _, _⟩) (v := .agg HV) rfl (by kernel_rfl) (by kernel_rfl) (by kernel_rfl) (fun _ _ _ h => h) (Or.inl ⟨by rfl, fun W hW => exec_row 30 (.tmp 10) rfl Q rfl 30 HV (0, 0) _ hW.2 Try.underlying30 rfl iH.out⟩) hS0 ?_
  refine wpAnyH_ready (rs := [2]) (by kernel_rfl) (by simp) ?_
  refine AllReadyH.cons (o := ⟨none, _, _, _, _, _⟩) rfl (fun K hK => ?_) AllReadyH.nil
  refine step_store_row rfl 30 (.tmp 6) (.tmp 54) rfl (w.heap.size + 2) LV rfl rfl 30 Z F2 iL.out zL.out oL.out ?_
  have F3' : (wd.setRow (w.heap.size + 2) LV).heap[w.heap.size + 3]? = some (.cells Z 30) := by rw [setRow_other (by omega)]; exact F3
  have F2' := blk_setRow F2 LV
  have hS1 : (wd.setRow (w.heap.size + 2) LV).heap[P]? = some (.cells LV 30) ∧ (wd.setRow (w.heap.size + 2) LV).heap[Q]? = some (.cells HV 30) := by rw [setRow_other (Ne.symm hP2), setRow_other (Ne.symm hQ2)]; exact hS0
  refine hK.out _ _ hS1 (fun _ => ?_)
  clear hK K
  refine wpAnyH_ready (rs := [3]) (by kernel_rfl) (by simp) ?_
  refine AllReadyH.cons (o := ⟨none, _, _, _, _, _⟩) rfl (fun K hK => ?_) AllReadyH.nil
  refine step_store_row rfl 30 (.tmp 7) (.tmp 55) rfl (w.heap.size + 3) HV rfl rfl 30 Z F3' iH.out zH.out oH.out ?_
  have F2'' : ((wd.setRow (w.heap.size + 2) LV).setRow (w.heap.size + 3) HV).heap[w.heap.size + 2]? = some (.cells LV 30) := by rw [setRow_other (by omega)]; exact F2'
  have F3'' := blk_setRow F3' HV
  have hS2 : ((wd.setRow (w.heap.size + 2) LV).setRow (w.heap.size + 3) HV).heap[P]? = some (.cells LV 30) ∧ ((wd.setRow (w.heap.size + 2) LV).setRow (w.heap.size + 3) HV).heap[Q]? = some (.cells HV 30) := by rw [setRow_other (Ne.symm hP3), setRow_other (Ne.symm hQ3)]; exact hS1
  refine hK.out _ _ hS2 (fun _ => ?_)
  clear hK K
  refine wpAnyH_take (i := 4) (oi := ⟨some 8, _, _, _, _, _⟩) (v := .bool true) rfl (by kernel_rfl) (by kernel_rfl) (by kernel_rfl) (fun _ _ _ h => h) (Or.inl ⟨by rfl, fun W hW => by go_simp⟩) hS2 ?_
  refine wpAnyH_done (by kernel_rfl) ?_ _
  simp only [Act.put, List.setIfInBounds_toArray, List.set_cons_succ, List.set_cons_zero]
  go_wp2_with fail
  refine bodyPost_ret_by (res_row3 Try.results26 _ _ (w.heap.size + 2) (w.heap.size + 3) 30 30 LV HV _ _ rfl F2'' Try.underlying30 iL.out rfl F3'' Try.underlying30 iH.out) rfl ⟨rfl, Below.setRow (Below.setRow bd (by omega) _) (by omega) _⟩


/-- Split, any input. -/
theorem rsplit_any (b : Nat → R4) (f : Int) (p : P2) (wb : WB b) (h0 : Word p.h) (h1 : Word p.l) (w : World) : Calls Try.prog 26 #[.agg (bxc b), .int .i64 f, .agg #[.int .u64 p.h, .int .u64 p.l]] w fun e w' => e = .returned (.tuple #[.agg (bxc (spL b f p)), .agg (bxc (spH b f p)), .bool (spO b f p)]) ∧ Below w.heap.size w w' := by
  by_cases hn : f < 0
  · have e : spO b f p = false := by unfold spO; rw [show decide (0 ≤ f) = false by simp; omega]; rfl
    rw [(sp_no e).1, (sp_no e).2, e]
    exact rsplit_neg b f p hn w
  · by_cases hg : 6 ≤ f
    · have e : spO b f p = false := by unfold spO; rw [show decide (f < 6) = false by simp; omega, Bool.and_false]; rfl
      rw [(sp_no e).1, (sp_no e).2, e]
      exact rsplit_big b f p hg w
    · obtain ⟨k, rfl⟩ := Int.eq_ofNat_of_zero_le (show 0 ≤ f by omega)
      have hk : k < 6 := by omega
      cases hX : decide (cmpA p.h p.l (b k).fh (b k).fl < 0) with
      | true =>
        have e := sp_none (b := b) (k := k) (p := p) (by rw [ic_of, hX]; rfl)
        rw [(sp_no e).1, (sp_no e).2, e]
        exact rsplit_low b k hk p hX w
      | false =>
        cases hY : decide (cmpA p.h p.l (b k).th (b k).tl < 0) with
        | false =>
          have e := sp_none (b := b) (k := k) (p := p) (by rw [ic_of, hX, hY]; rfl)
          rw [(sp_no e).1, (sp_no e).2, e]
          exact rsplit_high b k hk p hX hY w
        | true =>
          obtain ⟨e1, e2, e3⟩ := sp_yes (b := b) hk (p := p) (by rw [ic_of, hX, hY]; rfl)
          rw [e1, e2, e3]
          exact rsplit_yes b k hk p hX hY wb h0 h1 w
end Go.Proofs.Ytomennaekjklbaa
