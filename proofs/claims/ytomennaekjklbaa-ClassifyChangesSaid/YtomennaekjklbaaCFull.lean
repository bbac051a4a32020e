/- The box that has all; both sides; by-name template (gen_cfull.py). -/
import Derived.Test.YtomennaekjklbaaCPl
namespace Go.Proofs.Ytomennaekjklbaa
open Go.RowKit Go.Lib Go.Sort
set_option linter.unusedVariables false
set_option linter.unusedSimpArgs false

theorem setRow_al1 (w : World) (o1 : Obj) (c c2 : Array Value) (t : TypeId) : (World.alloc (w.alloc o1) (.cells c t)).setRow (w.heap.size + 1) c2 = World.alloc (w.alloc o1) (.cells c2 t) := by
  rw [show w.heap.size + 1 = (w.alloc o1).heap.size by rw [al_size], World.setRow_alloc_new]

set_option maxRecDepth 100000 in
set_option maxHeartbeats 4000000 in
theorem full_any (w : World) : Calls Try.prog 32 #[] w fun e w' => e = .returned (.agg (bxc fun _ => full4)) ∧ Below w.heap.size w w' := by
  obtain ⟨V, hV⟩ : ∃ V, V = bxc (fun _ => full4) := ⟨_, rfl⟩
  obtain ⟨Z, hZ⟩ : ∃ V, V = bxc (fun _ => zr4) := ⟨_, rfl⟩
  rw [← hV]
  have HV := Lib.hid hV; clear hV
  have HZ := Lib.hid hZ; clear hZ
  have hi : (Try.prog.info? 30).map (·.size) = some (#[.int .u64 0, .int .u64 0, .int .u64 0, .int .u64 0, .int .u64 0, .int .u64 0, .int .u64 0, .int .u64 0, .int .u64 0, .int .u64 0, .int .u64 0, .int .u64 0, .int .u64 0, .int .u64 0, .int .u64 0, .int .u64 0, .int .u64 0, .int .u64 0, .int .u64 0, .int .u64 0, .int .u64 0, .int .u64 0, .int .u64 0, .int .u64 0] : Array Value).size := by rw [← bxc_zero]; exact inf29 _
  have hi := Lib.hid hi
  have h1 : (#[.int .u64 0, .int .u64 0, .int .u64 0, .int .u64 0, .int .u64 0, .int .u64 0, .int .u64 0, .int .u64 0, .int .u64 0, .int .u64 0, .int .u64 0, .int .u64 0, .int .u64 0, .int .u64 0, .int .u64 0, .int .u64 0, .int .u64 0, .int .u64 0, .int .u64 0, .int .u64 0, .int .u64 0, .int .u64 0, .int .u64 0, .int .u64 0] : Array Value).all (·.oneCell') = true := by rw [← bxc_zero]; exact bx_one _
  have h1 := Lib.hid h1
  go_enter Try.func32, Try.ntmps32
  go_wp2
  clear hi h1
  obtain ⟨w0, hw0⟩ : ∃ w0, w0 = World.alloc (w.alloc (.cells #[.int .u64 0, .int .u64 0, .int .u64 0, .int .u64 0, .int .u64 0, .int .u64 0, .int .u64 0, .int .u64 0, .int .u64 0, .int .u64 0, .int .u64 0, .int .u64 0, .int .u64 0, .int .u64 0, .int .u64 0, .int .u64 0, .int .u64 0, .int .u64 0, .int .u64 0, .int .u64 0, .int .u64 0, .int .u64 0, .int .u64 0, .int .u64 0] 30)) (.cells #[.int .u64 0, .int .u64 0, .int .u64 0, .int .u64 0, .int .u64 0, .int .u64 0, .int .u64 0, .int .u64 0, .int .u64 0, .int .u64 0, .int .u64 0, .int .u64 0, .int .u64 0, .int .u64 0, .int .u64 0, .int .u64 0, .int .u64 0, .int .u64 0, .int .u64 0, .int .u64 0, .int .u64 0, .int .u64 0, .int .u64 0, .int .u64 0] 30) := ⟨_, rfl⟩
  have A0 : w0.heap[w.heap.size]? = some (.cells Z 30) := by rw [hw0, HZ.out, bxc_zero]; exact blk_al (heap_alloc_new w _) _
  have A1 : w0.heap[w.heap.size + 1]? = some (.cells (bxc (fun _ => zr4)) 30) := by rw [hw0, bxc_zero]; exact al_new (al_size _ _).symm _
  have b0 : Below w.heap.size w w0 := by rw [hw0]; exact Below.al (Below.al (Below.refl _ _) _) _
  rw [← hw0]
  clear hw0
  go_loopw [3] (fun v7 wr => ∃ k : Nat, v7 = .int .i64 k ∧ k ≤ 6 ∧ (∃ x' : Nat → R4, wr.heap[w.heap.size + 1]? = some (.cells (bxc x') 30 (0, 0)) ∧ Hid (∀ i, i < 6 → x' i = if i < k then (fun _ => full4) i else (fun _ => zr4) i)) ∧ wr.heap[w.heap.size]? = some (.cells Z 30 (0, 0)) ∧ Below w.heap.size w wr) (fun v7 _ => 6 - (intOf v7).toNat)
  case atStart => exact ⟨0, rfl, by omega, ⟨_, A1, Lib.hid (fun i hi => by rw [if_neg (Nat.not_lt_zero _)])⟩, A0, b0⟩
  case round =>
    obtain ⟨k, rfl, hk, ⟨x', B1, hA⟩, B0, bw⟩ := hrel
    clear A0 A1 b0
    by_cases hk6 : k < 6
    · obtain ⟨u0, u1, u2, u3⟩ := BoxAt.of B1 k hk6
      have f0 := fr4 B1
      have hxk : (x' k).fh = 0 ∧ (x' k).fl = 0 := by rw [hA.out k hk6, if_neg (by omega)]; exact ⟨rfl, rfl⟩
      have HA := Lib.hid (upd_step (c := fun _ => full4) hA.out hk6)
      have B1s := bset2 B1 k hk6 18446744073709551615 18446744073709551615
      rw [hxk.1, hxk.2] at B1s
      have B1s := Lib.hid B1s
      have hne0 : w.heap.size ≠ w.heap.size + 1 := by omega
      have hle : w.heap.size ≤ w.heap.size + 1 := by omega
      clear hA hxk
      go_wp2
      exact ⟨⟨k + 1, by simp, by omega, ⟨_, B1s.out, HA⟩, by rw [set_other hne0, set_other hne0]; exact B0, below_set (below_set bw hle _ _) hle _ _⟩, by simp [intOf]; omega⟩
    · obtain rfl : k = 6 := by omega
      have hVz : bxc x' = V := by rw [HV.out]; exact bxc_congr fun i hi => by rw [hA.out i hi, if_pos hi]
      rw [hVz] at B1
      have i29 : (Try.prog.info? 30).map (·.size) = some V.size := by rw [HV.out]; exact inf29 _
      have i1 : V.all (·.oneCell') = true := by rw [HV.out]; exact bx_one _
      have isz : Z.size = V.size := by rw [HZ.out, HV.out]; rfl
      have i29 := Lib.hid i29
      have i1 := Lib.hid i1
      have isz := Lib.hid isz
      clear hVz hA
      go_wp2_with (first
        | (refine wpList_load_row rfl 30 (.tmp 1) rfl (w.heap.size + 1) rfl 30 V (0, 0) _ B1 Try.underlying30 rfl i29.out ?_)
        | (refine wpList_store_row rfl 30 (.tmp 0) (.tmp 12) rfl w.heap.size V rfl rfl 30 Z B0 i29.out isz.out i1.out ?_))
      refine bodyPost_ret_by (results_cell_row Try.results32 _ _ w.heap.size 30 V _ _ rfl (blk_setRow B0 V) Try.underlying30 rfl i29.out) rfl ⟨rfl, Below.setRow bw (Nat.le_refl _) _⟩

set_option maxRecDepth 100000 in
set_option maxHeartbeats 4000000 in
theorem rfull_any (w : World) : Calls Try.prog 16 #[] w fun e w' => e = .returned (.agg (bxc fun _ => full4)) ∧ Below w.heap.size w w' := by
  obtain ⟨V, hV⟩ : ∃ V, V = bxc (fun _ => full4) := ⟨_, rfl⟩
  obtain ⟨Z, hZ⟩ : ∃ V, V = bxc (fun _ => zr4) := ⟨_, rfl⟩
  rw [← hV]
  have HV := Lib.hid hV; clear hV
  have HZ := Lib.hid hZ; clear hZ
  have hi : (Try.prog.info? 30).map (·.size) = some (#[.int .u64 0, .int .u64 0, .int .u64 0, .int .u64 0, .int .u64 0, .int .u64 0, .int .u64 0, .int .u64 0, .int .u64 0, .int .u64 0, .int .u64 0, .int .u64 0, .int .u64 0, .int .u64 0, .int .u64 0, .int .u64 0, .int .u64 0, .int .u64 0, .int .u64 0, .int .u64 0, .int .u64 0, .int .u64 0, .int .u64 0, .int .u64 0] : Array Value).size := by rw [← bxc_zero]; exact inf29 _
  have hi := Lib.hid hi
  have h1 : (#[.int .u64 0, .int .u64 0, .int .u64 0, .int .u64 0, .int .u64 0, .int .u64 0, .int .u64 0, .int .u64 0, .int .u64 0, .int .u64 0, .int .u64 0, .int .u64 0, .int .u64 0, .int .u64 0, .int .u64 0, .int .u64 0, .int .u64 0, .int .u64 0, .int .u64 0, .int .u64 0, .int .u64 0, .int .u64 0, .int .u64 0, .int .u64 0] : Array Value).all (·.oneCell') = true := by rw [← bxc_zero]; exact bx_one _
  have h1 := Lib.hid h1
  go_enter Try.func16, Try.ntmps16
  go_wp2_with (refine wpList_store_row rfl 30 (.tmp 1) (.tmp 3) rfl (w.heap.size + 1) #[.int .u64 0, .int .u64 0, .int .u64 0, .int .u64 0, .int .u64 0, .int .u64 0, .int .u64 0, .int .u64 0, .int .u64 0, .int .u64 0, .int .u64 0, .int .u64 0, .int .u64 0, .int .u64 0, .int .u64 0, .int .u64 0, .int .u64 0, .int .u64 0, .int .u64 0, .int .u64 0, .int .u64 0, .int .u64 0, .int .u64 0, .int .u64 0] rfl rfl 30 #[.int .u64 0, .int .u64 0, .int .u64 0, .int .u64 0, .int .u64 0, .int .u64 0, .int .u64 0, .int .u64 0, .int .u64 0, .int .u64 0, .int .u64 0, .int .u64 0, .int .u64 0, .int .u64 0, .int .u64 0, .int .u64 0, .int .u64 0, .int .u64 0, .int .u64 0, .int .u64 0, .int .u64 0, .int .u64 0, .int .u64 0, .int .u64 0] (al_new (al_size _ _).symm _) hi.out rfl h1.out ?_; rw [setRow_al1])
  clear hi h1
  obtain ⟨w0, hw0⟩ : ∃ w0, w0 = World.alloc (w.alloc (.cells #[.int .u64 0, .int .u64 0, .int .u64 0, .int .u64 0, .int .u64 0, .int .u64 0, .int .u64 0, .int .u64 0, .int .u64 0, .int .u64 0, .int .u64 0, .int .u64 0, .int .u64 0, .int .u64 0, .int .u64 0, .int .u64 0, .int .u64 0, .int .u64 0, .int .u64 0, .int .u64 0, .int .u64 0, .int .u64 0, .int .u64 0, .int .u64 0] 30)) (.cells #[.int .u64 0, .int .u64 0, .int .u64 0, .int .u64 0, .int .u64 0, .int .u64 0, .int .u64 0, .int .u64 0, .int .u64 0, .int .u64 0, .int .u64 0, .int .u64 0, .int .u64 0, .int .u64 0, .int .u64 0, .int .u64 0, .int .u64 0, .int .u64 0, .int .u64 0, .int .u64 0, .int .u64 0, .int .u64 0, .int .u64 0, .int .u64 0] 30) := ⟨_, rfl⟩
  have A0 : w0.heap[w.heap.size]? = some (.cells Z 30) := by rw [hw0, HZ.out, bxc_zero]; exact blk_al (heap_alloc_new w _) _
  have A1 : w0.heap[w.heap.size + 1]? = some (.cells (bxc (fun _ => zr4)) 30) := by rw [hw0, bxc_zero]; exact al_new (al_size _ _).symm _
  have b0 : Below w.heap.size w w0 := by rw [hw0]; exact Below.al (Below.al (Below.refl _ _) _) _
  rw [← hw0]
  clear hw0
  go_loopw [2] (fun v7 wr => ∃ k : Nat, v7 = .int .i64 k ∧ k ≤ 6 ∧ (∃ x' : Nat → R4, wr.heap[w.heap.size + 1]? = some (.cells (bxc x') 30 (0, 0)) ∧ Hid (∀ i, i < 6 → x' i = if i < k then (fun _ => full4) i else (fun _ => zr4) i)) ∧ wr.heap[w.heap.size]? = some (.cells Z 30 (0, 0)) ∧ Below w.heap.size w wr) (fun v7 _ => 6 - (intOf v7).toNat)
  case atStart => exact ⟨0, rfl, by omega, ⟨_, A1, Lib.hid (fun i hi => by rw [if_neg (Nat.not_lt_zero _)])⟩, A0, b0⟩
  case round =>
    obtain ⟨k, rfl, hk, ⟨x', B1, hA⟩, B0, bw⟩ := hrel
    clear A0 A1 b0
    by_cases hk6 : k < 6
    · obtain ⟨u0, u1, u2, u3⟩ := BoxAt.of B1 k hk6
      have f0 := fr4 B1
      have hxk : (x' k).fh = 0 ∧ (x' k).fl = 0 := by rw [hA.out k hk6, if_neg (by omega)]; exact ⟨rfl, rfl⟩
      have HA := Lib.hid (upd_step (c := fun _ => full4) hA.out hk6)
      have B1s := bset2 B1 k hk6 18446744073709551615 18446744073709551615
      rw [hxk.1, hxk.2] at B1s
      have B1s := Lib.hid B1s
      have hne0 : w.heap.size ≠ w.heap.size + 1 := by omega
      have hle : w.heap.size ≤ w.heap.size + 1 := by omega
      clear hA hxk
      go_wp2
      exact ⟨⟨k + 1, by simp, by omega, ⟨_, B1s.out, HA⟩, by rw [set_other hne0, set_other hne0]; exact B0, below_set (below_set bw hle _ _) hle _ _⟩, by simp [intOf]; omega⟩
    · obtain rfl : k = 6 := by omega
      have hVz : bxc x' = V := by rw [HV.out]; exact bxc_congr fun i hi => by rw [hA.out i hi, if_pos hi]
      rw [hVz] at B1
      have i29 : (Try.prog.info? 30).map (·.size) = some V.size := by rw [HV.out]; exact inf29 _
      have i1 : V.all (·.oneCell') = true := by rw [HV.out]; exact bx_one _
      have isz : Z.size = V.size := by rw [HZ.out, HV.out]; rfl
      have i29 := Lib.hid i29
      have i1 := Lib.hid i1
      have isz := Lib.hid isz
      clear hVz hA
      go_wp2_with (first
        | (refine wpList_load_row rfl 30 (.tmp 1) rfl (w.heap.size + 1) rfl 30 V (0, 0) _ B1 Try.underlying30 rfl i29.out ?_)
        | (refine wpList_store_row rfl 30 (.tmp 0) (.tmp 13) rfl w.heap.size V rfl rfl 30 Z B0 i29.out isz.out i1.out ?_))
      refine bodyPost_ret_by (results_cell_row Try.results16 _ _ w.heap.size 30 V _ _ rfl (blk_setRow B0 V) Try.underlying30 rfl i29.out) rfl ⟨rfl, Below.setRow bw (Nat.le_refl _) _⟩
end Go.Proofs.Ytomennaekjklbaa
