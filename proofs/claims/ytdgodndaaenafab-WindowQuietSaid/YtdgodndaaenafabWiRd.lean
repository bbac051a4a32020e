/- A segment is read; by-name template (gen_wi.py). -/
import Derived.Test.YtdgodndaaenafabWiA
namespace Go.Proofs.Ytdgodndaaenafab
open Go.RowKit Go.Lib
set_option linter.unusedVariables false
set_option linter.unusedSimpArgs false

def eI (t : TR) (i : Nat) : Int := if i = 0 then e0P t else if i = 1 then e1P t else endP t
theorem eI_0 (t : TR) : eI t 0 = e0P t := if_pos rfl
theorem eI_1 (t : TR) : eI t 1 = e1P t := (if_neg (by decide)).trans (if_pos rfl)
theorem eI_2 (t : TR) : eI t 2 = endP t := (if_neg (by decide)).trans (if_neg (by decide))
set_option maxRecDepth 100000 in
set_option maxHeartbeats 2000000 in
theorem read_any (t : TR) (w : World) : Calls Try.prog 14 #[.agg (TA t)] w fun e w' => e = .returned (.agg (SG t (endP t))) ∧ Below w.heap.size w w' := by
  have hh := fun (en k : Int) (w1 : World) => has_any t en k w1
  obtain ⟨dd, hd⟩ : ∃ d, t.da % 4294967296 = d := ⟨_, rfl⟩
  obtain ⟨e0, hz⟩ : ∃ e, (t.sq + dd) % 4294967296 = e := ⟨_, rfl⟩
  have he0 : Hid (eI t 0 = e0) := Lib.hid (by rw [eI_0]; unfold e0P; omega)
  have he1 : Hid (eI t 1 = if hb t 2 then ((eI t 0 + 1) % 4294967296) else eI t 0) := Lib.hid (by rw [eI_1, eI_0]; unfold e1P; rfl)
  have he2 : Hid (eI t 2 = if hb t 1 then ((eI t 1 + 1) % 4294967296) else eI t 1) := Lib.hid (by rw [eI_2, eI_1]; unfold endP; rfl)
  rw [← eI_2]
  unfold TA
  generalize eI t = E at *
  have ix0 : ∀ x : World, Sem.run Try.prog (Instr.index 65 (.agg #[.int .i64 2, .int .i64 1]) (.int .i64 0)) x = .ok (.int .i64 2) x := fun _ => by kernel_rfl
  have ix1 : ∀ x : World, Sem.run Try.prog (Instr.index 65 (.agg #[.int .i64 2, .int .i64 1]) (.int .i64 1)) x = .ok (.int .i64 1) x := fun _ => by kernel_rfl
  go_enter Try.func14, Try.ntmps14
  go_wp2_with fail
  clear hd hz
  go_loopw [15] (fun v wr => ∃ (i : Nat) (q : Int), q = i ∧ v = .int .i64 q ∧ i ≤ 2 ∧ Hid (wr.heap[w.heap.size + 1 + 1]? = some (.cells (SG t (E i)) 51 (0, 0))) ∧ Hid (∃ z, wr.heap[w.heap.size + 1]? = some (.cells (SG ⟨0, 0, 0, 0, 0, 0, 0, 0, 0, 0⟩ z) 51 (0, 0))) ∧ Below w.heap.size w wr) (fun v _ => 2 - (intOf v).toNat)
  case atStart =>
    refine ⟨0, 0, rfl, rfl, by omega, Lib.hid ?_, Lib.hid ⟨0, ?_⟩, ?_⟩
    · rw [he0.out]; exact blk_new2 _ _ (by simp)
    · exact blk_al (blk_new2 _ _ (by simp))
    · exact Below.al (Below.al (bel_al _ _) (by simp) _) (by simp; omega) _
  case round =>
    obtain ⟨i, q, hq, rfl, hi, hB, hZZ, hW⟩ := hrel
    obtain ⟨z, hZ0⟩ := hZZ.out
    have hZ := Lib.hid hZ0
    clear hZZ hZ0
    obtain rfl | rfl | rfl : i = 0 ∨ i = 1 ∨ i = 2 := by omega
    · obtain rfl : q = 0 := by simpa using hq
      clear hq
      replace hh := hh (E 0) 2
      have HE := Lib.hid he1.out
      clear he0 he1 he2
      generalize hb t 2 = b2 at *
      cases b2
      · go_wp2_with (first | ((with_reducible refine stop_op (o := ⟨some 18, _, _, _, _, _⟩) ?_); refine Lib.hid ?_; refine wpList_load_cells rfl 51 (.tmp 3) rfl ⟨w.heap.size + 1 + 1, 0, none⟩ rfl (SG t (E 0)) _ (blk_all hB.out) Try.underlying51 rfl (sg_inf t _) ?_) | (go_at_call 19; refine (hh _).mono ?_; rintro e w1 ⟨rfl, b1⟩; have hB1 := Lib.hid (kb b1 hB.out); have hZ1 := Lib.hid (kb b1 hZ.out); have hW1 := hW.trans (b1.mono hW.size); have d10 := (sg_cells hB1.out).2.2.2.2.2.2.2.2.2.2; have f10 : w1.frozen? ⟨w.heap.size + 1 + 1, 10, none⟩ = false := blk_free hB1.out))
        go_roundw
        case rel =>
          have hE : E 1 = E 0 := by simpa using HE.out
          have r1 : Hid (w1.heap[w.heap.size + 1 + 1]? = some (.cells (SG t (E 1)) 51 (0, 0))) := Lib.hid (by rw [hE]; exact hB1.out)
          exact ⟨1, 1, rfl, rfl, by omega, r1, Lib.hid ⟨z, hZ1.out⟩, hW1⟩
        case measure => simp [intOf]
      · go_wp2_with (first | ((with_reducible refine stop_op (o := ⟨some 18, _, _, _, _, _⟩) ?_); refine Lib.hid ?_; refine wpList_load_cells rfl 51 (.tmp 3) rfl ⟨w.heap.size + 1 + 1, 0, none⟩ rfl (SG t (E 0)) _ (blk_all hB.out) Try.underlying51 rfl (sg_inf t _) ?_) | (go_at_call 19; refine (hh _).mono ?_; rintro e w1 ⟨rfl, b1⟩; have hB1 := Lib.hid (kb b1 hB.out); have hZ1 := Lib.hid (kb b1 hZ.out); have hW1 := hW.trans (b1.mono hW.size); have d10 := (sg_cells hB1.out).2.2.2.2.2.2.2.2.2.2; have f10 : w1.frozen? ⟨w.heap.size + 1 + 1, 10, none⟩ = false := blk_free hB1.out))
        go_roundw
        case rel =>
          have r1 : Hid ((w1.setCell ⟨w.heap.size + 1 + 1, 10, none⟩ (.int .u32 ((E 0 + 1) % 4294967296))).heap[w.heap.size + 1 + 1]? = some (.cells (SG t (E 1)) 51 (0, 0))) := Lib.hid (by rw [show E 1 = (E 0 + 1) % 4294967296 by simpa using HE.out]; exact heap_set hB1.out 10 _)
          have r2 : (w1.setCell ⟨w.heap.size + 1 + 1, 10, none⟩ (.int .u32 ((E 0 + 1) % 4294967296))).heap[w.heap.size + 1]? = some (.cells (SG ⟨0, 0, 0, 0, 0, 0, 0, 0, 0, 0⟩ z) 51 (0, 0)) := by rw [set_other (by omega)]; exact hZ1.out
          exact ⟨1, 1, rfl, rfl, by omega, r1, Lib.hid ⟨z, r2⟩, below_set hW1 (by omega) _ _⟩
        case measure => simp [intOf]
    · obtain rfl : q = 1 := by simpa using hq
      clear hq
      replace hh := hh (E 1) 1
      have HE := Lib.hid he2.out
      clear he0 he1 he2
      generalize hb t 1 = b2 at *
      cases b2
      · go_wp2_with (first | ((with_reducible refine stop_op (o := ⟨some 18, _, _, _, _, _⟩) ?_); refine Lib.hid ?_; refine wpList_load_cells rfl 51 (.tmp 3) rfl ⟨w.heap.size + 1 + 1, 0, none⟩ rfl (SG t (E 1)) _ (blk_all hB.out) Try.underlying51 rfl (sg_inf t _) ?_) | (go_at_call 19; refine (hh _).mono ?_; rintro e w1 ⟨rfl, b1⟩; have hB1 := Lib.hid (kb b1 hB.out); have hZ1 := Lib.hid (kb b1 hZ.out); have hW1 := hW.trans (b1.mono hW.size); have d10 := (sg_cells hB1.out).2.2.2.2.2.2.2.2.2.2; have f10 : w1.frozen? ⟨w.heap.size + 1 + 1, 10, none⟩ = false := blk_free hB1.out))
        go_roundw
        case rel =>
          have hE : E 2 = E 1 := by simpa using HE.out
          have r1 : Hid (w1.heap[w.heap.size + 1 + 1]? = some (.cells (SG t (E 2)) 51 (0, 0))) := Lib.hid (by rw [hE]; exact hB1.out)
          exact ⟨2, 2, rfl, rfl, by omega, r1, Lib.hid ⟨z, hZ1.out⟩, hW1⟩
        case measure => simp [intOf]
      · go_wp2_with (first | ((with_reducible refine stop_op (o := ⟨some 18, _, _, _, _, _⟩) ?_); refine Lib.hid ?_; refine wpList_load_cells rfl 51 (.tmp 3) rfl ⟨w.heap.size + 1 + 1, 0, none⟩ rfl (SG t (E 1)) _ (blk_all hB.out) Try.underlying51 rfl (sg_inf t _) ?_) | (go_at_call 19; refine (hh _).mono ?_; rintro e w1 ⟨rfl, b1⟩; have hB1 := Lib.hid (kb b1 hB.out); have hZ1 := Lib.hid (kb b1 hZ.out); have hW1 := hW.trans (b1.mono hW.size); have d10 := (sg_cells hB1.out).2.2.2.2.2.2.2.2.2.2; have f10 : w1.frozen? ⟨w.heap.size + 1 + 1, 10, none⟩ = false := blk_free hB1.out))
        go_roundw
        case rel =>
          have r1 : Hid ((w1.setCell ⟨w.heap.size + 1 + 1, 10, none⟩ (.int .u32 ((E 1 + 1) % 4294967296))).heap[w.heap.size + 1 + 1]? = some (.cells (SG t (E 2)) 51 (0, 0))) := Lib.hid (by rw [show E 2 = (E 1 + 1) % 4294967296 by simpa using HE.out]; exact heap_set hB1.out 10 _)
          have r2 : (w1.setCell ⟨w.heap.size + 1 + 1, 10, none⟩ (.int .u32 ((E 1 + 1) % 4294967296))).heap[w.heap.size + 1]? = some (.cells (SG ⟨0, 0, 0, 0, 0, 0, 0, 0, 0, 0⟩ z) 51 (0, 0)) := by rw [set_other (by omega)]; exact hZ1.out
          exact ⟨2, 2, rfl, rfl, by omega, r1, Lib.hid ⟨z, r2⟩, below_set hW1 (by omega) _ _⟩
        case measure => simp [intOf]
    · obtain rfl : q = 2 := by simpa using hq
      clear hq hh he0 he1 he2
      go_wp2_with (first | ((with_reducible refine stop_op (o := ⟨some 26, _, _, _, _, _⟩) ?_); refine Lib.hid ?_; refine wpList_load_cells rfl 51 (.tmp 3) rfl ⟨w.heap.size + 1 + 1, 0, none⟩ rfl (SG t (E 2)) _ (blk_all hB.out) Try.underlying51 rfl (sg_inf t _) ?_) | ((with_reducible refine stop_op (o := ⟨none, _, _, _, _, _⟩) ?_); refine Lib.hid ?_; refine wpList_store_row rfl 51 (.tmp 2) (.tmp 26) rfl (w.heap.size + 1) (SG t (E 2)) rfl rfl 51 (SG ⟨0, 0, 0, 0, 0, 0, 0, 0, 0, 0⟩ z) (hZ.out) (sg_inf t _) rfl (sg_one t _) ?_))
      refine bodyPost_ret_by (results_cell_row Try.results14 _ _ (w.heap.size + 1) 51 (SG t (E 2)) (0, 0) _ rfl (blk_setRow hZ.out _) Try.underlying51 rfl (sg_inf t _)) rfl ⟨rfl, Below.setRow hW (by omega) _⟩
end Go.Proofs.Ytdgodndaaenafab
