/- FlowSides: the walk; by-name template (gen_fosi.py). -/
import Derived.Test.YtdgodndaaenafaaFoSt
namespace Go.Proofs.Ytdgodndaaenafaa
open Go.RowKit Go.Lib Go.Maps
set_option linter.unusedVariables false
set_option linter.unusedSimpArgs false

def LawPost (w : World) (e : Ending) (w' : World) : Prop := e = .returned (.bool true) ∧ Below w.heap.size w w'
theorem add_first {f : Fl} (h : f.op ≠ f.bk) : addF [] f = ⟨1, 0, 0, [{ f with id := 1 }]⟩ := by
  have hb : badF [] f = false := by unfold badF takF; simpa using h
  unfold addF
  rw [hb, if_neg (by simp), if_pos (by simp)]
  rfl
theorem add_firstN {f : Fl} (h : f.op = f.bk) : addF [] f = ⟨0, 0, 63, []⟩ := by
  have hb : badF [] f = true := by unfold badF; simp [h]
  unfold addF
  rw [if_pos hb]

theorem fa_keys {w : World} {B : Nat} {f : Fl} {T : TypeId} (h : w.heap[B]? = some (.cells (FA f) T (0, 0))) : w.cell? ⟨B, 1, none⟩ = some (.int .i64 f.op.pr) ∧ w.cell? ⟨B, 2, none⟩ = some (.int .u64 f.op.sh) ∧ w.cell? ⟨B, 3, none⟩ = some (.int .u64 f.op.sl) ∧ w.cell? ⟨B, 4, none⟩ = some (.int .u64 f.op.dh) ∧ w.cell? ⟨B, 5, none⟩ = some (.int .u64 f.op.dl) ∧ w.cell? ⟨B, 6, none⟩ = some (.int .i64 f.op.sp) ∧ w.cell? ⟨B, 7, none⟩ = some (.int .i64 f.op.dp) ∧ w.cell? ⟨B, 8, none⟩ = some (.int .i64 f.bk.pr) ∧ w.cell? ⟨B, 9, none⟩ = some (.int .u64 f.bk.sh) ∧ w.cell? ⟨B, 10, none⟩ = some (.int .u64 f.bk.sl) ∧ w.cell? ⟨B, 11, none⟩ = some (.int .u64 f.bk.dh) ∧ w.cell? ⟨B, 12, none⟩ = some (.int .u64 f.bk.dl) ∧ w.cell? ⟨B, 13, none⟩ = some (.int .i64 f.bk.sp) ∧ w.cell? ⟨B, 14, none⟩ = some (.int .i64 f.bk.dp) :=
  ⟨cell_of_row _ _ 1 _ _ _ h, cell_of_row _ _ 2 _ _ _ h, cell_of_row _ _ 3 _ _ _ h, cell_of_row _ _ 4 _ _ _ h, cell_of_row _ _ 5 _ _ _ h, cell_of_row _ _ 6 _ _ _ h, cell_of_row _ _ 7 _ _ _ h, cell_of_row _ _ 8 _ _ _ h, cell_of_row _ _ 9 _ _ _ h, cell_of_row _ _ 10 _ _ _ h, cell_of_row _ _ 11 _ _ _ h, cell_of_row _ _ 12 _ _ _ h, cell_of_row _ _ 13 _ _ _ h, cell_of_row _ _ 14 _ _ _ h⟩

set_option maxRecDepth 100000 in
set_option maxHeartbeats 8000000 in
theorem sides_any (f : Fl) (k : Ky) (hf : FlOk f) (hk : KyOk k) (w : World) : Calls Try.prog 4 #[.agg (FA f), .agg (KA k)] w (LawPost w) := by
  have b1 : Below w.heap.size w ((w.alloc (.cells (FA f) 38)).alloc (.cells (KA k) 36)) := Below.al (Below.al (Below.refl _ _) _) _
  have A0 : ((w.alloc (.cells (FA f) 38)).alloc (.cells (KA k) 36)).heap[w.heap.size]? = some (.cells (FA f) 38 (0, 0)) := blk_al (heap_alloc_new w _) _
  have A1 : ((w.alloc (.cells (FA f) 38)).alloc (.cells (KA k) 36)).heap[w.heap.size + 1]? = some (.cells (KA k) 36 (0, 0)) := al_new (al_size _ _).symm _
  have k_i1 := Lib.hid (k_inf f.op)
  have k_i2 := Lib.hid (k_inf f.bk)
  have k_iO := Lib.hid (k_inf k)
  have f_i := Lib.hid (f_inf f)
  have HOP := Lib.hid (fun (W1 : World) (hh : W1.heap[w.heap.size]? = some (.cells (FA f) 38 (0, 0))) => fa_op hh)
  have HBK := Lib.hid (fun (W1 : World) (hh : W1.heap[w.heap.size]? = some (.cells (FA f) 38 (0, 0))) => fa_bk hh)
  have cN := fun W1 => st_new W1
  have cA := fun (w1 W1 : World) (TB : Nat) (S : St w1 W1 TB []) => S.add hf
  have eob := fun W1 => eql_ky f.op f.bk W1
  have eko := fun W1 => eql_ky k f.op W1
  have ekb := fun W1 => eql_ky k f.bk W1
  have nko := fun W1 => neq_ky f.op f.op W1
  have HB1 := Lib.hid b1
  by_cases hob : f.op = f.bk
  · rw [add_firstN hob] at cA
    have e0 : (f.op == f.bk) = true := by simpa using hob
    rw [e0] at eob
    simp only at cA
    obtain ⟨w1, hw1⟩ : ∃ x, x = (w.alloc (.cells (FA f) 38)).alloc (.cells (KA k) 36) := ⟨_, rfl⟩
    rw [← hw1] at b1 A0 A1 HB1
    have HW1 := Lib.hid hw1
    have HCA := Lib.hid cA
    clear hw1 hf hk hob e0 eko ekb nko b1 cA
    generalize KA f.op = K1 at *
    generalize KA f.bk = K2 at *
    generalize FA f = F at *
    generalize KA k = KO at *
    go_enter Try.func4, Try.ntmps4
    go_upto_region 1 with fail
    rw [← HW1.out]
    go_wp2_with (first
      | (go_at_call 8; refine (cN _).mono ?_; rintro e w2 ⟨TB, rfl, hS⟩; have bS := hS.bel; have A0' := blkB bS A0)
      | (refine wpList_load_cells rfl 38 (.tmp 2) rfl ⟨w.heap.size, 0, none⟩ rfl F _ (fa_all A0') Try.underlying38 rfl f_i.out ?_)
      | (go_at_call 9; refine (HCA.out _ _ _ hS).mono ?_; rintro e w3 ⟨rfl, hS3⟩; have b3 := hS3.bel; have A0'' := blkB b3 A0)
      | (refine wpList_load_cells rfl 36 (.tmp 26) rfl ⟨w.heap.size, 1, none⟩ rfl K1 _ (HOP.out _ A0'') Try.underlying36 rfl k_i1.out ?_)
      | (refine wpList_load_cells rfl 36 (.tmp 28) rfl ⟨w.heap.size, 8, none⟩ rfl K2 _ (HBK.out _ A0'') Try.underlying36 rfl k_i2.out ?_))
    go_ret
    exact ⟨rfl, HB1.out.trans (b3.mono HB1.out.size)⟩
  · have hb0 : (f.op == f.bk) = false := by simpa using hob
    have e1 : finF [{ f with id := 1 }] f.op = { f with id := 1 } := by simp [finF, hitF]
    have e2 : finF [{ f with id := 1 }] f.bk = { f with id := 1 } := by simp [finF, hitF]
    have t1 : takF [{ f with id := 1 }] f.op = true := by simp [takF, hitF]
    have t2 : takF [{ f with id := 1 }] f.bk = true := by simp [takF, hitF]
    have t3 : takF [{ f with id := 1 }] k = ((k == f.op) || (k == f.bk)) := by
      rw [Bool.eq_iff_iff]
      simp [takF, hitF]
      constructor
      · rintro (h | h)
        · exact .inl h.symm
        · exact .inr h.symm
      · rintro (h | h)
        · exact .inl h.symm
        · exact .inr h.symm
    have h1 : hasF [{ f with id := 1 }] 1 = true := by simp [hasF]
    have r1 : remF [{ f with id := 1 }] 1 = [] := by simp [remF]
    have h2 : hasF ([] : List Fl) 1 = false := rfl
    have r2 : remF ([] : List Fl) 1 = [] := rfl
    have tn : ∀ k, takF ([] : List Fl) k = false := fun _ => rfl
    rw [add_first hob] at cA
    simp only at cA
    have cF1 := fun (w1 W1 : World) (TB : Nat) (S : St w1 W1 TB [{ f with id := 1 }]) => S.find hf.op
    have cF2 := fun (w1 W1 : World) (TB : Nat) (S : St w1 W1 TB [{ f with id := 1 }]) => S.find hf.bk
    have cF3 := fun (w1 W1 : World) (TB : Nat) (S : St w1 W1 TB [{ f with id := 1 }]) => S.find hk
    have cD1 := fun (w1 W1 : World) (TB : Nat) (S : St w1 W1 TB [{ f with id := 1 }]) => S.drop (id := 1) (by unfold i64ok; omega)
    have cD2 := fun (w1 W1 : World) (TB : Nat) (S : St w1 W1 TB []) => S.drop (id := 1) (by unfold i64ok; omega)
    have cT1 := fun (w1 W1 : World) (TB : Nat) (S : St w1 W1 TB []) => S.taken hf.op
    have cT2 := fun (w1 W1 : World) (TB : Nat) (S : St w1 W1 TB []) => S.taken hf.bk
    have cL := fun (w1 W1 : World) (TB : Nat) (S : St w1 W1 TB []) => S.list
    rw [e1, t1] at cF1
    rw [e2, t2] at cF2
    rw [t3] at cF3
    rw [h1, r1] at cD1
    rw [h2, r2] at cD2
    simp only [tn] at cT1 cT2
    have b21 : (f.bk == f.op) = false := by simpa using fun e => hob e.symm
    simp only [Bool.true_and, b21, beq_self_eq_true] at cF1 cF2
    rw [hb0] at eob
    have nff := fun W1 => neq_fl { f with id := 1 } { f with id := 1 } W1
    rw [show (({ f with id := 1 } : Fl) == { f with id := 1 }) = true by simp] at nff
    rw [show (f.op == f.op) = true by simp] at nko
    have f_i1 := Lib.hid (f_inf { f with id := 1 })
    have f_11 := Lib.hid (f_one { f with id := 1 })
    have f_s1 := Lib.hid (show (FA zf).size = (FA { f with id := 1 }).size from rfl)
    have f_i3 := Lib.hid (f_inf (finF [{ f with id := 1 }] k))
    have f_13 := Lib.hid (f_one (finF [{ f with id := 1 }] k))
    have f_s3 := Lib.hid (show (FA zf).size = (FA (finF [{ f with id := 1 }] k)).size from rfl)
    have hA := fun (w1 : World) => heap_alloc_new w1 (.cells #[.int .i64 0, .int .i64 0, .int .u64 0, .int .u64 0, .int .u64 0, .int .u64 0, .int .i64 0, .int .i64 0, .int .i64 0, .int .u64 0, .int .u64 0, .int .u64 0, .int .u64 0, .int .i64 0, .int .i64 0, .int .i64 0, .int .i64 0, .int .i64 0, .int .i64 0, .int .i64 0] 38)
    have HA : ∀ w1 : World, (w1.alloc (.cells #[.int .i64 0, .int .i64 0, .int .u64 0, .int .u64 0, .int .u64 0, .int .u64 0, .int .i64 0, .int .i64 0, .int .i64 0, .int .u64 0, .int .u64 0, .int .u64 0, .int .u64 0, .int .i64 0, .int .i64 0, .int .i64 0, .int .i64 0, .int .i64 0, .int .i64 0, .int .i64 0] 38)).heap[w1.heap.size]? = some (.cells (FA zf) 38 (0, 0)) := fun w1 => hA w1
    have HA := Lib.hid HA
    have HX0 := Lib.hid (fun (W1 : World) (B : Nat) (hh : W1.heap[B]? = some (.cells (FA { f with id := 1 }) 38 (0, 0))) => fa_id hh)
    have HX1 := Lib.hid (fun (W1 : World) (B : Nat) (hh : W1.heap[B]? = some (.cells (FA { f with id := 1 }) 38 (0, 0))) => fa_op hh)
    simp only at HX1 HX0
    obtain ⟨w1, hw1⟩ : ∃ x, x = (w.alloc (.cells (FA f) 38)).alloc (.cells (KA k) 36) := ⟨_, rfl⟩
    rw [← hw1] at b1 A0 A1 HB1
    have HW1 := Lib.hid hw1
    have HCA := Lib.hid cA
    have HF1 := Lib.hid cF1
    have HF2 := Lib.hid cF2
    have HF3 := Lib.hid cF3
    have HD1 := Lib.hid cD1
    have HD2 := Lib.hid cD2
    have HT1 := Lib.hid cT1
    have HT2 := Lib.hid cT2
    have HL := Lib.hid cL
    clear hw1 hf hk hob b1 cA cF1 cF2 cF3 cD1 cD2 cT1 cT2 cL e1 e2 t1 t2 t3 h1 r1 h2 r2 tn b21 hb0 hA
    generalize (((k == f.op) || (k == f.bk)) && ((finF [{ f with id := 1 }] k).bk == k)) = bq at *
    generalize (k == f.op) = xa at *
    generalize (k == f.bk) = xb at *
    generalize FA (finF [{ f with id := 1 }] k) = F3 at *
    generalize hgF1 : FA { f with id := 1 } = F1 at *
    generalize ([{ f with id := 1 }] : List Fl) = L1 at *
    generalize hgK1 : KA f.op = K1 at *
    generalize hgK2 : KA f.bk = K2 at *
    generalize hgF : FA f = F at *
    generalize hgKO : KA k = KO at *
    have GF1 := Lib.hid hgF1
    have GF := Lib.hid hgF
    have GK1 := Lib.hid hgK1
    have GK2 := Lib.hid hgK2
    have GKO := Lib.hid hgKO
    clear hgF1 hgF hgK1 hgK2 hgKO
    go_enter Try.func4, Try.ntmps4
    go_upto_region 1 with fail
    rw [← HW1.out]
    go_upto_region 5 with (first
      | (go_at_call 8; refine (cN _).mono ?_; rintro e w2 ⟨TB, rfl, hS⟩; have bS := hS.bel; have A0' := blkB bS A0)
      | (refine wpList_load_cells rfl 38 (.tmp 2) rfl ⟨w.heap.size, 0, none⟩ rfl F _ (fa_all A0') Try.underlying38 rfl f_i.out ?_)
      | (go_at_call 9; refine (HCA.out _ _ _ hS).mono ?_; rintro e w3 ⟨rfl, hS3⟩; have b3 := hS3.bel; have A0'' := blkB b3 A0)
      | (refine wpList_load_cells rfl 36 (.tmp 26) rfl ⟨w.heap.size, 1, none⟩ rfl K1 _ (HOP.out _ A0'') Try.underlying36 rfl k_i1.out ?_)
      | (refine wpList_load_cells rfl 36 (.tmp 28) rfl ⟨w.heap.size, 8, none⟩ rfl K2 _ (HBK.out _ A0'') Try.underlying36 rfl k_i2.out ?_))
    clear A0' hS bS
    go_upto_region 6 with (first
      | (refine wpList_load_cells rfl 36 (.tmp 35) rfl ⟨w.heap.size, 1, none⟩ rfl K1 _ (HOP.out _ A0'') Try.underlying36 rfl k_i1.out ?_)
      | (go_at_call 15; refine (HF1.out _ _ _ hS3).mono ?_; rintro e w4 ⟨rfl, hS4, _⟩)
      | (refine wpList_store_row rfl 38 (.tmp 9) (.tmp 38) rfl w4.heap.size F1 rfl rfl 38 (FA zf) (HA.out w4) f_i1.out f_s1.out f_11.out ?_; rw [World.setRow_alloc_new]))
    obtain ⟨w5, hw5⟩ : ∃ x, x = w4.alloc (.cells F1 38) := ⟨_, rfl⟩
    have hS5 : St w1 w5 TB L1 := by rw [hw5]; exact hS4.below (Below.al (Below.refl _ _) _)
    have X1 : w5.heap[w4.heap.size]? = some (.cells F1 38 (0, 0)) := by rw [hw5]; exact heap_alloc_new w4 _
    rw [← hw5]
    clear hw5 hS4 hS3 b3 A0''
    generalize w4.heap.size = g1 at *
    have A5 := blkB hS5.bel A0
    go_upto_region 7 with (first
      | (refine wpList_load_cells rfl 36 (.tmp 43) rfl ⟨w.heap.size, 8, none⟩ rfl K2 _ (HBK.out _ A5) Try.underlying36 rfl k_i2.out ?_)
      | (go_at_call 15; refine (HF2.out _ _ _ hS5).mono ?_; rintro e w6 ⟨rfl, hS6, bx6⟩; have X6 := blkB bx6 X1)
      | (refine wpList_store_row rfl 38 (.tmp 12) (.tmp 46) rfl w6.heap.size F1 rfl rfl 38 (FA zf) (HA.out w6) f_i1.out f_s1.out f_11.out ?_; rw [World.setRow_alloc_new]))
    obtain ⟨w7, hw7⟩ : ∃ x, x = w6.alloc (.cells F1 38) := ⟨_, rfl⟩
    have hS7 : St w1 w7 TB L1 := by rw [hw7]; exact hS6.below (Below.al (Below.refl _ _) _)
    have X7 : w7.heap[g1]? = some (.cells F1 38 (0, 0)) := by rw [hw7]; exact blk_al X6 _
    have Y7 : w7.heap[w6.heap.size]? = some (.cells F1 38 (0, 0)) := by rw [hw7]; exact heap_alloc_new w6 _
    rw [← hw7]
    clear hw7 hS6 hS5 X1 A5 bx6 X6
    generalize w6.heap.size = g2 at *
    have A7 := blkB hS7.bel A1
    go_upto_region 8 with (first
      | (refine wpList_load_cells rfl 36 (.tmp 3) rfl ⟨w.heap.size + 1, 0, none⟩ rfl KO _ (fa_all A7) Try.underlying36 rfl k_iO.out ?_)
      | (go_at_call 15; refine (HF3.out _ _ _ hS7).mono ?_; rintro e w8 ⟨rfl, hS8, bx8⟩; have X8 := blkB bx8 X7; have Y8 := blkB bx8 Y7)
      | (refine wpList_store_row rfl 38 (.tmp 15) (.tmp 53) rfl w8.heap.size F3 rfl rfl 38 (FA zf) (HA.out w8) f_i3.out f_s3.out f_13.out ?_; rw [World.setRow_alloc_new]))
    obtain ⟨w9, hw9⟩ : ∃ x, x = w8.alloc (.cells F3 38) := ⟨_, rfl⟩
    have hS9 : St w1 w9 TB L1 := by rw [hw9]; exact hS8.below (Below.al (Below.refl _ _) _)
    have X9 : w9.heap[g1]? = some (.cells F1 38 (0, 0)) := by rw [hw9]; exact blk_al X8 _
    have Y9 : w9.heap[g2]? = some (.cells F1 38 (0, 0)) := by rw [hw9]; exact blk_al Y8 _
    rw [← hw9]
    clear hw9 hS8 hS7 X7 Y7 A7 bx8 X8 Y8
    generalize w8.heap.size = g3 at *
    have A9 := blkB hS9.bel A0
    have O9 := blkB hS9.bel A1
    have x9 := Lib.hid (fa_all X9)
    have y9 := Lib.hid (fa_all Y9)
    have hgf1 := GF1.out
    rw [← hgf1] at X9 Y9
    obtain rfl := GF.out
    obtain rfl := GK1.out
    obtain rfl := GK2.out
    obtain rfl := GKO.out
    have x0 : w9.cell? ⟨g1, 0, none⟩ = some (.int .i64 1) := cell_of_row _ _ 0 _ _ _ X9
    have x1 : w9.cell? ⟨g1, 1, none⟩ = some (.int .i64 f.op.pr) := cell_of_row _ _ 1 _ _ _ X9
    have x2 : w9.cell? ⟨g1, 2, none⟩ = some (.int .u64 f.op.sh) := cell_of_row _ _ 2 _ _ _ X9
    have x3 : w9.cell? ⟨g1, 3, none⟩ = some (.int .u64 f.op.sl) := cell_of_row _ _ 3 _ _ _ X9
    have x4 : w9.cell? ⟨g1, 4, none⟩ = some (.int .u64 f.op.dh) := cell_of_row _ _ 4 _ _ _ X9
    have x5 : w9.cell? ⟨g1, 5, none⟩ = some (.int .u64 f.op.dl) := cell_of_row _ _ 5 _ _ _ X9
    have x6 : w9.cell? ⟨g1, 6, none⟩ = some (.int .i64 f.op.sp) := cell_of_row _ _ 6 _ _ _ X9
    have x7 : w9.cell? ⟨g1, 7, none⟩ = some (.int .i64 f.op.dp) := cell_of_row _ _ 7 _ _ _ X9
    have a1 : w9.cell? ⟨w.heap.size, 1, none⟩ = some (.int .i64 f.op.pr) := cell_of_row _ _ 1 _ _ _ A9
    have a2 : w9.cell? ⟨w.heap.size, 2, none⟩ = some (.int .u64 f.op.sh) := cell_of_row _ _ 2 _ _ _ A9
    have a3 : w9.cell? ⟨w.heap.size, 3, none⟩ = some (.int .u64 f.op.sl) := cell_of_row _ _ 3 _ _ _ A9
    have a4 : w9.cell? ⟨w.heap.size, 4, none⟩ = some (.int .u64 f.op.dh) := cell_of_row _ _ 4 _ _ _ A9
    have a5 : w9.cell? ⟨w.heap.size, 5, none⟩ = some (.int .u64 f.op.dl) := cell_of_row _ _ 5 _ _ _ A9
    have a6 : w9.cell? ⟨w.heap.size, 6, none⟩ = some (.int .i64 f.op.sp) := cell_of_row _ _ 6 _ _ _ A9
    have a7 : w9.cell? ⟨w.heap.size, 7, none⟩ = some (.int .i64 f.op.dp) := cell_of_row _ _ 7 _ _ _ A9
    have a8 : w9.cell? ⟨w.heap.size, 8, none⟩ = some (.int .i64 f.bk.pr) := cell_of_row _ _ 8 _ _ _ A9
    have a9 : w9.cell? ⟨w.heap.size, 9, none⟩ = some (.int .u64 f.bk.sh) := cell_of_row _ _ 9 _ _ _ A9
    have a10 : w9.cell? ⟨w.heap.size, 10, none⟩ = some (.int .u64 f.bk.sl) := cell_of_row _ _ 10 _ _ _ A9
    have a11 : w9.cell? ⟨w.heap.size, 11, none⟩ = some (.int .u64 f.bk.dh) := cell_of_row _ _ 11 _ _ _ A9
    have a12 : w9.cell? ⟨w.heap.size, 12, none⟩ = some (.int .u64 f.bk.dl) := cell_of_row _ _ 12 _ _ _ A9
    have a13 : w9.cell? ⟨w.heap.size, 13, none⟩ = some (.int .i64 f.bk.sp) := cell_of_row _ _ 13 _ _ _ A9
    have a14 : w9.cell? ⟨w.heap.size, 14, none⟩ = some (.int .i64 f.bk.dp) := cell_of_row _ _ 14 _ _ _ A9
    have o0 : w9.cell? ⟨w.heap.size + 1, 0, none⟩ = some (.int .i64 k.pr) := cell_of_row _ _ 0 _ _ _ O9
    have o1 : w9.cell? ⟨w.heap.size + 1, 1, none⟩ = some (.int .u64 k.sh) := cell_of_row _ _ 1 _ _ _ O9
    have o2 : w9.cell? ⟨w.heap.size + 1, 2, none⟩ = some (.int .u64 k.sl) := cell_of_row _ _ 2 _ _ _ O9
    have o3 : w9.cell? ⟨w.heap.size + 1, 3, none⟩ = some (.int .u64 k.dh) := cell_of_row _ _ 3 _ _ _ O9
    have o4 : w9.cell? ⟨w.heap.size + 1, 4, none⟩ = some (.int .u64 k.dl) := cell_of_row _ _ 4 _ _ _ O9
    have o5 : w9.cell? ⟨w.heap.size + 1, 5, none⟩ = some (.int .i64 k.sp) := cell_of_row _ _ 5 _ _ _ O9
    have o6 : w9.cell? ⟨w.heap.size + 1, 6, none⟩ = some (.int .i64 k.dp) := cell_of_row _ _ 6 _ _ _ O9
    replace nko : ∀ W1, (binOp .neq 36 (.agg #[.int .i64 f.op.pr, .int .u64 f.op.sh, .int .u64 f.op.sl, .int .u64 f.op.dh, .int .u64 f.op.dl, .int .i64 f.op.sp, .int .i64 f.op.dp]) (.agg #[.int .i64 f.op.pr, .int .u64 f.op.sh, .int .u64 f.op.sl, .int .u64 f.op.dh, .int .u64 f.op.dl, .int .i64 f.op.sp, .int .i64 f.op.dp])).run Try.prog W1 = .ok (.bool false) W1 := nko
    replace eko : ∀ W1, (binOp .eql 36 (.agg #[.int .i64 k.pr, .int .u64 k.sh, .int .u64 k.sl, .int .u64 k.dh, .int .u64 k.dl, .int .i64 k.sp, .int .i64 k.dp]) (.agg #[.int .i64 f.op.pr, .int .u64 f.op.sh, .int .u64 f.op.sl, .int .u64 f.op.dh, .int .u64 f.op.dl, .int .i64 f.op.sp, .int .i64 f.op.dp])).run Try.prog W1 = .ok (.bool xa) W1 := eko
    replace ekb : ∀ W1, (binOp .eql 36 (.agg #[.int .i64 k.pr, .int .u64 k.sh, .int .u64 k.sl, .int .u64 k.dh, .int .u64 k.dl, .int .i64 k.sp, .int .i64 k.dp]) (.agg #[.int .i64 f.bk.pr, .int .u64 f.bk.sh, .int .u64 f.bk.sl, .int .u64 f.bk.dh, .int .u64 f.bk.dl, .int .i64 f.bk.sp, .int .i64 f.bk.dp])).run Try.prog W1 = .ok (.bool xb) W1 := ekb
    clear hgf1 X9 Y9 A9 O9 eob HX0 HX1 HOP HBK HA k_i1 k_i2 k_iO f_i f_11 f_s1 f_i3 f_13 f_s3 GF1 GF GK1 GK2 GKO
    have HAC := Lib.hid (fun (W1 : World) (hh : W1.heap[w.heap.size]? = some (.cells (FA f) 38 (0, 0))) => fa_keys hh)
    have HT1' : ∀ (w1 W1 : World) (TB : Nat), St w1 W1 TB [] → Calls Try.prog 17 #[.pointer (some ⟨TB, 0, none⟩), .agg #[.int .i64 f.op.pr, .int .u64 f.op.sh, .int .u64 f.op.sl, .int .u64 f.op.dh, .int .u64 f.op.dl, .int .i64 f.op.sp, .int .i64 f.op.dp]] W1 fun e w' => e = .returned (.bool false) ∧ St w1 w' TB [] ∧ Below W1.heap.size W1 w' := HT1.out
    have HT2' : ∀ (w1 W1 : World) (TB : Nat), St w1 W1 TB [] → Calls Try.prog 17 #[.pointer (some ⟨TB, 0, none⟩), .agg #[.int .i64 f.bk.pr, .int .u64 f.bk.sh, .int .u64 f.bk.sl, .int .u64 f.bk.dh, .int .u64 f.bk.dl, .int .i64 f.bk.sp, .int .i64 f.bk.dp]] W1 fun e w' => e = .returned (.bool false) ∧ St w1 w' TB [] ∧ Below W1.heap.size W1 w' := HT2.out
    replace HT1 := Lib.hid HT1'
    replace HT2 := Lib.hid HT2'
    clear HT1' HT2'
    generalize f.op.pr = q0 at *
    generalize f.op.sh = q1 at *
    generalize f.op.sl = q2 at *
    generalize f.op.dh = q3 at *
    generalize f.op.dl = q4 at *
    generalize f.op.sp = q5 at *
    generalize f.op.dp = q6 at *
    generalize f.bk.pr = q7 at *
    generalize f.bk.sh = q8 at *
    generalize f.bk.sl = q9 at *
    generalize f.bk.dh = q10 at *
    generalize f.bk.dl = q11 at *
    generalize f.bk.sp = q12 at *
    generalize f.bk.dp = q13 at *
    generalize k.pr = q14 at *
    generalize k.sh = q15 at *
    generalize k.sl = q16 at *
    generalize k.dh = q17 at *
    generalize k.dl = q18 at *
    generalize k.sp = q19 at *
    generalize k.dp = q20 at *
    generalize f.ii = q21 at *
    generalize f.oo = q22 at *
    generalize f.ru = q23 at *
    generalize f.st = q24 at *
    generalize f.en = q25 at *
    have n9 : ∀ bb : Bool, (bb != bb) = false := fun bb => by cases bb <;> rfl
    cases xa
    · cases xb
      · simp only [Bool.or_true, Bool.or_false, Bool.true_or, Bool.false_or] at *
        go_wp2_with (with_reducible refine stop_op (o := ⟨some 82, _, _, _, _, _⟩) ?_)
        refine Lib.hid ?_
        (refine wpList_load_cells_on (by kernel_rfl) 38 (.tmp 9) rfl ⟨g1, 0, none⟩ rfl F1 _ x9.out Try.underlying38 rfl f_i1.out ?_)
        (refine wpList_load_cells_on (by kernel_rfl) 38 (.tmp 12) rfl ⟨g2, 0, none⟩ rfl F1 _ y9.out Try.underlying38 rfl f_i1.out ?_)
        simp only [Act.put, List.setIfInBounds_toArray, List.set_cons_zero, List.set_cons_succ]
        go_upto_region 10 with fail
        clear x0 x1 x2 x3 x4 x5 x6 x7 a1 a2 a3 a4 a5 a6 a7 a8 a9 a10 a11 a12 a13 a14 o0 o1 o2 o3 o4 o5 o6 nff nko eko ekb
        go_wp2_with (first
          | (go_at_call 16; with_reducible refine (HD1.out _ _ _ hS9).mono ?_; rintro e w10 ⟨rfl, hS10⟩; clear hS9)
          | (go_at_call 16; with_reducible refine (HD2.out _ _ _ hS10).mono ?_; rintro e w11 ⟨rfl, hS11⟩; clear hS10; obtain ⟨z1, z2, z3, z4, z5, z6, z7, z8, z9, z10, z11, z12, z13, z14⟩ := HAC.out _ (blkB hS11.bel A0))
          | (go_at_call 17; with_reducible refine (HT1.out _ _ _ hS11).mono ?_; rintro e w12 ⟨rfl, hS12, _⟩; clear hS11; obtain ⟨z1, z2, z3, z4, z5, z6, z7, z8, z9, z10, z11, z12, z13, z14⟩ := HAC.out _ (blkB hS12.bel A0))
          | (go_at_call 17; with_reducible refine (HT2.out _ _ _ hS12).mono ?_; rintro e w13 ⟨rfl, hS13, _⟩; clear hS12)
          | (go_at_call 11; with_reducible refine (HL.out _ _ _ hS13).mono ?_; rintro e w14 ⟨A, c, rfl, _, _, hS14⟩))
        go_ret
        exact ⟨rfl, HB1.out.trans (hS14.bel.mono HB1.out.size)⟩
      · simp only [Bool.or_true, Bool.or_false, Bool.true_or, Bool.false_or] at *
        go_wp2_with (with_reducible refine stop_op (o := ⟨some 82, _, _, _, _, _⟩) ?_)
        refine Lib.hid ?_
        (refine wpList_load_cells_on (by kernel_rfl) 38 (.tmp 9) rfl ⟨g1, 0, none⟩ rfl F1 _ x9.out Try.underlying38 rfl f_i1.out ?_)
        (refine wpList_load_cells_on (by kernel_rfl) 38 (.tmp 12) rfl ⟨g2, 0, none⟩ rfl F1 _ y9.out Try.underlying38 rfl f_i1.out ?_)
        simp only [Act.put, List.setIfInBounds_toArray, List.set_cons_zero, List.set_cons_succ]
        go_upto_region 10 with fail
        clear x0 x1 x2 x3 x4 x5 x6 x7 a1 a2 a3 a4 a5 a6 a7 a8 a9 a10 a11 a12 a13 a14 o0 o1 o2 o3 o4 o5 o6 nff nko eko ekb
        go_wp2_with (first
          | (go_at_call 16; with_reducible refine (HD1.out _ _ _ hS9).mono ?_; rintro e w10 ⟨rfl, hS10⟩; clear hS9)
          | (go_at_call 16; with_reducible refine (HD2.out _ _ _ hS10).mono ?_; rintro e w11 ⟨rfl, hS11⟩; clear hS10; obtain ⟨z1, z2, z3, z4, z5, z6, z7, z8, z9, z10, z11, z12, z13, z14⟩ := HAC.out _ (blkB hS11.bel A0))
          | (go_at_call 17; with_reducible refine (HT1.out _ _ _ hS11).mono ?_; rintro e w12 ⟨rfl, hS12, _⟩; clear hS11; obtain ⟨z1, z2, z3, z4, z5, z6, z7, z8, z9, z10, z11, z12, z13, z14⟩ := HAC.out _ (blkB hS12.bel A0))
          | (go_at_call 17; with_reducible refine (HT2.out _ _ _ hS12).mono ?_; rintro e w13 ⟨rfl, hS13, _⟩; clear hS12)
          | (go_at_call 11; with_reducible refine (HL.out _ _ _ hS13).mono ?_; rintro e w14 ⟨A, c, rfl, _, _, hS14⟩))
        go_ret
        exact ⟨rfl, HB1.out.trans (hS14.bel.mono HB1.out.size)⟩
    · simp only [Bool.or_true, Bool.or_false, Bool.true_or, Bool.false_or] at *
      go_wp2_with (with_reducible refine stop_op (o := ⟨some 82, _, _, _, _, _⟩) ?_)
      refine Lib.hid ?_
      (refine wpList_load_cells_on (by kernel_rfl) 38 (.tmp 9) rfl ⟨g1, 0, none⟩ rfl F1 _ x9.out Try.underlying38 rfl f_i1.out ?_)
      (refine wpList_load_cells_on (by kernel_rfl) 38 (.tmp 12) rfl ⟨g2, 0, none⟩ rfl F1 _ y9.out Try.underlying38 rfl f_i1.out ?_)
      simp only [Act.put, List.setIfInBounds_toArray, List.set_cons_zero, List.set_cons_succ]
      go_upto_region 10 with fail
      clear x0 x1 x2 x3 x4 x5 x6 x7 a1 a2 a3 a4 a5 a6 a7 a8 a9 a10 a11 a12 a13 a14 o0 o1 o2 o3 o4 o5 o6 nff nko eko ekb
      go_wp2_with (first
        | (go_at_call 16; with_reducible refine (HD1.out _ _ _ hS9).mono ?_; rintro e w10 ⟨rfl, hS10⟩; clear hS9)
        | (go_at_call 16; with_reducible refine (HD2.out _ _ _ hS10).mono ?_; rintro e w11 ⟨rfl, hS11⟩; clear hS10; obtain ⟨z1, z2, z3, z4, z5, z6, z7, z8, z9, z10, z11, z12, z13, z14⟩ := HAC.out _ (blkB hS11.bel A0))
        | (go_at_call 17; with_reducible refine (HT1.out _ _ _ hS11).mono ?_; rintro e w12 ⟨rfl, hS12, _⟩; clear hS11; obtain ⟨z1, z2, z3, z4, z5, z6, z7, z8, z9, z10, z11, z12, z13, z14⟩ := HAC.out _ (blkB hS12.bel A0))
        | (go_at_call 17; with_reducible refine (HT2.out _ _ _ hS12).mono ?_; rintro e w13 ⟨rfl, hS13, _⟩; clear hS12)
        | (go_at_call 11; with_reducible refine (HL.out _ _ _ hS13).mono ?_; rintro e w14 ⟨A, c, rfl, _, _, hS14⟩))
      go_ret
      exact ⟨rfl, HB1.out.trans (hS14.bel.mono HB1.out.size)⟩
end Go.Proofs.Ytdgodndaaenafaa
