/- Boxes: how they are split; the program's; by-name template (gen_csplit.py). -/
import Derived.Test.YtomennaekjklbaaCLaw
namespace Go.Proofs.Ytomennaekjklbaa
open Go.RowKit Go.Lib Go.Sort
set_option linter.unusedVariables false
set_option linter.unusedSimpArgs false

def icB (r : R4) (p : P2) : Bool := decide (cmpA r.fh r.fl p.h p.l ≤ 0) && decide (cmpA p.h p.l r.th r.tl < 0)
/-- Whether a box may be split there. -/
def spO (b : Nat → R4) (f : Int) (p : P2) : Bool := (decide (0 ≤ f) && decide (f < 6)) && icB (b f.toNat) p
def nx (p : P2) : P2 := if p.l = 18446744073709551615 then ⟨p.h + 1, 0⟩ else ⟨p.h, p.l + 1⟩
def spL (b : Nat → R4) (f : Int) (p : P2) : Nat → R4 := if spO b f p then upd b f.toNat ⟨(b f.toNat).fh, (b f.toNat).fl, p.h, p.l⟩ else fun _ => zr4
def spH (b : Nat → R4) (f : Int) (p : P2) : Nat → R4 := if spO b f p then upd b f.toNat ⟨(nx p).h, (nx p).l, (b f.toNat).th, (b f.toNat).tl⟩ else fun _ => zr4
theorem setRow_other {w : World} {B b : Nat} (h : b ≠ B) (C : Array Value) : (w.setRow B C).heap[b]? = w.heap[b]? := by
  simp only [World.setRow, Array.getElem?_modify]
  rw [if_neg (fun e => h e.symm)]
theorem exec_row {P : Program} {o : Oper} {a : Act} {W : World} (ty : TypeId) (x : Operand) (ho : o.op = .load ty x) (g : Nat) (hx : a.eval x = .pointer (some ⟨g, 0, none⟩)) (t : TypeId) (cs : Array Value) (fr : Nat × Nat) (d : TypeDesc) (hg : W.heap[g]? = some (.cells cs t fr))
    (hu : P.underlying ty = some d) (hd : (match d with | .struct _ | .array _ _ => true | _ => false) = true) (hi : (P.info? ty).map (·.size) = some cs.size) : (execOp a.eval o).run P W = .ok (.value (.agg cs)) W := by
  unfold execOp
  simp only [ho, hx, Instr.loadAt, Instr.sureAddr, Sem.run_bind, Sem.run_pure, Result.andThen_ok, run_loadVar_row W g t ty cs fr d hg hu hd hi]

theorem isField_any (f : Int) (w : World) : Calls Try.prog 58 #[.int .i64 f] w fun e w' => e = .returned (.bool (decide (0 ≤ f) && decide (f < 6))) ∧ Below w.heap.size w w' := by
  by_cases h : 0 ≤ f
  · go_enter Try.func58, Try.ntmps58
    go_wp2
    go_ret
    exact ⟨by simp [h], Below.refl _ _⟩
  · have hd : decide (0 ≤ f) = false := by simp [h]
    go_enter Try.func58, Try.ntmps58
    go_wp2
    go_ret
    exact ⟨by simp [h], Below.refl _ _⟩
theorem isCut_any (r : R4) (p : P2) (w : World) : Calls Try.prog 60 #[.agg #[.int .u64 r.fh, .int .u64 r.fl, .int .u64 r.th, .int .u64 r.tl], .agg #[.int .u64 p.h, .int .u64 p.l]] w fun e w' => e = .returned (.bool (icB r p)) ∧ Below w.heap.size w w' := by
  unfold icB
  have c1 := cmp_any r.fh r.fl p.h p.l
  have c2 := cmp_any p.h p.l r.th r.tl
  generalize cmpA r.fh r.fl p.h p.l = X at *
  generalize cmpA p.h p.l r.th r.tl = Y at *
  by_cases g : X ≤ 0
  · go_enter Try.func60, Try.ntmps60
    go_wp2_with fail
    obtain ⟨w0, hw0⟩ : ∃ w0, w0 = (w.alloc (Obj.cells #[.int .u64 r.fh, .int .u64 r.fl, .int .u64 r.th, .int .u64 r.tl] 27)).alloc (Obj.cells #[.int .u64 p.h, .int .u64 p.l] 25) := ⟨_, rfl⟩
    have b0 : Below w.heap.size w w0 := by rw [hw0]; exact Below.al (Below.al (Below.refl _ _) _) _
    have A0 : w0.heap[w.heap.size]? = some (.cells #[.int .u64 r.fh, .int .u64 r.fl, .int .u64 r.th, .int .u64 r.tl] 27) := by rw [hw0]; exact blk_al (heap_alloc_new w _) _
    have A1 : w0.heap[w.heap.size + 1]? = some (.cells #[.int .u64 p.h, .int .u64 p.l] 25) := by rw [hw0]; exact al_new (al_size _ _).symm _
    rw [← hw0]
    clear hw0
    refine (c1 _).mono ?_
    rintro e w1 ⟨rfl, hb⟩
    obtain ⟨k0, k1, k2, k3⟩ := cells4 (blkB hb A0)
    obtain ⟨k4, k5, _, _⟩ := cells2 (blkB hb A1)
    go_wp2_with (go_at_call 63; refine (c2 _).mono ?_; rintro e w2 ⟨rfl, hb2⟩)
    go_ret
    exact ⟨by simp [g], bel_via b0 (bel_via hb hb2)⟩
  · have gd : decide (X ≤ 0) = false := by simp [g]
    go_enter Try.func60, Try.ntmps60
    go_wp2_with (go_at_call 63; refine (c1 _).mono ?_; rintro e w1 ⟨rfl, hb⟩)
    go_ret
    exact ⟨by simp [gd], bel_via (Below.al (Below.al (Below.refl _ _) _) _) hb⟩
theorem nextT_ok (p : P2) (h : ¬ (p.h = 18446744073709551615 ∧ p.l = 18446744073709551615)) : nextT p.h p.l = .tuple #[.agg #[.int .u64 (nx p).h, .int .u64 (nx p).l], .bool true] := by
  unfold nextT nx
  by_cases e : p.l = 18446744073709551615
  · rw [if_pos e, if_neg (fun k => h ⟨k, e⟩), if_pos e]
  · rw [if_neg e, if_neg e]
theorem ic_next {r : R4} {p : P2} (h : icB r p = true) (w1 : Word r.th) (w2 : Word r.tl) : ¬ (p.h = 18446744073709551615 ∧ p.l = 18446744073709551615) := by
  unfold icB at h
  simp only [Bool.and_eq_true, decide_eq_true_eq, cmp_lt0] at h
  obtain ⟨h1, h2⟩ := w1; obtain ⟨h3, h4⟩ := w2
  omega
theorem sp_no {b : Nat → R4} {f : Int} {p : P2} (h : spO b f p = false) : bxc (spL b f p) = bxc (fun _ => zr4) ∧ bxc (spH b f p) = bxc (fun _ => zr4) := by
  unfold spL spH; rw [h]; exact ⟨rfl, rfl⟩
theorem sp_yes {b : Nat → R4} {k : Nat} {p : P2} (hk : k < 6) (h : icB (b k) p = true) : spO b (k : Int) p = true ∧ spL b (k : Int) p = upd b k ⟨(b k).fh, (b k).fl, p.h, p.l⟩ ∧ spH b (k : Int) p = upd b k ⟨(nx p).h, (nx p).l, (b k).th, (b k).tl⟩ := by
  have e : spO b (k : Int) p = true := by unfold spO; rw [Int.toNat_natCast, h]; simp; omega
  unfold spL spH; rw [e, Int.toNat_natCast]; exact ⟨rfl, rfl, rfl⟩
theorem sp_none {b : Nat → R4} {k : Nat} {p : P2} (h : icB (b k) p = false) : spO b (k : Int) p = false := by unfold spO; rw [Int.toNat_natCast, h]; simp

set_option maxRecDepth 100000 in
set_option maxHeartbeats 4000000 in
theorem split_out (b : Nat → R4) (f : Int) (p : P2) (hf : (decide (0 ≤ f) && decide (f < 6)) = false) (w : World) : Calls Try.prog 54 #[.agg (bxc b), .int .i64 f, .agg #[.int .u64 p.h, .int .u64 p.l]] w fun e w' => e = .returned (.tuple #[.agg (bxc fun _ => zr4), .agg (bxc fun _ => zr4), .bool false]) ∧ Below w.heap.size w w' := by
  obtain ⟨C, hC⟩ : ∃ C, C = bxc b := ⟨_, rfl⟩
  obtain ⟨Z, hZ⟩ : ∃ Z, Z = bxc (fun _ => zr4) := ⟨_, rfl⟩
  rw [← hC]
  have HC := Lib.hid hC; clear hC
  have HZ := Lib.hid hZ; clear hZ
  rw [← HZ.out]
  have ci := isField_any f
  rw [hf] at ci
  clear hf
  go_enter Try.func54, Try.ntmps54
  go_wp2_with fail
  obtain ⟨w0, hw0⟩ : ∃ w0, w0 = World.alloc (World.alloc ((w.alloc (.cells C 30)).alloc (.cells #[.int .u64 p.h, .int .u64 p.l] 25)) (.cells #[.int .u64 0, .int .u64 0, .int .u64 0, .int .u64 0, .int .u64 0, .int .u64 0, .int .u64 0, .int .u64 0, .int .u64 0, .int .u64 0, .int .u64 0, .int .u64 0, .int .u64 0, .int .u64 0, .int .u64 0, .int .u64 0, .int .u64 0, .int .u64 0, .int .u64 0, .int .u64 0, .int .u64 0, .int .u64 0, .int .u64 0, .int .u64 0] 30)) (.cells #[.int .u64 0, .int .u64 0, .int .u64 0, .int .u64 0, .int .u64 0, .int .u64 0, .int .u64 0, .int .u64 0, .int .u64 0, .int .u64 0, .int .u64 0, .int .u64 0, .int .u64 0, .int .u64 0, .int .u64 0, .int .u64 0, .int .u64 0, .int .u64 0, .int .u64 0, .int .u64 0, .int .u64 0, .int .u64 0, .int .u64 0, .int .u64 0] 30) := ⟨_, rfl⟩
  have A0 : w0.heap[w.heap.size]? = some (.cells C 30) := by rw [hw0]; exact blk_al (blk_al (blk_al (heap_alloc_new w _) _) _) _
  have A1 : w0.heap[w.heap.size + 1]? = some (.cells #[.int .u64 p.h, .int .u64 p.l] 25) := by rw [hw0]; exact blk_al (blk_al (al_new (al_size _ _).symm _) _) _
  have A2 : w0.heap[w.heap.size + 2]? = some (.cells Z 30) := by rw [hw0, HZ.out, bxc_zero]; exact blk_al (al_new (by rw [al_size, al_size]) _) _
  have A3 : w0.heap[w.heap.size + 3]? = some (.cells Z 30) := by rw [hw0, HZ.out, bxc_zero]; exact al_new (by rw [al_size, al_size, al_size]) _
  have b0 : Below w.heap.size w w0 := by rw [hw0]; exact Below.al (Below.al (Below.al (Below.al (Below.refl _ _) _) _) _) _
  rw [← hw0]
  clear hw0
  have q := fun d os => Calls.regrown_of (ci (grow (redrawn w0 d) os))
  refine wp_region_quiet_below (by kernel_rfl) (by kernel_rfl) ?_
  repeat (first | go_big_quiet_skip | quiet_step (first | (go_at_call 58; with_reducible exact q _ _)))
  refine wpQuiet_nil ?_
  intro _ hw'
  obtain ⟨⟨dq, osq⟩, hw''⟩ := hw'
  subst hw''
  have D2 := blkB (below_regrown w0 dq osq) A2
  have D3 := blkB (below_regrown w0 dq osq) A3
  have bd := bel_via b0 (below_regrown w0 dq osq)
  obtain ⟨w3, hw3⟩ : ∃ x, x = grow (redrawn w0 dq) osq := ⟨_, rfl⟩
  rw [← hw3] at D2 D3 bd ⊢
  clear hw3 A0 A1 A2 A3 b0 ci q
  have hvz : Z = #[.int .u64 0, .int .u64 0, .int .u64 0, .int .u64 0, .int .u64 0, .int .u64 0, .int .u64 0, .int .u64 0, .int .u64 0, .int .u64 0, .int .u64 0, .int .u64 0, .int .u64 0, .int .u64 0, .int .u64 0, .int .u64 0, .int .u64 0, .int .u64 0, .int .u64 0, .int .u64 0, .int .u64 0, .int .u64 0, .int .u64 0, .int .u64 0] := by rw [HZ.out, bxc_zero]
  have HVz := Lib.hid hvz
  have i29 : (Try.prog.info? 30).map (·.size) = some Z.size := by rw [HZ.out]; exact inf29 _
  have i1 : Z.all (·.oneCell') = true := by rw [HZ.out]; exact bx_one _
  have i29 := Lib.hid i29
  have i1 := Lib.hid i1
  clear hvz
  have D3' : (w3.setRow (w.heap.size + 2) Z).heap[w.heap.size + 3]? = some (.cells Z 30) := by rw [setRow_other (by omega)]; exact D3
  go_wp2_with (first
    | (refine wpList_store_row rfl 30 (.tmp 6) (.tmp 23) rfl (w.heap.size + 2) Z rfl (by rw [HVz.out]; rfl) 30 Z D2 i29.out rfl i1.out ?_)
    | (refine wpList_store_row rfl 30 (.tmp 7) (.tmp 24) rfl (w.heap.size + 3) Z rfl (by rw [HVz.out]; rfl) 30 Z D3' i29.out rfl i1.out ?_))
  refine bodyPost_ret_by (res_row3 Try.results54 _ _ (w.heap.size + 2) (w.heap.size + 3) 30 30 Z Z _ _ rfl (by rw [setRow_other (by omega)]; exact blk_setRow D2 Z) Try.underlying30 i29.out rfl (blk_setRow D3' Z) Try.underlying30 i29.out) rfl ⟨rfl, Below.setRow (Below.setRow bd (by omega) _) (by omega) _⟩


set_option maxRecDepth 100000 in
set_option maxHeartbeats 4000000 in
theorem split_no (b : Nat → R4) (k : Nat) (hk : k < 6) (p : P2) (hX : icB (b k) p = false) (w : World) : Calls Try.prog 54 #[.agg (bxc b), .int .i64 k, .agg #[.int .u64 p.h, .int .u64 p.l]] w fun e w' => e = .returned (.tuple #[.agg (bxc fun _ => zr4), .agg (bxc fun _ => zr4), .bool false]) ∧ Below w.heap.size w w' := by
  obtain ⟨C, hC⟩ : ∃ C, C = bxc b := ⟨_, rfl⟩
  obtain ⟨Z, hZ⟩ : ∃ Z, Z = bxc (fun _ => zr4) := ⟨_, rfl⟩
  rw [← hC]
  have HC := Lib.hid hC; clear hC
  have HZ := Lib.hid hZ; clear hZ
  have ci := isField_any (k : Int)
  rw [show (decide (0 ≤ (k : Int)) && decide ((k : Int) < 6)) = true by simp; omega] at ci
  have cc := isCut_any (b k) p
  rw [hX] at cc
  clear hX
  have hk0 : (0 : Int) ≤ (k : Int) := by omega
  have hk1 : (k : Int) < 6 := by omega
  rw [← HZ.out]
  go_enter Try.func54, Try.ntmps54
  go_wp2_with fail
  obtain ⟨w0, hw0⟩ : ∃ w0, w0 = World.alloc (World.alloc ((w.alloc (.cells C 30)).alloc (.cells #[.int .u64 p.h, .int .u64 p.l] 25)) (.cells #[.int .u64 0, .int .u64 0, .int .u64 0, .int .u64 0, .int .u64 0, .int .u64 0, .int .u64 0, .int .u64 0, .int .u64 0, .int .u64 0, .int .u64 0, .int .u64 0, .int .u64 0, .int .u64 0, .int .u64 0, .int .u64 0, .int .u64 0, .int .u64 0, .int .u64 0, .int .u64 0, .int .u64 0, .int .u64 0, .int .u64 0, .int .u64 0] 30)) (.cells #[.int .u64 0, .int .u64 0, .int .u64 0, .int .u64 0, .int .u64 0, .int .u64 0, .int .u64 0, .int .u64 0, .int .u64 0, .int .u64 0, .int .u64 0, .int .u64 0, .int .u64 0, .int .u64 0, .int .u64 0, .int .u64 0, .int .u64 0, .int .u64 0, .int .u64 0, .int .u64 0, .int .u64 0, .int .u64 0, .int .u64 0, .int .u64 0] 30) := ⟨_, rfl⟩
  have A0 : w0.heap[w.heap.size]? = some (.cells C 30) := by rw [hw0]; exact blk_al (blk_al (blk_al (heap_alloc_new w _) _) _) _
  have A1 : w0.heap[w.heap.size + 1]? = some (.cells #[.int .u64 p.h, .int .u64 p.l] 25) := by rw [hw0]; exact blk_al (blk_al (al_new (al_size _ _).symm _) _) _
  have A2 : w0.heap[w.heap.size + 2]? = some (.cells Z 30) := by rw [hw0, HZ.out, bxc_zero]; exact blk_al (al_new (by rw [al_size, al_size]) _) _
  have A3 : w0.heap[w.heap.size + 3]? = some (.cells Z 30) := by rw [hw0, HZ.out, bxc_zero]; exact al_new (by rw [al_size, al_size, al_size]) _
  have b0 : Below w.heap.size w w0 := by rw [hw0]; exact Below.al (Below.al (Below.al (Below.al (Below.refl _ _) _) _) _) _
  rw [← hw0]
  clear hw0
  obtain ⟨y0, y1, y2, y3⟩ := BoxAt.of (b := b) (by rw [← HC.out]; exact A0) k hk
  obtain ⟨z0, z1, _, _⟩ := cells2 A1
  have k_y0 := cell_regrown y0
  have k_y1 := cell_regrown y1
  have k_y2 := cell_regrown y2
  have k_y3 := cell_regrown y3
  have k_z0 := cell_regrown z0
  have k_z1 := cell_regrown z1
  have q := fun d os => Calls.regrown_of (ci (grow (redrawn w0 d) os))
  have q2 := fun d os => Calls.regrown_of (cc (grow (redrawn w0 d) os))
  clear y0 y1 y2 y3 z0 z1
  refine wp_region_quiet_below (by kernel_rfl) (by kernel_rfl) ?_
  repeat (first | go_big_quiet_skip | quiet_step (first | (go_at_call 58; with_reducible exact q _ _) | (go_at_call 60; with_reducible exact q2 _ _)))
  refine wpQuiet_nil ?_
  intro _ hw'
  obtain ⟨⟨dq, osq⟩, hw''⟩ := hw'
  subst hw''
  have D2 := blkB (below_regrown w0 dq osq) A2
  have D3 := blkB (below_regrown w0 dq osq) A3
  have bd := bel_via b0 (below_regrown w0 dq osq)
  obtain ⟨w3, hw3⟩ : ∃ x, x = grow (redrawn w0 dq) osq := ⟨_, rfl⟩
  rw [← hw3] at D2 D3 bd ⊢
  clear hw3 A0 A1 A2 A3 b0 ci q cc q2 k_y0 k_y1 k_y2 k_y3 k_z0 k_z1
  have hvz : Z = #[.int .u64 0, .int .u64 0, .int .u64 0, .int .u64 0, .int .u64 0, .int .u64 0, .int .u64 0, .int .u64 0, .int .u64 0, .int .u64 0, .int .u64 0, .int .u64 0, .int .u64 0, .int .u64 0, .int .u64 0, .int .u64 0, .int .u64 0, .int .u64 0, .int .u64 0, .int .u64 0, .int .u64 0, .int .u64 0, .int .u64 0, .int .u64 0] := by rw [HZ.out, bxc_zero]
  have HVz := Lib.hid hvz
  have i29 : (Try.prog.info? 30).map (·.size) = some Z.size := by rw [HZ.out]; exact inf29 _
  have i1 : Z.all (·.oneCell') = true := by rw [HZ.out]; exact bx_one _
  have i29 := Lib.hid i29
  have i1 := Lib.hid i1
  clear hvz
  have D3' : (w3.setRow (w.heap.size + 2) Z).heap[w.heap.size + 3]? = some (.cells Z 30) := by rw [setRow_other (by omega)]; exact D3
  go_wp2_with (first
    | (refine wpList_store_row rfl 30 (.tmp 6) (.tmp 23) rfl (w.heap.size + 2) Z rfl (by rw [HVz.out]; rfl) 30 Z D2 i29.out rfl i1.out ?_)
    | (refine wpList_store_row rfl 30 (.tmp 7) (.tmp 24) rfl (w.heap.size + 3) Z rfl (by rw [HVz.out]; rfl) 30 Z D3' i29.out rfl i1.out ?_))
  refine bodyPost_ret_by (res_row3 Try.results54 _ _ (w.heap.size + 2) (w.heap.size + 3) 30 30 Z Z _ _ rfl (by rw [setRow_other (by omega)]; exact blk_setRow D2 Z) Try.underlying30 i29.out rfl (blk_setRow D3' Z) Try.underlying30 i29.out) rfl ⟨rfl, Below.setRow (Below.setRow bd (by omega) _) (by omega) _⟩

end Go.Proofs.Ytomennaekjklbaa
