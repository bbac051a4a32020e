/- forget and Drop of a table of flows; by-name template (gen_fod.py). -/
import Derived.Test.YtdgodndaaenafaaFoF
namespace Go.Proofs.Ytdgodndaaenafaa
open Go.RowKit Go.Lib Go.Maps
set_option linter.unusedVariables false
set_option linter.unusedSimpArgs false

section
variable {w w' : World} {T Tw : Nat → Prop} {TB Bw Mo Mk co ck : Nat} {go : Int → Option Fl} {gk : Ky → Option Int} {W : List K2} {L : List Fl}

theorem forget_fin (g : GoodF L) {f : Fl} (hf : f ∈ L) (h : TRaw w T Tw TB Bw Mo Mk (goF L) L.length (gkF L) (2 * L.length) W) {w1 w2 w3 w4 : World} (b1 : Below w.heap.size w w1)
    (k2 : MapK w2 Mk (deK (gkF L) f.op) (if (gkF L f.op).isSome then 2 * L.length - 1 else 2 * L.length)) (o2 : OffS (fun j => j = Mk) w1 w2)
    (k3 : MapK w3 Mk (deK (deK (gkF L) f.op) f.bk) (if (deK (gkF L) f.op f.bk).isSome then (if (gkF L f.op).isSome then 2 * L.length - 1 else 2 * L.length) - 1 else (if (gkF L f.op).isSome then 2 * L.length - 1 else 2 * L.length))) (o3 : OffS (fun j => j = Mk) w2 w3)
    (k4 : MapO w4 Mo (deO (goF L) f.id) (if (goF L f.id).isSome then L.length - 1 else L.length)) (o4 : OffS (fun j => j = Mo) w3 w4) : TW w4 T TB (remF L f.id) W ∧ OffS T w w4 := by
  have o24 : OffS (fun j => j = Mk ∨ j = Mo) w1 w4 := ((o2.mono fun k _ e => Or.inl e).trans (o3.mono fun k _ e => Or.inl e)).trans (o4.mono fun k _ e => Or.inr e)
  have hob := g.ob f hf
  have e1 : (gkF L f.op).isSome = true := by rw [tak_gk]; exact List.any_eq_true.2 ⟨f, hf, by simp [hitF]⟩
  have e2 : (gkF L f.bk).isSome = true := by rw [tak_gk]; exact List.any_eq_true.2 ⟨f, hf, by simp [hitF]⟩
  have e3 : (deK (gkF L) f.op f.bk).isSome = true := by unfold deK; rw [if_neg (Ne.symm hob)]; exact e2
  have e4 : (goF L f.id).isSome = true := by rw [go_mem g hf]; rfl
  rw [e3, e1] at k3
  rw [e4] at k4
  have hl := rem_len g hf
  have hgk : ∀ k, gkF (remF L f.id) k = deK (deK (gkF L) f.op) f.bk k := fun k => by
    rw [gk_rem g hf]
    unfold deK hitF
    by_cases h1 : k = f.bk
    · rw [if_pos h1, if_pos (by simp [h1])]
    · rw [if_neg h1]
      by_cases h2 : k = f.op
      · rw [if_pos h2, if_pos (by simp [h2])]
      · rw [if_neg h2, if_neg]
        simp
        exact ⟨fun e => h2 e.symm, fun e => h1 e.symm⟩
  have hgo : ∀ id, goF (remF L f.id) id = deO (goF L) f.id id := fun id => by rw [go_rem]; rfl
  have h1 := h.below b1
  have hT := h1.lt _ h.tT
  have hO := h1.lt _ h.tO
  have hK := h1.lt _ h.tK
  have s2 := o2.size
  have s3 := o3.size
  have s4 := o4.size
  have hTO : TB ≠ Mo := fun e => h.mo.ne h.tb e.symm
  have hTK : TB ≠ Mk := fun e => h.mK.ne h.tb e.symm
  refine ⟨⟨Bw, Mo, Mk, Tw, {
    tb := by rw [o24.block _ hT (fun e => e.elim hTK hTO)]; exact h1.tb
    mo := by
      have := k4.congr hgo
      rw [if_pos rfl, show L.length - 1 = (remF L f.id).length by omega] at this
      exact this
    mK := by
      have := (k3.congr hgk).keep (o4.block Mk (by omega) (fun e => h.ne e.symm))
      rw [if_pos rfl, if_pos rfl, show 2 * L.length - 1 - 1 = 2 * (remF L f.id).length by omega] at this
      exact this
    wh := h1.wh.off o24 (fun k hk e => by
      rcases e with rfl | rfl
      · exact h.nK hk
      · exact h.nO hk)
    tT := h.tT
    tO := h.tO
    tK := h.tK
    tW := h.tW
    nT := h.nT
    nO := h.nO
    nK := h.nK
    ne := h.ne
    lt := fun k hk => Nat.lt_of_lt_of_le (h1.lt k hk) o24.size }⟩, (offS_below b1).trans (o24.mono fun k _ e => by
      rcases e with rfl | rfl
      · exact h.tK
      · exact h.tO)⟩

set_option maxRecDepth 100000 in
set_option maxHeartbeats 4000000 in
theorem forget_any (g : GoodF L) (h : TW w T TB L W) {f : Fl} (hf : f ∈ L) :
    Calls Try.prog 32 #[.pointer (some ⟨TB, 0, none⟩), .int .i64 f.id] w fun e w' => e = .returned (.tuple #[]) ∧ TW w' T TB (remF L f.id) W ∧ OffS T w w' := by
  obtain ⟨Bw, Mo, Mk, Tw, h⟩ := h
  have fo := g.ok f hf
  have hl := h.mo.look1 fo.id
  rw [go_mem g hf] at hl
  simp only [Option.getD_some] at hl
  have hTlt := h.lt
  have b1 : Below w.heap.size w (w.alloc (.cells (FA f) 38)) := Below.al (Below.refl _ _) _
  have A1 : (w.alloc (.cells (FA f) 38)).heap[w.heap.size]? = some (.cells (FA f) 38 (0, 0)) := heap_alloc_new w _
  have A0 : (w.alloc (.cells #[.int .i64 0, .int .i64 0, .int .u64 0, .int .u64 0, .int .u64 0, .int .u64 0, .int .i64 0, .int .i64 0, .int .i64 0, .int .u64 0, .int .u64 0, .int .u64 0, .int .u64 0, .int .i64 0, .int .i64 0, .int .i64 0, .int .i64 0, .int .i64 0, .int .i64 0, .int .i64 0] 38)).heap[w.heap.size]? = some (.cells (FA zf) 38 (0, 0)) := heap_alloc_new w _
  obtain ⟨w1, hw1⟩ : ∃ x, x = w.alloc (.cells (FA f) 38) := ⟨_, rfl⟩
  rw [← hw1] at b1 A1
  have h1 := h.below b1
  have hL1 := blk_lt A1
  have nG : ∀ k, T k → w.heap.size ≠ k := fun k hk e => by have := h.lt k hk; omega
  obtain ⟨w2, r2, k2, o2⟩ := (h1.mK.keep (w' := w1.drew) rfl).del fo.op 0
  have o2' : OffS (fun j => j = Mk) w1 w2 := ⟨o2.os, o2.tape, o2.output, o2.size, o2.block⟩
  have s2 : w1.heap.size ≤ w2.heap.size := o2.size
  obtain ⟨w3, r3, k3, o3⟩ := (k2.keep (w' := w2.drew) rfl).del fo.bk 0
  have o3' : OffS (fun j => j = Mk) w2 w3 := ⟨o3.os, o3.tape, o3.output, o3.size, o3.block⟩
  have s3 : w2.heap.size ≤ w3.heap.size := o3.size
  have hTO : TB ≠ Mo := fun e => h.mo.ne h.tb e.symm
  have hTK : TB ≠ Mk := fun e => h.mK.ne h.tb e.symm
  have hTl := h1.lt _ h.tT
  have hOl := h1.lt _ h.tO
  have tb2 : w2.heap[TB]? = some (.cells #[.pointer (some ⟨Bw, 0, none⟩), .map (some Mo), .map (some Mk)] 68 (0, 0)) := by rw [o2'.block _ hTl hTK]; exact h1.tb
  have tb3 : w3.heap[TB]? = some (.cells #[.pointer (some ⟨Bw, 0, none⟩), .map (some Mo), .map (some Mk)] 68 (0, 0)) := by rw [o3'.block _ (by omega) hTK]; exact tb2
  have A12 : w2.heap[w.heap.size]? = some (.cells (FA f) 38 (0, 0)) := by rw [o2'.block _ hL1 (nG _ h.tK)]; exact A1
  have mo3 : MapO w3 Mo (goF L) L.length := (h1.mo.keep (o2'.block _ hOl h.ne)).keep (o3'.block _ (by omega) h.ne)
  obtain ⟨w4, r4, k4, o4⟩ := mo3.del fo.id 0
  have FIN := Lib.hid (forget_fin g hf h b1 k2 o2' k3 o3' k4 o4)
  have c1 := h.c1
  have d2 := cell_of_row _ _ 2 _ _ _ h1.tb
  have d4 := cell_of_row _ _ 2 _ _ _ tb2
  have d6 := cell_of_row _ _ 1 _ _ _ tb3
  have x0 : w1.cell? ⟨w.heap.size, 1, none⟩ = some (.int .i64 f.op.pr) := cell_of_row _ _ 1 _ _ _ A1
  have x1 : w1.cell? ⟨w.heap.size, 2, none⟩ = some (.int .u64 f.op.sh) := cell_of_row _ _ 2 _ _ _ A1
  have x2 : w1.cell? ⟨w.heap.size, 3, none⟩ = some (.int .u64 f.op.sl) := cell_of_row _ _ 3 _ _ _ A1
  have x3 : w1.cell? ⟨w.heap.size, 4, none⟩ = some (.int .u64 f.op.dh) := cell_of_row _ _ 4 _ _ _ A1
  have x4 : w1.cell? ⟨w.heap.size, 5, none⟩ = some (.int .u64 f.op.dl) := cell_of_row _ _ 5 _ _ _ A1
  have x5 : w1.cell? ⟨w.heap.size, 6, none⟩ = some (.int .i64 f.op.sp) := cell_of_row _ _ 6 _ _ _ A1
  have x6 : w1.cell? ⟨w.heap.size, 7, none⟩ = some (.int .i64 f.op.dp) := cell_of_row _ _ 7 _ _ _ A1
  have y0 : w2.cell? ⟨w.heap.size, 8, none⟩ = some (.int .i64 f.bk.pr) := cell_of_row _ _ 8 _ _ _ A12
  have y1 : w2.cell? ⟨w.heap.size, 9, none⟩ = some (.int .u64 f.bk.sh) := cell_of_row _ _ 9 _ _ _ A12
  have y2 : w2.cell? ⟨w.heap.size, 10, none⟩ = some (.int .u64 f.bk.sl) := cell_of_row _ _ 10 _ _ _ A12
  have y3 : w2.cell? ⟨w.heap.size, 11, none⟩ = some (.int .u64 f.bk.dh) := cell_of_row _ _ 11 _ _ _ A12
  have y4 : w2.cell? ⟨w.heap.size, 12, none⟩ = some (.int .u64 f.bk.dl) := cell_of_row _ _ 12 _ _ _ A12
  have y5 : w2.cell? ⟨w.heap.size, 13, none⟩ = some (.int .i64 f.bk.sp) := cell_of_row _ _ 13 _ _ _ A12
  have y6 : w2.cell? ⟨w.heap.size, 14, none⟩ = some (.int .i64 f.bk.dp) := cell_of_row _ _ 14 _ _ _ A12
  replace r2 : (Builtin.delete_ #[58, 36] 0 #[.map (some Mk), .agg #[.int .i64 f.op.pr, .int .u64 f.op.sh, .int .u64 f.op.sl, .int .u64 f.op.dh, .int .u64 f.op.dl, .int .i64 f.op.sp, .int .i64 f.op.dp]]).run Try.prog w1.drew = .ok (.tuple #[]) w2 := r2
  replace r3 : (Builtin.delete_ #[58, 36] 0 #[.map (some Mk), .agg #[.int .i64 f.bk.pr, .int .u64 f.bk.sh, .int .u64 f.bk.sl, .int .u64 f.bk.dh, .int .u64 f.bk.dl, .int .i64 f.bk.sp, .int .i64 f.bk.dp]]).run Try.prog w2.drew = .ok (.tuple #[]) w3 := r3
  have f_i := Lib.hid (f_inf f)
  have f_1 := Lib.hid (f_one f)
  have f_s := Lib.hid (show (FA zf).size = (FA f).size from rfl)
  clear h h1 fo g hf k2 o2 o2' k3 o3 o3' k4 o4 mo3 tb2 tb3 A12 A1 hTlt nG
  generalize f.op.pr = q0 at *
  generalize f.op.sh = q1 at *
  generalize f.op.sl = q2 at *
  generalize f.op.dh = q3 at *
  generalize f.op.dl = q4 at *
  generalize f.op.sp = q5 at *
  generalize f.op.dp = q6 at *
  generalize f.bk.pr = q7 at *
  generalize f.bk.sh = q8 at *
  generalize f.bk.sl = q9 at *
  generalize f.bk.dh = q10 at *
  generalize f.bk.dl = q11 at *
  generalize f.bk.sp = q12 at *
  generalize f.bk.dp = q13 at *
  generalize FA f = F at *
  generalize f.id = id at *
  have HW := Lib.hid hw1
  clear hw1
  go_enter Try.func32, Try.ntmps32
  go_upto_region 1 with (refine wpList_store_row rfl 38 (.tmp 4) (.tmp 11) rfl w.heap.size F rfl rfl 38 (FA zf) A0 f_i.out f_s.out f_1.out ?_)
  simp only [Act.put, List.setIfInBounds_toArray, List.set_cons_succ, List.set_cons_zero]
  rw [World.setRow_alloc_new, ← HW.out]
  clear A0 HW
  generalize w.heap.size = gB at *
  go_region
  go_wp2_with fail
  go_region
  go_wp2
  simp [bodyPost, results, Try.results32, go_sem]
  exact FIN.out

end
end Go.Proofs.Ytdgodndaaenafaa
