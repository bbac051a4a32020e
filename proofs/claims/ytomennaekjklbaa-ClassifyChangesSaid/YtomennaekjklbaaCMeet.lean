/- Ranges: where they meet; both sides; by-name template (gen_cmeet.py). -/
import Derived.Test.YtomennaekjklbaaCHas
namespace Go.Proofs.Ytomennaekjklbaa
open Go.RowKit Go.Lib Go.Sort
set_option linter.unusedVariables false
set_option linter.unusedSimpArgs false

/-- What two ranges have in common, be it empty. -/
def meR (r s : R4) : R4 := ⟨if cmpA r.fh r.fl s.fh s.fl < 0 then s.fh else r.fh, if cmpA r.fh r.fl s.fh s.fl < 0 then s.fl else r.fl, if 0 < cmpA r.th r.tl s.th s.tl then s.th else r.th, if 0 < cmpA r.th r.tl s.th s.tl then s.tl else r.tl⟩
def meV (r s : R4) : R4 := if emR (meR r s) then ⟨0, 0, 0, 0⟩ else meR r s
theorem meR_f1 {r s : R4} (h : cmpA r.fh r.fl s.fh s.fl < 0) : (meR r s).fh = s.fh ∧ (meR r s).fl = s.fl := by simp [meR, h]
theorem meR_f0 {r s : R4} (h : ¬ cmpA r.fh r.fl s.fh s.fl < 0) : (meR r s).fh = r.fh ∧ (meR r s).fl = r.fl := by simp only [meR, if_neg h, and_self]
theorem meR_t1 {r s : R4} (h : 0 < cmpA r.th r.tl s.th s.tl) : (meR r s).th = s.th ∧ (meR r s).tl = s.tl := by simp [meR, h]
theorem meR_t0 {r s : R4} (h : ¬ 0 < cmpA r.th r.tl s.th s.tl) : (meR r s).th = r.th ∧ (meR r s).tl = r.tl := by simp only [meR, if_neg h, and_self]
theorem blkB {w0 w1 : World} (hb : Below w0.heap.size w0 w1) {g : Nat} {o : Obj} (h : w0.heap[g]? = some o) : w1.heap[g]? = some o := by
  rw [hb.block _ (Array.getElem?_eq_some_iff.1 h).1]; exact h
theorem blk_lt {w : World} {g : Nat} {o : Obj} (h : w.heap[g]? = some o) : g < w.heap.size := (Array.getElem?_eq_some_iff.1 h).1
theorem blk_al {w : World} {g : Nat} {o : Obj} (h : w.heap[g]? = some o) (p : Obj) : (w.alloc p).heap[g]? = some o := by rw [al_old (blk_lt h)]; exact h
theorem set_other {w : World} {B b : Nat} (h : b ≠ B) (o : Nat) (v : Value) : (w.setCell ⟨B, o, none⟩ v).heap[b]? = w.heap[b]? := by
  simp only [World.setCell, Array.getElem?_modify]
  rw [if_neg (fun e => h e.symm)]
theorem cells4 {w : World} {B : Nat} {x y z u : Value} {t : TypeId} (h : w.heap[B]? = some (.cells #[x, y, z, u] t (0, 0))) : w.cell? ⟨B, 0, none⟩ = some x ∧ w.cell? ⟨B, 1, none⟩ = some y ∧ w.cell? ⟨B, 2, none⟩ = some z ∧ w.cell? ⟨B, 3, none⟩ = some u := by
  refine ⟨?_, ?_, ?_, ?_⟩ <;> simp [World.cell?, h]
theorem fr4 {w : World} {B : Nat} {c : Array Value} {t : TypeId} (h : w.heap[B]? = some (.cells c t (0, 0))) (o : Nat) : w.frozen? ⟨B, o, none⟩ = false := by simp [World.frozen?, h]
theorem set01 {w : World} {B : Nat} {x y z u : Value} {t : TypeId} (h : w.heap[B]? = some (.cells #[x, y, z, u] t (0, 0))) (a b : Value) : ((w.setCell ⟨B, 0, none⟩ a).setCell ⟨B, 1, none⟩ b).heap[B]? = some (.cells #[a, b, z, u] t (0, 0)) := by simp [World.setCell, Array.getElem?_modify, h]
theorem set23 {w : World} {B : Nat} {x y z u : Value} {t : TypeId} (h : w.heap[B]? = some (.cells #[x, y, z, u] t (0, 0))) (a b : Value) : ((w.setCell ⟨B, 2, none⟩ a).setCell ⟨B, 3, none⟩ b).heap[B]? = some (.cells #[x, y, a, b] t (0, 0)) := by simp [World.setCell, Array.getElem?_modify, h]
theorem set0123 {w : World} {B : Nat} {x y z u : Value} {t : TypeId} (h : w.heap[B]? = some (.cells #[x, y, z, u] t (0, 0))) (a b c d : Value) : ((((w.setCell ⟨B, 0, none⟩ a).setCell ⟨B, 1, none⟩ b).setCell ⟨B, 2, none⟩ c).setCell ⟨B, 3, none⟩ d).heap[B]? = some (.cells #[a, b, c, d] t (0, 0)) := by simp [World.setCell, Array.getElem?_modify, h]

theorem res_row {fn : Func} {p u : Tmp} {ty : TypeId} (h : fn.results = #[.cell p ty, .tmp u]) (tmps : Array Value) (W : World) (g : Nat) (t : TypeId) (cs : Array Value) (fs) (hp : tmps.getD p undef = .pointer (some ⟨g, 0, none⟩)) (hg : W.heap[g]? = some (.cells cs t (0, 0)))
    (hu : Try.prog.underlying ty = some (.struct fs)) (hi : (Try.prog.info? ty).map (·.size) = some cs.size) :
    (results fn tmps).run Try.prog W = .ok (.tuple #[.agg cs, tmps.getD u undef]) W := by
  rw [results_cell_tmp h, hp]
  have e : (asAddr (.pointer (some ⟨g, 0, none⟩))).run Try.prog W = .ok ⟨g, 0, none⟩ W := rfl
  rw [e]
  simp only [Result.andThen]
  rw [run_loadVar_row W g t ty cs (0, 0) (.struct fs) hg hu rfl hi]

/-- Results that are two rows and a word. -/
theorem res_row3 {fn : Func} {p q u : Tmp} {ty tz : TypeId} (h : fn.results = #[.cell p ty, .cell q tz, .tmp u]) (tmps : Array Value) (W : World) (g g2 : Nat) (t t2 : TypeId) (cs cs2 : Array Value) (fs fs2) (hp : tmps.getD p undef = .pointer (some ⟨g, 0, none⟩)) (hg : W.heap[g]? = some (.cells cs t (0, 0)))
    (hu : Try.prog.underlying ty = some (.struct fs)) (hi : (Try.prog.info? ty).map (·.size) = some cs.size)
    (hp2 : tmps.getD q undef = .pointer (some ⟨g2, 0, none⟩)) (hg2 : W.heap[g2]? = some (.cells cs2 t2 (0, 0)))
    (hu2 : Try.prog.underlying tz = some (.struct fs2)) (hi2 : (Try.prog.info? tz).map (·.size) = some cs2.size) :
    (results fn tmps).run Try.prog W = .ok (.tuple #[.agg cs, .agg cs2, tmps.getD u undef]) W := by
  have hp' : tmps[p]?.getD undef = .pointer (some ⟨g, 0, none⟩) := by simpa using hp
  have hq' : tmps[q]?.getD undef = .pointer (some ⟨g2, 0, none⟩) := by simpa using hp2
  simp [results, h, hp', hq', asAddr, run_loadVar_row W g t ty cs (0, 0) (.struct fs) hg hu rfl hi, run_loadVar_row W g2 t2 tz cs2 (0, 0) (.struct fs2) hg2 hu2 rfl hi2]


set_option maxRecDepth 100000 in
set_option maxHeartbeats 4000000 in
theorem meet_any (r s : R4) (w : World) : Calls Try.prog 57 #[.agg #[.int .u64 r.fh, .int .u64 r.fl, .int .u64 r.th, .int .u64 r.tl], .agg #[.int .u64 s.fh, .int .u64 s.fl, .int .u64 s.th, .int .u64 s.tl]] w fun e w' => e = .returned (.tuple #[.agg #[.int .u64 (meV r s).fh, .int .u64 (meV r s).fl, .int .u64 (meV r s).th, .int .u64 (meV r s).tl], .bool (!emR (meR r s))]) ∧ Below w.heap.size w w' := by
  have c1 := cmp_any r.fh r.fl s.fh s.fl
  have c2 := cmp_any r.th r.tl s.th s.tl
  have F1 := @meR_f1 r s
  have F0 := @meR_f0 r s
  have T1 := @meR_t1 r s
  have T0 := @meR_t0 r s
  obtain ⟨m, hm⟩ : ∃ m, m = meR r s := ⟨_, rfl⟩
  obtain ⟨v, hv⟩ : ∃ v, v = meV r s := ⟨_, rfl⟩
  have ce := isEmpty_any m
  rw [← hv, ← hm]
  rw [← hm] at F1 F0 T1 T0
  generalize hE : emR m = E at ce ⊢
  have HV : Hid (v = if E then ⟨0, 0, 0, 0⟩ else m) := Lib.hid (by rw [hv]; unfold meV; rw [← hm, hE])
  clear hv hE
  generalize cmpA r.fh r.fl s.fh s.fl = X at *
  generalize cmpA r.th r.tl s.th s.tl = Y at *
  clear hm
  have HF1 := Lib.hid F1
  have HF0 := Lib.hid F0
  have HT1 := Lib.hid T1
  have HT0 := Lib.hid T0
  clear F1 F0 T1 T0
  obtain ⟨O, hO⟩ : ∃ O, O = !E := ⟨_, rfl⟩
  rw [← hO]
  go_enter Try.func57, Try.ntmps57
  have HO := Lib.hid hO; clear hO
  go_wp2_with fail
  obtain ⟨w0, hw0⟩ : ∃ w0, w0 = ((w.alloc (.cells #[.int .u64 r.fh, .int .u64 r.fl, .int .u64 r.th, .int .u64 r.tl] 27)).alloc (.cells #[.int .u64 s.fh, .int .u64 s.fl, .int .u64 s.th, .int .u64 s.tl] 27)).alloc (.cells #[.int .u64 0, .int .u64 0, .int .u64 0, .int .u64 0] 27) := ⟨_, rfl⟩
  have b0 : Below w.heap.size w w0 := by rw [hw0]; exact Below.al (Below.al (Below.al (Below.refl _ _) _) _) _
  have A0 : w0.heap[w.heap.size]? = some (.cells #[.int .u64 r.fh, .int .u64 r.fl, .int .u64 r.th, .int .u64 r.tl] 27) := by rw [hw0]; exact blk_al (blk_al (heap_alloc_new w _) _) _
  have A1 : w0.heap[w.heap.size + 1]? = some (.cells #[.int .u64 s.fh, .int .u64 s.fl, .int .u64 s.th, .int .u64 s.tl] 27) := by rw [hw0]; exact blk_al (al_new (al_size _ _).symm _) _
  have A2 : w0.heap[w.heap.size + 2]? = some (.cells #[.int .u64 0, .int .u64 0, .int .u64 0, .int .u64 0] 27) := by rw [hw0]; exact al_new (by rw [al_size, al_size]) _
  rw [← hw0]
  clear hw0
  refine ((c1 _).mono ?_)
  rintro e w1 ⟨rfl, hb1⟩
  have B0 := blkB hb1 A0
  have B1 := blkB hb1 A1
  have B2 := blkB hb1 A2
  have b1 := bel_via b0 hb1
  clear A0 A1 A2 b0 hb1 c1
  obtain ⟨y0, y1, y2, y3⟩ := cells4 B0
  obtain ⟨z0, z1, z2, z3⟩ := cells4 B1
  have f0 := fr4 B0
  by_cases hx : X < 0
  · obtain ⟨e0, e1⟩ := HF1.out hx
    have HE := Lib.hid (show _ ∧ _ from ⟨e0, e1⟩); clear e0 e1
    go_wp2_with fail
    obtain ⟨w2, hw2⟩ : ∃ w2, w2 = ((w1.setCell ⟨w.heap.size, 0, none⟩ (.int .u64 s.fh)).setCell ⟨w.heap.size, 1, none⟩ (.int .u64 s.fl)) := ⟨_, rfl⟩
    have C0 : w2.heap[w.heap.size]? = some (.cells #[.int .u64 m.fh, .int .u64 m.fl, .int .u64 r.th, .int .u64 r.tl] 27) := by rw [hw2, HE.out.1, HE.out.2]; exact set01 B0 _ _
    have C1 : w2.heap[w.heap.size + 1]? = some (.cells #[.int .u64 s.fh, .int .u64 s.fl, .int .u64 s.th, .int .u64 s.tl] 27) := by rw [hw2, set_other (by omega), set_other (by omega)]; exact B1
    have C2 : w2.heap[w.heap.size + 2]? = some (.cells #[.int .u64 0, .int .u64 0, .int .u64 0, .int .u64 0] 27) := by rw [hw2, set_other (by omega), set_other (by omega)]; exact B2
    have b2 : Below w.heap.size w w2 := by rw [hw2]; exact below_set (below_set b1 (Nat.le_refl _) _ _) (Nat.le_refl _) _ _
    rw [← hw2]
    clear hw2
    clear y0 y1 y2 y3 z0 z1 z2 z3 f0 B0 B1 B2 b1 hx
    refine ((c2 _).mono ?_)
    rintro e w3 ⟨rfl, hb3⟩
    have D0 := blkB hb3 C0
    have D1 := blkB hb3 C1
    have D2 := blkB hb3 C2
    have b3 := bel_via b2 hb3
    clear C0 C1 C2 b2 hb3 c2 HE
    obtain ⟨y0, y1, y2, y3⟩ := cells4 D0
    obtain ⟨z0, z1, z2, z3⟩ := cells4 D1
    have f0 := fr4 D0
    by_cases hy : 0 < Y
    · obtain ⟨e0, e1⟩ := HT1.out hy
      have HE := Lib.hid (show _ ∧ _ from ⟨e0, e1⟩); clear e0 e1
      have ce2 := ce
      rw [HE.out.1, HE.out.2] at ce2
      have E2 : ((w3.setCell ⟨w.heap.size, 2, none⟩ (.int .u64 s.th)).setCell ⟨w.heap.size, 3, none⟩ (.int .u64 s.tl)).heap[w.heap.size + 2]? = some (.cells #[.int .u64 0, .int .u64 0, .int .u64 0, .int .u64 0] 27) := by rw [set_other (by omega), set_other (by omega)]; exact D2
      have b4 : Below w.heap.size w ((w3.setCell ⟨w.heap.size, 2, none⟩ (.int .u64 s.th)).setCell ⟨w.heap.size, 3, none⟩ (.int .u64 s.tl)) := below_set (below_set b3 (Nat.le_refl _) _ _) (Nat.le_refl _) _ _
      have E0 : ((w3.setCell ⟨w.heap.size, 2, none⟩ (.int .u64 s.th)).setCell ⟨w.heap.size, 3, none⟩ (.int .u64 s.tl)).heap[w.heap.size]? = some (.cells #[.int .u64 m.fh, .int .u64 m.fl, .int .u64 m.th, .int .u64 m.tl] 27) := by rw [HE.out.1, HE.out.2]; exact set23 D0 _ _
      clear HE
      go_wp2_with fail
      refine ((ce2 _).mono ?_)
      rintro e w5 ⟨rfl, hb5⟩
      have G2 := blkB hb5 E2
      have G0 := blkB hb5 E0
      have b5 := bel_via b4 hb5
      clear E0 E2 y0 y1 y2 y3 z0 z1 z2 z3 b4 hb5 b3 f0 ce2 hy
      obtain ⟨q0, q1, q2, q3⟩ := cells4 G2
      have f2 := fr4 G2
      clear D0 D1 D2
      obtain ⟨y0, y1, y2, y3⟩ := cells4 G0
      cases E with
      | true =>
        obtain rfl : v = ⟨0, 0, 0, 0⟩ := by simpa using HV.out
        obtain rfl : O = false := HO.out
        go_wp2
        refine bodyPost_ret_by (res_row Try.results57 _ _ (w.heap.size + 2) 27 #[.int .u64 0, .int .u64 0, .int .u64 0, .int .u64 0] _ rfl (set0123 G2 (.int .u64 0) (.int .u64 0) (.int .u64 0) (.int .u64 0)) Try.underlying27 (by kernel_rfl)) rfl ⟨rfl, below_set (below_set (below_set (below_set b5 (by omega) _ _) (by omega) _ _) (by omega) _ _) (by omega) _ _⟩
      | false =>
        obtain rfl : v = m := by simpa using HV.out
        obtain rfl : O = true := HO.out
        go_wp2
        refine bodyPost_ret_by (res_row Try.results57 _ _ (w.heap.size + 2) 27 #[.int .u64 v.fh, .int .u64 v.fl, .int .u64 v.th, .int .u64 v.tl] _ rfl (set0123 G2 (.int .u64 v.fh) (.int .u64 v.fl) (.int .u64 v.th) (.int .u64 v.tl)) Try.underlying27 (by kernel_rfl)) rfl ⟨rfl, below_set (below_set (below_set (below_set b5 (by omega) _ _) (by omega) _ _) (by omega) _ _) (by omega) _ _⟩
    · obtain ⟨e0, e1⟩ := HT0.out (by omega)
      have hyd : decide (0 < Y) = false := by simp [hy]
      have HE := Lib.hid (show _ ∧ _ from ⟨e0, e1⟩); clear e0 e1
      have ce2 := ce
      rw [HE.out.1, HE.out.2] at ce2
      have E2 := D2
      have b4 := b3
      have E0 : w3.heap[w.heap.size]? = some (.cells #[.int .u64 m.fh, .int .u64 m.fl, .int .u64 m.th, .int .u64 m.tl] 27) := by rw [HE.out.1, HE.out.2]; exact D0
      clear HE
      go_wp2_with fail
      refine ((ce2 _).mono ?_)
      rintro e w5 ⟨rfl, hb5⟩
      have G2 := blkB hb5 E2
      have G0 := blkB hb5 E0
      have b5 := bel_via b4 hb5
      clear E0 E2 y0 y1 y2 y3 z0 z1 z2 z3 b4 hb5 b3 f0 ce2 hy hyd
      obtain ⟨q0, q1, q2, q3⟩ := cells4 G2
      have f2 := fr4 G2
      clear D0 D1 D2
      obtain ⟨y0, y1, y2, y3⟩ := cells4 G0
      cases E with
      | true =>
        obtain rfl : v = ⟨0, 0, 0, 0⟩ := by simpa using HV.out
        obtain rfl : O = false := HO.out
        go_wp2
        refine bodyPost_ret_by (res_row Try.results57 _ _ (w.heap.size + 2) 27 #[.int .u64 0, .int .u64 0, .int .u64 0, .int .u64 0] _ rfl (set0123 G2 (.int .u64 0) (.int .u64 0) (.int .u64 0) (.int .u64 0)) Try.underlying27 (by kernel_rfl)) rfl ⟨rfl, below_set (below_set (below_set (below_set b5 (by omega) _ _) (by omega) _ _) (by omega) _ _) (by omega) _ _⟩
      | false =>
        obtain rfl : v = m := by simpa using HV.out
        obtain rfl : O = true := HO.out
        go_wp2
        refine bodyPost_ret_by (res_row Try.results57 _ _ (w.heap.size + 2) 27 #[.int .u64 v.fh, .int .u64 v.fl, .int .u64 v.th, .int .u64 v.tl] _ rfl (set0123 G2 (.int .u64 v.fh) (.int .u64 v.fl) (.int .u64 v.th) (.int .u64 v.tl)) Try.underlying27 (by kernel_rfl)) rfl ⟨rfl, below_set (below_set (below_set (below_set b5 (by omega) _ _) (by omega) _ _) (by omega) _ _) (by omega) _ _⟩
  · obtain ⟨e0, e1⟩ := HF0.out (by omega)
    have hxd : decide (X < 0) = false := by simp [hx]
    have HE := Lib.hid (show _ ∧ _ from ⟨e0, e1⟩); clear e0 e1
    go_wp2_with fail
    obtain ⟨w2, rfl⟩ : ∃ w2, w2 = w1 := ⟨_, rfl⟩
    have C0 : w2.heap[w.heap.size]? = some (.cells #[.int .u64 m.fh, .int .u64 m.fl, .int .u64 r.th, .int .u64 r.tl] 27) := by rw [HE.out.1, HE.out.2]; exact B0
    have C1 := B1
    have C2 := B2
    have b2 := b1
    clear y0 y1 y2 y3 z0 z1 z2 z3 f0 B0 B1 B2 b1 hx hxd
    refine ((c2 _).mono ?_)
    rintro e w3 ⟨rfl, hb3⟩
    have D0 := blkB hb3 C0
    have D1 := blkB hb3 C1
    have D2 := blkB hb3 C2
    have b3 := bel_via b2 hb3
    clear C0 C1 C2 b2 hb3 c2 HE
    obtain ⟨y0, y1, y2, y3⟩ := cells4 D0
    obtain ⟨z0, z1, z2, z3⟩ := cells4 D1
    have f0 := fr4 D0
    by_cases hy : 0 < Y
    · obtain ⟨e0, e1⟩ := HT1.out hy
      have HE := Lib.hid (show _ ∧ _ from ⟨e0, e1⟩); clear e0 e1
      have ce2 := ce
      rw [HE.out.1, HE.out.2] at ce2
      have E2 : ((w3.setCell ⟨w.heap.size, 2, none⟩ (.int .u64 s.th)).setCell ⟨w.heap.size, 3, none⟩ (.int .u64 s.tl)).heap[w.heap.size + 2]? = some (.cells #[.int .u64 0, .int .u64 0, .int .u64 0, .int .u64 0] 27) := by rw [set_other (by omega), set_other (by omega)]; exact D2
      have b4 : Below w.heap.size w ((w3.setCell ⟨w.heap.size, 2, none⟩ (.int .u64 s.th)).setCell ⟨w.heap.size, 3, none⟩ (.int .u64 s.tl)) := below_set (below_set b3 (Nat.le_refl _) _ _) (Nat.le_refl _) _ _
      have E0 : ((w3.setCell ⟨w.heap.size, 2, none⟩ (.int .u64 s.th)).setCell ⟨w.heap.size, 3, none⟩ (.int .u64 s.tl)).heap[w.heap.size]? = some (.cells #[.int .u64 m.fh, .int .u64 m.fl, .int .u64 m.th, .int .u64 m.tl] 27) := by rw [HE.out.1, HE.out.2]; exact set23 D0 _ _
      clear HE
      go_wp2_with fail
      refine ((ce2 _).mono ?_)
      rintro e w5 ⟨rfl, hb5⟩
      have G2 := blkB hb5 E2
      have G0 := blkB hb5 E0
      have b5 := bel_via b4 hb5
      clear E0 E2 y0 y1 y2 y3 z0 z1 z2 z3 b4 hb5 b3 f0 ce2 hy
      obtain ⟨q0, q1, q2, q3⟩ := cells4 G2
      have f2 := fr4 G2
      clear D0 D1 D2
      obtain ⟨y0, y1, y2, y3⟩ := cells4 G0
      cases E with
      | true =>
        obtain rfl : v = ⟨0, 0, 0, 0⟩ := by simpa using HV.out
        obtain rfl : O = false := HO.out
        go_wp2
        refine bodyPost_ret_by (res_row Try.results57 _ _ (w.heap.size + 2) 27 #[.int .u64 0, .int .u64 0, .int .u64 0, .int .u64 0] _ rfl (set0123 G2 (.int .u64 0) (.int .u64 0) (.int .u64 0) (.int .u64 0)) Try.underlying27 (by kernel_rfl)) rfl ⟨rfl, below_set (below_set (below_set (below_set b5 (by omega) _ _) (by omega) _ _) (by omega) _ _) (by omega) _ _⟩
      | false =>
        obtain rfl : v = m := by simpa using HV.out
        obtain rfl : O = true := HO.out
        go_wp2
        refine bodyPost_ret_by (res_row Try.results57 _ _ (w.heap.size + 2) 27 #[.int .u64 v.fh, .int .u64 v.fl, .int .u64 v.th, .int .u64 v.tl] _ rfl (set0123 G2 (.int .u64 v.fh) (.int .u64 v.fl) (.int .u64 v.th) (.int .u64 v.tl)) Try.underlying27 (by kernel_rfl)) rfl ⟨rfl, below_set (below_set (below_set (below_set b5 (by omega) _ _) (by omega) _ _) (by omega) _ _) (by omega) _ _⟩
    · obtain ⟨e0, e1⟩ := HT0.out (by omega)
      have hyd : decide (0 < Y) = false := by simp [hy]
      have HE := Lib.hid (show _ ∧ _ from ⟨e0, e1⟩); clear e0 e1
      have ce2 := ce
      rw [HE.out.1, HE.out.2] at ce2
      have E2 := D2
      have b4 := b3
      have E0 : w3.heap[w.heap.size]? = some (.cells #[.int .u64 m.fh, .int .u64 m.fl, .int .u64 m.th, .int .u64 m.tl] 27) := by rw [HE.out.1, HE.out.2]; exact D0
      clear HE
      go_wp2_with fail
      refine ((ce2 _).mono ?_)
      rintro e w5 ⟨rfl, hb5⟩
      have G2 := blkB hb5 E2
      have G0 := blkB hb5 E0
      have b5 := bel_via b4 hb5
      clear E0 E2 y0 y1 y2 y3 z0 z1 z2 z3 b4 hb5 b3 f0 ce2 hy hyd
      obtain ⟨q0, q1, q2, q3⟩ := cells4 G2
      have f2 := fr4 G2
      clear D0 D1 D2
      obtain ⟨y0, y1, y2, y3⟩ := cells4 G0
      cases E with
      | true =>
        obtain rfl : v = ⟨0, 0, 0, 0⟩ := by simpa using HV.out
        obtain rfl : O = false := HO.out
        go_wp2
        refine bodyPost_ret_by (res_row Try.results57 _ _ (w.heap.size + 2) 27 #[.int .u64 0, .int .u64 0, .int .u64 0, .int .u64 0] _ rfl (set0123 G2 (.int .u64 0) (.int .u64 0) (.int .u64 0) (.int .u64 0)) Try.underlying27 (by kernel_rfl)) rfl ⟨rfl, below_set (below_set (below_set (below_set b5 (by omega) _ _) (by omega) _ _) (by omega) _ _) (by omega) _ _⟩
      | false =>
        obtain rfl : v = m := by simpa using HV.out
        obtain rfl : O = true := HO.out
        go_wp2
        refine bodyPost_ret_by (res_row Try.results57 _ _ (w.heap.size + 2) 27 #[.int .u64 v.fh, .int .u64 v.fl, .int .u64 v.th, .int .u64 v.tl] _ rfl (set0123 G2 (.int .u64 v.fh) (.int .u64 v.fl) (.int .u64 v.th) (.int .u64 v.tl)) Try.underlying27 (by kernel_rfl)) rfl ⟨rfl, below_set (below_set (below_set (below_set b5 (by omega) _ _) (by omega) _ _) (by omega) _ _) (by omega) _ _⟩
theorem rless_sw (r s : R4) (w : World) : Calls Try.prog 36 #[.agg #[.int .u64 s.th, .int .u64 s.tl], .agg #[.int .u64 r.th, .int .u64 r.tl]] w fun e w' => e = .returned (.bool (decide (0 < cmpA r.th r.tl s.th s.tl))) ∧ Below w.heap.size w w' :=
  (rless_any s.th s.tl r.th r.tl w).mono fun e w' ⟨he, hb⟩ => ⟨by rw [he]; rw [cmpA_swap r.th r.tl s.th s.tl]; congr 2; simp, hb⟩

set_option maxRecDepth 100000 in
set_option maxHeartbeats 4000000 in
theorem rmeet_any (r s : R4) (w : World) : Calls Try.prog 45 #[.agg #[.int .u64 r.fh, .int .u64 r.fl, .int .u64 r.th, .int .u64 r.tl], .agg #[.int .u64 s.fh, .int .u64 s.fl, .int .u64 s.th, .int .u64 s.tl]] w fun e w' => e = .returned (.tuple #[.agg #[.int .u64 (meV r s).fh, .int .u64 (meV r s).fl, .int .u64 (meV r s).th, .int .u64 (meV r s).tl], .bool (!emR (meR r s))]) ∧ Below w.heap.size w w' := by
  have c1 := rless_any r.fh r.fl s.fh s.fl
  have c2 := rless_sw r s
  have F1 := @meR_f1 r s
  have F0 := @meR_f0 r s
  have T1 := @meR_t1 r s
  have T0 := @meR_t0 r s
  obtain ⟨m, hm⟩ : ∃ m, m = meR r s := ⟨_, rfl⟩
  obtain ⟨v, hv⟩ : ∃ v, v = meV r s := ⟨_, rfl⟩
  have ce := rless_em m
  rw [← hv, ← hm]
  rw [← hm] at F1 F0 T1 T0
  generalize hE : emR m = E at ce ⊢
  have HV : Hid (v = if E then ⟨0, 0, 0, 0⟩ else m) := Lib.hid (by rw [hv]; unfold meV; rw [← hm, hE])
  clear hv hE
  generalize cmpA r.fh r.fl s.fh s.fl = X at *
  generalize cmpA r.th r.tl s.th s.tl = Y at *
  clear hm
  have HF1 := Lib.hid F1
  have HF0 := Lib.hid F0
  have HT1 := Lib.hid T1
  have HT0 := Lib.hid T0
  clear F1 F0 T1 T0
  obtain ⟨O, hO⟩ : ∃ O, O = !E := ⟨_, rfl⟩
  rw [← hO]
  go_enter Try.func45, Try.ntmps45
  have HO := Lib.hid hO; clear hO
  go_wp2_with fail
  obtain ⟨w0, hw0⟩ : ∃ w0, w0 = (((w.alloc (.cells #[.int .u64 r.fh, .int .u64 r.fl, .int .u64 r.th, .int .u64 r.tl] 27)).alloc (.cells #[.int .u64 s.fh, .int .u64 s.fl, .int .u64 s.th, .int .u64 s.tl] 27)).alloc (.cells #[.int .u64 0, .int .u64 0, .int .u64 0, .int .u64 0] 27)).alloc (.cells #[.int .u64 r.fh, .int .u64 r.fl, .int .u64 r.th, .int .u64 r.tl] 27) := ⟨_, rfl⟩
  have b0 : Below w.heap.size w w0 := by rw [hw0]; exact Below.al (Below.al (Below.al (Below.al (Below.refl _ _) _) _) _) _
  have A0 : w0.heap[w.heap.size + 3]? = some (.cells #[.int .u64 r.fh, .int .u64 r.fl, .int .u64 r.th, .int .u64 r.tl] 27) := by rw [hw0]; exact al_new (by rw [al_size, al_size, al_size]) _
  have A1 : w0.heap[w.heap.size + 1]? = some (.cells #[.int .u64 s.fh, .int .u64 s.fl, .int .u64 s.th, .int .u64 s.tl] 27) := by rw [hw0]; exact blk_al (blk_al (al_new (al_size _ _).symm _) _) _
  have A2 : w0.heap[w.heap.size + 2]? = some (.cells #[.int .u64 0, .int .u64 0, .int .u64 0, .int .u64 0] 27) := by rw [hw0]; exact blk_al (al_new (by rw [al_size, al_size]) _) _
  rw [← hw0]
  clear hw0
  refine ((c1 _).mono ?_)
  rintro e w1 ⟨rfl, hb1⟩
  have B0 := blkB hb1 A0
  have B1 := blkB hb1 A1
  have B2 := blkB hb1 A2
  have b1 := bel_via b0 hb1
  clear A0 A1 A2 b0 hb1 c1
  obtain ⟨y0, y1, y2, y3⟩ := cells4 B0
  obtain ⟨z0, z1, z2, z3⟩ := cells4 B1
  have f0 := fr4 B0
  by_cases hx : X < 0
  · obtain ⟨e0, e1⟩ := HF1.out hx
    have HE := Lib.hid (show _ ∧ _ from ⟨e0, e1⟩); clear e0 e1
    go_wp2_with fail
    obtain ⟨w2, hw2⟩ : ∃ w2, w2 = ((w1.setCell ⟨w.heap.size + 3, 0, none⟩ (.int .u64 s.fh)).setCell ⟨w.heap.size + 3, 1, none⟩ (.int .u64 s.fl)) := ⟨_, rfl⟩
    have C0 : w2.heap[w.heap.size + 3]? = some (.cells #[.int .u64 m.fh, .int .u64 m.fl, .int .u64 r.th, .int .u64 r.tl] 27) := by rw [hw2, HE.out.1, HE.out.2]; exact set01 B0 _ _
    have C1 : w2.heap[w.heap.size + 1]? = some (.cells #[.int .u64 s.fh, .int .u64 s.fl, .int .u64 s.th, .int .u64 s.tl] 27) := by rw [hw2, set_other (by omega), set_other (by omega)]; exact B1
    have C2 : w2.heap[w.heap.size + 2]? = some (.cells #[.int .u64 0, .int .u64 0, .int .u64 0, .int .u64 0] 27) := by rw [hw2, set_other (by omega), set_other (by omega)]; exact B2
    have b2 : Below w.heap.size w w2 := by rw [hw2]; exact below_set (below_set b1 (by omega) _ _) (by omega) _ _
    rw [← hw2]
    clear hw2
    clear y0 y1 y2 y3 z0 z1 z2 z3 f0 B0 B1 B2 b1 hx
    refine ((c2 _).mono ?_)
    rintro e w3 ⟨rfl, hb3⟩
    have D0 := blkB hb3 C0
    have D1 := blkB hb3 C1
    have D2 := blkB hb3 C2
    have b3 := bel_via b2 hb3
    clear C0 C1 C2 b2 hb3 c2 HE
    obtain ⟨y0, y1, y2, y3⟩ := cells4 D0
    obtain ⟨z0, z1, z2, z3⟩ := cells4 D1
    have f0 := fr4 D0
    by_cases hy : 0 < Y
    · obtain ⟨e0, e1⟩ := HT1.out hy
      have HE := Lib.hid (show _ ∧ _ from ⟨e0, e1⟩); clear e0 e1
      have ce2 := ce
      rw [HE.out.1, HE.out.2] at ce2
      have E2 : ((w3.setCell ⟨w.heap.size + 3, 2, none⟩ (.int .u64 s.th)).setCell ⟨w.heap.size + 3, 3, none⟩ (.int .u64 s.tl)).heap[w.heap.size + 2]? = some (.cells #[.int .u64 0, .int .u64 0, .int .u64 0, .int .u64 0] 27) := by rw [set_other (by omega), set_other (by omega)]; exact D2
      have b4 : Below w.heap.size w ((w3.setCell ⟨w.heap.size + 3, 2, none⟩ (.int .u64 s.th)).setCell ⟨w.heap.size + 3, 3, none⟩ (.int .u64 s.tl)) := below_set (below_set b3 (by omega) _ _) (by omega) _ _
      have E0 : ((w3.setCell ⟨w.heap.size + 3, 2, none⟩ (.int .u64 s.th)).setCell ⟨w.heap.size + 3, 3, none⟩ (.int .u64 s.tl)).heap[w.heap.size + 3]? = some (.cells #[.int .u64 m.fh, .int .u64 m.fl, .int .u64 m.th, .int .u64 m.tl] 27) := by rw [HE.out.1, HE.out.2]; exact set23 D0 _ _
      clear HE
      go_wp2_with fail
      refine ((ce2 _).mono ?_)
      rintro e w5 ⟨rfl, hb5⟩
      have G2 := blkB hb5 E2
      have G0 := blkB hb5 E0
      have b5 := bel_via b4 hb5
      clear E0 E2 y0 y1 y2 y3 z0 z1 z2 z3 b4 hb5 b3 f0 ce2 hy
      obtain ⟨q0, q1, q2, q3⟩ := cells4 G2
      have f2 := fr4 G2
      clear D0 D1 D2
      obtain ⟨y0, y1, y2, y3⟩ := cells4 G0
      cases E with
      | true =>
        obtain rfl : v = ⟨0, 0, 0, 0⟩ := by simpa using HV.out
        obtain rfl : O = false := HO.out
        go_wp2
        refine bodyPost_ret_by (res_row Try.results45 _ _ (w.heap.size + 2) 27 #[.int .u64 0, .int .u64 0, .int .u64 0, .int .u64 0] _ rfl (set0123 G2 (.int .u64 0) (.int .u64 0) (.int .u64 0) (.int .u64 0)) Try.underlying27 (by kernel_rfl)) rfl ⟨rfl, below_set (below_set (below_set (below_set b5 (by omega) _ _) (by omega) _ _) (by omega) _ _) (by omega) _ _⟩
      | false =>
        obtain rfl : v = m := by simpa using HV.out
        obtain rfl : O = true := HO.out
        go_wp2
        refine bodyPost_ret_by (res_row Try.results45 _ _ (w.heap.size + 2) 27 #[.int .u64 v.fh, .int .u64 v.fl, .int .u64 v.th, .int .u64 v.tl] _ rfl (set0123 G2 (.int .u64 v.fh) (.int .u64 v.fl) (.int .u64 v.th) (.int .u64 v.tl)) Try.underlying27 (by kernel_rfl)) rfl ⟨rfl, below_set (below_set (below_set (below_set b5 (by omega) _ _) (by omega) _ _) (by omega) _ _) (by omega) _ _⟩
    · obtain ⟨e0, e1⟩ := HT0.out (by omega)
      have hyd : decide (0 < Y) = false := by simp [hy]
      have HE := Lib.hid (show _ ∧ _ from ⟨e0, e1⟩); clear e0 e1
      have ce2 := ce
      rw [HE.out.1, HE.out.2] at ce2
      have E2 := D2
      have b4 := b3
      have E0 : w3.heap[w.heap.size + 3]? = some (.cells #[.int .u64 m.fh, .int .u64 m.fl, .int .u64 m.th, .int .u64 m.tl] 27) := by rw [HE.out.1, HE.out.2]; exact D0
      clear HE
      go_wp2_with fail
      refine ((ce2 _).mono ?_)
      rintro e w5 ⟨rfl, hb5⟩
      have G2 := blkB hb5 E2
      have G0 := blkB hb5 E0
      have b5 := bel_via b4 hb5
      clear E0 E2 y0 y1 y2 y3 z0 z1 z2 z3 b4 hb5 b3 f0 ce2 hy hyd
      obtain ⟨q0, q1, q2, q3⟩ := cells4 G2
      have f2 := fr4 G2
      clear D0 D1 D2
      obtain ⟨y0, y1, y2, y3⟩ := cells4 G0
      cases E with
      | true =>
        obtain rfl : v = ⟨0, 0, 0, 0⟩ := by simpa using HV.out
        obtain rfl : O = false := HO.out
        go_wp2
        refine bodyPost_ret_by (res_row Try.results45 _ _ (w.heap.size + 2) 27 #[.int .u64 0, .int .u64 0, .int .u64 0, .int .u64 0] _ rfl (set0123 G2 (.int .u64 0) (.int .u64 0) (.int .u64 0) (.int .u64 0)) Try.underlying27 (by kernel_rfl)) rfl ⟨rfl, below_set (below_set (below_set (below_set b5 (by omega) _ _) (by omega) _ _) (by omega) _ _) (by omega) _ _⟩
      | false =>
        obtain rfl : v = m := by simpa using HV.out
        obtain rfl : O = true := HO.out
        go_wp2
        refine bodyPost_ret_by (res_row Try.results45 _ _ (w.heap.size + 2) 27 #[.int .u64 v.fh, .int .u64 v.fl, .int .u64 v.th, .int .u64 v.tl] _ rfl (set0123 G2 (.int .u64 v.fh) (.int .u64 v.fl) (.int .u64 v.th) (.int .u64 v.tl)) Try.underlying27 (by kernel_rfl)) rfl ⟨rfl, below_set (below_set (below_set (below_set b5 (by omega) _ _) (by omega) _ _) (by omega) _ _) (by omega) _ _⟩
  · obtain ⟨e0, e1⟩ := HF0.out (by omega)
    have hxd : decide (X < 0) = false := by simp [hx]
    have HE := Lib.hid (show _ ∧ _ from ⟨e0, e1⟩); clear e0 e1
    go_wp2_with fail
    obtain ⟨w2, rfl⟩ : ∃ w2, w2 = w1 := ⟨_, rfl⟩
    have C0 : w2.heap[w.heap.size + 3]? = some (.cells #[.int .u64 m.fh, .int .u64 m.fl, .int .u64 r.th, .int .u64 r.tl] 27) := by rw [HE.out.1, HE.out.2]; exact B0
    have C1 := B1
    have C2 := B2
    have b2 := b1
    clear y0 y1 y2 y3 z0 z1 z2 z3 f0 B0 B1 B2 b1 hx hxd
    refine ((c2 _).mono ?_)
    rintro e w3 ⟨rfl, hb3⟩
    have D0 := blkB hb3 C0
    have D1 := blkB hb3 C1
    have D2 := blkB hb3 C2
    have b3 := bel_via b2 hb3
    clear C0 C1 C2 b2 hb3 c2 HE
    obtain ⟨y0, y1, y2, y3⟩ := cells4 D0
    obtain ⟨z0, z1, z2, z3⟩ := cells4 D1
    have f0 := fr4 D0
    by_cases hy : 0 < Y
    · obtain ⟨e0, e1⟩ := HT1.out hy
      have HE := Lib.hid (show _ ∧ _ from ⟨e0, e1⟩); clear e0 e1
      have ce2 := ce
      rw [HE.out.1, HE.out.2] at ce2
      have E2 : ((w3.setCell ⟨w.heap.size + 3, 2, none⟩ (.int .u64 s.th)).setCell ⟨w.heap.size + 3, 3, none⟩ (.int .u64 s.tl)).heap[w.heap.size + 2]? = some (.cells #[.int .u64 0, .int .u64 0, .int .u64 0, .int .u64 0] 27) := by rw [set_other (by omega), set_other (by omega)]; exact D2
      have b4 : Below w.heap.size w ((w3.setCell ⟨w.heap.size + 3, 2, none⟩ (.int .u64 s.th)).setCell ⟨w.heap.size + 3, 3, none⟩ (.int .u64 s.tl)) := below_set (below_set b3 (by omega) _ _) (by omega) _ _
      have E0 : ((w3.setCell ⟨w.heap.size + 3, 2, none⟩ (.int .u64 s.th)).setCell ⟨w.heap.size + 3, 3, none⟩ (.int .u64 s.tl)).heap[w.heap.size + 3]? = some (.cells #[.int .u64 m.fh, .int .u64 m.fl, .int .u64 m.th, .int .u64 m.tl] 27) := by rw [HE.out.1, HE.out.2]; exact set23 D0 _ _
      clear HE
      go_wp2_with fail
      refine ((ce2 _).mono ?_)
      rintro e w5 ⟨rfl, hb5⟩
      have G2 := blkB hb5 E2
      have G0 := blkB hb5 E0
      have b5 := bel_via b4 hb5
      clear E0 E2 y0 y1 y2 y3 z0 z1 z2 z3 b4 hb5 b3 f0 ce2 hy
      obtain ⟨q0, q1, q2, q3⟩ := cells4 G2
      have f2 := fr4 G2
      clear D0 D1 D2
      obtain ⟨y0, y1, y2, y3⟩ := cells4 G0
      cases E with
      | true =>
        obtain rfl : v = ⟨0, 0, 0, 0⟩ := by simpa using HV.out
        obtain rfl : O = false := HO.out
        go_wp2
        refine bodyPost_ret_by (res_row Try.results45 _ _ (w.heap.size + 2) 27 #[.int .u64 0, .int .u64 0, .int .u64 0, .int .u64 0] _ rfl (set0123 G2 (.int .u64 0) (.int .u64 0) (.int .u64 0) (.int .u64 0)) Try.underlying27 (by kernel_rfl)) rfl ⟨rfl, below_set (below_set (below_set (below_set b5 (by omega) _ _) (by omega) _ _) (by omega) _ _) (by omega) _ _⟩
      | false =>
        obtain rfl : v = m := by simpa using HV.out
        obtain rfl : O = true := HO.out
        go_wp2
        refine bodyPost_ret_by (res_row Try.results45 _ _ (w.heap.size + 2) 27 #[.int .u64 v.fh, .int .u64 v.fl, .int .u64 v.th, .int .u64 v.tl] _ rfl (set0123 G2 (.int .u64 v.fh) (.int .u64 v.fl) (.int .u64 v.th) (.int .u64 v.tl)) Try.underlying27 (by kernel_rfl)) rfl ⟨rfl, below_set (below_set (below_set (below_set b5 (by omega) _ _) (by omega) _ _) (by omega) _ _) (by omega) _ _⟩
    · obtain ⟨e0, e1⟩ := HT0.out (by omega)
      have hyd : decide (0 < Y) = false := by simp [hy]
      have HE := Lib.hid (show _ ∧ _ from ⟨e0, e1⟩); clear e0 e1
      have ce2 := ce
      rw [HE.out.1, HE.out.2] at ce2
      have E2 := D2
      have b4 := b3
      have E0 : w3.heap[w.heap.size + 3]? = some (.cells #[.int .u64 m.fh, .int .u64 m.fl, .int .u64 m.th, .int .u64 m.tl] 27) := by rw [HE.out.1, HE.out.2]; exact D0
      clear HE
      go_wp2_with fail
      refine ((ce2 _).mono ?_)
      rintro e w5 ⟨rfl, hb5⟩
      have G2 := blkB hb5 E2
      have G0 := blkB hb5 E0
      have b5 := bel_via b4 hb5
      clear E0 E2 y0 y1 y2 y3 z0 z1 z2 z3 b4 hb5 b3 f0 ce2 hy hyd
      obtain ⟨q0, q1, q2, q3⟩ := cells4 G2
      have f2 := fr4 G2
      clear D0 D1 D2
      obtain ⟨y0, y1, y2, y3⟩ := cells4 G0
      cases E with
      | true =>
        obtain rfl : v = ⟨0, 0, 0, 0⟩ := by simpa using HV.out
        obtain rfl : O = false := HO.out
        go_wp2
        refine bodyPost_ret_by (res_row Try.results45 _ _ (w.heap.size + 2) 27 #[.int .u64 0, .int .u64 0, .int .u64 0, .int .u64 0] _ rfl (set0123 G2 (.int .u64 0) (.int .u64 0) (.int .u64 0) (.int .u64 0)) Try.underlying27 (by kernel_rfl)) rfl ⟨rfl, below_set (below_set (below_set (below_set b5 (by omega) _ _) (by omega) _ _) (by omega) _ _) (by omega) _ _⟩
      | false =>
        obtain rfl : v = m := by simpa using HV.out
        obtain rfl : O = true := HO.out
        go_wp2
        refine bodyPost_ret_by (res_row Try.results45 _ _ (w.heap.size + 2) 27 #[.int .u64 v.fh, .int .u64 v.fl, .int .u64 v.th, .int .u64 v.tl] _ rfl (set0123 G2 (.int .u64 v.fh) (.int .u64 v.fl) (.int .u64 v.th) (.int .u64 v.tl)) Try.underlying27 (by kernel_rfl)) rfl ⟨rfl, below_set (below_set (below_set (below_set b5 (by omega) _ _) (by omega) _ _) (by omega) _ _) (by omega) _ _⟩
end Go.Proofs.Ytomennaekjklbaa
