/- Routes: the program's find, has, and what is checked of one; by-name template (gen_lrte.py). -/
import Derived.Test.YtmnnjkdmnfadhaaGreatDoorLEql
import Derived.Test.YtmnnjkdmnfadhaaGreatDoorLIfc
import Derived.Test.YtmnnjkdmnfadhaaGreatDoorLObj
import Derived.Test.YtmnnjkdmnfadhaaGreatDoorAPre
namespace Go.Proofs.YtmnnjkdmnfadhaaGreatDoor
open Go.Shelf Go.RowKit Go.Lib Go.Sort
set_option linter.unusedVariables false
set_option linter.unusedSimpArgs false

theorem cells6 {w : World} {B : Nat} {x0 x1 x2 x3 x4 x5 : Value} {t : TypeId} (h : w.heap[B]? = some (.cells #[x0, x1, x2, x3, x4, x5] t (0, 0))) : w.cell? ⟨B, 0, none⟩ = some x0 ∧ w.cell? ⟨B, 1, none⟩ = some x1 ∧ w.cell? ⟨B, 2, none⟩ = some x2 ∧ w.cell? ⟨B, 3, none⟩ = some x3 ∧ w.cell? ⟨B, 4, none⟩ = some x4 ∧ w.cell? ⟨B, 5, none⟩ = some x5 ∧ w.frozen? ⟨B, 0, none⟩ = false ∧ w.frozen? ⟨B, 1, none⟩ = false ∧ w.frozen? ⟨B, 2, none⟩ = false ∧ w.frozen? ⟨B, 3, none⟩ = false ∧ w.frozen? ⟨B, 4, none⟩ = false ∧ w.frozen? ⟨B, 5, none⟩ = false := by
  refine ⟨?_, ?_, ?_, ?_, ?_, ?_, ?_, ?_, ?_, ?_, ?_, ?_⟩ <;> simp [World.cell?, World.frozen?, h]
theorem heap_set6 {w : World} {B : Nat} {x0 x1 x2 x3 x4 x5 : Value} {t : TypeId} {fz : Nat × Nat} (h : w.heap[B]? = some (.cells #[x0, x1, x2, x3, x4, x5] t fz)) (y0 y1 y2 y3 y4 y5 : Value) :
    ((((((((((((w).setCell ⟨B, 0, none⟩ (y0))).setCell ⟨B, 1, none⟩ (y1))).setCell ⟨B, 2, none⟩ (y2))).setCell ⟨B, 3, none⟩ (y3))).setCell ⟨B, 4, none⟩ (y4))).setCell ⟨B, 5, none⟩ (y5)).heap[B]? = some (.cells #[y0, y1, y2, y3, y4, y5] t fz) := by
  simp [World.setCell, Array.getElem?_modify, h]
theorem rte_to (x : TR) {W : World} : Calls Tryz.prog 64 #[.agg (trc x).toArray] W fun e w' => e = .returned (.agg #[.int .u64 x.r.fh, .int .u64 x.r.fl, .int .u64 x.r.th, .int .u64 x.r.tl]) ∧ Below W.heap.size W w' := by
  obtain ⟨⟨fh, fl, th, tl⟩, bi, fc⟩ := x
  simp only [trc]
  go_enter Tryz.func64, Tryz.ntmps64
  go_wp2
  exact bodyPost_ret (v := .agg #[.int .u64 fh, .int .u64 fl, .int .u64 th, .int .u64 tl]) (by simp [results, Tryz.results64, go_sem, World.cell?_alloc_past]) rfl ⟨rfl, by repeat (first | exact Below.refl _ _ | apply Below.al)⟩
theorem find1_rte (key : R4) (B1 B2 : Nat) (x : TR) {W : World} (h1 : W.cell? ⟨B1, 0, none⟩ = some (.func (.func 64) #[] #[])) (h2 : W.cell? ⟨B2, 0, none⟩ = some (.int .u64 key.fh) ∧ W.cell? ⟨B2, 1, none⟩ = some (.int .u64 key.fl) ∧ W.cell? ⟨B2, 2, none⟩ = some (.int .u64 key.th) ∧ W.cell? ⟨B2, 3, none⟩ = some (.int .u64 key.tl)) :
    Calls Tryz.prog 151 #[.agg (trc x).toArray, .pointer (some ⟨B1, 0, none⟩), .pointer (some ⟨B2, 0, none⟩)] W fun e w' => e = .returned (.bool (eqR x.r key)) ∧ Below W.heap.size W w' := by
  have cn := fun (W : World) => rte_to x (W := W)
  have ev := fun W : World => eql_rng x.r key W
  obtain ⟨⟨fh, fl, th, tl⟩, bi, fc⟩ := x
  obtain ⟨kfh, kfl, kth, ktl⟩ := key
  simp only [trc] at *
  generalize eqR ⟨fh, fl, th, tl⟩ ⟨kfh, kfl, kth, ktl⟩ = R at *
  go_enter Tryz.func151, Tryz.ntmps151
  go_wp2
  generalize hW1 : W.alloc (.cells #[.int .u64 fh, .int .u64 fl, .int .u64 th, .int .u64 tl, .int .i64 bi, .int .i64 fc] 109) = W1
  have b1 : Below W.heap.size W W1 := by rw [← hW1]; exact Below.al (Below.refl _ _) _
  have g1 := cell_regrown (keepc b1 h1)
  have g2 := cell_regrown (keepc b1 h2.1)
  have g3 := cell_regrown (keepc b1 h2.2.1)
  have g4 := cell_regrown (keepc b1 h2.2.2.1)
  have g5 := cell_regrown (keepc b1 h2.2.2.2)
  have q0 := cell_regrown (show W1.cell? ⟨W.heap.size, 0, none⟩ = some (.int .u64 fh) by rw [← hW1]; simp [go_sem])
  have q1 := cell_regrown (show W1.cell? ⟨W.heap.size, 1, none⟩ = some (.int .u64 fl) by rw [← hW1]; simp [go_sem])
  have q2 := cell_regrown (show W1.cell? ⟨W.heap.size, 2, none⟩ = some (.int .u64 th) by rw [← hW1]; simp [go_sem])
  have q3 := cell_regrown (show W1.cell? ⟨W.heap.size, 3, none⟩ = some (.int .u64 tl) by rw [← hW1]; simp [go_sem])
  have q4 := cell_regrown (show W1.cell? ⟨W.heap.size, 4, none⟩ = some (.int .i64 bi) by rw [← hW1]; simp [go_sem])
  have q5 := cell_regrown (show W1.cell? ⟨W.heap.size, 5, none⟩ = some (.int .i64 fc) by rw [← hW1]; simp [go_sem])
  have qc := fun d os => Calls.regrown_of (cn (grow (redrawn W1 d) os))
  clear hW1 cn h1 h2
  refine wp_region_quiet_below (by kernel_rfl) (by kernel_rfl) ?_
  repeat (first | go_big_quiet_skip | quiet_step (first | (go_at_call 64; with_reducible exact qc _ _)))
  refine wpQuiet_nil ?_
  intro _ hw'
  obtain ⟨⟨dq, osq⟩, hw''⟩ := hw'
  subst hw''
  have hbz := bel_via b1 (below_regrown W1 dq osq)
  go_wp2
  go_ret
  exact ⟨rfl, hbz⟩
theorem eFind1_rte : ∀ args w, (callFunc 151 args).run Tryz.prog w = .ok (.enter 151 args) w := enters_of Tryz.func151 (by kernel_rfl) rfl
def fnd_rte (key : R4) (l : List TR) : TR := (l.find? fun x => eqR x.r key).getD default
set_option maxHeartbeats 4000000 in
theorem find_rte (key : R4) (A : Option Addr) (n c : Nat) (l : List TR) {w : World} (hS : Sl w 6 trc A n l) :
    Calls Tryz.prog 116 #[.slice A n c, .func (.func 64) #[] #[], .agg (r4c key).toArray] w fun e w' => e = .returned (.tuple #[.agg (trc (fnd_rte key l)).toArray, .bool (l.any fun x => eqR x.r key)]) ∧ Below w.heap.size w w' := by
  have HS := Lib.hid hS
  clear hS
  obtain ⟨V, hV⟩ : ∃ V, V = Value.tuple #[.agg (trc (fnd_rte key l)).toArray, .bool (l.any fun x => eqR x.r key)] := ⟨_, rfl⟩
  rw [← hV]
  have HV := Lib.hid hV
  clear hV
  simp only [r4c]
  go_enter Tryz.func116, Tryz.ntmps116
  go_wp2_with fail
  refine calls_gen fun W hW => ?_
  have hb : Below w.heap.size w W := by rw [hW]; repeat (first | exact Below.refl _ _ | apply Below.dr | apply Below.al)
  have hF : W.cell? ⟨w.heap.size, 0, none⟩ = some (.func (.func 64) #[] #[]) := by rw [hW]; simp [go_sem, World.cell?_alloc_past]
  have hK : W.cell? ⟨w.heap.size + 1, 0, none⟩ = some (.int .u64 key.fh) ∧ W.cell? ⟨w.heap.size + 1, 1, none⟩ = some (.int .u64 key.fl) ∧ W.cell? ⟨w.heap.size + 1, 2, none⟩ = some (.int .u64 key.th) ∧ W.cell? ⟨w.heap.size + 1, 3, none⟩ = some (.int .u64 key.tl) := by rw [hW]; simp [go_sem, World.cell?_alloc_past]
  have hR : W.heap[w.heap.size + 1 + 1]? = some (.cells #[.int .u64 0, .int .u64 0, .int .u64 0, .int .u64 0, .int .i64 0, .int .i64 0] 109 (0, 0)) := by rw [hW]; exact al_new (by simp) _
  have hS := HS.out.keep hb
  have cc := idx_rows Tryz.li_rte Tryz.isAgg109 Tryz.sizeOf109 trc (fun _ => rfl) (fun x => eqR x.r key) 151 #[.pointer (some ⟨w.heap.size, 0, none⟩), .pointer (some ⟨w.heap.size + 1, 0, none⟩)] eFind1_rte A n c l W
    (fun W' x hx hW' => find1_rte key _ _ x (keepc hW' hF) ⟨keepc hW' hK.1, keepc hW' hK.2.1, keepc hW' hK.2.2.1, keepc hW' hK.2.2.2⟩) hS
  change Calls Tryz.prog 150 _ _ _ at cc
  clear hW HS
  rcases pl_cases (fun x : TR => eqR x.r key) l with ⟨hm, hf⟩ | ⟨j, x, hj, hp, hs, hf⟩
  · have hfi := find_miss hf
    have hv : fnd_rte key l = default := by unfold fnd_rte; rw [hfi]; rfl
    have ha := any_none hfi
    have HZ : Hid (V = Value.tuple #[.agg #[.int .u64 0, .int .u64 0, .int .u64 0, .int .u64 0, .int .i64 0, .int .i64 0], .bool false]) := Lib.hid (by rw [HV.out, hv, ha]; rfl)
    rw [hm] at cc
    clear hf hm hfi hv ha hS HV hK
    refine cc.mono ?_
    rintro e w1 ⟨rfl, hb'⟩
    have hR1 : w1.heap[w.heap.size + 1 + 1]? = _ := (hb'.block _ (Array.getElem?_eq_some_iff.1 hR).1).trans hR
    have hb1 := bel_via hb hb'
    obtain ⟨r0, r1, r2, r3, r4, r5, z0, z1, z2, z3, z4, z5⟩ := cells6 hR1
    have hlt : w.heap.size + 1 + 1 < w1.heap.size := World.block_lt_of_cell? _ _ r0
    clear cc hF hR hb hb'
    go_wp2
    have hR2 := heap_set6 hR1 (.int .u64 0) (.int .u64 0) (.int .u64 0) (.int .u64 0) (.int .i64 0) (.int .i64 0)
    have hb2 := below_set (below_set (below_set (below_set (below_set (below_set (hb1) (B := w.heap.size + 1 + 1) (by omega) 0 (.int .u64 0)) (B := w.heap.size + 1 + 1) (by omega) 1 (.int .u64 0)) (B := w.heap.size + 1 + 1) (by omega) 2 (.int .u64 0)) (B := w.heap.size + 1 + 1) (by omega) 3 (.int .u64 0)) (B := w.heap.size + 1 + 1) (by omega) 4 (.int .i64 0)) (B := w.heap.size + 1 + 1) (by omega) 5 (.int .i64 0)
    generalize ((((((((((((w1).setCell ⟨w.heap.size + 1 + 1, 0, none⟩ (.int .u64 0))).setCell ⟨w.heap.size + 1 + 1, 1, none⟩ (.int .u64 0))).setCell ⟨w.heap.size + 1 + 1, 2, none⟩ (.int .u64 0))).setCell ⟨w.heap.size + 1 + 1, 3, none⟩ (.int .u64 0))).setCell ⟨w.heap.size + 1 + 1, 4, none⟩ (.int .i64 0))).setCell ⟨w.heap.size + 1 + 1, 5, none⟩ (.int .i64 0)) = wf at *
    obtain ⟨f0, f1, f2, f3, f4, f5, _, _, _, _, _, _⟩ := cells6 hR2
    have hlf : w.heap.size + 1 + 1 < wf.heap.size := (Array.getElem?_eq_some_iff.1 hR2).1
    have g0 := fun o => keepc (Below.al (Below.refl _ wf) o) f0
    have g1 := fun o => keepc (Below.al (Below.refl _ wf) o) f1
    have g2 := fun o => keepc (Below.al (Below.refl _ wf) o) f2
    have g3 := fun o => keepc (Below.al (Below.refl _ wf) o) f3
    have g4 := fun o => keepc (Below.al (Below.refl _ wf) o) f4
    have g5 := fun o => keepc (Below.al (Below.refl _ wf) o) f5
    exact bodyPost_ret (v := .tuple #[.agg #[.int .u64 0, .int .u64 0, .int .u64 0, .int .u64 0, .int .i64 0, .int .i64 0], .bool false]) (by simp [results, Tryz.results116, go_sem, g0, g1, g2, g3, g4, g5]) rfl ⟨by rw [HZ.out], Below.al hb2 _⟩
  · have hfi := find_hit hj hs hf
    have hv : fnd_rte key l = x := by unfold fnd_rte; rw [hfi]; rfl
    have ha := any_some hfi
    have HZ0 : Hid (V = Value.tuple #[.agg (trc x).toArray, .bool true]) := Lib.hid (by rw [HV.out, hv, ha])
    rw [hp] at cc
    have hjn : j < n := by have := getE hj; have := hS.len; omega
    obtain ⟨b, off, hA, hlt0, hrow⟩ := hS.row (by omega)
    have hbig := hS.big
    subst hA
    refine cc.mono ?_
    rintro e w1 ⟨rfl, hb3⟩
    have hR1 : w1.heap[w.heap.size + 1 + 1]? = _ := (hb3.block _ (Array.getElem?_eq_some_iff.1 hR).1).trans hR
    have hb1 := bel_via hb hb3
    have r0 : w1.cell? ⟨b, off + j * 6, none⟩ = some (.int .u64 x.r.fh) := keepc hb3 (hrow j x hj 0 _ rfl)
    have r1 := keepc hb3 (hrow j x hj 1 _ rfl)
    have r2 := keepc hb3 (hrow j x hj 2 _ rfl)
    have r3 := keepc hb3 (hrow j x hj 3 _ rfl)
    have r4 := keepc hb3 (hrow j x hj 4 _ rfl)
    have r5 := keepc hb3 (hrow j x hj 5 _ rfl)
    obtain ⟨⟨fh, fl, th, tl⟩, bi, fc⟩ := x
    have HZ : Hid (V = Value.tuple #[.agg #[.int .u64 fh, .int .u64 fl, .int .u64 th, .int .u64 tl, .int .i64 bi, .int .i64 fc], .bool true]) := HZ0
    clear HZ0 HV
    obtain ⟨s0, s1, s2, s3, s4, s5, z0, z1, z2, z3, z4, z5⟩ := cells6 hR1
    have hlt : w.heap.size + 1 + 1 < w1.heap.size := World.block_lt_of_cell? _ _ s0
    have hltb : b < w1.heap.size := Nat.lt_of_lt_of_le hlt0 hb3.size
    clear cc hF hK hR hb hb3 hrow hS hf hs hp hj hfi hv ha hlt0
    go_wp2
    have hR2 := heap_set6 hR1 (.int .u64 fh) (.int .u64 fl) (.int .u64 th) (.int .u64 tl) (.int .i64 bi) (.int .i64 fc)
    have hb2 := below_set (below_set (below_set (below_set (below_set (below_set (hb1) (B := w.heap.size + 1 + 1) (by omega) 0 (.int .u64 fh)) (B := w.heap.size + 1 + 1) (by omega) 1 (.int .u64 fl)) (B := w.heap.size + 1 + 1) (by omega) 2 (.int .u64 th)) (B := w.heap.size + 1 + 1) (by omega) 3 (.int .u64 tl)) (B := w.heap.size + 1 + 1) (by omega) 4 (.int .i64 bi)) (B := w.heap.size + 1 + 1) (by omega) 5 (.int .i64 fc)
    generalize ((((((((((((w1).setCell ⟨w.heap.size + 1 + 1, 0, none⟩ (.int .u64 fh))).setCell ⟨w.heap.size + 1 + 1, 1, none⟩ (.int .u64 fl))).setCell ⟨w.heap.size + 1 + 1, 2, none⟩ (.int .u64 th))).setCell ⟨w.heap.size + 1 + 1, 3, none⟩ (.int .u64 tl))).setCell ⟨w.heap.size + 1 + 1, 4, none⟩ (.int .i64 bi))).setCell ⟨w.heap.size + 1 + 1, 5, none⟩ (.int .i64 fc)) = wf at *
    obtain ⟨f0, f1, f2, f3, f4, f5, _, _, _, _, _, _⟩ := cells6 hR2
    exact bodyPost_ret (v := .tuple #[.agg #[.int .u64 fh, .int .u64 fl, .int .u64 th, .int .u64 tl, .int .i64 bi, .int .i64 fc], .bool true]) (by simp [results, Tryz.results116, go_sem, f0, f1, f2, f3, f4, f5]) rfl ⟨by rw [HZ.out], hb2⟩
set_option maxHeartbeats 1000000 in
theorem has_rte (key : R4) (A : Option Addr) (n c : Nat) (l : List TR) {w : World} (hS : Sl w 6 trc A n l) :
    Calls Tryz.prog 63 #[.slice A n c, .func (.func 64) #[] #[], .agg (r4c key).toArray] w fun e w' => e = .returned (.bool (l.any fun x => eqR x.r key)) ∧ Below w.heap.size w w' := by
  have b1 : Below w.heap.size w (w.alloc (.cells (r4c key).toArray 45)) := Below.al (Below.refl _ _) _
  have cc := find_rte key A n c l (hS.keep b1)
  generalize fnd_rte key l = x at cc
  generalize (l.any fun x => eqR x.r key) = r at *
  obtain ⟨⟨fh, fl, th, tl⟩, bi, fc⟩ := x
  obtain ⟨kfh, kfl, kth, ktl⟩ := key
  simp only [trc, r4c] at *
  clear hS
  go_enter Tryz.func63, Tryz.ntmps63
  go_wp2_with (go_at_call 116; go_loud (with_reducible refine cc.mono ?_); rintro e w' ⟨rfl, hb'⟩)
  go_ret
  exact ⟨rfl, Below.al (bel_via b1 hb') _⟩
/-- What is wrong with a route. -/
def preR (x : TR) : Bool := match preV x.r.fh x.r.fl x.bits with
  | none => false
  | some y => eqR ⟨x.r.fh, x.r.fl, y.1, y.2⟩ x.r
def rteChk (c : CF) (x : TR) (l : List TR) : Int := if preR x = true then (if hasIf c.zs x.ifc = true then (if (l.any fun y => eqR y.r x.r) = true then 63 else 0) else 61) else 31
def SW (n : Int) : Prop := -9223372036854775808 ≤ n ∧ n < 9223372036854775808
set_option maxHeartbeats 4000000 in
theorem rte1_any (c : CF) (B : Nat) (x : TR) (A : Option Addr) (j cp : Nat) (l : List TR) {W : World} (hB : CfB W B c) (hz : Sl W 4 zrc c.zA c.zn c.zs) (hzi : ∀ z ∈ c.zs, Sl W 1 (fun x : Int => [Value.int .i64 x]) z.ia z.il z.ifs) (hl : Sl W 6 trc A j l) (hx : RW x.r) (hb : SW x.bits) :
    Calls Tryz.prog 61 #[.agg (trc x).toArray, .slice A j cp, .pointer (some ⟨B, 0, none⟩)] W fun e w' => e = .returned (.int .i64 (rteChk c x l)) ∧ Below W.heap.size W w' := by
  obtain ⟨w0, hw0⟩ : ∃ w0, w0 = W.alloc (.cells (trc x).toArray 109) := ⟨_, rfl⟩
  have b0 : Below W.heap.size W w0 := by rw [hw0]; exact Below.al (Below.refl _ _) _
  have cp1 := fun (w : World) => pre_any x.r.fh x.r.fl x.bits hx.1 hx.2.1 hb.1 hb.2 w
  have ch := fun (w : World) (h : Below W.heap.size W w) => haveif_any x.ifc c.zA c.zn c.zc c.zs (hz.keep h) (fun z h2 => (hzi z h2).keep h)
  have cr := fun (w : World) (h : Below W.heap.size W w) => has_rte x.r A j cp l (hl.keep h)
  have c0 := hB.c0
  have c0' := keepc b0 c0
  unfold rteChk preR preT at *
  generalize hasIf c.zs x.ifc = H at *
  generalize (l.any fun y => eqR y.r x.r) = K at *
  have nr : ∀ (y : Int × Int) (w : World), _ := fun y w => neq_rng ⟨x.r.fh, x.r.fl, y.1, y.2⟩ x.r w
  generalize preV x.r.fh x.r.fl x.bits = P at *
  clear hB hz hzi hl hx hb
  obtain ⟨⟨fh, fl, th, tl⟩, bi, fc⟩ := x
  simp only [trc, r4c] at *
  have q0 : w0.cell? ⟨W.heap.size, 0, none⟩ = some (.int .u64 fh) := by rw [hw0]; simp [go_sem]
  have q1 : w0.cell? ⟨W.heap.size, 1, none⟩ = some (.int .u64 fl) := by rw [hw0]; simp [go_sem]
  have q2 : w0.cell? ⟨W.heap.size, 2, none⟩ = some (.int .u64 th) := by rw [hw0]; simp [go_sem]
  have q3 : w0.cell? ⟨W.heap.size, 3, none⟩ = some (.int .u64 tl) := by rw [hw0]; simp [go_sem]
  have q4 : w0.cell? ⟨W.heap.size, 4, none⟩ = some (.int .i64 bi) := by rw [hw0]; simp [go_sem]
  have q5 : w0.cell? ⟨W.heap.size, 5, none⟩ = some (.int .i64 fc) := by rw [hw0]; simp [go_sem]
  cases P with
  | none =>
    go_enter Tryz.func61, Tryz.ntmps61
    go_upto_region 1 with fail
    rw [← hw0]
    clear hw0
    go_wp2_with (go_at_call 62; go_loud (with_reducible refine (cp1 _).mono ?_); rintro e w1 ⟨rfl, hb1⟩)
    go_ret
    exact ⟨by simp, Below.al (bel_via b0 hb1) _⟩
  | some y =>
    obtain ⟨y1, y2⟩ := y
    have nv := fun w => nr (y1, y2) w
    simp only at nv cp1 ⊢
    clear nr
    rcases Bool.eq_false_or_eq_true (eqR ⟨fh, fl, y1, y2⟩ ⟨fh, fl, th, tl⟩) with hE | hE <;> simp only [hE] at nv ⊢ <;> clear hE <;> cases H <;> cases K <;>
    ( go_enter Tryz.func61, Tryz.ntmps61
      go_upto_region 1 with fail
      rw [← hw0]
      clear hw0
      go_upto_region 2 with (go_at_call 62; go_loud (with_reducible refine (cp1 _).mono ?_); rintro e w1 ⟨rfl, hb1⟩; replace c0' := keepc hb1 c0'; replace q0 := keepc hb1 q0; replace q1 := keepc hb1 q1; replace q2 := keepc hb1 q2; replace q3 := keepc hb1 q3; replace q4 := keepc hb1 q4; replace q5 := keepc hb1 q5)
      have hb2 : Below W.heap.size W (w1.alloc (.cells #[.int .u64 fh, .int .u64 fl, .int .u64 y1, .int .u64 y2] 45)) := bel_via (bel_via b0 hb1) (Below.al (Below.refl _ _) _)
      have ba := Below.al (Below.refl w1.heap.size w1) (.cells #[.int .u64 fh, .int .u64 fl, .int .u64 y1, .int .u64 y2] 45)
      have hY := heap_alloc_new w1 (.cells #[.int .u64 fh, .int .u64 fl, .int .u64 y1, .int .u64 y2] 45)
      replace c0' := keepc ba c0'; replace q0 := keepc ba q0; replace q1 := keepc ba q1; replace q2 := keepc ba q2; replace q3 := keepc ba q3; replace q4 := keepc ba q4; replace q5 := keepc ba q5
      obtain ⟨w2, hw2⟩ : ∃ w2, w2 = w1.alloc (.cells #[.int .u64 fh, .int .u64 fl, .int .u64 y1, .int .u64 y2] 45) := ⟨_, rfl⟩
      rw [← hw2] at hb2 hY c0' q0 q1 q2 q3 q4 q5 ⊢
      clear hw2 ba
      obtain ⟨z0, z1, z2, z3, _⟩ := cells4 hY
      go_wp2_with (first | (go_at_call 46; go_loud (with_reducible refine (ch _ hb2).mono ?_); rintro e w3 ⟨rfl, hb3⟩; replace q0 := keepc hb3 q0; replace q1 := keepc hb3 q1; replace q2 := keepc hb3 q2; replace q3 := keepc hb3 q3; have hb4 := bel_via hb2 hb3) | (go_at_call 63; go_loud (with_reducible refine (cr _ hb4).mono ?_); rintro e w5 ⟨rfl, hb5⟩))
      go_ret
      first | exact ⟨by simp, bel_via hb4 hb5⟩ | exact ⟨by simp, hb4⟩ | exact ⟨by simp, hb2⟩)
theorem eRte1 : ∀ args w, (callFunc 61 args).run Tryz.prog w = .ok (.enter 61 args) w := enters_of Tryz.func61 (by kernel_rfl) rfl
end Go.Proofs.YtmnnjkdmnfadhaaGreatDoor
