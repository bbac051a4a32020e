/- The law's bound on a configuration: it ends, whatever it says; by-name template (gen_lhv2.py). -/
import Derived.Test.YtmnnjkdmnfadhaaGreatDoorLCheck
import Derived.WalkLawsBesides
import Derived.BigRegion
import Derived.BigQuiet
import Derived.Test.YtmnnjkdmnfadhaaGreatDoorZC
import Derived.Lib.QuietBelow
import Derived.Deep.QuietTactic
import Derived.Deep.WholeRow
namespace Go.Proofs.YtmnnjkdmnfadhaaGreatDoor
open Go.Shelf Go.RowKit Go.Lib Go.Sort
set_option linter.unusedVariables false
set_option linter.unusedSimpArgs false

def HeavyPost (w : World) (e : Ending) (w' : World) : Prop := ∃ b : Bool, e = .returned (.bool b) ∧ Below w.heap.size w w'

set_option maxHeartbeats 8000000 in
set_option maxRecDepth 100000 in
theorem heavy_any (c : CF) {w : World} (hc : c.Ok w) :
    Calls Tryz.prog 5 #[.agg (cfc c)] w (HeavyPost w) := by
  obtain ⟨w0, hw0⟩ : ∃ w0, w0 = w.alloc (.cells (cfc c) 30) := ⟨_, rfl⟩
  have hb0 : Below w.heap.size w w0 := by rw [hw0]; exact Below.al (Below.refl _ _) _
  have hB : CfB w0 w.heap.size c := by rw [hw0]; exact CfB.made w c
  have hok := hc.keep hb0
  have hbig : c.zn ≤ 9223372036854775807 ∧ c.on ≤ 9223372036854775807 ∧ c.sn ≤ 9223372036854775807 ∧ c.ln ≤ 9223372036854775807 ∧ c.nn ≤ 9223372036854775807 ∧ c.un ≤ 9223372036854775807 := ⟨hc.z.big, hc.o.big, hc.s.big, hc.l.big, hc.n.big, hc.u.big⟩
  obtain ⟨gz, go, gs, gl, gn, gu⟩ := hbig
  have HB := Lib.hid hB
  have HO := Lib.hid hok
  have HLz := Lib.hid hc.z.len
  have HLo := Lib.hid hc.o.len
  have HLs := Lib.hid hc.s.len
  have HLl := Lib.hid hc.l.len
  have HLn := Lib.hid hc.n.len
  have HLu := Lib.hid hc.u.len
  clear hc hok
  obtain ⟨c0, c1, c2, c3, c4, c5, c6, c7⟩ := hB
  simp only [cfc] at *
  go_enter Tryz.func5, Tryz.ntmps5
  go_upto_region 1 with fail
  rw [← hw0]
  have HW0 := Lib.hid hw0
  clear hw0
  go_cut [3] from 11 to 38 (fun v wx => ∃ m : Int, v = .int .i64 m ∧ wx = w0)
  case first =>
    go_wp2_with fail
    go_meet
    exact ⟨_, rfl, rfl⟩
  case rest =>
  obtain ⟨m, rfl, rfl⟩ := hcut
  by_cases hm : 1024 < m
  · go_wp2_with fail
    go_ret
    exact ⟨true, rfl, hb0⟩
  clear c0 c1 c2 c3 c4 c5 c6 c7
  have y1 := HB.out.c0
  go_wp2_with fail
  clear y1
  go_loopw [3, 4] (fun vn vi wr => ∃ (m : Int) (k : Nat), k ≤ c.zn ∧ vn = .int .i64 m ∧ vi = .int .i64 (k : Int) ∧ Below wc.heap.size wc wr) (fun _ vi _ => c.zn - (intOf vi).toNat)
  case atStart => exact ⟨m, 0, by omega, rfl, rfl, Below.refl _ _⟩
  case round =>
  obtain ⟨m1, k1, hk1, rfl, rfl, hbr1⟩ := hrel
  obtain ⟨w1, hwx⟩ : ∃ wx, wx = wr := ⟨_, rfl⟩
  subst hwx
  by_cases hlt : k1 < c.zn
  · have hlti : (k1 : Int) < (c.zn : Int) := by omega
    have x0 := (HB.out.keep hbr1).c0
    obtain ⟨b, off, hA, hblt, hrow⟩ := ((HO.out.keep hbr1).z).row (by omega)
    obtain ⟨z, hz⟩ : ∃ z, c.zs[k1]? = some z := ⟨_, List.getElem?_eq_getElem (by rw [HLz.out]; omega)⟩
    have r0 := hrow k1 z hz 0 _ rfl
    rw [Nat.add_zero] at r0
    have r3 := hrow k1 z hz 3 _ rfl
    rw [hA] at x0
    clear hz hrow hA
    go_wp2_with fail
    go_quiet (fail)
    go_wp2_with fail
    go_roundw
    case rel => exact ⟨_, k1 + 1, by omega, rfl, by go_num, by first | exact hbr1 | exact hbr1.drew | exact ⟨hbr1.os, hbr1.tape, hbr1.output, hbr1.size, hbr1.block⟩⟩
    case measure => simp [intOf]; omega
  have hke : k1 = c.zn := by omega
  have y0 := (HB.out.keep hbr1).c0
  have y1 := (HB.out.keep hbr1).c1
  clear hlt
  subst hke
  go_wp2_with fail
  clear y0 y1
  go_loopw [3, 5] (fun vn vi wr => ∃ (m : Int) (k : Nat), k ≤ c.on ∧ vn = .int .i64 m ∧ vi = .int .i64 (k : Int) ∧ Below wc.heap.size wc wr) (fun _ vi _ => c.on - (intOf vi).toNat)
  case atStart => exact ⟨_, 0, by omega, rfl, rfl, hbr1⟩
  case round =>
  obtain ⟨m2, k2, hk2, rfl, rfl, hbr2⟩ := hrel
  obtain ⟨w2, hwx⟩ : ∃ wx, wx = wr := ⟨_, rfl⟩
  subst hwx
  by_cases hlt : k2 < c.on
  · have hlti : (k2 : Int) < (c.on : Int) := by omega
    have x0 := (HB.out.keep hbr2).c1
    obtain ⟨b, off, hA, hblt, hrow⟩ := ((HO.out.keep hbr2).o).row (by omega)
    obtain ⟨z, hz⟩ : ∃ z, c.os[k2]? = some z := ⟨_, List.getElem?_eq_getElem (by rw [HLo.out]; omega)⟩
    have r0 := hrow k2 z hz 0 _ rfl
    rw [Nat.add_zero] at r0
    have r1 := hrow k2 z hz 1 _ rfl
    rw [hA] at x0
    clear hz hrow hA
    go_wp2_with fail
    go_quiet (fail)
    go_wp2_with fail
    go_roundw
    case rel => exact ⟨_, k2 + 1, by omega, rfl, by go_num, by first | exact hbr2 | exact hbr2.drew | exact ⟨hbr2.os, hbr2.tape, hbr2.output, hbr2.size, hbr2.block⟩⟩
    case measure => simp [intOf]; omega
  have hke : k2 = c.on := by omega
  have y0 := (HB.out.keep hbr2).c1
  have y1 := (HB.out.keep hbr2).c2
  clear hlt
  subst hke
  go_wp2_with fail
  clear y0 y1
  go_loopw [3, 6] (fun vn vi wr => ∃ (m : Int) (k : Nat), k ≤ c.sn ∧ vn = .int .i64 m ∧ vi = .int .i64 (k : Int) ∧ Below wc.heap.size wc wr) (fun _ vi _ => c.sn - (intOf vi).toNat)
  case atStart => exact ⟨_, 0, by omega, rfl, rfl, hbr2⟩
  case round =>
  obtain ⟨m3, k3, hk3, rfl, rfl, hbr3⟩ := hrel
  obtain ⟨w3, hwx⟩ : ∃ wx, wx = wr := ⟨_, rfl⟩
  subst hwx
  by_cases hlt : k3 < c.sn
  · have hlti : (k3 : Int) < (c.sn : Int) := by omega
    have x0 := (HB.out.keep hbr3).c2
    obtain ⟨b, off, hA, hblt, hrow⟩ := ((HO.out.keep hbr3).s).row (by omega)
    obtain ⟨z, hz⟩ : ∃ z, c.ss[k3]? = some z := ⟨_, List.getElem?_eq_getElem (by rw [HLs.out]; omega)⟩
    have r0 := hrow k3 z hz 0 _ rfl
    rw [Nat.add_zero] at r0
    rw [hA] at x0
    clear hz hrow hA
    go_wp2_with fail
    go_roundw
    case rel => exact ⟨_, k3 + 1, by omega, rfl, by go_num, by first | exact hbr3 | exact Below.al hbr3 _⟩
    case measure => simp [intOf]; omega
  have hke : k3 = c.sn := by omega
  have y0 := (HB.out.keep hbr3).c2
  have y1 := (HB.out.keep hbr3).c3
  clear hlt
  subst hke
  go_wp2_with fail
  clear y0 y1
  go_loopw [3, 7] (fun vn vi wr => ∃ (m : Int) (k : Nat), k ≤ c.ln ∧ vn = .int .i64 m ∧ vi = .int .i64 (k : Int) ∧ Below wc.heap.size wc wr) (fun _ vi _ => c.ln - (intOf vi).toNat)
  case atStart => exact ⟨_, 0, by omega, rfl, rfl, hbr3⟩
  case round =>
  obtain ⟨m4, k4, hk4, rfl, rfl, hbr4⟩ := hrel
  obtain ⟨w4, hwx⟩ : ∃ wx, wx = wr := ⟨_, rfl⟩
  subst hwx
  by_cases hlt : k4 < c.ln
  · have hlti : (k4 : Int) < (c.ln : Int) := by omega
    have x0 := (HB.out.keep hbr4).c3
    obtain ⟨b, off, hA, hblt, hrow⟩ := ((HO.out.keep hbr4).l).row (by omega)
    obtain ⟨z, hz⟩ : ∃ z, c.ls[k4]? = some z := ⟨_, List.getElem?_eq_getElem (by rw [HLl.out]; omega)⟩
    have r0 := hrow k4 z hz 0 _ rfl
    rw [Nat.add_zero] at r0
    rw [hA] at x0
    clear hz hrow hA
    go_wp2_with fail
    go_roundw
    case rel => exact ⟨_, k4 + 1, by omega, rfl, by go_num, by first | exact hbr4 | exact Below.al hbr4 _⟩
    case measure => simp [intOf]; omega
  have hke : k4 = c.ln := by omega
  have y0 := (HB.out.keep hbr4).c3
  have y1 := (HB.out.keep hbr4).c5
  clear hlt
  subst hke
  go_wp2_with fail
  clear y0 y1
  go_loopw [3, 8] (fun vn vi wr => ∃ (m : Int) (k : Nat), k ≤ c.nn ∧ vn = .int .i64 m ∧ vi = .int .i64 (k : Int) ∧ Below wc.heap.size wc wr) (fun _ vi _ => c.nn - (intOf vi).toNat)
  case atStart => exact ⟨_, 0, by omega, rfl, rfl, hbr4⟩
  case round =>
  obtain ⟨m5, k5, hk5, rfl, rfl, hbr5⟩ := hrel
  obtain ⟨w5, hwx⟩ : ∃ wx, wx = wr := ⟨_, rfl⟩
  subst hwx
  by_cases hlt : k5 < c.nn
  · have hlti : (k5 : Int) < (c.nn : Int) := by omega
    have x0 := (HB.out.keep hbr5).c5
    obtain ⟨b, off, hA, hblt, hrow⟩ := ((HO.out.keep hbr5).n).row (by omega)
    obtain ⟨z, hz⟩ : ∃ z, c.ns[k5]? = some z := ⟨_, List.getElem?_eq_getElem (by rw [HLn.out]; omega)⟩
    have r1 := hrow k5 z hz 1 _ rfl
    have r2 := hrow k5 z hz 2 _ rfl
    have r3 := hrow k5 z hz 3 _ rfl
    rw [hA] at x0
    clear hz hrow hA
    go_wp2_with fail
    go_quiet (fail)
    go_wp2_with fail
    go_roundw
    case rel => exact ⟨_, k5 + 1, by omega, rfl, by go_num, by first | exact hbr5 | exact hbr5.drew | exact ⟨hbr5.os, hbr5.tape, hbr5.output, hbr5.size, hbr5.block⟩⟩
    case measure => simp [intOf]; omega
  have hke : k5 = c.nn := by omega
  have y0 := (HB.out.keep hbr5).c5
  have y1 := (HB.out.keep hbr5).c6
  clear hlt
  subst hke
  go_wp2_with fail
  clear y0 y1
  go_loopw [3, 9] (fun vn vi wr => ∃ (m : Int) (k : Nat), k ≤ c.un ∧ vn = .int .i64 m ∧ vi = .int .i64 (k : Int) ∧ Below wc.heap.size wc wr) (fun _ vi _ => c.un - (intOf vi).toNat)
  case atStart => exact ⟨_, 0, by omega, rfl, rfl, hbr5⟩
  case round =>
  obtain ⟨m6, k6, hk6, rfl, rfl, hbr6⟩ := hrel
  obtain ⟨w6, hwx⟩ : ∃ wx, wx = wr := ⟨_, rfl⟩
  subst hwx
  by_cases hlt : k6 < c.un
  · have hlti : (k6 : Int) < (c.un : Int) := by omega
    have x0 := (HB.out.keep hbr6).c6
    obtain ⟨b, off, hA, hblt, hrow⟩ := ((HO.out.keep hbr6).u).row (by omega)
    obtain ⟨z, hz⟩ : ∃ z, c.us[k6]? = some z := ⟨_, List.getElem?_eq_getElem (by rw [HLu.out]; omega)⟩
    have r0 := hrow k6 z hz 0 _ rfl
    rw [Nat.add_zero] at r0
    have r1 := hrow k6 z hz 1 _ rfl
    have r2 := hrow k6 z hz 2 _ rfl
    have r3 := hrow k6 z hz 3 _ rfl
    have r4 := hrow k6 z hz 4 _ rfl
    have r6 := hrow k6 z hz 6 _ rfl
    have r5 := hrow k6 z hz 5 _ rfl
    have r7 := hrow k6 z hz 7 _ rfl
    rw [hA] at x0
    clear hz hrow hA
    go_wp2_with fail
    go_roundw
    case rel => exact ⟨_, k6 + 1, by omega, rfl, by go_num, by first | exact hbr6 | exact Below.al hbr6 _⟩
    case measure => simp [intOf]; omega
  have hke : k6 = c.un := by omega
  have y0 := (HB.out.keep hbr6).c6
  clear hlt
  subst hke
  go_wp2_with fail
  clear y0
  go_ret
  exact ⟨_, rfl, hb0.trans (hbr6.mono hb0.size)⟩
end Go.Proofs.YtmnnjkdmnfadhaaGreatDoor

namespace Go.Proofs.YtmnnjkdmnfadhaaGreatDoor
open Go.Shelf Go.RowKit Go.Lib Go.Sort
set_option linter.unusedVariables false
set_option linter.unusedSimpArgs false

theorem quiet_load_row {P : Program} {ops : Array Oper} {C : World → Prop} {Q : Act → Prop} {a : Act} {o : Oper} {rest : List Oper} (hw : Region.wanted o (yielded ops a.tmps) = true) (ty : TypeId) (x : Operand) (ho : o.op = .load ty x)
    (g : Nat) (hx : a.eval x = .pointer (some ⟨g, 0, none⟩)) (t : TypeId) (cs : Array Value) (fr : Nat × Nat) (d : TypeDesc) (hg : ∀ w, C w → w.heap[g]? = some (.cells cs t fr))
    (hu : P.underlying ty = some d) (hd : (match d with | .struct _ | .array _ _ => true | _ => false) = true) (hi : (P.info? ty).map (·.size) = some cs.size)
    (h : wpQuiet P ops C Q rest (a.put o.dst (.agg cs))) : wpQuiet P ops C Q (o :: rest) a :=
  wpQuiet_step fun K hK => by
    rw [if_pos hw]
    refine ⟨.agg cs, fun w hC => ?_, hK _ h⟩
    unfold Oper.quietAt execOp
    simp only [ho, hx, Instr.loadAt, Instr.sureAddr, Sem.run_bind, Sem.run_pure, Result.andThen_ok, run_loadVar_row w g t ty cs fr d (hg w hC) hu hd hi]
    exact ⟨rfl, rfl⟩
theorem rg_heap {w1 : World} {g : Nat} {o : Obj} (h : w1.heap[g]? = some o) : ∀ w', (∃ p : Regrown, w' = grow (redrawn w1 p.d) p.os) → w'.heap[g]? = some o := fun w' ⟨p, hp⟩ => by
  rw [hp]; exact blkB2 (below_regrown w1 p.d p.os) h
theorem bel_rg {w0 w1 : World} (h : Below w0.heap.size w0 w1) (d : Nat) (os : Array Obj) : Below w0.heap.size w0 (grow (redrawn w1 d) os) := bel_via h (below_regrown w1 d os)

set_option maxHeartbeats 4000000 in
set_option maxRecDepth 100000 in
theorem lck_any (c : CF) {w : World} (hc : c.Ok w) (hg : c.Good) (hG : Glob w) :
    Calls Tryz.prog 3 #[.agg (cfc c)] w fun e w' => e = .returned (.bool true) ∧ Below w.heap.size w w' := by
  have kh : ∀ W, Below w.heap.size w W → Calls Tryz.prog 5 #[.agg (cfc c)] W (HeavyPost W) := fun W h => heavy_any c (hc.keep h)
  have kp : ∀ W, Below w.heap.size w W → Calls Tryz.prog 6 #[.agg (cfc c)] W fun e w' => e = .returned (.int .i64 (checkD c)) ∧ Below W.heap.size W w' := fun W h => pchk_any c (hc.keep h) hg (hG.on h)
  have kr : ∀ W, Below w.heap.size w W → Calls Tryz.prog 7 #[.agg (cfc c)] W fun e w' => e = .returned (.int .i64 (checkD c)) ∧ Below W.heap.size W w' := fun W h => rchk_any c (hc.keep h) hg
  generalize checkD c = R at *
  have iC : Hid ((Tryz.prog.info? 30).map (·.size) = some (cfc c).size) := Lib.hid (by rw [show (cfc c).size = 8 from rfl]; kernel_rfl)
  generalize cfc c = C at *
  clear hc hg hG
  go_enter Tryz.func3, Tryz.ntmps3
  go_wp2_with (refine wpList_load_row rfl 30 (.tmp 1) rfl w.heap.size rfl 30 C (0, 0) _ (heap_alloc_new w _) Tryz.underlying30 rfl iC.out ?_)
  have b0 : Below w.heap.size w (w.alloc (.cells C 30)) := Below.al (Below.refl _ _) _
  have hB := heap_alloc_new w (.cells C 30)
  generalize w.alloc (.cells C 30) = w0 at *
  refine (kh _ b0).mono ?_
  rintro e w1 ⟨b, rfl, hb1⟩
  have b1 := bel_via b0 hb1
  have hB1 := blkB2 hb1 hB
  cases b
  · go_wp2_with fail
    have q1 := fun d os => Calls.regrown_of (kp (grow (redrawn w1 d) os) (bel_rg b1 d os))
    have q2 := fun d os => Calls.regrown_of (kr (grow (redrawn w1 d) os) (bel_rg b1 d os))
    clear kh kp kr hb1 hB b0
    refine wp_region_quiet_below (by kernel_rfl) (by kernel_rfl) ?_
    repeat (first | go_big_quiet_skip | (refine quiet_load_row (by rfl) 30 (.tmp 1) rfl w.heap.size rfl 30 C (0, 0) _ (rg_heap hB1) Tryz.underlying30 rfl iC.out ?_; simp only [Act.put, List.setIfInBounds_toArray, List.set_cons_succ, List.set_cons_zero]) | quiet_step (first | (go_at_call 6; with_reducible exact q1 _ _) | (go_at_call 7; with_reducible exact q2 _ _)))
    refine wpQuiet_nil ?_
    intro _ hw'
    obtain ⟨⟨dq, osq⟩, hw''⟩ := hw'
    subst hw''
    have b2 := bel_rg b1 dq osq
    go_wp2_with fail
    go_ret
    exact ⟨rfl, b2⟩
  · go_wp2_with fail
    go_ret
    exact ⟨rfl, b1⟩
end Go.Proofs.YtmnnjkdmnfadhaaGreatDoor
