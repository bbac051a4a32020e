/- Whether a rule matches: the program's; by-name template (gen_rmatch.py). -/
import Derived.Test.YtplfmgcgniledaaRDest
namespace Go.Proofs.Ytplfmgcgniledaa
open Go.Shelf Go.RowKit Go.Lib Go.Sort
set_option linter.unusedVariables false
set_option linter.unusedSimpArgs false

/-- A rule's cells from o on. -/
structure UrB (W : World) (B : Nat) (o : Nat) (u : UR) : Prop where
  u0 : W.cell? ⟨B, o + 0, none⟩ = some (.string u.inz)
  u1 : W.cell? ⟨B, o + 1, none⟩ = some (.string u.out)
  u2 : W.cell? ⟨B, o + 2, none⟩ = some (.string u.src)
  u3 : W.cell? ⟨B, o + 3, none⟩ = some (.string u.dst)
  u4 : W.cell? ⟨B, o + 4, none⟩ = some (.string u.svc)
  u5 : W.cell? ⟨B, o + 5, none⟩ = some (.int .i64 u.act)
  u6 : W.cell? ⟨B, o + 6, none⟩ = some (.string u.lim)
  u7 : W.cell? ⟨B, o + 7, none⟩ = some (.bool u.proxy)
theorem UrB.keep {W W' : World} {B o : Nat} {u : UR} (h : UrB W B o u) (hb : Below W.heap.size W W') : UrB W' B o u :=
  ⟨keepc hb h.u0, keepc hb h.u1, keepc hb h.u2, keepc hb h.u3, keepc hb h.u4, keepc hb h.u5, keepc hb h.u6, keepc hb h.u7⟩
/-- A question's block. -/
structure QuB (W : World) (B : Nat) (c : CF) (u : UR) (hi ho : Int) (k : KR) : Prop where
  c : CfB W B c
  u : UrB W B 8 u
  i : W.cell? ⟨B, 16, none⟩ = some (.int .i64 hi)
  o : W.cell? ⟨B, 17, none⟩ = some (.int .i64 ho)
  k : KeB W B 18 k
theorem QuB.keep {W W' : World} {B : Nat} {c : CF} {u : UR} {hi ho : Int} {k : KR} (h : QuB W B c u hi ho k) (hb : Below W.heap.size W W') : QuB W' B c u hi ho k :=
  ⟨h.c.keep hb, h.u.keep hb, keepc hb h.i, keepc hb h.o, h.k.keep hb⟩

def zoneQ (c : CF) (nm : ByteArray) (x : Int) : Bool := isAny nm || namedP c x nm
def matchP (c : CF) (u : UR) (hi ho : Int) (k : KR) : Bool := zoneQ c u.inz hi && (zoneQ c u.out ho && (withinP c u.src k.sh k.sl && (withinP c u.dst k.dh k.dl && servesP c u.svc k)))

set_option maxHeartbeats 1000000 in
theorem zoneq_any (c : CF) (B : Nat) (nm : ByteArray) (x : Int) {W : World} (hc : c.Ok W) (hB : CfB W B c) :
    Calls Try.prog 65 #[.pointer (some ⟨B, 0, none⟩), .string nm, .int .i64 x] W fun e w' => e = .returned (.bool (zoneQ c nm x)) ∧ Below W.heap.size W w' := by
  have cb := bears_any c x nm hc
  obtain ⟨c0, c1, c2, c3, c4, c5, c6, c7⟩ := hB
  by_cases ha : nm.toList = [97, 110, 121]
  · have hr : zoneQ c nm x = true := by simp [zoneQ, isAny, ha]
    rw [hr]
    clear hr cb hc
    go_enter Try.func65, Try.ntmps65
    go_wp2
    go_ret
    exact ⟨rfl, Below.refl _ _⟩
  · have hab : (nm.toList == [97, 110, 121]) = false := by simp [ha]
    have hr : zoneQ c nm x = namedP c x nm := by unfold zoneQ; rw [show isAny nm = false from hab]; rfl
    rw [hr]
    generalize namedP c x nm = R at *
    simp only [cfc] at cb
    clear hr hc
    go_enter Try.func65, Try.ntmps65
    go_wp2_with (go_at_call 25; with_reducible refine cb.mono ?_; rintro e w' ⟨rfl, hb⟩)
    go_ret
    exact ⟨by simp, hb⟩

set_option maxHeartbeats 1000000 in
theorem qin_any (c : CF) (u : UR) (hi ho : Int) (k : KR) (B : Nat) {W : World} (hc : c.Ok W) (hQ : QuB W B c u hi ho k) :
    Calls Try.prog 49 #[.pointer (some ⟨B, 0, none⟩)] W fun e w' => e = .returned (.bool (zoneQ c u.inz hi)) ∧ Below W.heap.size W w' := by
  obtain ⟨⟨c0, c1, c2, c3, c4, c5, c6, c7⟩, ⟨u0, u1, u2, u3, u4, u5, u6, u7⟩, hi16, ho17, k0, k1, k2, k3, k4, k5, k6⟩ := hQ
  have hCB : CfB W B c := ⟨c0, c1, c2, c3, c4, c5, c6, c7⟩
  simp only [Nat.reduceAdd] at u0 u1 u2 u3 u4 u5 u6 u7 k0 k1 k2 k3 k4 k5 k6
  have cq := fun d os => Calls.regrown_of (zoneq_any c B u.inz hi (hc.keep (below_regrown W d os)) (hCB.keep (below_regrown W d os)))
  generalize zoneQ c u.inz hi = R at *
  have g0 := cell_regrown u0
  have g1 := cell_regrown hi16
  obtain ⟨kp, ksh, ksl, kdh, kdl, ksp, kdp⟩ := k
  obtain ⟨n0, n1, n2, n3, n4, n5, n6, n7⟩ := u
  simp only [cfc, krc] at *
  clear hc hCB c0 c1 c2 c3 c4 c5 c6 c7 u0 u1 u2 u3 u4 u5 u6 u7 hi16 ho17 k0 k1 k2 k3 k4 k5 k6
  go_enter Try.func49, Try.ntmps49
  go_wp2
  refine wp_region_quiet_below (by kernel_rfl) (by kernel_rfl) ?_
  repeat (first | go_big_quiet_skip | quiet_step (first | (go_at_call 65; with_reducible exact cq _ _)))
  refine wpQuiet_nil ?_
  intro _ hw'
  obtain ⟨⟨dq, osq⟩, hw''⟩ := hw'
  subst hw''
  go_wp2
  go_ret
  exact ⟨rfl, below_regrown _ _ _⟩

set_option maxHeartbeats 1000000 in
theorem qout_any (c : CF) (u : UR) (hi ho : Int) (k : KR) (B : Nat) {W : World} (hc : c.Ok W) (hQ : QuB W B c u hi ho k) :
    Calls Try.prog 50 #[.pointer (some ⟨B, 0, none⟩)] W fun e w' => e = .returned (.bool (zoneQ c u.out ho)) ∧ Below W.heap.size W w' := by
  obtain ⟨⟨c0, c1, c2, c3, c4, c5, c6, c7⟩, ⟨u0, u1, u2, u3, u4, u5, u6, u7⟩, hi16, ho17, k0, k1, k2, k3, k4, k5, k6⟩ := hQ
  have hCB : CfB W B c := ⟨c0, c1, c2, c3, c4, c5, c6, c7⟩
  simp only [Nat.reduceAdd] at u0 u1 u2 u3 u4 u5 u6 u7 k0 k1 k2 k3 k4 k5 k6
  have cq := fun d os => Calls.regrown_of (zoneq_any c B u.out ho (hc.keep (below_regrown W d os)) (hCB.keep (below_regrown W d os)))
  generalize zoneQ c u.out ho = R at *
  have g0 := cell_regrown u1
  have g1 := cell_regrown ho17
  obtain ⟨kp, ksh, ksl, kdh, kdl, ksp, kdp⟩ := k
  obtain ⟨n0, n1, n2, n3, n4, n5, n6, n7⟩ := u
  simp only [cfc, krc] at *
  clear hc hCB c0 c1 c2 c3 c4 c5 c6 c7 u0 u1 u2 u3 u4 u5 u6 u7 hi16 ho17 k0 k1 k2 k3 k4 k5 k6
  go_enter Try.func50, Try.ntmps50
  go_wp2
  refine wp_region_quiet_below (by kernel_rfl) (by kernel_rfl) ?_
  repeat (first | go_big_quiet_skip | quiet_step (first | (go_at_call 65; with_reducible exact cq _ _)))
  refine wpQuiet_nil ?_
  intro _ hw'
  obtain ⟨⟨dq, osq⟩, hw''⟩ := hw'
  subst hw''
  go_wp2
  go_ret
  exact ⟨rfl, below_regrown _ _ _⟩

set_option maxHeartbeats 1000000 in
theorem qsrc_any (c : CF) (u : UR) (hi ho : Int) (k : KR) (B : Nat) {W : World} (hc : c.Ok W) (hQ : QuB W B c u hi ho k) :
    Calls Try.prog 51 #[.pointer (some ⟨B, 0, none⟩)] W fun e w' => e = .returned (.bool (withinP c u.src k.sh k.sl)) ∧ Below W.heap.size W w' := by
  obtain ⟨⟨c0, c1, c2, c3, c4, c5, c6, c7⟩, ⟨u0, u1, u2, u3, u4, u5, u6, u7⟩, hi16, ho17, k0, k1, k2, k3, k4, k5, k6⟩ := hQ
  have hCB : CfB W B c := ⟨c0, c1, c2, c3, c4, c5, c6, c7⟩
  simp only [Nat.reduceAdd] at u0 u1 u2 u3 u4 u5 u6 u7 k0 k1 k2 k3 k4 k5 k6
  have cq := fun d os => Calls.regrown_of (within_any c u.src k.sh k.sl (hc.keep (below_regrown W d os)))
  generalize withinP c u.src k.sh k.sl = R at *
  have g0 := cell_regrown c0
  have g1 := cell_regrown c1
  have g2 := cell_regrown c2
  have g3 := cell_regrown c3
  have g4 := cell_regrown c4
  have g5 := cell_regrown c5
  have g6 := cell_regrown c6
  have g7 := cell_regrown c7
  have g8 := cell_regrown u2
  have g9 := cell_regrown k1
  have g10 := cell_regrown k2
  obtain ⟨kp, ksh, ksl, kdh, kdl, ksp, kdp⟩ := k
  obtain ⟨n0, n1, n2, n3, n4, n5, n6, n7⟩ := u
  simp only [cfc, krc] at *
  clear hc hCB c0 c1 c2 c3 c4 c5 c6 c7 u0 u1 u2 u3 u4 u5 u6 u7 hi16 ho17 k0 k1 k2 k3 k4 k5 k6
  go_enter Try.func51, Try.ntmps51
  go_wp2
  refine wp_region_quiet_below (by kernel_rfl) (by kernel_rfl) ?_
  repeat (first | go_big_quiet_skip | quiet_step (first | (go_at_call 44; with_reducible exact cq _ _)))
  refine wpQuiet_nil ?_
  intro _ hw'
  obtain ⟨⟨dq, osq⟩, hw''⟩ := hw'
  subst hw''
  go_wp2
  go_ret
  exact ⟨rfl, below_regrown _ _ _⟩

set_option maxHeartbeats 1000000 in
theorem qdst_any (c : CF) (u : UR) (hi ho : Int) (k : KR) (B : Nat) {W : World} (hc : c.Ok W) (hQ : QuB W B c u hi ho k) :
    Calls Try.prog 52 #[.pointer (some ⟨B, 0, none⟩)] W fun e w' => e = .returned (.bool (withinP c u.dst k.dh k.dl)) ∧ Below W.heap.size W w' := by
  obtain ⟨⟨c0, c1, c2, c3, c4, c5, c6, c7⟩, ⟨u0, u1, u2, u3, u4, u5, u6, u7⟩, hi16, ho17, k0, k1, k2, k3, k4, k5, k6⟩ := hQ
  have hCB : CfB W B c := ⟨c0, c1, c2, c3, c4, c5, c6, c7⟩
  simp only [Nat.reduceAdd] at u0 u1 u2 u3 u4 u5 u6 u7 k0 k1 k2 k3 k4 k5 k6
  have cq := fun d os => Calls.regrown_of (within_any c u.dst k.dh k.dl (hc.keep (below_regrown W d os)))
  generalize withinP c u.dst k.dh k.dl = R at *
  have g0 := cell_regrown c0
  have g1 := cell_regrown c1
  have g2 := cell_regrown c2
  have g3 := cell_regrown c3
  have g4 := cell_regrown c4
  have g5 := cell_regrown c5
  have g6 := cell_regrown c6
  have g7 := cell_regrown c7
  have g8 := cell_regrown u3
  have g9 := cell_regrown k3
  have g10 := cell_regrown k4
  obtain ⟨kp, ksh, ksl, kdh, kdl, ksp, kdp⟩ := k
  obtain ⟨n0, n1, n2, n3, n4, n5, n6, n7⟩ := u
  simp only [cfc, krc] at *
  clear hc hCB c0 c1 c2 c3 c4 c5 c6 c7 u0 u1 u2 u3 u4 u5 u6 u7 hi16 ho17 k0 k1 k2 k3 k4 k5 k6
  go_enter Try.func52, Try.ntmps52
  go_wp2
  refine wp_region_quiet_below (by kernel_rfl) (by kernel_rfl) ?_
  repeat (first | go_big_quiet_skip | quiet_step (first | (go_at_call 44; with_reducible exact cq _ _)))
  refine wpQuiet_nil ?_
  intro _ hw'
  obtain ⟨⟨dq, osq⟩, hw''⟩ := hw'
  subst hw''
  go_wp2
  go_ret
  exact ⟨rfl, below_regrown _ _ _⟩

set_option maxHeartbeats 1000000 in
theorem qsvc_any (c : CF) (u : UR) (hi ho : Int) (k : KR) (B : Nat) {W : World} (hc : c.Ok W) (hQ : QuB W B c u hi ho k) :
    Calls Try.prog 53 #[.pointer (some ⟨B, 0, none⟩)] W fun e w' => e = .returned (.bool (servesP c u.svc k)) ∧ Below W.heap.size W w' := by
  obtain ⟨⟨c0, c1, c2, c3, c4, c5, c6, c7⟩, ⟨u0, u1, u2, u3, u4, u5, u6, u7⟩, hi16, ho17, k0, k1, k2, k3, k4, k5, k6⟩ := hQ
  have hCB : CfB W B c := ⟨c0, c1, c2, c3, c4, c5, c6, c7⟩
  simp only [Nat.reduceAdd] at u0 u1 u2 u3 u4 u5 u6 u7 k0 k1 k2 k3 k4 k5 k6
  have cq := fun d os => Calls.regrown_of (serves_any c u.svc k (hc.keep (below_regrown W d os)))
  generalize servesP c u.svc k = R at *
  have g0 := cell_regrown c0
  have g1 := cell_regrown c1
  have g2 := cell_regrown c2
  have g3 := cell_regrown c3
  have g4 := cell_regrown c4
  have g5 := cell_regrown c5
  have g6 := cell_regrown c6
  have g7 := cell_regrown c7
  have g8 := cell_regrown u4
  have g9 := cell_regrown k0
  have g10 := cell_regrown k1
  have g11 := cell_regrown k2
  have g12 := cell_regrown k3
  have g13 := cell_regrown k4
  have g14 := cell_regrown k5
  have g15 := cell_regrown k6
  obtain ⟨kp, ksh, ksl, kdh, kdl, ksp, kdp⟩ := k
  obtain ⟨n0, n1, n2, n3, n4, n5, n6, n7⟩ := u
  simp only [cfc, krc] at *
  clear hc hCB c0 c1 c2 c3 c4 c5 c6 c7 u0 u1 u2 u3 u4 u5 u6 u7 hi16 ho17 k0 k1 k2 k3 k4 k5 k6
  go_enter Try.func53, Try.ntmps53
  go_wp2
  refine wp_region_quiet_below (by kernel_rfl) (by kernel_rfl) ?_
  repeat (first | go_big_quiet_skip | quiet_step (first | (go_at_call 43; with_reducible exact cq _ _)))
  refine wpQuiet_nil ?_
  intro _ hw'
  obtain ⟨⟨dq, osq⟩, hw''⟩ := hw'
  subst hw''
  go_wp2
  go_ret
  exact ⟨rfl, below_regrown _ _ _⟩

theorem eIn : ∀ args w, (callFunc 49 args).run Try.prog w = .ok (.enter 49 args) w := enters_of Try.func49 (by kernel_rfl) rfl
theorem eOut : ∀ args w, (callFunc 50 args).run Try.prog w = .ok (.enter 50 args) w := enters_of Try.func50 (by kernel_rfl) rfl
theorem eSrc : ∀ args w, (callFunc 51 args).run Try.prog w = .ok (.enter 51 args) w := enters_of Try.func51 (by kernel_rfl) rfl
theorem eDst : ∀ args w, (callFunc 52 args).run Try.prog w = .ok (.enter 52 args) w := enters_of Try.func52 (by kernel_rfl) rfl
theorem eSvc : ∀ args w, (callFunc 53 args).run Try.prog w = .ok (.enter 53 args) w := enters_of Try.func53 (by kernel_rfl) rfl

set_option maxHeartbeats 4000000 in
set_option maxRecDepth 100000 in
theorem match_any (c : CF) (u : UR) (hi ho : Int) (k : KR) {w : World} (hc : c.Ok w) :
    Calls Try.prog 39 #[.agg (cfc c), .agg (urc u).toArray, .agg (Value.int .i64 hi :: .int .i64 ho :: krc k).toArray] w fun e w' => e = .returned (.bool (matchP c u hi ho k)) ∧ Below w.heap.size w w' := by
  have e0 := eIn
  have e1 := eOut
  have e2 := eSrc
  have e3 := eDst
  have e4 := eSvc
  obtain ⟨V, hV⟩ : ∃ V, V = matchP c u hi ho k := ⟨_, rfl⟩
  rw [← hV]
  have HV := Lib.hid hV
  clear hV
  obtain ⟨kp, ksh, ksl, kdh, kdl, ksp, kdp⟩ := k
  obtain ⟨n0, n1, n2, n3, n4, n5, n6, n7⟩ := u
  have QQ : ∀ W0 : World, QuB (W0.alloc (.cells #[.slice c.zA c.zn c.zc, .slice c.oA c.on c.oc, .slice c.sA c.sn c.sc, .slice c.lA c.ln c.lc, .slice c.tA c.tn c.tc, .slice c.nA c.nn c.nc, .slice c.uA c.un c.uc, .int .i64 c.dflt, .string n0, .string n1, .string n2, .string n3, .string n4, .int .i64 n5, .string n6, .bool n7, .int .i64 hi, .int .i64 ho, .int .i64 kp, .int .u64 ksh, .int .u64 ksl, .int .u64 kdh, .int .u64 kdl, .int .i64 ksp, .int .i64 kdp] 93)) W0.heap.size c ⟨n0, n1, n2, n3, n4, n5, n6, n7⟩ hi ho ⟨kp, ksh, ksl, kdh, kdl, ksp, kdp⟩ := by
    intro W0
    refine ⟨?_, ?_, ?_, ?_, ?_⟩
    · constructor <;> simp [go_sem]
    · constructor <;> simp [go_sem]
    · simp [go_sem]
    · simp [go_sem]
    · constructor <;> simp [go_sem]
  have ix0 : ∀ x : World, Sem.run Try.prog (Instr.index 95 (.agg #[.func (.func 49) #[.pointer (some ⟨w.heap.size + 1 + 1 + 1, 0, none⟩)] #[], .func (.func 50) #[.pointer (some ⟨w.heap.size + 1 + 1 + 1, 0, none⟩)] #[], .func (.func 51) #[.pointer (some ⟨w.heap.size + 1 + 1 + 1, 0, none⟩)] #[], .func (.func 52) #[.pointer (some ⟨w.heap.size + 1 + 1 + 1, 0, none⟩)] #[], .func (.func 53) #[.pointer (some ⟨w.heap.size + 1 + 1 + 1, 0, none⟩)] #[]]) (.int .i64 0)) x = .ok (.func (.func 49) #[.pointer (some ⟨w.heap.size + 1 + 1 + 1, 0, none⟩)] #[]) x := fun _ => by kernel_rfl
  have ix1 : ∀ x : World, Sem.run Try.prog (Instr.index 95 (.agg #[.func (.func 49) #[.pointer (some ⟨w.heap.size + 1 + 1 + 1, 0, none⟩)] #[], .func (.func 50) #[.pointer (some ⟨w.heap.size + 1 + 1 + 1, 0, none⟩)] #[], .func (.func 51) #[.pointer (some ⟨w.heap.size + 1 + 1 + 1, 0, none⟩)] #[], .func (.func 52) #[.pointer (some ⟨w.heap.size + 1 + 1 + 1, 0, none⟩)] #[], .func (.func 53) #[.pointer (some ⟨w.heap.size + 1 + 1 + 1, 0, none⟩)] #[]]) (.int .i64 1)) x = .ok (.func (.func 50) #[.pointer (some ⟨w.heap.size + 1 + 1 + 1, 0, none⟩)] #[]) x := fun _ => by kernel_rfl
  have ix2 : ∀ x : World, Sem.run Try.prog (Instr.index 95 (.agg #[.func (.func 49) #[.pointer (some ⟨w.heap.size + 1 + 1 + 1, 0, none⟩)] #[], .func (.func 50) #[.pointer (some ⟨w.heap.size + 1 + 1 + 1, 0, none⟩)] #[], .func (.func 51) #[.pointer (some ⟨w.heap.size + 1 + 1 + 1, 0, none⟩)] #[], .func (.func 52) #[.pointer (some ⟨w.heap.size + 1 + 1 + 1, 0, none⟩)] #[], .func (.func 53) #[.pointer (some ⟨w.heap.size + 1 + 1 + 1, 0, none⟩)] #[]]) (.int .i64 2)) x = .ok (.func (.func 51) #[.pointer (some ⟨w.heap.size + 1 + 1 + 1, 0, none⟩)] #[]) x := fun _ => by kernel_rfl
  have ix3 : ∀ x : World, Sem.run Try.prog (Instr.index 95 (.agg #[.func (.func 49) #[.pointer (some ⟨w.heap.size + 1 + 1 + 1, 0, none⟩)] #[], .func (.func 50) #[.pointer (some ⟨w.heap.size + 1 + 1 + 1, 0, none⟩)] #[], .func (.func 51) #[.pointer (some ⟨w.heap.size + 1 + 1 + 1, 0, none⟩)] #[], .func (.func 52) #[.pointer (some ⟨w.heap.size + 1 + 1 + 1, 0, none⟩)] #[], .func (.func 53) #[.pointer (some ⟨w.heap.size + 1 + 1 + 1, 0, none⟩)] #[]]) (.int .i64 3)) x = .ok (.func (.func 52) #[.pointer (some ⟨w.heap.size + 1 + 1 + 1, 0, none⟩)] #[]) x := fun _ => by kernel_rfl
  have ix4 : ∀ x : World, Sem.run Try.prog (Instr.index 95 (.agg #[.func (.func 49) #[.pointer (some ⟨w.heap.size + 1 + 1 + 1, 0, none⟩)] #[], .func (.func 50) #[.pointer (some ⟨w.heap.size + 1 + 1 + 1, 0, none⟩)] #[], .func (.func 51) #[.pointer (some ⟨w.heap.size + 1 + 1 + 1, 0, none⟩)] #[], .func (.func 52) #[.pointer (some ⟨w.heap.size + 1 + 1 + 1, 0, none⟩)] #[], .func (.func 53) #[.pointer (some ⟨w.heap.size + 1 + 1 + 1, 0, none⟩)] #[]]) (.int .i64 4)) x = .ok (.func (.func 53) #[.pointer (some ⟨w.heap.size + 1 + 1 + 1, 0, none⟩)] #[]) x := fun _ => by kernel_rfl
  simp only [cfc, krc, urc] at *
  go_enter Try.func39, Try.ntmps39
  go_wp2
  obtain ⟨w1, hw1⟩ : ∃ w1, w1 = (((w.alloc (.cells #[.slice c.zA c.zn c.zc, .slice c.oA c.on c.oc, .slice c.sA c.sn c.sc, .slice c.lA c.ln c.lc, .slice c.tA c.tn c.tc, .slice c.nA c.nn c.nc, .slice c.uA c.un c.uc, .int .i64 c.dflt] 35)).alloc (.cells #[.string n0, .string n1, .string n2, .string n3, .string n4, .int .i64 n5, .string n6, .bool n7] 63)).alloc (.cells #[.int .i64 hi, .int .i64 ho, .int .i64 kp, .int .u64 ksh, .int .u64 ksl, .int .u64 kdh, .int .u64 kdl, .int .i64 ksp, .int .i64 kdp] 57)).alloc (.cells #[.slice c.zA c.zn c.zc, .slice c.oA c.on c.oc, .slice c.sA c.sn c.sc, .slice c.lA c.ln c.lc, .slice c.tA c.tn c.tc, .slice c.nA c.nn c.nc, .slice c.uA c.un c.uc, .int .i64 c.dflt, .string n0, .string n1, .string n2, .string n3, .string n4, .int .i64 n5, .string n6, .bool n7, .int .i64 hi, .int .i64 ho, .int .i64 kp, .int .u64 ksh, .int .u64 ksl, .int .u64 kdh, .int .u64 kdl, .int .i64 ksp, .int .i64 kdp] 93) := ⟨_, rfl⟩
  rw [← hw1]
  have hb : Below w.heap.size w w1 := by rw [hw1]; repeat (first | exact Below.refl _ _ | apply Below.dr | apply Below.al)
  have hq : QuB w1 (w.heap.size + 1 + 1 + 1) c ⟨n0, n1, n2, n3, n4, n5, n6, n7⟩ hi ho ⟨kp, ksh, ksl, kdh, kdl, ksp, kdp⟩ := by
    rw [hw1]; have := QQ (((w.alloc (.cells #[.slice c.zA c.zn c.zc, .slice c.oA c.on c.oc, .slice c.sA c.sn c.sc, .slice c.lA c.ln c.lc, .slice c.tA c.tn c.tc, .slice c.nA c.nn c.nc, .slice c.uA c.un c.uc, .int .i64 c.dflt] 35)).alloc (.cells #[.string n0, .string n1, .string n2, .string n3, .string n4, .int .i64 n5, .string n6, .bool n7] 63)).alloc (.cells #[.int .i64 hi, .int .i64 ho, .int .i64 kp, .int .u64 ksh, .int .u64 ksl, .int .u64 kdh, .int .u64 kdl, .int .i64 ksp, .int .i64 kdp] 57)); simpa using this
  have hok := hc.keep hb
  clear hw1 QQ hc
  have p0 := fun (W : World) (hW : Below w1.heap.size w1 W) => qin_any _ _ _ _ _ _ (hok.keep hW) (hq.keep hW)
  have p1 := fun (W : World) (hW : Below w1.heap.size w1 W) => qout_any _ _ _ _ _ _ (hok.keep hW) (hq.keep hW)
  have p2 := fun (W : World) (hW : Below w1.heap.size w1 W) => qsrc_any _ _ _ _ _ _ (hok.keep hW) (hq.keep hW)
  have p3 := fun (W : World) (hW : Below w1.heap.size w1 W) => qdst_any _ _ _ _ _ _ (hok.keep hW) (hq.keep hW)
  have p4 := fun (W : World) (hW : Below w1.heap.size w1 W) => qsvc_any _ _ _ _ _ _ (hok.keep hW) (hq.keep hW)
  have hm : V = (zoneQ c n0 hi && (zoneQ c n1 ho && (withinP c n2 ksh ksl && (withinP c n3 kdh kdl && servesP c n4 ⟨kp, ksh, ksl, kdh, kdl, ksp, kdp⟩)))) := HV.out
  simp only at p0 p1 p2 p3 p4
  generalize zoneQ c n0 hi = P0 at *
  generalize zoneQ c n1 ho = P1 at *
  generalize withinP c n2 ksh ksl = P2 at *
  generalize withinP c n3 kdh kdl = P3 at *
  generalize servesP c n4 ⟨kp, ksh, ksl, kdh, kdl, ksp, kdp⟩ = P4 at *
  have HM := Lib.hid hm
  clear hm HV hok hq
  go_loopw [26] (fun vi wr => ∃ i : Nat, i ≤ 5 ∧ vi = .int .i64 i ∧ Below w1.heap.size w1 wr ∧ Aside ((1 ≤ i → P0 = true) ∧ (2 ≤ i → P1 = true) ∧ (3 ≤ i → P2 = true) ∧ (4 ≤ i → P3 = true) ∧ (5 ≤ i → P4 = true))) (fun vi _ => 5 - (intOf vi).toNat)
  case atStart => exact ⟨0, by omega, rfl, Below.refl _ _, ⟨fun h => absurd h (by omega), fun h => absurd h (by omega), fun h => absurd h (by omega), fun h => absurd h (by omega), fun h => absurd h (by omega)⟩⟩
  case round =>
    obtain ⟨i, hi5, rfl, hbr, N⟩ := hrel
    have hbz := bel_via hb hbr
    match i, hi5 with
    | 0, _ =>
      have cq := p0 wr hbr
      clear p1 e1 ix1 p2 e2 ix2 p3 e3 ix3 p4 e4 ix4 p0
      cases hp : P0 with
      | false =>
        rw [hp] at cq
        have HP := Lib.hid hp
        clear hp
        go_wp2_with (go_at_fn 49; with_reducible refine cq.mono ?_; rintro e w' ⟨rfl, hb'⟩)
        go_ret
        refine ⟨ret_bool ?_, bel_via hbz hb'⟩
        rw [HM.out, HP.out]
        simp
      | true =>
        rw [hp] at cq
        have HP := Lib.hid hp
        clear hp
        go_wp2_with (go_at_fn 49; with_reducible refine cq.mono ?_; rintro e w' ⟨rfl, hb'⟩)
        go_roundw
        case rel => exact ⟨1, by omega, rfl, bel_via hbr hb', ⟨fun _ => (by first | exact HP.out | trivial), fun h => absurd h (by omega), fun h => absurd h (by omega), fun h => absurd h (by omega), fun h => absurd h (by omega)⟩⟩
        case measure => simp [intOf]
    | 1, _ =>
      have cq := p1 wr hbr
      clear p0 e0 ix0 p2 e2 ix2 p3 e3 ix3 p4 e4 ix4 p1
      cases hp : P1 with
      | false =>
        rw [hp] at cq
        have HP := Lib.hid hp
        clear hp
        go_wp2_with (go_at_fn 50; with_reducible refine cq.mono ?_; rintro e w' ⟨rfl, hb'⟩)
        go_ret
        refine ⟨ret_bool ?_, bel_via hbz hb'⟩
        rw [HM.out, HP.out]
        simp
      | true =>
        rw [hp] at cq
        have HP := Lib.hid hp
        clear hp
        go_wp2_with (go_at_fn 50; with_reducible refine cq.mono ?_; rintro e w' ⟨rfl, hb'⟩)
        go_roundw
        case rel => exact ⟨2, by omega, rfl, bel_via hbr hb', ⟨fun _ => N.out.1 (by omega), fun _ => (by first | exact HP.out | trivial), fun h => absurd h (by omega), fun h => absurd h (by omega), fun h => absurd h (by omega)⟩⟩
        case measure => simp [intOf]
    | 2, _ =>
      have cq := p2 wr hbr
      clear p0 e0 ix0 p1 e1 ix1 p3 e3 ix3 p4 e4 ix4 p2
      cases hp : P2 with
      | false =>
        rw [hp] at cq
        have HP := Lib.hid hp
        clear hp
        go_wp2_with (go_at_fn 51; with_reducible refine cq.mono ?_; rintro e w' ⟨rfl, hb'⟩)
        go_ret
        refine ⟨ret_bool ?_, bel_via hbz hb'⟩
        rw [HM.out, HP.out]
        simp
      | true =>
        rw [hp] at cq
        have HP := Lib.hid hp
        clear hp
        go_wp2_with (go_at_fn 51; with_reducible refine cq.mono ?_; rintro e w' ⟨rfl, hb'⟩)
        go_roundw
        case rel => exact ⟨3, by omega, rfl, bel_via hbr hb', ⟨fun _ => N.out.1 (by omega), fun _ => N.out.2.1 (by omega), fun _ => (by first | exact HP.out | trivial), fun h => absurd h (by omega), fun h => absurd h (by omega)⟩⟩
        case measure => simp [intOf]
    | 3, _ =>
      have cq := p3 wr hbr
      clear p0 e0 ix0 p1 e1 ix1 p2 e2 ix2 p4 e4 ix4 p3
      cases hp : P3 with
      | false =>
        rw [hp] at cq
        have HP := Lib.hid hp
        clear hp
        go_wp2_with (go_at_fn 52; with_reducible refine cq.mono ?_; rintro e w' ⟨rfl, hb'⟩)
        go_ret
        refine ⟨ret_bool ?_, bel_via hbz hb'⟩
        rw [HM.out, HP.out]
        simp
      | true =>
        rw [hp] at cq
        have HP := Lib.hid hp
        clear hp
        go_wp2_with (go_at_fn 52; with_reducible refine cq.mono ?_; rintro e w' ⟨rfl, hb'⟩)
        go_roundw
        case rel => exact ⟨4, by omega, rfl, bel_via hbr hb', ⟨fun _ => N.out.1 (by omega), fun _ => N.out.2.1 (by omega), fun _ => N.out.2.2.1 (by omega), fun _ => (by first | exact HP.out | trivial), fun h => absurd h (by omega)⟩⟩
        case measure => simp [intOf]
    | 4, _ =>
      have cq := p4 wr hbr
      clear p0 e0 ix0 p1 e1 ix1 p2 e2 ix2 p3 e3 ix3 p4
      cases hp : P4 with
      | false =>
        rw [hp] at cq
        have HP := Lib.hid hp
        clear hp
        go_wp2_with (go_at_fn 53; with_reducible refine cq.mono ?_; rintro e w' ⟨rfl, hb'⟩)
        go_ret
        refine ⟨ret_bool ?_, bel_via hbz hb'⟩
        rw [HM.out, HP.out]
        simp
      | true =>
        rw [hp] at cq
        have HP := Lib.hid hp
        clear hp
        go_wp2_with (go_at_fn 53; with_reducible refine cq.mono ?_; rintro e w' ⟨rfl, hb'⟩)
        go_roundw
        case rel => exact ⟨5, by omega, rfl, bel_via hbr hb', ⟨fun _ => N.out.1 (by omega), fun _ => N.out.2.1 (by omega), fun _ => N.out.2.2.1 (by omega), fun _ => N.out.2.2.2.1 (by omega), fun _ => (by first | exact HP.out | trivial)⟩⟩
        case measure => simp [intOf]
    | 5, _ =>
      clear p0 p1 p2 p3 p4 e0 e1 e2 e3 e4 ix0 ix1 ix2 ix3 ix4
      go_wp2
      go_ret
      refine ⟨ret_bool ?_, hbz⟩
      obtain ⟨a0, a1, a2, a3, a4⟩ := N.out
      rw [HM.out, a0 (by omega), a1 (by omega), a2 (by omega), a3 (by omega), a4 (by omega)]
      rfl
end Go.Proofs.Ytplfmgcgniledaa
