/- Destinations and sources: the program's; by-name template. -/
import Derived.Test.YtokbmahnjmmcaaaRNat
import Derived.RegionTactic
import Derived.BigRegion
import Derived.ChangeAlike
namespace Go.Proofs.Ytokbmahnjmmcaaa
open Go.Shelf Go.RowKit Go.Lib Go.Sort
set_option linter.unusedVariables false
set_option linter.unusedSimpArgs false

structure CfB (W : World) (B : Nat) (c : CF) : Prop where
  c0 : W.cell? ⟨B, 0, none⟩ = some (.slice c.zA c.zn c.zc)
  c1 : W.cell? ⟨B, 1, none⟩ = some (.slice c.oA c.on c.oc)
  c2 : W.cell? ⟨B, 2, none⟩ = some (.slice c.sA c.sn c.sc)
  c3 : W.cell? ⟨B, 3, none⟩ = some (.slice c.lA c.ln c.lc)
  c4 : W.cell? ⟨B, 4, none⟩ = some (.slice c.tA c.tn c.tc)
  c5 : W.cell? ⟨B, 5, none⟩ = some (.slice c.nA c.nn c.nc)
  c6 : W.cell? ⟨B, 6, none⟩ = some (.slice c.uA c.un c.uc)
  c7 : W.cell? ⟨B, 7, none⟩ = some (.int .i64 c.dflt)
structure KeB (W : World) (B : Nat) (o : Nat) (k : KR) : Prop where
  k0 : W.cell? ⟨B, o, none⟩ = some (.int .i64 k.proto)
  k1 : W.cell? ⟨B, o + 1, none⟩ = some (.int .u64 k.sh)
  k2 : W.cell? ⟨B, o + 2, none⟩ = some (.int .u64 k.sl)
  k3 : W.cell? ⟨B, o + 3, none⟩ = some (.int .u64 k.dh)
  k4 : W.cell? ⟨B, o + 4, none⟩ = some (.int .u64 k.dl)
  k5 : W.cell? ⟨B, o + 5, none⟩ = some (.int .i64 k.sp)
  k6 : W.cell? ⟨B, o + 6, none⟩ = some (.int .i64 k.dp)
theorem CfB.keep {W W' : World} {B : Nat} {c : CF} (h : CfB W B c) (hb : Below W.heap.size W W') : CfB W' B c :=
  ⟨keepc hb h.c0, keepc hb h.c1, keepc hb h.c2, keepc hb h.c3, keepc hb h.c4, keepc hb h.c5, keepc hb h.c6, keepc hb h.c7⟩
theorem KeB.keep {W W' : World} {B o : Nat} {k : KR} (h : KeB W B o k) (hb : Below W.heap.size W W') : KeB W' B o k :=
  ⟨keepc hb h.k0, keepc hb h.k1, keepc hb h.k2, keepc hb h.k3, keepc hb h.k4, keepc hb h.k5, keepc hb h.k6⟩
theorem CfB.made (w : World) (c : CF) : CfB (w.alloc (.cells (cfc c) 30)) w.heap.size c := by
  constructor <;> simp [cfc, go_sem]
theorem KeB.made (w : World) (k : KR) : KeB (w.alloc (.cells (krc k).toArray 35)) w.heap.size 0 k := by
  constructor <;> simp [krc, go_sem]

set_option maxHeartbeats 1000000 in
theorem dest1_any (c : CF) (k : KR) (B B2 : Nat) (n : NR) {W : World} (hc : c.Ok W) (hB : CfB W B c) (hK : KeB W B2 0 k) :
    Calls Try.prog 44 #[.agg (nrc n).toArray, .pointer (some ⟨B, 0, none⟩), .pointer (some ⟨B2, 0, none⟩)] W fun e w' => e = .returned (.bool (calledP c k n)) ∧ Below W.heap.size W w' := by
  have hb : Below W.heap.size W (W.alloc (.cells (nrc n).toArray 49)) := Below.al (Below.refl _ _) _
  have cs := called_any c n k (hc.keep hb)
  obtain ⟨c0, c1, c2, c3, c4, c5, c6, c7⟩ := hB.keep hb
  obtain ⟨k0, k1, k2, k3, k4, k5, k6⟩ := hK.keep hb
  generalize calledP c k n = R at *
  clear hc hB hK
  obtain ⟨kind, zn, ob, sv, oh, ol, ih, il, frm, til⟩ := n
  obtain ⟨kp, ksh, ksl, kdh, kdl, ksp, kdp⟩ := k
  simp only [nrc, krc, cfc, Nat.zero_add] at *
  go_enter Try.func44, Try.ntmps44
  go_wp2_with (go_at_call 45; with_reducible refine cs.mono ?_; rintro e w1 ⟨rfl, hb'⟩)
  go_ret
  exact ⟨rfl, bel_via hb hb'⟩
theorem eDest1 : ∀ args w, (callFunc 44 args).run Try.prog w = .ok (.enter 44 args) w := enters_of Try.func44 (by kernel_rfl) rfl

set_option maxHeartbeats 1000000 in
theorem source1_any (c : CF) (x : Int) (k : KR) (B B1 B2 : Nat) (n : NR) {W : World} (hc : c.Ok W) (hw : Word n.oh ∧ Word n.ol) (ha : Word k.sh ∧ Word k.sl) (hB : CfB W B c) (hx : W.cell? ⟨B1, 0, none⟩ = some (.int .i64 x)) (hK : KeB W B2 0 k) :
    Calls Try.prog 49 #[.agg (nrc n).toArray, .pointer (some ⟨B, 0, none⟩), .pointer (some ⟨B1, 0, none⟩), .pointer (some ⟨B2, 0, none⟩)] W fun e w' => e = .returned (.bool (namedP c x n.zn && sourceP c k.sh k.sl n)) ∧ Below W.heap.size W w' := by
  obtain ⟨w0, hw0⟩ : ∃ w0, w0 = W.alloc (.cells (nrc n).toArray 49) := ⟨_, rfl⟩
  have hb : Below W.heap.size W w0 := by rw [hw0]; exact Below.al (Below.refl _ _) _
  have cb := bears_any c x n.zn (hc.keep hb)
  have cs := fun W2 hW2 => source_is (w := W2) c n k.sh k.sl hw ha ((hc.keep hb).keep hW2)
  obtain ⟨c0, c1, c2, c3, c4, c5, c6, c7⟩ := hB.keep hb
  obtain ⟨k0, k1, k2, k3, k4, k5, k6⟩ := hK.keep hb
  have x0 := keepc hb hx
  have hN : ∀ w', Below w0.heap.size w0 w' → w'.heap[W.heap.size]? = some (.cells (nrc n).toArray 49 (0, 0)) := fun w' h => by
    rw [h.block _ (by rw [hw0]; simp), hw0]; exact al_new (by simp) _
  generalize namedP c x n.zn = R at *
  generalize sourceP c k.sh k.sl n = S at *
  clear hc hB hK hw ha hx
  obtain ⟨kind, zn, ob, sv, oh, ol, ih, il, frm, til⟩ := n
  obtain ⟨kp, ksh, ksl, kdh, kdl, ksp, kdp⟩ := k
  subst hw0
  simp only [nrc, krc, cfc, Nat.zero_add] at *
  cases R with
  | true =>
    go_enter Try.func49, Try.ntmps49
    go_wp2_with (go_at_call 50; with_reducible refine cb.mono ?_; rintro e w1 ⟨rfl, hb'⟩; refine Hid.out ?_)
    have d0 := keepc hb' c0
    have d1 := keepc hb' c1
    have d2 := keepc hb' c2
    have d3 := keepc hb' c3
    have d4 := keepc hb' c4
    have d5 := keepc hb' c5
    have d6 := keepc hb' c6
    have d7 := keepc hb' c7
    have s1 := keepc hb' k1
    have s2 := keepc hb' k2
    have N1 := hN w1 hb'
    have n0 : w1.cell? ⟨W.heap.size, 0, none⟩ = some (.int .i64 kind) := by simp [World.cell?, N1]
    have n1 : w1.cell? ⟨W.heap.size, 1, none⟩ = some (.string zn) := by simp [World.cell?, N1]
    have n2 : w1.cell? ⟨W.heap.size, 2, none⟩ = some (.string ob) := by simp [World.cell?, N1]
    have n3 : w1.cell? ⟨W.heap.size, 3, none⟩ = some (.string sv) := by simp [World.cell?, N1]
    have n4 : w1.cell? ⟨W.heap.size, 4, none⟩ = some (.int .u64 oh) := by simp [World.cell?, N1]
    have n5 : w1.cell? ⟨W.heap.size, 5, none⟩ = some (.int .u64 ol) := by simp [World.cell?, N1]
    have n6 : w1.cell? ⟨W.heap.size, 6, none⟩ = some (.int .u64 ih) := by simp [World.cell?, N1]
    have n7 : w1.cell? ⟨W.heap.size, 7, none⟩ = some (.int .u64 il) := by simp [World.cell?, N1]
    have n8 : w1.cell? ⟨W.heap.size, 8, none⟩ = some (.int .i64 frm) := by simp [World.cell?, N1]
    have n9 : w1.cell? ⟨W.heap.size, 9, none⟩ = some (.int .i64 til) := by simp [World.cell?, N1]
    have cs1 := cs w1 hb'
    have hb1 := bel_via hb hb'
    clear hN N1 cs cb hb hb' c0 c1 c2 c3 c4 c5 c6 c7 k0 k1 k2 k3 k4 k5 k6
    refine Lib.hid ?_
    go_wp2_with (go_at_call 51; with_reducible refine cs1.mono ?_; rintro e w2 ⟨rfl, hb2⟩)
    go_ret
    exact ⟨by simp, bel_via hb1 hb2⟩
  | false =>
    go_enter Try.func49, Try.ntmps49
    go_wp2_with (go_at_call 50; with_reducible refine cb.mono ?_; rintro e w1 ⟨rfl, hb'⟩)
    go_ret
    exact ⟨by simp, bel_via hb hb'⟩
theorem eSource1 : ∀ args w, (callFunc 49 args).run Try.prog w = .ok (.enter 49 args) w := enters_of Try.func49 (by kernel_rfl) rfl

def srcP (c : CF) (x : Int) (k : KR) : Int := pl (fun n => namedP c x n.zn && sourceP c k.sh k.sl n) c.ns

set_option maxHeartbeats 1000000 in
theorem source_any (c : CF) (x : Int) (k : KR) {w : World} (hc : c.Ok w) (ha : Word k.sh ∧ Word k.sl) :
    Calls Try.prog 33 #[.agg (cfc c), .int .i64 x, .agg (krc k).toArray] w fun e w' => e = .returned (.int .i64 (srcP c x k)) ∧ Below w.heap.size w w' := by
  obtain ⟨w0, hw0⟩ : ∃ w0, w0 = ((w.alloc (.cells (cfc c) 30)).alloc (.cells #[.int .i64 x] 3)).alloc (.cells (krc k).toArray 35) := ⟨_, rfl⟩
  have hb : Below w.heap.size w w0 := by rw [hw0]; exact Below.al (Below.al (Below.al (Below.refl _ _) _) _) _
  have hB : CfB w0 w.heap.size c := by rw [hw0]; exact ((CfB.made w c).keep (Below.al (Below.refl _ _) _)).keep (Below.al (Below.refl _ _) _)
  have hK : KeB w0 (w.heap.size + 1 + 1) 0 k := by rw [hw0]; have := KeB.made ((w.alloc (.cells (cfc c) 30)).alloc (.cells #[.int .i64 x] 3)) k; simpa using this
  have hx : w0.cell? ⟨w.heap.size + 1, 0, none⟩ = some (.int .i64 x) := by rw [hw0]; simp [go_sem, World.cell?_alloc_past]
  have cc := idx_rows Try.li20 Try.isAgg49 Try.sizeOf49 nrc (fun _ => rfl) (fun n => namedP c x n.zn && sourceP c k.sh k.sl n) 49 #[.pointer (some ⟨w.heap.size, 0, none⟩), .pointer (some ⟨w.heap.size + 1, 0, none⟩), .pointer (some ⟨w.heap.size + 1 + 1, 0, none⟩)] eSource1 c.nA c.nn c.nc c.ns w0
    (fun W n hn hW => source1_any c x k _ _ _ n ((hc.keep hb).keep hW) (hc.nw n hn) ha (hB.keep hW) (keepc hW hx) (hK.keep hW)) (hc.n.keep hb)
  change Calls Try.prog 43 _ _ _ at cc
  unfold srcP
  generalize pl _ c.ns = r at *
  clear hc hB hK hx ha
  simp only [cfc, krc] at *
  go_enter Try.func33, Try.ntmps33
  go_wp2_with (go_at_call 43; rw [← hw0]; with_reducible refine cc.mono ?_; rintro e w' ⟨rfl, hb'⟩)
  go_ret
  exact ⟨rfl, bel_via hb hb'⟩

def destT (c : CF) (k : KR) : Value := match c.ns.find? (calledP c k) with
  | none => .tuple #[.agg #[.int .u64 k.dh, .int .u64 k.dl], .int .i64 k.dp, .int .i64 (-1)]
  | some n => .tuple #[.agg #[.int .u64 n.ih, .int .u64 n.il], .int .i64 (if n.kind = 2 ∧ ¬ n.frm = 0 ∧ portedP k.proto = true then n.frm else k.dp), .int .i64 (pl (calledP c k) c.ns)]

set_option maxHeartbeats 4000000 in
set_option maxRecDepth 100000 in
theorem dest_any (c : CF) (k : KR) {w : World} (hc : c.Ok w) :
    Calls Try.prog 31 #[.agg (cfc c), .agg (krc k).toArray] w fun e w' => e = .returned (destT c k) ∧ Below w.heap.size w w' := by
  obtain ⟨w0, hw0⟩ : ∃ w0, w0 = ((w.alloc (.cells (cfc c) 30)).alloc (.cells (krc k).toArray 35)).alloc (.cells #[.int .u64 0, .int .u64 0] 33) := ⟨_, rfl⟩
  have hb : Below w.heap.size w w0 := by rw [hw0]; exact Below.al (Below.al (Below.al (Below.refl _ _) _) _) _
  have hB : CfB w0 w.heap.size c := by rw [hw0]; exact ((CfB.made w c).keep (Below.al (Below.refl _ _) _)).keep (Below.al (Below.refl _ _) _)
  have hK : KeB w0 (w.heap.size + 1) 0 k := by rw [hw0]; have := (KeB.made (w.alloc (.cells (cfc c) 30)) k).keep (Below.al (Below.refl _ _) (.cells #[.int .u64 0, .int .u64 0] 33)); simpa using this
  have hR : ∀ w', Below w0.heap.size w0 w' → w'.heap[w.heap.size + 1 + 1]? = some (.cells #[.int .u64 0, .int .u64 0] 33 (0, 0)) := fun w' h => by
    rw [h.block _ (by rw [hw0]; simp), hw0]; exact al_new (by simp) _
  have cc := idx_rows Try.li20 Try.isAgg49 Try.sizeOf49 nrc (fun _ => rfl) (calledP c k) 44 #[.pointer (some ⟨w.heap.size, 0, none⟩), .pointer (some ⟨w.heap.size + 1, 0, none⟩)] eDest1 c.nA c.nn c.nc c.ns w0
    (fun W n hn hW => dest1_any c k _ _ n ((hc.keep hb).keep hW) (hB.keep hW) (hK.keep hW)) (hc.n.keep hb)
  change Calls Try.prog 43 _ _ _ at cc
  have hS := hc.n.keep hb
  clear hc
  unfold destT
  rcases pl_cases (calledP c k) c.ns with ⟨hm, hf⟩ | ⟨j, n, hj, hp, hs, hf⟩
  · rw [find_miss hf]
    rw [hm] at cc
    clear hS hf hm
    obtain ⟨kp, ksh, ksl, kdh, kdl, ksp, kdp⟩ := k
    simp only [cfc, krc, Nat.zero_add] at *
    go_enter Try.func31, Try.ntmps31
    go_wp2_with (go_at_call 43; rw [← hw0]; with_reducible refine cc.mono ?_; rintro e w1 ⟨rfl, hb'⟩; refine Hid.out ?_)
    obtain ⟨k0, k1, k2, k3, k4, k5, k6⟩ := hK.keep hb'
    have hR1 := hR w1 hb'
    have hb1 := bel_via hb hb'
    simp only [Nat.zero_add] at k0 k1 k2 k3 k4 k5 k6
    clear hb' hb hB hK hR cc hw0
    obtain ⟨r0, r1, z0, z1⟩ := cells2 hR1
    refine Lib.hid ?_
    go_wp2
    have hlt2 : w.heap.size + 1 + 1 < w1.heap.size := World.block_lt_of_cell? _ _ r0
    go_region
    go_wp2
    have hR2 := heap_set2 hR1 (.int .u64 kdh) (.int .u64 kdl)
    have hb2 := below_set (below_set hb1 (B := w.heap.size + 1 + 1) (by omega) 0 (.int .u64 kdh)) (B := w.heap.size + 1 + 1) (by omega) 1 (.int .u64 kdl)
    generalize (w1.setCell ⟨w.heap.size + 1 + 1, 0, none⟩ (.int .u64 kdh)).setCell ⟨w.heap.size + 1 + 1, 1, none⟩ (.int .u64 kdl) = wf at *
    have hR3 : wf.drew.heap[w.heap.size + 1 + 1]? = _ := hR2
    obtain ⟨f0, f1, _, _⟩ := cells2 hR3
    refine bodyPost_ret (v := .tuple #[.agg #[.int .u64 kdh, .int .u64 kdl], .int .i64 kdp, .int .i64 (-1)]) (by simp [results, Try.results31, go_sem, f0, f1]) rfl ⟨rfl, Below.dr hb2⟩
  · rw [find_hit hj hs hf]
    rw [hp] at cc
    rw [hp]
    have hjn : j < c.nn := by have := getE hj; have := hS.len; omega
    obtain ⟨b, off, hA, hlt, hrow⟩ := hS.row (by omega)
    have hbig := hS.big
    have r0 : w0.cell? ⟨b, off + j * 10, none⟩ = some (.int .i64 n.kind) := hrow j n hj 0 _ rfl
    have r1 := hrow j n hj 1 _ rfl
    have r2 := hrow j n hj 2 _ rfl
    have r3 := hrow j n hj 3 _ rfl
    have r4 := hrow j n hj 4 _ rfl
    have r5 := hrow j n hj 5 _ rfl
    have r6 := hrow j n hj 6 _ rfl
    have r7 := hrow j n hj 7 _ rfl
    have r8 := hrow j n hj 8 _ rfl
    have r9 := hrow j n hj 9 _ rfl
    clear hrow hS hf hs hp hj
    obtain ⟨kind, zn, ob, sv, oh, ol, ih, il, frm, til⟩ := n
    obtain ⟨kp, ksh, ksl, kdh, kdl, ksp, kdp⟩ := k
    have hN5 : ∀ w', Below w0.heap.size w0 w' → w'.cell? ⟨w.heap.size, 5, none⟩ = some (.slice (some ⟨b, off, none⟩) c.nn c.nc) := fun w' h => by rw [← hA]; exact (hB.keep h).c5
    simp only [cfc, krc, hA, Nat.zero_add] at *
    obtain ⟨V, hV⟩ : ∃ V, V = if kind = 2 ∧ ¬ frm = 0 ∧ portedP kp = true then frm else kdp := ⟨_, rfl⟩
    rw [← hV]
    have HV := Lib.hid hV
    clear hV
    go_enter Try.func31, Try.ntmps31
    go_wp2_with (go_at_call 43; rw [← hw0]; with_reducible refine cc.mono ?_; rintro e w1 ⟨rfl, hb'⟩; refine Hid.out ?_)
    obtain ⟨k0, k1, k2, k3, k4, k5, k6⟩ := hK.keep hb'
    have c5 := hN5 w1 hb'
    have hR1 := hR w1 hb'
    have hb1 := bel_via hb hb'
    have q0 := keepc hb' r0
    have q1 := keepc hb' r1
    have q2 := keepc hb' r2
    have q3 := keepc hb' r3
    have q4 := keepc hb' r4
    have q5 := keepc hb' r5
    have q6 := keepc hb' r6
    have q7 := keepc hb' r7
    have q8 := keepc hb' r8
    have q9 := keepc hb' r9
    have hlt1 : b < w1.heap.size := Nat.lt_of_lt_of_le hlt hb'.size
    simp only [Nat.zero_add] at k0 k1 k2 k3 k4 k5 k6
    obtain ⟨s0, s1, z0, z1⟩ := cells2 hR1
    have hltR : w.heap.size + 1 + 1 < w1.heap.size := World.block_lt_of_cell? _ _ s0
    have hltK : w.heap.size + 1 < w1.heap.size := by omega
    clear hb' hb hB hK hR cc hw0 r0 r1 r2 r3 r4 r5 r6 r7 r8 r9 hlt hA hN5 k1 k2 k3 k4 k5
    have hji : IntKind.i64.wrap (j : Int) = (j : Int) := by rw [IntKind.wrap_i64]; omega
    by_cases t1 : kind = 2 ∧ ¬ frm = 0 ∧ portedP kp = true
    · have hv : frm = V := by rw [HV.out, if_pos t1]
      subst hv
      clear HV
      obtain ⟨rfl, t2, t3⟩ := t1
      have t2b : (frm != 0) = true := by simp [t2]
      have cp := ported_any kp
      rw [t3] at cp
      refine Lib.hid ?_
      go_wp2_with (go_at_call 46; refine (cp _).mono ?_; rintro e w' ⟨rfl, rfl⟩)
      go_region
      go_wp2
      have hR2 := heap_set2 hR1 (.int .u64 ih) (.int .u64 il)
      have hb2 := below_set (below_set hb1 (B := w.heap.size + 1 + 1) (by omega) 0 (.int .u64 ih)) (B := w.heap.size + 1 + 1) (by omega) 1 (.int .u64 il)
      generalize (w1.setCell ⟨w.heap.size + 1 + 1, 0, none⟩ (.int .u64 ih)).setCell ⟨w.heap.size + 1 + 1, 1, none⟩ (.int .u64 il) = wf at *
      have hlf : w.heap.size + 1 + 1 < wf.heap.size := (Array.getElem?_eq_some_iff.1 hR2).1
      obtain ⟨f0, f1, _, _⟩ := cells2 hR2
      have g0 := fun o => keepc (Below.al (Below.refl _ wf) o) f0
      have g1 := fun o => keepc (Below.al (Below.refl _ wf) o) f1
      refine bodyPost_ret (v := .tuple #[.agg #[.int .u64 ih, .int .u64 il], .int .i64 frm, .int .i64 (j : Nat)]) (by simp [results, Try.results31, go_sem, g0, g1]) rfl ⟨rfl, Below.dr (Below.al hb2 _)⟩
    · have hv : kdp = V := by rw [HV.out, if_neg t1]
      subst hv
      clear HV
      have cp := ported_any kp
      generalize portedP kp = pp at *
      by_cases t2 : kind = 2
      · subst t2
        by_cases t3 : frm = 0
        · have t3b : (frm != 0) = false := by simp [t3]
          clear t1
          refine Lib.hid ?_
          subst t3
          go_wp2
          go_region
          go_wp2
          have hR2 := heap_set2 hR1 (.int .u64 ih) (.int .u64 il)
          have hb2 := below_set (below_set hb1 (B := w.heap.size + 1 + 1) (by omega) 0 (.int .u64 ih)) (B := w.heap.size + 1 + 1) (by omega) 1 (.int .u64 il)
          generalize (w1.setCell ⟨w.heap.size + 1 + 1, 0, none⟩ (.int .u64 ih)).setCell ⟨w.heap.size + 1 + 1, 1, none⟩ (.int .u64 il) = wf at *
          have hlf : w.heap.size + 1 + 1 < wf.heap.size := (Array.getElem?_eq_some_iff.1 hR2).1
          obtain ⟨f0, f1, _, _⟩ := cells2 hR2
          have g0 := fun o => keepc (Below.al (Below.refl _ wf) o) f0
          have g1 := fun o => keepc (Below.al (Below.refl _ wf) o) f1
          refine bodyPost_ret (v := .tuple #[.agg #[.int .u64 ih, .int .u64 il], .int .i64 kdp, .int .i64 (j : Nat)]) (by simp [results, Try.results31, go_sem, g0, g1]) rfl ⟨rfl, Below.dr (Below.al hb2 _)⟩
        · have t3b : (frm != 0) = true := by simp [t3]
          obtain rfl : pp = false := by cases pp with | true => exact absurd ⟨rfl, t3, rfl⟩ t1 | false => rfl
          clear t1
          refine Lib.hid ?_
          go_wp2_with (go_at_call 46; refine (cp _).mono ?_; rintro e w' ⟨rfl, rfl⟩)
          go_region
          go_wp2
          have hR2 := heap_set2 hR1 (.int .u64 ih) (.int .u64 il)
          have hb2 := below_set (below_set hb1 (B := w.heap.size + 1 + 1) (by omega) 0 (.int .u64 ih)) (B := w.heap.size + 1 + 1) (by omega) 1 (.int .u64 il)
          generalize (w1.setCell ⟨w.heap.size + 1 + 1, 0, none⟩ (.int .u64 ih)).setCell ⟨w.heap.size + 1 + 1, 1, none⟩ (.int .u64 il) = wf at *
          have hlf : w.heap.size + 1 + 1 < wf.heap.size := (Array.getElem?_eq_some_iff.1 hR2).1
          obtain ⟨f0, f1, _, _⟩ := cells2 hR2
          have g0 := fun o => keepc (Below.al (Below.refl _ wf) o) f0
          have g1 := fun o => keepc (Below.al (Below.refl _ wf) o) f1
          refine bodyPost_ret (v := .tuple #[.agg #[.int .u64 ih, .int .u64 il], .int .i64 kdp, .int .i64 (j : Nat)]) (by simp [results, Try.results31, go_sem, g0, g1]) rfl ⟨rfl, Below.dr (Below.al hb2 _)⟩
      · have t2b : (kind == 2) = false := by simp [t2]
        clear t1
        refine Lib.hid ?_
        go_wp2
        go_region
        go_wp2
        have hR2 := heap_set2 hR1 (.int .u64 ih) (.int .u64 il)
        have hb2 := below_set (below_set hb1 (B := w.heap.size + 1 + 1) (by omega) 0 (.int .u64 ih)) (B := w.heap.size + 1 + 1) (by omega) 1 (.int .u64 il)
        generalize (w1.setCell ⟨w.heap.size + 1 + 1, 0, none⟩ (.int .u64 ih)).setCell ⟨w.heap.size + 1 + 1, 1, none⟩ (.int .u64 il) = wf at *
        have hlf : w.heap.size + 1 + 1 < wf.heap.size := (Array.getElem?_eq_some_iff.1 hR2).1
        obtain ⟨f0, f1, _, _⟩ := cells2 hR2
        have g0 := fun o => keepc (Below.al (Below.refl _ wf) o) f0
        have g1 := fun o => keepc (Below.al (Below.refl _ wf) o) f1
        refine bodyPost_ret (v := .tuple #[.agg #[.int .u64 ih, .int .u64 il], .int .i64 kdp, .int .i64 (j : Nat)]) (by simp [results, Try.results31, go_sem, g0, g1]) rfl ⟨rfl, Below.dr (Below.al hb2 _)⟩
end Go.Proofs.Ytokbmahnjmmcaaa
