/- The document's Find; by-name template (gen_krfind.py). -/
import Derived.Test.YtomennaekjklbaaKMF
import Derived.Test.YtomennaekjklbaaKRBuild
import Derived.Test.YtomennaekjklbaaKFind2
namespace Go.Proofs.Ytomennaekjklbaa
open Go.RowKit Go.Lib Go.Sort
set_option linter.unusedVariables false
set_option linter.unusedSimpArgs false

theorem cells6f {w : World} {B : Nat} {x0 x1 x2 x3 x4 x5 : Value} {t : TypeId} (h : w.heap[B]? = some (.cells #[x0, x1, x2, x3, x4, x5] t (0, 0))) :
    w.cell? ⟨B, 0, none⟩ = some x0 ∧ w.cell? ⟨B, 1, none⟩ = some x1 ∧ w.cell? ⟨B, 2, none⟩ = some x2 ∧ w.cell? ⟨B, 3, none⟩ = some x3 ∧ w.cell? ⟨B, 4, none⟩ = some x4 ∧ w.cell? ⟨B, 5, none⟩ = some x5 := by
  refine ⟨?_, ?_, ?_, ?_, ?_, ?_⟩ <;> simp [World.cell?, h]
/-- How far down: what is found from here, and what was visited. -/
def Down (p : Nat → P2) (R : Int × Nat × Nat) (base : Nat) (w : World) (k : Nat) (B : Nat) : Prop := ∃ t : TN, RNode base w t B ∧ t.fOk ∧ k + t.count ≤ 4096 ∧ (∀ l, l ∈ t.leafs → l.length ≤ 4096) ∧ R = ((rfindP p t).1, (rfindP p t).2.1 + k, (rfindP p t).2.2)
theorem Down.keep {p : Nat → P2} {R : Int × Nat × Nat} {base : Nat} {w w' : World} {k B : Nat} (h : Down p R base w k B) (hb : Below w.heap.size w w') : Down p R base w' k B := by
  obtain ⟨t, h1, h2⟩ := h
  exact ⟨t, h1.keep hb, h2⟩
theorem Down.low {p : Nat → P2} {R : Int × Nat × Nat} {base : Nat} {w : World} {k B1 : Nat} {f : Nat} {a : P2} {bx : Nat → R4} {lo hi : TN} (h1 : RNode base w lo B1) (h2 : (TN.inner f a bx lo hi).fOk) (h3 : k + (TN.inner f a bx lo hi).count ≤ 4096) (h4 : ∀ l, l ∈ (TN.inner f a bx lo hi).leafs → l.length ≤ 4096)
    (h5 : R = ((rfindP p (.inner f a bx lo hi)).1, (rfindP p (.inner f a bx lo hi)).2.1 + k, (rfindP p (.inner f a bx lo hi)).2.2)) (hg : goL (p f) a = true) : Down p R base w (k + 1) B1 := by
  refine ⟨lo, h1, h2.2.1, by simp only [TN.count] at h3; omega, fun l h => h4 l (by simp [TN.leafs, h]), ?_⟩
  rw [h5]; simp only [rfindP]; rw [if_pos hg]
  simp only [Prod.mk.injEq, true_and, and_true]; omega
theorem Down.high {p : Nat → P2} {R : Int × Nat × Nat} {base : Nat} {w : World} {k B2 : Nat} {f : Nat} {a : P2} {bx : Nat → R4} {lo hi : TN} (h1 : RNode base w hi B2) (h2 : (TN.inner f a bx lo hi).fOk) (h3 : k + (TN.inner f a bx lo hi).count ≤ 4096) (h4 : ∀ l, l ∈ (TN.inner f a bx lo hi).leafs → l.length ≤ 4096)
    (h5 : R = ((rfindP p (.inner f a bx lo hi)).1, (rfindP p (.inner f a bx lo hi)).2.1 + k, (rfindP p (.inner f a bx lo hi)).2.2)) (hg : goL (p f) a = false) : Down p R base w (k + 1) B2 := by
  refine ⟨hi, h1, h2.2.2, by simp only [TN.count] at h3; omega, fun l h => h4 l (by simp [TN.leafs, h]), ?_⟩
  rw [h5]; simp only [rfindP]; rw [if_neg (by rw [hg]; simp)]
  simp only [Prod.mk.injEq, true_and, and_true]; omega
theorem down_leaf {p : Nat → P2} {R : Int × Nat × Nat} {k : Nat} {l : List EN} (h : R = ((rfindP p (.leaf l)).1, (rfindP p (.leaf l)).2.1 + k, (rfindP p (.leaf l)).2.2)) : R = ((leafF l p).1, k + 1, (leafF l p).2) := by
  rw [h]; simp only [rfindP, Prod.mk.injEq, true_and, and_true]; omega

set_option maxRecDepth 100000 in
set_option maxHeartbeats 8000000 in
theorem rfind_any (p : Nat → P2) (T : Nat) (l : List EN) (t : TN) (hbig : t.count ≤ 4096) (hl : ∀ l, l ∈ t.leafs → l.length ≤ 4096) (hf : t.fOk) (w : World) (hT : RTreeAt w T l t) : Calls Try.prog 21 #[.pointer (some ⟨T, 0, none⟩), .agg (ptc p)] w (FindPost w (rfindP p t)) := by
  obtain ⟨B, A, c, base, hB, _, _, _, hN⟩ := hT
  obtain ⟨M, hM⟩ : ∃ M, M = FindPost w (rfindP p t) := ⟨_, rfl⟩
  rw [← hM]
  obtain ⟨R, hR⟩ : ∃ R, R = rfindP p t := ⟨_, rfl⟩
  rw [← hR] at hM
  have FIN0 : ∀ (a : Int) (b c : Nat) (W : World), R = (a, b, c) → Below w.heap.size w W → M (.returned (.tuple #[.int .i64 a, .int .i64 b, .int .i64 c])) W := fun a b c W h hW => by rw [hM, h]; exact ⟨rfl, hW⟩
  have FIN := Lib.hid FIN0
  clear FIN0 hM
  have hD0 : Down p R base w 0 B := ⟨t, hN, hf, by omega, hl, hR.trans rfl⟩
  clear hR hN hf hl hbig
  have iC := inf38 p
  have cr := fun (x : EN) (W : World) => rhasPoint_any x.bx p W
  have hPA : ∀ w : World, PtAt (w.alloc (.cells (ptc p) 68)) w.heap.size p := fun w => PtAt.of (t := 68) (heap_alloc_new w _)
  obtain ⟨C, hC⟩ : ∃ C, C = ptc p := ⟨_, rfl⟩
  simp only [← hC] at cr hPA
  rw [← hC] at iC ⊢
  have iC := Lib.hid iC
  clear hC
  have hP := heap_alloc_new w (.cells C 68)
  have hpt := hPA w
  have b0 := Below.al (Below.refl w.heap.size w) (.cells C 68)
  have hB0 := blkB b0 hB
  have hD := hD0.keep b0
  clear hPA hD0 hB
  obtain ⟨x0, x1, x2, _⟩ := cells3 hB0
  go_enter Try.func21, Try.ntmps21
  go_upto_region 1 with fail
  obtain ⟨w0, hw0⟩ : ∃ w0, w0 = w.alloc (.cells C 68) := ⟨_, rfl⟩
  rw [← hw0] at hP hpt b0 hB0 hD x0 x1 x2 ⊢
  clear hw0
  go_wp2_with fail
  go_loopw [7, 8, 9] (fun v7 v8 v9 wr => ∃ k B' : Nat, v7 = .pointer (some ⟨B', 0, none⟩) ∧ v8 = .int .i64 ((k : Int) + 1) ∧ Hid (Down p R base wr k B') ∧ k ≤ 4096 ∧ Below w0.heap.size w0 wr) (fun v7 v8 v9 _ => 8192 - (intOf v8).toNat)
  case atStart => exact ⟨0, B, rfl, rfl, Lib.hid hD, by omega, Below.refl _ _⟩
  case round =>
    obtain ⟨k, B', rfl, rfl, HD, hk, bw⟩ := hrel
    obtain ⟨t', hN, hf, hbig, hl, hR⟩ := HD.out
    clear HD
    cases t' with
    | inner f a bx lo hi =>
      obtain ⟨hb0, B1, B2, hBlk, hN1, hN2⟩ := hN
      obtain ⟨c0, c1, c2, c3, c4, c5⟩ := cells6f hBlk
      obtain ⟨y0, y1⟩ := (hpt.keep bw) f hf.1
      have hf6 := hf.1
      have hf6i : (f : Int) < 6 := by omega
      have hk1 : k + 1 ≤ 4096 := by have := lo.count_pos; simp only [TN.count] at hbig; omega
      have HL := fun (W : World) (h : Below wr.heap.size wr W) (hg : goL (p f) a = true) => Lib.hid (Down.low (p := p) (hN1.keep h) hf hbig hl hR hg)
      have HH := fun (W : World) (h : Below wr.heap.size wr W) (hg : goL (p f) a = false) => Lib.hid (Down.high (p := p) (hN2.keep h) hf hbig hl hR hg)
      have HL := Lib.hid HL
      have HH := Lib.hid HH
      clear hN1 hN2 hR hl hbig hBlk hf hD
      have hgi := goL_iff (p f) a
      generalize (p f).h = ph at *
      generalize (p f).l = pl at *
      generalize goL (p f) a = gg at *
      obtain ⟨ah, al⟩ := a
      simp only at hgi c2 c3
      by_cases e1 : ph < ah
      · obtain rfl : gg = true := hgi.2 (.inl e1)
        have d1 : decide (ph < ah) = true := by simp [e1]
        clear hgi HH
        go_upto_region 6 with fail
        generalize hwx : wr.alloc (.cells #[.int .u64 ph, .int .u64 pl] 25) = wx
        have hbx : Below wr.heap.size wr wx := by rw [← hwx]; exact Below.al (Below.refl _ _) _
        have hX0 : wx.heap[wr.heap.size]? = some (.cells #[.int .u64 ph, .int .u64 pl] 25 (0, 0)) := by rw [← hwx]; exact heap_alloc_new wr _
        obtain ⟨z0, z1, _, _⟩ := cells2 hX0
        clear hwx
        replace c2 := keepc hbx c2
        replace c3 := keepc hbx c3
        replace c4 := keepc hbx c4
        replace c5 := keepc hbx c5
        have k_c2 := cell_regrown c2
        have k_c3 := cell_regrown c3
        have k_z0 := cell_regrown z0
        have k_z1 := cell_regrown z1
        refine wp_region_quiet_below (by kernel_rfl) (by kernel_rfl) ?_
        repeat (first | go_big_quiet_skip | quiet_step (fail))
        refine wpQuiet_nil ?_
        intro _ hw'
        obtain ⟨⟨dq, osq⟩, hw''⟩ := hw'
        subst hw''
        have hbq := below_regrown wx dq osq
        obtain ⟨wq, hwy⟩ : ∃ x, x = grow (redrawn wx dq) osq := ⟨_, rfl⟩
        rw [← hwy] at hbq ⊢
        clear hwy
        clear k_c2 k_c3 k_z0 k_z1
        replace c4 := keepc hbq c4
        replace c5 := keepc hbq c5
        have hz := bel_via hbx hbq
        go_wp2_with fail
        refine ⟨?_, by simp [intOf]; omega⟩
        have hn1 := HL.out wq hz rfl
        first | exact ⟨k + 1, _, rfl, by simp, hn1, by omega, bel_via bw hz⟩ | ((repeat apply Exists.intro); exact ⟨⟨k + 1, _, rfl, by simp, hn1, by omega, bel_via bw hz⟩, rfl⟩)
      · by_cases e2 : ph = ah
        · subst e2
          by_cases e3 : pl ≤ al
          · obtain rfl : gg = true := hgi.2 (.inr ⟨rfl, e3⟩)
            have d1 : decide (ph < ph) = false := by simp
            have d3 : decide (pl ≤ al) = true := by simp [e3]
            clear hgi HH
            go_upto_region 6 with fail
            generalize hwx : wr.alloc (.cells #[.int .u64 ph, .int .u64 pl] 25) = wx
            have hbx : Below wr.heap.size wr wx := by rw [← hwx]; exact Below.al (Below.refl _ _) _
            have hX0 : wx.heap[wr.heap.size]? = some (.cells #[.int .u64 ph, .int .u64 pl] 25 (0, 0)) := by rw [← hwx]; exact heap_alloc_new wr _
            obtain ⟨z0, z1, _, _⟩ := cells2 hX0
            clear hwx
            replace c2 := keepc hbx c2
            replace c3 := keepc hbx c3
            replace c4 := keepc hbx c4
            replace c5 := keepc hbx c5
            have k_c2 := cell_regrown c2
            have k_c3 := cell_regrown c3
            have k_z0 := cell_regrown z0
            have k_z1 := cell_regrown z1
            refine wp_region_quiet_below (by kernel_rfl) (by kernel_rfl) ?_
            repeat (first | go_big_quiet_skip | quiet_step (fail))
            refine wpQuiet_nil ?_
            intro _ hw'
            obtain ⟨⟨dq, osq⟩, hw''⟩ := hw'
            subst hw''
            have hbq := below_regrown wx dq osq
            obtain ⟨wq, hwy⟩ : ∃ x, x = grow (redrawn wx dq) osq := ⟨_, rfl⟩
            rw [← hwy] at hbq ⊢
            clear hwy
            clear k_c2 k_c3 k_z0 k_z1
            replace c4 := keepc hbq c4
            replace c5 := keepc hbq c5
            have hz := bel_via hbx hbq
            go_wp2_with fail
            refine ⟨?_, by simp [intOf]; omega⟩
            have hn1 := HL.out wq hz rfl
            first | exact ⟨k + 1, _, rfl, by simp, hn1, by omega, bel_via bw hz⟩ | ((repeat apply Exists.intro); exact ⟨⟨k + 1, _, rfl, by simp, hn1, by omega, bel_via bw hz⟩, rfl⟩)
          · obtain rfl : gg = false := by rw [Bool.eq_false_iff]; intro h; rcases hgi.1 h with h | h <;> omega
            have d1 : decide (ph < ph) = false := by simp
            have d3 : decide (pl ≤ al) = false := by simp [e3]
            clear hgi HL
            go_upto_region 6 with fail
            generalize hwx : wr.alloc (.cells #[.int .u64 ph, .int .u64 pl] 25) = wx
            have hbx : Below wr.heap.size wr wx := by rw [← hwx]; exact Below.al (Below.refl _ _) _
            have hX0 : wx.heap[wr.heap.size]? = some (.cells #[.int .u64 ph, .int .u64 pl] 25 (0, 0)) := by rw [← hwx]; exact heap_alloc_new wr _
            obtain ⟨z0, z1, _, _⟩ := cells2 hX0
            clear hwx
            replace c2 := keepc hbx c2
            replace c3 := keepc hbx c3
            replace c4 := keepc hbx c4
            replace c5 := keepc hbx c5
            have k_c2 := cell_regrown c2
            have k_c3 := cell_regrown c3
            have k_z0 := cell_regrown z0
            have k_z1 := cell_regrown z1
            refine wp_region_quiet_below (by kernel_rfl) (by kernel_rfl) ?_
            repeat (first | go_big_quiet_skip | quiet_step (fail))
            refine wpQuiet_nil ?_
            intro _ hw'
            obtain ⟨⟨dq, osq⟩, hw''⟩ := hw'
            subst hw''
            have hbq := below_regrown wx dq osq
            obtain ⟨wq, hwy⟩ : ∃ x, x = grow (redrawn wx dq) osq := ⟨_, rfl⟩
            rw [← hwy] at hbq ⊢
            clear hwy
            clear k_c2 k_c3 k_z0 k_z1
            replace c4 := keepc hbq c4
            replace c5 := keepc hbq c5
            have hz := bel_via hbx hbq
            go_wp2_with fail
            refine ⟨?_, by simp [intOf]; omega⟩
            have hn1 := HH.out wq hz rfl
            first | exact ⟨k + 1, _, rfl, by simp, hn1, by omega, bel_via bw hz⟩ | ((repeat apply Exists.intro); exact ⟨⟨k + 1, _, rfl, by simp, hn1, by omega, bel_via bw hz⟩, rfl⟩)
        · obtain rfl : gg = false := by rw [Bool.eq_false_iff]; intro h; rcases hgi.1 h with h | h <;> omega
          have d1 : decide (ph < ah) = false := by simp; omega
          have d2 : (ph == ah) = false := by simp [e2]
          have d4 : decide (ph = ah) = false := by simp [e2]
          clear hgi HL
          go_upto_region 6 with fail
          generalize hwx : wr.alloc (.cells #[.int .u64 ph, .int .u64 pl] 25) = wx
          have hbx : Below wr.heap.size wr wx := by rw [← hwx]; exact Below.al (Below.refl _ _) _
          have hX0 : wx.heap[wr.heap.size]? = some (.cells #[.int .u64 ph, .int .u64 pl] 25 (0, 0)) := by rw [← hwx]; exact heap_alloc_new wr _
          obtain ⟨z0, z1, _, _⟩ := cells2 hX0
          clear hwx
          replace c2 := keepc hbx c2
          replace c3 := keepc hbx c3
          replace c4 := keepc hbx c4
          replace c5 := keepc hbx c5
          have k_c2 := cell_regrown c2
          have k_c3 := cell_regrown c3
          have k_z0 := cell_regrown z0
          have k_z1 := cell_regrown z1
          refine wp_region_quiet_below (by kernel_rfl) (by kernel_rfl) ?_
          repeat (first | go_big_quiet_skip | quiet_step (fail))
          refine wpQuiet_nil ?_
          intro _ hw'
          obtain ⟨⟨dq, osq⟩, hw''⟩ := hw'
          subst hw''
          have hbq := below_regrown wx dq osq
          obtain ⟨wq, hwy⟩ : ∃ x, x = grow (redrawn wx dq) osq := ⟨_, rfl⟩
          rw [← hwy] at hbq ⊢
          clear hwy
          clear k_c2 k_c3 k_z0 k_z1
          replace c4 := keepc hbq c4
          replace c5 := keepc hbq c5
          have hz := bel_via hbx hbq
          go_wp2_with fail
          refine ⟨?_, by simp [intOf]; omega⟩
          have hn1 := HH.out wq hz rfl
          first | exact ⟨k + 1, _, rfl, by simp, hn1, by omega, bel_via bw hz⟩ | ((repeat apply Exists.intro); exact ⟨⟨k + 1, _, rfl, by simp, hn1, by omega, bel_via bw hz⟩, rfl⟩)
    | leaf q =>
      obtain ⟨hb0, A', c', hBlk, hc', _, hS⟩ := hN
      obtain ⟨c0, c1, c2, c3, c4, c5⟩ := cells6f hBlk
      have hR' := down_leaf hR
      have hq := hl q (by simp [TN.leafs])
      have hk4 : k + 1 ≤ 4096 := by simp only [TN.count] at hbig; exact hbig
      have FIN1 : ∀ (i n : Nat) (a : Int) (W : World), leafF q p = (a, n) → Below wr.heap.size wr W → M (.returned (.tuple #[.int .i64 a, .int .i64 ((k : Int) + 1), .int .i64 n])) W := fun i n a W h hW => FIN.out a (k + 1) n W (by rw [hR', h]) (bel_via b0 (bel_via bw hW))
      have FIN2 := Lib.hid FIN1
      have HPw := blkB bw hP
      clear FIN FIN1 hR hR' hl hbig hf hD b0 bw hP hpt hB0 x0 x1 x2
      obtain ⟨n, hn⟩ : ∃ n, n = q.length := ⟨_, rfl⟩
      simp only [← hn] at hBlk c0 hc' hS hq
      have HLN := Lib.hid hn
      clear hn
      obtain ⟨w1, hw1⟩ : ∃ x, x = wr := ⟨_, rfl⟩
      subst hw1
      go_wp2_with fail
      go_loopw [10] (fun v10 wr => ∃ i : Nat, v10 = .int .i64 i ∧ i ≤ n ∧ Hid (∀ j x, j < i → q[j]? = some x → hpB x.bx p = false) ∧ Below w1.heap.size w1 wr) (fun v10 _ => n - (intOf v10).toNat)
      case atStart => exact ⟨0, rfl, by omega, Lib.hid (fun j x h => absurd h (Nat.not_lt_zero _)), Below.refl _ _⟩
      case round =>
        obtain ⟨i, rfl, hi, HA, bw⟩ := hrel
        obtain ⟨c0, c1, c2, c3, c4, c5⟩ := cells6f (blkB bw hBlk)
        by_cases hlt : i < n
        · have hml : i < q.length := by rw [← HLN.out]; exact hlt
          obtain ⟨x, hx⟩ : ∃ x, q[i]? = some x := ⟨_, List.getElem?_eq_getElem hml⟩
          obtain ⟨b', off, hA1, _, hrow⟩ := hS.row (by omega)
          have hcell := en_cells hrow hx
          have hru := hrow i x hx 24 _ rfl
          have cx := cr x
          have iE := inf29 x.bx
          obtain ⟨H, hH⟩ : ∃ H, H = hpB x.bx p := ⟨_, rfl⟩
          simp only [← hH] at cx
          generalize bxc x.bx = E at *
          have iE := Lib.hid iE
          have HH := Lib.hid hH; clear hH
          have HX := Lib.hid hx; clear hx
          have e0 : ∀ j v, E.toList[j]? = some v → wr.cell? ((⟨b', off + i * 25, none⟩ : Addr).add j) = some v := fun j v hj => keepc bw (hcell j v hj)
          have e1 := keepc bw hru
          have hPw := blkB bw HPw
          subst hA1
          have hlti : (i : Int) < (n : Int) := by omega
          have hdn : decide (i < n) = true := by simp [hlt]
          clear hrow hcell hru hS hBlk
          have e0 := Lib.hid e0
          go_wp2_with fail
          have q1 := fun d os => Calls.regrown_of (cx (grow (redrawn wr d) os))
          have k_c0 := cell_regrown c0
          refine wp_region_quiet_below (by kernel_rfl) (by kernel_rfl) ?_
          repeat (first | go_big_quiet_skip | (refine quiet_load_cells (by rfl) 30 (.tmp 80) rfl ⟨b', off + i * 25, none⟩ rfl E _ (rg_cells e0.out) Try.underlying30 rfl iE.out ?_; simp only [Act.put, List.setIfInBounds_toArray, List.set_cons_succ, List.set_cons_zero]) | (refine quiet_load_row (by rfl) 68 (.tmp 3) rfl w.heap.size rfl 68 C (0, 0) _ (rg_heap hPw) Try.underlying68 rfl iC.out ?_; simp only [Act.put, List.setIfInBounds_toArray, List.set_cons_succ, List.set_cons_zero]) | quiet_step (first | (go_at_call 30; with_reducible exact q1 _ _)))
          refine wpQuiet_nil ?_
          intro _ hw'
          obtain ⟨⟨dq, osq⟩, hw''⟩ := hw'
          subst hw''
          have hbq := below_regrown wr dq osq
          obtain ⟨wq, hwy⟩ : ∃ x, x = grow (redrawn wr dq) osq := ⟨_, rfl⟩
          rw [← hwy] at hbq ⊢
          clear hwy
          clear q1 cx cr
          cases H with
          | false =>
            replace c0 := keepc hbq c0
            go_wp2_with fail
            refine ⟨?_, by simp [intOf]; omega⟩
            have hn1 : Hid (∀ j x, j < i + 1 → q[j]? = some x → hpB x.bx p = false) := Lib.hid fun j y hj hy => by
              by_cases e : j = i
              · subst e; have := HX.out; rw [hy] at this; cases this; exact HH.out.symm
              · exact HA.out j y (by omega) hy
            first | exact ⟨i + 1, by simp, by omega, hn1, bel_via bw hbq⟩ | ((repeat apply Exists.intro); exact ⟨⟨i + 1, by simp, by omega, hn1, bel_via bw hbq⟩, rfl⟩)
          | true =>
            have hlf := leaf_hit HX.out HH.out.symm (fun j y hj hy => HA.out j y hj hy)
            have e2 := keepc hbq e1
            replace c0 := keepc hbq c0
            have FN := FIN2.out i (i + 1) x.ru wq hlf (bel_via bw hbq)
            have FN := Lib.hid FN
            clear hlf
            go_wp2_with fail
            first | exact FN.out | (simp [bodyPost, results, Try.results21, go_sem]; exact FN.out) | (go_ret; exact FN.out)
        · obtain rfl : i = n := by omega
          have hd0 : decide (i < i) = false := by simp
          have hdi : decide ((i : Int) < (i : Int)) = false := by simp
          have hlf : leafF q p = (-1, q.length) := leaf_miss (fun j x hx => HA.out j x (by rw [HLN.out]; exact (List.getElem?_eq_some_iff.1 hx).1) hx)
          have FN := fun W hW => FIN2.out i i (-1) W (by rw [hlf, ← HLN.out]) (bel_via bw hW)
          have FN := Lib.hid FN
          clear hlf
          go_upto_region 14 with fail
          have k_c0 := cell_regrown c0
          refine wp_region_quiet_below (by kernel_rfl) (by kernel_rfl) ?_
          repeat (first | go_big_quiet_skip | quiet_step (fail))
          refine wpQuiet_nil ?_
          intro _ hw'
          obtain ⟨⟨dq, osq⟩, hw''⟩ := hw'
          subst hw''
          have hbq := below_regrown wr dq osq
          obtain ⟨wq, hwy⟩ : ∃ x, x = grow (redrawn wr dq) osq := ⟨_, rfl⟩
          rw [← hwy] at hbq ⊢
          clear hwy
          have FN := Lib.hid (FN.out wq hbq)
          go_wp2_with fail
          first | exact FN.out | (simp [bodyPost, results, Try.results21, go_sem]; exact FN.out) | (go_ret; exact FN.out)
end Go.Proofs.Ytomennaekjklbaa
