/- The document's translations; by-name template (gen_rdoc3.py). -/
import Derived.Test.YtokbmahnjmmcaaaRDoc2
import Derived.Test.YtokbmahnjmmcaaaRDest
namespace Go.Proofs.Ytokbmahnjmmcaaa
open Go.Shelf Go.RowKit Go.Lib Go.Sort
set_option linter.unusedVariables false
set_option linter.unusedSimpArgs false

set_option maxHeartbeats 8000000 in
set_option maxRecDepth 100000 in
theorem rsource_any (c : CF) (x : Int) (k : KR) {w : World} (hc : c.Ok w) (ha : Word k.sh ∧ Word k.sl) :
    Calls Try.prog 26 #[.agg (cfc c), .int .i64 x, .agg (krc k).toArray] w fun e w' => e = .returned (.int .i64 (srcP c x k)) ∧ Below w.heap.size w w' := by
  obtain ⟨w0, hw0⟩ : ∃ w0, w0 = (w.alloc (.cells (cfc c) 30)).alloc (.cells (krc k).toArray 35) := ⟨_, rfl⟩
  have hb : Below w.heap.size w w0 := by rw [hw0]; exact Below.al (Below.al (Below.refl _ _) _) _
  have hC : ∀ w', Below w0.heap.size w0 w' → CfB w' w.heap.size c ∧ KeB w' (w.heap.size + 1) 0 k := by
    intro w' h
    refine ⟨CfB.keep ?_ h, KeB.keep ?_ h⟩
    · rw [hw0]; exact (CfB.made w c).keep (Below.al (Below.refl _ _) _)
    · rw [hw0]; have := KeB.made (w.alloc (.cells (cfc c) 30)) k; simpa using this
  have hS := hc.n.keep hb
  have hnw := hc.nw
  have hbig := hS.big
  have hlen := hS.len
  have Hlen := Lib.hid hlen
  have hok := fun (W : World) (hW : Below w0.heap.size w0 W) => (hc.keep hb).keep hW
  obtain ⟨V, hV⟩ : ∃ V, V = srcP c x k := ⟨_, rfl⟩
  rw [← hV]
  have HV := Lib.hid hV
  clear hV hc hlen
  obtain ⟨kp, ksh, ksl, kdh, kdl, ksp, kdp⟩ := k
  simp only [cfc, krc, Nat.zero_add] at *
  go_enter Try.func26, Try.ntmps26
  go_wp2
  rw [← hw0]
  clear hw0
  go_loopw [7] (fun vi wr => ∃ i : Nat, i ≤ c.nn ∧ vi = .int .i64 i ∧ Below w0.heap.size w0 wr ∧ Aside (∀ (j : Nat) (n : NR), j < i → c.ns[j]? = some n → (namedP c x n.zn && sourceP c ksh ksl n) = false)) (fun vi _ => c.nn - (intOf vi).toNat)
  case atStart => exact ⟨0, by omega, rfl, Below.refl _ _, fun j z hj => absurd hj (Nat.not_lt_zero _)⟩
  case round =>
    obtain ⟨i, hi, rfl, hbr, N⟩ := hrel
    obtain ⟨⟨c0, c1, c2, c3, c4, c5, c6, c7⟩, k0, k1, k2, k3, k4, k5, k6⟩ := hC wr hbr
    simp only [Nat.zero_add] at k0 k1 k2 k3 k4 k5 k6
    have hm0 : w.heap.size < wr.heap.size := World.block_lt_of_cell? _ _ c0
    have hm1 : w.heap.size + 1 < wr.heap.size := World.block_lt_of_cell? _ _ k0
    have hb1 := bel_via hb hbr
    by_cases hlt : i < c.nn
    · have hlti : (i : Int) < (c.nn : Int) := by omega
      obtain ⟨b, off, hA, hblt, hrow⟩ := hS.row (by omega)
      have hml : i < c.ns.length := by rw [Hlen.out]; omega
      obtain ⟨n, hn⟩ : ∃ s, c.ns[i]? = some s := ⟨_, List.getElem?_eq_getElem hml⟩
      have r0 : wr.cell? ⟨b, off + i * 10, none⟩ = some (.int .i64 n.kind) := keepc hbr (hrow i n hn 0 _ rfl)
      have r1 := keepc hbr (hrow i n hn 1 _ rfl)
      have r2 := keepc hbr (hrow i n hn 2 _ rfl)
      have r3 := keepc hbr (hrow i n hn 3 _ rfl)
      have r4 := keepc hbr (hrow i n hn 4 _ rfl)
      have r5 := keepc hbr (hrow i n hn 5 _ rfl)
      have r6 := keepc hbr (hrow i n hn 6 _ rfl)
      have r7 := keepc hbr (hrow i n hn 7 _ rfl)
      have r8 := keepc hbr (hrow i n hn 8 _ rfl)
      have r9 := keepc hbr (hrow i n hn 9 _ rfl)
      have hlt1 : b < wr.heap.size := Nat.lt_of_lt_of_le hblt hbr.size
      have hnw1 := hnw n (List.mem_of_getElem? hn)
      have HN := Lib.hid hn
      have hok1 := fun (W : World) (hW : Below wr.heap.size wr W) => hok W (bel_via hbr hW)
      have hb2 : Below wr.heap.size wr (wr.alloc (Obj.cells #[Value.int IntKind.i64 n.kind, Value.string n.zn, Value.string n.ob, Value.string n.sv, Value.int IntKind.u64 n.oh, Value.int IntKind.u64 n.ol, Value.int IntKind.u64 n.ih, Value.int IntKind.u64 n.il, Value.int IntKind.i64 n.frm, Value.int IntKind.i64 n.til] 49)) := Below.al (Below.refl _ _) _
      have n0 : (wr.alloc (Obj.cells #[Value.int IntKind.i64 n.kind, Value.string n.zn, Value.string n.ob, Value.string n.sv, Value.int IntKind.u64 n.oh, Value.int IntKind.u64 n.ol, Value.int IntKind.u64 n.ih, Value.int IntKind.u64 n.il, Value.int IntKind.i64 n.frm, Value.int IntKind.i64 n.til] 49)).cell? ⟨wr.heap.size, 0, none⟩ = some (.int .i64 n.kind) := by simp [go_sem]
      have n1 : (wr.alloc (Obj.cells #[Value.int IntKind.i64 n.kind, Value.string n.zn, Value.string n.ob, Value.string n.sv, Value.int IntKind.u64 n.oh, Value.int IntKind.u64 n.ol, Value.int IntKind.u64 n.ih, Value.int IntKind.u64 n.il, Value.int IntKind.i64 n.frm, Value.int IntKind.i64 n.til] 49)).cell? ⟨wr.heap.size, 1, none⟩ = some (.string n.zn) := by simp [go_sem]
      have n2 : (wr.alloc (Obj.cells #[Value.int IntKind.i64 n.kind, Value.string n.zn, Value.string n.ob, Value.string n.sv, Value.int IntKind.u64 n.oh, Value.int IntKind.u64 n.ol, Value.int IntKind.u64 n.ih, Value.int IntKind.u64 n.il, Value.int IntKind.i64 n.frm, Value.int IntKind.i64 n.til] 49)).cell? ⟨wr.heap.size, 2, none⟩ = some (.string n.ob) := by simp [go_sem]
      have n3 : (wr.alloc (Obj.cells #[Value.int IntKind.i64 n.kind, Value.string n.zn, Value.string n.ob, Value.string n.sv, Value.int IntKind.u64 n.oh, Value.int IntKind.u64 n.ol, Value.int IntKind.u64 n.ih, Value.int IntKind.u64 n.il, Value.int IntKind.i64 n.frm, Value.int IntKind.i64 n.til] 49)).cell? ⟨wr.heap.size, 3, none⟩ = some (.string n.sv) := by simp [go_sem]
      have n4 : (wr.alloc (Obj.cells #[Value.int IntKind.i64 n.kind, Value.string n.zn, Value.string n.ob, Value.string n.sv, Value.int IntKind.u64 n.oh, Value.int IntKind.u64 n.ol, Value.int IntKind.u64 n.ih, Value.int IntKind.u64 n.il, Value.int IntKind.i64 n.frm, Value.int IntKind.i64 n.til] 49)).cell? ⟨wr.heap.size, 4, none⟩ = some (.int .u64 n.oh) := by simp [go_sem]
      have n5 : (wr.alloc (Obj.cells #[Value.int IntKind.i64 n.kind, Value.string n.zn, Value.string n.ob, Value.string n.sv, Value.int IntKind.u64 n.oh, Value.int IntKind.u64 n.ol, Value.int IntKind.u64 n.ih, Value.int IntKind.u64 n.il, Value.int IntKind.i64 n.frm, Value.int IntKind.i64 n.til] 49)).cell? ⟨wr.heap.size, 5, none⟩ = some (.int .u64 n.ol) := by simp [go_sem]
      have n6 : (wr.alloc (Obj.cells #[Value.int IntKind.i64 n.kind, Value.string n.zn, Value.string n.ob, Value.string n.sv, Value.int IntKind.u64 n.oh, Value.int IntKind.u64 n.ol, Value.int IntKind.u64 n.ih, Value.int IntKind.u64 n.il, Value.int IntKind.i64 n.frm, Value.int IntKind.i64 n.til] 49)).cell? ⟨wr.heap.size, 6, none⟩ = some (.int .u64 n.ih) := by simp [go_sem]
      have n7 : (wr.alloc (Obj.cells #[Value.int IntKind.i64 n.kind, Value.string n.zn, Value.string n.ob, Value.string n.sv, Value.int IntKind.u64 n.oh, Value.int IntKind.u64 n.ol, Value.int IntKind.u64 n.ih, Value.int IntKind.u64 n.il, Value.int IntKind.i64 n.frm, Value.int IntKind.i64 n.til] 49)).cell? ⟨wr.heap.size, 7, none⟩ = some (.int .u64 n.il) := by simp [go_sem]
      have n8 : (wr.alloc (Obj.cells #[Value.int IntKind.i64 n.kind, Value.string n.zn, Value.string n.ob, Value.string n.sv, Value.int IntKind.u64 n.oh, Value.int IntKind.u64 n.ol, Value.int IntKind.u64 n.ih, Value.int IntKind.u64 n.il, Value.int IntKind.i64 n.frm, Value.int IntKind.i64 n.til] 49)).cell? ⟨wr.heap.size, 8, none⟩ = some (.int .i64 n.frm) := by simp [go_sem]
      have n9 : (wr.alloc (Obj.cells #[Value.int IntKind.i64 n.kind, Value.string n.zn, Value.string n.ob, Value.string n.sv, Value.int IntKind.u64 n.oh, Value.int IntKind.u64 n.ol, Value.int IntKind.u64 n.ih, Value.int IntKind.u64 n.il, Value.int IntKind.i64 n.frm, Value.int IntKind.i64 n.til] 49)).cell? ⟨wr.heap.size, 9, none⟩ = some (.int .i64 n.til) := by simp [go_sem]
      obtain ⟨wq, hwq⟩ : ∃ wq, wq = wr.alloc (Obj.cells #[Value.int IntKind.i64 n.kind, Value.string n.zn, Value.string n.ob, Value.string n.sv, Value.int IntKind.u64 n.oh, Value.int IntKind.u64 n.ol, Value.int IntKind.u64 n.ih, Value.int IntKind.u64 n.il, Value.int IntKind.i64 n.frm, Value.int IntKind.i64 n.til] 49) := ⟨_, rfl⟩
      rw [← hwq] at hb2 n0 n1 n2 n3 n4 n5 n6 n7 n8 n9
      have cb := rnamed_any c x n.zn (hok1 wq hb2)
      have cs := fun (W : World) (hW : Below wr.heap.size wr W) => rwithin_any c n.ob ksh ksl (hok1 W hW)
      have ci := fun W => ris4_any n.oh n.ol hnw1.1 hnw1.2 W
      have ca := fun W => ris4_any ksh ksl ha.1 ha.2 W
      have hsp : sourceP c ksh ksl n = if n.kind = 3 then (n.ih == ksh && n.il == ksl) else if n.kind = 1 then withinP c n.ob ksh ksl && (is4I n.oh n.ol == is4I ksh ksl) else false := rfl
      obtain ⟨Q, hQ⟩ : ∃ Q, Q = namedP c x n.zn := ⟨_, rfl⟩
      obtain ⟨R, hR⟩ : ∃ R, R = withinP c n.ob ksh ksl := ⟨_, rfl⟩
      obtain ⟨I, hI⟩ : ∃ I, I = is4I n.oh n.ol := ⟨_, rfl⟩
      obtain ⟨J, hJ⟩ : ∃ J, J = is4I ksh ksl := ⟨_, rfl⟩
      rw [← hQ] at cb
      rw [← hR] at cs hsp
      rw [← hI] at ci hsp
      rw [← hJ] at ca hsp
      have HQ := Lib.hid hQ
      have HSP := Lib.hid hsp
      have hAi := hA
      rw [hA] at c5
      clear hQ hR hI hJ hsp hn hrow hS hml hC hok hok1 hnw1 hblt hA
      obtain ⟨kind, zn, ob, sv, oh, ol, ih, il, frm, til⟩ := n
      simp only [cfc] at cb cs
      simp only at *
      rw [hAi] at cb cs
      clear hAi
      go_wp2_with (go_at_call 41; rw [← hwq]; with_reducible refine cb.mono ?_; rintro e w3 ⟨rfl, hb3⟩; refine Hid.out ?_)
      have hb23 := bel_via hb2 hb3
      have d0 := keepc hb23 c0
      have d1 := keepc hb23 c1
      have d2 := keepc hb23 c2
      have d3 := keepc hb23 c3
      have d4 := keepc hb23 c4
      have d5 := keepc hb23 c5
      have d6 := keepc hb23 c6
      have d7 := keepc hb23 c7
      have s1 := keepc hb23 k1
      have s2 := keepc hb23 k2
      have m0 := keepc hb3 n0
      have m1 := keepc hb3 n1
      have m2 := keepc hb3 n2
      have m3 := keepc hb3 n3
      have m4 := keepc hb3 n4
      have m5 := keepc hb3 n5
      have m6 := keepc hb3 n6
      have m7 := keepc hb3 n7
      have m8 := keepc hb3 n8
      have m9 := keepc hb3 n9
      have cs3 := fun (W : World) (hW : Below w3.heap.size w3 W) => cs W (bel_via hb23 hW)
      have hbr3 := bel_via hbr hb23
      have hlt3 : wr.heap.size < w3.heap.size := World.block_lt_of_cell? _ _ m0
      clear hwq r0 r1 r2 r3 r4 r5 r6 r7 r8 r9 n0 n1 n2 n3 n4 n5 n6 n7 n8 n9 c0 c1 c2 c3 c4 c5 c6 c7 k0 k1 k2 k3 k4 k5 k6 cb cs hlt1 hb2 hb3
      refine Lib.hid ?_
      cases Q with
      | false =>
        have hF : (namedP c x zn && sourceP c ksh ksl ⟨kind, zn, ob, sv, oh, ol, ih, il, frm, til⟩) = false := by rw [← HQ.out]; rfl
        have HF := Lib.hid hF
        clear hF HSP HQ
        go_wp2
        go_roundw
        case rel =>
          refine ⟨i + 1, by omega, by go_num, hbr3, fun j z2 hj hz2 => ?_⟩
          by_cases e : j = i
          · subst e
            rw [HN.out] at hz2; cases hz2
            exact HF.out
          · exact N.out j z2 (by omega) hz2
        case measure => simp [intOf]; omega
      | true =>
        have g0 := cell_regrown d0
        have g1 := cell_regrown d1
        have g2 := cell_regrown d2
        have g3 := cell_regrown d3
        have g4 := cell_regrown d4
        have g5 := cell_regrown d5
        have g6 := cell_regrown d6
        have g7 := cell_regrown d7
        have g8 := cell_regrown s1
        have g9 := cell_regrown s2
        have g10 := cell_regrown m0
        have g11 := cell_regrown m1
        have g12 := cell_regrown m2
        have g13 := cell_regrown m3
        have g14 := cell_regrown m4
        have g15 := cell_regrown m5
        have g16 := cell_regrown m6
        have g17 := cell_regrown m7
        have g18 := cell_regrown m8
        have g19 := cell_regrown m9
        have qs := fun d os => Calls.regrown_of (cs3 (grow (redrawn w3 d) os) (below_regrown w3 d os))
        have qi := fun d os => Calls.regrown_of (ci (grow (redrawn w3 d) os))
        have qa := fun d os => Calls.regrown_of (ca (grow (redrawn w3 d) os))
        clear cs3 ci ca
        by_cases t3 : kind = 3
        · subst t3
          by_cases t4 : ih = ksh ∧ il = ksl
          · obtain ⟨rfl, rfl⟩ := t4
            have hF : (namedP c x zn && sourceP c ih il ⟨3, zn, ob, sv, oh, ol, ih, il, frm, til⟩) = true := by rw [← HQ.out, HSP.out]; simp
            have HF := Lib.hid hF
            clear hF HSP HQ qs qi qa
            go_wp2
            go_ret
            refine ⟨?_, bel_via hb1 hb23⟩
            rw [HV.out, srcP, pl_hit HN.out HF.out N.out]
            rfl
          · have hF : (namedP c x zn && sourceP c ksh ksl ⟨3, zn, ob, sv, oh, ol, ih, il, frm, til⟩) = false := by
              rw [← HQ.out, HSP.out]; simp only [if_true, Bool.true_and]
              rw [Bool.and_eq_false_iff]
              by_cases h1 : ih = ksh
              · right; simp; exact fun h => t4 ⟨h1, h⟩
              · left; simp [h1]
            have HF := Lib.hid hF
            clear hF HSP HQ
            by_cases h1 : ih = ksh
            · subst h1
              have h2 : ¬ il = ksl := fun h => t4 ⟨rfl, h⟩
              clear t4
              go_wp2
              refine wp_region_quiet_below (by kernel_rfl) (by kernel_rfl) ?_
              repeat (first | go_big_quiet_skip | quiet_step (first | (go_at_call 42; with_reducible exact qs _ _) | (go_at_call_of 27 (Value.agg #[Value.int IntKind.u64 oh, Value.int IntKind.u64 ol]); with_reducible exact qi _ _) | (go_at_call 27; with_reducible exact qa _ _)))
              refine wpQuiet_nil ?_
              intro _ hw'
              obtain ⟨⟨dq, osq⟩, hw''⟩ := hw'
              subst hw''
              go_wp2
              go_roundw
              case rel =>
                refine ⟨i + 1, by omega, by go_num, bel_via hbr3 (below_regrown _ _ _), fun j z2 hj hz2 => ?_⟩
                by_cases e : j = i
                · subst e
                  rw [HN.out] at hz2; cases hz2
                  exact HF.out
                · exact N.out j z2 (by omega) hz2
              case measure => simp [intOf]; omega
            · clear t4
              go_wp2
              refine wp_region_quiet_below (by kernel_rfl) (by kernel_rfl) ?_
              repeat (first | go_big_quiet_skip | quiet_step (first | (go_at_call 42; with_reducible exact qs _ _) | (go_at_call_of 27 (Value.agg #[Value.int IntKind.u64 oh, Value.int IntKind.u64 ol]); with_reducible exact qi _ _) | (go_at_call 27; with_reducible exact qa _ _)))
              refine wpQuiet_nil ?_
              intro _ hw'
              obtain ⟨⟨dq, osq⟩, hw''⟩ := hw'
              subst hw''
              go_wp2
              go_roundw
              case rel =>
                refine ⟨i + 1, by omega, by go_num, bel_via hbr3 (below_regrown _ _ _), fun j z2 hj hz2 => ?_⟩
                by_cases e : j = i
                · subst e
                  rw [HN.out] at hz2; cases hz2
                  exact HF.out
                · exact N.out j z2 (by omega) hz2
              case measure => simp [intOf]; omega
        · have t3b : (kind == 3) = false := by simp [t3]
          by_cases t1 : kind = 1
          · subst t1
            cases R with
            | false =>
              have hF : (namedP c x zn && sourceP c ksh ksl ⟨1, zn, ob, sv, oh, ol, ih, il, frm, til⟩) = false := by rw [← HQ.out, HSP.out]; simp
              have HF := Lib.hid hF
              clear hF HSP HQ
              go_wp2
              refine wp_region_quiet_below (by kernel_rfl) (by kernel_rfl) ?_
              repeat (first | go_big_quiet_skip | quiet_step (first | (go_at_call 42; with_reducible exact qs _ _) | (go_at_call_of 27 (Value.agg #[Value.int IntKind.u64 oh, Value.int IntKind.u64 ol]); with_reducible exact qi _ _) | (go_at_call 27; with_reducible exact qa _ _)))
              refine wpQuiet_nil ?_
              intro _ hw'
              obtain ⟨⟨dq, osq⟩, hw''⟩ := hw'
              subst hw''
              go_wp2
              go_roundw
              case rel =>
                refine ⟨i + 1, by omega, by go_num, bel_via hbr3 (below_regrown _ _ _), fun j z2 hj hz2 => ?_⟩
                by_cases e : j = i
                · subst e
                  rw [HN.out] at hz2; cases hz2
                  exact HF.out
                · exact N.out j z2 (by omega) hz2
              case measure => simp [intOf]; omega
            | true =>
              by_cases t5 : I = J
              · subst t5
                have hF : (namedP c x zn && sourceP c ksh ksl ⟨1, zn, ob, sv, oh, ol, ih, il, frm, til⟩) = true := by rw [← HQ.out, HSP.out]; simp
                have HF := Lib.hid hF
                clear hF HSP HQ
                go_wp2
                refine wp_region_quiet_below (by kernel_rfl) (by kernel_rfl) ?_
                repeat (first | go_big_quiet_skip | quiet_step (first | (go_at_call 42; with_reducible exact qs _ _) | (go_at_call_of 27 (Value.agg #[Value.int IntKind.u64 oh, Value.int IntKind.u64 ol]); with_reducible exact qi _ _) | (go_at_call 27; with_reducible exact qa _ _)))
                refine wpQuiet_nil ?_
                intro _ hw'
                obtain ⟨⟨dq, osq⟩, hw''⟩ := hw'
                subst hw''
                go_wp2
                go_ret
                refine ⟨?_, bel_via (bel_via hb1 hb23) (below_regrown _ _ _)⟩
                rw [HV.out, srcP, pl_hit HN.out HF.out N.out]
                rfl
              · have t5b : (I == J) = false := by simp [t5]
                have hF : (namedP c x zn && sourceP c ksh ksl ⟨1, zn, ob, sv, oh, ol, ih, il, frm, til⟩) = false := by rw [← HQ.out, HSP.out]; simp [t5]
                have HF := Lib.hid hF
                clear hF HSP HQ t5
                go_wp2
                refine wp_region_quiet_below (by kernel_rfl) (by kernel_rfl) ?_
                repeat (first | go_big_quiet_skip | quiet_step (first | (go_at_call 42; with_reducible exact qs _ _) | (go_at_call_of 27 (Value.agg #[Value.int IntKind.u64 oh, Value.int IntKind.u64 ol]); with_reducible exact qi _ _) | (go_at_call 27; with_reducible exact qa _ _)))
                refine wpQuiet_nil ?_
                intro _ hw'
                obtain ⟨⟨dq, osq⟩, hw''⟩ := hw'
                subst hw''
                go_wp2
                go_roundw
                case rel =>
                  refine ⟨i + 1, by omega, by go_num, bel_via hbr3 (below_regrown _ _ _), fun j z2 hj hz2 => ?_⟩
                  by_cases e : j = i
                  · subst e
                    rw [HN.out] at hz2; cases hz2
                    exact HF.out
                  · exact N.out j z2 (by omega) hz2
                case measure => simp [intOf]; omega
          · have t1b : (kind == 1) = false := by simp [t1]
            have hF : (namedP c x zn && sourceP c ksh ksl ⟨kind, zn, ob, sv, oh, ol, ih, il, frm, til⟩) = false := by rw [← HQ.out, HSP.out]; simp [t1, t3]
            have HF := Lib.hid hF
            clear hF HSP HQ
            go_wp2
            refine wp_region_quiet_below (by kernel_rfl) (by kernel_rfl) ?_
            repeat (first | go_big_quiet_skip | quiet_step (first | (go_at_call 42; with_reducible exact qs _ _) | (go_at_call_of 27 (Value.agg #[Value.int IntKind.u64 oh, Value.int IntKind.u64 ol]); with_reducible exact qi _ _) | (go_at_call 27; with_reducible exact qa _ _)))
            refine wpQuiet_nil ?_
            intro _ hw'
            obtain ⟨⟨dq, osq⟩, hw''⟩ := hw'
            subst hw''
            go_wp2
            go_roundw
            case rel =>
              refine ⟨i + 1, by omega, by go_num, bel_via hbr3 (below_regrown _ _ _), fun j z2 hj hz2 => ?_⟩
              by_cases e : j = i
              · subst e
                rw [HN.out] at hz2; cases hz2
                exact HF.out
              · exact N.out j z2 (by omega) hz2
            case measure => simp [intOf]; omega
    · obtain rfl : i = c.nn := by omega
      clear hlt
      go_wp2
      go_ret
      refine ⟨?_, hb1⟩
      rw [HV.out, srcP, pl_miss fun j z hz => N.out j z (by rw [← Hlen.out]; exact getE hz) hz]
      rfl
end Go.Proofs.Ytokbmahnjmmcaaa
