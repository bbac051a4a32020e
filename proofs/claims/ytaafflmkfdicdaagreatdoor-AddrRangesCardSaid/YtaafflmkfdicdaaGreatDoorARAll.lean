/- A range out of any text: the program's; by-name template (gen_arall.py). -/
import Derived.Test.YtaafflmkfdicdaaGreatDoorARPlain
namespace Go.Proofs.YtaafflmkfdicdaaGreatDoor
open Go.RowKit Go.Sort
set_option linter.unusedVariables false
set_option linter.unusedSimpArgs false

set_option maxHeartbeats 1000000 in
set_option maxRecDepth 100000 in
theorem ppreA_any (A B : ByteArray) (hA : A.size ≤ 281474976) (hB : B.size ≤ 281474976) {w : World} (hG : Glob w) :
    Calls Tryz.prog 17 #[.string A, .string B] w fun e w' => e = .returned (preR A.data.toList B.data.toList) ∧ Below w.heap.size w w' := by
  obtain ⟨V, hV⟩ : ∃ V, V = preR A.data.toList B.data.toList := ⟨_, rfl⟩
  rw [← hV]
  obtain ⟨h, lo, er, hT, l1, l2, hc⟩ := parse_three A.data.toList
  have cpa := fun (W : World) (hg : Glob W) => parse_any A hA hg
  rw [hT] at cpa
  clear hT
  rcases hc with ⟨rfl, hp⟩ | ⟨rfl, hp, rfl, rfl⟩
  · have f0 : (h : Int) < 18446744073709551616 := by omega
    have f1 : (lo : Int) < 18446744073709551616 := by omega
    have cn := fun (W : World) (hg : Glob W) => dec_any B hB hg
    by_cases hn : 0 ≤ numV B.data.toList
    · have hvb := (num_yes hn).2.2.1
      obtain ⟨a, b, c, d, er, hq⟩ := preT_quad (h : Int) (lo : Int) (numV B.data.toList)
      have HV : Hid (V = quadT a b c d er) := Lib.hid (by rw [hV]; unfold preR; rw [hp]; simp only []; rw [if_pos hn]; exact hq)
      have ed : decT B.data.toList = .tuple #[.int .i64 (numV B.data.toList), .bool true] := by unfold decT; rw [if_pos hn]
      rw [ed] at cn
      obtain ⟨v, hv⟩ : ∃ v, v = numV B.data.toList := ⟨_, rfl⟩
      rw [← hv] at cn hn hvb hq
      have cpf := pre_any (h : Int) (lo : Int) v ⟨by omega, by omega⟩ ⟨by omega, by omega⟩ (by omega) (by omega)
      rw [hq] at cpf
      simp only [quadT] at cpf
      clear ed hv hq hp hV
      go_enter Tryz.func17, Tryz.ntmps17
      go_wp2_with (go_at_call 19; refine (cpa _ (hG.on (Below.al (Below.refl _ _) _))).mono ?_; rintro e w2 ⟨rfl, hb2⟩; refine Hid.out ?_)
      have bw2 : Below w.heap.size w w2 := bel_via (Below.al (Below.refl _ w) _) hb2
      have hz2 : w.heap.size < w2.heap.size := by have := hb2.size; simp at this; omega
      have hH2 : w2.heap[w.heap.size]? = some (.cells #[.int .u64 0, .int .u64 0, .int .u64 0, .int .u64 0] 26 (0, 0)) := by rw [hb2.block _ (by simp)]; exact al_new rfl _
      clear hb2 cpa
      refine Lib.hid ?_
      go_wp2_with (go_at_call 33; refine (cn _ (hG.on (bel_via bw2 (Below.al (Below.refl _ _) _)))).mono ?_; rintro e w3 ⟨rfl, hb3⟩; refine Hid.out ?_)
      have hz3 : w2.heap.size < w3.heap.size := by have := hb3.size; simp at this; omega
      have hA3 : w3.heap[w2.heap.size]? = some (.cells #[.int .u64 (h : Nat), .int .u64 (lo : Nat)] 24 (0, 0)) := by rw [hb3.block _ (by simp)]; exact al_new rfl _
      have hH3 : w3.heap[w.heap.size]? = some (.cells #[.int .u64 0, .int .u64 0, .int .u64 0, .int .u64 0] 26 (0, 0)) := by rw [hb3.block _ (by simp; omega), al_old hz2]; exact hH2
      have bw3 : Below w.heap.size w w3 := bel_via (Below.al bw2 _) hb3
      obtain ⟨a0, a1, _, _⟩ := cells_of hA3
      clear hb3 cn hH2 bw2
      refine Lib.hid ?_
      go_wp2_with (go_at_call 4; refine (cpf _).mono ?_; rintro e w4 ⟨rfl, hb4⟩; refine Hid.out ?_)
      have hH4 : w4.heap[w.heap.size]? = some (.cells #[.int .u64 0, .int .u64 0, .int .u64 0, .int .u64 0] 26 (0, 0)) := by rw [hb4.block _ (by omega)]; exact hH3
      have bw4 := bel_via bw3 hb4
      obtain ⟨c0, c1, c2, c3⟩ := rcells_of hH4
      obtain ⟨g0, g1, g2, g3⟩ := frz_of hH4
      clear hb4 cpf hH3 bw3 a0 a1 hA3
      refine Lib.hid ?_
      go_wp2
      refine bodyPost_ret_by (res_quad Tryz.results17 _ _ w.heap.size (.int .u64 a) (.int .u64 b) (.int .u64 c) (.int .u64 d) rfl (heap_set4 hH4 _ _ _ _)) rfl ⟨by rw [HV.out]; rfl, below_set4 bw4 (Nat.le_refl _) _ _ _ _⟩
    · have HV : Hid (V = quadT 0 0 0 0 31) := Lib.hid (by rw [hV]; unfold preR; rw [hp]; simp only []; rw [if_neg hn])
      have ed : decT B.data.toList = .tuple #[.int .i64 0, .bool false] := by unfold decT; rw [if_neg hn]
      rw [ed] at cn
      clear ed hp hV hn
      go_enter Tryz.func17, Tryz.ntmps17
      go_wp2_with (go_at_call 19; refine (cpa _ (hG.on (Below.al (Below.refl _ _) _))).mono ?_; rintro e w2 ⟨rfl, hb2⟩; refine Hid.out ?_)
      have bw2 : Below w.heap.size w w2 := bel_via (Below.al (Below.refl _ w) _) hb2
      have hz2 : w.heap.size < w2.heap.size := by have := hb2.size; simp at this; omega
      have hH2 : w2.heap[w.heap.size]? = some (.cells #[.int .u64 0, .int .u64 0, .int .u64 0, .int .u64 0] 26 (0, 0)) := by rw [hb2.block _ (by simp)]; exact al_new rfl _
      clear hb2 cpa
      refine Lib.hid ?_
      go_wp2_with (go_at_call 33; refine (cn _ (hG.on (bel_via bw2 (Below.al (Below.refl _ _) _)))).mono ?_; rintro e w3 ⟨rfl, hb3⟩; refine Hid.out ?_)
      have hH3 : w3.heap[w.heap.size]? = some (.cells #[.int .u64 0, .int .u64 0, .int .u64 0, .int .u64 0] 26 (0, 0)) := by rw [hb3.block _ (by simp; omega), al_old hz2]; exact hH2
      have bw3 : Below w.heap.size w w3 := bel_via (Below.al bw2 _) hb3
      clear hb3 cn hH2 bw2
      obtain ⟨d0, d1, d2, d3⟩ := rcells_of hH3
      obtain ⟨g0, g1, g2, g3⟩ := frz_of hH3
      refine Lib.hid ?_
      go_wp2
      refine bodyPost_ret_by (res_quad Tryz.results17 _ _ w.heap.size (.int .u64 0) (.int .u64 0) (.int .u64 0) (.int .u64 0) rfl (heap_set4 hH3 _ _ _ _)) rfl ⟨by rw [HV.out]; rfl, below_set4 bw3 (Nat.le_refl _) _ _ _ _⟩
  · have HV : Hid (V = quadT 0 0 0 0 30) := Lib.hid (by rw [hV]; unfold preR; rw [hp])
    clear hp hV
    go_enter Tryz.func17, Tryz.ntmps17
    go_wp2_with (go_at_call 19; refine (cpa _ (hG.on (Below.al (Below.refl _ _) _))).mono ?_; rintro e w2 ⟨rfl, hb2⟩; refine Hid.out ?_)
    have bw2 : Below w.heap.size w w2 := bel_via (Below.al (Below.refl _ w) _) hb2
    have hz2 : w.heap.size < w2.heap.size := by have := hb2.size; simp at this; omega
    have hH2 : w2.heap[w.heap.size]? = some (.cells #[.int .u64 0, .int .u64 0, .int .u64 0, .int .u64 0] 26 (0, 0)) := by rw [hb2.block _ (by simp)]; exact al_new rfl _
    clear hb2 cpa
    refine Lib.hid ?_
    go_wp2_with (with_reducible refine stop_op (o := ⟨some 16, _, _, _, _, _⟩) ?_)
    obtain ⟨w3, hww3⟩ : ∃ v, v = w2.alloc (.cells #[.int .u64 0, .int .u64 0] 24) := ⟨_, rfl⟩
    have hH3 : w3.heap[w.heap.size]? = some (.cells #[.int .u64 0, .int .u64 0, .int .u64 0, .int .u64 0] 26 (0, 0)) := by rw [hww3, al_old hz2]; exact hH2
    have bw3 : Below w.heap.size w w3 := by rw [hww3]; exact Below.al bw2 _
    obtain ⟨d0, d1, d2, d3⟩ := rcells_of hH3
    obtain ⟨g0, g1, g2, g3⟩ := frz_of hH3
    rw [← hww3]
    clear hww3 hH2 bw2
    refine Lib.hid ?_
    go_wp2
    refine bodyPost_ret_by (res_quad Tryz.results17 _ _ w.heap.size (.int .u64 0) (.int .u64 0) (.int .u64 0) (.int .u64 0) rfl (heap_set4 hH3 _ _ _ _)) rfl ⟨by rw [HV.out]; rfl, below_set4 bw3 (Nat.le_refl _) _ _ _ _⟩

set_option maxHeartbeats 1000000 in
set_option maxRecDepth 100000 in
theorem pendsA_any (A B : ByteArray) (hA : A.size ≤ 281474976) (hB : B.size ≤ 281474976) {w : World} (hG : Glob w) :
    Calls Tryz.prog 18 #[.string A, .string B] w fun e w' => e = .returned (endsR A.data.toList B.data.toList) ∧ Below w.heap.size w w' := by
  obtain ⟨V, hV⟩ : ∃ V, V = endsR A.data.toList B.data.toList := ⟨_, rfl⟩
  rw [← hV]
  obtain ⟨h, lo, er, hT, l1, l2, hc⟩ := parse_three A.data.toList
  have cpa := fun (W : World) (hg : Glob W) => parse_any A hA hg
  rw [hT] at cpa
  clear hT
  rcases hc with ⟨rfl, hp⟩ | ⟨rfl, hp, rfl, rfl⟩
  · obtain ⟨h2, lo2, er, hT, m1, m2, hc⟩ := parse_three B.data.toList
    have cpb := fun (W : World) (hg : Glob W) => parse_any B hB hg
    rw [hT] at cpb
    clear hT
    have f0 : (h : Int) < 18446744073709551616 := by omega
    have f1 : (lo : Int) < 18446744073709551616 := by omega
    rcases hc with ⟨rfl, hq⟩ | ⟨rfl, hq, rfl, rfl⟩
    · have f2 : (h2 : Int) < 18446744073709551616 := by omega
      have f3 : (lo2 : Int) < 18446744073709551616 := by omega
      have ccm := cmp_any (h : Int) (lo : Int) (h2 : Int) (lo2 : Int)
      have ci1 := is4_any (h : Int) (lo : Int) ⟨by omega, by omega⟩ ⟨by omega, by omega⟩
      have ci2 := is4_any (h2 : Int) (lo2 : Int) ⟨by omega, by omega⟩ ⟨by omega, by omega⟩
      have hV2 : V = if is4I (h : Int) lo = is4I (h2 : Int) lo2 ∧ cmpA (h : Int) lo h2 lo2 ≤ 0 then quadT h lo h2 lo2 0 else quadT 0 0 0 0 31 := by rw [hV]; unfold endsR; rw [hp]; simp only []; rw [hq]
      obtain ⟨c, hce⟩ : ∃ c, c = cmpA (h : Int) lo h2 lo2 := ⟨_, rfl⟩
      obtain ⟨i1, hi1⟩ : ∃ i, i = is4I (h : Int) lo := ⟨_, rfl⟩
      obtain ⟨i2, hi2⟩ : ∃ i, i = is4I (h2 : Int) lo2 := ⟨_, rfl⟩
      rw [← hce] at ccm hV2
      rw [← hi1] at ci1 hV2
      rw [← hi2] at ci2 hV2
      have HV2 := Lib.hid hV2
      clear hV2 hce hi1 hi2 hp hq hV
      go_enter Tryz.func18, Tryz.ntmps18
      go_wp2_with (go_at_call_of 19 (Value.string A); refine (cpa _ (hG.on (Below.al (Below.refl _ _) _))).mono ?_; rintro e w2 ⟨rfl, hb2⟩; refine Hid.out ?_)
      have bw2 : Below w.heap.size w w2 := bel_via (Below.al (Below.refl _ w) _) hb2
      have hz2 : w.heap.size < w2.heap.size := by have := hb2.size; simp at this; omega
      have hH2 : w2.heap[w.heap.size]? = some (.cells #[.int .u64 0, .int .u64 0, .int .u64 0, .int .u64 0] 26 (0, 0)) := by rw [hb2.block _ (by simp)]; exact al_new rfl _
      clear hb2 cpa
      refine Lib.hid ?_
      go_wp2_with (go_at_call 19; refine (cpb _ (hG.on (bel_via bw2 (Below.al (Below.refl _ _) _)))).mono ?_; rintro e w3 ⟨rfl, hb3⟩; refine Hid.out ?_)
      have hz3 : w2.heap.size < w3.heap.size := by have := hb3.size; simp at this; omega
      have hA3 : w3.heap[w2.heap.size]? = some (.cells #[.int .u64 (h : Nat), .int .u64 (lo : Nat)] 24 (0, 0)) := by rw [hb3.block _ (by simp)]; exact al_new rfl _
      have hH3 : w3.heap[w.heap.size]? = some (.cells #[.int .u64 0, .int .u64 0, .int .u64 0, .int .u64 0] 26 (0, 0)) := by rw [hb3.block _ (by simp; omega), al_old hz2]; exact hH2
      have bw3 : Below w.heap.size w w3 := bel_via (Below.al bw2 _) hb3
      clear hb3 cpb hH2 bw2
      refine Lib.hid ?_
      go_wp2
      obtain ⟨w4, hw4⟩ : ∃ v, v = w3.alloc (.cells #[.int .u64 (h2 : Nat), .int .u64 (lo2 : Nat)] 24) := ⟨_, rfl⟩
      have hA4 : w4.heap[w2.heap.size]? = some (.cells #[.int .u64 (h : Nat), .int .u64 (lo : Nat)] 24 (0, 0)) := by rw [hw4, al_old hz3]; exact hA3
      have hB4 : w4.heap[w3.heap.size]? = some (.cells #[.int .u64 (h2 : Nat), .int .u64 (lo2 : Nat)] 24 (0, 0)) := by rw [hw4]; exact al_new rfl _
      have hH4 : w4.heap[w.heap.size]? = some (.cells #[.int .u64 0, .int .u64 0, .int .u64 0, .int .u64 0] 26 (0, 0)) := by rw [hw4, al_old (by omega)]; exact hH3
      have bw4 : Below w.heap.size w w4 := by rw [hw4]; exact Below.al bw3 _
      obtain ⟨BA, hBA⟩ : ∃ b, b = w2.heap.size := ⟨_, rfl⟩
      obtain ⟨BB, hBB⟩ : ∃ b, b = w3.heap.size := ⟨_, rfl⟩
      rw [← hw4, ← hBA, ← hBB]
      rw [← hBA] at hA4
      rw [← hBB] at hB4
      have hzA : BA < w4.heap.size := (Array.getElem?_eq_some_iff.1 hA4).1
      have hzB : BB < w4.heap.size := (Array.getElem?_eq_some_iff.1 hB4).1
      have hzH : w.heap.size < w4.heap.size := (Array.getElem?_eq_some_iff.1 hH4).1
      clear hw4 hBA hBB hA3 hH3 bw3 hz2 hz3
      obtain ⟨a0, a1, _, _⟩ := cells_of hA4
      obtain ⟨b0, b1, _, _⟩ := cells_of hB4
      have k0 := cell_regrown a0
      have k1 := cell_regrown a1
      have k2 := cell_regrown b0
      have k3 := cell_regrown b1
      have qm := fun d os => Calls.regrown_of (ccm (grow (redrawn w4 d) os))
      have q1 := fun d os => Calls.regrown_of (ci1 (grow (redrawn w4 d) os))
      have q2 := fun d os => Calls.regrown_of (ci2 (grow (redrawn w4 d) os))
      clear a0 a1 b0 b1 ccm ci1 ci2
      cases i1 with
      | false =>
        cases i2 with
        | false =>
          by_cases hc : 0 < c
          · have hcd : decide (0 < c) = true := by simpa using hc
            have HV : Hid (V = quadT 0 0 0 0 31) := Lib.hid (by rw [HV2.out, if_neg (by omega)])
            refine wp_region_quiet_below (by kernel_rfl) (by kernel_rfl) ?_
            repeat (first | go_big_quiet_skip | quiet_step (first | (go_at_call 25; with_reducible exact qm _ _) | (go_at_call_of 26 (Value.agg #[Value.int IntKind.u64 (h : Int), Value.int IntKind.u64 (lo : Int)]); with_reducible exact q1 _ _) | (go_at_call 26; with_reducible exact q2 _ _)))
            refine wpQuiet_nil ?_
            intro _ hw'
            obtain ⟨⟨dq, osq⟩, hw''⟩ := hw'
            subst hw''
            obtain ⟨w5, hw5⟩ : ∃ v, v = grow (redrawn w4 dq) osq := ⟨_, rfl⟩
            have b45 : Below w4.heap.size w4 w5 := by rw [hw5]; exact below_regrown w4 dq osq
            have hA5 : w5.heap[BA]? = some (.cells #[.int .u64 (h : Nat), .int .u64 (lo : Nat)] 24 (0, 0)) := by rw [b45.block _ hzA]; exact hA4
            have hB5 : w5.heap[BB]? = some (.cells #[.int .u64 (h2 : Nat), .int .u64 (lo2 : Nat)] 24 (0, 0)) := by rw [b45.block _ hzB]; exact hB4
            have hH5 : w5.heap[w.heap.size]? = some (.cells #[.int .u64 0, .int .u64 0, .int .u64 0, .int .u64 0] 26 (0, 0)) := by rw [b45.block _ hzH]; exact hH4
            have bw5 := bel_via bw4 b45
            rw [← hw5]
            clear hw5 k0 k1 k2 k3 qm q1 q2
            obtain ⟨a0, a1, _, _⟩ := cells_of hA5
            obtain ⟨b0, b1, _, _⟩ := cells_of hB5
            obtain ⟨c0, c1, c2, c3⟩ := rcells_of hH5
            obtain ⟨g0, g1, g2, g3⟩ := frz_of hH5
            go_wp2
            refine bodyPost_ret_by (res_quad Tryz.results18 _ _ w.heap.size (.int .u64 0) (.int .u64 0) (.int .u64 0) (.int .u64 0) rfl (heap_set4 hH5 _ _ _ _)) rfl ⟨by rw [HV.out]; rfl, below_set4 bw5 (Nat.le_refl _) _ _ _ _⟩
          · have hcd : decide (0 < c) = false := by simpa using hc
            have HV : Hid (V = quadT h lo h2 lo2 0) := Lib.hid (by rw [HV2.out, if_pos ⟨rfl, by omega⟩])
            refine wp_region_quiet_below (by kernel_rfl) (by kernel_rfl) ?_
            repeat (first | go_big_quiet_skip | quiet_step (first | (go_at_call 25; with_reducible exact qm _ _) | (go_at_call_of 26 (Value.agg #[Value.int IntKind.u64 (h : Int), Value.int IntKind.u64 (lo : Int)]); with_reducible exact q1 _ _) | (go_at_call 26; with_reducible exact q2 _ _)))
            refine wpQuiet_nil ?_
            intro _ hw'
            obtain ⟨⟨dq, osq⟩, hw''⟩ := hw'
            subst hw''
            obtain ⟨w5, hw5⟩ : ∃ v, v = grow (redrawn w4 dq) osq := ⟨_, rfl⟩
            have b45 : Below w4.heap.size w4 w5 := by rw [hw5]; exact below_regrown w4 dq osq
            have hA5 : w5.heap[BA]? = some (.cells #[.int .u64 (h : Nat), .int .u64 (lo : Nat)] 24 (0, 0)) := by rw [b45.block _ hzA]; exact hA4
            have hB5 : w5.heap[BB]? = some (.cells #[.int .u64 (h2 : Nat), .int .u64 (lo2 : Nat)] 24 (0, 0)) := by rw [b45.block _ hzB]; exact hB4
            have hH5 : w5.heap[w.heap.size]? = some (.cells #[.int .u64 0, .int .u64 0, .int .u64 0, .int .u64 0] 26 (0, 0)) := by rw [b45.block _ hzH]; exact hH4
            have bw5 := bel_via bw4 b45
            rw [← hw5]
            clear hw5 k0 k1 k2 k3 qm q1 q2
            obtain ⟨a0, a1, _, _⟩ := cells_of hA5
            obtain ⟨b0, b1, _, _⟩ := cells_of hB5
            obtain ⟨c0, c1, c2, c3⟩ := rcells_of hH5
            obtain ⟨g0, g1, g2, g3⟩ := frz_of hH5
            go_wp2
            refine bodyPost_ret_by (res_quad Tryz.results18 _ _ w.heap.size (.int .u64 (h : Nat)) (.int .u64 (lo : Nat)) (.int .u64 (h2 : Nat)) (.int .u64 (lo2 : Nat)) rfl (heap_set4 hH5 _ _ _ _)) rfl ⟨by rw [HV.out]; rfl, below_set4 bw5 (Nat.le_refl _) _ _ _ _⟩
        | true =>
          have HV : Hid (V = quadT 0 0 0 0 31) := Lib.hid (by rw [HV2.out, if_neg (by simp)])
          refine wp_region_quiet_below (by kernel_rfl) (by kernel_rfl) ?_
          repeat (first | go_big_quiet_skip | quiet_step (first | (go_at_call 25; with_reducible exact qm _ _) | (go_at_call_of 26 (Value.agg #[Value.int IntKind.u64 (h : Int), Value.int IntKind.u64 (lo : Int)]); with_reducible exact q1 _ _) | (go_at_call 26; with_reducible exact q2 _ _)))
          refine wpQuiet_nil ?_
          intro _ hw'
          obtain ⟨⟨dq, osq⟩, hw''⟩ := hw'
          subst hw''
          obtain ⟨w5, hw5⟩ : ∃ v, v = grow (redrawn w4 dq) osq := ⟨_, rfl⟩
          have b45 : Below w4.heap.size w4 w5 := by rw [hw5]; exact below_regrown w4 dq osq
          have hA5 : w5.heap[BA]? = some (.cells #[.int .u64 (h : Nat), .int .u64 (lo : Nat)] 24 (0, 0)) := by rw [b45.block _ hzA]; exact hA4
          have hB5 : w5.heap[BB]? = some (.cells #[.int .u64 (h2 : Nat), .int .u64 (lo2 : Nat)] 24 (0, 0)) := by rw [b45.block _ hzB]; exact hB4
          have hH5 : w5.heap[w.heap.size]? = some (.cells #[.int .u64 0, .int .u64 0, .int .u64 0, .int .u64 0] 26 (0, 0)) := by rw [b45.block _ hzH]; exact hH4
          have bw5 := bel_via bw4 b45
          rw [← hw5]
          clear hw5 k0 k1 k2 k3 qm q1 q2
          obtain ⟨a0, a1, _, _⟩ := cells_of hA5
          obtain ⟨b0, b1, _, _⟩ := cells_of hB5
          obtain ⟨c0, c1, c2, c3⟩ := rcells_of hH5
          obtain ⟨g0, g1, g2, g3⟩ := frz_of hH5
          go_wp2
          refine bodyPost_ret_by (res_quad Tryz.results18 _ _ w.heap.size (.int .u64 0) (.int .u64 0) (.int .u64 0) (.int .u64 0) rfl (heap_set4 hH5 _ _ _ _)) rfl ⟨by rw [HV.out]; rfl, below_set4 bw5 (Nat.le_refl _) _ _ _ _⟩
      | true =>
        cases i2 with
        | false =>
          have HV : Hid (V = quadT 0 0 0 0 31) := Lib.hid (by rw [HV2.out, if_neg (by simp)])
          refine wp_region_quiet_below (by kernel_rfl) (by kernel_rfl) ?_
          repeat (first | go_big_quiet_skip | quiet_step (first | (go_at_call 25; with_reducible exact qm _ _) | (go_at_call_of 26 (Value.agg #[Value.int IntKind.u64 (h : Int), Value.int IntKind.u64 (lo : Int)]); with_reducible exact q1 _ _) | (go_at_call 26; with_reducible exact q2 _ _)))
          refine wpQuiet_nil ?_
          intro _ hw'
          obtain ⟨⟨dq, osq⟩, hw''⟩ := hw'
          subst hw''
          obtain ⟨w5, hw5⟩ : ∃ v, v = grow (redrawn w4 dq) osq := ⟨_, rfl⟩
          have b45 : Below w4.heap.size w4 w5 := by rw [hw5]; exact below_regrown w4 dq osq
          have hA5 : w5.heap[BA]? = some (.cells #[.int .u64 (h : Nat), .int .u64 (lo : Nat)] 24 (0, 0)) := by rw [b45.block _ hzA]; exact hA4
          have hB5 : w5.heap[BB]? = some (.cells #[.int .u64 (h2 : Nat), .int .u64 (lo2 : Nat)] 24 (0, 0)) := by rw [b45.block _ hzB]; exact hB4
          have hH5 : w5.heap[w.heap.size]? = some (.cells #[.int .u64 0, .int .u64 0, .int .u64 0, .int .u64 0] 26 (0, 0)) := by rw [b45.block _ hzH]; exact hH4
          have bw5 := bel_via bw4 b45
          rw [← hw5]
          clear hw5 k0 k1 k2 k3 qm q1 q2
          obtain ⟨a0, a1, _, _⟩ := cells_of hA5
          obtain ⟨b0, b1, _, _⟩ := cells_of hB5
          obtain ⟨c0, c1, c2, c3⟩ := rcells_of hH5
          obtain ⟨g0, g1, g2, g3⟩ := frz_of hH5
          go_wp2
          refine bodyPost_ret_by (res_quad Tryz.results18 _ _ w.heap.size (.int .u64 0) (.int .u64 0) (.int .u64 0) (.int .u64 0) rfl (heap_set4 hH5 _ _ _ _)) rfl ⟨by rw [HV.out]; rfl, below_set4 bw5 (Nat.le_refl _) _ _ _ _⟩
        | true =>
          by_cases hc : 0 < c
          · have hcd : decide (0 < c) = true := by simpa using hc
            have HV : Hid (V = quadT 0 0 0 0 31) := Lib.hid (by rw [HV2.out, if_neg (by omega)])
            refine wp_region_quiet_below (by kernel_rfl) (by kernel_rfl) ?_
            repeat (first | go_big_quiet_skip | quiet_step (first | (go_at_call 25; with_reducible exact qm _ _) | (go_at_call_of 26 (Value.agg #[Value.int IntKind.u64 (h : Int), Value.int IntKind.u64 (lo : Int)]); with_reducible exact q1 _ _) | (go_at_call 26; with_reducible exact q2 _ _)))
            refine wpQuiet_nil ?_
            intro _ hw'
            obtain ⟨⟨dq, osq⟩, hw''⟩ := hw'
            subst hw''
            obtain ⟨w5, hw5⟩ : ∃ v, v = grow (redrawn w4 dq) osq := ⟨_, rfl⟩
            have b45 : Below w4.heap.size w4 w5 := by rw [hw5]; exact below_regrown w4 dq osq
            have hA5 : w5.heap[BA]? = some (.cells #[.int .u64 (h : Nat), .int .u64 (lo : Nat)] 24 (0, 0)) := by rw [b45.block _ hzA]; exact hA4
            have hB5 : w5.heap[BB]? = some (.cells #[.int .u64 (h2 : Nat), .int .u64 (lo2 : Nat)] 24 (0, 0)) := by rw [b45.block _ hzB]; exact hB4
            have hH5 : w5.heap[w.heap.size]? = some (.cells #[.int .u64 0, .int .u64 0, .int .u64 0, .int .u64 0] 26 (0, 0)) := by rw [b45.block _ hzH]; exact hH4
            have bw5 := bel_via bw4 b45
            rw [← hw5]
            clear hw5 k0 k1 k2 k3 qm q1 q2
            obtain ⟨a0, a1, _, _⟩ := cells_of hA5
            obtain ⟨b0, b1, _, _⟩ := cells_of hB5
            obtain ⟨c0, c1, c2, c3⟩ := rcells_of hH5
            obtain ⟨g0, g1, g2, g3⟩ := frz_of hH5
            go_wp2
            refine bodyPost_ret_by (res_quad Tryz.results18 _ _ w.heap.size (.int .u64 0) (.int .u64 0) (.int .u64 0) (.int .u64 0) rfl (heap_set4 hH5 _ _ _ _)) rfl ⟨by rw [HV.out]; rfl, below_set4 bw5 (Nat.le_refl _) _ _ _ _⟩
          · have hcd : decide (0 < c) = false := by simpa using hc
            have HV : Hid (V = quadT h lo h2 lo2 0) := Lib.hid (by rw [HV2.out, if_pos ⟨rfl, by omega⟩])
            refine wp_region_quiet_below (by kernel_rfl) (by kernel_rfl) ?_
            repeat (first | go_big_quiet_skip | quiet_step (first | (go_at_call 25; with_reducible exact qm _ _) | (go_at_call_of 26 (Value.agg #[Value.int IntKind.u64 (h : Int), Value.int IntKind.u64 (lo : Int)]); with_reducible exact q1 _ _) | (go_at_call 26; with_reducible exact q2 _ _)))
            refine wpQuiet_nil ?_
            intro _ hw'
            obtain ⟨⟨dq, osq⟩, hw''⟩ := hw'
            subst hw''
            obtain ⟨w5, hw5⟩ : ∃ v, v = grow (redrawn w4 dq) osq := ⟨_, rfl⟩
            have b45 : Below w4.heap.size w4 w5 := by rw [hw5]; exact below_regrown w4 dq osq
            have hA5 : w5.heap[BA]? = some (.cells #[.int .u64 (h : Nat), .int .u64 (lo : Nat)] 24 (0, 0)) := by rw [b45.block _ hzA]; exact hA4
            have hB5 : w5.heap[BB]? = some (.cells #[.int .u64 (h2 : Nat), .int .u64 (lo2 : Nat)] 24 (0, 0)) := by rw [b45.block _ hzB]; exact hB4
            have hH5 : w5.heap[w.heap.size]? = some (.cells #[.int .u64 0, .int .u64 0, .int .u64 0, .int .u64 0] 26 (0, 0)) := by rw [b45.block _ hzH]; exact hH4
            have bw5 := bel_via bw4 b45
            rw [← hw5]
            clear hw5 k0 k1 k2 k3 qm q1 q2
            obtain ⟨a0, a1, _, _⟩ := cells_of hA5
            obtain ⟨b0, b1, _, _⟩ := cells_of hB5
            obtain ⟨c0, c1, c2, c3⟩ := rcells_of hH5
            obtain ⟨g0, g1, g2, g3⟩ := frz_of hH5
            go_wp2
            refine bodyPost_ret_by (res_quad Tryz.results18 _ _ w.heap.size (.int .u64 (h : Nat)) (.int .u64 (lo : Nat)) (.int .u64 (h2 : Nat)) (.int .u64 (lo2 : Nat)) rfl (heap_set4 hH5 _ _ _ _)) rfl ⟨by rw [HV.out]; rfl, below_set4 bw5 (Nat.le_refl _) _ _ _ _⟩
    · have HV : Hid (V = quadT 0 0 0 0 30) := Lib.hid (by rw [hV]; unfold endsR; rw [hp]; simp only []; rw [hq])
      clear hp hV hq
      go_enter Tryz.func18, Tryz.ntmps18
      go_wp2_with (go_at_call_of 19 (Value.string A); refine (cpa _ (hG.on (Below.al (Below.refl _ _) _))).mono ?_; rintro e w2 ⟨rfl, hb2⟩; refine Hid.out ?_)
      have bw2 : Below w.heap.size w w2 := bel_via (Below.al (Below.refl _ w) _) hb2
      have hz2 : w.heap.size < w2.heap.size := by have := hb2.size; simp at this; omega
      have hH2 : w2.heap[w.heap.size]? = some (.cells #[.int .u64 0, .int .u64 0, .int .u64 0, .int .u64 0] 26 (0, 0)) := by rw [hb2.block _ (by simp)]; exact al_new rfl _
      clear hb2 cpa
      refine Lib.hid ?_
      go_wp2_with (go_at_call 19; refine (cpb _ (hG.on (bel_via bw2 (Below.al (Below.refl _ _) _)))).mono ?_; rintro e w3 ⟨rfl, hb3⟩; refine Hid.out ?_)
      have hH3 : w3.heap[w.heap.size]? = some (.cells #[.int .u64 0, .int .u64 0, .int .u64 0, .int .u64 0] 26 (0, 0)) := by rw [hb3.block _ (by simp; omega), al_old hz2]; exact hH2
      have hz3 : w.heap.size < w3.heap.size := (Array.getElem?_eq_some_iff.1 hH3).1
      have bw3 : Below w.heap.size w w3 := bel_via (Below.al bw2 _) hb3
      clear hb3 cpb hH2 bw2
      refine Lib.hid ?_
      go_wp2_with (with_reducible refine stop_op (o := ⟨some 24, _, _, _, _, _⟩) ?_)
      obtain ⟨w4, hww4⟩ : ∃ v, v = w3.alloc (.cells #[.int .u64 0, .int .u64 0] 24) := ⟨_, rfl⟩
      have hH4 : w4.heap[w.heap.size]? = some (.cells #[.int .u64 0, .int .u64 0, .int .u64 0, .int .u64 0] 26 (0, 0)) := by rw [hww4, al_old hz3]; exact hH3
      have bw4 : Below w.heap.size w w4 := by rw [hww4]; exact Below.al bw3 _
      obtain ⟨d0, d1, d2, d3⟩ := rcells_of hH4
      obtain ⟨g0, g1, g2, g3⟩ := frz_of hH4
      rw [← hww4]
      clear hww4 hH3 bw3
      refine Lib.hid ?_
      go_wp2
      refine bodyPost_ret_by (res_quad Tryz.results18 _ _ w.heap.size (.int .u64 0) (.int .u64 0) (.int .u64 0) (.int .u64 0) rfl (heap_set4 hH4 _ _ _ _)) rfl ⟨by rw [HV.out]; rfl, below_set4 bw4 (Nat.le_refl _) _ _ _ _⟩
  · have HV : Hid (V = quadT 0 0 0 0 30) := Lib.hid (by rw [hV]; unfold endsR; rw [hp])
    clear hp hV
    go_enter Tryz.func18, Tryz.ntmps18
    go_wp2_with (go_at_call 19; refine (cpa _ (hG.on (Below.al (Below.refl _ _) _))).mono ?_; rintro e w2 ⟨rfl, hb2⟩; refine Hid.out ?_)
    have bw2 : Below w.heap.size w w2 := bel_via (Below.al (Below.refl _ w) _) hb2
    have hz2 : w.heap.size < w2.heap.size := by have := hb2.size; simp at this; omega
    have hH2 : w2.heap[w.heap.size]? = some (.cells #[.int .u64 0, .int .u64 0, .int .u64 0, .int .u64 0] 26 (0, 0)) := by rw [hb2.block _ (by simp)]; exact al_new rfl _
    clear hb2 cpa
    refine Lib.hid ?_
    go_wp2_with (with_reducible refine stop_op (o := ⟨some 15, _, _, _, _, _⟩) ?_)
    obtain ⟨w3, hww3⟩ : ∃ v, v = w2.alloc (.cells #[.int .u64 0, .int .u64 0] 24) := ⟨_, rfl⟩
    have hH3 : w3.heap[w.heap.size]? = some (.cells #[.int .u64 0, .int .u64 0, .int .u64 0, .int .u64 0] 26 (0, 0)) := by rw [hww3, al_old hz2]; exact hH2
    have bw3 : Below w.heap.size w w3 := by rw [hww3]; exact Below.al bw2 _
    obtain ⟨d0, d1, d2, d3⟩ := rcells_of hH3
    obtain ⟨g0, g1, g2, g3⟩ := frz_of hH3
    rw [← hww3]
    clear hww3 hH2 bw2
    refine Lib.hid ?_
    go_wp2
    refine bodyPost_ret_by (res_quad Tryz.results18 _ _ w.heap.size (.int .u64 0) (.int .u64 0) (.int .u64 0) (.int .u64 0) rfl (heap_set4 hH3 _ _ _ _)) rfl ⟨by rw [HV.out]; rfl, below_set4 bw3 (Nat.le_refl _) _ _ _ _⟩

set_option maxHeartbeats 1000000 in
set_option maxRecDepth 100000 in
theorem prngA_any (s : ByteArray) (hs : s.size ≤ 281474976) {w : World} (hG : Glob w) :
    Calls Tryz.prog 6 #[.string s] w fun e w' => e = .returned (rngT s.data.toList) ∧ Below w.heap.size w w' := by
  have c1 := fun (W : World) (hg : Glob W) => scut_any s 47 hs hg
  have c2 := fun (W : World) (hg : Glob W) => scut_any s 45 hs hg
  obtain ⟨s1, s2⟩ := cut_size s [47] hs
  obtain ⟨s3, s4⟩ := cut_size s [45] hs
  obtain ⟨V, hV⟩ : ∃ V, V = rngT s.data.toList := ⟨_, rfl⟩
  rw [← hV]
  obtain ⟨A, hAe⟩ : ∃ A : ByteArray, A = ⟨(Lib.cut s.data.toList [47]).1.toArray⟩ := ⟨_, rfl⟩
  obtain ⟨B, hBe⟩ : ∃ A : ByteArray, A = ⟨(Lib.cut s.data.toList [47]).2.1.toArray⟩ := ⟨_, rfl⟩
  obtain ⟨b1, hb1⟩ : ∃ b, b = (Lib.cut s.data.toList [47]).2.2 := ⟨_, rfl⟩
  obtain ⟨C, hCe⟩ : ∃ A : ByteArray, A = ⟨(Lib.cut s.data.toList [45]).1.toArray⟩ := ⟨_, rfl⟩
  obtain ⟨D, hDe⟩ : ∃ A : ByteArray, A = ⟨(Lib.cut s.data.toList [45]).2.1.toArray⟩ := ⟨_, rfl⟩
  obtain ⟨b2, hb2⟩ : ∃ b, b = (Lib.cut s.data.toList [45]).2.2 := ⟨_, rfl⟩
  have hV2 : V = if b1 = true then preR A.data.toList B.data.toList else if b2 = true then endsR C.data.toList D.data.toList else oneR s.data.toList := by rw [hV, hb1, hb2, hAe, hBe, hCe, hDe]; unfold rngT; simp only [List.toList_toArray]
  rw [← hAe, ← hBe, ← hb1] at c1
  rw [← hCe, ← hDe, ← hb2] at c2
  rw [← hAe] at s1
  rw [← hBe] at s2
  rw [← hCe] at s3
  rw [← hDe] at s4
  clear hV hAe hBe hCe hDe hb1 hb2
  cases b1 with
  | true =>
    obtain ⟨a, b, c, d, er, hq⟩ := preR_quad A.data.toList B.data.toList
    have HV : Hid (V = quadT a b c d er) := Lib.hid (by rw [hV2, if_pos rfl, hq])
    have cpp := fun (W : World) (hg : Glob W) => ppreA_any A B s1 s2 hg
    rw [hq] at cpp
    simp only [quadT] at cpp
    clear hV2 hq
    go_enter Tryz.func6, Tryz.ntmps6
    go_wp2_with (go_at_call_of 16 (Value.string ⟨#[47]⟩); refine (c1 _ (hG.on (Below.al (Below.refl _ _) _))).mono ?_; rintro e w2 ⟨rfl, hb2⟩; refine Hid.out ?_)
    have bw2 : Below w.heap.size w w2 := bel_via (Below.al (Below.refl _ w) _) hb2
    have hH2 : w2.heap[w.heap.size]? = some (.cells #[.int .u64 0, .int .u64 0, .int .u64 0, .int .u64 0] 26 (0, 0)) := by rw [hb2.block _ (by simp)]; exact al_new rfl _
    have hz2 : w.heap.size < w2.heap.size := (Array.getElem?_eq_some_iff.1 hH2).1
    clear hb2 c1
    refine Lib.hid ?_
    go_wp2_with (go_at_call 16; refine (c2 _ (hG.on bw2)).mono ?_; rintro e w3 ⟨rfl, hb3⟩; refine Hid.out ?_)
    have bw3 := bel_via bw2 hb3
    have hH3 : w3.heap[w.heap.size]? = some (.cells #[.int .u64 0, .int .u64 0, .int .u64 0, .int .u64 0] 26 (0, 0)) := by rw [hb3.block _ hz2]; exact hH2
    have hz3 : w.heap.size < w3.heap.size := (Array.getElem?_eq_some_iff.1 hH3).1
    clear hb3 c2 hH2 bw2 hz2
    refine Lib.hid ?_
    go_wp2_with (go_at_call 17; refine (cpp _ (hG.on bw3)).mono ?_; rintro e w4 ⟨rfl, hb4⟩; refine Hid.out ?_)
    have bw4 := bel_via bw3 hb4
    have hH4 : w4.heap[w.heap.size]? = some (.cells #[.int .u64 0, .int .u64 0, .int .u64 0, .int .u64 0] 26 (0, 0)) := by rw [hb4.block _ hz3]; exact hH3
    clear hb4 cpp hH3 bw3 hz3
    obtain ⟨d0, d1, d2, d3⟩ := rcells_of hH4
    obtain ⟨g0, g1, g2, g3⟩ := frz_of hH4
    refine Lib.hid ?_
    go_wp2
    refine bodyPost_ret_by (res_quad Tryz.results6 _ _ w.heap.size (.int .u64 a) (.int .u64 b) (.int .u64 c) (.int .u64 d) rfl (heap_set4 hH4 _ _ _ _)) rfl ⟨by rw [HV.out]; rfl, below_set4 bw4 (Nat.le_refl _) _ _ _ _⟩
  | false =>
    cases b2 with
    | true =>
      obtain ⟨a, b, c, d, er, hq⟩ := endsR_quad C.data.toList D.data.toList
      have HV : Hid (V = quadT a b c d er) := Lib.hid (by rw [hV2, if_neg (by simp), if_pos rfl, hq])
      have cpp := fun (W : World) (hg : Glob W) => pendsA_any C D s3 s4 hg
      rw [hq] at cpp
      simp only [quadT] at cpp
      clear hV2 hq
      go_enter Tryz.func6, Tryz.ntmps6
      go_wp2_with (go_at_call_of 16 (Value.string ⟨#[47]⟩); refine (c1 _ (hG.on (Below.al (Below.refl _ _) _))).mono ?_; rintro e w2 ⟨rfl, hb2⟩; refine Hid.out ?_)
      have bw2 : Below w.heap.size w w2 := bel_via (Below.al (Below.refl _ w) _) hb2
      have hH2 : w2.heap[w.heap.size]? = some (.cells #[.int .u64 0, .int .u64 0, .int .u64 0, .int .u64 0] 26 (0, 0)) := by rw [hb2.block _ (by simp)]; exact al_new rfl _
      have hz2 : w.heap.size < w2.heap.size := (Array.getElem?_eq_some_iff.1 hH2).1
      clear hb2 c1
      refine Lib.hid ?_
      go_wp2_with (go_at_call 16; refine (c2 _ (hG.on bw2)).mono ?_; rintro e w3 ⟨rfl, hb3⟩; refine Hid.out ?_)
      have bw3 := bel_via bw2 hb3
      have hH3 : w3.heap[w.heap.size]? = some (.cells #[.int .u64 0, .int .u64 0, .int .u64 0, .int .u64 0] 26 (0, 0)) := by rw [hb3.block _ hz2]; exact hH2
      have hz3 : w.heap.size < w3.heap.size := (Array.getElem?_eq_some_iff.1 hH3).1
      clear hb3 c2 hH2 bw2 hz2
      refine Lib.hid ?_
      go_wp2_with (go_at_call 18; refine (cpp _ (hG.on bw3)).mono ?_; rintro e w4 ⟨rfl, hb4⟩; refine Hid.out ?_)
      have bw4 := bel_via bw3 hb4
      have hH4 : w4.heap[w.heap.size]? = some (.cells #[.int .u64 0, .int .u64 0, .int .u64 0, .int .u64 0] 26 (0, 0)) := by rw [hb4.block _ hz3]; exact hH3
      clear hb4 cpp hH3 bw3 hz3
      obtain ⟨d0, d1, d2, d3⟩ := rcells_of hH4
      obtain ⟨g0, g1, g2, g3⟩ := frz_of hH4
      refine Lib.hid ?_
      go_wp2
      refine bodyPost_ret_by (res_quad Tryz.results6 _ _ w.heap.size (.int .u64 a) (.int .u64 b) (.int .u64 c) (.int .u64 d) rfl (heap_set4 hH4 _ _ _ _)) rfl ⟨by rw [HV.out]; rfl, below_set4 bw4 (Nat.le_refl _) _ _ _ _⟩
    | false =>
      obtain ⟨h, lo, er, hT, l1, l2, hc⟩ := parse_three s.data.toList
      have cpa := fun (W : World) (hg : Glob W) => parse_any s hs hg
      rw [hT] at cpa
      have f0 : (h : Int) < 18446744073709551616 := by omega
      have f1 : (lo : Int) < 18446744073709551616 := by omega
      have HV : Hid (V = quadT h lo h lo er) := Lib.hid (by
        rw [hV2, if_neg (by simp), if_neg (by simp)]
        unfold oneR
        rcases hc with ⟨rfl, hp⟩ | ⟨rfl, hp, rfl, rfl⟩
        · rw [hp]
        · rw [hp]; rfl)
      clear hV2 hT hc
      go_enter Tryz.func6, Tryz.ntmps6
      go_wp2_with (go_at_call_of 16 (Value.string ⟨#[47]⟩); refine (c1 _ (hG.on (Below.al (Below.refl _ _) _))).mono ?_; rintro e w2 ⟨rfl, hb2⟩; refine Hid.out ?_)
      have bw2 : Below w.heap.size w w2 := bel_via (Below.al (Below.refl _ w) _) hb2
      have hH2 : w2.heap[w.heap.size]? = some (.cells #[.int .u64 0, .int .u64 0, .int .u64 0, .int .u64 0] 26 (0, 0)) := by rw [hb2.block _ (by simp)]; exact al_new rfl _
      have hz2 : w.heap.size < w2.heap.size := (Array.getElem?_eq_some_iff.1 hH2).1
      clear hb2 c1
      refine Lib.hid ?_
      go_wp2_with (go_at_call 16; refine (c2 _ (hG.on bw2)).mono ?_; rintro e w3 ⟨rfl, hb3⟩; refine Hid.out ?_)
      have bw3 := bel_via bw2 hb3
      have hH3 : w3.heap[w.heap.size]? = some (.cells #[.int .u64 0, .int .u64 0, .int .u64 0, .int .u64 0] 26 (0, 0)) := by rw [hb3.block _ hz2]; exact hH2
      have hz3 : w.heap.size < w3.heap.size := (Array.getElem?_eq_some_iff.1 hH3).1
      clear hb3 c2 hH2 bw2 hz2
      refine Lib.hid ?_
      go_wp2_with (go_at_call 19; refine (cpa _ (hG.on bw3)).mono ?_; rintro e w4 ⟨rfl, hb4⟩; refine Hid.out ?_)
      have bw4 := bel_via bw3 hb4
      have hH4 : w4.heap[w.heap.size]? = some (.cells #[.int .u64 0, .int .u64 0, .int .u64 0, .int .u64 0] 26 (0, 0)) := by rw [hb4.block _ hz3]; exact hH3
      have hz4 : w.heap.size < w4.heap.size := (Array.getElem?_eq_some_iff.1 hH4).1
      clear hb4 cpa hH3 bw3 hz3
      refine Lib.hid ?_
      go_wp2_with (with_reducible refine stop_op (o := ⟨some 43, _, _, _, _, _⟩) ?_)
      obtain ⟨w5, hww5⟩ : ∃ v, v = w4.alloc (.cells #[.int .u64 (h : Nat), .int .u64 (lo : Nat)] 24) := ⟨_, rfl⟩
      have hH5 : w5.heap[w.heap.size]? = some (.cells #[.int .u64 0, .int .u64 0, .int .u64 0, .int .u64 0] 26 (0, 0)) := by rw [hww5, al_old hz4]; exact hH4
      have bw5 : Below w.heap.size w w5 := by rw [hww5]; exact Below.al bw4 _
      have hA5 : w5.heap[w4.heap.size]? = some (.cells #[.int .u64 (h : Nat), .int .u64 (lo : Nat)] 24 (0, 0)) := by rw [hww5]; exact al_new rfl _
      obtain ⟨a0, a1, _, _⟩ := cells_of hA5
      obtain ⟨d0, d1, d2, d3⟩ := rcells_of hH5
      obtain ⟨g0, g1, g2, g3⟩ := frz_of hH5
      rw [← hww5]
      clear hww5 hH4 bw4
      refine Lib.hid ?_
      go_wp2
      refine bodyPost_ret_by (res_quad Tryz.results6 _ _ w.heap.size (.int .u64 (h : Nat)) (.int .u64 (lo : Nat)) (.int .u64 (h : Nat)) (.int .u64 (lo : Nat)) rfl (heap_set4 hH5 _ _ _ _)) rfl ⟨by rw [HV.out]; rfl, below_set4 bw5 (Nat.le_refl _) _ _ _ _⟩
end Go.Proofs.YtaafflmkfdicdaaGreatDoor
