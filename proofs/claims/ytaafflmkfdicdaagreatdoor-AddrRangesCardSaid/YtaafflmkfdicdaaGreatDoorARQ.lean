/- A range out of any text: the document's; by-name template (gen_arq.py). -/
import Derived.Test.YtaafflmkfdicdaaGreatDoorARPlain
import Derived.Test.YtaafflmkfdicdaaGreatDoorARParse
namespace Go.Proofs.YtaafflmkfdicdaaGreatDoor
open Go.RowKit Go.Sort
set_option linter.unusedVariables false
set_option linter.unusedSimpArgs false

/-- Where a byte stands first. -/
theorem first_at (l : List UInt8) (c : UInt8) : ∃ K : Nat, K ≤ l.length ∧ (∀ j x, j < K → l[j]? = some x → x ≠ c) ∧ ((K < l.length ∧ l[K]? = some c ∧ Lib.index l [c] = (K : Int) ∧ Lib.cut l [c] = (l.take K, l.drop (K + 1), true)) ∨ (K = l.length ∧ Lib.index l [c] = -1 ∧ Lib.cut l [c] = (l, [], false))) := by
  by_cases h : c ∈ l
  · obtain ⟨pre, t, rfl, hn⟩ := List.eq_append_cons_of_mem h
    refine ⟨pre.length, by simp, fun j x hj hx e => ?_, .inl ⟨by simp, by simp, idx_at c pre hn t, ?_⟩⟩
    · rw [List.getElem?_append_left hj] at hx
      subst e
      exact hn (List.mem_of_getElem? hx)
    · rw [cut_at c pre t hn]
      simp
  · exact ⟨l.length, Nat.le_refl _, fun j x hj hx e => h (e ▸ List.mem_of_getElem? hx), .inr ⟨rfl, idx_no c l h, cut_no c l h⟩⟩

theorem ba_get (s : ByteArray) (k : Nat) (h : k < s.size) (x : UInt8) (hx : s.data.toList[k]? = some x) : s[k] = x := by
  obtain ⟨d⟩ := s
  have h' : k < d.size := h
  show d[k] = x
  rw [Array.getElem?_toList, Array.getElem?_eq_getElem h'] at hx
  exact Option.some.inj hx

set_option maxHeartbeats 1000000 in
theorem rfirst_any (s : ByteArray) (c : UInt8) (hs : s.size ≤ 281474976) (w : World) : Calls Tryz.prog 20 #[.string s, .int .u8 (c.toNat : Nat)] w fun e w' => e = .returned (.int .i64 (Lib.index s.data.toList [c])) ∧ w' = w := by
  have hL : s.data.toList.length = s.size := by rw [Lib.size_eq]
  obtain ⟨K, hK, hne, hc⟩ := first_at s.data.toList c
  obtain ⟨R, hR⟩ : ∃ R, R = Lib.index s.data.toList [c] := ⟨_, rfl⟩
  rw [← hR] at hc ⊢
  rw [hL] at hK
  have HC := Lib.hid hc
  have HN := Lib.hid hne
  have HL := Lib.hid hL
  clear hR hc hne hL
  obtain ⟨X, hX⟩ : ∃ X, X = c.toNat := ⟨_, rfl⟩
  rw [← hX]
  have HX := Lib.hid hX
  clear hX
  go_enter Tryz.func20, Tryz.ntmps20
  go_wp2
  go_loop [5] (fun vi => ∃ k : Nat, k ≤ K ∧ vi = .int .i64 k) (fun vi => s.size - (intOf vi).toNat)
  case atStart => exact ⟨0, by omega, rfl⟩
  case round =>
    obtain ⟨k, hk, rfl⟩ := hrel
    by_cases hlt : k < s.size
    · have hlti : (k : Int) < (s.size : Int) := by omega
      obtain ⟨x, hx⟩ : ∃ x, s.data.toList[k]? = some x := ⟨_, List.getElem?_eq_getElem (by rw [HL.out]; exact hlt)⟩
      have hix : s[k].toNat = x.toNat := by rw [ba_get s k hlt x hx]
      by_cases hkK : k < K
      · have hxc : x.toNat ≠ X := fun e => HN.out k x hkK hx (UInt8.toNat_inj.1 (by rw [e, HX.out]))
        clear hx
        generalize x.toNat = Y at hix hxc
        have hq : ((Y : Int) == (X : Int)) = false := by simp; omega
        clear hxc
        go_wp2
        go_round
        case rel => exact ⟨k + 1, by omega, by go_num⟩
        case measure => simp [intOf]; omega
      · have hkk : k = K := by omega
        have hR : R = (k : Int) ∧ x.toNat = X := by
          rcases HC.out with ⟨h1, h2, h3, -⟩ | ⟨h1, -⟩
          · rw [hkk] at hx ⊢
            rw [h2] at hx
            exact ⟨h3, by rw [← Option.some.inj hx, HX.out]⟩
          · rw [HL.out] at h1; omega
        obtain ⟨hR1, hR2⟩ := hR
        rw [hR2] at hix
        have HR := Lib.hid hR1
        clear hx hR1 hR2 hkk hkK
        have hq : ((X : Int) == (X : Int)) = true := by simp
        go_wp2
        go_ret
        exact ⟨by rw [HR.out]; rfl, rfl⟩
    · have hke : k = s.size := by omega
      have hkd : decide ((k : Int) < (s.size : Int)) = false := by simp; omega
      have hkd2 : decide (k < s.size) = false := by simp; omega
      have hR : R = -1 := by
        rcases HC.out with ⟨h1, -⟩ | ⟨h1, h2, -⟩
        · rw [HL.out] at h1; omega
        · exact h2
      have HR := Lib.hid hR
      clear hR hlt hke
      go_wp2
      go_ret
      exact ⟨by rw [HR.out]; rfl, rfl⟩

set_option maxHeartbeats 4000000 in
set_option maxRecDepth 100000 in
theorem rprngA_any (s : ByteArray) (hs : s.size ≤ 281474976) (w : World) :
    Calls Tryz.prog 7 #[.string s] w fun e w' => e = .returned (rngT s.data.toList) ∧ Below w.heap.size w w' := by
  have hL : s.data.toList.length = s.size := by rw [Lib.size_eq]
  have c1 := fun W => rfirst_any s 47 hs W
  have c2 := fun W => rfirst_any s 45 hs W
  obtain ⟨V, hV⟩ : ∃ V, V = rngT s.data.toList := ⟨_, rfl⟩
  rw [← hV]
  obtain ⟨K, hK, -, hc⟩ := first_at s.data.toList 47
  rw [hL] at hK hc
  rcases hc with ⟨hK2, -, hi, hcut⟩ | ⟨-, hi, hcut⟩
  · have hVp : V = preR (s.data.toList.take K) (s.data.toList.drop (K + 1)) := by rw [hV]; unfold rngT; rw [hcut]; rfl
    rw [hi] at c1
    have cpa := fun W => rparse_any (s.extract 0 K) (Nat.le_trans (extract_le s 0 K) hs) W
    have cn := fun W => rnumber_any (s.extract (K + 1) s.size) (Nat.le_trans (extract_le s _ _) hs) W
    rw [extract_head] at cpa
    rw [Lib.extract_to_end] at cn
    obtain ⟨h, lo, er, hT, l1, l2, hc⟩ := parse_three (s.data.toList.take K)
    rw [hT] at cpa
    have hKi : (K : Int) ≤ (s.size : Int) := by omega
    have hKj : (K : Int) + 1 ≤ (s.size : Int) := by omega
    have hK0 : (0 : Int) ≤ (K : Int) := by omega
    have hsi : (s.size : Int) ≤ 281474976 := by omega
    clear hT hV hcut hi c2 hL
    rcases hc with ⟨rfl, hp⟩ | ⟨rfl, hp, rfl, rfl⟩
    · have f0 : (h : Int) < 18446744073709551616 := by omega
      have f1 : (lo : Int) < 18446744073709551616 := by omega
      by_cases hn : 0 ≤ numV (s.data.toList.drop (K + 1))
      · have hvb := (num_yes hn).2.2.1
        obtain ⟨a, b, c, d, er, hq⟩ := preT_quad (h : Int) (lo : Int) (numV (s.data.toList.drop (K + 1)))
        have HV : Hid (V = quadT a b c d er) := Lib.hid (by rw [hVp]; unfold preR; rw [hp]; simp only []; rw [if_pos hn]; exact hq)
        obtain ⟨v, hv⟩ : ∃ v, v = numV (s.data.toList.drop (K + 1)) := ⟨_, rfl⟩
        rw [← hv] at cn hn hvb hq
        have hnd : decide (v < 0) = false := by simp; omega
        have cpf := rpre_any (h : Int) (lo : Int) v ⟨by omega, by omega⟩ ⟨by omega, by omega⟩ (by omega) (by omega)
        rw [hq] at cpf
        simp only [quadT] at cpf
        clear hv hq hp hVp
        have hH1 : (w.alloc (.cells #[.int .u64 0, .int .u64 0, .int .u64 0, .int .u64 0] 26 (0, 0))).heap[w.heap.size]? = some (.cells #[.int .u64 0, .int .u64 0, .int .u64 0, .int .u64 0] 26 (0, 0)) := al_new rfl _
        have bw1 : Below w.heap.size w (w.alloc (.cells #[.int .u64 0, .int .u64 0, .int .u64 0, .int .u64 0] 26 (0, 0))) := Below.al (Below.refl _ _) _
        have hz1 : w.heap.size < (w.alloc (.cells #[.int .u64 0, .int .u64 0, .int .u64 0, .int .u64 0] 26 (0, 0))).heap.size := by simp
        go_enter Tryz.func7, Tryz.ntmps7
        go_wp2_with (go_at_call 20; refine (c1 _).mono ?_; rintro e w9 ⟨rfl, rfl⟩; refine Hid.out ?_)
        clear c1
        refine Lib.hid ?_
        go_wp2_with (go_at_call 21; refine (cpa _).mono ?_; rintro e w2 ⟨rfl, hb2⟩; refine Hid.out ?_)
        have bw2 := bel_via bw1 hb2
        have hH2 : w2.heap[w.heap.size]? = some (.cells #[.int .u64 0, .int .u64 0, .int .u64 0, .int .u64 0] 26 (0, 0)) := by rw [hb2.block _ hz1]; exact hH1
        have hz2 : w.heap.size < w2.heap.size := (Array.getElem?_eq_some_iff.1 hH2).1
        clear hb2 cpa hH1 bw1 hz1
        refine Lib.hid ?_
        go_wp2_with (with_reducible refine stop_op (o := ⟨some 26, _, _, _, _, _⟩) ?_)
        obtain ⟨w3, hww3⟩ : ∃ v, v = w2.alloc (.cells #[.int .u64 (h : Nat), .int .u64 (lo : Nat)] 24) := ⟨_, rfl⟩
        have hH3 : w3.heap[w.heap.size]? = some (.cells #[.int .u64 0, .int .u64 0, .int .u64 0, .int .u64 0] 26 (0, 0)) := by rw [hww3, al_old hz2]; exact hH2
        have bw3 : Below w.heap.size w w3 := by rw [hww3]; exact Below.al bw2 _
        have hA3 : w3.heap[w2.heap.size]? = some (.cells #[.int .u64 (h : Nat), .int .u64 (lo : Nat)] 24 (0, 0)) := by rw [hww3]; exact al_new rfl _
        have hz3 : w.heap.size < w3.heap.size := (Array.getElem?_eq_some_iff.1 hH3).1
        obtain ⟨a0, a1, _, _⟩ := cells_of hA3
        rw [← hww3]
        clear hww3 hH2 bw2 hz2 hA3
        refine Lib.hid ?_
        go_wp2_with (first | (go_at_call 22; refine (cn _).mono ?_; rintro e w9 ⟨rfl, rfl⟩) | (go_at_call 5; refine (cpf _).mono ?_; rintro e w4 ⟨rfl, hb4⟩; refine Hid.out ?_))
        have bw4 := bel_via bw3 hb4
        have hH4 : w4.heap[w.heap.size]? = some (.cells #[.int .u64 0, .int .u64 0, .int .u64 0, .int .u64 0] 26 (0, 0)) := by rw [hb4.block _ hz3]; exact hH3
        clear hb4 cpf cn hH3 bw3 a0 a1
        refine Lib.hid ?_
        obtain ⟨d0, d1, d2, d3⟩ := rcells_of hH4
        obtain ⟨g0, g1, g2, g3⟩ := frz_of hH4
        go_wp2
        refine bodyPost_ret_by (res_quad Tryz.results7 _ _ w.heap.size (.int .u64 a) (.int .u64 b) (.int .u64 c) (.int .u64 d) rfl (heap_set4 hH4 _ _ _ _)) rfl ⟨by rw [HV.out]; rfl, below_set4 bw4 (Nat.le_refl _) _ _ _ _⟩
      · have HV : Hid (V = quadT 0 0 0 0 31) := Lib.hid (by rw [hVp]; unfold preR; rw [hp]; simp only []; rw [if_neg hn])
        obtain ⟨v, hv⟩ : ∃ v, v = numV (s.data.toList.drop (K + 1)) := ⟨_, rfl⟩
        rw [← hv] at cn hn
        have hnd : decide (v < 0) = true := by simp; omega
        clear hv hp hVp
        have hH1 : (w.alloc (.cells #[.int .u64 0, .int .u64 0, .int .u64 0, .int .u64 0] 26 (0, 0))).heap[w.heap.size]? = some (.cells #[.int .u64 0, .int .u64 0, .int .u64 0, .int .u64 0] 26 (0, 0)) := al_new rfl _
        have bw1 : Below w.heap.size w (w.alloc (.cells #[.int .u64 0, .int .u64 0, .int .u64 0, .int .u64 0] 26 (0, 0))) := Below.al (Below.refl _ _) _
        have hz1 : w.heap.size < (w.alloc (.cells #[.int .u64 0, .int .u64 0, .int .u64 0, .int .u64 0] 26 (0, 0))).heap.size := by simp
        go_enter Tryz.func7, Tryz.ntmps7
        go_wp2_with (go_at_call 20; refine (c1 _).mono ?_; rintro e w9 ⟨rfl, rfl⟩; refine Hid.out ?_)
        clear c1
        refine Lib.hid ?_
        go_wp2_with (go_at_call 21; refine (cpa _).mono ?_; rintro e w2 ⟨rfl, hb2⟩; refine Hid.out ?_)
        have bw2 := bel_via bw1 hb2
        have hH2 : w2.heap[w.heap.size]? = some (.cells #[.int .u64 0, .int .u64 0, .int .u64 0, .int .u64 0] 26 (0, 0)) := by rw [hb2.block _ hz1]; exact hH1
        have hz2 : w.heap.size < w2.heap.size := (Array.getElem?_eq_some_iff.1 hH2).1
        clear hb2 cpa hH1 bw1 hz1
        refine Lib.hid ?_
        go_wp2_with (with_reducible refine stop_op (o := ⟨some 26, _, _, _, _, _⟩) ?_)
        obtain ⟨w3, hww3⟩ : ∃ v, v = w2.alloc (.cells #[.int .u64 (h : Nat), .int .u64 (lo : Nat)] 24) := ⟨_, rfl⟩
        have hH3 : w3.heap[w.heap.size]? = some (.cells #[.int .u64 0, .int .u64 0, .int .u64 0, .int .u64 0] 26 (0, 0)) := by rw [hww3, al_old hz2]; exact hH2
        have bw3 : Below w.heap.size w w3 := by rw [hww3]; exact Below.al bw2 _
        rw [← hww3]
        clear hww3 hH2 bw2 hz2
        refine Lib.hid ?_
        go_wp2_with (go_at_call 22; refine (cn _).mono ?_; rintro e w9 ⟨rfl, rfl⟩; refine Hid.out ?_)
        clear cn
        refine Lib.hid ?_
        obtain ⟨d0, d1, d2, d3⟩ := rcells_of hH3
        obtain ⟨g0, g1, g2, g3⟩ := frz_of hH3
        go_wp2
        refine bodyPost_ret_by (res_quad Tryz.results7 _ _ w.heap.size (.int .u64 0) (.int .u64 0) (.int .u64 0) (.int .u64 0) rfl (heap_set4 hH3 _ _ _ _)) rfl ⟨by rw [HV.out]; rfl, below_set4 bw3 (Nat.le_refl _) _ _ _ _⟩
    · have HV : Hid (V = quadT 0 0 0 0 30) := Lib.hid (by rw [hVp]; unfold preR; rw [hp])
      clear hp hVp cn
      have hH1 : (w.alloc (.cells #[.int .u64 0, .int .u64 0, .int .u64 0, .int .u64 0] 26 (0, 0))).heap[w.heap.size]? = some (.cells #[.int .u64 0, .int .u64 0, .int .u64 0, .int .u64 0] 26 (0, 0)) := al_new rfl _
      have bw1 : Below w.heap.size w (w.alloc (.cells #[.int .u64 0, .int .u64 0, .int .u64 0, .int .u64 0] 26 (0, 0))) := Below.al (Below.refl _ _) _
      have hz1 : w.heap.size < (w.alloc (.cells #[.int .u64 0, .int .u64 0, .int .u64 0, .int .u64 0] 26 (0, 0))).heap.size := by simp
      go_enter Tryz.func7, Tryz.ntmps7
      go_wp2_with (go_at_call 20; refine (c1 _).mono ?_; rintro e w9 ⟨rfl, rfl⟩; refine Hid.out ?_)
      clear c1
      refine Lib.hid ?_
      go_wp2_with (go_at_call 21; refine (cpa _).mono ?_; rintro e w2 ⟨rfl, hb2⟩; refine Hid.out ?_)
      have bw2 := bel_via bw1 hb2
      have hH2 : w2.heap[w.heap.size]? = some (.cells #[.int .u64 0, .int .u64 0, .int .u64 0, .int .u64 0] 26 (0, 0)) := by rw [hb2.block _ hz1]; exact hH1
      have hz2 : w.heap.size < w2.heap.size := (Array.getElem?_eq_some_iff.1 hH2).1
      clear hb2 cpa hH1 bw1 hz1
      refine Lib.hid ?_
      go_wp2_with (with_reducible refine stop_op (o := ⟨some 26, _, _, _, _, _⟩) ?_)
      obtain ⟨w3, hww3⟩ : ∃ v, v = w2.alloc (.cells #[.int .u64 0, .int .u64 0] 24) := ⟨_, rfl⟩
      have hH3 : w3.heap[w.heap.size]? = some (.cells #[.int .u64 0, .int .u64 0, .int .u64 0, .int .u64 0] 26 (0, 0)) := by rw [hww3, al_old hz2]; exact hH2
      have bw3 : Below w.heap.size w w3 := by rw [hww3]; exact Below.al bw2 _
      rw [← hww3]
      clear hww3 hH2 bw2 hz2
      refine Lib.hid ?_
      obtain ⟨d0, d1, d2, d3⟩ := rcells_of hH3
      obtain ⟨g0, g1, g2, g3⟩ := frz_of hH3
      go_wp2
      refine bodyPost_ret_by (res_quad Tryz.results7 _ _ w.heap.size (.int .u64 0) (.int .u64 0) (.int .u64 0) (.int .u64 0) rfl (heap_set4 hH3 _ _ _ _)) rfl ⟨by rw [HV.out]; rfl, below_set4 bw3 (Nat.le_refl _) _ _ _ _⟩
  · rw [hi] at c1
    have hV0 : V = if (Lib.cut s.data.toList [45]).2.2 = true then endsR (Lib.cut s.data.toList [45]).1 (Lib.cut s.data.toList [45]).2.1 else oneR s.data.toList := by rw [hV]; unfold rngT; rw [hcut, if_neg (by simp)]
    clear hV hcut hi hK
    obtain ⟨K, hK, -, hc⟩ := first_at s.data.toList 45
    rw [hL] at hK hc
    have hsi : (s.size : Int) ≤ 281474976 := by omega
    rcases hc with ⟨hK2, -, hi, hcut⟩ | ⟨-, hi, hcut⟩
    · have hVp : V = endsR (s.data.toList.take K) (s.data.toList.drop (K + 1)) := by rw [hV0, hcut]; rfl
      rw [hi] at c2
      have cpa := fun W => rparse_any (s.extract 0 K) (Nat.le_trans (extract_le s 0 K) hs) W
      have cpb := fun W => rparse_any (s.extract (K + 1) s.size) (Nat.le_trans (extract_le s _ _) hs) W
      rw [extract_head] at cpa
      rw [Lib.extract_to_end] at cpb
      obtain ⟨h, lo, er, hT, l1, l2, hc⟩ := parse_three (s.data.toList.take K)
      rw [hT] at cpa
      obtain ⟨h2, lo2, er2, hT2, m1, m2, hc2⟩ := parse_three (s.data.toList.drop (K + 1))
      rw [hT2] at cpb
      have hKi : (K : Int) ≤ (s.size : Int) := by omega
      have hKj : (K : Int) + 1 ≤ (s.size : Int) := by omega
      have hK0 : (0 : Int) ≤ (K : Int) := by omega
      have f0 : (h : Int) < 18446744073709551616 := by omega
      have f1 : (lo : Int) < 18446744073709551616 := by omega
      have f2 : (h2 : Int) < 18446744073709551616 := by omega
      have f3 : (lo2 : Int) < 18446744073709551616 := by omega
      clear hT hT2 hV0 hcut hi hL
      rcases hc with ⟨rfl, hp⟩ | ⟨rfl, hp, rfl, rfl⟩
      · rcases hc2 with ⟨rfl, hq⟩ | ⟨rfl, hq, rfl, rfl⟩
        · have ccm := rless_any (h2 : Int) (lo2 : Int) (h : Int) (lo : Int)
          rw [cmp_flip] at ccm
          have ci1 := ris4_any (h : Int) (lo : Int) ⟨by omega, by omega⟩ ⟨by omega, by omega⟩
          have ci2 := ris4_any (h2 : Int) (lo2 : Int) ⟨by omega, by omega⟩ ⟨by omega, by omega⟩
          have hV2 : V = if is4I (h : Int) lo = is4I (h2 : Int) lo2 ∧ cmpA (h : Int) lo h2 lo2 ≤ 0 then quadT h lo h2 lo2 0 else quadT 0 0 0 0 31 := by rw [hVp]; unfold endsR; rw [hp]; simp only []; rw [hq]
          obtain ⟨c, hce⟩ : ∃ c, c = cmpA (h : Int) lo h2 lo2 := ⟨_, rfl⟩
          obtain ⟨i1, hi1⟩ : ∃ i, i = is4I (h : Int) lo := ⟨_, rfl⟩
          obtain ⟨i2, hi2⟩ : ∃ i, i = is4I (h2 : Int) lo2 := ⟨_, rfl⟩
          rw [← hce] at ccm hV2
          rw [← hi1] at ci1 hV2
          rw [← hi2] at ci2 hV2
          obtain ⟨lt, hlt⟩ : ∃ b, b = decide (0 < c) := ⟨_, rfl⟩
          rw [← hlt] at ccm
          have HLT := Lib.hid hlt
          have HV2 := Lib.hid hV2
          clear hV2 hce hi1 hi2 hp hq hVp hlt
          have hH1 : (w.alloc (.cells #[.int .u64 0, .int .u64 0, .int .u64 0, .int .u64 0] 26 (0, 0))).heap[w.heap.size]? = some (.cells #[.int .u64 0, .int .u64 0, .int .u64 0, .int .u64 0] 26 (0, 0)) := al_new rfl _
          have bw1 : Below w.heap.size w (w.alloc (.cells #[.int .u64 0, .int .u64 0, .int .u64 0, .int .u64 0] 26 (0, 0))) := Below.al (Below.refl _ _) _
          have hz1 : w.heap.size < (w.alloc (.cells #[.int .u64 0, .int .u64 0, .int .u64 0, .int .u64 0] 26 (0, 0))).heap.size := by simp
          go_enter Tryz.func7, Tryz.ntmps7
          go_wp2_with (go_at_call 20; refine (c1 _).mono ?_; rintro e w9 ⟨rfl, rfl⟩; refine Hid.out ?_)
          clear c1
          refine Lib.hid ?_
          go_wp2_with (go_at_call 20; refine (c2 _).mono ?_; rintro e w9 ⟨rfl, rfl⟩; refine Hid.out ?_)
          clear c2
          refine Lib.hid ?_
          go_wp2_with (go_at_call_of 21 (Value.string (s.extract 0 K)); refine (cpa _).mono ?_; rintro e w2 ⟨rfl, hb2⟩; refine Hid.out ?_)
          have bw2 := bel_via bw1 hb2
          have hH2 : w2.heap[w.heap.size]? = some (.cells #[.int .u64 0, .int .u64 0, .int .u64 0, .int .u64 0] 26 (0, 0)) := by rw [hb2.block _ hz1]; exact hH1
          have hz2 : w.heap.size < w2.heap.size := (Array.getElem?_eq_some_iff.1 hH2).1
          clear hb2 cpa hH1 bw1 hz1
          refine Lib.hid ?_
          go_wp2_with (with_reducible refine stop_op (o := ⟨some 56, _, _, _, _, _⟩) ?_)
          obtain ⟨w3, hww3⟩ : ∃ v, v = w2.alloc (.cells #[.int .u64 (h : Nat), .int .u64 (lo : Nat)] 24) := ⟨_, rfl⟩
          have hH3 : w3.heap[w.heap.size]? = some (.cells #[.int .u64 0, .int .u64 0, .int .u64 0, .int .u64 0] 26 (0, 0)) := by rw [hww3, al_old hz2]; exact hH2
          have bw3 : Below w.heap.size w w3 := by rw [hww3]; exact Below.al bw2 _
          have hA3 : w3.heap[w2.heap.size]? = some (.cells #[.int .u64 (h : Nat), .int .u64 (lo : Nat)] 24 (0, 0)) := by rw [hww3]; exact al_new rfl _
          have hz3 : w.heap.size < w3.heap.size := (Array.getElem?_eq_some_iff.1 hH3).1
          obtain ⟨BA, hBA⟩ : ∃ b, b = w2.heap.size := ⟨_, rfl⟩
          rw [← hww3, ← hBA]
          rw [← hBA] at hA3
          have hzA3 : BA < w3.heap.size := (Array.getElem?_eq_some_iff.1 hA3).1
          clear hww3 hH2 bw2 hz2 hBA
          refine Lib.hid ?_
          go_wp2_with (go_at_call 21; refine (cpb _).mono ?_; rintro e w4 ⟨rfl, hb4⟩; refine Hid.out ?_)
          have bw4 := bel_via bw3 hb4
          have hH4 : w4.heap[w.heap.size]? = some (.cells #[.int .u64 0, .int .u64 0, .int .u64 0, .int .u64 0] 26 (0, 0)) := by rw [hb4.block _ hz3]; exact hH3
          have hz4 : w.heap.size < w4.heap.size := (Array.getElem?_eq_some_iff.1 hH4).1
          have hA4 : w4.heap[BA]? = some (.cells #[.int .u64 (h : Nat), .int .u64 (lo : Nat)] 24 (0, 0)) := by rw [hb4.block _ hzA3]; exact hA3
          have hzA4 : BA < w4.heap.size := (Array.getElem?_eq_some_iff.1 hA4).1
          clear hb4 cpb hH3 bw3 hz3 hA3 hzA3
          refine Lib.hid ?_
          go_wp2_with (with_reducible refine stop_op (o := ⟨some 62, _, _, _, _, _⟩) ?_)
          obtain ⟨w5, hww5⟩ : ∃ v, v = w4.alloc (.cells #[.int .u64 (h2 : Nat), .int .u64 (lo2 : Nat)] 24) := ⟨_, rfl⟩
          have hH5 : w5.heap[w.heap.size]? = some (.cells #[.int .u64 0, .int .u64 0, .int .u64 0, .int .u64 0] 26 (0, 0)) := by rw [hww5, al_old hz4]; exact hH4
          have bw5 : Below w.heap.size w w5 := by rw [hww5]; exact Below.al bw4 _
          have hB5 : w5.heap[w4.heap.size]? = some (.cells #[.int .u64 (h2 : Nat), .int .u64 (lo2 : Nat)] 24 (0, 0)) := by rw [hww5]; exact al_new rfl _
          have hA5 : w5.heap[BA]? = some (.cells #[.int .u64 (h : Nat), .int .u64 (lo : Nat)] 24 (0, 0)) := by rw [hww5, al_old hzA4]; exact hA4
          obtain ⟨BB, hBB⟩ : ∃ b, b = w4.heap.size := ⟨_, rfl⟩
          rw [← hww5, ← hBB]
          rw [← hBB] at hB5
          clear hww5 hH4 bw4 hz4 hA4 hzA4 hBB
          refine Lib.hid ?_
          go_wp2
          have hzA : BA < w5.heap.size := (Array.getElem?_eq_some_iff.1 hA5).1
          have hzB : BB < w5.heap.size := (Array.getElem?_eq_some_iff.1 hB5).1
          have hzH : w.heap.size < w5.heap.size := (Array.getElem?_eq_some_iff.1 hH5).1
          obtain ⟨a0, a1, _, _⟩ := cells_of hA5
          obtain ⟨b0, b1, _, _⟩ := cells_of hB5
          have k0 := cell_regrown a0
          have k1 := cell_regrown a1
          have k2 := cell_regrown b0
          have k3 := cell_regrown b1
          have qm := fun d os => Calls.regrown_of (ccm (grow (redrawn w5 d) os))
          have q1 := fun d os => Calls.regrown_of (ci1 (grow (redrawn w5 d) os))
          have q2 := fun d os => Calls.regrown_of (ci2 (grow (redrawn w5 d) os))
          clear a0 a1 b0 b1 ccm ci1 ci2
          cases i1 with
          | false =>
            cases i2 with
            | false =>
              cases lt with
              | true =>
                have hc : 0 < c := by have := HLT.out; simpa using this.symm
                have HV : Hid (V = quadT 0 0 0 0 31) := Lib.hid (by rw [HV2.out, if_neg (by omega)])
                clear hc
                refine wp_region_quiet_below (by kernel_rfl) (by kernel_rfl) ?_
                repeat (first | go_big_quiet_skip | quiet_step (first | (go_at_call 23; with_reducible exact qm _ _) | (go_at_call_of 14 (Value.agg #[Value.int IntKind.u64 (h : Int), Value.int IntKind.u64 (lo : Int)]); with_reducible exact q1 _ _) | (go_at_call 14; with_reducible exact q2 _ _)))
                refine wpQuiet_nil ?_
                intro _ hw'
                obtain ⟨⟨dq, osq⟩, hw''⟩ := hw'
                subst hw''
                obtain ⟨w6, hw6⟩ : ∃ v, v = grow (redrawn w5 dq) osq := ⟨_, rfl⟩
                have b56 : Below w5.heap.size w5 w6 := by rw [hw6]; exact below_regrown w5 dq osq
                have hA6 : w6.heap[BA]? = some (.cells #[.int .u64 (h : Nat), .int .u64 (lo : Nat)] 24 (0, 0)) := by rw [b56.block _ hzA]; exact hA5
                have hB6 : w6.heap[BB]? = some (.cells #[.int .u64 (h2 : Nat), .int .u64 (lo2 : Nat)] 24 (0, 0)) := by rw [b56.block _ hzB]; exact hB5
                have hH6 : w6.heap[w.heap.size]? = some (.cells #[.int .u64 0, .int .u64 0, .int .u64 0, .int .u64 0] 26 (0, 0)) := by rw [b56.block _ hzH]; exact hH5
                have bw6 := bel_via bw5 b56
                rw [← hw6]
                clear hw6 k0 k1 k2 k3 qm q1 q2
                obtain ⟨a0, a1, _, _⟩ := cells_of hA6
                obtain ⟨b0, b1, _, _⟩ := cells_of hB6
                obtain ⟨d0, d1, d2, d3⟩ := rcells_of hH6
                obtain ⟨g0, g1, g2, g3⟩ := frz_of hH6
                go_wp2
                refine bodyPost_ret_by (res_quad Tryz.results7 _ _ w.heap.size (.int .u64 0) (.int .u64 0) (.int .u64 0) (.int .u64 0) rfl (heap_set4 hH6 _ _ _ _)) rfl ⟨by rw [HV.out]; rfl, below_set4 bw6 (Nat.le_refl _) _ _ _ _⟩
              | false =>
                have hc : ¬ 0 < c := by have := HLT.out; simpa using this.symm
                have HV : Hid (V = quadT h lo h2 lo2 0) := Lib.hid (by rw [HV2.out, if_pos ⟨rfl, by omega⟩])
                clear hc
                refine wp_region_quiet_below (by kernel_rfl) (by kernel_rfl) ?_
                repeat (first | go_big_quiet_skip | quiet_step (first | (go_at_call 23; with_reducible exact qm _ _) | (go_at_call_of 14 (Value.agg #[Value.int IntKind.u64 (h : Int), Value.int IntKind.u64 (lo : Int)]); with_reducible exact q1 _ _) | (go_at_call 14; with_reducible exact q2 _ _)))
                refine wpQuiet_nil ?_
                intro _ hw'
                obtain ⟨⟨dq, osq⟩, hw''⟩ := hw'
                subst hw''
                obtain ⟨w6, hw6⟩ : ∃ v, v = grow (redrawn w5 dq) osq := ⟨_, rfl⟩
                have b56 : Below w5.heap.size w5 w6 := by rw [hw6]; exact below_regrown w5 dq osq
                have hA6 : w6.heap[BA]? = some (.cells #[.int .u64 (h : Nat), .int .u64 (lo : Nat)] 24 (0, 0)) := by rw [b56.block _ hzA]; exact hA5
                have hB6 : w6.heap[BB]? = some (.cells #[.int .u64 (h2 : Nat), .int .u64 (lo2 : Nat)] 24 (0, 0)) := by rw [b56.block _ hzB]; exact hB5
                have hH6 : w6.heap[w.heap.size]? = some (.cells #[.int .u64 0, .int .u64 0, .int .u64 0, .int .u64 0] 26 (0, 0)) := by rw [b56.block _ hzH]; exact hH5
                have bw6 := bel_via bw5 b56
                rw [← hw6]
                clear hw6 k0 k1 k2 k3 qm q1 q2
                obtain ⟨a0, a1, _, _⟩ := cells_of hA6
                obtain ⟨b0, b1, _, _⟩ := cells_of hB6
                obtain ⟨d0, d1, d2, d3⟩ := rcells_of hH6
                obtain ⟨g0, g1, g2, g3⟩ := frz_of hH6
                go_wp2
                refine bodyPost_ret_by (res_quad Tryz.results7 _ _ w.heap.size (.int .u64 (h : Nat)) (.int .u64 (lo : Nat)) (.int .u64 (h2 : Nat)) (.int .u64 (lo2 : Nat)) rfl (heap_set4 hH6 _ _ _ _)) rfl ⟨by rw [HV.out]; rfl, below_set4 bw6 (Nat.le_refl _) _ _ _ _⟩
            | true =>
              have HV : Hid (V = quadT 0 0 0 0 31) := Lib.hid (by rw [HV2.out, if_neg (by simp)])
              refine wp_region_quiet_below (by kernel_rfl) (by kernel_rfl) ?_
              repeat (first | go_big_quiet_skip | quiet_step (first | (go_at_call 23; with_reducible exact qm _ _) | (go_at_call_of 14 (Value.agg #[Value.int IntKind.u64 (h : Int), Value.int IntKind.u64 (lo : Int)]); with_reducible exact q1 _ _) | (go_at_call 14; with_reducible exact q2 _ _)))
              refine wpQuiet_nil ?_
              intro _ hw'
              obtain ⟨⟨dq, osq⟩, hw''⟩ := hw'
              subst hw''
              obtain ⟨w6, hw6⟩ : ∃ v, v = grow (redrawn w5 dq) osq := ⟨_, rfl⟩
              have b56 : Below w5.heap.size w5 w6 := by rw [hw6]; exact below_regrown w5 dq osq
              have hA6 : w6.heap[BA]? = some (.cells #[.int .u64 (h : Nat), .int .u64 (lo : Nat)] 24 (0, 0)) := by rw [b56.block _ hzA]; exact hA5
              have hB6 : w6.heap[BB]? = some (.cells #[.int .u64 (h2 : Nat), .int .u64 (lo2 : Nat)] 24 (0, 0)) := by rw [b56.block _ hzB]; exact hB5
              have hH6 : w6.heap[w.heap.size]? = some (.cells #[.int .u64 0, .int .u64 0, .int .u64 0, .int .u64 0] 26 (0, 0)) := by rw [b56.block _ hzH]; exact hH5
              have bw6 := bel_via bw5 b56
              rw [← hw6]
              clear hw6 k0 k1 k2 k3 qm q1 q2
              obtain ⟨a0, a1, _, _⟩ := cells_of hA6
              obtain ⟨b0, b1, _, _⟩ := cells_of hB6
              obtain ⟨d0, d1, d2, d3⟩ := rcells_of hH6
              obtain ⟨g0, g1, g2, g3⟩ := frz_of hH6
              go_wp2
              refine bodyPost_ret_by (res_quad Tryz.results7 _ _ w.heap.size (.int .u64 0) (.int .u64 0) (.int .u64 0) (.int .u64 0) rfl (heap_set4 hH6 _ _ _ _)) rfl ⟨by rw [HV.out]; rfl, below_set4 bw6 (Nat.le_refl _) _ _ _ _⟩
          | true =>
            cases i2 with
            | false =>
              have HV : Hid (V = quadT 0 0 0 0 31) := Lib.hid (by rw [HV2.out, if_neg (by simp)])
              refine wp_region_quiet_below (by kernel_rfl) (by kernel_rfl) ?_
              repeat (first | go_big_quiet_skip | quiet_step (first | (go_at_call 23; with_reducible exact qm _ _) | (go_at_call_of 14 (Value.agg #[Value.int IntKind.u64 (h : Int), Value.int IntKind.u64 (lo : Int)]); with_reducible exact q1 _ _) | (go_at_call 14; with_reducible exact q2 _ _)))
              refine wpQuiet_nil ?_
              intro _ hw'
              obtain ⟨⟨dq, osq⟩, hw''⟩ := hw'
              subst hw''
              obtain ⟨w6, hw6⟩ : ∃ v, v = grow (redrawn w5 dq) osq := ⟨_, rfl⟩
              have b56 : Below w5.heap.size w5 w6 := by rw [hw6]; exact below_regrown w5 dq osq
              have hA6 : w6.heap[BA]? = some (.cells #[.int .u64 (h : Nat), .int .u64 (lo : Nat)] 24 (0, 0)) := by rw [b56.block _ hzA]; exact hA5
              have hB6 : w6.heap[BB]? = some (.cells #[.int .u64 (h2 : Nat), .int .u64 (lo2 : Nat)] 24 (0, 0)) := by rw [b56.block _ hzB]; exact hB5
              have hH6 : w6.heap[w.heap.size]? = some (.cells #[.int .u64 0, .int .u64 0, .int .u64 0, .int .u64 0] 26 (0, 0)) := by rw [b56.block _ hzH]; exact hH5
              have bw6 := bel_via bw5 b56
              rw [← hw6]
              clear hw6 k0 k1 k2 k3 qm q1 q2
              obtain ⟨a0, a1, _, _⟩ := cells_of hA6
              obtain ⟨b0, b1, _, _⟩ := cells_of hB6
              obtain ⟨d0, d1, d2, d3⟩ := rcells_of hH6
              obtain ⟨g0, g1, g2, g3⟩ := frz_of hH6
              go_wp2
              refine bodyPost_ret_by (res_quad Tryz.results7 _ _ w.heap.size (.int .u64 0) (.int .u64 0) (.int .u64 0) (.int .u64 0) rfl (heap_set4 hH6 _ _ _ _)) rfl ⟨by rw [HV.out]; rfl, below_set4 bw6 (Nat.le_refl _) _ _ _ _⟩
            | true =>
              cases lt with
              | true =>
                have hc : 0 < c := by have := HLT.out; simpa using this.symm
                have HV : Hid (V = quadT 0 0 0 0 31) := Lib.hid (by rw [HV2.out, if_neg (by omega)])
                clear hc
                refine wp_region_quiet_below (by kernel_rfl) (by kernel_rfl) ?_
                repeat (first | go_big_quiet_skip | quiet_step (first | (go_at_call 23; with_reducible exact qm _ _) | (go_at_call_of 14 (Value.agg #[Value.int IntKind.u64 (h : Int), Value.int IntKind.u64 (lo : Int)]); with_reducible exact q1 _ _) | (go_at_call 14; with_reducible exact q2 _ _)))
                refine wpQuiet_nil ?_
                intro _ hw'
                obtain ⟨⟨dq, osq⟩, hw''⟩ := hw'
                subst hw''
                obtain ⟨w6, hw6⟩ : ∃ v, v = grow (redrawn w5 dq) osq := ⟨_, rfl⟩
                have b56 : Below w5.heap.size w5 w6 := by rw [hw6]; exact below_regrown w5 dq osq
                have hA6 : w6.heap[BA]? = some (.cells #[.int .u64 (h : Nat), .int .u64 (lo : Nat)] 24 (0, 0)) := by rw [b56.block _ hzA]; exact hA5
                have hB6 : w6.heap[BB]? = some (.cells #[.int .u64 (h2 : Nat), .int .u64 (lo2 : Nat)] 24 (0, 0)) := by rw [b56.block _ hzB]; exact hB5
                have hH6 : w6.heap[w.heap.size]? = some (.cells #[.int .u64 0, .int .u64 0, .int .u64 0, .int .u64 0] 26 (0, 0)) := by rw [b56.block _ hzH]; exact hH5
                have bw6 := bel_via bw5 b56
                rw [← hw6]
                clear hw6 k0 k1 k2 k3 qm q1 q2
                obtain ⟨a0, a1, _, _⟩ := cells_of hA6
                obtain ⟨b0, b1, _, _⟩ := cells_of hB6
                obtain ⟨d0, d1, d2, d3⟩ := rcells_of hH6
                obtain ⟨g0, g1, g2, g3⟩ := frz_of hH6
                go_wp2
                refine bodyPost_ret_by (res_quad Tryz.results7 _ _ w.heap.size (.int .u64 0) (.int .u64 0) (.int .u64 0) (.int .u64 0) rfl (heap_set4 hH6 _ _ _ _)) rfl ⟨by rw [HV.out]; rfl, below_set4 bw6 (Nat.le_refl _) _ _ _ _⟩
              | false =>
                have hc : ¬ 0 < c := by have := HLT.out; simpa using this.symm
                have HV : Hid (V = quadT h lo h2 lo2 0) := Lib.hid (by rw [HV2.out, if_pos ⟨rfl, by omega⟩])
                clear hc
                refine wp_region_quiet_below (by kernel_rfl) (by kernel_rfl) ?_
                repeat (first | go_big_quiet_skip | quiet_step (first | (go_at_call 23; with_reducible exact qm _ _) | (go_at_call_of 14 (Value.agg #[Value.int IntKind.u64 (h : Int), Value.int IntKind.u64 (lo : Int)]); with_reducible exact q1 _ _) | (go_at_call 14; with_reducible exact q2 _ _)))
                refine wpQuiet_nil ?_
                intro _ hw'
                obtain ⟨⟨dq, osq⟩, hw''⟩ := hw'
                subst hw''
                obtain ⟨w6, hw6⟩ : ∃ v, v = grow (redrawn w5 dq) osq := ⟨_, rfl⟩
                have b56 : Below w5.heap.size w5 w6 := by rw [hw6]; exact below_regrown w5 dq osq
                have hA6 : w6.heap[BA]? = some (.cells #[.int .u64 (h : Nat), .int .u64 (lo : Nat)] 24 (0, 0)) := by rw [b56.block _ hzA]; exact hA5
                have hB6 : w6.heap[BB]? = some (.cells #[.int .u64 (h2 : Nat), .int .u64 (lo2 : Nat)] 24 (0, 0)) := by rw [b56.block _ hzB]; exact hB5
                have hH6 : w6.heap[w.heap.size]? = some (.cells #[.int .u64 0, .int .u64 0, .int .u64 0, .int .u64 0] 26 (0, 0)) := by rw [b56.block _ hzH]; exact hH5
                have bw6 := bel_via bw5 b56
                rw [← hw6]
                clear hw6 k0 k1 k2 k3 qm q1 q2
                obtain ⟨a0, a1, _, _⟩ := cells_of hA6
                obtain ⟨b0, b1, _, _⟩ := cells_of hB6
                obtain ⟨d0, d1, d2, d3⟩ := rcells_of hH6
                obtain ⟨g0, g1, g2, g3⟩ := frz_of hH6
                go_wp2
                refine bodyPost_ret_by (res_quad Tryz.results7 _ _ w.heap.size (.int .u64 (h : Nat)) (.int .u64 (lo : Nat)) (.int .u64 (h2 : Nat)) (.int .u64 (lo2 : Nat)) rfl (heap_set4 hH6 _ _ _ _)) rfl ⟨by rw [HV.out]; rfl, below_set4 bw6 (Nat.le_refl _) _ _ _ _⟩
        · have HV : Hid (V = quadT 0 0 0 0 30) := Lib.hid (by rw [hVp]; unfold endsR; rw [hp]; simp only []; rw [hq])
          clear hp hq hVp
          have hH1 : (w.alloc (.cells #[.int .u64 0, .int .u64 0, .int .u64 0, .int .u64 0] 26 (0, 0))).heap[w.heap.size]? = some (.cells #[.int .u64 0, .int .u64 0, .int .u64 0, .int .u64 0] 26 (0, 0)) := al_new rfl _
          have bw1 : Below w.heap.size w (w.alloc (.cells #[.int .u64 0, .int .u64 0, .int .u64 0, .int .u64 0] 26 (0, 0))) := Below.al (Below.refl _ _) _
          have hz1 : w.heap.size < (w.alloc (.cells #[.int .u64 0, .int .u64 0, .int .u64 0, .int .u64 0] 26 (0, 0))).heap.size := by simp
          go_enter Tryz.func7, Tryz.ntmps7
          go_wp2_with (go_at_call 20; refine (c1 _).mono ?_; rintro e w9 ⟨rfl, rfl⟩; refine Hid.out ?_)
          clear c1
          refine Lib.hid ?_
          go_wp2_with (go_at_call 20; refine (c2 _).mono ?_; rintro e w9 ⟨rfl, rfl⟩; refine Hid.out ?_)
          clear c2
          refine Lib.hid ?_
          go_wp2_with (go_at_call_of 21 (Value.string (s.extract 0 K)); refine (cpa _).mono ?_; rintro e w2 ⟨rfl, hb2⟩; refine Hid.out ?_)
          have bw2 := bel_via bw1 hb2
          have hH2 : w2.heap[w.heap.size]? = some (.cells #[.int .u64 0, .int .u64 0, .int .u64 0, .int .u64 0] 26 (0, 0)) := by rw [hb2.block _ hz1]; exact hH1
          have hz2 : w.heap.size < w2.heap.size := (Array.getElem?_eq_some_iff.1 hH2).1
          clear hb2 cpa hH1 bw1 hz1
          refine Lib.hid ?_
          go_wp2_with (with_reducible refine stop_op (o := ⟨some 56, _, _, _, _, _⟩) ?_)
          obtain ⟨w3, hww3⟩ : ∃ v, v = w2.alloc (.cells #[.int .u64 (h : Nat), .int .u64 (lo : Nat)] 24) := ⟨_, rfl⟩
          have hH3 : w3.heap[w.heap.size]? = some (.cells #[.int .u64 0, .int .u64 0, .int .u64 0, .int .u64 0] 26 (0, 0)) := by rw [hww3, al_old hz2]; exact hH2
          have bw3 : Below w.heap.size w w3 := by rw [hww3]; exact Below.al bw2 _
          have hA3 : w3.heap[w2.heap.size]? = some (.cells #[.int .u64 (h : Nat), .int .u64 (lo : Nat)] 24 (0, 0)) := by rw [hww3]; exact al_new rfl _
          have hz3 : w.heap.size < w3.heap.size := (Array.getElem?_eq_some_iff.1 hH3).1
          obtain ⟨BA, hBA⟩ : ∃ b, b = w2.heap.size := ⟨_, rfl⟩
          rw [← hww3, ← hBA]
          rw [← hBA] at hA3
          have hzA3 : BA < w3.heap.size := (Array.getElem?_eq_some_iff.1 hA3).1
          clear hww3 hH2 bw2 hz2 hBA
          refine Lib.hid ?_
          go_wp2_with (go_at_call 21; refine (cpb _).mono ?_; rintro e w4 ⟨rfl, hb4⟩; refine Hid.out ?_)
          have bw4 := bel_via bw3 hb4
          have hH4 : w4.heap[w.heap.size]? = some (.cells #[.int .u64 0, .int .u64 0, .int .u64 0, .int .u64 0] 26 (0, 0)) := by rw [hb4.block _ hz3]; exact hH3
          have hz4 : w.heap.size < w4.heap.size := (Array.getElem?_eq_some_iff.1 hH4).1
          have hA4 : w4.heap[BA]? = some (.cells #[.int .u64 (h : Nat), .int .u64 (lo : Nat)] 24 (0, 0)) := by rw [hb4.block _ hzA3]; exact hA3
          have hzA4 : BA < w4.heap.size := (Array.getElem?_eq_some_iff.1 hA4).1
          clear hb4 cpb hH3 bw3 hz3 hA3 hzA3
          refine Lib.hid ?_
          go_wp2_with (with_reducible refine stop_op (o := ⟨some 62, _, _, _, _, _⟩) ?_)
          obtain ⟨w5, hww5⟩ : ∃ v, v = w4.alloc (.cells #[.int .u64 0, .int .u64 0] 24) := ⟨_, rfl⟩
          have hH5 : w5.heap[w.heap.size]? = some (.cells #[.int .u64 0, .int .u64 0, .int .u64 0, .int .u64 0] 26 (0, 0)) := by rw [hww5, al_old hz4]; exact hH4
          have bw5 : Below w.heap.size w w5 := by rw [hww5]; exact Below.al bw4 _
          have hB5 : w5.heap[w4.heap.size]? = some (.cells #[.int .u64 0, .int .u64 0] 24 (0, 0)) := by rw [hww5]; exact al_new rfl _
          have hA5 : w5.heap[BA]? = some (.cells #[.int .u64 (h : Nat), .int .u64 (lo : Nat)] 24 (0, 0)) := by rw [hww5, al_old hzA4]; exact hA4
          obtain ⟨BB, hBB⟩ : ∃ b, b = w4.heap.size := ⟨_, rfl⟩
          rw [← hww5, ← hBB]
          rw [← hBB] at hB5
          clear hww5 hH4 bw4 hz4 hA4 hzA4 hBB
          refine Lib.hid ?_
          obtain ⟨d0, d1, d2, d3⟩ := rcells_of hH5
          obtain ⟨g0, g1, g2, g3⟩ := frz_of hH5
          go_wp2
          refine bodyPost_ret_by (res_quad Tryz.results7 _ _ w.heap.size (.int .u64 0) (.int .u64 0) (.int .u64 0) (.int .u64 0) rfl (heap_set4 hH5 _ _ _ _)) rfl ⟨by rw [HV.out]; rfl, below_set4 bw5 (Nat.le_refl _) _ _ _ _⟩
      · have HV : Hid (V = quadT 0 0 0 0 30) := Lib.hid (by rw [hVp]; unfold endsR; rw [hp])
        have hr2 : er2 = 0 ∨ er2 = 30 := by rcases hc2 with ⟨h, _⟩ | ⟨h, _⟩ <;> simp [h]
        clear hp hVp hc2 hr2
        have hH1 : (w.alloc (.cells #[.int .u64 0, .int .u64 0, .int .u64 0, .int .u64 0] 26 (0, 0))).heap[w.heap.size]? = some (.cells #[.int .u64 0, .int .u64 0, .int .u64 0, .int .u64 0] 26 (0, 0)) := al_new rfl _
        have bw1 : Below w.heap.size w (w.alloc (.cells #[.int .u64 0, .int .u64 0, .int .u64 0, .int .u64 0] 26 (0, 0))) := Below.al (Below.refl _ _) _
        have hz1 : w.heap.size < (w.alloc (.cells #[.int .u64 0, .int .u64 0, .int .u64 0, .int .u64 0] 26 (0, 0))).heap.size := by simp
        go_enter Tryz.func7, Tryz.ntmps7
        go_wp2_with (go_at_call 20; refine (c1 _).mono ?_; rintro e w9 ⟨rfl, rfl⟩; refine Hid.out ?_)
        clear c1
        refine Lib.hid ?_
        go_wp2_with (go_at_call 20; refine (c2 _).mono ?_; rintro e w9 ⟨rfl, rfl⟩; refine Hid.out ?_)
        clear c2
        refine Lib.hid ?_
        go_wp2_with (go_at_call_of 21 (Value.string (s.extract 0 K)); refine (cpa _).mono ?_; rintro e w2 ⟨rfl, hb2⟩; refine Hid.out ?_)
        have bw2 := bel_via bw1 hb2
        have hH2 : w2.heap[w.heap.size]? = some (.cells #[.int .u64 0, .int .u64 0, .int .u64 0, .int .u64 0] 26 (0, 0)) := by rw [hb2.block _ hz1]; exact hH1
        have hz2 : w.heap.size < w2.heap.size := (Array.getElem?_eq_some_iff.1 hH2).1
        clear hb2 cpa hH1 bw1 hz1
        refine Lib.hid ?_
        go_wp2_with (with_reducible refine stop_op (o := ⟨some 56, _, _, _, _, _⟩) ?_)
        obtain ⟨w3, hww3⟩ : ∃ v, v = w2.alloc (.cells #[.int .u64 0, .int .u64 0] 24) := ⟨_, rfl⟩
        have hH3 : w3.heap[w.heap.size]? = some (.cells #[.int .u64 0, .int .u64 0, .int .u64 0, .int .u64 0] 26 (0, 0)) := by rw [hww3, al_old hz2]; exact hH2
        have bw3 : Below w.heap.size w w3 := by rw [hww3]; exact Below.al bw2 _
        have hA3 : w3.heap[w2.heap.size]? = some (.cells #[.int .u64 0, .int .u64 0] 24 (0, 0)) := by rw [hww3]; exact al_new rfl _
        have hz3 : w.heap.size < w3.heap.size := (Array.getElem?_eq_some_iff.1 hH3).1
        obtain ⟨BA, hBA⟩ : ∃ b, b = w2.heap.size := ⟨_, rfl⟩
        rw [← hww3, ← hBA]
        rw [← hBA] at hA3
        have hzA3 : BA < w3.heap.size := (Array.getElem?_eq_some_iff.1 hA3).1
        clear hww3 hH2 bw2 hz2 hBA
        refine Lib.hid ?_
        go_wp2_with (go_at_call 21; refine (cpb _).mono ?_; rintro e w4 ⟨rfl, hb4⟩; refine Hid.out ?_)
        have bw4 := bel_via bw3 hb4
        have hH4 : w4.heap[w.heap.size]? = some (.cells #[.int .u64 0, .int .u64 0, .int .u64 0, .int .u64 0] 26 (0, 0)) := by rw [hb4.block _ hz3]; exact hH3
        have hz4 : w.heap.size < w4.heap.size := (Array.getElem?_eq_some_iff.1 hH4).1
        have hA4 : w4.heap[BA]? = some (.cells #[.int .u64 0, .int .u64 0] 24 (0, 0)) := by rw [hb4.block _ hzA3]; exact hA3
        have hzA4 : BA < w4.heap.size := (Array.getElem?_eq_some_iff.1 hA4).1
        clear hb4 cpb hH3 bw3 hz3 hA3 hzA3
        refine Lib.hid ?_
        go_wp2_with (with_reducible refine stop_op (o := ⟨some 62, _, _, _, _, _⟩) ?_)
        obtain ⟨w5, hww5⟩ : ∃ v, v = w4.alloc (.cells #[.int .u64 (h2 : Nat), .int .u64 (lo2 : Nat)] 24) := ⟨_, rfl⟩
        have hH5 : w5.heap[w.heap.size]? = some (.cells #[.int .u64 0, .int .u64 0, .int .u64 0, .int .u64 0] 26 (0, 0)) := by rw [hww5, al_old hz4]; exact hH4
        have bw5 : Below w.heap.size w w5 := by rw [hww5]; exact Below.al bw4 _
        have hB5 : w5.heap[w4.heap.size]? = some (.cells #[.int .u64 (h2 : Nat), .int .u64 (lo2 : Nat)] 24 (0, 0)) := by rw [hww5]; exact al_new rfl _
        have hA5 : w5.heap[BA]? = some (.cells #[.int .u64 0, .int .u64 0] 24 (0, 0)) := by rw [hww5, al_old hzA4]; exact hA4
        obtain ⟨BB, hBB⟩ : ∃ b, b = w4.heap.size := ⟨_, rfl⟩
        rw [← hww5, ← hBB]
        rw [← hBB] at hB5
        clear hww5 hH4 bw4 hz4 hA4 hzA4 hBB
        refine Lib.hid ?_
        obtain ⟨d0, d1, d2, d3⟩ := rcells_of hH5
        obtain ⟨g0, g1, g2, g3⟩ := frz_of hH5
        go_wp2
        refine bodyPost_ret_by (res_quad Tryz.results7 _ _ w.heap.size (.int .u64 0) (.int .u64 0) (.int .u64 0) (.int .u64 0) rfl (heap_set4 hH5 _ _ _ _)) rfl ⟨by rw [HV.out]; rfl, below_set4 bw5 (Nat.le_refl _) _ _ _ _⟩
    · have hVp : V = oneR s.data.toList := by rw [hV0, hcut]; rfl
      rw [hi] at c2
      have cpa := fun W => rparse_any s hs W
      obtain ⟨h, lo, er, hT, l1, l2, hc⟩ := parse_three s.data.toList
      rw [hT] at cpa
      have f0 : (h : Int) < 18446744073709551616 := by omega
      have f1 : (lo : Int) < 18446744073709551616 := by omega
      have HV : Hid (V = quadT h lo h lo er) := Lib.hid (by
        rw [hVp]
        unfold oneR
        rcases hc with ⟨rfl, hp⟩ | ⟨rfl, hp, rfl, rfl⟩
        · rw [hp]
        · rw [hp]; rfl)
      clear hT hV0 hcut hi hL hVp hc
      have hH1 : (w.alloc (.cells #[.int .u64 0, .int .u64 0, .int .u64 0, .int .u64 0] 26 (0, 0))).heap[w.heap.size]? = some (.cells #[.int .u64 0, .int .u64 0, .int .u64 0, .int .u64 0] 26 (0, 0)) := al_new rfl _
      have bw1 : Below w.heap.size w (w.alloc (.cells #[.int .u64 0, .int .u64 0, .int .u64 0, .int .u64 0] 26 (0, 0))) := Below.al (Below.refl _ _) _
      have hz1 : w.heap.size < (w.alloc (.cells #[.int .u64 0, .int .u64 0, .int .u64 0, .int .u64 0] 26 (0, 0))).heap.size := by simp
      go_enter Tryz.func7, Tryz.ntmps7
      go_wp2_with (go_at_call 20; refine (c1 _).mono ?_; rintro e w9 ⟨rfl, rfl⟩; refine Hid.out ?_)
      clear c1
      refine Lib.hid ?_
      go_wp2_with (go_at_call 20; refine (c2 _).mono ?_; rintro e w9 ⟨rfl, rfl⟩; refine Hid.out ?_)
      clear c2
      refine Lib.hid ?_
      go_wp2_with (go_at_call 21; refine (cpa _).mono ?_; rintro e w2 ⟨rfl, hb2⟩; refine Hid.out ?_)
      have bw2 := bel_via bw1 hb2
      have hH2 : w2.heap[w.heap.size]? = some (.cells #[.int .u64 0, .int .u64 0, .int .u64 0, .int .u64 0] 26 (0, 0)) := by rw [hb2.block _ hz1]; exact hH1
      have hz2 : w.heap.size < w2.heap.size := (Array.getElem?_eq_some_iff.1 hH2).1
      clear hb2 cpa hH1 bw1 hz1
      refine Lib.hid ?_
      go_wp2_with (with_reducible refine stop_op (o := ⟨some 87, _, _, _, _, _⟩) ?_)
      obtain ⟨w3, hww3⟩ : ∃ v, v = w2.alloc (.cells #[.int .u64 (h : Nat), .int .u64 (lo : Nat)] 24) := ⟨_, rfl⟩
      have hH3 : w3.heap[w.heap.size]? = some (.cells #[.int .u64 0, .int .u64 0, .int .u64 0, .int .u64 0] 26 (0, 0)) := by rw [hww3, al_old hz2]; exact hH2
      have bw3 : Below w.heap.size w w3 := by rw [hww3]; exact Below.al bw2 _
      have hA3 : w3.heap[w2.heap.size]? = some (.cells #[.int .u64 (h : Nat), .int .u64 (lo : Nat)] 24 (0, 0)) := by rw [hww3]; exact al_new rfl _
      obtain ⟨a0, a1, _, _⟩ := cells_of hA3
      rw [← hww3]
      clear hww3 hH2 bw2 hz2 hA3
      refine Lib.hid ?_
      obtain ⟨d0, d1, d2, d3⟩ := rcells_of hH3
      obtain ⟨g0, g1, g2, g3⟩ := frz_of hH3
      go_wp2
      refine bodyPost_ret_by (res_quad Tryz.results7 _ _ w.heap.size (.int .u64 (h : Nat)) (.int .u64 (lo : Nat)) (.int .u64 (h : Nat)) (.int .u64 (lo : Nat)) rfl (heap_set4 hH3 _ _ _ _)) rfl ⟨by rw [HV.out]; rfl, below_set4 bw3 (Nat.le_refl _) _ _ _ _⟩
end Go.Proofs.YtaafflmkfdicdaaGreatDoor
