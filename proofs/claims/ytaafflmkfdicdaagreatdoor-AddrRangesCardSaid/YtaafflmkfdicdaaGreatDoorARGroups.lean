/- The document's own groups: what stands between colons, as one number; by-name template. -/
import Derived.Test.YtaafflmkfdicdaaGreatDoorARCut
import Derived.Test.YtaafflmkfdicdaaGreatDoorAReadP
import Derived.Test.YtaafflmkfdicdaaGreatDoorAFourP
namespace Go.Proofs.YtaafflmkfdicdaaGreatDoor
open Go.RowKit
set_option linter.unusedVariables false
set_option linter.unusedSimpArgs false

/-- The two words of a number. -/
def hiW (A : Nat) : Nat := A / 18446744073709551616
def loW (A : Nat) : Nat := A % 18446744073709551616

theorem words_lt {A : Nat} (h : A < 340282366920938463463374607431768211456) : hiW A < 18446744073709551616 ∧ loW A < 18446744073709551616 := by unfold hiW loW; omega

theorem hi_st (A n : Nat) (h : A < 340282366920938463463374607431768211456) (hn : n ≤ 65535) : hiW (st16 A n) = hiW A * 65536 % 18446744073709551616 + loW A / 281474976710656 := by unfold hiW loW st16; omega
theorem lo_st (A n : Nat) (h : A < 340282366920938463463374607431768211456) (hn : n ≤ 65535) : loW (st16 A n) = loW A * 65536 % 18446744073709551616 + n := by unfold loW st16; omega

/-- What groups gives back: a number of two words, how many, whether it is right. -/
def GrpPost (x : Option (Nat × Nat)) (w : World) (e : Ending) (w' : World) : Prop :=
  Below w.heap.size w w' ∧ match x with
  | none => ∃ (a b n : Nat), e = .returned (.tuple #[.agg #[.int .u64 (a : Nat), .int .u64 (b : Nat)], .int .i64 (n : Nat), .bool false]) ∧ a < 18446744073709551616 ∧ b < 18446744073709551616 ∧ n ≤ 281474977
  | some y => e = .returned (.tuple #[.agg #[.int .u64 (hiW y.1 : Nat), .int .u64 (loW y.1 : Nat)], .int .i64 (y.2 : Nat), .bool true])

/-- A result row: a struct of two words in a cell, two plain values. -/
theorem res_three {fn : Func} {p u v : Tmp} (h : fn.results = #[.cell p 24, .tmp u, .tmp v]) (tmps : Array Value) (W : World) (g : Nat) (A B : Value) (hp : tmps.getD p undef = .pointer (some ⟨g, 0, none⟩)) (hg : W.heap[g]? = some (.cells #[A, B] 24 (0, 0))) :
    (results fn tmps).run Tryz.prog W = .ok (.tuple #[.agg #[A, B], tmps.getD u undef, tmps.getD v undef]) W := by
  have e : (asAddr (.pointer (some ⟨g, 0, none⟩))).run Tryz.prog W = .ok ⟨g, 0, none⟩ W := rfl
  have hl := run_loadVar_row W g 24 24 #[A, B] (0, 0) _ hg Tryz.underlying24 rfl (by kernel_rfl)
  simp only [results, h]
  have hp' : tmps[p]?.getD undef = .pointer (some ⟨g, 0, none⟩) := by simpa using hp
  simp [Sem.run_bind, Result.andThen, hp']
  rw [e]
  simp only
  rw [hl]


theorem orHi (a b : Int) (h0 : 0 ≤ a) (h1 : a < 18446744073709551616) (k0 : 0 ≤ b) (k1 : b < 18446744073709551616) : bits .or .u64 (IntKind.u64.wrap (a * 65536)) (b / 281474976710656) = a * 65536 % 18446744073709551616 + b / 281474976710656 := by
  rw [IntKind.wrap_u64, orU 16 (by omega) (by omega) (by omega) (by omega) (by omega) (by omega)]
theorem orLo (b n : Int) (k0 : 0 ≤ b) (k1 : b < 18446744073709551616) (n0 : 0 ≤ n) (n1 : n ≤ 65535) : bits .or .u64 (IntKind.u64.wrap (b * 65536)) n = b * 65536 % 18446744073709551616 + n := by
  rw [IntKind.wrap_u64, orU 16 (by omega) (by omega) (by omega) (by omega) (by omega) (by omega)]

set_option maxHeartbeats 1000000 in
set_option maxRecDepth 100000 in
theorem rgrp_any (s : ByteArray) (hs : s.size ≤ 281474976) (w : World) : Calls Tryz.prog 53 #[.string s] w (GrpPost (grpV s.data.toList) w) := by
  obtain ⟨R, hR⟩ : ∃ R, R = grpV s.data.toList := ⟨_, rfl⟩
  rw [← hR]
  unfold grpV at hR
  by_cases h0 : s.data.toList = []
  · rw [if_pos h0] at hR
    have hs0 : s = ⟨#[]⟩ := by
      obtain ⟨⟨l⟩⟩ := s
      have : l = [] := h0
      rw [this]
    subst hR
    subst hs0
    unfold GrpPost
    go_enter Tryz.func53, Tryz.ntmps53
    go_wp2
    simp [bodyPost, results, Tryz.results53, go_sem, hiW, loW]
    repeat (first | exact Below.refl _ _ | apply Below.dr | apply Below.al)
  · rw [if_neg h0] at hR
    have hemp : s.toList.isEmpty = false := by
      rw [← decide_eq_emptyBytes]
      refine decide_eq_false (fun h => h0 ?_)
      rw [h]; rfl
    have HR := Lib.hid hR
    clear hR h0
    have cc := fun W => rcut_any s 58 (by omega) W
    rw [show (((58 : UInt8).toNat : Nat) : Int) = 58 from rfl] at cc
    go_enter Tryz.func53, Tryz.ntmps53
    go_wp2_with (go_at_call 51; refine (cc _).mono ?_; rintro e w1 ⟨v, PS, rfl, hown, hb1, hmap, hlen, hsz⟩; refine Hid.out ?_)
    have hne : 0 < PS.length := by
      have h1 := congrArg List.length hmap
      rw [List.length_map] at h1
      have h2 := List.length_pos_iff.2 (splitOn_ne 58 s.data.toList)
      omega
    obtain ⟨g, cap, rfl, hg1, hg2⟩ := hown.form hne
    have hcl := hown.cells (g := g) rfl
    have hcg : ∀ k (h : k < PS.length), w1.cell? ⟨g, k, none⟩ = some (.string PS[k]) := by
      intro k h
      have := hcl k (.string PS[k]) (by simp [h])
      have e : (⟨g, 0, none⟩ : Addr).add k = ⟨g, k, none⟩ := by unfold Addr.add; split <;> simp_all
      rw [e] at this; exact this
    have hB2 : w1.heap[w.heap.size]? = some (.cells #[.int .u64 0, .int .u64 0] 24 (0, 0)) := by rw [hb1.block _ (by simp; omega), al_old (by simp)]; exact al_new rfl _
    have hB5 : w1.heap[w.heap.size + 1]? = some (.cells #[.int .u64 0, .int .u64 0] 24 (0, 0)) := by rw [hb1.block _ (by simp)]; exact al_new (by simp) _
    have bw1 : Below w.heap.size w w1 := bel_via (Below.al (Below.al (Below.refl _ w) _) _) hb1
    have hgB : w.heap.size + 1 < g := by simp at hg1; omega
    have HC := Lib.hid hcg
    have HM := Lib.hid hmap
    clear hcg hcl hown hb1 hmap cc
    have hlm : PS.length ≤ 281474977 := by omega
    have hli : (PS.length : Int) ≤ 281474977 := by omega
    obtain ⟨B2, hB2e⟩ : ∃ B, B = w.heap.size := ⟨_, rfl⟩
    obtain ⟨B5, hB5e⟩ : ∃ B, B = w.heap.size + 1 := ⟨_, rfl⟩
    rw [← hB2e] at hB2
    rw [← hB5e] at hB5 hgB
    have h25 : B2 ≠ B5 := by omega
    rw [← hB5e, ← hB2e]
    have HB := Lib.hid (show B2 = w.heap.size ∧ B5 = w.heap.size + 1 from ⟨hB2e, hB5e⟩)
    clear hB2e hB5e
    refine Lib.hid ?_
    go_wp2
    go_loopw [7] (fun v7 wr => ∃ (k A : Nat), v7 = .int .i64 k ∧ k ≤ PS.length ∧ A < 340282366920938463463374607431768211456 ∧ wr.heap[B5]? = some (.cells #[.int .u64 (hiW A : Nat), .int .u64 (loW A : Nat)] 24 (0, 0)) ∧ Below w.heap.size w wr ∧
        Hid ((∀ b, b ≠ B5 → wr.heap[b]? = w1.heap[b]?) ∧ gfold (PS.map (·.data.toList)) 0 = gfold ((PS.drop k).map (·.data.toList)) A)) (fun v7 _ => PS.length - (intOf v7).toNat)
    case atStart => exact ⟨0, 0, rfl, by omega, by omega, hB5, bw1, Lib.hid ⟨fun _ _ => rfl, rfl⟩⟩
    case round =>
      obtain ⟨k, A, rfl, hk, hA, hblk, hbr, hh⟩ := hrel
      obtain ⟨hA1, hA2⟩ := words_lt hA
      obtain ⟨c50, c51, f50, f51⟩ := cells_of hblk
      obtain ⟨hoth, hfold⟩ := hh.out
      have hblk2 : wr.heap[B2]? = some (.cells #[.int .u64 0, .int .u64 0] 24 (0, 0)) := (hoth B2 h25).trans hB2
      obtain ⟨c20, c21, f20, f21⟩ := cells_of hblk2
      have hA1i : (hiW A : Int) < 18446744073709551616 := by omega
      have hA2i : (loW A : Int) < 18446744073709551616 := by omega
      by_cases hkl : k < PS.length
      · have hcp : wr.cell? ⟨g, k, none⟩ = some (.string PS[k]) := by
          have := HC.out k hkl
          simp only [World.cell?] at this ⊢
          rw [hoth g (by omega)]; exact this
        have hki : (k : Int) < (PS.length : Int) := by omega
        have hps := hsz _ (List.getElem_mem hkl)
        have hd : PS.drop k = PS[k] :: PS.drop (k + 1) := List.drop_eq_getElem_cons hkl
        rw [hd, List.map_cons, gfold] at hfold
        generalize PS[k] = p at hcp hps hfold
        have hpl : p.data.toList.length = p.size := by rw [Lib.size_eq]
        rw [hpl] at hfold
        clear hh hd
        have hnone : gfold (PS.map (·.data.toList)) 0 = none → R = none := by
          intro h
          have := HR.out
          rw [← HM.out, h] at this
          exact this
        have hpi : (p.size : Int) ≤ 281474976 := by omega
        by_cases hlo : p.size < 1
        · rw [if_pos (Or.inl hlo)] at hfold
          have hRn := hnone hfold
          subst hRn
          have hloi : (p.size : Int) < 1 := by omega
          clear hfold hnone HR HC HM hoth
          go_wp2
          refine bodyPost_ret_by (res_three Tryz.results53 _ _ B2 (.int .u64 (hiW A : Nat)) (.int .u64 (loW A : Nat)) rfl (heap_set2 hblk2 _ _)) rfl ⟨?_, hiW A, loW A, 0, rfl, hA1, hA2, by omega⟩
          exact below_set (below_set hbr (by have := HB.out; omega) 0 _) (by have := HB.out; omega) 1 _
        · have hloi : decide ((p.size : Int) < 1) = false := by simp; omega
          by_cases h4 : 4 < p.size
          · rw [if_pos (Or.inr h4)] at hfold
            have hRn := hnone hfold
            subst hRn
            have h4i : (4 : Int) < (p.size : Int) := by omega
            clear hfold hnone HR HC HM hoth
            go_wp2
            refine bodyPost_ret_by (res_three Tryz.results53 _ _ B2 (.int .u64 (hiW A : Nat)) (.int .u64 (loW A : Nat)) rfl (heap_set2 hblk2 _ _)) rfl ⟨?_, hiW A, loW A, 0, rfl, hA1, hA2, by omega⟩
            exact below_set (below_set hbr (by have := HB.out; omega) 0 _) (by have := HB.out; omega) 1 _
          · rw [if_neg (by omega)] at hfold
            have h4i : decide ((4 : Int) < (p.size : Int)) = false := by simp; omega
            have hp4 : p.size ≤ 4 := by omega
            have hp4i : (p.size : Int) ≤ 4 := by omega
            have HN := Lib.hid hnone
            have HF := Lib.hid hfold
            have HO := Lib.hid hoth
            clear hfold hnone hoth
            obtain ⟨wo, hwo⟩ : ∃ v, v = wr := ⟨_, rfl⟩
            rw [← hwo] at HO hblk hblk2 hbr c50 c51 f50 f51 c20 c21 f20 f21 hcp ⊢
            clear hwo
            go_wp2
            go_loopw [8, 9] (fun v8 v9 wr => ∃ (n j : Nat), v8 = .int .i64 n ∧ v9 = .int .i64 j ∧ j ≤ p.size ∧ n < 16 ^ j ∧ wr = wo ∧ Hid (hexAll 0 p.data.toList = hexAll n (p.data.toList.drop j))) (fun _ v9 _ => p.size - (intOf v9).toNat)
            case atStart => exact ⟨0, 0, rfl, rfl, by omega, by simp, rfl, Lib.hid rfl⟩
            case round =>
              obtain ⟨n, j, rfl, rfl, hj, hn, hw, hx⟩ := hrel
              subst hw
              have hn4 : n < 65536 := Nat.lt_of_lt_of_le hn (Nat.le_trans (Nat.pow_le_pow_right (by omega) (show j ≤ 4 by omega)) (by decide))
              have hni : (n : Int) < 65536 := by omega
              by_cases hjl : j < p.size
              · obtain ⟨c, hc⟩ : ∃ c, p.data.toList[j]? = some c := ⟨p.data.toList[j]'(by omega), List.getElem?_eq_getElem _⟩
                have hij := idx_any p j c hc
                have hji : (j : Int) < (p.size : Int) := by omega
                have hd2 : p.data.toList.drop j = c :: p.data.toList.drop (j + 1) := by
                  rw [List.drop_eq_getElem_cons (by omega)]
                  have := (List.getElem?_eq_some_iff.1 hc).2
                  rw [this]
                have ch := (rhex_any c.toNat (UInt8.toNat_lt c) wr).mono (fun e w' ⟨h1, h2⟩ => show e = _ ∧ wr = w' from ⟨h1, h2.symm⟩)
                have hx2 := hx.out
                rw [hd2, hexAll] at hx2
                by_cases hv : hexV c.toNat < 0
                · rw [if_pos hv] at hx2
                  have hf := HF.out
                  rw [hx2] at hf
                  have hRn := HN.out hf
                  subst hRn
                  generalize hexV c.toNat = V at ch hv
                  clear hx2 hf hx HN HF HO HR HC HM hd2 hc
                  go_wp2_with (go_at_call 70; refine ch.mono ?_; rintro e w' ⟨rfl, rfl⟩)
                  refine bodyPost_ret_by (res_three Tryz.results53 _ _ B2 (.int .u64 (hiW A : Nat)) (.int .u64 (loW A : Nat)) rfl (heap_set2 hblk2 _ _)) rfl ⟨?_, hiW A, loW A, 0, rfl, hA1, hA2, by omega⟩
                  exact below_set (below_set hbr (by have := HB.out; omega) 0 _) (by have := HB.out; omega) 1 _
                · rw [if_neg hv] at hx2
                  have h16 := hexV_lt hv
                  have hve : hexV c.toNat = (((hexV c.toNat).toNat : Nat) : Int) := by omega
                  rw [hve] at ch
                  have hp16 : n * 16 + (hexV c.toNat).toNat < 16 ^ (j + 1) := by rw [Nat.pow_succ]; omega
                  generalize (hexV c.toNat).toNat = V at ch hx2 h16 hp16
                  have hVi : (V : Int) < 16 := by omega
                  have H2 := Lib.hid hx2
                  have HP16 := Lib.hid hp16
                  have hVn : decide ((V : Int) < 0) = false := by simp
                  clear hx2 hx hd2 hc hv hve hp16 HF HN HO HR HC HM
                  go_wp2_with (go_at_call 70; refine ch.mono ?_; rintro e w' ⟨rfl, rfl⟩)
                  exact ⟨⟨n * 16 + V, j + 1, by simp, by simp, by omega, HP16.out, trivial, H2⟩, by simp [intOf]; omega⟩
              · have hx2 := hx.out
                rw [List.drop_eq_nil_of_le (by omega), hexAll] at hx2
                have hf := HF.out
                rw [hx2] at hf
                simp only at hf
                have h16 : n ≤ 65535 := by omega
                have hjd : decide ((j : Int) < (p.size : Int)) = false := by simp; omega
                have e1 := hi_st A n hA h16
                have e2 := lo_st A n hA h16
                have o1 := orHi (hiW A : Nat) (loW A : Nat) (by omega) hA1i (by omega) hA2i
                have o2 := orLo (loW A : Nat) (n : Nat) (by omega) hA2i (by omega) (by omega)
                rw [show (hiW A : Int) * 65536 % 18446744073709551616 + (loW A : Int) / 281474976710656 = (hiW (st16 A n) : Nat) by rw [e1]; omega] at o1
                rw [show (loW A : Int) * 65536 % 18446744073709551616 + (n : Int) = (loW (st16 A n) : Nat) by rw [e2]; omega] at o2
                obtain ⟨X, hX⟩ : ∃ X, X = hiW (st16 A n) := ⟨_, rfl⟩
                obtain ⟨Y, hY⟩ : ∃ Y, Y = loW (st16 A n) := ⟨_, rfl⟩
                have HXY := Lib.hid (show X = hiW (st16 A n) ∧ Y = loW (st16 A n) from ⟨hX, hY⟩)
                rw [← hX] at o1
                rw [← hY] at o2
                have H3 := Lib.hid hf
                clear e1 e2 hX hY hx2 hf hx HN HF HC HM
                go_wp2
                refine ⟨⟨k + 1, st16 A n, by simp, by omega, st16_lt _ _, ?_, ?_, ?_⟩, by simp [intOf]; omega⟩
                · rw [← HXY.out.1, ← HXY.out.2]
                  exact heap_set2 hblk _ _
                · exact below_set (below_set hbr (by have := HB.out; omega) 0 _) (by have := HB.out; omega) 1 _
                · refine Lib.hid ⟨fun b hb => ?_, H3.out⟩
                  rw [set_other hb, set_other hb]
                  exact HO.out b hb
      · obtain rfl : k = PS.length := by omega
        rw [List.drop_eq_nil_of_le (Nat.le_refl _)] at hfold
        have hR2 := HR.out
        have hl2 : (splitOn 58 s.data.toList).length = PS.length := by rw [← HM.out, List.length_map]
        rw [hl2, ← HM.out, hfold] at hR2
        simp only [List.map_nil, gfold] at hR2
        have hki : decide ((PS.length : Int) < (PS.length : Int)) = false := by simp
        clear hh hfold hoth HC HM HR
        by_cases h8 : 8 < PS.length
        · rw [if_pos h8] at hR2
          subst hR2
          have h8i : decide ((PS.length : Int) ≤ 8) = false := by simp; omega
          go_wp2
          refine bodyPost_ret_by (res_three Tryz.results53 _ _ B2 (.int .u64 (hiW A : Nat)) (.int .u64 (loW A : Nat)) rfl (heap_set2 hblk2 _ _)) rfl ⟨?_, hiW A, loW A, PS.length, rfl, hA1, hA2, by omega⟩
          exact below_set (below_set hbr (by have := HB.out; omega) 0 _) (by have := HB.out; omega) 1 _
        · rw [if_neg h8] at hR2
          subst hR2
          have h8i : (PS.length : Int) ≤ 8 := by omega
          go_wp2
          refine bodyPost_ret_by (res_three Tryz.results53 _ _ B2 (.int .u64 (hiW A : Nat)) (.int .u64 (loW A : Nat)) rfl (heap_set2 hblk2 _ _)) rfl ⟨?_, rfl⟩
          exact below_set (below_set hbr (by have := HB.out; omega) 0 _) (by have := HB.out; omega) 1 _
end Go.Proofs.YtaafflmkfdicdaaGreatDoor
