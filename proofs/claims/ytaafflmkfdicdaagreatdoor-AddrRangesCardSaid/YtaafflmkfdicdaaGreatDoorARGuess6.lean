/- The document's own guess: texts without four parts; by-name template. -/
import Derived.Test.YtaafflmkfdicdaaGreatDoorARGuess
namespace Go.Proofs.YtaafflmkfdicdaaGreatDoor
open Go.RowKit
set_option linter.unusedVariables false
set_option linter.unusedSimpArgs false

theorem GrpPost.any {x : Option (Nat × Nat)} {w : World} {e : Ending} {w' : World} (h : GrpPost x w e w') : Below w.heap.size w w' ∧ ∃ (a b n : Nat) (ok : Bool), e = .returned (.tuple #[.agg #[.int .u64 (a : Nat), .int .u64 (b : Nat)], .int .i64 (n : Nat), .bool ok]) := by
  obtain ⟨hb, h⟩ := h
  cases x with
  | none => obtain ⟨a, b, n, rfl, _⟩ := h; exact ⟨hb, a, b, n, false, rfl⟩
  | some y => exact ⟨hb, _, _, _, true, h⟩

def pick8 (x : Option (Nat × Nat)) : Option Nat := match x with
  | none => none
  | some x => if x.2 = 8 then some x.1 else none

theorem pw_lt {A n : Nat} (h : A < 65536 ^ n) (hn : n ≤ 8) : A < 340282366920938463463374607431768211456 := by
  have := Nat.pow_le_pow_right (show 0 < 65536 by omega) hn
  rw [p8] at this
  omega

theorem shift_words {T : Nat} (h : T < 65536 ^ 7) : IntKind.u64.wrap ((loW T : Int) * 65536) = (loW (T * 65536) : Nat) ∧ bits .or .u64 (IntKind.u64.wrap ((hiW T : Int) * 65536)) ((loW T : Int) / 281474976710656) = (hiW (T * 65536) : Nat) := by
  have h2 : (65536 : Nat) ^ 7 = 5192296858534827628530496329220096 := by decide
  rw [h2] at h
  refine ⟨?_, ?_⟩
  · rw [IntKind.wrap_u64]; unfold loW; omega
  · rw [orHi _ _ (by omega) (by unfold hiW; omega) (by omega) (by unfold loW; omega)]; unfold hiW loW; omega

set_option maxHeartbeats 2000000 in
set_option maxRecDepth 100000 in
theorem guess6_any (s : ByteArray) (hs : s.size ≤ 281474976) (h4 : (splitOn 46 s.data.toList).length ≠ 4) (w : World) : Calls Tryz.prog 35 #[.string s] w (GuessPost (guessV s.data.toList) w) := by
  obtain ⟨R, hR⟩ : ∃ R, R = guessV s.data.toList := ⟨_, rfl⟩
  rw [← hR]
  unfold guessV at hR
  rw [if_neg h4] at hR
  have HR := Lib.hid hR
  have H4 := Lib.hid h4
  have hL : s.data.toList.length = s.size := by rw [Lib.size_eq]
  have HL := Lib.hid hL
  clear hR h4 hL
  have hsi : (s.size : Int) ≤ 281474976 := by omega
  have cc := fun W => rcut_any s 46 (by omega) W
  rw [show (((46 : UInt8).toNat : Nat) : Int) = 46 from rfl] at cc
  go_enter Tryz.func35, Tryz.ntmps35
  go_wp2_with (go_at_call 51; refine (cc _).mono ?_; rintro e w1 ⟨v, PS, rfl, hown, hb1, hmap, hlen, hsz⟩; refine Hid.out ?_)
  have hne : 0 < PS.length := by
    have h1 := congrArg List.length hmap
    rw [List.length_map] at h1
    have h2 := List.length_pos_iff.2 (splitOn_ne 46 s.data.toList)
    omega
  have hP4 : ((PS.length : Int) == 4) = false := by
    have h1 := congrArg List.length hmap
    rw [List.length_map] at h1
    have := H4.out
    simp; omega
  obtain ⟨g, cap, rfl, hg1, hg2⟩ := hown.form hne
  have hB2 : w1.heap[w.heap.size]? = some (.cells #[.int .u64 0, .int .u64 0] 24 (0, 0)) := by rw [hb1.block _ (by simp)]; exact al_new rfl _
  have bw1 : Below w.heap.size w w1 := bel_via (Below.al (Below.refl _ w) _) hb1
  clear hown hb1 hmap cc hlen hsz hne hg1 hg2
  obtain ⟨B2, hB2e⟩ : ∃ B, B = w.heap.size := ⟨_, rfl⟩
  rw [← hB2e] at hB2
  rw [← hB2e]
  have HB := Lib.hid hB2e
  clear hB2e
  have hlt2 : B2 < w1.heap.size := (Array.getElem?_eq_some_iff.1 hB2).1
  refine Lib.hid ?_
  go_wp2
  go_loopw [8] (fun v8 wr => ∃ k : Nat, v8 = .int .i64 k ∧ k ≤ s.size ∧ wr = w1 ∧ Hid (ccI s.data.toList 0 = ccI (s.data.toList.drop k) k)) (fun v8 _ => s.size - (intOf v8).toNat)
  case atStart => exact ⟨0, rfl, by omega, rfl, Lib.hid rfl⟩
  case round =>
    obtain ⟨k, rfl, hk, hw, hh⟩ := hrel
    subst hw
    have hcc := hh.out
    clear hh
    by_cases hlt : k + 1 < s.size
    · have hlti : (k : Int) + 1 < (s.size : Int) := by omega
      have hltd : decide ((k : Int) + 1 < (s.size : Int)) = true := by simp; omega
      have hltn : decide (k + 1 < s.size) = true := by simp; omega
      obtain ⟨a, ha⟩ : ∃ a, s.data.toList[k]? = some a := ⟨s.data.toList[k]'(by have := HL.out; omega), List.getElem?_eq_getElem _⟩
      obtain ⟨b, hb⟩ : ∃ b, s.data.toList[k + 1]? = some b := ⟨s.data.toList[k + 1]'(by have := HL.out; omega), List.getElem?_eq_getElem _⟩
      rw [ccI_drop ha hb] at hcc
      have hex : (s.extract k (k + 2)).toList = [a, b] := by
        rw [Lib.extract_toList]
        obtain ⟨h1, e1⟩ := List.getElem?_eq_some_iff.1 ha
        obtain ⟨h2, e2⟩ := List.getElem?_eq_some_iff.1 hb
        rw [List.drop_eq_getElem_cons h1, List.drop_eq_getElem_cons h2, e1, e2, show k + 2 - k = 2 by omega]
        rfl
      have h58 : (⟨#[58, 58]⟩ : ByteArray).toList = [58, 58] := by rw [Lib.toList_data]
      by_cases hab : a = 58 ∧ b = 58
      · rw [if_pos hab] at hcc
        have heq : ((s.extract k (k + 2)).toList == (⟨#[58, 58]⟩ : ByteArray).toList) = true := by rw [hex, h58, hab.1, hab.2]; rfl
        have HE := Lib.hid heq
        have HCC := Lib.hid hcc
        clear hex h58 heq hab ha hb hcc
        go_wp2_with (with_reducible refine stop_op (o := ⟨some 59, _, _, _, _, _⟩) ?_)
        refine Lib.hid ?_
        refine wpList_eqs rfl _ _ _ _ rfl _ _ rfl rfl true HE.out ?_
        have hi0 := extract_head s k
        have hi2 := Lib.extract_to_end s (k + 2)
        have cg1 := fun W => rgrp_any (s.extract 0 k) (by have := extract_le s 0 k; omega) W
        have cg2 := fun W => rgrp_any (s.extract (k + 2) s.size) (by have := extract_le s (k + 2) s.size; omega) W
        rw [hi0] at cg1
        rw [hi2] at cg2
        clear hi0 hi2
        obtain ⟨x1, hx1⟩ : ∃ x, x = grpV (s.data.toList.take k) := ⟨_, rfl⟩
        obtain ⟨x2, hx2⟩ : ∃ x, x = grpV (s.data.toList.drop (k + 2)) := ⟨_, rfl⟩
        have HX := Lib.hid (show x1 = grpV (s.data.toList.take k) ∧ x2 = grpV (s.data.toList.drop (k + 2)) from ⟨hx1, hx2⟩)
        rw [← hx1] at cg1
        rw [← hx2] at cg2
        clear hx1 hx2
        have hki : (k : Int) + 2 ≤ (s.size : Int) := by omega
        obtain ⟨c20, c21, f20, f21⟩ := cells_of hB2
        clear c20 c21 f20 f21
        cases x1 with
        | none =>
          have hRn : R = none := by
            have h1 := HR.out
            rw [HCC.out] at h1
            simp only at h1
            rw [← HX.out.1] at h1
            exact h1
          go_wp2_with (go_at_call 53; refine (cg1 _).mono ?_; rintro e w2 ⟨hb2, a1, b1, n1, rfl, ha1, hb1x, hn1⟩; refine Hid.out ?_)
          have bw2 := bel_via bw1 hb2
          have hB22 : w2.heap[B2]? = some (.cells #[.int .u64 0, .int .u64 0] 24 (0, 0)) := by rw [hb2.block _ hlt2]; exact hB2
          have hz2 : wr.heap.size ≤ w2.heap.size := hb2.size
          refine Lib.hid ?_
          go_wp2_with (go_at_call 53; refine ((cg2 _).mono fun _ _ h => h.any).mono ?_; rintro e w3 ⟨hb3, a2, b2, n2, ok2, rfl⟩; refine Hid.out ?_)
          have bw3 := bel_via bw2 (bel_via (Below.al (Below.refl _ _) _) hb3)
          have hz3 : w2.heap.size < w3.heap.size := by have := hb3.size; simp at this; omega
          have hB23 : w3.heap[B2]? = some (.cells #[.int .u64 0, .int .u64 0] 24 (0, 0)) := by rw [hb3.block _ (by simp; omega), al_old (by omega)]; exact hB22
          have hB93 : w3.heap[w2.heap.size]? = some (.cells #[.int .u64 (a1 : Nat), .int .u64 (b1 : Nat)] 24 (0, 0)) := by rw [hb3.block _ (by simp)]; exact al_new rfl _
          refine Lib.hid ?_
          go_wp2_with (with_reducible refine stop_op (o := ⟨some 78, _, _, _, _, _⟩) ?_)
          obtain ⟨w4, hw4⟩ : ∃ v, v = w3.alloc (.cells #[.int .u64 (a2 : Nat), .int .u64 (b2 : Nat)] 24) := ⟨_, rfl⟩
          have hB24 : w4.heap[B2]? = some (.cells #[.int .u64 0, .int .u64 0] 24 (0, 0)) := by rw [hw4, al_old (by omega)]; exact hB23
          have hB94 : w4.heap[w2.heap.size]? = some (.cells #[.int .u64 (a1 : Nat), .int .u64 (b1 : Nat)] 24 (0, 0)) := by rw [hw4, al_old hz3]; exact hB93
          have hBC4 : w4.heap[w3.heap.size]? = some (.cells #[.int .u64 (a2 : Nat), .int .u64 (b2 : Nat)] 24 (0, 0)) := by rw [hw4]; exact al_new rfl _
          have bw4 : Below w.heap.size w w4 := by rw [hw4]; exact Below.al bw3 _
          rw [← hw4]
          have h29 : B2 ≠ w2.heap.size := by omega
          have h9C : w2.heap.size ≠ w3.heap.size := by omega
          have hge9 : w.heap.size ≤ w2.heap.size := bw2.size
          clear hw4 hb2 hb3 hB22 hB23 hB93 bw2 bw3 hB2 bw1
          obtain ⟨c20, c21, f20, f21⟩ := cells_of hB24
          refine Lib.hid ?_
          subst hRn
          clear HX HCC HR cg1 cg2
          go_wp2
          refine bodyPost_ret_by (res_pair Tryz.results35 _ _ B2 (.int .u64 0) (.int .u64 0) rfl (heap_set2 hB24 _ _)) rfl ⟨?_, 0, 0, rfl, by omega, by omega⟩
          exact below_set (below_set bw4 (by have := HB.out; omega) 0 _) (by have := HB.out; omega) 1 _
        | some y1 =>
          have hy1 := grpV_lt HX.out.1.symm
          cases x2 with
          | none =>
            have hRn : R = none := by
              have h1 := HR.out
              rw [HCC.out] at h1
              simp only at h1
              rw [← HX.out.1] at h1
              simp only at h1
              rw [← HX.out.2] at h1
              exact h1
            go_wp2_with (go_at_call 53; refine (cg1 _).mono ?_; rintro e w2 ⟨hb2, rfl⟩; refine Hid.out ?_)
            have bw2 := bel_via bw1 hb2
            have hB22 : w2.heap[B2]? = some (.cells #[.int .u64 0, .int .u64 0] 24 (0, 0)) := by rw [hb2.block _ hlt2]; exact hB2
            have hz2 : wr.heap.size ≤ w2.heap.size := hb2.size
            refine Lib.hid ?_
            go_wp2_with (go_at_call 53; refine ((cg2 _)).mono ?_; rintro e w3 ⟨hb3, a2, b2, n2, rfl, ha2, hb2x, hn2⟩; refine Hid.out ?_)
            have bw3 := bel_via bw2 (bel_via (Below.al (Below.refl _ _) _) hb3)
            have hz3 : w2.heap.size < w3.heap.size := by have := hb3.size; simp at this; omega
            have hB23 : w3.heap[B2]? = some (.cells #[.int .u64 0, .int .u64 0] 24 (0, 0)) := by rw [hb3.block _ (by simp; omega), al_old (by omega)]; exact hB22
            have hB93 : w3.heap[w2.heap.size]? = some (.cells #[.int .u64 (hiW y1.1 : Nat), .int .u64 (loW y1.1 : Nat)] 24 (0, 0)) := by rw [hb3.block _ (by simp)]; exact al_new rfl _
            refine Lib.hid ?_
            go_wp2_with (with_reducible refine stop_op (o := ⟨some 78, _, _, _, _, _⟩) ?_)
            obtain ⟨w4, hw4⟩ : ∃ v, v = w3.alloc (.cells #[.int .u64 (a2 : Nat), .int .u64 (b2 : Nat)] 24) := ⟨_, rfl⟩
            have hB24 : w4.heap[B2]? = some (.cells #[.int .u64 0, .int .u64 0] 24 (0, 0)) := by rw [hw4, al_old (by omega)]; exact hB23
            have hB94 : w4.heap[w2.heap.size]? = some (.cells #[.int .u64 (hiW y1.1 : Nat), .int .u64 (loW y1.1 : Nat)] 24 (0, 0)) := by rw [hw4, al_old hz3]; exact hB93
            have hBC4 : w4.heap[w3.heap.size]? = some (.cells #[.int .u64 (a2 : Nat), .int .u64 (b2 : Nat)] 24 (0, 0)) := by rw [hw4]; exact al_new rfl _
            have bw4 : Below w.heap.size w w4 := by rw [hw4]; exact Below.al bw3 _
            rw [← hw4]
            have h29 : B2 ≠ w2.heap.size := by omega
            have h9C : w2.heap.size ≠ w3.heap.size := by omega
            have hge9 : w.heap.size ≤ w2.heap.size := bw2.size
            clear hw4 hb2 hb3 hB22 hB23 hB93 bw2 bw3 hB2 bw1
            obtain ⟨c20, c21, f20, f21⟩ := cells_of hB24
            refine Lib.hid ?_
            subst hRn
            clear HX HCC HR cg1 cg2
            go_wp2
            refine bodyPost_ret_by (res_pair Tryz.results35 _ _ B2 (.int .u64 0) (.int .u64 0) rfl (heap_set2 hB24 _ _)) rfl ⟨?_, 0, 0, rfl, by omega, by omega⟩
            exact below_set (below_set bw4 (by have := HB.out; omega) 0 _) (by have := HB.out; omega) 1 _
          | some y2 =>
            have hy2 := grpV_lt HX.out.2.symm
            have hn1i : (y1.2 : Int) ≤ 8 := by omega
            have hn2i : (y2.2 : Int) ≤ 8 := by omega
            by_cases h7 : 7 < y1.2 + y2.2
            · have h7i : (7 : Int) < (y1.2 : Int) + (y2.2 : Int) := by omega
              have h7d : decide ((7 : Int) < (y1.2 : Int) + (y2.2 : Int)) = true := by simp; omega
              have h7n : decide (7 < y1.2 + y2.2) = true := by simp; omega
              have hRn : R = none := by
                have h1 := HR.out
                rw [HCC.out] at h1
                simp only at h1
                rw [← HX.out.1] at h1
                simp only at h1
                rw [← HX.out.2] at h1
                simp only at h1
                rw [if_pos h7] at h1
                exact h1
              go_wp2_with (go_at_call 53; refine (cg1 _).mono ?_; rintro e w2 ⟨hb2, rfl⟩; refine Hid.out ?_)
              have bw2 := bel_via bw1 hb2
              have hB22 : w2.heap[B2]? = some (.cells #[.int .u64 0, .int .u64 0] 24 (0, 0)) := by rw [hb2.block _ hlt2]; exact hB2
              have hz2 : wr.heap.size ≤ w2.heap.size := hb2.size
              refine Lib.hid ?_
              go_wp2_with (go_at_call 53; refine ((cg2 _)).mono ?_; rintro e w3 ⟨hb3, rfl⟩; refine Hid.out ?_)
              have bw3 := bel_via bw2 (bel_via (Below.al (Below.refl _ _) _) hb3)
              have hz3 : w2.heap.size < w3.heap.size := by have := hb3.size; simp at this; omega
              have hB23 : w3.heap[B2]? = some (.cells #[.int .u64 0, .int .u64 0] 24 (0, 0)) := by rw [hb3.block _ (by simp; omega), al_old (by omega)]; exact hB22
              have hB93 : w3.heap[w2.heap.size]? = some (.cells #[.int .u64 (hiW y1.1 : Nat), .int .u64 (loW y1.1 : Nat)] 24 (0, 0)) := by rw [hb3.block _ (by simp)]; exact al_new rfl _
              refine Lib.hid ?_
              go_wp2_with (with_reducible refine stop_op (o := ⟨some 78, _, _, _, _, _⟩) ?_)
              obtain ⟨w4, hw4⟩ : ∃ v, v = w3.alloc (.cells #[.int .u64 (hiW y2.1 : Nat), .int .u64 (loW y2.1 : Nat)] 24) := ⟨_, rfl⟩
              have hB24 : w4.heap[B2]? = some (.cells #[.int .u64 0, .int .u64 0] 24 (0, 0)) := by rw [hw4, al_old (by omega)]; exact hB23
              have hB94 : w4.heap[w2.heap.size]? = some (.cells #[.int .u64 (hiW y1.1 : Nat), .int .u64 (loW y1.1 : Nat)] 24 (0, 0)) := by rw [hw4, al_old hz3]; exact hB93
              have hBC4 : w4.heap[w3.heap.size]? = some (.cells #[.int .u64 (hiW y2.1 : Nat), .int .u64 (loW y2.1 : Nat)] 24 (0, 0)) := by rw [hw4]; exact al_new rfl _
              have bw4 : Below w.heap.size w w4 := by rw [hw4]; exact Below.al bw3 _
              rw [← hw4]
              have h29 : B2 ≠ w2.heap.size := by omega
              have h9C : w2.heap.size ≠ w3.heap.size := by omega
              have hge9 : w.heap.size ≤ w2.heap.size := bw2.size
              clear hw4 hb2 hb3 hB22 hB23 hB93 bw2 bw3 hB2 bw1
              obtain ⟨c20, c21, f20, f21⟩ := cells_of hB24
              refine Lib.hid ?_
              subst hRn
              clear HX HCC HR cg1 cg2
              go_wp2
              refine bodyPost_ret_by (res_pair Tryz.results35 _ _ B2 (.int .u64 0) (.int .u64 0) rfl (heap_set2 hB24 _ _)) rfl ⟨?_, 0, 0, rfl, by omega, by omega⟩
              exact below_set (below_set bw4 (by have := HB.out; omega) 0 _) (by have := HB.out; omega) 1 _
            · have h7i : decide ((7 : Int) < (y1.2 : Int) + (y2.2 : Int)) = false := by simp; omega
              have h7n : decide (7 < y1.2 + y2.2) = false := by simp; omega
              have hRn : R = some (joinAB y1.1 y1.2 y2.1) := by
                have h1 := HR.out
                rw [HCC.out] at h1
                simp only at h1
                rw [← HX.out.1] at h1
                simp only at h1
                rw [← HX.out.2] at h1
                simp only at h1
                rw [if_neg h7] at h1
                exact h1
              go_wp2_with (go_at_call 53; refine (cg1 _).mono ?_; rintro e w2 ⟨hb2, rfl⟩; refine Hid.out ?_)
              have bw2 := bel_via bw1 hb2
              have hB22 : w2.heap[B2]? = some (.cells #[.int .u64 0, .int .u64 0] 24 (0, 0)) := by rw [hb2.block _ hlt2]; exact hB2
              have hz2 : wr.heap.size ≤ w2.heap.size := hb2.size
              refine Lib.hid ?_
              go_wp2_with (go_at_call 53; refine ((cg2 _)).mono ?_; rintro e w3 ⟨hb3, rfl⟩; refine Hid.out ?_)
              have bw3 := bel_via bw2 (bel_via (Below.al (Below.refl _ _) _) hb3)
              have hz3 : w2.heap.size < w3.heap.size := by have := hb3.size; simp at this; omega
              have hB23 : w3.heap[B2]? = some (.cells #[.int .u64 0, .int .u64 0] 24 (0, 0)) := by rw [hb3.block _ (by simp; omega), al_old (by omega)]; exact hB22
              have hB93 : w3.heap[w2.heap.size]? = some (.cells #[.int .u64 (hiW y1.1 : Nat), .int .u64 (loW y1.1 : Nat)] 24 (0, 0)) := by rw [hb3.block _ (by simp)]; exact al_new rfl _
              refine Lib.hid ?_
              go_wp2_with (with_reducible refine stop_op (o := ⟨some 78, _, _, _, _, _⟩) ?_)
              obtain ⟨w4, hw4⟩ : ∃ v, v = w3.alloc (.cells #[.int .u64 (hiW y2.1 : Nat), .int .u64 (loW y2.1 : Nat)] 24) := ⟨_, rfl⟩
              have hB24 : w4.heap[B2]? = some (.cells #[.int .u64 0, .int .u64 0] 24 (0, 0)) := by rw [hw4, al_old (by omega)]; exact hB23
              have hB94 : w4.heap[w2.heap.size]? = some (.cells #[.int .u64 (hiW y1.1 : Nat), .int .u64 (loW y1.1 : Nat)] 24 (0, 0)) := by rw [hw4, al_old hz3]; exact hB93
              have hBC4 : w4.heap[w3.heap.size]? = some (.cells #[.int .u64 (hiW y2.1 : Nat), .int .u64 (loW y2.1 : Nat)] 24 (0, 0)) := by rw [hw4]; exact al_new rfl _
              have bw4 : Below w.heap.size w w4 := by rw [hw4]; exact Below.al bw3 _
              rw [← hw4]
              have h29 : B2 ≠ w2.heap.size := by omega
              have h9C : w2.heap.size ≠ w3.heap.size := by omega
              have hge9 : w.heap.size ≤ w2.heap.size := bw2.size
              clear hw4 hb2 hb3 hB22 hB23 hB93 bw2 bw3 hB2 bw1
              obtain ⟨c20, c21, f20, f21⟩ := cells_of hB24
              refine Lib.hid ?_
              subst hRn
              clear HX HCC HR cg1 cg2
              obtain ⟨B9, hB9e⟩ : ∃ b, b = w2.heap.size := ⟨_, rfl⟩
              obtain ⟨BC, hBCe⟩ : ∃ b, b = w3.heap.size := ⟨_, rfl⟩
              rw [← hB9e] at hB94 h29 h9C hge9
              rw [← hBCe] at hBC4 h9C
              rw [← hB9e, ← hBCe]
              clear hB9e hBCe
              have hn1 : y1.2 ≤ 7 := by omega
              have hn1j : (y1.2 : Int) ≤ 7 := by omega
              go_wp2
              go_loopw [15] (fun v15 wr => ∃ j T : Nat, v15 = .int .i64 j ∧ y1.2 ≤ j ∧ j ≤ 8 ∧ wr.heap[B9]? = some (.cells #[.int .u64 (hiW T : Nat), .int .u64 (loW T : Nat)] 24 (0, 0)) ∧ Below w.heap.size w wr ∧
                  Hid ((∀ b, b ≠ B9 → wr.heap[b]? = w4.heap[b]?) ∧ T * 65536 ^ (8 - j) = y1.1 * 65536 ^ (8 - y1.2) ∧ T < 65536 ^ j)) (fun v15 _ => 8 - (intOf v15).toNat)
              case atStart => exact ⟨y1.2, y1.1, rfl, Nat.le_refl _, by omega, hB94, bw4, Lib.hid ⟨fun _ _ => rfl, rfl, hy1.1⟩⟩
              case round =>
                obtain ⟨j, T, rfl, hj1, hj8, hblk, hbr, hh⟩ := hrel
                obtain ⟨hoth, hT, hTl⟩ := hh.out
                obtain ⟨c90, c91, f90, f91⟩ := cells_of hblk
                have hblk2 := (hoth B2 h29).trans hB24
                have hblkC := (hoth BC h9C.symm).trans hBC4
                have hTw := words_lt (pw_lt hTl hj8)
                have hT1i : (hiW T : Int) < 18446744073709551616 := by omega
                have hT2i : (loW T : Int) < 18446744073709551616 := by omega
                clear hh
                by_cases hlt8 : j < 8
                · have hji : (j : Int) < 8 := by omega
                  have hT7 : T < 65536 ^ 7 := Nat.lt_of_lt_of_le hTl (Nat.pow_le_pow_right (by omega) (by omega))
                  obtain ⟨o2, o1⟩ := shift_words hT7
                  have hT' : T * 65536 * 65536 ^ (8 - (j + 1)) = y1.1 * 65536 ^ (8 - y1.2) := by
                    rw [← hT, Nat.mul_assoc]; congr 1; rw [← Nat.pow_succ', show (8 - (j + 1)).succ = 8 - j by omega]
                  have hTl' : T * 65536 < 65536 ^ (j + 1) := by rw [Nat.pow_succ]; have := Nat.mul_le_mul_right 65536 hTl; omega
                  have HH := Lib.hid (show (∀ b, b ≠ B9 → wr.heap[b]? = w4.heap[b]?) ∧ _ ∧ _ from ⟨hoth, hT', hTl'⟩)
                  obtain ⟨X, hX⟩ : ∃ X, X = hiW (T * 65536) := ⟨_, rfl⟩
                  obtain ⟨Y, hY⟩ : ∃ Y, Y = loW (T * 65536) := ⟨_, rfl⟩
                  have HXY := Lib.hid (show X = hiW (T * 65536) ∧ Y = loW (T * 65536) from ⟨hX, hY⟩)
                  rw [← hX] at o1
                  rw [← hY] at o2
                  clear hoth hT hT' hTl hTl' hT7 hX hY
                  go_wp2
                  refine ⟨⟨j + 1, T * 65536, by simp, by omega, by omega, ?_, ?_, ?_⟩, by simp [intOf]; omega⟩
                  · rw [← HXY.out.1, ← HXY.out.2]
                    exact heap_set2 hblk _ _
                  · exact below_set (below_set hbr hge9 0 _) hge9 1 _
                  · obtain ⟨h1, h2⟩ := HH.out
                    refine Lib.hid ⟨fun b hb => ?_, h2⟩
                    rw [set_other hb, set_other hb]
                    exact h1 b hb
                · obtain rfl : j = 8 := by omega
                  have hji : decide (((8 : Nat) : Int) < 8) = false := by decide
                  rw [show 8 - 8 = 0 from rfl, Nat.pow_zero, Nat.mul_one] at hT
                  obtain ⟨o1, o2⟩ := or_words y1.2 y2.2 y1.1 y2.1 (by omega) hy1.1 hy2.1
                  rw [← hT] at o1 o2
                  obtain ⟨cC0, cC1, fC0, fC1⟩ := cells_of hblkC
                  clear c20 c21 f20 f21
                  obtain ⟨c20, c21, f20, f21⟩ := cells_of hblk2
                  clear hT hTl hoth
                  go_wp2
                  refine bodyPost_ret_by (res_pair Tryz.results35 _ _ B2 (.int .u64 (hiW (joinAB y1.1 y1.2 y2.1) : Nat)) (.int .u64 (loW (joinAB y1.1 y1.2 y2.1) : Nat)) rfl (heap_set2 hblk2 _ _)) rfl ⟨?_, rfl⟩
                  exact below_set (below_set hbr (by have := HB.out; omega) 0 _) (by have := HB.out; omega) 1 _
      · skip
        rw [if_neg hab] at hcc
        have heq : ((s.extract k (k + 2)).toList == (⟨#[58, 58]⟩ : ByteArray).toList) = false := by
          rw [hex, h58]
          refine beq_eq_false_iff_ne.2 (fun e => hab ?_)
          simp only [List.cons.injEq, and_true] at e
          exact e
        have HE := Lib.hid heq
        have HCC := Lib.hid hcc
        clear hex h58 heq hab ha hb hcc
        have hki : (k : Int) + 2 ≤ (s.size : Int) := by omega
        go_wp2_with (with_reducible refine stop_op (o := ⟨some 59, _, _, _, _, _⟩) ?_)
        refine Lib.hid ?_
        refine wpList_eqs rfl _ _ _ _ rfl _ _ rfl rfl false HE.out ?_
        go_wp2
        exact ⟨⟨k + 1, by simp, by omega, trivial, HCC⟩, by simp [intOf]; omega⟩
    · skip
      have hcn := ccI_end (l := s.data.toList) (k := k) (by have := HL.out; omega)
      rw [hcn] at hcc
      have hlti : decide ((k : Int) + 1 < (s.size : Int)) = false := by simp; omega
      have hltn : decide (k + 1 < s.size) = false := by simp; omega
      obtain ⟨c20, c21, f20, f21⟩ := cells_of hB2
      have cg := fun W => rgrp_any s hs W
      obtain ⟨x1, hx1⟩ : ∃ x, x = grpV s.data.toList := ⟨_, rfl⟩
      have hR2 : R = pick8 x1 := by
        have h1 := HR.out
        rw [hcc] at h1
        simp only at h1
        rw [← hx1] at h1
        exact h1
      have hlt1 : ∀ y, x1 = some y → y.1 < 65536 ^ y.2 ∧ y.2 ≤ 8 := fun y hy => grpV_lt (by rw [← hx1]; exact hy)
      rw [← hx1] at cg
      clear hx1 hcc hcn HR
      cases x1 with
      | none =>
        simp only [pick8] at hR2
        subst hR2
        clear hlt1
        go_wp2_with (go_at_call 53; refine (cg _).mono ?_; rintro e w2 ⟨hb2, a1, b1, n1, rfl, ha1, hb1x, hn1⟩; refine Hid.out ?_)
        have bw2 := bel_via bw1 hb2
        have hB22 : w2.heap[B2]? = some (.cells #[.int .u64 0, .int .u64 0] 24 (0, 0)) := by rw [hb2.block _ hlt2]; exact hB2
        have hlt22 : B2 < w2.heap.size := (Array.getElem?_eq_some_iff.1 hB22).1
        refine Lib.hid ?_
        go_wp2_with (with_reducible refine stop_op (o := ⟨some 124, _, _, _, _, _⟩) ?_)
        obtain ⟨w4, hw4⟩ : ∃ v, v = w2.alloc (.cells #[.int .u64 (a1 : Nat), .int .u64 (b1 : Nat)] 24) := ⟨_, rfl⟩
        have hB24 : w4.heap[B2]? = some (.cells #[.int .u64 0, .int .u64 0] 24 (0, 0)) := by rw [hw4, al_old hlt22]; exact hB22
        have hBC4 : w4.heap[w2.heap.size]? = some (.cells #[.int .u64 (a1 : Nat), .int .u64 (b1 : Nat)] 24 (0, 0)) := by rw [hw4]; exact al_new rfl _
        have bw4 : Below w.heap.size w w4 := by rw [hw4]; exact Below.al bw2 _
        rw [← hw4]
        clear hw4 hb2 hB22 hB2 bw1 bw2 c20 c21 f20 f21
        obtain ⟨c20, c21, f20, f21⟩ := cells_of hB24
        obtain ⟨cC0, cC1, _, _⟩ := cells_of hBC4
        refine Lib.hid ?_
        go_wp2
        refine bodyPost_ret_by (res_pair Tryz.results35 _ _ B2 (.int .u64 (a1 : Nat)) (.int .u64 (b1 : Nat)) rfl (heap_set2 hB24 _ _)) rfl ⟨?_, a1, b1, rfl, ha1, hb1x⟩
        exact below_set (below_set bw4 (by have := HB.out; omega) 0 _) (by have := HB.out; omega) 1 _
      | some y1 =>
        have hy1 := hlt1 y1 rfl
        have hyw := words_lt (pw_lt hy1.1 hy1.2)
        simp only [pick8] at hR2
        clear hlt1
        have hn1i : (y1.2 : Int) ≤ 8 := by omega
        go_wp2_with (go_at_call 53; refine (cg _).mono ?_; rintro e w2 ⟨hb2, rfl⟩; refine Hid.out ?_)
        have bw2 := bel_via bw1 hb2
        have hB22 : w2.heap[B2]? = some (.cells #[.int .u64 0, .int .u64 0] 24 (0, 0)) := by rw [hb2.block _ hlt2]; exact hB2
        have hlt22 : B2 < w2.heap.size := (Array.getElem?_eq_some_iff.1 hB22).1
        refine Lib.hid ?_
        go_wp2_with (with_reducible refine stop_op (o := ⟨some 124, _, _, _, _, _⟩) ?_)
        obtain ⟨w4, hw4⟩ : ∃ v, v = w2.alloc (.cells #[.int .u64 (hiW y1.1 : Nat), .int .u64 (loW y1.1 : Nat)] 24) := ⟨_, rfl⟩
        have hB24 : w4.heap[B2]? = some (.cells #[.int .u64 0, .int .u64 0] 24 (0, 0)) := by rw [hw4, al_old hlt22]; exact hB22
        have hBC4 : w4.heap[w2.heap.size]? = some (.cells #[.int .u64 (hiW y1.1 : Nat), .int .u64 (loW y1.1 : Nat)] 24 (0, 0)) := by rw [hw4]; exact al_new rfl _
        have bw4 : Below w.heap.size w w4 := by rw [hw4]; exact Below.al bw2 _
        rw [← hw4]
        clear hw4 hb2 hB22 hB2 bw1 bw2 c20 c21 f20 f21
        obtain ⟨c20, c21, f20, f21⟩ := cells_of hB24
        obtain ⟨cC0, cC1, _, _⟩ := cells_of hBC4
        by_cases h8 : y1.2 = 8
        · rw [if_pos h8] at hR2
          subst hR2
          have h8i : ((y1.2 : Int) == 8) = true := by rw [h8]; rfl
          clear h8
          refine Lib.hid ?_
          go_wp2
          refine bodyPost_ret_by (res_pair Tryz.results35 _ _ B2 (.int .u64 (hiW y1.1 : Nat)) (.int .u64 (loW y1.1 : Nat)) rfl (heap_set2 hB24 _ _)) rfl ⟨?_, rfl⟩
          exact below_set (below_set bw4 (by have := HB.out; omega) 0 _) (by have := HB.out; omega) 1 _
        · rw [if_neg h8] at hR2
          subst hR2
          have h8i : ((y1.2 : Int) == 8) = false := by simp; omega
          clear h8
          refine Lib.hid ?_
          go_wp2
          refine bodyPost_ret_by (res_pair Tryz.results35 _ _ B2 (.int .u64 (hiW y1.1 : Nat)) (.int .u64 (loW y1.1 : Nat)) rfl (heap_set2 hB24 _ _)) rfl ⟨?_, hiW y1.1, loW y1.1, rfl, hyw.1, hyw.2⟩
          exact below_set (below_set bw4 (by have := HB.out; omega) 0 _) (by have := HB.out; omega) 1 _
end Go.Proofs.YtaafflmkfdicdaaGreatDoor
