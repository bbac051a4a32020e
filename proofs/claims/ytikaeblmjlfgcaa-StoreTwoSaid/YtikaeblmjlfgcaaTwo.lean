/- StoreTwo's walk; by-name template. -/
import Derived.Test.YtikaeblmjlfgcaaLaw
import Derived.Test.YtikaeblmjlfgcaaTheirsAt
import Derived.Maps.AppendAt
namespace Go.Proofs.Ytikaeblmjlfgcaa
open Go.RowKit
set_option linter.unusedVariables false

set_option maxHeartbeats 2000000 in
set_option maxRecDepth 100000 in
theorem two_any {a : Option Addr} {X : List (List Pt)} (cap : Nat) {w : World} (h : RowsAt w 1 0 a X) (hf : Fits X) : Calls Try.prog 3 #[.slice a X.length cap] w (FewPost w) := by
  obtain ⟨i0, hi, hz0, hz1, hz2⟩ := info_parts step_info
  have hz := zero_vals
  have hv0 := vnew_of
  generalize vcells (fun _ => none) 0 = Z at *
  have hl := h.1
  have HS := Lib.hid h
  have HF := Lib.hid hf
  clear h hf
  generalize hlen : X.length = len at *
  have HL := Lib.hid hlen
  clear hlen
  go_enter Try.func3, Try.ntmps3
  go_wp2_with fail
  go_loopw [3, 4] (fun v c wr => ∃ (k : Nat) (V : List Value), k ≤ len ∧ k ≤ 512 ∧ c = .int .i64 (k : Int) ∧ V.length = k ∧ Hid (SlOf w V (X.take k)) ∧ wr.ownsRow w.heap.size 26 3 v k (stcells V) ∧ Below w.heap.size w wr) (fun _ c _ => len - (intOf c).toNat)
  case atStart => exact ⟨0, [], by omega, by omega, rfl, rfl, Lib.hid ⟨by simp, fun i M hi => by simp at hi⟩, World.ownsRow_made w #[] 0 (Nat.le_refl _) (by unfold maxLen; omega) rfl, (Below.refl _ _).alloc (Nat.le_refl _) _⟩
  case round =>
    obtain ⟨k, V, hk, hk2, rfl, hVl, HV, hown, hB⟩ := hrel
    have hBs := hB.size
    by_cases hlt : k < len ∧ k < 512
    · obtain ⟨hlt, hk5⟩ := hlt
      obtain ⟨b, off, a', cap', L, ha, hb, hLk, hc, hP⟩ := HS.out.at1 (k := k) (by rw [HL.out]; exact hlt)
      have g1 := (hB.cell (p := ⟨b, off + k, none⟩) hb).trans hc
      have HV2 : Hid (SlOf w (V ++ [Value.slice a' L.length cap']) (X.take (k + 1))) := Lib.hid (by rw [take_succ_of hLk]; exact HV.out.snoc hP)
      have HA := Lib.hid (stcells_snoc V (Value.slice a' L.length cap'))
      subst ha
      clear hc hP hLk HV
      go_wp2_with (at_builtin; refine wpList_append_own _ rfl _ _ 23 rfl w.heap.size 26 i0 (.agg #[.int .i64 0, .int .i64 0, .slice none 0 0]) 3 40 Try.underlying23 hi hz0 hz1 hz2 rfl (by decide) _ _ _ rfl (hown.alloc _) ⟨wr.heap.size, 0, none⟩ 1 1 [.int .i64 0, .int .i64 0, .slice a' L.length cap'] rfl rfl ?c1 ?c2 ?c3 ?c4 ?c5 ?_)
      case c1 =>
        have hn := Blk.new wr #[.int .i64 0, .int .i64 0, .slice a' L.length cap'] 26
        intro j u hj
        have hj3 : j < 3 := (List.getElem?_eq_some_iff.1 hj).1
        have e : (⟨wr.heap.size, 0, none⟩ : Addr).add j = ⟨wr.heap.size, j, none⟩ := by unfold Addr.add; split <;> simp_all
        rw [e, hn.cell j]
        simpa using hj
      case c2 => intro u hu; simp at hu; rcases hu with rfl | rfl | rfl <;> rfl
      case c3 => unfold maxLen; omega
      case c4 => omega
      case c5 => simp; omega
      intro v' w2 hown' hgrow _
      rw [HA.out] at hown'
      have hB2 := (hB.alloc hB.size (.cells #[.int .i64 0, .int .i64 0, .slice a' L.length cap'] 26)).grown hgrow (by simp; omega) (fun k hk => (hown.lt k hk).1)
      clear hown hB g1 hgrow
      go_wp2
      go_roundw
      case rel => exact ⟨k + 1, _, by omega, by omega, by go_num, by simp [hVl], HV2, hown', hB2⟩
      case measure => simp [intOf]; omega
    · have hXk : Hid ((X.take k).length = k) := Lib.hid (by rw [List.length_take, HL.out]; omega)
      obtain ⟨ax, capx, rfl, hRx⟩ : ∃ ax capx, _ ∧ RowsAt wr 3 2 ax (X.take k) := rows_of_row (by rw [hVl]; exact hown) HV.out hB (by rw [hXk.out]; omega)
      have hhv := heavy_any capx hRx (fun M hM => HF.out M (List.mem_of_mem_take hM))
      rw [hXk.out] at hhv ⊢
      clear hown HV hRx hVl
      rcases (by omega : k = len ∨ (k < len ∧ 512 ≤ k)) with rfl | ⟨hg1, hg2⟩
      · clear hlt hk
        go_wp2_with fail
        refine hhv.mono ?_
        rintro e w1' ⟨bv, rfl, -, rfl⟩
        clear hhv
        cases bv
        · by_cases h256 : k ≤ 256
          · obtain ⟨B, hBe⟩ : ∃ B, B = wr.heap.size := ⟨_, rfl⟩
            have hnew := new_at hBe
            have hBa : wr.heap.size ≤ B := Nat.le_of_eq hBe.symm
            have HB := Lib.hid hBe
            clear hBe
            go_wp2_with fail
            refine hnew.mono ?_
            rintro e w1 ⟨rfl, hd1, hb1, hs1⟩
            clear hnew
            have hwB : w.heap.size ≤ B := by omega
            have hBel1 := hB.trans (hb1.mono hwB)
            obtain ⟨v, hve⟩ : ∃ v, v = w1.heap.size := ⟨_, rfl⟩
            have hbox : Blk (w1.alloc (.cells Z 33)) v Z 33 := by rw [hve]; exact Blk.new _ _ _
            have hd2 : DiskAt (w1.alloc (.cells Z 33)) B D0 := hd1.below ((Below.refl _ _).alloc (Nat.le_refl _) _) hd1.lt
            have hBel2 : Below w.heap.size w (w1.alloc (.cells Z 33)) := hBel1.alloc hBel1.size _
            have hvB : B < v := by omega
            have hinf := hv0.info
            have hone := hv0.one
            have HVE := Lib.hid hve
            have hva : w1.heap.size ≤ v := Nat.le_of_eq hve.symm
            clear hve
            go_wp2_with (refine wpList_store_row rfl 33 (.tmp 6) (.tmp 40) rfl w1.heap.size Z rfl rfl 33 Z (heap_alloc_new w1 _) hinf rfl hone ?_; rw [World.setRow_alloc_new])
            rw [← HVE.out]
            have hsv : v < (w1.alloc (.cells Z 33)).heap.size := hbox.lt
            clear hb1 hBel1 hB hd1
            generalize w1.alloc (.cells Z 33) = w2 at *
            go_loopw [7, 8, 9, 10, 11, 12] (fun c _ _ _ _ _ wr => ∃ (i : Nat) (D : DS) (C : Array Value), i ≤ k ∧ c = .int .i64 (i : Int) ∧ DiskAt wr B D ∧ Sane D (65 * (i : Int)) ∧ D.c = false ∧ D.d = false ∧ Blk wr v C 33 ∧ VOf C D (i : Int) ∧ Below w.heap.size w wr) (fun c _ _ _ _ _ _ => k - (intOf c).toNat)
            case atStart => exact ⟨0, D0, Z, by omega, rfl, hd2, sane_new, rfl, rfl, hbox, hv0, hBel2⟩
            case round =>
              obtain ⟨i, D, C, hik, rfl, hD, hsane, hDc, hDd, hV, hVO, hBr⟩ := hrel
              have hBrs := hBr.size
              by_cases hik2 : i < k
              · clear hbox hd2 hBel2 hv0 hinf hone hik
                obtain ⟨b, off, a', cap', L, ha, hb, hLk, hc, hP⟩ := HS.out.at1 (k := i) (by rw [HL.out]; exact hik2)
                have g1 := (hBr.cell (p := ⟨b, off + i, none⟩) hb).trans hc
                have hLf := HF.out L (mem_of_get hLk)
                have hP1 := hP.below hBr (Nat.le_refl _)
                have hth := theirs_at cap' hP1 hLf
                have hc0 := hc
                subst ha
                clear hc
                go_wp2_with fail
                refine hth.mono ?_
                rintro e w3 ⟨a3, cap3, rfl, hP3, hb3, hbase3⟩
                clear hth
                have hD3 := (hD.below hb3 hD.lt).drew
                have hV3 := Blk.below hV hb3 (Blk.lt hV)
                have hB3 := hBr.trans (hb3.mono hBrs)
                have hB3s := hB3.size
                have g3 := (hB3.cell (p := ⟨b, off + i, none⟩) hb).trans hc0
                have hP3' : PutsAt w3.drew a' L := hP.below hB3.drew (Nat.le_refl _)
                obtain ⟨S, hSe⟩ : ∃ S, S = w3.drew.heap.size := ⟨_, rfl⟩
                have hS1 : w3.heap.size ≤ S := Nat.le_of_eq hSe.symm
                have hop := open_at B hSe
                have HSe := Lib.hid hSe
                clear hSe
                have hD3l := hD3.lt
                have hD3l2 : B < w3.heap.size := hD3l
                have hV3l := hV3.lt
                have hSB : S ≠ B := by omega
                have hm : 65 * (i : Int) < 1000000000 := by omega
                have hbB : b ≠ B := by omega
                have hbS : b ≠ S := by omega
                have hb3l : b < w3.drew.heap.size := by show b < w3.heap.size; omega
                go_wp2_with fail
                go_region_held3 (fun w' => w'.cell? ⟨b, off + i, none⟩ = some (.slice a' L.length cap'))
                  (first | exact g3 | exact q4 | exact q5)
                  (first
                    | (go_at_call 10; refine hop.mono ?_; rintro e w4 ⟨rfl, hS4, hb4, hs4⟩; have q4 := (hb4.cell (p := ⟨b, off + i, none⟩) hb3l).trans g3)
                    | (go_at_call 11; refine (set_done cap' (hP3'.below hb4 (Nat.le_refl _)) hS4 (hD3.below hb4 hD3l) hSB hsane hm).mono ?_; rintro e w5 ⟨c, D5, rfl, hd5, ho5, hdo⟩; have q5 := (ho5.cell (off + i) (Nat.lt_of_lt_of_le hb3l hb4.size) hbB hbS).trans q4))
                have hO35 := (Off2.below (B := B) (S := S) hb4).trans ho5
                have hDlt := hD.lt
                have hP5 := (hP3.below (w' := w3.drew) (Below.refl _ _).drew (Nat.le_refl _)).far hO35 hS1 (fun x hx => by have := hbase3 x hx; omega)
                have hV5 := Blk.off2 (w := w3.drew) hV3 hO35 (by omega) (by omega)
                have hB5 := hB3.drew.trans (hO35.toB hB3s (by omega) (by omega))
                obtain ⟨h12, hc5, hdd5⟩ := hdo.calm hDc hDd
                have hck := hdo.chk h12
                have hsn := hdo.sane
                have hsame := hdo.same
                have hrc := rcheck_any cap3 hP5
                have Hdo := Lib.hid hdo
                clear hdo hV hV3 hD hD3 hP3 hP3' hop g1 g3 q4 q5 hb4 hO35 ho5 hB3 hBr hP1 hP hS4 hsane
                go_wp2_with fail
                refine hrc.mono ?_
                rintro e w6 ⟨c', rfl, hck', hb6⟩
                obtain rfl := hck.uniq hck'
                clear hrc hck'
                have hD6 := hd5.below hb6 hd5.lt
                have hV6 := Blk.below hV5 hb6 (Blk.lt hV5)
                have hB6 := hB5.trans (hb6.mono hB5.size)
                have hP6 := hP5.below hb6 (Nat.le_refl _)
                clear hd5 hV5 hB5 hP5 hb6
                by_cases hcL : c = 0 ∧ L ≠ []
                · obtain ⟨rfl, hL⟩ := hcL
                  have hlen : 0 < L.length := List.length_pos_iff.2 hL
                  have haf := after_at cap3 hP6 hVO (by omega) Hdo.out hL
                  have hinf := hVO.info
                  have hsz := hVO.size
                  go_wp2_with (first
                    | (refine wpList_load_row rfl 33 (.tmp 6) rfl v rfl 33 C (0, 0) _ hV6 Try.underlying33 rfl hinf ?_)
                    | (go_at_call 13; refine haf.mono ?_; rintro e w7 ⟨C9, rfl, hVO9, hb7⟩; have hV7 := Blk.below hV6 hb7 (Blk.lt hV6))
                    | (refine wpList_store_row rfl 33 (.tmp 6) (.tmp 72) rfl v C9 rfl rfl 33 C hV7 hVO9.info (hsz.trans hVO9.size.symm) hVO9.one ?_))
                  have hV9 := Blk.setRow (C := C9) hV7
                  have hD9 := (hD6.below hb7 hD6.lt).setRow (C := C9) (b := v) (by omega)
                  have hB9 := (hB6.trans (hb7.mono hB6.size)).setRow (g := v) (by omega) C9
                  clear hV7 hV6 hD6 hB6 hb7 hVO hinf hsz haf hP6
                  generalize w7.setRow v C9 = w9 at *
                  have hwr := writes_any hD9
                  obtain ⟨S1, hS1e⟩ : ∃ S1, S1 = w9.heap.size := ⟨_, rfl⟩
                  have hop1 := open_at B hS1e
                  have hS1a : w9.heap.size ≤ S1 := Nat.le_of_eq hS1e.symm
                  have HS1 := Lib.hid hS1e
                  clear hS1e
                  go_wp2_with fail
                  refine hwr.mono ?_
                  rintro e w10 ⟨rfl, rfl⟩
                  clear hwr
                  go_wp2_with fail
                  refine hop1.mono ?_
                  rintro e w11 ⟨rfl, hS11, hb11, hs11⟩
                  clear hop1
                  have hD11 := hD9.below hb11 hD9.lt
                  have hV11 := Blk.below hV9 hb11 (Blk.lt hV9)
                  have hB11 := hB9.trans (hb11.mono hB9.size)
                  clear hD9 hV9 hB9 hb11
                  obtain ⟨S2, hS2e⟩ : ∃ S2, S2 = w11.heap.size := ⟨_, rfl⟩
                  have hop2 := open_at B hS2e
                  have HS2 := Lib.hid hS2e
                  clear hS2e
                  go_wp2_with fail
                  refine hop2.mono ?_
                  rintro e w12 ⟨rfl, hS12, hb12, hs12⟩
                  clear hop2
                  have hD12 := hD11.below hb12 hD11.lt
                  have hV12 := Blk.below hV11 hb12 (Blk.lt hV11)
                  have hS112 : StoreAt w12 S1 B B := Blk.below hS11 hb12 (Blk.lt hS11)
                  have hB12 := hB11.trans (hb12.mono hB11.size)
                  clear hD11 hV11 hB11 hb12 hS11
                  have hinf9 := hVO9.info
                  have hsa := same_at hS112 hD12 hsn.small hVO9 (by omega)
                  go_wp2_with (refine wpList_load_row rfl 33 (.tmp 6) rfl v rfl 33 C9 (0, 0) _ hV12 Try.underlying33 rfl hinf9 ?_)
                  refine hsa.mono ?_
                  rintro e w13 ⟨rfl, hb13⟩
                  clear hsa
                  have hD13 := hD12.below hb13 hD12.lt
                  have hV13 := Blk.below hV12 hb13 (Blk.lt hV12)
                  have hS13 : StoreAt w13 S2 B B := Blk.below hS12 hb13 (Blk.lt hS12)
                  have hB13 := hB12.trans (hb13.mono hB12.size)
                  clear hD12 hV12 hB12 hb13 hS12 hS112
                  have hsa2 := same_at hS13 hD13 hsn.small hVO9 (by omega)
                  go_wp2_with (refine wpList_load_row_on (by rfl) 33 (.tmp 6) rfl v rfl 33 C9 (0, 0) _ hV13 Try.underlying33 rfl hinf9 ?_)
                  refine hsa2.mono ?_
                  rintro e w14 ⟨rfl, hb14⟩
                  clear hsa2
                  have hD14 := hD13.below hb14 hD13.lt
                  have hV14 := Blk.below hV13 hb14 (Blk.lt hV13)
                  have hB14 := hB13.trans (hb14.mono hB13.size)
                  clear hD13 hV13 hB13 hb14 hS13
                  have hwr2 := writes_any hD14
                  go_wp2_with fail
                  refine hwr2.mono ?_
                  rintro e w15 ⟨rfl, rfl⟩
                  clear hwr2
                  have hsn2 : Sane D5 (65 * (((i + 1 : Nat)) : Int)) := by
                    have e : (65 * (((i + 1 : Nat)) : Int)) = 65 * (i : Int) + 65 := by omega
                    rw [e]
                    exact hsn
                  have hnb : (D5.n == D5.n) = true := by simp
                  go_wp2_with fail
                  go_roundw
                  case rel => exact ⟨i + 1, D5, C9, by omega, by go_num, hD14, hsn2, hc5, hdd5, hV14, by simpa using hVO9, hB14⟩
                  case measure => simp [intOf]; omega
                · have hVO9 : VOf C D5 ((i : Int) + 1) := by
                    have hc' : c ≠ 0 ∨ L = [] := by
                      by_cases h0 : c = 0
                      · exact .inr (Classical.byContradiction fun h => hcL ⟨h0, h⟩)
                      · exact .inl h0
                    obtain ⟨hg, hn, _⟩ := hsame hc'
                    exact (hVO.same hg hn).mono (by omega)
                  clear hVO hP6
                  by_cases h0 : c = 0
                  · have hL0 : L = [] := Classical.byContradiction fun h => hcL ⟨h0, h⟩
                    subst h0
                    subst hL0
                    clear hcL
                    have hwr := writes_any hD6
                    obtain ⟨S1, hS1e⟩ : ∃ S1, S1 = w6.heap.size := ⟨_, rfl⟩
                    have hop1 := open_at B hS1e
                    have hS1a : w6.heap.size ≤ S1 := Nat.le_of_eq hS1e.symm
                    have HS1 := Lib.hid hS1e
                    clear hS1e
                    go_wp2_with fail
                    refine hwr.mono ?_
                    rintro e w10 ⟨rfl, rfl⟩
                    clear hwr
                    go_wp2_with fail
                    refine hop1.mono ?_
                    rintro e w11 ⟨rfl, hS11, hb11, hs11⟩
                    clear hop1
                    have hD11 := hD6.below hb11 hD6.lt
                    have hV11 := Blk.below hV6 hb11 (Blk.lt hV6)
                    have hB11 := hB6.trans (hb11.mono hB6.size)
                    clear hD6 hV6 hB6 hb11
                    obtain ⟨S2, hS2e⟩ : ∃ S2, S2 = w11.heap.size := ⟨_, rfl⟩
                    have hop2 := open_at B hS2e
                    have HS2 := Lib.hid hS2e
                    clear hS2e
                    go_wp2_with fail
                    refine hop2.mono ?_
                    rintro e w12 ⟨rfl, hS12, hb12, hs12⟩
                    clear hop2
                    have hD12 := hD11.below hb12 hD11.lt
                    have hV12 := Blk.below hV11 hb12 (Blk.lt hV11)
                    have hS112 : StoreAt w12 S1 B B := Blk.below hS11 hb12 (Blk.lt hS11)
                    have hB12 := hB11.trans (hb12.mono hB11.size)
                    clear hD11 hV11 hB11 hb12 hS11
                    have hinf9 := hVO9.info
                    have hsa := same_at hS112 hD12 hsn.small hVO9 (by omega)
                    go_wp2_with (refine wpList_load_row rfl 33 (.tmp 6) rfl v rfl 33 C (0, 0) _ hV12 Try.underlying33 rfl hinf9 ?_)
                    refine hsa.mono ?_
                    rintro e w13 ⟨rfl, hb13⟩
                    clear hsa
                    have hD13 := hD12.below hb13 hD12.lt
                    have hV13 := Blk.below hV12 hb13 (Blk.lt hV12)
                    have hS13 : StoreAt w13 S2 B B := Blk.below hS12 hb13 (Blk.lt hS12)
                    have hB13 := hB12.trans (hb13.mono hB12.size)
                    clear hD12 hV12 hB12 hb13 hS12 hS112
                    have hsa2 := same_at hS13 hD13 hsn.small hVO9 (by omega)
                    go_wp2_with (refine wpList_load_row_on (by rfl) 33 (.tmp 6) rfl v rfl 33 C (0, 0) _ hV13 Try.underlying33 rfl hinf9 ?_)
                    refine hsa2.mono ?_
                    rintro e w14 ⟨rfl, hb14⟩
                    clear hsa2
                    have hD14 := hD13.below hb14 hD13.lt
                    have hV14 := Blk.below hV13 hb14 (Blk.lt hV13)
                    have hB14 := hB13.trans (hb14.mono hB13.size)
                    clear hD13 hV13 hB13 hb14 hS13
                    have hwr2 := writes_any hD14
                    go_wp2_with fail
                    refine hwr2.mono ?_
                    rintro e w15 ⟨rfl, rfl⟩
                    clear hwr2
                    have hsn2 : Sane D5 (65 * (((i + 1 : Nat)) : Int)) := by
                      have e : (65 * (((i + 1 : Nat)) : Int)) = 65 * (i : Int) + 65 := by omega
                      rw [e]
                      exact hsn
                    have hnb : (D5.n == D5.n) = true := by simp
                    go_wp2_with fail
                    go_roundw
                    case rel => exact ⟨i + 1, D5, C, by omega, by go_num, hD14, hsn2, hc5, hdd5, hV14, by simpa using hVO9, hB14⟩
                    case measure => simp [intOf]; omega
                  · have hcb : (c == 0) = false := by simpa using h0
                    clear hcL
                    have hwr := writes_any hD6
                    obtain ⟨S1, hS1e⟩ : ∃ S1, S1 = w6.heap.size := ⟨_, rfl⟩
                    have hop1 := open_at B hS1e
                    have hS1a : w6.heap.size ≤ S1 := Nat.le_of_eq hS1e.symm
                    have HS1 := Lib.hid hS1e
                    clear hS1e
                    go_wp2_with fail
                    refine hwr.mono ?_
                    rintro e w10 ⟨rfl, rfl⟩
                    clear hwr
                    go_wp2_with fail
                    refine hop1.mono ?_
                    rintro e w11 ⟨rfl, hS11, hb11, hs11⟩
                    clear hop1
                    have hD11 := hD6.below hb11 hD6.lt
                    have hV11 := Blk.below hV6 hb11 (Blk.lt hV6)
                    have hB11 := hB6.trans (hb11.mono hB6.size)
                    clear hD6 hV6 hB6 hb11
                    obtain ⟨S2, hS2e⟩ : ∃ S2, S2 = w11.heap.size := ⟨_, rfl⟩
                    have hop2 := open_at B hS2e
                    have HS2 := Lib.hid hS2e
                    clear hS2e
                    go_wp2_with fail
                    refine hop2.mono ?_
                    rintro e w12 ⟨rfl, hS12, hb12, hs12⟩
                    clear hop2
                    have hD12 := hD11.below hb12 hD11.lt
                    have hV12 := Blk.below hV11 hb12 (Blk.lt hV11)
                    have hS112 : StoreAt w12 S1 B B := Blk.below hS11 hb12 (Blk.lt hS11)
                    have hB12 := hB11.trans (hb12.mono hB11.size)
                    clear hD11 hV11 hB11 hb12 hS11
                    have hinf9 := hVO9.info
                    have hsa := same_at hS112 hD12 hsn.small hVO9 (by omega)
                    go_wp2_with (refine wpList_load_row rfl 33 (.tmp 6) rfl v rfl 33 C (0, 0) _ hV12 Try.underlying33 rfl hinf9 ?_)
                    refine hsa.mono ?_
                    rintro e w13 ⟨rfl, hb13⟩
                    clear hsa
                    have hD13 := hD12.below hb13 hD12.lt
                    have hV13 := Blk.below hV12 hb13 (Blk.lt hV12)
                    have hS13 : StoreAt w13 S2 B B := Blk.below hS12 hb13 (Blk.lt hS12)
                    have hB13 := hB12.trans (hb13.mono hB12.size)
                    clear hD12 hV12 hB12 hb13 hS12 hS112
                    have hsa2 := same_at hS13 hD13 hsn.small hVO9 (by omega)
                    go_wp2_with (refine wpList_load_row_on (by rfl) 33 (.tmp 6) rfl v rfl 33 C (0, 0) _ hV13 Try.underlying33 rfl hinf9 ?_)
                    refine hsa2.mono ?_
                    rintro e w14 ⟨rfl, hb14⟩
                    clear hsa2
                    have hD14 := hD13.below hb14 hD13.lt
                    have hV14 := Blk.below hV13 hb14 (Blk.lt hV13)
                    have hB14 := hB13.trans (hb14.mono hB13.size)
                    clear hD13 hV13 hB13 hb14 hS13
                    have hwr2 := writes_any hD14
                    go_wp2_with fail
                    refine hwr2.mono ?_
                    rintro e w15 ⟨rfl, rfl⟩
                    clear hwr2
                    have hsn2 : Sane D5 (65 * (((i + 1 : Nat)) : Int)) := by
                      have e : (65 * (((i + 1 : Nat)) : Int)) = 65 * (i : Int) + 65 := by omega
                      rw [e]
                      exact hsn
                    have hnb : (D5.n == D5.n) = true := by simp
                    go_wp2_with fail
                    go_roundw
                    case rel => exact ⟨i + 1, D5, C, by omega, by go_num, hD14, hsn2, hc5, hdd5, hV14, by simpa using hVO9, hB14⟩
                    case measure => simp [intOf]; omega
              · go_wp2_with fail
                go_ret
                exact ⟨rfl, hBr⟩
          · go_wp2_with fail
            go_ret
            exact ⟨rfl, hB⟩
        · go_wp2_with fail
          go_ret
          exact ⟨rfl, hB⟩
      · have h256 : ¬ len ≤ 256 := by omega
        clear hlt
        go_wp2_with fail
        refine hhv.mono ?_
        rintro e w1' ⟨bv, rfl, -, rfl⟩
        clear hhv
        cases bv
        · go_wp2_with fail
          go_ret
          exact ⟨rfl, hB⟩
        · go_wp2_with fail
          go_ret
          exact ⟨rfl, hB⟩
end Go.Proofs.Ytikaeblmjlfgcaa
