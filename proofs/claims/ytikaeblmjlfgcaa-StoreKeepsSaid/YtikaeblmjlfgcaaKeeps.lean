/- StoreKeeps's walk; by-name template. -/
import Derived.Test.YtikaeblmjlfgcaaRegion
import Derived.Test.YtikaeblmjlfgcaaTheirsAt
import Derived.Maps.AppendAt
import Derived.Deep.QuietTactic
import Derived.BigQuiet
namespace Go.Proofs.Ytikaeblmjlfgcaa
open Go.RowKit
set_option linter.unusedVariables false

theorem put_info : (Try.prog.info? 49).map (fun i => (i.zero, i.size, i.bytes)) = some (some (.agg #[.int .i64 0, .string ByteArray.empty, .bool false]), 3, 32) := by kernel_rfl
theorem pcells_some (L : List Pt) {j : Nat} {u : Value} (h : (pcells L)[j]? = some u) : ∃ i p, L[i]? = some p ∧ ((j = i * 3 ∧ u = .int .i64 p.slot) ∨ (j = i * 3 + 1 ∧ u = .string p.val) ∨ (j = i * 3 + 2 ∧ u = .bool p.gone)) := by
  have hj := (List.getElem?_eq_some_iff.1 h).1
  rw [pcells_len] at hj
  have hi : j / 3 < L.length := by omega
  obtain ⟨p, hp⟩ : ∃ p, L[j / 3]? = some p := ⟨_, List.getElem?_eq_getElem hi⟩
  obtain ⟨h1, h2, h3⟩ := pcells_get L _ p hp
  refine ⟨j / 3, p, hp, ?_⟩
  rcases (by omega : j = j / 3 * 3 ∨ j = j / 3 * 3 + 1 ∨ j = j / 3 * 3 + 2) with e | e | e
  · rw [e, h1] at h
    exact .inl ⟨e, (Option.some.inj h).symm⟩
  · rw [e, h2] at h
    exact .inr (.inl ⟨e, (Option.some.inj h).symm⟩)
  · rw [e, h3] at h
    exact .inr (.inr ⟨e, (Option.some.inj h).symm⟩)
theorem PutsAt.cells {w : World} {b off : Nat} {L : List Pt} (h : PutsAt w (some ⟨b, off, none⟩) L) {j : Nat} {u : Value} (hu : (pcells L)[j]? = some u) : w.cell? ⟨b, off + j, none⟩ = some u := by
  obtain ⟨i, p, hp, hc⟩ := pcells_some L hu
  obtain ⟨b', off', ha, _, hs⟩ := h.2 i p hp
  cases ha
  rcases hc with ⟨rfl, rfl⟩ | ⟨rfl, rfl⟩ | ⟨rfl, rfl⟩
  · exact hs.cs
  · exact hs.cv
  · exact hs.cg
theorem row_blk {w : World} {base n g cap : Nat} {L : List Pt} (h : w.ownsRow base 49 3 (.slice (some ⟨g, 0, none⟩) n cap) L.length (pcells L)) : base ≤ g ∧ ∃ cur, Blk w g cur 49 ∧ ∀ j, j < L.length * 3 → cur[j]? = (pcells L)[j]? := by
  rcases h.2 with ⟨h1, _⟩ | ⟨g', c, cur, h1, hb, hg, _, _, _, ht⟩
  · cases h1
  · cases h1
    refine ⟨hb, cur, hg, fun j hj => ?_⟩
    rw [← ht, List.getElem?_take_of_lt hj]
    simp

def flt (s : Int) (L : List Pt) : List Pt := L.filter fun p => decide (p.slot ≠ s)
theorem flt_yes {s : Int} {L : List Pt} {p : Pt} (h : p.slot ≠ s) : flt s (L ++ [p]) = flt s L ++ [p] := by simp [flt, h]
theorem flt_no {s : Int} {L : List Pt} {p : Pt} (h : p.slot = s) : flt s (L ++ [p]) = flt s L := by simp [flt, h]
theorem mem_flt {s : Int} {L : List Pt} {p : Pt} (h : p ∈ flt s L) : p ∈ L ∧ p.slot ≠ s := by simpa [flt] using h
theorem flt_len (s : Int) (L : List Pt) : (flt s L).length ≤ L.length := List.length_filter_le _ _
theorem pcells_snoc (L : List Pt) (p : Pt) : pcells L ++ [.int .i64 p.slot, .string p.val, .bool p.gone] = pcells (L ++ [p]) := by simp [pcells]
theorem Done.keeps {D : DS} {m : Int} {L : List Pt} {c : Int} {D' : DS} (h : Done D m L c D') {s : Nat} (hs : s < 8) (hn : ∀ p ∈ L, p.slot ≠ (s : Int)) : getv D' s = getv D s := by
  by_cases hc : c ≠ 0 ∨ L = []
  · exact (h.same hc).1 s
  · have h0 : c = 0 := Classical.byContradiction fun e => hc (.inl e)
    have hL : L ≠ [] := fun e => hc (.inr e)
    rw [(h.new h0 hL).2.2.2 s hs]
    exact afterF_other L _ s hn

theorem PutsAt.sane {w : World} {a : Option Addr} {L : List Pt} (h : PutsAt w a L) : ∀ p ∈ L, i64ok p.slot ∧ p.val.size ≤ 9223372036854775807 := fun p hp => by
  obtain ⟨i, hi, hip⟩ := List.getElem_of_mem hp
  obtain ⟨_, _, _, _, hs⟩ := h.2 i p (by rw [List.getElem?_eq_getElem hi, hip])
  exact ⟨hs.ws, hs.wv⟩

set_option maxHeartbeats 4000000 in
set_option maxRecDepth 100000 in
theorem keeps_any {a0 a : Option Addr} {L0 : List Pt} {X : List (List Pt)} (cap0 cap : Nat) {w : World} (h0 : PutsAt w a0 L0) (hf0 : L0.length * 32 ≤ 140737488355328) (h : RowsAt w 1 0 a X) (hf : Fits X) : Calls Try.prog 6 #[.slice a0 L0.length cap0, .slice a X.length cap] w (FewPost w) := by
  obtain ⟨i0, hi, hz0, hz1, hz2⟩ := info_parts step_info
  have hl := h.1
  have hl0 := h0.1
  have HS := Lib.hid h
  have HF := Lib.hid hf
  have HP0 := Lib.hid h0
  have HF0 := Lib.hid hf0
  have hb1 : Below w.heap.size w (w.alloc (.cells #[.int .i64 0, .int .i64 0, .slice a0 L0.length cap0] 26)) := (Below.refl _ _).alloc (Nat.le_refl _) _
  have hown0 : (w.alloc (.cells #[.int .i64 0, .int .i64 0, .slice a0 L0.length cap0] 26)).ownsRow w.heap.size 26 3 (.slice (some ⟨w.heap.size, 0, none⟩) 1 1) 1 (stcells [.slice a0 L0.length cap0]) := ⟨rfl, .inr ⟨w.heap.size, 1, #[.int .i64 0, .int .i64 0, .slice a0 L0.length cap0], rfl, Nat.le_refl _, Blk.new _ _ _, Nat.le_refl _, by unfold maxLen; omega, rfl, rfl⟩⟩
  clear h hf h0
  generalize hlen : X.length = len at *
  have HL := Lib.hid hlen
  clear hlen
  go_enter Try.func6, Try.ntmps6
  go_wp2_with fail
  generalize w.alloc (.cells #[.int .i64 0, .int .i64 0, .slice a0 L0.length cap0] 26) = w1 at *
  go_loopw [5, 6] (fun v c wr => ∃ (k : Nat) (V : List Value), k ≤ len ∧ k ≤ 512 ∧ c = .int .i64 (k : Int) ∧ V.length = k + 1 ∧ Hid (SlOf w V (L0 :: X.take k)) ∧ wr.ownsRow w.heap.size 26 3 v (k + 1) (stcells V) ∧ Below w.heap.size w wr) (fun _ c _ => len - (intOf c).toNat)
  case atStart => exact ⟨0, [.slice a0 L0.length cap0], by omega, by omega, rfl, rfl, Lib.hid ⟨by simp, fun i M hi => by
    cases i with
    | zero => simp at hi; subst hi; exact ⟨a0, cap0, rfl, HP0.out⟩
    | succ i => simp at hi⟩, hown0, hb1⟩
  case round =>
    obtain ⟨k, V, hk, hk2, rfl, hVl, HV, hown, hB⟩ := hrel
    clear hown0 hb1
    have hBs := hB.size
    by_cases hlt : k < len ∧ k < 512
    · obtain ⟨hlt, hk5⟩ := hlt
      obtain ⟨b, off, a', cap', L, ha, hb, hLk, hc, hP⟩ := HS.out.at1 (k := k) (by rw [HL.out]; exact hlt)
      have g1 := (hB.cell (p := ⟨b, off + k, none⟩) hb).trans hc
      have HV2 : Hid (SlOf w (V ++ [Value.slice a' L.length cap']) (L0 :: X.take (k + 1))) := Lib.hid (by rw [take_succ_of hLk, ← List.cons_append]; exact HV.out.snoc hP)
      have HA := Lib.hid (stcells_snoc V (Value.slice a' L.length cap'))
      subst ha
      clear hc hP hLk HV
      go_wp2_with (at_builtin; refine wpList_append_own _ rfl _ _ 23 rfl w.heap.size 26 i0 (.agg #[.int .i64 0, .int .i64 0, .slice none 0 0]) 3 40 Try.underlying23 hi hz0 hz1 hz2 rfl (by decide) _ _ _ rfl (hown.alloc _) ⟨wr.heap.size, 0, none⟩ 1 1 [.int .i64 0, .int .i64 0, .slice a' L.length cap'] rfl rfl ?c1 ?c2 ?c3 ?c4 ?c5 ?_)
      case c1 =>
        have hn := Blk.new wr #[.int .i64 0, .int .i64 0, .slice a' L.length cap'] 26
        intro j u hj
        have hj3 : j < 3 := (List.getElem?_eq_some_iff.1 hj).1
        have e : (⟨wr.heap.size, 0, none⟩ : Addr).add j = ⟨wr.heap.size, j, none⟩ := by unfold Addr.add; split <;> simp_all
        rw [e, hn.cell j]
        simpa using hj
      case c2 => intro u hu; simp at hu; rcases hu with rfl | rfl | rfl <;> rfl
      case c3 => unfold maxLen; omega
      case c4 => omega
      case c5 => simp; omega
      intro v' w2 hown' hgrow _
      rw [HA.out] at hown'
      have hB2 := (hB.alloc hB.size (.cells #[.int .i64 0, .int .i64 0, .slice a' L.length cap'] 26)).grown hgrow (by simp; omega) (fun k hk => (hown.lt k hk).1)
      clear hown hB g1 hgrow
      go_wp2
      go_roundw
      case rel => exact ⟨k + 1, _, by omega, by omega, by go_num, by simp [hVl], HV2, hown', hB2⟩
      case measure => simp [intOf]; omega
    · have hXk : Hid ((L0 :: X.take k).length = k + 1) := Lib.hid (by rw [List.length_cons, List.length_take, HL.out]; omega)
      obtain ⟨ax, capx, rfl, hRx⟩ : ∃ ax capx, _ ∧ RowsAt wr 3 2 ax (L0 :: X.take k) := rows_of_row (by rw [hVl]; exact hown) HV.out hB (by rw [hXk.out]; omega)
      have hhv := heavy_any capx hRx (fun M hM => by
        rcases List.mem_cons.1 hM with rfl | hM
        · exact HF0.out
        · exact HF.out M (List.mem_of_mem_take hM))
      rw [hXk.out] at hhv ⊢
      clear hown HV hRx hVl
      rcases (by omega : k = len ∨ (k < len ∧ 512 ≤ k)) with rfl | ⟨hg1, hg2⟩
      · clear hlt hk
        go_wp2_with fail
        refine hhv.mono ?_
        rintro e w1' ⟨bv, rfl, -, rfl⟩
        clear hhv
        cases bv
        · by_cases h256 : k ≤ 256
          · have hth := theirs_any cap0 (HP0.out.below hB (Nat.le_refl _)) HF0.out
            go_wp2_with fail
            refine hth.mono ?_
            rintro e w2 ⟨a2, cap2, rfl, hP2, hb2⟩
            have hB2 := hB.trans (hb2.mono hB.size)
            have hrc := rcheck_any cap2 hP2
            clear hth
            go_wp2_with fail
            refine hrc.mono ?_
            rintro e w3 ⟨c0, rfl, hc0, hb3⟩
            have hB3 := hB2.trans (hb3.mono hB2.size)
            clear hrc hb3 hP2 hb2 hB2
            by_cases hcz : c0 = 0
            · subst hcz
              by_cases hL0 : L0 = []
              · have hlb : ((L0.length : Int) == 0) = true := by rw [hL0]; rfl
                go_wp2_with fail
                go_ret
                exact ⟨rfl, hB3⟩
              · have hlen0 : 0 < L0.length := List.length_pos_iff.2 hL0
                have hlb0 : ((L0.length : Int) == 0) = false := by rw [beq_eq_false_iff_ne]; omega
                have HC0 := Lib.hid hc0
                have HL0 := Lib.hid hL0
                obtain ⟨ba, offa, p0, ha0, hba, hp0, hst0⟩ := HP0.out.get (k := 0) hlen0
                subst ha0
                obtain ⟨B, hBe⟩ : ∃ B, B = w3.heap.size := ⟨_, rfl⟩
                have hnew := new_at hBe
                have hBa : w3.heap.size ≤ B := Nat.le_of_eq hBe.symm
                have HB := Lib.hid hBe
                have hinfo := put_info
                obtain ⟨ip, hip, hpz0, hpz1, hpz2⟩ := info_parts hinfo
                clear hBe hc0 hL0 hB hinfo
                go_wp2_with fail
                refine hnew.mono ?_
                rintro e w4 ⟨rfl, hd4, hb4, hs4⟩
                clear hnew
                have hwB : w.heap.size ≤ B := Nat.le_trans hB3.size hBa
                have hB4 := hB3.trans (hb4.mono hwB)
                have hP4 := HP0.out.below (hB4.alloc hB4.size (.cells #[] 49)) (Nat.le_refl _)
                have hown5 : (w4.alloc (.cells #[] 49)).ownsRow w4.heap.size 49 3 (.slice (some ⟨w4.heap.size, 0, none⟩) 0 0) 0 [] := World.ownsRow_made w4 #[] 0 (Nat.le_refl _) (by unfold maxLen; omega) rfl
                have hd5 : DiskAt (w4.alloc (.cells #[] 49)) B D0 := hd4.below ((Below.refl _ _).alloc (Nat.le_refl _) _) hd4.lt
                have hB5 := hB4.alloc hB4.size (.cells #[] 49)
                go_wp2_with (at_builtin; refine wpList_append_own _ rfl _ _ 24 rfl w4.heap.size 49 ip (.agg #[.int .i64 0, .string ByteArray.empty, .bool false]) 3 32 Try.underlying24 hip hpz0 hpz1 hpz2 rfl (by decide) _ _ _ rfl hown5 ⟨ba, offa, none⟩ L0.length cap0 (pcells L0) rfl (pcells_len L0) ?d1 ?d2 ?d3 ?d4 ?d5 ?_)
                case d1 =>
                  intro j u hj
                  have e : (⟨ba, offa, none⟩ : Addr).add j = ⟨ba, offa + j, none⟩ := by unfold Addr.add; split <;> simp_all
                  rw [e]
                  exact hP4.cells hj
                case d2 =>
                  intro u hu
                  obtain ⟨j, hj, rfl⟩ := List.getElem_of_mem hu
                  obtain ⟨i, p, _, hc⟩ := pcells_some L0 (List.getElem?_eq_getElem hj)
                  rcases hc with ⟨_, h⟩ | ⟨_, h⟩ | ⟨_, h⟩ <;> rw [h] <;> rfl
                case d3 => unfold maxLen; omega
                case d4 => omega
                case d5 =>
                  have hd5' := HF0.out
                  simp <;> omega
                intro v' w5 hown' hgrow _
                have hb45 : Below w4.heap.size w4 w5 := ((Below.refl _ _).alloc (Nat.le_refl _) _).grown hgrow (by simp) (fun k hk => (hown5.lt k hk).1)
                rcases hown'.2 with ⟨_, hn0⟩ | ⟨g, capy, cur, rfl, hgb, hY5, _, _, _, htk⟩
                · omega
                have hcur : Hid (∀ j, j < L0.length * 3 → cur[j]? = (pcells L0)[j]?) := Lib.hid fun j hj => by
                  rw [← htk, List.getElem?_take_of_lt hj]
                  simp
                obtain ⟨ay, cy, hye, hPY⟩ := puts_of_row hown' hl0 HP0.out.sane
                cases hye
                have hgl := Blk.lt (show Blk w5 g cur 49 from hY5)
                have hBg : B < g := by omega
                have hgb' : w.heap.size ≤ g := by omega
                have hY : Blk w5 g cur 49 := hY5
                have hd6 := hd4.below hb45 hd4.lt
                have hB6 := hB4.trans (hb45.mono hB4.size)
                clear hown5 hown' hgrow hb45 htk hd5 hB5 hP4 hd4 hB4 hY5 hip hpz0 hpz1 hpz2
                obtain ⟨S, hSe⟩ : ∃ S, S = w5.heap.size := ⟨_, rfl⟩
                have hop := open_at B hSe
                have hSa : w5.heap.size ≤ S := Nat.le_of_eq hSe.symm
                have HSe := Lib.hid hSe
                clear hSe
                go_wp2_with fail
                refine hop.mono ?_
                rintro e w6 ⟨rfl, hS6, hb6, hs6⟩
                clear hop
                have hd7 := hd6.below hb6 hd6.lt
                have hY6 := Blk.below hY hb6 hgl
                have hB7 := hB6.trans (hb6.mono hB6.size)
                have hset := set_done capy (hPY.below hb6 (Nat.le_refl _)) hS6 hd7 (by omega) sane_new (by decide)
                clear hd6 hb6 hB6 hY hPY
                go_wp2_with fail
                refine hset.mono ?_
                rintro e w7 ⟨c, D, rfl, hd8, ho8, hdo⟩
                obtain ⟨rfl, hDc, hDd⟩ := hdo.zero rfl rfl HC0.out
                have hB8 := hB7.trans (ho8.toB hB7.size hwB (by omega))
                have hY8 := Blk.off2 hY6 ho8 (by omega) (by omega)
                obtain ⟨k1, k2, k3⟩ := HC0.out.ok rfl
                have hm0 := mem_of_get hp0
                obtain ⟨s0, s8⟩ := k1 p0 hm0
                obtain ⟨j0, hj0⟩ := Int.eq_ofNat_of_zero_le s0
                have hj8 : j0 < 8 := by omega
                have HV : Hid (getv D j0 = newv p0) := Lib.hid (by
                  rw [(hdo.new rfl HL0.out).2.2.2 j0 hj8]
                  exact afterF_mem L0 _ k3 p0 hm0 j0 hj0)
                have HDO := Lib.hid hdo
                have HJ0 := Lib.hid hj0
                have HP00 := Lib.hid hp0
                have HST0 := Lib.hid hst0
                clear hset hS6 hd7 ho8 hB7 hY6 hdo k1 k2 k3 hm0 s0 s8 hj0 hp0 hst0
                go_wp2_with fail
                go_loopw [9] (fun n wr => ∃ (i : Nat) (cur : Array Value), i ≤ L0.length ∧ n = .int .i64 (i : Int) ∧ DiskAt wr B D ∧ Blk wr g cur 49 ∧ Hid (∀ j, i * 3 ≤ j → j < L0.length * 3 → cur[j]? = (pcells L0)[j]?) ∧ Below w.heap.size w wr) (fun n _ => L0.length - (intOf n).toNat)
                case atStart => exact ⟨0, cur, by omega, rfl, hd8, hY8, Lib.hid fun j _ hj => hcur.out j hj, hB8⟩
                case round =>
                  obtain ⟨i, cu, hi, rfl, hD, hYr, HCU, hBr⟩ := hrel
                  clear hd8 hY8 hB8
                  by_cases hil : i < L0.length
                  · obtain ⟨b1, off1, p, ha1, hb1', hp1, hst1⟩ := HP0.out.get (k := i) hil
                    cases ha1
                    have hst := hst1.block (hBr.block ba hb1')
                    obtain ⟨c1, c2, c3⟩ := pcells_get L0 i p hp1
                    have y1 := (hYr.cell (i * 3)).trans ((HCU.out _ (by omega) (by omega)).trans c1)
                    have y2 := (hYr.cell (i * 3 + 1)).trans ((HCU.out _ (by omega) (by omega)).trans c2)
                    have y3 := (hYr.cell (i * 3 + 2)).trans ((HCU.out _ (by omega) (by omega)).trans c3)
                    have g1 := hst.cs
                    have g2 := hst.cv
                    have g3 := hst.cg
                    have f1 := hYr.free (i * 3)
                    have f2 := hYr.free (i * 3 + 1)
                    have f3 := hYr.free (i * 3 + 2)
                    have HST := Lib.hid hst1
                    clear hst1 hst hp1 c1 c2 c3
                    have i0' : (0 : Int) ≤ (i : Int) := by omega
                    have i1' : (i : Int) < (L0.length : Int) := by omega
                    go_wp2_with fail
                    go_quiet (fail)
                    go_wp2_with fail
                    have hgB : B ≠ g := by omega
                    have hd9 := (((show DiskAt (wr.drewN nq) B D from hD).other (k := g) hgB (i * 3) (.int .i64 3)).other (k := g) hgB (i * 3 + 1) (.string { data := #[115, 112, 111, 105, 108, 116] })).other (k := g) hgB (i * 3 + 2) (.bool false)
                    have hY9 := (((Blk.drewN hYr nq).set (i * 3) (.int .i64 3)).set (i * 3 + 1) (.string { data := #[115, 112, 111, 105, 108, 116] })).set (i * 3 + 2) (.bool false)
                    have hB9 := (((hBr.drewN nq).setCell (p := ⟨g, i * 3, none⟩) hgb' (.int .i64 3)).setCell (p := ⟨g, i * 3 + 1, none⟩) hgb' (.string { data := #[115, 112, 111, 105, 108, 116] })).setCell (p := ⟨g, i * 3 + 2, none⟩) hgb' (.bool false)
                    go_roundw
                    case rel =>
                      refine ⟨i + 1, _, by omega, by go_num, hd9, hY9, Lib.hid fun j hj hj2 => ?_, hB9⟩
                      rw [Array.getElem?_setIfInBounds_ne (by omega), Array.getElem?_setIfInBounds_ne (by omega), Array.getElem?_setIfInBounds_ne (by omega)]
                      exact HCU.out j (by omega) hj2
                    case measure => simp [intOf]; omega
                  · have hst := HST0.out.block (hBr.block ba hba)
                    have gs : wr.cell? ⟨ba, offa, none⟩ = some (.int .i64 p0.slot) := by simpa using hst.cs
                    have l0' : (0 : Int) < (L0.length : Int) := by omega
                    clear hst hYr HCU hlb0
                    have hsn := HDO.out.sane
                    go_wp2_with fail
                    go_loopw [11, 12, 13, 14, 15] (fun n _ _ _ _ wr => ∃ (i : Nat) (D : DS), i ≤ k ∧ n = .int .i64 (i : Int) ∧ DiskAt wr B D ∧ Sane D (65 * (i : Int) + 65) ∧ D.c = false ∧ D.d = false ∧ Hid (getv D j0 = newv p0) ∧ Below w.heap.size w wr) (fun n _ _ _ _ _ => k - (intOf n).toNat)
                    case atStart => exact ⟨0, D, by omega, rfl, hD, hsn, hDc, hDd, HV, hBr⟩
                    case round =>
                      clear hD hBr gs hsn hDc hDd HV
                      obtain ⟨i, D, hik, rfl, hD, hsn, hDc, hDd, HV, hBr⟩ := hrel
                      have hBrs := hBr.size
                      by_cases hik2 : i < k
                      · obtain ⟨b, off, a', cap', L, ha, hb, hLk, hc, hP⟩ := HS.out.at1 (k := i) (by rw [HL.out]; exact hik2)
                        have HC := Lib.hid hc
                        have HLf := Lib.hid (HF.out L (mem_of_get hLk))
                        have HP := Lib.hid hP
                        have hlL := hP.1
                        subst ha
                        obtain ⟨nl, hnl⟩ : ∃ nl, nl = L.length := ⟨_, rfl⟩
                        rw [← hnl] at hc HC HLf hlL
                        have HNL := Lib.hid hnl
                        have hown0 : (wr.alloc (.cells #[] 49)).ownsRow wr.heap.size 49 3 (.slice (some ⟨wr.heap.size, 0, none⟩) 0 0) 0 [] := World.ownsRow_made wr #[] 0 (Nat.le_refl _) (by unfold maxLen; omega) rfl
                        have hbel0 : Below wr.heap.size wr (wr.alloc (.cells #[] 49)) := (Below.refl _ _).alloc (Nat.le_refl _) _
                        obtain ⟨ip, hip, hpz0, hpz1, hpz2⟩ := info_parts put_info
                        clear hc hP hLk hnl
                        go_wp2_with fail
                        generalize wr.alloc (.cells #[] 49) = w9 at *
                        obtain ⟨w8, hw8⟩ : ∃ w8, w8 = wr := ⟨_, rfl⟩
                        subst hw8
                        go_loopw [12, 13] (fun v c w2 => ∃ q : Nat, q ≤ nl ∧ c = .int .i64 (q : Int) ∧ w2.ownsRow w8.heap.size 49 3 v (flt p0.slot (L.take q)).length (pcells (flt p0.slot (L.take q))) ∧ Below w8.heap.size w8 w2) (fun _ c _ => nl - (intOf c).toNat)
                        case atStart => exact ⟨0, by omega, rfl, hown0, hbel0⟩
                        case round =>
                          obtain ⟨q, hq, rfl, hown, hbq⟩ := hrel
                          clear hown0 hbel0
                          have hbqs := hbq.size
                          have hBq := hBr.trans (hbq.mono hBrs)
                          have g0 := (hBq.cell (p := ⟨b, off + i, none⟩) hb).trans HC.out
                          by_cases hql : q < nl
                          · obtain ⟨b2, off2, p, ha2, hb2, hp2, hst2⟩ := HP.out.get (k := q) (by rw [← HNL.out]; exact hql)
                            have hst := hst2.block (hBq.block b2 hb2)
                            have g1 := hst.cs
                            have g2 := hst.cv
                            have g3 := hst.cg
                            have HP2 := Lib.hid hp2
                            subst ha2
                            clear hst2 hp2 hst
                            by_cases hps : p.slot = p0.slot
                            · have hown2 : wr.ownsRow w8.heap.size 49 3 u12 (flt p0.slot (L.take (q + 1))).length (pcells (flt p0.slot (L.take (q + 1)))) := by
                                rw [take_succ_of HP2.out, flt_no hps]
                                exact hown
                              have hbq' : (p.slot == p0.slot) = true := by simpa using hps
                              have HPS := Lib.hid hps
                              clear hown hps
                              go_wp2_with fail
                              go_roundw
                              case rel => exact ⟨q + 1, by omega, by go_num, hown2, hbq⟩
                              case measure => simp [intOf]; omega
                            · have hbq' : (p.slot == p0.slot) = false := by simpa using hps
                              have HA : Hid (pcells (flt p0.slot (L.take q)) ++ [.int .i64 p.slot, .string p.val, .bool p.gone] = pcells (flt p0.slot (L.take (q + 1)))) := Lib.hid (by rw [take_succ_of HP2.out, flt_yes hps, pcells_snoc])
                              have HA2 : Hid ((flt p0.slot (L.take q)).length + 1 = (flt p0.slot (L.take (q + 1))).length) := Lib.hid (by rw [take_succ_of HP2.out, flt_yes hps]; simp)
                              have hfl := flt_len p0.slot (L.take q)
                              have hfl2 : (L.take q).length ≤ q := by rw [List.length_take]; omega
                              have hLf2 := HLf.out
                              generalize (flt p0.slot (L.take q)).length = fl at *
                              generalize (L.take q).length = fk at *
                              clear hps
                              go_wp2_with (at_builtin; refine wpList_append_own _ rfl _ _ 24 rfl w8.heap.size 49 ip (.agg #[.int .i64 0, .string ByteArray.empty, .bool false]) 3 32 Try.underlying24 hip hpz0 hpz1 hpz2 rfl (by decide) _ _ _ rfl (hown.alloc _) ⟨wr.heap.size, 0, none⟩ 1 1 [.int .i64 p.slot, .string p.val, .bool p.gone] rfl rfl ?e1 ?e2 ?e3 ?e4 ?e5 ?_)
                              case e1 =>
                                have hn := Blk.new wr #[.int .i64 p.slot, .string p.val, .bool p.gone] 49
                                intro j u hj
                                have hj3 : j < 3 := (List.getElem?_eq_some_iff.1 hj).1
                                have e : (⟨wr.heap.size, 0, none⟩ : Addr).add j = ⟨wr.heap.size, j, none⟩ := by unfold Addr.add; split <;> simp_all
                                rw [e, hn.cell j]
                                simpa using hj
                              case e2 => intro u hu; simp at hu; rcases hu with rfl | rfl | rfl <;> rfl
                              case e3 => unfold maxLen; omega
                              case e4 => omega
                              case e5 => simp; omega
                              intro v' w2 hown' hgrow _
                              rw [HA.out, HA2.out] at hown'
                              have hbq2 := (hbq.alloc hbq.size (.cells #[.int .i64 p.slot, .string p.val, .bool p.gone] 49)).grown hgrow (by simp; omega) (fun k hk => (hown.lt k hk).1)
                              clear hown hbq hBq g0 g1 g2 g3 hgrow
                              go_wp2
                              go_roundw
                              case rel => exact ⟨q + 1, by omega, by go_num, hown', hbq2⟩
                              case measure => simp [intOf]; omega
                          · obtain rfl : q = nl := by omega
                            have hLt : L.take q = L := List.take_of_length_le (by rw [← HNL.out]; omega)
                            rw [hLt] at hown
                            obtain ⟨M, hM⟩ : ∃ M, M = flt p0.slot L := ⟨_, rfl⟩
                            rw [← hM] at hown
                            have HMf : Hid (∀ p ∈ M, p.slot ≠ p0.slot) := Lib.hid fun p hp => by rw [hM] at hp; exact (mem_flt hp).2
                            have hMl : M.length ≤ 9223372036854775807 := by rw [hM]; exact Nat.le_trans (flt_len _ _) (by rw [← HNL.out]; exact hlL)
                            have hsane : ∀ p ∈ M, i64ok p.slot ∧ p.val.size ≤ 9223372036854775807 := fun p hp => HP.out.sane p (by rw [hM] at hp; exact (mem_flt hp).1)
                            obtain ⟨am, capm, rfl, hPM⟩ := puts_of_row hown hMl hsane
                            have hD9 := hD.below hbq hD.lt
                            have hD9l := hD9.lt
                            clear hown hM hsane hLt hD hq hbq hip hpz0 hpz1 hpz2
                            obtain ⟨S3, hS3e⟩ : ∃ S3, S3 = wr.heap.size := ⟨_, rfl⟩
                            have hop3 := open_at B hS3e
                            have hS3a : wr.heap.size ≤ S3 := Nat.le_of_eq hS3e.symm
                            have HS3 := Lib.hid hS3e
                            have hBqs := hBq.size
                            have hql' : (q : Int) < (q : Int) ↔ False := by simp
                            clear hS3e hql'
                            go_wp2_with fail
                            refine hop3.mono ?_
                            rintro e w10 ⟨rfl, hS10, hb10, hs10⟩
                            clear hop3 g0
                            have hD10 := hD9.below hb10 hD9l
                            have hB10 := hBq.trans (hb10.mono hBqs)
                            have hset3 := set_done capm (hPM.below hb10 (Nat.le_refl _)) hS10 hD10 (by omega) hsn (by omega)
                            clear hD9 hPM hb10 hBq
                            go_wp2_with fail
                            refine hset3.mono ?_
                            rintro e w11 ⟨c3, D3, rfl, hD11, ho11, hdo3⟩
                            obtain ⟨-, hc3, hd3⟩ := hdo3.calm hDc hDd
                            have hkp := hdo3.keeps hj8 (fun p hp => by rw [← HJ0.out]; exact HMf.out p hp)
                            have HV3 : Hid (getv D3 j0 = newv p0) := Lib.hid (hkp.trans HV.out)
                            have hsn3 := hdo3.sane
                            have hB11 := hB10.trans (ho11.toB hB10.size hwB (by omega))
                            have hD11l := hD11.lt
                            clear hset3 hS10 hD10 ho11 hdo3 hkp hB10
                            obtain ⟨S4, hS4e⟩ : ∃ S4, S4 = w11.heap.size := ⟨_, rfl⟩
                            have hop4 := open_at B hS4e
                            have HS4 := Lib.hid hS4e
                            clear hS4e
                            go_wp2_with fail
                            refine hop4.mono ?_
                            rintro e w12 ⟨rfl, hS12, hb12, hs12⟩
                            clear hop4
                            have hD12 := hD11.below hb12 hD11l
                            have hB12 := hB11.trans (hb12.mono hB11.size)
                            have hg := get_in hS12 hD12 hsn3.small hj8
                            rw [HV3.out, ← HJ0.out] at hg
                            clear hb12 hB11 hD11
                            have hfin : Sane D3 (65 * (((i + 1 : Nat)) : Int) + 65) := by
                              have e : (65 * (((i + 1 : Nat)) : Int) + 65) = 65 * (i : Int) + 65 + 65 := by omega
                              rw [e]
                              exact hsn3
                            have hst0 := HST0.out
                            have HN : ∀ g : Bool, p0.gone = g → newv p0 = if g then none else some p0.val := by intro g hg; unfold newv; rw [hg]
                            have e0 : ByteArray.empty = (⟨#[]⟩ : ByteArray) := rfl
                            cases hgn : p0.gone
                            all_goals
                              have hnv := HN _ hgn
                              clear HN
                              simp only [Bool.false_eq_true, if_false, if_true] at hnv
                              rw [hnv] at hg
                              simp only [Option.getD_none, Option.getD_some, Option.isSome_none, Option.isSome_some] at hg
                              try rw [e0] at hg
                              clear e0
                              have HGN := Lib.hid hgn
                              have HNV := Lib.hid hnv
                              clear hgn hnv
                              go_wp2_with fail
                              refine hg.mono ?_
                              rintro e w13 ⟨rfl, hb13⟩
                              clear hg
                              have hD13 := hD12.below hb13 hD12.lt
                              have hB13 := hB12.trans (hb13.mono hB12.size)
                              have hst13 := hst0.block (hB13.block ba hba)
                              have t2 : w13.cell? ⟨ba, offa + 1, none⟩ = some (.string p0.val) := by simpa using hst13.cv
                              have t3 := hst13.cg
                              rw [HGN.out] at t3
                              simp only [Nat.zero_mul, Nat.add_zero] at t3
                              clear hst13 hb13 hB12 hD12 hS12
                              go_wp2_with fail
                              go_roundw
                              case rel => exact ⟨i + 1, D3, by omega, by go_num, hD13, hfin, hc3, hd3, HV3, hB13⟩
                              case measure => simp [intOf]; omega
                      · go_wp2_with fail
                        go_ret
                        exact ⟨rfl, hBr⟩
            · have hcb : (c0 == 0) = false := by simpa using hcz
              go_wp2_with fail
              go_ret
              exact ⟨rfl, hB3⟩
          · go_wp2_with fail
            go_ret
            exact ⟨rfl, hB⟩
        · go_wp2_with fail
          go_ret
          exact ⟨rfl, hB⟩
      · have h256 : ¬ len ≤ 256 := by omega
        clear hlt
        go_wp2_with fail
        refine hhv.mono ?_
        rintro e w1' ⟨bv, rfl, -, rfl⟩
        clear hhv
        cases bv
        · go_wp2_with fail
          go_ret
          exact ⟨rfl, hB⟩
        · go_wp2_with fail
          go_ret
          exact ⟨rfl, hB⟩
end Go.Proofs.Ytikaeblmjlfgcaa
