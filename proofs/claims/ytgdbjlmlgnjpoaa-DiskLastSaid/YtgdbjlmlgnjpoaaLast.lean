/- DiskLast's walk; by-name template. -/
import Derived.Test.YtgdbjlmlgnjpoaaSteps
namespace Go.Proofs.Ytgdbjlmlgnjpoaa
open Go.RowKit

theorem slot_of (i : Int) : ∃ j : Nat, (wrap64 (i.tmod 160 + 160)).tmod 160 = (j : Int) ∧ j < 160 := by
  have a := Int.tmod_lt_of_pos i (b := 160) (by decide)
  have b : -160 < i.tmod 160 := by
    have := Int.lt_tmod_of_pos i (b := 160) (by decide)
    omega
  have e : wrap64 (i.tmod 160 + 160) = i.tmod 160 + 160 := by unfold wrap64; omega
  rw [e, Int.tmod_eq_emod_of_nonneg (by omega)]
  exact ⟨((i.tmod 160 + 160) % 160).toNat, by omega, by omega⟩

set_option maxHeartbeats 1000000 in
theorem last_walk {a : Option Addr} {L : List Stp} (cap : Nat) (i : Int) {w : World} (h : StepsAt w a L) :
    Calls Try.prog 7 #[.slice a L.length cap, .int .i64 i] w fun e w' => e = .returned (.bool true) ∧ Below w.heap.size w w' := by
  have hhv := heavy_any cap h
  have hl := h.1
  have hnew := new_any w
  have HS := Lib.hid h
  clear h
  generalize hlen : L.length = len at *
  have HL := Lib.hid hlen
  clear hlen
  go_enter Try.func7, Try.ntmps7
  go_wp2_with fail
  refine hhv.mono ?_
  rintro e w' ⟨bv, rfl, hb, rfl⟩
  cases bv
  · have hlen := hb rfl
    clear hb hhv
    go_wp2_with (go_at_call 9; refine hnew.mono ?_; rintro e w1 ⟨rfl, hd1, hb1, hs1⟩)
    obtain ⟨j, hj, hj1⟩ := slot_of i
    rw [hj]
    have Hj := Lib.hid hj
    clear hj
    have HS1 := Lib.hid (HS.out.below hb1 (Nat.le_refl _))
    obtain ⟨B, hBe⟩ : ∃ B, B = w.heap.size := ⟨_, rfl⟩
    rw [← hBe] at hd1 hb1 hs1 ⊢
    have hB : w.heap.size ≤ B := Nat.le_of_eq hBe.symm
    have HB := Lib.hid hBe
    clear hBe hnew
    go_loopw [6, 7] (fun v c wr => ∃ (k : Nat) (D : DS), k ≤ len ∧ c = .int .i64 (k : Int) ∧ (∃ t, v = .string t ∧ Hid (D.S.getD j ByteArray.empty = t)) ∧ DiskAt wr B D ∧ Calm D k ∧ Below B w wr ∧ B < wr.heap.size) (fun _ c _ => len - (intOf c).toNat)
    case atStart => exact ⟨0, D0, by omega, rfl, ⟨_, rfl, D0_get j⟩, hd1, calm0, hb1, hs1⟩
    case round =>
      obtain ⟨k, D, hk, rfl, ⟨t, rfl, HT⟩, hd, hc, hbel, hBs⟩ := hrel
      have hn0 := hc.n0
      have hn1 := hc.n1
      by_cases hlt : k < len
      · obtain ⟨b, off, s, ha, hbb, _, hst0⟩ := HS.out.get (k := k) (by rw [HL.out]; exact hlt)
        have hst := hst0.block (hbel.block b (by omega))
        have hbB : b ≠ B := by omega
        have hbr : b < wr.drew.heap.size := by show b < wr.heap.size; omega
        have g1 := hst.cn
        have g2 := hst.ct
        have hw := hst.wt
        subst ha
        have hcall := write_any (w := wr.drew) hd.drew hc.l0 hc.l1 hc.n0 (by omega) s.n s.text
        clear hst0
        have HST := Lib.hid hst
        clear hst
        have hres : ∀ r : Int, (wres D s.n s.text = r) → Calls Try.prog 12 #[.pointer (some ⟨B, 0, none⟩), .int .i64 s.n, .string s.text] wr.drew fun e w' => e = .returned (.int .i64 r) ∧ DiskAt w' B (wst D s.n s.text) ∧ Off B wr.drew w' := by
          rintro r rfl
          exact hcall
        have hcw := hc.wst s.n s.text
        clear hcall
        by_cases hij : s.n = j
        · by_cases hsz : s.text.size ≤ 512
          · have hr := hres 0 (hc.res (by omega) (by omega) hsz)
            have HT2 : Hid ((wst D s.n s.text).S.getD j ByteArray.empty = s.text) := by rw [hij]; exact hc.hit hj1 hsz
            have hbq : (s.n == (j : Int)) = true := by simpa using hij
            have HIJ := Lib.hid hij
            clear hij hres
            go_wp2_with fail
            go_still_tail 11, (by kernel_rfl)
            change wpList _ _ _ _ _ wr.drew
            go_wp2_with (go_at_call 12; refine hr.mono ?_; rintro e w2 ⟨rfl, hd2, ho2⟩; have hst2 := HST.out.block (ho2.block b hbr hbB); have g3 := hst2.cn; have g4 := hst2.ct)
            go_roundw
            case rel => exact ⟨k + 1, _, by omega, by go_num, ⟨_, rfl, HT2⟩, hd2, hcw, hbel.drew.trans (ho2.toBelow (by show B ≤ wr.heap.size; omega)), Nat.lt_of_lt_of_le hBs ho2.size⟩
            case measure => simp [intOf]; omega
          · obtain ⟨r, hre⟩ : ∃ r, wres D s.n s.text = r := ⟨_, rfl⟩
            have hr := hres r hre
            have HT2 : Hid ((wst D s.n s.text).S.getD j ByteArray.empty = t) := by rw [Calm.big (by omega)]; exact HT
            have hbq : (s.n == (j : Int)) = true := by simpa using hij
            have HIJ := Lib.hid hij
            clear hij hres hre
            go_wp2_with fail
            go_still_tail 11, (by kernel_rfl)
            change wpList _ _ _ _ _ wr.drew
            go_wp2_with (go_at_call 12; refine hr.mono ?_; rintro e w2 ⟨rfl, hd2, ho2⟩; have hst2 := HST.out.block (ho2.block b hbr hbB); have g3 := hst2.cn; have g4 := hst2.ct)
            go_roundw
            case rel => exact ⟨k + 1, _, by omega, by go_num, ⟨_, rfl, HT2⟩, hd2, hcw, hbel.drew.trans (ho2.toBelow (by show B ≤ wr.heap.size; omega)), Nat.lt_of_lt_of_le hBs ho2.size⟩
            case measure => simp [intOf]; omega
        · obtain ⟨r, hre⟩ : ∃ r, wres D s.n s.text = r := ⟨_, rfl⟩
          have hr := hres r hre
          have HT2 : Hid ((wst D s.n s.text).S.getD j ByteArray.empty = t) := by rw [hc.miss hij]; exact HT
          have hbq : (s.n == (j : Int)) = false := by simpa using hij
          have HIJ := Lib.hid hij
          clear hij hres hre
          go_wp2_with fail
          go_still_tail 11, (by kernel_rfl)
          change wpList _ _ _ _ _ wr.drew
          go_wp2_with (go_at_call 12; refine hr.mono ?_; rintro e w2 ⟨rfl, hd2, ho2⟩; have hst2 := HST.out.block (ho2.block b hbr hbB); have g3 := hst2.cn; have g4 := hst2.ct)
          go_roundw
          case rel => exact ⟨k + 1, _, by omega, by go_num, ⟨_, rfl, HT2⟩, hd2, hcw, hbel.drew.trans (ho2.toBelow (by show B ≤ wr.heap.size; omega)), Nat.lt_of_lt_of_le hBs ho2.size⟩
          case measure => simp [intOf]; omega
      · have hre := read_at hd hj1
        rw [HT.out] at hre
        go_wp2_with (first
          | (go_at_call_of 14 (Value.int .i64 (j : Int)); refine hre.mono ?_; rintro e w2 ⟨rfl, rfl⟩)
          | (go_at_call 14; refine (read_no (by decide) _ _).mono ?_; rintro e w2 ⟨rfl, rfl⟩))
        go_ret
        exact ⟨rfl, hbel.mono hB⟩
  · go_wp2_with fail
    go_ret
    exact ⟨rfl, Below.refl _ _⟩
end Go.Proofs.Ytgdbjlmlgnjpoaa
