/- DiskLast's walk; by-name template. -/
import Derived.Test.YtgdbjlmlgnjpoaaSteps
namespace Go.Proofs.Ytgdbjlmlgnjpoaa
open Go.RowKit

/-- A disk on which nothing was ever ordered, after at most k writes. -/
structure Calm (D : DS) (k : Nat) : Prop where
  c : D.c = false
  d : D.d = false
  l : D.l = 0
  n0 : 0 ≤ D.n
  n1 : D.n ≤ k
  s : D.S.length = 160

theorem Calm.stuck {D : DS} {k : Nat} (h : Calm D k) : stuck D = false := by simp [Ytgdbjlmlgnjpoaa.stuck, h.c, h.d]
theorem Calm.spent {D : DS} {k : Nat} (h : Calm D k) : spent D = D := by simp [Ytgdbjlmlgnjpoaa.spent, h.c, h.d]
theorem calm0 : Calm D0 0 := ⟨rfl, rfl, rfl, by decide, by decide, rfl⟩
theorem Calm.wst {D : DS} {k : Nat} (h : Calm D k) (i : Int) (s : ByteArray) : Calm (wst D i s) (k + 1) := by
  have n0 := h.n0
  have n1 := h.n1
  unfold Ytgdbjlmlgnjpoaa.wst
  rw [h.stuck, h.spent]
  split
  · exact ⟨h.c, h.d, h.l, h.n0, by omega, h.s⟩
  · split
    · exact ⟨h.c, h.d, h.l, h.n0, by omega, h.s⟩
    · exact ⟨h.c, h.d, h.l, by simp; omega, by simp; omega, by simp [h.s]⟩
theorem Calm.res {D : DS} {k : Nat} (h : Calm D k) {i : Int} {s : ByteArray} (h0 : 0 ≤ i) (h1 : i < 160) (hs : s.size ≤ 512) : wres D i s = 0 := by
  simp [wres, inSec_yes h0 h1, h.stuck, Nat.not_lt.2 hs]
theorem Calm.hit {D : DS} {k : Nat} (h : Calm D k) {j : Nat} (hj : j < 160) {s : ByteArray} (hs : s.size ≤ 512) : (Ytgdbjlmlgnjpoaa.wst D (j : Int) s).S.getD j ByteArray.empty = s := by
  simp [Ytgdbjlmlgnjpoaa.wst, inSec_yes (i := (j : Int)) (by omega) (by omega), h.stuck, h.spent, Nat.not_lt.2 hs, h.s, hj]
theorem Calm.big {D : DS} {i : Int} {s : ByteArray} (hs : 512 < s.size) : Ytgdbjlmlgnjpoaa.wst D i s = D := by
  simp [Ytgdbjlmlgnjpoaa.wst, hs]
theorem Calm.miss {D : DS} {k : Nat} (h : Calm D k) {j : Nat} {i : Int} (hij : i ≠ j) (s : ByteArray) : (Ytgdbjlmlgnjpoaa.wst D i s).S.getD j ByteArray.empty = D.S.getD j ByteArray.empty := by
  unfold Ytgdbjlmlgnjpoaa.wst
  rw [h.stuck, h.spent]
  split
  · rfl
  · rename_i hi
    split
    · rfl
    · have := (inSec_iff (i := i)).1 (by simpa using hi)
      have hne : i.toNat ≠ j := by omega
      simp [hne]

theorem D0_get (j : Nat) : D0.S.getD j ByteArray.empty = ByteArray.empty := by
  show (List.replicate 160 ByteArray.empty).getD j _ = _
  rw [List.getD_eq_getElem?_getD, List.getElem?_replicate]
  split <;> rfl

theorem slot_of (i : Int) : ∃ j : Nat, (wrap64 (i.tmod 160 + 160)).tmod 160 = (j : Int) ∧ j < 160 := by
  have a := Int.tmod_lt_of_pos i (b := 160) (by decide)
  have b : -160 < i.tmod 160 := by
    have := Int.lt_tmod_of_pos i (b := 160) (by decide)
    omega
  have e : wrap64 (i.tmod 160 + 160) = i.tmod 160 + 160 := by unfold wrap64; omega
  rw [e, Int.tmod_eq_emod_of_nonneg (by omega)]
  exact ⟨((i.tmod 160 + 160) % 160).toNat, by omega, by omega⟩

set_option maxHeartbeats 1000000 in
theorem last_walk {a : Option Addr} {L : List Stp} (cap : Nat) (i : Int) {w : World} (h : StepsAt w a L) :
    Calls Try.prog 7 #[.slice a L.length cap, .int .i64 i] w fun e w' => e = .returned (.bool true) ∧ Below w.heap.size w w' := by
  have hhv := heavy_any cap h
  have hl := h.1
  have hnew := new_any w
  have HS := Lib.hid h
  clear h
  generalize hlen : L.length = len at *
  have HL := Lib.hid hlen
  clear hlen
  go_enter Try.func7, Try.ntmps7
  go_wp2_with fail
  refine hhv.mono ?_
  rintro e w' ⟨bv, rfl, hb, rfl⟩
  cases bv
  · have hlen := hb rfl
    clear hb hhv
    go_wp2_with (go_at_call 9; refine hnew.mono ?_; rintro e w1 ⟨rfl, hd1, hb1, hs1⟩)
    obtain ⟨j, hj, hj1⟩ := slot_of i
    rw [hj]
    have Hj := Lib.hid hj
    clear hj
    have HS1 := Lib.hid (HS.out.below hb1 (Nat.le_refl _))
    obtain ⟨B, hBe⟩ : ∃ B, B = w.heap.size := ⟨_, rfl⟩
    rw [← hBe] at hd1 hb1 hs1 ⊢
    have hB : w.heap.size ≤ B := Nat.le_of_eq hBe.symm
    have HB := Lib.hid hBe
    clear hBe hnew
    go_loopw [6, 7] (fun v c wr => ∃ (k : Nat) (D : DS), k ≤ len ∧ c = .int .i64 (k : Int) ∧ (∃ t, v = .string t ∧ Hid (D.S.getD j ByteArray.empty = t)) ∧ DiskAt wr B D ∧ Calm D k ∧ Below B w wr ∧ B < wr.heap.size) (fun _ c _ => len - (intOf c).toNat)
    case atStart => exact ⟨0, D0, by omega, rfl, ⟨_, rfl, D0_get j⟩, hd1, calm0, hb1, hs1⟩
    case round =>
      obtain ⟨k, D, hk, rfl, ⟨t, rfl, HT⟩, hd, hc, hbel, hBs⟩ := hrel
      have hn0 := hc.n0
      have hn1 := hc.n1
      by_cases hlt : k < len
      · obtain ⟨b, off, s, ha, hbb, _, hst0⟩ := HS.out.get (k := k) (by rw [HL.out]; exact hlt)
        have hst := hst0.block (hbel.block b (by omega))
        have hbB : b ≠ B := by omega
        have hbr : b < wr.drew.heap.size := by show b < wr.heap.size; omega
        have g1 := hst.cn
        have g2 := hst.ct
        have hw := hst.wt
        subst ha
        have hcall := write_any (w := wr.drew) hd.drew (by rw [hc.l]; decide) (by rw [hc.l]; decide) hc.n0 (by omega) s.n s.text
        clear hst0
        have HST := Lib.hid hst
        clear hst
        have hres : ∀ r : Int, (wres D s.n s.text = r) → Calls Try.prog 12 #[.pointer (some ⟨B, 0, none⟩), .int .i64 s.n, .string s.text] wr.drew fun e w' => e = .returned (.int .i64 r) ∧ DiskAt w' B (wst D s.n s.text) ∧ Off B wr.drew w' := by
          rintro r rfl
          exact hcall
        have hcw := hc.wst s.n s.text
        clear hcall
        by_cases hij : s.n = j
        · by_cases hsz : s.text.size ≤ 512
          · have hr := hres 0 (hc.res (by omega) (by omega) hsz)
            have HT2 : Hid ((wst D s.n s.text).S.getD j ByteArray.empty = s.text) := by rw [hij]; exact hc.hit hj1 hsz
            have hbq : (s.n == (j : Int)) = true := by simpa using hij
            have HIJ := Lib.hid hij
            clear hij hres
            go_wp2_with fail
            go_still_tail 11, (by kernel_rfl)
            change wpList _ _ _ _ _ wr.drew
            go_wp2_with (go_at_call 12; refine hr.mono ?_; rintro e w2 ⟨rfl, hd2, ho2⟩; have hst2 := HST.out.block (ho2.block b hbr hbB); have g3 := hst2.cn; have g4 := hst2.ct)
            go_roundw
            case rel => exact ⟨k + 1, _, by omega, by go_num, ⟨_, rfl, HT2⟩, hd2, hcw, hbel.drew.trans (ho2.toBelow (by show B ≤ wr.heap.size; omega)), Nat.lt_of_lt_of_le hBs ho2.size⟩
            case measure => simp [intOf]; omega
          · obtain ⟨r, hre⟩ : ∃ r, wres D s.n s.text = r := ⟨_, rfl⟩
            have hr := hres r hre
            have HT2 : Hid ((wst D s.n s.text).S.getD j ByteArray.empty = t) := by rw [Calm.big (by omega)]; exact HT
            have hbq : (s.n == (j : Int)) = true := by simpa using hij
            have HIJ := Lib.hid hij
            clear hij hres hre
            go_wp2_with fail
            go_still_tail 11, (by kernel_rfl)
            change wpList _ _ _ _ _ wr.drew
            go_wp2_with (go_at_call 12; refine hr.mono ?_; rintro e w2 ⟨rfl, hd2, ho2⟩; have hst2 := HST.out.block (ho2.block b hbr hbB); have g3 := hst2.cn; have g4 := hst2.ct)
            go_roundw
            case rel => exact ⟨k + 1, _, by omega, by go_num, ⟨_, rfl, HT2⟩, hd2, hcw, hbel.drew.trans (ho2.toBelow (by show B ≤ wr.heap.size; omega)), Nat.lt_of_lt_of_le hBs ho2.size⟩
            case measure => simp [intOf]; omega
        · obtain ⟨r, hre⟩ : ∃ r, wres D s.n s.text = r := ⟨_, rfl⟩
          have hr := hres r hre
          have HT2 : Hid ((wst D s.n s.text).S.getD j ByteArray.empty = t) := by rw [hc.miss hij]; exact HT
          have hbq : (s.n == (j : Int)) = false := by simpa using hij
          have HIJ := Lib.hid hij
          clear hij hres hre
          go_wp2_with fail
          go_still_tail 11, (by kernel_rfl)
          change wpList _ _ _ _ _ wr.drew
          go_wp2_with (go_at_call 12; refine hr.mono ?_; rintro e w2 ⟨rfl, hd2, ho2⟩; have hst2 := HST.out.block (ho2.block b hbr hbB); have g3 := hst2.cn; have g4 := hst2.ct)
          go_roundw
          case rel => exact ⟨k + 1, _, by omega, by go_num, ⟨_, rfl, HT2⟩, hd2, hcw, hbel.drew.trans (ho2.toBelow (by show B ≤ wr.heap.size; omega)), Nat.lt_of_lt_of_le hBs ho2.size⟩
          case measure => simp [intOf]; omega
      · have hre := read_at hd hj1
        rw [HT.out] at hre
        go_wp2_with (first
          | (go_at_call_of 14 (Value.int .i64 (j : Int)); refine hre.mono ?_; rintro e w2 ⟨rfl, rfl⟩)
          | (go_at_call 14; refine (read_no (by decide) _ _).mono ?_; rintro e w2 ⟨rfl, rfl⟩))
        go_ret
        exact ⟨rfl, hbel.mono hB⟩
  · go_wp2_with fail
    go_ret
    exact ⟨rfl, Below.refl _ _⟩
end Go.Proofs.Ytgdbjlmlgnjpoaa
