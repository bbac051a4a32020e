/- The document's check sum of longer bytes; by-name template (out of XWNum). -/
import Derived.Test.YtpmbdjdhgcjkfaaWNum
import Derived.Test.YtpmbdjdhgcjkfaaRows
import Derived.WalkKit
import Derived.WalkSpells
import Derived.LoopTactic
import Derived.Lib.Hide
import Derived.Below
import Derived.BigQuiet
import Derived.Outline
import Derived.Laws.Rows
import Derived.Deep.QuietTactic
import Derived.Laws.BitsLemmas
import Derived.Laws.Bits64b
import Derived.IntWalk
import Derived.Deep.DeepFit
namespace Go.Proofs.Ytpmbdjdhgcjkfaa
open Go.RowKit
set_option linter.unusedVariables false
set_option linter.unusedSimpArgs false

set_option maxHeartbeats 1000000 in
/-- The document's own check sum. -/
theorem rsum_big (g o c n : Nat) (l : List UInt8) (hn : l.length = n) (hm : n ≤ 70000) {w : World} (hb : Byt w g o l) :
    Calls Try.prog 16 #[.slice (some ⟨g, o, none⟩) n c] w fun e w' => e = .returned (.int .i64 (sumP l : Nat)) ∧ w = w' := by
  have HB := Lib.hid hb
  have HN := Lib.hid hn
  clear hb hn
  have hni : (n : Int) ≤ 70000 := by omega
  have hpre : ∀ k, 2 * k ≤ n → w16 (l.take (2 * k)) ≤ 65535 * (2 * k) := by
    intro k hk
    have := w16_le (l.take (2 * k))
    rw [List.length_take] at this
    have e := HN.out
    omega
  have hwl := w16_le l
  rw [HN.out] at hwl
  have HP := Lib.hid hpre
  clear hpre
  obtain ⟨R, hR⟩ : ∃ R, R = f16 (w16 l) := ⟨_, rfl⟩
  have es : sumP l = 65535 - R := by rw [hR]; rfl
  have hRle : R ≤ 65535 := by rw [hR]; exact f16_le _
  rw [es]
  have HR := Lib.hid hR
  clear hR es
  go_enter Try.func16, Try.ntmps16
  go_wp2
  go_loopw [3, 4] (fun v3 v4 wr => ∃ (k s : Nat), v3 = .int .i64 s ∧ v4 = .int .i64 ((2 * k : Nat) : Int) ∧ 2 * k ≤ n + 1 ∧ s ≤ 68719476736 ∧ wr = w ∧ Hid (s = w16 (l.take (2 * k)))) (fun _ v4 _ => n + 2 - (intOf v4).toNat)
  case atStart => exact ⟨0, 0, rfl, rfl, by omega, by omega, rfl, Lib.hid (by simp [w16])⟩
  case round =>
    obtain ⟨k, s, rfl, rfl, hk, hs, hw, hh⟩ := hrel
    subst hw
    have hsi : (s : Int) ≤ 68719476736 := by omega
    by_cases hlt : 2 * k < n
    · obtain ⟨x, hx⟩ : ∃ x, l[2 * k]? = some x := ⟨l[2 * k]'(by have := HN.out; omega), List.getElem?_eq_getElem _⟩
      have hcx := HB.out (2 * k) x hx
      have hx8 := x.toNat_lt
      have hps := HP.out k (by omega)
      rw [← hh.out] at hps
      by_cases h2 : 2 * k + 1 < n
      · obtain ⟨y, hy⟩ : ∃ y, l[2 * k + 1]? = some y := ⟨l[2 * k + 1]'(by have := HN.out; omega), List.getElem?_eq_getElem _⟩
        have hcy := HB.out (2 * k + 1) y hy
        have hy8 := y.toNat_lt
        have e1 := w16_take l k x y hx hy
        have H2 : Hid (s + x.toNat * 256 + y.toNat = w16 (l.take (2 * (k + 1)))) := Lib.hid (by rw [show 2 * (k + 1) = 2 * k + 2 by omega, e1, hh.out]; omega)
        clear hx hy e1 hh
        generalize x.toNat = X at hcx hx8 H2
        generalize y.toNat = Y at hcy hy8 H2
        obtain ⟨j, hj⟩ : ∃ j, j = 2 * k := ⟨_, rfl⟩
        have HJ := Lib.hid hj
        rw [← hj] at hcx hcy hps h2 hlt hk ⊢
        clear hj
        have hji : (j : Int) < (n : Int) := by omega
        have hji2 : (j : Int) + 1 < (n : Int) := by omega
        have hXi : (X : Int) < 256 := by omega
        have hYi : (Y : Int) < 256 := by omega
        go_wp2
        exact ⟨⟨k + 1, s + X * 256 + Y, by simp, by have := HJ.out; simp; omega, by have := HJ.out; omega, by omega, trivial, H2⟩, by simp [intOf]; omega⟩
      · have hnk : n = 2 * k + 1 := by omega
        have e1 := w16_last l k x (by have := HN.out; omega) hx
        have H2 : Hid (s + x.toNat * 256 = w16 (l.take (2 * (k + 1)))) := Lib.hid (by rw [List.take_of_length_le (by have := HN.out; omega), e1, hh.out])
        clear hx e1 hh
        generalize x.toNat = X at hcx hx8 H2
        obtain ⟨j, hj⟩ : ∃ j, j = 2 * k := ⟨_, rfl⟩
        have HJ := Lib.hid hj
        rw [← hj] at hcx hps h2 hlt hk ⊢
        have hjn : j + 1 = n := by omega
        clear hj hnk
        have hji : (j : Int) < (n : Int) := by omega
        have hji2 : decide ((j : Int) + 1 < (n : Int)) = false := by simp; omega
        have hXi : (X : Int) < 256 := by omega
        have HJN := Lib.hid hjn
        clear hjn
        go_wp2
        exact ⟨⟨k + 1, s + X * 256, by simp, by have := HJ.out; simp; omega, by have := HJ.out; omega, by omega, trivial, H2⟩, by simp [intOf]; have := HJN.out; omega⟩
    · have H2 : Hid (s = w16 l) := Lib.hid (by rw [hh.out, List.take_of_length_le (by have := HN.out; omega)])
      clear hh
      have hki : decide (((2 * k : Nat) : Int) < (n : Int)) = false := by simp; omega
      obtain ⟨j, hj⟩ : ∃ j, j = 2 * k := ⟨_, rfl⟩
      have hkn : decide (j < n) = false := by simp; omega
      rw [← hj] at hki ⊢
      clear hj
      go_wp2
      go_loopw [3] (fun v3 wq => ∃ u : Nat, v3 = .int .i64 u ∧ u ≤ 68719476736 ∧ wq = wr ∧ Hid (R = f16 u)) (fun v3 _ => (intOf v3).toNat)
      case atStart => exact ⟨s, rfl, hs, rfl, Lib.hid (by rw [HR.out, H2.out])⟩
      case round =>
        obtain ⟨u, rfl, hu, hw, hh⟩ := hrel
        subst hw
        have e := hh.out
        clear hh
        by_cases h : 65535 < u
        · have hi : (65535 : Int) < (u : Int) := by omega
          have hui : (u : Int) ≤ 68719476736 := by omega
          rw [f16, if_neg (by omega)] at e
          have H3 := Lib.hid e
          clear e
          go_wp2
          exact ⟨⟨u / 65536 + u % 65536, by simp, by omega, trivial, H3⟩, by simp [intOf]; omega⟩
        · have hi : decide ((65535 : Int) < (u : Int)) = false := by simp; omega
          rw [f16, if_pos (by omega)] at e
          have hui : (u : Int) ≤ 65535 := by omega
          have H3 := Lib.hid e
          clear e
          go_wp2
          go_ret
          exact ⟨ret_k (by have := H3.out; omega), rfl⟩

end Go.Proofs.Ytpmbdjdhgcjkfaa
