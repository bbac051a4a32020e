/- Numbers laid down as bytes: the document's put; by-name template. -/
import Derived.Test.YtpmbdjdhgcjkfaaWPut
namespace Go.Proofs.Ytpmbdjdhgcjkfaa
open Go.RowKit Go.Sort
set_option linter.unusedVariables false
set_option linter.unusedSimpArgs false

/-- A number's lowest 64 bits. -/
def lowN (n : Int) : Nat := (n % 18446744073709551616).toNat
theorem low_byte (n : Int) (k : Nat) (hk : k < 8) : ∀ x : Int, x = n / 256 ^ k → x % 256 = ((UInt8.ofNat (lowN n / 256 ^ k)).toNat : Int) := by
  intro x hx
  rw [UInt8.toNat_ofNat', show (2 : Nat) ^ 8 = 256 from rfl]
  unfold lowN
  subst hx
  match k, hk with
  | 0, _ => simp; omega
  | 1, _ => rw [show (256 : Int) ^ 1 = 256 by decide, show (256 : Nat) ^ 1 = 256 by decide]; omega
  | 2, _ => rw [show (256 : Int) ^ 2 = 65536 by decide, show (256 : Nat) ^ 2 = 65536 by decide]; omega
  | 3, _ => rw [show (256 : Int) ^ 3 = 16777216 by decide, show (256 : Nat) ^ 3 = 16777216 by decide]; omega
  | 4, _ => rw [show (256 : Int) ^ 4 = 4294967296 by decide, show (256 : Nat) ^ 4 = 4294967296 by decide]; omega
  | 5, _ => rw [show (256 : Int) ^ 5 = 1099511627776 by decide, show (256 : Nat) ^ 5 = 1099511627776 by decide]; omega
  | 6, _ => rw [show (256 : Int) ^ 6 = 281474976710656 by decide, show (256 : Nat) ^ 6 = 281474976710656 by decide]; omega
  | 7, _ => rw [show (256 : Int) ^ 7 = 72057594037927936 by decide, show (256 : Nat) ^ 7 = 72057594037927936 by decide]; omega
theorem shr_step (n : Int) (k : Nat) (x : Int) (h : x = n / 256 ^ k) : x / 256 = n / 256 ^ (k + 1) := by
  rw [h, Int.pow_succ, ← Int.ediv_ediv_of_nonneg (by exact Int.le_of_lt (Int.pow_pos (by omega)))]

set_option maxHeartbeats 2000000 in
set_option maxRecDepth 100000 in
theorem rput_any (g o c m : Nat) (n : Int) (hm : m ≤ 8) (hc : m ≤ c) (hcm : c ≤ 9223372036854775807) (hn : -9223372036854775808 ≤ n ∧ n < 9223372036854775808) {w : World} (hr : Room w g o m) :
    Calls Try.prog 42 #[.slice (some ⟨g, o, none⟩) m c, .int .i64 n] w fun e w' => e = .returned (.tuple #[]) ∧ Wrote w g o (beB m (lowN n)) w' := by
  have HR := Lib.hid hr
  have HN := Lib.hid hn
  clear hr hn
  have hmi : (m : Int) ≤ 8 := by omega
  go_enter Try.func42, Try.ntmps42
  go_wp2
  go_loopw [1, 4] (fun v1 v4 wr => ∃ (k : Nat) (x y : Int), v1 = .int .i64 x ∧ v4 = .int .i64 y ∧ y = (m : Int) - 1 - (k : Int) ∧ k ≤ m ∧ Hid (x = n / 256 ^ k ∧ -9223372036854775808 ≤ x ∧ x < 9223372036854775808) ∧ Wrote w g (o + (m - k)) (beB k (lowN n)) wr) (fun _ v4 _ => (intOf v4 + 1).toNat)
  case atStart => exact ⟨0, n, _, rfl, rfl, by omega, by omega, Lib.hid ⟨by simp, HN.out⟩, by rw [Nat.sub_zero]; exact Wrote.nil _ _ _⟩
  case round =>
    obtain ⟨k, x, y, rfl, rfl, hy, hk, hx, hW⟩ := hrel
    by_cases hlt : k < m
    · obtain ⟨⟨v, hv⟩, hf⟩ := HR.out (m - (k + 1)) (by omega)
      have hxo : o + (m - k) = o + (m - (k + 1)) + 1 := by omega
      rw [hxo] at hW
      have hcons := hW.cons (UInt8.ofNat (lowN n / 256 ^ k)) ⟨v, hv⟩
      have hv2 : wr.cell? ⟨g, o + (m - (k + 1)), none⟩ = some v := by rw [hW.out _ (by omega)]; exact hv
      have hf2 : wr.frozen? ⟨g, o + (m - (k + 1)), none⟩ = false := by rw [hW.frozen]; exact hf
      have hH : Hid (Wrote w g (o + (m - (k + 1))) (beB (k + 1) (lowN n)) (wr.setCell ⟨g, o + (m - (k + 1)), none⟩ (.int .u8 ((UInt8.ofNat (lowN n / 256 ^ k)).toNat : Nat)))) := Lib.hid hcons
      clear hcons hW hv hf hxo
      obtain ⟨X, hX⟩ : ∃ X, X = (UInt8.ofNat (lowN n / 256 ^ k)).toNat := ⟨_, rfl⟩
      have eX : IntKind.u8.wrap x = (X : Int) := by rw [hX, IntKind.wrap_u8, low_byte n k (by omega) x hx.out.1]
      rw [← hX] at hH
      obtain ⟨J, hJ⟩ : ∃ J, J = m - (k + 1) := ⟨_, rfl⟩
      have hyJ : y = (J : Int) := by omega
      subst hyJ
      have J0 : (J : Int) < (m : Int) := by omega
      have J1 : J < m := by omega
      have HY := Lib.hid hy
      rw [← hJ] at hH hv2 hf2
      have HJ := Lib.hid hJ
      have x0 := hx.out.2.1
      have x1 := hx.out.2.2
      have hs := Lib.hid (shr_step n k x hx.out.1)
      clear hX hJ hy
      go_wp2
      refine ⟨⟨k + 1, x / 256, (J : Int) - 1, rfl, rfl, by have := HY.out; omega, by omega, Lib.hid ⟨hs.out, by omega, by omega⟩, ?_⟩, by simp [intOf]⟩
      have h9 := hH.out; rw [HJ.out] at h9 ⊢; exact h9
    · have hkm : k = m := by omega
      have y0 : y < 0 := by omega
      have hki : decide (0 ≤ y) = false := by simp; omega
      have hH : Hid (Wrote w g o (beB m (lowN n)) wr) := Lib.hid (by rw [hkm, Nat.sub_self, Nat.add_zero] at hW; exact hW)
      clear hW hkm hy
      go_wp2
      simp [bodyPost, results, Try.results42, go_sem]
      exact hH.out
end Go.Proofs.Ytpmbdjdhgcjkfaa
