/- Of how many bits a range is a prefix, if it is one: just so many; the one text of a range. By-name template. -/
import Derived.Test.YtmnnjkdmnfadhaaGreatDoorARngA
import Derived.Laws.Bits64
namespace Go.Proofs.YtmnnjkdmnfadhaaGreatDoor
open Go.RowKit
set_option linter.unusedVariables false
set_option linter.unusedSimpArgs false

theorem xor_low (q j r : Nat) (hr : r < 2 ^ j) : (2 ^ j * q) ^^^ (2 ^ j * q + r) = r := by
  apply Nat.eq_of_testBit_eq
  intro i
  rw [Nat.testBit_xor, Nat.testBit_two_pow_mul_add _ hr, Nat.testBit_two_pow_mul]
  by_cases h : i < j
  · have hd : decide (j ≤ i) = false := by simp; omega
    simp [h, hd]
  · have hz : r.testBit i = false := Nat.testBit_lt_two_pow (Nat.lt_of_lt_of_le hr (Nat.pow_le_pow_right (by omega) (by omega)))
    have hd : j ≤ i := by omega
    simp [h, hz, hd]
theorem bitLen_ones : ∀ j, j < 65 → Lib.bitLen (2 ^ j - 1) = j := by decide +kernel
theorem xorU (x j : Nat) (hj : j ≤ 64) (hx : x < 18446744073709551616) (hm : (x : Int) % ((2 ^ j : Nat) : Int) = 0) (hy : x + (2 ^ j - 1) < 18446744073709551616) : bits .xor .u64 (x : Int) ((x + (2 ^ j - 1) : Nat) : Int) = ((2 ^ j - 1 : Nat) : Int) := by
  have hp : 0 < 2 ^ j := Nat.two_pow_pos j
  obtain ⟨q, hq⟩ : ∃ q, x = 2 ^ j * q := ⟨x / 2 ^ j, by have : x % 2 ^ j = 0 := by omega
                                                        have := Nat.div_add_mod x (2 ^ j); omega⟩
  rw [bits_xor_u64_nat x _ hx hy, hq, xor_low q j _ (by omega)]
theorem pre_exact (fh fl th tl : Nat) (h0 : fh < 18446744073709551616) (h1 : fl < 18446744073709551616) (h2 : th < 18446744073709551616) (h3 : tl < 18446744073709551616) (m : Int) (h : preV (fh : Int) fl m = some ((th : Int), (tl : Int))) :
    m = commonV fh fl th tl - (ahead fh fl : Int) := by
  unfold preV at h
  split at h
  · cases h
  · rename_i hm
    split at h
    · rename_i hd
      simp only [Option.some.injEq, Prod.mk.injEq] at h
      obtain ⟨k, hk⟩ : ∃ k, k = ahead fh fl + m.toNat := ⟨_, rfl⟩
      rw [← hk] at h hd
      have hk128 : k ≤ 128 := by omega
      have p1 := phi_pos k
      have p2 := plo_pos k
      have e1 : th = fh + (phi k - 1) := by omega
      have e2 : tl = fl + (plo k - 1) := by omega
      have x1 : bits .xor .u64 (fh : Int) (th : Int) = ((phi k - 1 : Nat) : Int) := by rw [e1]; exact xorU fh (64 - k) (by omega) h0 (by simpa [phi] using hd.1) (by simpa [phi] using (e1 ▸ h2))
      have x2 : bits .xor .u64 (fl : Int) (tl : Int) = ((plo k - 1 : Nat) : Int) := by rw [e2]; exact xorU fl (64 - (k - 64)) (by omega) h1 (by simpa [plo] using hd.2) (by simpa [plo] using (e2 ▸ h3))
      unfold commonV
      rw [x1, x2]
      by_cases hk6 : 64 ≤ k
      · have hp : phi k = 1 := by unfold phi; rw [show 64 - k = 0 by omega]
        have hb := bitLen_ones (64 - (k - 64)) (by omega)
        rw [hp, if_pos (by simp), show ((plo k - 1 : Nat) : Int).toNat = 2 ^ (64 - (k - 64)) - 1 by unfold plo; omega, hb]
        omega
      · have hb := bitLen_ones (64 - k) (by omega)
        have hp : 2 ≤ phi k := by
          unfold phi
          calc 2 = 2 ^ 1 := rfl
            _ ≤ 2 ^ (64 - k) := Nat.pow_le_pow_right (by omega) (by omega)
        rw [if_neg (by omega), show ((phi k - 1 : Nat) : Int).toNat = 2 ^ (64 - k) - 1 by unfold phi; omega, hb]
        omega
    · cases h
end Go.Proofs.YtmnnjkdmnfadhaaGreatDoor
