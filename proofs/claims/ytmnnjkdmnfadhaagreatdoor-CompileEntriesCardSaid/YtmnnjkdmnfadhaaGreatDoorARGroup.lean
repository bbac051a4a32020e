/- The document's own groups; by-name template. -/
import Derived.Test.YtmnnjkdmnfadhaaGreatDoorARDigs
namespace Go.Proofs.YtmnnjkdmnfadhaaGreatDoor
open Go.RowKit
set_option linter.unusedVariables false
set_option linter.unusedSimpArgs false

theorem andFFFF (u : Int) (h0 : 0 ≤ u) (h1 : u < 18446744073709551616) : bits .and .u64 u 65535 = u % 65536 := by
  have := bits_mask .u64 64 (Nat.le_refl _) (fun n h0 h1 => by rw [IntKind.wrap_u64]; omega) 16 (by omega) u h0 (by simpa using h1)
  simpa using this

set_option maxHeartbeats 2000000 in
set_option maxRecDepth 100000 in
theorem rgroup_ex (a b : Nat) (ha : a < 18446744073709551616) (hb : b < 18446744073709551616) (i : Nat) (hi : i < 8) (w : World) : Calls Tryz.prog 156 #[.agg #[.int .u64 (a : Nat), .int .u64 (b : Nat)], .int .i64 (i : Nat)] w fun e w' => e = .returned (.int .i64 ((gsN a b).getD i 0 : Nat)) ∧ w' = w.alloc (.cells #[.int .u64 (a : Nat), .int .u64 (b : Nat)] 36) := by
  have hai : (a : Int) < 18446744073709551616 := by omega
  have hbi : (b : Int) < 18446744073709551616 := by omega
  have hc : i = 0 ∨ i = 1 ∨ i = 2 ∨ i = 3 ∨ i = 4 ∨ i = 5 ∨ i = 6 ∨ i = 7 := by omega
  clear hi
  rcases hc with rfl | rfl | rfl | rfl | rfl | rfl | rfl | rfl
  · have e1 : (gsN a b).getD 0 0 = a / 281474976710656 % 65536 := rfl
    rw [e1]
    have m1 := andFFFF ((a : Int) / 281474976710656) (by omega) (by omega)
    have m2 : (a : Int) / 281474976710656 % 65536 = ((a / 281474976710656 % 65536 : Nat) : Int) := by omega
    have m3 := andFFFF ((a : Int)) (by omega) (by omega)
    have m4 : bits .and .u64 ((a : Int) / 281474976710656) 65535 = ((a / 281474976710656 % 65536 : Nat) : Int) := by rw [m1, m2]
    obtain ⟨G, hG⟩ : ∃ G, G = a / 281474976710656 % 65536 := ⟨_, rfl⟩
    have hGl : G < 65536 := by omega
    rw [← hG] at m4 ⊢
    skip
    clear m1 m2 m3 hG e1
    have hGi : (G : Int) < 65536 := by omega
    go_enter Tryz.func156, Tryz.ntmps156
    go_wp2
    go_ret
    exact ⟨rfl, rfl⟩
  · have e1 : (gsN a b).getD 1 0 = a / 4294967296 % 65536 := rfl
    rw [e1]
    have m1 := andFFFF ((a : Int) / 4294967296) (by omega) (by omega)
    have m2 : (a : Int) / 4294967296 % 65536 = ((a / 4294967296 % 65536 : Nat) : Int) := by omega
    have m3 := andFFFF ((a : Int)) (by omega) (by omega)
    have m4 : bits .and .u64 ((a : Int) / 4294967296) 65535 = ((a / 4294967296 % 65536 : Nat) : Int) := by rw [m1, m2]
    obtain ⟨G, hG⟩ : ∃ G, G = a / 4294967296 % 65536 := ⟨_, rfl⟩
    have hGl : G < 65536 := by omega
    rw [← hG] at m4 ⊢
    skip
    clear m1 m2 m3 hG e1
    have hGi : (G : Int) < 65536 := by omega
    go_enter Tryz.func156, Tryz.ntmps156
    go_wp2
    go_ret
    exact ⟨rfl, rfl⟩
  · have e1 : (gsN a b).getD 2 0 = a / 65536 % 65536 := rfl
    rw [e1]
    have m1 := andFFFF ((a : Int) / 65536) (by omega) (by omega)
    have m2 : (a : Int) / 65536 % 65536 = ((a / 65536 % 65536 : Nat) : Int) := by omega
    have m3 := andFFFF ((a : Int)) (by omega) (by omega)
    have m4 : bits .and .u64 ((a : Int) / 65536) 65535 = ((a / 65536 % 65536 : Nat) : Int) := by rw [m1, m2]
    obtain ⟨G, hG⟩ : ∃ G, G = a / 65536 % 65536 := ⟨_, rfl⟩
    have hGl : G < 65536 := by omega
    rw [← hG] at m4 ⊢
    skip
    clear m1 m2 m3 hG e1
    have hGi : (G : Int) < 65536 := by omega
    go_enter Tryz.func156, Tryz.ntmps156
    go_wp2
    go_ret
    exact ⟨rfl, rfl⟩
  · have e1 : (gsN a b).getD 3 0 = a % 65536 := rfl
    rw [e1]
    have m1 := andFFFF ((a : Int) / 1) (by omega) (by omega)
    have m2 : (a : Int) / 1 % 65536 = ((a % 65536 : Nat) : Int) := by omega
    have m3 := andFFFF ((a : Int)) (by omega) (by omega)
    have m4 : bits .and .u64 ((a : Int) / 1) 65535 = ((a % 65536 : Nat) : Int) := by rw [m1, m2]
    obtain ⟨G, hG⟩ : ∃ G, G = a % 65536 := ⟨_, rfl⟩
    have hGl : G < 65536 := by omega
    rw [← hG] at m4 ⊢
    have m5 : bits .and .u64 (a : Int) 65535 = (G : Int) := by rw [m3]; omega
    clear m1 m2 m3 hG e1
    have hGi : (G : Int) < 65536 := by omega
    go_enter Tryz.func156, Tryz.ntmps156
    go_wp2
    go_ret
    exact ⟨rfl, rfl⟩
  · have e1 : (gsN a b).getD 4 0 = b / 281474976710656 % 65536 := rfl
    rw [e1]
    have m1 := andFFFF ((b : Int) / 281474976710656) (by omega) (by omega)
    have m2 : (b : Int) / 281474976710656 % 65536 = ((b / 281474976710656 % 65536 : Nat) : Int) := by omega
    have m3 := andFFFF ((b : Int)) (by omega) (by omega)
    have m4 : bits .and .u64 ((b : Int) / 281474976710656) 65535 = ((b / 281474976710656 % 65536 : Nat) : Int) := by rw [m1, m2]
    obtain ⟨G, hG⟩ : ∃ G, G = b / 281474976710656 % 65536 := ⟨_, rfl⟩
    have hGl : G < 65536 := by omega
    rw [← hG] at m4 ⊢
    skip
    clear m1 m2 m3 hG e1
    have hGi : (G : Int) < 65536 := by omega
    go_enter Tryz.func156, Tryz.ntmps156
    go_wp2
    go_ret
    exact ⟨rfl, rfl⟩
  · have e1 : (gsN a b).getD 5 0 = b / 4294967296 % 65536 := rfl
    rw [e1]
    have m1 := andFFFF ((b : Int) / 4294967296) (by omega) (by omega)
    have m2 : (b : Int) / 4294967296 % 65536 = ((b / 4294967296 % 65536 : Nat) : Int) := by omega
    have m3 := andFFFF ((b : Int)) (by omega) (by omega)
    have m4 : bits .and .u64 ((b : Int) / 4294967296) 65535 = ((b / 4294967296 % 65536 : Nat) : Int) := by rw [m1, m2]
    obtain ⟨G, hG⟩ : ∃ G, G = b / 4294967296 % 65536 := ⟨_, rfl⟩
    have hGl : G < 65536 := by omega
    rw [← hG] at m4 ⊢
    skip
    clear m1 m2 m3 hG e1
    have hGi : (G : Int) < 65536 := by omega
    go_enter Tryz.func156, Tryz.ntmps156
    go_wp2
    go_ret
    exact ⟨rfl, rfl⟩
  · have e1 : (gsN a b).getD 6 0 = b / 65536 % 65536 := rfl
    rw [e1]
    have m1 := andFFFF ((b : Int) / 65536) (by omega) (by omega)
    have m2 : (b : Int) / 65536 % 65536 = ((b / 65536 % 65536 : Nat) : Int) := by omega
    have m3 := andFFFF ((b : Int)) (by omega) (by omega)
    have m4 : bits .and .u64 ((b : Int) / 65536) 65535 = ((b / 65536 % 65536 : Nat) : Int) := by rw [m1, m2]
    obtain ⟨G, hG⟩ : ∃ G, G = b / 65536 % 65536 := ⟨_, rfl⟩
    have hGl : G < 65536 := by omega
    rw [← hG] at m4 ⊢
    skip
    clear m1 m2 m3 hG e1
    have hGi : (G : Int) < 65536 := by omega
    go_enter Tryz.func156, Tryz.ntmps156
    go_wp2
    go_ret
    exact ⟨rfl, rfl⟩
  · have e1 : (gsN a b).getD 7 0 = b % 65536 := rfl
    rw [e1]
    have m1 := andFFFF ((b : Int) / 1) (by omega) (by omega)
    have m2 : (b : Int) / 1 % 65536 = ((b % 65536 : Nat) : Int) := by omega
    have m3 := andFFFF ((b : Int)) (by omega) (by omega)
    have m4 : bits .and .u64 ((b : Int) / 1) 65535 = ((b % 65536 : Nat) : Int) := by rw [m1, m2]
    obtain ⟨G, hG⟩ : ∃ G, G = b % 65536 := ⟨_, rfl⟩
    have hGl : G < 65536 := by omega
    rw [← hG] at m4 ⊢
    have m5 : bits .and .u64 (b : Int) 65535 = (G : Int) := by rw [m3]; omega
    clear m1 m2 m3 hG e1
    have hGi : (G : Int) < 65536 := by omega
    go_enter Tryz.func156, Tryz.ntmps156
    go_wp2
    go_ret
    exact ⟨rfl, rfl⟩
end Go.Proofs.YtmnnjkdmnfadhaaGreatDoor
