/- Prefixes; by-name template. -/
import Derived.Test.YtmnnjkdmnfadhaaGreatDoorANum
namespace Go.Proofs.YtmnnjkdmnfadhaaGreatDoor
open Go.RowKit
set_option linter.unusedVariables false
set_option linter.unusedSimpArgs false

/-- How many numbers a prefix of k bits (of 128) leaves open: in the high word, in the low word. -/
def phi (k : Nat) : Nat := 2 ^ (64 - k)
def plo (k : Nat) : Nat := 2 ^ (64 - (k - 64))

theorem phi_div : ∀ k, k < 129 → (18446744073709551615 : Int) / 2 ^ min k 64 = (phi k : Int) - 1 := by decide +kernel
theorem plo_div : ∀ k, k < 129 → (18446744073709551615 : Int) / 2 ^ (k - 64) = (plo k : Int) - 1 := by decide +kernel
theorem phi_pos (k : Nat) : 0 < phi k := Nat.two_pow_pos _
theorem plo_pos (k : Nat) : 0 < plo k := Nat.two_pow_pos _
theorem phi_le (k : Nat) : phi k ≤ 18446744073709551616 := Nat.pow_le_pow_right (show 0 < 2 by omega) (show 64 - k ≤ 64 by omega)
theorem plo_le (k : Nat) : plo k ≤ 18446744073709551616 := Nat.pow_le_pow_right (show 0 < 2 by omega) (show 64 - (k - 64) ≤ 64 by omega)
theorem mask_step : ∀ k, k < 128 → (phi k - 1 = (2 * (phi (k + 1) - 1)) % 18446744073709551616 + (plo (k + 1) - 1) / 9223372036854775808) ∧ plo k - 1 = (2 * (plo (k + 1) - 1)) % 18446744073709551616 + 1 := by decide +kernel

theorem ones_any (k : Nat) (hk : k ≤ 128) (w : World) : Calls Tryz.prog 115 #[.int .i64 k] w fun e w' => e = .returned (.agg #[.int .u64 (phi k - 1), .int .u64 (plo k - 1)]) ∧ ∃ c, w' = (w.alloc (.cells c 36)).drew := by
  have h1 := phi_div k (by omega)
  have h2 := plo_div k (by omega)
  have p1 := phi_pos k
  have p2 := plo_pos k
  have k0 : (0 : Int) ≤ (k : Int) := by omega
  have k1 : (k : Int) ≤ 128 := by omega
  go_enter Tryz.func115, Tryz.ntmps115
  go_wp2
  go_region
  go_wp2
  case inl =>
    have e : k - 64 = 0 := by omega
    rw [e] at h2
    simp [bodyPost, results, Tryz.results115, go_sem]
    exact ⟨by simpa using h2, _, rfl⟩
  case inr =>
    have e : ((k : Int) - 64).toNat = k - 64 := by omega
    rw [← e] at h2
    simp [bodyPost, results, Tryz.results115, go_sem]
    exact ⟨by simpa using h2, _, rfl⟩

set_option maxRecDepth 100000 in
theorem mask_any (k : Nat) (hk : k ≤ 128) (w : World) : Calls Tryz.prog 128 #[.int .i64 k] w fun e w' => e = .returned (.agg #[.int .u64 (phi k - 1), .int .u64 (plo k - 1)]) ∧ ∃ c c', w' = (w.alloc (.cells c 36)).alloc (.cells c' 36) := by
  go_enter Tryz.func128, Tryz.ntmps128
  go_wp2
  go_loopw [4] (fun vi wr => ∃ j : Nat, vi = .int .i64 j ∧ k ≤ j ∧ j ≤ 128 ∧ ∃ a b : Int, Hid (a = (phi (128 - (j - k)) : Int) - 1 ∧ b = (plo (128 - (j - k)) : Int) - 1) ∧ wr = (w.alloc (.cells #[.int .u64 0, .int .u64 0] 36)).alloc (.cells #[.int .u64 a, .int .u64 b] 36)) (fun vi _ => 128 - (intOf vi).toNat)
  case atStart => exact ⟨k, rfl, by omega, hk, 0, 0, Lib.hid ⟨by simp [phi], by simp [plo]⟩, rfl⟩
  case round =>
    obtain ⟨j, rfl, hj0, hj1, a, b, hh, rfl⟩ := hrel
    have a0 : 0 ≤ a := by obtain ⟨e, -⟩ := hh.out; have := phi_pos (128 - (j - k)); omega
    have b0 : 0 ≤ b := by obtain ⟨-, e⟩ := hh.out; have := plo_pos (128 - (j - k)); omega
    have a1 : a ≤ 18446744073709551615 := by obtain ⟨e, -⟩ := hh.out; have := phi_le (128 - (j - k)); omega
    have b1 : b ≤ 18446744073709551615 := by obtain ⟨-, e⟩ := hh.out; have := plo_le (128 - (j - k)); omega
    by_cases hj : j < 128
    · have hm := mask_step (128 - (j + 1 - k)) (by omega)
      rw [show 128 - (j + 1 - k) + 1 = 128 - (j - k) by omega] at hm
      obtain ⟨e1, e2⟩ := hh.out
      clear hh
      have p1 := phi_pos (128 - (j - k))
      have p2 := plo_pos (128 - (j - k))
      have p3 := phi_pos (128 - (j + 1 - k))
      have p4 := plo_pos (128 - (j + 1 - k))
      have o1 : bits .or .u64 (IntKind.u64.wrap (a * 2)) (b / 9223372036854775808) = (phi (128 - (j + 1 - k)) : Int) - 1 := by
        rw [IntKind.wrap_u64, orU 1 (by omega) (by omega) (by omega) (by omega) (by omega) (by omega)]; omega
      have o2 : bits .or .u64 (IntKind.u64.wrap (b * 2)) 1 = (plo (128 - (j + 1 - k)) : Int) - 1 := by
        rw [IntKind.wrap_u64, orU 1 (by omega) (by omega) (by omega) (by omega) (by omega) (by omega)]; omega
      have O := Lib.hid (show _ ∧ _ from ⟨o1, o2⟩)
      clear o1 o2 e1 e2 hm p1 p2 p3 p4
      go_wp2
      exact ⟨⟨j + 1, by simp, by omega, by omega, _, _, Lib.hid ⟨O.out.1, O.out.2⟩, rfl⟩, by simp [intOf]; omega⟩
    · obtain rfl : j = 128 := by omega
      obtain ⟨e1, e2⟩ := hh.out
      clear hh
      rw [show 128 - (128 - k) = k by omega] at e1 e2
      go_wp2
      subst e1 e2
      simp [bodyPost, results, Tryz.results128, go_sem]
      exact ⟨_, _, rfl⟩

/-- How many bits stand ahead of a prefix's own. -/
def ahead (ah al : Int) : Nat := if is4I ah al then 96 else 0

theorem bitsAhead_any (ah al : Int) (h0 : Word ah) (h1 : Word al) (w : World) : Calls Tryz.prog 114 #[.agg #[.int .u64 ah, .int .u64 al]] w fun e w' => e = .returned (.int .i64 (ahead ah al)) ∧ w' = (w.alloc (.cells #[.int .u64 ah, .int .u64 al] 36)).alloc (.cells #[.int .u64 ah, .int .u64 al] 36) := by
  have c := is4_ex ah al h0 h1
  unfold ahead
  cases hi : is4I ah al
  · rw [hi] at c
    go_enter Tryz.func114, Tryz.ntmps114
    go_wp2_with (go_at_call 105; refine (c _).mono ?_; rintro e w' ⟨rfl, rfl⟩)
    go_ret
    exact ⟨by simp, rfl⟩
  · rw [hi] at c
    go_enter Tryz.func114, Tryz.ntmps114
    go_wp2_with (go_at_call 105; refine (c _).mono ?_; rintro e w' ⟨rfl, rfl⟩)
    go_ret
    exact ⟨by simp, rfl⟩

/-- The prefix of so many bits, if there is one: the last number. -/
def preV (ah al bits : Int) : Option (Int × Int) :=
  if bits < 0 ∨ 128 - (ahead ah al : Int) < bits then none
  else if ah % phi (ahead ah al + bits.toNat) = 0 ∧ al % plo (ahead ah al + bits.toNat) = 0 then some (ah + (phi (ahead ah al + bits.toNat) - 1), al + (plo (ahead ah al + bits.toNat) - 1)) else none

def preT (ah al bits : Int) : Value :=
  match preV ah al bits with
  | none => .tuple #[.agg #[.int .u64 0, .int .u64 0, .int .u64 0, .int .u64 0], .int .i64 31]
  | some x => .tuple #[.agg #[.int .u64 ah, .int .u64 al, .int .u64 x.1, .int .u64 x.2], .int .i64 0]

theorem andP (k : Nat) {x : Int} (h : Word x) : bits .and .u64 x ((2 : Int) ^ k - 1) = x % 2 ^ k ∨ 64 < k := by
  by_cases hk : 64 < k
  · exact Or.inr hk
  · exact Or.inl (bits_mask .u64 64 (Nat.le_refl _) (fun n h0 h1 => by rw [IntKind.wrap_u64]; omega) k (by omega) x h.1 (by simpa using h.2))

theorem and_phi (k : Nat) {x : Int} (h : Word x) : bits .and .u64 x ((phi k : Int) - 1) = x % phi k := by
  rcases andP (64 - k) h with e | e
  · simpa [phi] using e
  · omega
theorem and_plo (k : Nat) {x : Int} (h : Word x) : bits .and .u64 x ((plo k : Int) - 1) = x % plo k := by
  rcases andP (64 - (k - 64)) h with e | e
  · simpa [plo] using e
  · omega
theorem or_phi (k : Nat) {x : Int} (h : Word x) (h0 : x % phi k = 0) : bits .or .u64 x ((phi k : Int) - 1) = x + (phi k - 1) := by
  have p := phi_pos k
  have q := phi_le k
  exact orU (64 - k) h.1 (by simpa [phi] using h0) h.2 (by omega) (by simp [phi]; omega) (by omega)
theorem or_plo (k : Nat) {x : Int} (h : Word x) (h0 : x % plo k = 0) : bits .or .u64 x ((plo k : Int) - 1) = x + (plo k - 1) := by
  have p := plo_pos k
  have q := plo_le k
  exact orU (64 - (k - 64)) h.1 (by simpa [plo] using h0) h.2 (by omega) (by simp [plo]; omega) (by omega)

set_option maxRecDepth 100000 in
set_option maxHeartbeats 1000000 in
theorem pre_any (ah al n : Int) (h0 : Word ah) (h1 : Word al) (hn0 : -9223372036854775808 ≤ n) (hn1 : n < 9223372036854775808) (w : World) : Calls Tryz.prog 62 #[.agg #[.int .u64 ah, .int .u64 al], .int .i64 n] w fun e w' => e = .returned (preT ah al n) ∧ Below w.heap.size w w' := by
  have c := bitsAhead_any ah al h0 h1
  have hah : ahead ah al = 0 ∨ ahead ah al = 96 := by unfold ahead; split <;> simp
  obtain ⟨A, hA⟩ : ∃ A, A = ahead ah al := ⟨_, rfl⟩
  unfold preT preV
  rw [← hA] at c hah ⊢
  clear hA
  have A0 : (0 : Int) ≤ A := by omega
  have A1 : (A : Int) ≤ 96 := by omega
  by_cases hb : n < 0 ∨ 128 - (A : Int) < n
  · rw [if_pos hb]
    simp only
    by_cases hb1 : n < 0
    · go_enter Tryz.func62, Tryz.ntmps62
      go_wp2_with (go_at_call 114; refine (c _).mono ?_; rintro e w' ⟨rfl, rfl⟩)
      simp [bodyPost, results, Tryz.results62, go_sem]
      repeat (first | exact Below.refl _ _ | apply Below.dr | apply Below.al)
    · have hb2 : decide (n < 0) = false := by simp [hb1]
      have hb3 : 128 - (A : Int) < n := by omega
      go_enter Tryz.func62, Tryz.ntmps62
      go_wp2_with (go_at_call 114; refine (c _).mono ?_; rintro e w' ⟨rfl, rfl⟩)
      simp [bodyPost, results, Tryz.results62, go_sem]
      repeat (first | exact Below.refl _ _ | apply Below.dr | apply Below.al)
  · rw [if_neg hb]
    obtain ⟨k, rfl⟩ := Int.eq_ofNat_of_zero_le (show 0 ≤ n by omega)
    have hb2 : decide ((k : Int) < 0) = false := by simp
    have hb3 : decide (128 - (A : Int) < (k : Int)) = false := by simp; omega
    simp only [Int.toNat_natCast]
    have cm := ones_any (A + k) (by omega)
    have e1 := and_phi (A + k) h0
    have e2 := and_plo (A + k) h1
    have o1 := or_phi (A + k) h0
    have o2 := or_plo (A + k) h1
    have ecast : ((A + k : Nat) : Int) = (A : Int) + (k : Int) := by omega
    rw [ecast] at cm
    have k1 : (k : Int) ≤ 128 := by omega
    clear ecast
    generalize (phi (A + k) : Int) - 1 = P at *
    generalize (plo (A + k) : Int) - 1 = Q at *
    generalize (phi (A + k) : Int) = P' at *
    generalize (plo (A + k) : Int) = Q' at *
    by_cases g1 : ah % P' = 0
    · by_cases g2 : al % Q' = 0
      · rw [if_pos ⟨g1, g2⟩]
        obtain ⟨U, hU⟩ : ∃ U, bits .or .u64 ah P = U := ⟨_, rfl⟩
        obtain ⟨V, hV⟩ : ∃ V, bits .or .u64 al Q = V := ⟨_, rfl⟩
        rw [hU] at o1
        rw [hV] at o2
        have O := Lib.hid (show _ ∧ _ from ⟨o1 g1, o2 g2⟩)
        clear o1 o2
        rw [g1] at e1
        rw [g2] at e2
        clear g1 g2
        simp only
        go_enter Tryz.func62, Tryz.ntmps62
        go_wp2_with (first
          | (go_at_call 114; refine (c _).mono ?_; rintro e w' ⟨rfl, rfl⟩)
          | (go_at_call 115; refine (cm _).mono ?_; rintro e w' ⟨rfl, cz, rfl⟩; refine Hid.out ?_))
        refine Lib.hid ?_
        go_wp2
        obtain ⟨hO1, hO2⟩ := O.out
        subst hO1 hO2
        refine bodyPost_ret_by ?_ rfl ⟨rfl, ?_⟩
        · simp [results, Tryz.results62, go_sem]
        · repeat (first | exact Below.refl _ _ | apply Below.dr | apply Below.al)
      · rw [if_neg (fun h => g2 h.2)]
        rw [g1] at e1
        clear o1 o2 g1
        generalize al % Q' = R2 at *
        have gd : (R2 != 0) = true := by simp [g2]
        clear g2
        simp only
        go_enter Tryz.func62, Tryz.ntmps62
        go_wp2_with (first
          | (go_at_call 114; refine (c _).mono ?_; rintro e w' ⟨rfl, rfl⟩)
          | (go_at_call 115; refine (cm _).mono ?_; rintro e w' ⟨rfl, cz, rfl⟩))
        simp [bodyPost, results, Tryz.results62, go_sem]
        repeat (first | exact Below.refl _ _ | apply Below.dr | apply Below.al)
    · rw [if_neg (fun h => g1 h.1)]
      clear o1 o2
      generalize ah % P' = R2 at *
      have gb : (R2 == 0) = false := by simp [g1]
      simp only
      go_enter Tryz.func62, Tryz.ntmps62
      go_wp2_with (first
        | (go_at_call 114; refine (c _).mono ?_; rintro e w' ⟨rfl, rfl⟩)
        | (go_at_call 115; refine (cm _).mono ?_; rintro e w' ⟨rfl, cz, rfl⟩))
      simp [bodyPost, results, Tryz.results62, go_sem]
      repeat (first | exact Below.refl _ _ | apply Below.dr | apply Below.al)


set_option maxRecDepth 100000 in
set_option maxHeartbeats 1000000 in
theorem rpre_true (ah al n : Int) (hi : is4I ah al = true) (h0 : Word ah) (h1 : Word al) (hn0 : -9223372036854775808 ≤ n) (hn1 : n < 9223372036854775808) (w : World) : Calls Tryz.prog 87 #[.agg #[.int .u64 ah, .int .u64 al], .int .i64 n] w fun e w' => e = .returned (preT ah al n) ∧ Below w.heap.size w w' := by
  have c := ris4_ex ah al h0 h1
  rw [hi] at c
  have hA : ahead ah al = 96 := by unfold ahead; rw [hi]; rfl
  unfold preT preV
  rw [hA]
  by_cases hb : n < 0 ∨ 128 - ((96 : Nat) : Int) < n
  · rw [if_pos hb]
    simp only
    by_cases hb1 : n < 0
    · go_enter Tryz.func87, Tryz.ntmps87
      go_wp2_with (first
        | (go_at_call 88; refine (c _).mono ?_; rintro e w' ⟨rfl, rfl⟩)
        | (go_at_call 128; refine (cm _).mono ?_; rintro e w' ⟨rfl, cz, cy, rfl⟩))
      simp [bodyPost, results, Tryz.results87, go_sem]
      repeat (first | exact Below.refl _ _ | apply Below.dr | apply Below.al)
    · have hb2 : decide (n < 0) = false := by simp [hb1]
      have hb3 : 32 < n := by omega
      go_enter Tryz.func87, Tryz.ntmps87
      go_wp2_with (first
        | (go_at_call 88; refine (c _).mono ?_; rintro e w' ⟨rfl, rfl⟩)
        | (go_at_call 128; refine (cm _).mono ?_; rintro e w' ⟨rfl, cz, cy, rfl⟩))
      simp [bodyPost, results, Tryz.results87, go_sem]
      repeat (first | exact Below.refl _ _ | apply Below.dr | apply Below.al)
  · rw [if_neg hb]
    obtain ⟨k, rfl⟩ := Int.eq_ofNat_of_zero_le (show 0 ≤ n by omega)
    have hb2 : decide ((k : Int) < 0) = false := by simp
    have hb3 : decide (32 < (k : Int)) = false := by simp; omega
    simp only [Int.toNat_natCast]
    have cm := mask_any (96 + k) (by omega)
    have e1 := and_phi (96 + k) h0
    have e2 := and_plo (96 + k) h1
    have o1 := or_phi (96 + k) h0
    have o2 := or_plo (96 + k) h1
    have ecast : ((96 + k : Nat) : Int) = (k : Int) + 128 - 32 := by omega
    rw [ecast] at cm
    have k1 : (k : Int) ≤ 128 := by omega
    clear ecast
    generalize (phi (96 + k) : Int) - 1 = P at *
    generalize (plo (96 + k) : Int) - 1 = Q at *
    generalize (phi (96 + k) : Int) = P' at *
    generalize (plo (96 + k) : Int) = Q' at *
    have ew : (k : Int) + 128 - 128 = k := by omega
    try rw [ew] at cm
    by_cases g1 : ah % P' = 0
    · by_cases g2 : al % Q' = 0
      · rw [if_pos ⟨g1, g2⟩]
        obtain ⟨U, hU⟩ : ∃ U, bits .or .u64 ah P = U := ⟨_, rfl⟩
        obtain ⟨V, hV⟩ : ∃ V, bits .or .u64 al Q = V := ⟨_, rfl⟩
        rw [hU] at o1
        rw [hV] at o2
        have O := Lib.hid (show _ ∧ _ from ⟨o1 g1, o2 g2⟩)
        clear o1 o2
        rw [g1] at e1
        rw [g2] at e2
        clear g1 g2
        simp only
        go_enter Tryz.func87, Tryz.ntmps87
        go_wp2_with (first
          | (go_at_call 88; refine (c _).mono ?_; rintro e w' ⟨rfl, rfl⟩)
          | (go_at_call 128; refine (cm _).mono ?_; rintro e w' ⟨rfl, cz, cy, rfl⟩; refine Hid.out ?_))
        refine Lib.hid ?_
        go_wp2
        obtain ⟨hO1, hO2⟩ := O.out
        subst hO1 hO2
        refine bodyPost_ret_by ?_ rfl ⟨rfl, ?_⟩
        · simp [results, Tryz.results87, go_sem]
        · repeat (first | exact Below.refl _ _ | apply Below.dr | apply Below.al)
      · rw [if_neg (fun h => g2 h.2)]
        rw [g1] at e1
        clear o1 o2 g1
        generalize al % Q' = R2 at *
        have gd : (R2 != 0) = true := by simp [g2]
        clear g2
        simp only
        go_enter Tryz.func87, Tryz.ntmps87
        go_wp2_with (first
          | (go_at_call 88; refine (c _).mono ?_; rintro e w' ⟨rfl, rfl⟩)
          | (go_at_call 128; refine (cm _).mono ?_; rintro e w' ⟨rfl, cz, cy, rfl⟩))
        simp [bodyPost, results, Tryz.results87, go_sem]
        repeat (first | exact Below.refl _ _ | apply Below.dr | apply Below.al)
    · rw [if_neg (fun h => g1 h.1)]
      clear o1 o2
      generalize ah % P' = R2 at *
      have gb : (R2 == 0) = false := by simp [g1]
      simp only
      go_enter Tryz.func87, Tryz.ntmps87
      go_wp2_with (first
        | (go_at_call 88; refine (c _).mono ?_; rintro e w' ⟨rfl, rfl⟩)
        | (go_at_call 128; refine (cm _).mono ?_; rintro e w' ⟨rfl, cz, cy, rfl⟩))
      simp [bodyPost, results, Tryz.results87, go_sem]
      repeat (first | exact Below.refl _ _ | apply Below.dr | apply Below.al)

set_option maxRecDepth 100000 in
set_option maxHeartbeats 1000000 in
theorem rpre_false (ah al n : Int) (hi : is4I ah al = false) (h0 : Word ah) (h1 : Word al) (hn0 : -9223372036854775808 ≤ n) (hn1 : n < 9223372036854775808) (w : World) : Calls Tryz.prog 87 #[.agg #[.int .u64 ah, .int .u64 al], .int .i64 n] w fun e w' => e = .returned (preT ah al n) ∧ Below w.heap.size w w' := by
  have c := ris4_ex ah al h0 h1
  rw [hi] at c
  have hA : ahead ah al = 0 := by unfold ahead; rw [hi]; rfl
  unfold preT preV
  rw [hA]
  by_cases hb : n < 0 ∨ 128 - ((0 : Nat) : Int) < n
  · rw [if_pos hb]
    simp only
    by_cases hb1 : n < 0
    · go_enter Tryz.func87, Tryz.ntmps87
      go_wp2_with (first
        | (go_at_call 88; refine (c _).mono ?_; rintro e w' ⟨rfl, rfl⟩)
        | (go_at_call 128; refine (cm _).mono ?_; rintro e w' ⟨rfl, cz, cy, rfl⟩))
      simp [bodyPost, results, Tryz.results87, go_sem]
      repeat (first | exact Below.refl _ _ | apply Below.dr | apply Below.al)
    · have hb2 : decide (n < 0) = false := by simp [hb1]
      have hb3 : 128 < n := by omega
      go_enter Tryz.func87, Tryz.ntmps87
      go_wp2_with (first
        | (go_at_call 88; refine (c _).mono ?_; rintro e w' ⟨rfl, rfl⟩)
        | (go_at_call 128; refine (cm _).mono ?_; rintro e w' ⟨rfl, cz, cy, rfl⟩))
      simp [bodyPost, results, Tryz.results87, go_sem]
      repeat (first | exact Below.refl _ _ | apply Below.dr | apply Below.al)
  · rw [if_neg hb]
    obtain ⟨k, rfl⟩ := Int.eq_ofNat_of_zero_le (show 0 ≤ n by omega)
    have hb2 : decide ((k : Int) < 0) = false := by simp
    have hb3 : decide (128 < (k : Int)) = false := by simp; omega
    simp only [Int.toNat_natCast]
    have cm := mask_any (0 + k) (by omega)
    have e1 := and_phi (0 + k) h0
    have e2 := and_plo (0 + k) h1
    have o1 := or_phi (0 + k) h0
    have o2 := or_plo (0 + k) h1
    have ecast : ((0 + k : Nat) : Int) = (k : Int) + 128 - 128 := by omega
    rw [ecast] at cm
    have k1 : (k : Int) ≤ 128 := by omega
    clear ecast
    generalize (phi (0 + k) : Int) - 1 = P at *
    generalize (plo (0 + k) : Int) - 1 = Q at *
    generalize (phi (0 + k) : Int) = P' at *
    generalize (plo (0 + k) : Int) = Q' at *
    have ew : (k : Int) + 128 - 128 = k := by omega
    try rw [ew] at cm
    by_cases g1 : ah % P' = 0
    · by_cases g2 : al % Q' = 0
      · rw [if_pos ⟨g1, g2⟩]
        obtain ⟨U, hU⟩ : ∃ U, bits .or .u64 ah P = U := ⟨_, rfl⟩
        obtain ⟨V, hV⟩ : ∃ V, bits .or .u64 al Q = V := ⟨_, rfl⟩
        rw [hU] at o1
        rw [hV] at o2
        have O := Lib.hid (show _ ∧ _ from ⟨o1 g1, o2 g2⟩)
        clear o1 o2
        rw [g1] at e1
        rw [g2] at e2
        clear g1 g2
        simp only
        go_enter Tryz.func87, Tryz.ntmps87
        go_wp2_with (first
          | (go_at_call 88; refine (c _).mono ?_; rintro e w' ⟨rfl, rfl⟩)
          | (go_at_call 128; refine (cm _).mono ?_; rintro e w' ⟨rfl, cz, cy, rfl⟩; refine Hid.out ?_))
        refine Lib.hid ?_
        go_wp2
        obtain ⟨hO1, hO2⟩ := O.out
        subst hO1 hO2
        refine bodyPost_ret_by ?_ rfl ⟨rfl, ?_⟩
        · simp [results, Tryz.results87, go_sem]
        · repeat (first | exact Below.refl _ _ | apply Below.dr | apply Below.al)
      · rw [if_neg (fun h => g2 h.2)]
        rw [g1] at e1
        clear o1 o2 g1
        generalize al % Q' = R2 at *
        have gd : (R2 != 0) = true := by simp [g2]
        clear g2
        simp only
        go_enter Tryz.func87, Tryz.ntmps87
        go_wp2_with (first
          | (go_at_call 88; refine (c _).mono ?_; rintro e w' ⟨rfl, rfl⟩)
          | (go_at_call 128; refine (cm _).mono ?_; rintro e w' ⟨rfl, cz, cy, rfl⟩))
        simp [bodyPost, results, Tryz.results87, go_sem]
        repeat (first | exact Below.refl _ _ | apply Below.dr | apply Below.al)
    · rw [if_neg (fun h => g1 h.1)]
      clear o1 o2
      generalize ah % P' = R2 at *
      have gb : (R2 == 0) = false := by simp [g1]
      simp only
      go_enter Tryz.func87, Tryz.ntmps87
      go_wp2_with (first
        | (go_at_call 88; refine (c _).mono ?_; rintro e w' ⟨rfl, rfl⟩)
        | (go_at_call 128; refine (cm _).mono ?_; rintro e w' ⟨rfl, cz, cy, rfl⟩))
      simp [bodyPost, results, Tryz.results87, go_sem]
      repeat (first | exact Below.refl _ _ | apply Below.dr | apply Below.al)

theorem rpre_any (ah al n : Int) (h0 : Word ah) (h1 : Word al) (hn0 : -9223372036854775808 ≤ n) (hn1 : n < 9223372036854775808) (w : World) : Calls Tryz.prog 87 #[.agg #[.int .u64 ah, .int .u64 al], .int .i64 n] w fun e w' => e = .returned (preT ah al n) ∧ Below w.heap.size w w' := by
  cases hi : is4I ah al
  · exact rpre_false ah al n hi h0 h1 hn0 hn1 w
  · exact rpre_true ah al n hi h0 h1 hn0 hn1 w

/-- Whether a number is within a range. -/
def hasI (fh fl th tl ah al : Int) : Bool := decide (cmpA fh fl ah al ≤ 0) && decide (cmpA ah al th tl ≤ 0)

end Go.Proofs.YtmnnjkdmnfadhaaGreatDoor
