/- AddrPrefixes's walk; by-name template. -/
import Derived.Test.YtdocpkeegmkknaaANumbers
import Derived.Test.YtdocpkeegmkknaaAPre
namespace Go.Proofs.Ytdocpkeegmkknaa
open Go.RowKit
set_option linter.unusedVariables false
set_option linter.unusedSimpArgs false

def S (k : Nat) : Nat := (phi k - 1) * 18446744073709551616 + plo k
theorem S_pow : ∀ k, k < 129 → S k = 2 ^ (128 - k) := by decide +kernel
theorem S_le64 : ∀ k, k < 65 → plo k = 18446744073709551616 := by decide +kernel
theorem S_gt64 : ∀ k, k < 129 → 64 ≤ k → phi k = 1 := by decide +kernel

theorem S_dvd {k : Nat} (hk : k ≤ 128) {a b : Nat} (hb : b < 18446744073709551616) (h0 : a % phi k = 0) (h1 : b % plo k = 0) : ∃ x, a * 18446744073709551616 + b = S k * x := by
  have p1 := phi_pos k
  by_cases h : k < 65
  · have e := S_le64 k h
    rw [e] at h1
    have : b = 0 := by omega
    subst this
    obtain ⟨q, hq⟩ := Nat.dvd_of_mod_eq_zero h0
    refine ⟨q, ?_⟩
    have e2 : (phi k - 1) * 18446744073709551616 + 18446744073709551616 = phi k * 18446744073709551616 := by
      rw [← Nat.succ_mul]; congr 1; omega
    rw [S, e, e2, Nat.add_zero, hq, Nat.mul_right_comm]
  · have e := S_gt64 k (by omega) (by omega)
    rw [S, e]
    simp only [Nat.sub_self, Nat.zero_mul, Nat.zero_add]
    have hd : plo k ∣ 18446744073709551616 := Nat.pow_dvd_pow 2 (show 64 - (k - 64) ≤ 64 by omega)
    obtain ⟨y, hy⟩ := hd
    obtain ⟨z, hz⟩ := Nat.dvd_of_mod_eq_zero h1
    exact ⟨a * y + z, by rw [Nat.mul_add, ← hz]; congr 1; rw [← Nat.mul_assoc, Nat.mul_comm (plo k) a, Nat.mul_assoc, ← hy]⟩

theorem cmpA_le {ah al bh bl : Nat} (h1 : al < 18446744073709551616) (h2 : bl < 18446744073709551616) : cmpA ah al bh bl ≤ 0 ↔ ah * 18446744073709551616 + al ≤ bh * 18446744073709551616 + bl := by
  have h := cmpA_gt ah al bh bl
  rcases cmpA_or ah al bh bl with e | e | e
  · have := (cmpA_lt ah al bh bl).1 e
    constructor
    · intro _; omega
    · intro _; omega
  · have := (cmpA_eq ah al bh bl).1 e
    constructor
    · intro _; omega
    · intro _; omega
  · have := h.1 e
    constructor
    · intro k; omega
    · intro _; omega

theorem nest_nat {s z y x : Nat} (hs : 0 < s) (hz : 0 < z) : (s * (z * y) ≤ s * x ∧ s * x ≤ s * (z * y) + (s * z - 1)) ↔ (s * (z * y) ≤ s * x + (s - 1) ∧ s * x + (s - 1) ≤ s * (z * y) + (s * z - 1)) := by
  have a1 : s * (z * y) ≤ s * x ↔ z * y ≤ x := Nat.mul_le_mul_left_iff hs
  have a2 : s * (z * y) < s * (x + 1) ↔ z * y < x + 1 := Nat.mul_lt_mul_left hs
  have a3 : s * x < s * (z * y + z) ↔ x < z * y + z := Nat.mul_lt_mul_left hs
  have a4 : s * (x + 1) ≤ s * (z * y + z) ↔ x + 1 ≤ z * y + z := Nat.mul_le_mul_left_iff hs
  rw [Nat.mul_add] at a3 a4
  rw [Nat.mul_add, Nat.mul_one] at a2 a4
  have hsz : 0 < s * z := Nat.mul_pos hs hz
  constructor
  · rintro ⟨h1, h2⟩
    have := a1.1 h1
    have := a3.1 (by omega)
    exact ⟨by omega, by have := a4.2 (by omega); omega⟩
  · rintro ⟨h1, h2⟩
    have := a2.1 (by omega)
    have := a4.1 (by omega)
    exact ⟨a1.2 (by omega), by have := a3.2 (by omega); omega⟩

theorem add_up (a p b q M : Nat) (hq : 0 < q) : (a + p) * M + (b + (q - 1)) = (a * M + b) + (p * M + q - 1) := by
  rw [Nat.add_mul]; omega

theorem S_pos (k : Nat) : 0 < S k := by have := plo_pos k; unfold S; omega
theorem S_split {k k' : Nat} (hk : k ≤ 128) (h : k' ≤ k) : ∃ z, S k' = S k * z := by
  rw [S_pow k (by omega), S_pow k' (by omega)]
  exact Nat.pow_dvd_pow 2 (by omega)

/-- What a prefix has: with its first number its last one. -/
theorem nested {ah al bh bl : Int} {n m : Int} (h0 : Word ah) (h1 : Word al) (h2 : Word bh) (h3 : Word bl) (hi : is4I ah al = is4I bh bl) (hm : m ≤ n) {x y : Int × Int}
    (hx : preV ah al n = some x) (hy : preV bh bl m = some y) : hasI bh bl y.1 y.2 ah al = hasI bh bl y.1 y.2 x.1 x.2 := by
  have hA : ahead bh bl = ahead ah al := by unfold ahead; rw [hi]
  have hA' : ahead ah al ≤ 96 := by unfold ahead; split <;> omega
  unfold preV at hx hy
  rw [hA] at hy
  split at hx
  · cases hx
  split at hy
  · cases hy
  rename_i b1 b2
  split at hx
  · split at hy
    · rename_i c1 c2
      obtain ⟨k, hk⟩ : ∃ k, k = ahead ah al + n.toNat := ⟨_, rfl⟩
      obtain ⟨k', hk'⟩ : ∃ k', k' = ahead ah al + m.toNat := ⟨_, rfl⟩
      rw [← hk] at hx c1
      rw [← hk'] at hy c2
      have hkl : k ≤ 128 := by omega
      have hkk : k' ≤ k := by omega
      obtain rfl : (ah + ((phi k : Int) - 1), al + ((plo k : Int) - 1)) = x := by simpa using hx
      obtain rfl : (bh + ((phi k' : Int) - 1), bl + ((plo k' : Int) - 1)) = y := by simpa using hy
      clear hx hy hk hk' b1 b2 hA hA' hi hm
      obtain ⟨p0, p1⟩ := h0; obtain ⟨q0, q1⟩ := h1; obtain ⟨r0, r1⟩ := h2; obtain ⟨s0, s1⟩ := h3
      obtain ⟨a, rfl⟩ := Int.eq_ofNat_of_zero_le p0
      obtain ⟨b, rfl⟩ := Int.eq_ofNat_of_zero_le q0
      obtain ⟨c, rfl⟩ := Int.eq_ofNat_of_zero_le r0
      obtain ⟨d, rfl⟩ := Int.eq_ofNat_of_zero_le s0
      have f1 := phi_pos k
      have f2 := plo_pos k
      have f3 := phi_pos k'
      have f4 := plo_pos k'
      have g1 : a % phi k = 0 := by have := c1.1; omega
      have g2 : b % plo k = 0 := by have := c1.2; omega
      have g3 : c % phi k' = 0 := by have := c2.1; omega
      have g4 : d % plo k' = 0 := by have := c2.2; omega
      clear c1 c2
      obtain ⟨X, hX⟩ := S_dvd hkl (show b < 18446744073709551616 by omega) g1 g2
      obtain ⟨Y, hY⟩ := S_dvd (show k' ≤ 128 by omega) (show d < 18446744073709551616 by omega) g3 g4
      obtain ⟨z, hz⟩ := S_split hkl hkk
      have hs := S_pos k
      have hs' := S_pos k'
      have hzp : 0 < z := by
        rcases Nat.eq_zero_or_pos z with e | e
        · subst e; omega
        · exact e
      have hle : ∀ k, (b % plo k = 0 → b < 18446744073709551616 → k ≤ 128 → b + (plo k - 1) < 18446744073709551616) := by
        intro k e1 e2 e3
        have hd : plo k ∣ 18446744073709551616 := Nat.pow_dvd_pow 2 (show 64 - (k - 64) ≤ 64 by omega)
        obtain ⟨u, hu⟩ := hd
        obtain ⟨v, hv⟩ := Nat.dvd_of_mod_eq_zero e1
        rw [hu, hv] at e2 ⊢
        have f := plo_pos k
        have := (Nat.mul_lt_mul_left f).1 e2
        have := Nat.mul_le_mul_left (plo k) (show v + 1 ≤ u by omega)
        rw [Nat.mul_add, Nat.mul_one] at this
        omega
      have hle2 : ∀ k, (d % plo k = 0 → d < 18446744073709551616 → k ≤ 128 → d + (plo k - 1) < 18446744073709551616) := by
        intro k e1 e2 e3
        have hd : plo k ∣ 18446744073709551616 := Nat.pow_dvd_pow 2 (show 64 - (k - 64) ≤ 64 by omega)
        obtain ⟨u, hu⟩ := hd
        obtain ⟨v, hv⟩ := Nat.dvd_of_mod_eq_zero e1
        rw [hu, hv] at e2 ⊢
        have f := plo_pos k
        have := (Nat.mul_lt_mul_left f).1 e2
        have := Nat.mul_le_mul_left (plo k) (show v + 1 ≤ u by omega)
        rw [Nat.mul_add, Nat.mul_one] at this
        omega
      have l1 := hle k g2 (by omega) hkl
      have l2 := hle2 k' g4 (by omega) (by omega)
      have e1 : (a : Int) + ((phi k : Int) - 1) = ((a + (phi k - 1) : Nat) : Int) := by omega
      have e2 : (b : Int) + ((plo k : Int) - 1) = ((b + (plo k - 1) : Nat) : Int) := by omega
      have e3 : (c : Int) + ((phi k' : Int) - 1) = ((c + (phi k' - 1) : Nat) : Int) := by omega
      have e4 : (d : Int) + ((plo k' : Int) - 1) = ((d + (plo k' - 1) : Nat) : Int) := by omega
      simp only [e1, e2, e3, e4]
      unfold hasI
      have t1 := cmpA_le (ah := c) (al := d) (bh := a) (bl := b) (by omega) (by omega)
      have t2 := cmpA_le (ah := a) (al := b) (bh := c + (phi k' - 1)) (bl := d + (plo k' - 1)) (by omega) l2
      have t3 := cmpA_le (ah := c) (al := d) (bh := a + (phi k - 1)) (bl := b + (plo k - 1)) (by omega) l1
      have t4 := cmpA_le (ah := a + (phi k - 1)) (al := b + (plo k - 1)) (bh := c + (phi k' - 1)) (bl := d + (plo k' - 1)) l1 l2
      have u1 : (a + (phi k - 1)) * 18446744073709551616 + (b + (plo k - 1)) = (a * 18446744073709551616 + b) + (S k - 1) := add_up _ _ _ _ _ f2
      have u2 : (c + (phi k' - 1)) * 18446744073709551616 + (d + (plo k' - 1)) = (c * 18446744073709551616 + d) + (S k' - 1) := add_up _ _ _ _ _ f4
      rw [u2] at t2 t4
      rw [u1] at t3 t4
      rw [hX] at t1 t2 t3 t4
      rw [hY] at t1 t2 t3 t4
      rw [hz, Nat.mul_assoc] at t1 t2 t3 t4
      have N := nest_nat (s := S k) (z := z) (y := Y) (x := X) hs hzp
      have A1 : (cmpA c d a b ≤ 0 ∧ cmpA a b ↑(c + (phi k' - 1)) ↑(d + (plo k' - 1)) ≤ 0) ↔ (cmpA c d ↑(a + (phi k - 1)) ↑(b + (plo k - 1)) ≤ 0 ∧ cmpA ↑(a + (phi k - 1)) ↑(b + (plo k - 1)) ↑(c + (phi k' - 1)) ↑(d + (plo k' - 1)) ≤ 0) := by
        rw [t1, t2, t3, t4]; exact N
      rw [← Bool.decide_and, ← Bool.decide_and]
      exact decide_eq_decide.2 A1
    · cases hy
  · cases hx

theorem belN {N : Nat} {w w1 : World} (h : Below N w w1) (n : Nat) : Below N w (w1.drewN n) := ⟨h.os, h.tape, h.output, h.size, h.block⟩

theorem pre_self {ah al n : Int} {x : Int × Int} (h0 : Word ah) (h1 : Word al) (hx : preV ah al n = some x) : cmpA ah al x.1 x.2 ≤ 0 ∧ Word x.1 ∧ Word x.2 := by
  have hA' : ahead ah al ≤ 96 := by unfold ahead; split <;> omega
  unfold preV at hx
  split at hx
  · cases hx
  split at hx
  · rename_i b1 c1
    obtain ⟨k, hk⟩ : ∃ k, k = ahead ah al + n.toNat := ⟨_, rfl⟩
    rw [← hk] at hx c1
    have hkl : k ≤ 128 := by omega
    obtain rfl : (ah + ((phi k : Int) - 1), al + ((plo k : Int) - 1)) = x := by simpa using hx
    have f1 := phi_pos k
    have f2 := plo_pos k
    obtain ⟨p0, p1⟩ := h0; obtain ⟨q0, q1⟩ := h1
    have top : ∀ (P : Nat) (j : Nat), P = 2 ^ j → j ≤ 64 → ∀ b : Int, 0 ≤ b → b < 18446744073709551616 → b % P = 0 → b + ((P : Int) - 1) < 18446744073709551616 := by
      intro P j hP hj b0 hb0 hb1 hb2
      obtain ⟨b, rfl⟩ := Int.eq_ofNat_of_zero_le hb0
      have e1 : b % P = 0 := by omega
      have hd : P ∣ 18446744073709551616 := by rw [hP]; exact Nat.pow_dvd_pow 2 (show j ≤ 64 from hj)
      have f : 0 < P := by rw [hP]; exact Nat.two_pow_pos _
      obtain ⟨u, hu⟩ := hd
      obtain ⟨v, hv⟩ := Nat.dvd_of_mod_eq_zero e1
      have e2 : P * v < P * u := by omega
      have := (Nat.mul_lt_mul_left f).1 e2
      have := Nat.mul_le_mul_left P (show v + 1 ≤ u by omega)
      rw [Nat.mul_add, Nat.mul_one] at this
      omega
    have t1 := top (phi k) (64 - k) rfl (by omega) ah p0 p1 c1.1
    have t2 := top (plo k) (64 - (k - 64)) rfl (by omega) al q0 q1 c1.2
    simp only
    refine ⟨?_, ⟨by omega, t1⟩, ⟨by omega, t2⟩⟩
    rw [cmpA_cases]
    split
    · decide
    · split
      · decide
      · exfalso; omega
  · cases hx

theorem has_self {ah al n : Int} {x : Int × Int} (h0 : Word ah) (h1 : Word al) (hx : preV ah al n = some x) : hasI ah al x.1 x.2 ah al = true := by
  unfold hasI
  rw [(cmpA_eq ah al ah al).2 ⟨rfl, rfl⟩]
  simp [(pre_self h0 h1 hx).1]

set_option maxHeartbeats 4000000 in
set_option maxRecDepth 100000 in
theorem prefixes_any (ah al bh bl n m : Int) (h0 : Word ah) (h1 : Word al) (h2 : Word bh) (h3 : Word bl) (hn : -9223372036854775808 ≤ n ∧ n < 9223372036854775808) (hm : -9223372036854775808 ≤ m ∧ m < 9223372036854775808) (w : World) : Calls Try.prog 6 #[.agg #[.int .u64 ah, .int .u64 al], .agg #[.int .u64 bh, .int .u64 bl], .int .i64 n, .int .i64 m] w (LawPost w) := by
  unfold LawPost
  obtain ⟨hn0, hn1⟩ := hn
  obtain ⟨hm0, hm1⟩ := hm
  have c1 := pre_any ah al n h0 h1 hn0 hn1
  have c2 := rpre_any ah al n h0 h1 hn0 hn1
  unfold preT at c1 c2
  go_enter Try.func6, Try.ntmps6
  go_wp2_with fail
  obtain ⟨w0, hw0⟩ : ∃ w0, w0 = (w.alloc (Obj.cells #[Value.int IntKind.u64 ah, Value.int IntKind.u64 al] 24)).alloc (Obj.cells #[Value.int IntKind.u64 bh, Value.int IntKind.u64 bl] 24) := ⟨_, rfl⟩
  have b0 : Below w.heap.size w w0 := by rw [hw0]; repeat (first | exact Below.refl _ _ | apply Below.dr | apply Below.al)
  have hC0 : ∀ w', Below w0.heap.size w0 w' → w'.cell? ⟨w.heap.size, 0, none⟩ = some (.int .u64 ah) ∧ w'.cell? ⟨w.heap.size, 1, none⟩ = some (.int .u64 al) ∧ w'.cell? ⟨w.heap.size + 1, 0, none⟩ = some (.int .u64 bh) ∧ w'.cell? ⟨w.heap.size + 1, 1, none⟩ = some (.int .u64 bl) := by
    intro w' h
    refine ⟨keepc h ?_, keepc h ?_, keepc h ?_, keepc h ?_⟩ <;> (rw [hw0]; simp [go_sem, World.cell?_alloc_past])
  rw [← hw0]
  clear hw0
  cases hx : preV ah al n with
  | none =>
    rw [hx] at c1 c2
    simp only at c1 c2
    refine (kept (c1 _) (Below.refl _ _) hC0).mono ?_
    rintro e u1 ⟨rfl, ⟨k0, k1, k2, k3⟩, hb1⟩
    have q0 := fun o => keepc (Below.al (Below.refl _ u1) o) k0
    have q1 := fun o => keepc (Below.al (Below.refl _ u1) o) k1
    go_wp2_with (go_at_call 20; refine (c2 _).mono ?_; rintro e u2 ⟨rfl, hb2⟩)
    go_ret
    exact ⟨rfl, Below.al (bel_via (Below.al (bel_via b0 hb1) _) hb2) _⟩
  | some x =>
    obtain ⟨xh, xl⟩ := x
    rw [hx] at c1 c2
    simp only at c1 c2
    have hself := has_self h0 h1 hx
    have hle := (pre_self h0 h1 hx).1
    simp only at hself hle
    refine (kept (c1 _) (Below.refl _ _) hC0).mono ?_
    rintro e u1 ⟨rfl, ⟨k0, k1, k2, k3⟩, hb1⟩
    have q0 := fun o => keepc (Below.al (Below.refl _ u1) o) k0
    have q1 := fun o => keepc (Below.al (Below.refl _ u1) o) k1
    obtain ⟨N1, hN1⟩ : ∃ N, N = u1.heap.size := ⟨_, rfl⟩
    have bu1 : Below w.heap.size w u1 := bel_via b0 hb1
    go_wp2_with fail
    rw [← hN1]
    obtain ⟨w1, hw1⟩ : ∃ v, v = u1.alloc (Obj.cells #[Value.int IntKind.u64 ah, Value.int IntKind.u64 al, Value.int IntKind.u64 xh, Value.int IntKind.u64 xl] 36) := ⟨_, rfl⟩
    have bw1 : Below w.heap.size w w1 := by rw [hw1]; exact Below.al bu1 _
    have hCw1 : ∀ w', Below w1.heap.size w1 w' → w'.cell? ⟨w.heap.size, 0, none⟩ = some (.int .u64 ah) ∧ w'.cell? ⟨w.heap.size, 1, none⟩ = some (.int .u64 al) ∧ w'.cell? ⟨w.heap.size + 1, 0, none⟩ = some (.int .u64 bh) ∧ w'.cell? ⟨w.heap.size + 1, 1, none⟩ = some (.int .u64 bl) ∧ w'.cell? ⟨N1, 0, none⟩ = some (.int .u64 ah) ∧ w'.cell? ⟨N1, 1, none⟩ = some (.int .u64 al) ∧ w'.cell? ⟨N1, 2, none⟩ = some (.int .u64 xh) ∧ w'.cell? ⟨N1, 3, none⟩ = some (.int .u64 xl) := by
      intro w' h
      have al := fun {p : Addr} {v : Value} (hc : u1.cell? p = some v) => keepc h (by rw [hw1]; exact keepc (Below.al (Below.refl _ _) _) hc)
      refine ⟨al k0, al k1, al k2, al k3, keepc h ?_, keepc h ?_, keepc h ?_, keepc h ?_⟩ <;> (rw [hw1, hN1]; simp [go_sem])
    rw [← hw1]
    clear hw1 hN1
    refine (kept (c2 _) (Below.refl _ _) hCw1).mono ?_
    rintro e u2 ⟨rfl, ⟨k0, k1, k2, k3, k4, k5, k6, k7⟩, hb2⟩
    have bu2 : Below w.heap.size w u2 := bel_via bw1 hb2
    clear bu2
    have q0 := fun o => keepc (Below.al (Below.refl _ u2) o) k0
    have q1 := fun o => keepc (Below.al (Below.refl _ u2) o) k1
    have q2 := fun o => keepc (Below.al (Below.refl _ u2) o) k2
    have q3 := fun o => keepc (Below.al (Below.refl _ u2) o) k3
    have q4 := fun o => keepc (Below.al (Below.refl _ u2) o) k4
    have q5 := fun o => keepc (Below.al (Below.refl _ u2) o) k5
    have q6 := fun o => keepc (Below.al (Below.refl _ u2) o) k6
    have q7 := fun o => keepc (Below.al (Below.refl _ u2) o) k7
    rcases cmpA_or ah al xh xl with hX | hX | hX
    · go_wp2_with (first
        | (go_at_call 21; refine (kept (has_any _ _ _ _ _ _ _) (by repeat (first | assumption | apply Below.dr | apply Below.al)) hCw1).mono ?_; rintro e u4 ⟨rfl, ⟨k0, k1, k2, k3, k4, k5, k6, k7⟩, hb4⟩)
        | (go_at_call 7; refine (kept (cmp_any _ _ _ _ _) (by assumption) hCw1).mono ?_; rintro e u4 ⟨rfl, ⟨k0, k1, k2, k3, k4, k5, k6, k7⟩, hb4⟩))
      have c3 := pre_any bh bl m h2 h3 hm0 hm1
      unfold preT at c3
      cases hy : preV bh bl m with
      | none =>
        rw [hy] at c3
        simp only at c3
        refine (kept (c3 _) (by assumption) hCw1).mono ?_
        rintro e u5 ⟨rfl, ⟨k0, k1, k2, k3, k4, k5, k6, k7⟩, hb5⟩
        have bu3 : Below w.heap.size w u5 := bel_via bw1 hb5
        obtain ⟨N3, hN3⟩ : ∃ N, N = u5.heap.size := ⟨_, rfl⟩
        go_wp2_with fail
        rw [← hN3]
        obtain ⟨w3, hw3⟩ : ∃ v, v = u5.alloc (Obj.cells #[Value.int IntKind.u64 0, Value.int IntKind.u64 0, Value.int IntKind.u64 0, Value.int IntKind.u64 0] 36) := ⟨_, rfl⟩
        have bw3 : Below w.heap.size w w3 := by rw [hw3]; exact Below.al bu3 _
        have hCw3 : ∀ w', Below w3.heap.size w3 w' → w'.cell? ⟨w.heap.size, 0, none⟩ = some (.int .u64 ah) ∧ w'.cell? ⟨w.heap.size, 1, none⟩ = some (.int .u64 al) ∧ w'.cell? ⟨w.heap.size + 1, 0, none⟩ = some (.int .u64 bh) ∧ w'.cell? ⟨w.heap.size + 1, 1, none⟩ = some (.int .u64 bl) ∧ w'.cell? ⟨N1, 0, none⟩ = some (.int .u64 ah) ∧ w'.cell? ⟨N1, 1, none⟩ = some (.int .u64 al) ∧ w'.cell? ⟨N1, 2, none⟩ = some (.int .u64 xh) ∧ w'.cell? ⟨N1, 3, none⟩ = some (.int .u64 xl) ∧ w'.cell? ⟨N3, 0, none⟩ = some (.int .u64 0) ∧ w'.cell? ⟨N3, 1, none⟩ = some (.int .u64 0) ∧ w'.cell? ⟨N3, 2, none⟩ = some (.int .u64 0) ∧ w'.cell? ⟨N3, 3, none⟩ = some (.int .u64 0) := by
          intro w' h
          have al := fun {p : Addr} {v : Value} (hc : u5.cell? p = some v) => keepc h (by rw [hw3]; exact keepc (Below.al (Below.refl _ _) _) hc)
          refine ⟨al k0, al k1, al k2, al k3, al k4, al k5, al k6, al k7, keepc h ?_, keepc h ?_, keepc h ?_, keepc h ?_⟩ <;> (rw [hw3, hN3]; simp [go_sem])
        rw [← hw3]
        clear hw3 hN3
        have ⟨k0, k1, k2, k3, k4, k5, k6, k7, k8, k9, k10, k11⟩ := hCw3 w3 (Below.refl _ _)
        go_quiet (fail)
        go_wp2
        go_ret
        exact ⟨rfl, belN bw3 _⟩
      | some y =>
        obtain ⟨yh, yl⟩ := y
        rw [hy] at c3
        simp only at c3
        refine (kept (c3 _) (by assumption) hCw1).mono ?_
        rintro e u5 ⟨rfl, ⟨k0, k1, k2, k3, k4, k5, k6, k7⟩, hb5⟩
        have bu3 : Below w.heap.size w u5 := bel_via bw1 hb5
        obtain ⟨N3, hN3⟩ : ∃ N, N = u5.heap.size := ⟨_, rfl⟩
        go_wp2_with fail
        rw [← hN3]
        obtain ⟨w3, hw3⟩ : ∃ v, v = u5.alloc (Obj.cells #[Value.int IntKind.u64 bh, Value.int IntKind.u64 bl, Value.int IntKind.u64 yh, Value.int IntKind.u64 yl] 36) := ⟨_, rfl⟩
        have bw3 : Below w.heap.size w w3 := by rw [hw3]; exact Below.al bu3 _
        have hCw3 : ∀ w', Below w3.heap.size w3 w' → w'.cell? ⟨w.heap.size, 0, none⟩ = some (.int .u64 ah) ∧ w'.cell? ⟨w.heap.size, 1, none⟩ = some (.int .u64 al) ∧ w'.cell? ⟨w.heap.size + 1, 0, none⟩ = some (.int .u64 bh) ∧ w'.cell? ⟨w.heap.size + 1, 1, none⟩ = some (.int .u64 bl) ∧ w'.cell? ⟨N1, 0, none⟩ = some (.int .u64 ah) ∧ w'.cell? ⟨N1, 1, none⟩ = some (.int .u64 al) ∧ w'.cell? ⟨N1, 2, none⟩ = some (.int .u64 xh) ∧ w'.cell? ⟨N1, 3, none⟩ = some (.int .u64 xl) ∧ w'.cell? ⟨N3, 0, none⟩ = some (.int .u64 bh) ∧ w'.cell? ⟨N3, 1, none⟩ = some (.int .u64 bl) ∧ w'.cell? ⟨N3, 2, none⟩ = some (.int .u64 yh) ∧ w'.cell? ⟨N3, 3, none⟩ = some (.int .u64 yl) := by
          intro w' h
          have al := fun {p : Addr} {v : Value} (hc : u5.cell? p = some v) => keepc h (by rw [hw3]; exact keepc (Below.al (Below.refl _ _) _) hc)
          refine ⟨al k0, al k1, al k2, al k3, al k4, al k5, al k6, al k7, keepc h ?_, keepc h ?_, keepc h ?_, keepc h ?_⟩ <;> (rw [hw3, hN3]; simp [go_sem])
        rw [← hw3]
        clear hw3 hN3
        by_cases hnm : n < m
        · have ⟨k0, k1, k2, k3, k4, k5, k6, k7, k8, k9, k10, k11⟩ := hCw3 w3 (Below.refl _ _)
          go_quiet (fail)
          go_wp2
          go_ret
          exact ⟨rfl, belN bw3 _⟩
        · have hnm' : decide (n < m) = false := by simp [hnm]
          cases hi : is4I ah al <;> cases hi' : is4I bh bl
          · go_region_held3 (fun w' => Below w3.heap.size w3 w' ∧ w'.cell? ⟨w.heap.size, 0, none⟩ = some (.int .u64 ah) ∧ w'.cell? ⟨w.heap.size, 1, none⟩ = some (.int .u64 al) ∧ w'.cell? ⟨w.heap.size + 1, 0, none⟩ = some (.int .u64 bh) ∧ w'.cell? ⟨w.heap.size + 1, 1, none⟩ = some (.int .u64 bl) ∧ w'.cell? ⟨N1, 0, none⟩ = some (.int .u64 ah) ∧ w'.cell? ⟨N1, 1, none⟩ = some (.int .u64 al) ∧ w'.cell? ⟨N1, 2, none⟩ = some (.int .u64 xh) ∧ w'.cell? ⟨N1, 3, none⟩ = some (.int .u64 xl) ∧ w'.cell? ⟨N3, 0, none⟩ = some (.int .u64 bh) ∧ w'.cell? ⟨N3, 1, none⟩ = some (.int .u64 bl) ∧ w'.cell? ⟨N3, 2, none⟩ = some (.int .u64 yh) ∧ w'.cell? ⟨N3, 3, none⟩ = some (.int .u64 yl)) (first | exact keep00 hCw3 | exact keep0 hCw3 | exact keepD hCw3 (by assumption) | exact keepB hCw3 hb (by assumption))
              (first | (go_at_call 13; refine (is4_any _ _ ?_ ?_ _).mono ?_; (first | exact h0 | exact h2); (first | exact h1 | exact h3); rintro e w' ⟨rfl, hb⟩))
            have hE := nested h0 h1 h2 h3 (hi.trans hi'.symm) (by omega) hx hy
            simp only at hE
            all_goals go_wp2
            all_goals (go_region_held3 (fun w' => Below w3.heap.size w3 w' ∧ w'.cell? ⟨w.heap.size, 0, none⟩ = some (.int .u64 ah) ∧ w'.cell? ⟨w.heap.size, 1, none⟩ = some (.int .u64 al) ∧ w'.cell? ⟨w.heap.size + 1, 0, none⟩ = some (.int .u64 bh) ∧ w'.cell? ⟨w.heap.size + 1, 1, none⟩ = some (.int .u64 bl) ∧ w'.cell? ⟨N1, 0, none⟩ = some (.int .u64 ah) ∧ w'.cell? ⟨N1, 1, none⟩ = some (.int .u64 al) ∧ w'.cell? ⟨N1, 2, none⟩ = some (.int .u64 xh) ∧ w'.cell? ⟨N1, 3, none⟩ = some (.int .u64 xl) ∧ w'.cell? ⟨N3, 0, none⟩ = some (.int .u64 bh) ∧ w'.cell? ⟨N3, 1, none⟩ = some (.int .u64 bl) ∧ w'.cell? ⟨N3, 2, none⟩ = some (.int .u64 yh) ∧ w'.cell? ⟨N3, 3, none⟩ = some (.int .u64 yl)) (first | exact keep00 hCw3 | exact keep0 hCw3 | exact keepD hCw3 (by assumption) | exact keepB hCw3 hb (by assumption))
                (first | (go_at_call 21; refine (has_any _ _ _ _ _ _ _).mono ?_; rintro e w' ⟨rfl, hb⟩)))
            all_goals (go_wp2; go_ret; exact ⟨rfl, bel_via bw3 (And.left (by assumption))⟩)
          · go_region_held3 (fun w' => Below w3.heap.size w3 w' ∧ w'.cell? ⟨w.heap.size, 0, none⟩ = some (.int .u64 ah) ∧ w'.cell? ⟨w.heap.size, 1, none⟩ = some (.int .u64 al) ∧ w'.cell? ⟨w.heap.size + 1, 0, none⟩ = some (.int .u64 bh) ∧ w'.cell? ⟨w.heap.size + 1, 1, none⟩ = some (.int .u64 bl) ∧ w'.cell? ⟨N1, 0, none⟩ = some (.int .u64 ah) ∧ w'.cell? ⟨N1, 1, none⟩ = some (.int .u64 al) ∧ w'.cell? ⟨N1, 2, none⟩ = some (.int .u64 xh) ∧ w'.cell? ⟨N1, 3, none⟩ = some (.int .u64 xl) ∧ w'.cell? ⟨N3, 0, none⟩ = some (.int .u64 bh) ∧ w'.cell? ⟨N3, 1, none⟩ = some (.int .u64 bl) ∧ w'.cell? ⟨N3, 2, none⟩ = some (.int .u64 yh) ∧ w'.cell? ⟨N3, 3, none⟩ = some (.int .u64 yl)) (first | exact keep00 hCw3 | exact keep0 hCw3 | exact keepD hCw3 (by assumption) | exact keepB hCw3 hb (by assumption))
              (first | (go_at_call 13; refine (is4_any _ _ ?_ ?_ _).mono ?_; (first | exact h0 | exact h2); (first | exact h1 | exact h3); rintro e w' ⟨rfl, hb⟩))
            all_goals (go_wp2; go_ret; exact ⟨rfl, bel_via bw3 (And.left (by assumption))⟩)
          · go_region_held3 (fun w' => Below w3.heap.size w3 w' ∧ w'.cell? ⟨w.heap.size, 0, none⟩ = some (.int .u64 ah) ∧ w'.cell? ⟨w.heap.size, 1, none⟩ = some (.int .u64 al) ∧ w'.cell? ⟨w.heap.size + 1, 0, none⟩ = some (.int .u64 bh) ∧ w'.cell? ⟨w.heap.size + 1, 1, none⟩ = some (.int .u64 bl) ∧ w'.cell? ⟨N1, 0, none⟩ = some (.int .u64 ah) ∧ w'.cell? ⟨N1, 1, none⟩ = some (.int .u64 al) ∧ w'.cell? ⟨N1, 2, none⟩ = some (.int .u64 xh) ∧ w'.cell? ⟨N1, 3, none⟩ = some (.int .u64 xl) ∧ w'.cell? ⟨N3, 0, none⟩ = some (.int .u64 bh) ∧ w'.cell? ⟨N3, 1, none⟩ = some (.int .u64 bl) ∧ w'.cell? ⟨N3, 2, none⟩ = some (.int .u64 yh) ∧ w'.cell? ⟨N3, 3, none⟩ = some (.int .u64 yl)) (first | exact keep00 hCw3 | exact keep0 hCw3 | exact keepD hCw3 (by assumption) | exact keepB hCw3 hb (by assumption))
              (first | (go_at_call 13; refine (is4_any _ _ ?_ ?_ _).mono ?_; (first | exact h0 | exact h2); (first | exact h1 | exact h3); rintro e w' ⟨rfl, hb⟩))
            all_goals (go_wp2; go_ret; exact ⟨rfl, bel_via bw3 (And.left (by assumption))⟩)
          · go_region_held3 (fun w' => Below w3.heap.size w3 w' ∧ w'.cell? ⟨w.heap.size, 0, none⟩ = some (.int .u64 ah) ∧ w'.cell? ⟨w.heap.size, 1, none⟩ = some (.int .u64 al) ∧ w'.cell? ⟨w.heap.size + 1, 0, none⟩ = some (.int .u64 bh) ∧ w'.cell? ⟨w.heap.size + 1, 1, none⟩ = some (.int .u64 bl) ∧ w'.cell? ⟨N1, 0, none⟩ = some (.int .u64 ah) ∧ w'.cell? ⟨N1, 1, none⟩ = some (.int .u64 al) ∧ w'.cell? ⟨N1, 2, none⟩ = some (.int .u64 xh) ∧ w'.cell? ⟨N1, 3, none⟩ = some (.int .u64 xl) ∧ w'.cell? ⟨N3, 0, none⟩ = some (.int .u64 bh) ∧ w'.cell? ⟨N3, 1, none⟩ = some (.int .u64 bl) ∧ w'.cell? ⟨N3, 2, none⟩ = some (.int .u64 yh) ∧ w'.cell? ⟨N3, 3, none⟩ = some (.int .u64 yl)) (first | exact keep00 hCw3 | exact keep0 hCw3 | exact keepD hCw3 (by assumption) | exact keepB hCw3 hb (by assumption))
              (first | (go_at_call 13; refine (is4_any _ _ ?_ ?_ _).mono ?_; (first | exact h0 | exact h2); (first | exact h1 | exact h3); rintro e w' ⟨rfl, hb⟩))
            have hE := nested h0 h1 h2 h3 (hi.trans hi'.symm) (by omega) hx hy
            simp only at hE
            all_goals go_wp2
            all_goals (go_region_held3 (fun w' => Below w3.heap.size w3 w' ∧ w'.cell? ⟨w.heap.size, 0, none⟩ = some (.int .u64 ah) ∧ w'.cell? ⟨w.heap.size, 1, none⟩ = some (.int .u64 al) ∧ w'.cell? ⟨w.heap.size + 1, 0, none⟩ = some (.int .u64 bh) ∧ w'.cell? ⟨w.heap.size + 1, 1, none⟩ = some (.int .u64 bl) ∧ w'.cell? ⟨N1, 0, none⟩ = some (.int .u64 ah) ∧ w'.cell? ⟨N1, 1, none⟩ = some (.int .u64 al) ∧ w'.cell? ⟨N1, 2, none⟩ = some (.int .u64 xh) ∧ w'.cell? ⟨N1, 3, none⟩ = some (.int .u64 xl) ∧ w'.cell? ⟨N3, 0, none⟩ = some (.int .u64 bh) ∧ w'.cell? ⟨N3, 1, none⟩ = some (.int .u64 bl) ∧ w'.cell? ⟨N3, 2, none⟩ = some (.int .u64 yh) ∧ w'.cell? ⟨N3, 3, none⟩ = some (.int .u64 yl)) (first | exact keep00 hCw3 | exact keep0 hCw3 | exact keepD hCw3 (by assumption) | exact keepB hCw3 hb (by assumption))
                (first | (go_at_call 21; refine (has_any _ _ _ _ _ _ _).mono ?_; rintro e w' ⟨rfl, hb⟩)))
            all_goals (go_wp2; go_ret; exact ⟨rfl, bel_via bw3 (And.left (by assumption))⟩)
    · go_wp2_with (first
        | (go_at_call 21; refine (kept (has_any _ _ _ _ _ _ _) (by repeat (first | assumption | apply Below.dr | apply Below.al)) hCw1).mono ?_; rintro e u4 ⟨rfl, ⟨k0, k1, k2, k3, k4, k5, k6, k7⟩, hb4⟩)
        | (go_at_call 7; refine (kept (cmp_any _ _ _ _ _) (by assumption) hCw1).mono ?_; rintro e u4 ⟨rfl, ⟨k0, k1, k2, k3, k4, k5, k6, k7⟩, hb4⟩))
      have c3 := pre_any bh bl m h2 h3 hm0 hm1
      unfold preT at c3
      cases hy : preV bh bl m with
      | none =>
        rw [hy] at c3
        simp only at c3
        refine (kept (c3 _) (by assumption) hCw1).mono ?_
        rintro e u5 ⟨rfl, ⟨k0, k1, k2, k3, k4, k5, k6, k7⟩, hb5⟩
        have bu3 : Below w.heap.size w u5 := bel_via bw1 hb5
        obtain ⟨N3, hN3⟩ : ∃ N, N = u5.heap.size := ⟨_, rfl⟩
        go_wp2_with fail
        rw [← hN3]
        obtain ⟨w3, hw3⟩ : ∃ v, v = u5.alloc (Obj.cells #[Value.int IntKind.u64 0, Value.int IntKind.u64 0, Value.int IntKind.u64 0, Value.int IntKind.u64 0] 36) := ⟨_, rfl⟩
        have bw3 : Below w.heap.size w w3 := by rw [hw3]; exact Below.al bu3 _
        have hCw3 : ∀ w', Below w3.heap.size w3 w' → w'.cell? ⟨w.heap.size, 0, none⟩ = some (.int .u64 ah) ∧ w'.cell? ⟨w.heap.size, 1, none⟩ = some (.int .u64 al) ∧ w'.cell? ⟨w.heap.size + 1, 0, none⟩ = some (.int .u64 bh) ∧ w'.cell? ⟨w.heap.size + 1, 1, none⟩ = some (.int .u64 bl) ∧ w'.cell? ⟨N1, 0, none⟩ = some (.int .u64 ah) ∧ w'.cell? ⟨N1, 1, none⟩ = some (.int .u64 al) ∧ w'.cell? ⟨N1, 2, none⟩ = some (.int .u64 xh) ∧ w'.cell? ⟨N1, 3, none⟩ = some (.int .u64 xl) ∧ w'.cell? ⟨N3, 0, none⟩ = some (.int .u64 0) ∧ w'.cell? ⟨N3, 1, none⟩ = some (.int .u64 0) ∧ w'.cell? ⟨N3, 2, none⟩ = some (.int .u64 0) ∧ w'.cell? ⟨N3, 3, none⟩ = some (.int .u64 0) := by
          intro w' h
          have al := fun {p : Addr} {v : Value} (hc : u5.cell? p = some v) => keepc h (by rw [hw3]; exact keepc (Below.al (Below.refl _ _) _) hc)
          refine ⟨al k0, al k1, al k2, al k3, al k4, al k5, al k6, al k7, keepc h ?_, keepc h ?_, keepc h ?_, keepc h ?_⟩ <;> (rw [hw3, hN3]; simp [go_sem])
        rw [← hw3]
        clear hw3 hN3
        have ⟨k0, k1, k2, k3, k4, k5, k6, k7, k8, k9, k10, k11⟩ := hCw3 w3 (Below.refl _ _)
        go_quiet (fail)
        go_wp2
        go_ret
        exact ⟨rfl, belN bw3 _⟩
      | some y =>
        obtain ⟨yh, yl⟩ := y
        rw [hy] at c3
        simp only at c3
        refine (kept (c3 _) (by assumption) hCw1).mono ?_
        rintro e u5 ⟨rfl, ⟨k0, k1, k2, k3, k4, k5, k6, k7⟩, hb5⟩
        have bu3 : Below w.heap.size w u5 := bel_via bw1 hb5
        obtain ⟨N3, hN3⟩ : ∃ N, N = u5.heap.size := ⟨_, rfl⟩
        go_wp2_with fail
        rw [← hN3]
        obtain ⟨w3, hw3⟩ : ∃ v, v = u5.alloc (Obj.cells #[Value.int IntKind.u64 bh, Value.int IntKind.u64 bl, Value.int IntKind.u64 yh, Value.int IntKind.u64 yl] 36) := ⟨_, rfl⟩
        have bw3 : Below w.heap.size w w3 := by rw [hw3]; exact Below.al bu3 _
        have hCw3 : ∀ w', Below w3.heap.size w3 w' → w'.cell? ⟨w.heap.size, 0, none⟩ = some (.int .u64 ah) ∧ w'.cell? ⟨w.heap.size, 1, none⟩ = some (.int .u64 al) ∧ w'.cell? ⟨w.heap.size + 1, 0, none⟩ = some (.int .u64 bh) ∧ w'.cell? ⟨w.heap.size + 1, 1, none⟩ = some (.int .u64 bl) ∧ w'.cell? ⟨N1, 0, none⟩ = some (.int .u64 ah) ∧ w'.cell? ⟨N1, 1, none⟩ = some (.int .u64 al) ∧ w'.cell? ⟨N1, 2, none⟩ = some (.int .u64 xh) ∧ w'.cell? ⟨N1, 3, none⟩ = some (.int .u64 xl) ∧ w'.cell? ⟨N3, 0, none⟩ = some (.int .u64 bh) ∧ w'.cell? ⟨N3, 1, none⟩ = some (.int .u64 bl) ∧ w'.cell? ⟨N3, 2, none⟩ = some (.int .u64 yh) ∧ w'.cell? ⟨N3, 3, none⟩ = some (.int .u64 yl) := by
          intro w' h
          have al := fun {p : Addr} {v : Value} (hc : u5.cell? p = some v) => keepc h (by rw [hw3]; exact keepc (Below.al (Below.refl _ _) _) hc)
          refine ⟨al k0, al k1, al k2, al k3, al k4, al k5, al k6, al k7, keepc h ?_, keepc h ?_, keepc h ?_, keepc h ?_⟩ <;> (rw [hw3, hN3]; simp [go_sem])
        rw [← hw3]
        clear hw3 hN3
        by_cases hnm : n < m
        · have ⟨k0, k1, k2, k3, k4, k5, k6, k7, k8, k9, k10, k11⟩ := hCw3 w3 (Below.refl _ _)
          go_quiet (fail)
          go_wp2
          go_ret
          exact ⟨rfl, belN bw3 _⟩
        · have hnm' : decide (n < m) = false := by simp [hnm]
          cases hi : is4I ah al <;> cases hi' : is4I bh bl
          · go_region_held3 (fun w' => Below w3.heap.size w3 w' ∧ w'.cell? ⟨w.heap.size, 0, none⟩ = some (.int .u64 ah) ∧ w'.cell? ⟨w.heap.size, 1, none⟩ = some (.int .u64 al) ∧ w'.cell? ⟨w.heap.size + 1, 0, none⟩ = some (.int .u64 bh) ∧ w'.cell? ⟨w.heap.size + 1, 1, none⟩ = some (.int .u64 bl) ∧ w'.cell? ⟨N1, 0, none⟩ = some (.int .u64 ah) ∧ w'.cell? ⟨N1, 1, none⟩ = some (.int .u64 al) ∧ w'.cell? ⟨N1, 2, none⟩ = some (.int .u64 xh) ∧ w'.cell? ⟨N1, 3, none⟩ = some (.int .u64 xl) ∧ w'.cell? ⟨N3, 0, none⟩ = some (.int .u64 bh) ∧ w'.cell? ⟨N3, 1, none⟩ = some (.int .u64 bl) ∧ w'.cell? ⟨N3, 2, none⟩ = some (.int .u64 yh) ∧ w'.cell? ⟨N3, 3, none⟩ = some (.int .u64 yl)) (first | exact keep00 hCw3 | exact keep0 hCw3 | exact keepD hCw3 (by assumption) | exact keepB hCw3 hb (by assumption))
              (first | (go_at_call 13; refine (is4_any _ _ ?_ ?_ _).mono ?_; (first | exact h0 | exact h2); (first | exact h1 | exact h3); rintro e w' ⟨rfl, hb⟩))
            have hE := nested h0 h1 h2 h3 (hi.trans hi'.symm) (by omega) hx hy
            simp only at hE
            all_goals go_wp2
            all_goals (go_region_held3 (fun w' => Below w3.heap.size w3 w' ∧ w'.cell? ⟨w.heap.size, 0, none⟩ = some (.int .u64 ah) ∧ w'.cell? ⟨w.heap.size, 1, none⟩ = some (.int .u64 al) ∧ w'.cell? ⟨w.heap.size + 1, 0, none⟩ = some (.int .u64 bh) ∧ w'.cell? ⟨w.heap.size + 1, 1, none⟩ = some (.int .u64 bl) ∧ w'.cell? ⟨N1, 0, none⟩ = some (.int .u64 ah) ∧ w'.cell? ⟨N1, 1, none⟩ = some (.int .u64 al) ∧ w'.cell? ⟨N1, 2, none⟩ = some (.int .u64 xh) ∧ w'.cell? ⟨N1, 3, none⟩ = some (.int .u64 xl) ∧ w'.cell? ⟨N3, 0, none⟩ = some (.int .u64 bh) ∧ w'.cell? ⟨N3, 1, none⟩ = some (.int .u64 bl) ∧ w'.cell? ⟨N3, 2, none⟩ = some (.int .u64 yh) ∧ w'.cell? ⟨N3, 3, none⟩ = some (.int .u64 yl)) (first | exact keep00 hCw3 | exact keep0 hCw3 | exact keepD hCw3 (by assumption) | exact keepB hCw3 hb (by assumption))
                (first | (go_at_call 21; refine (has_any _ _ _ _ _ _ _).mono ?_; rintro e w' ⟨rfl, hb⟩)))
            all_goals (go_wp2; go_ret; exact ⟨rfl, bel_via bw3 (And.left (by assumption))⟩)
          · go_region_held3 (fun w' => Below w3.heap.size w3 w' ∧ w'.cell? ⟨w.heap.size, 0, none⟩ = some (.int .u64 ah) ∧ w'.cell? ⟨w.heap.size, 1, none⟩ = some (.int .u64 al) ∧ w'.cell? ⟨w.heap.size + 1, 0, none⟩ = some (.int .u64 bh) ∧ w'.cell? ⟨w.heap.size + 1, 1, none⟩ = some (.int .u64 bl) ∧ w'.cell? ⟨N1, 0, none⟩ = some (.int .u64 ah) ∧ w'.cell? ⟨N1, 1, none⟩ = some (.int .u64 al) ∧ w'.cell? ⟨N1, 2, none⟩ = some (.int .u64 xh) ∧ w'.cell? ⟨N1, 3, none⟩ = some (.int .u64 xl) ∧ w'.cell? ⟨N3, 0, none⟩ = some (.int .u64 bh) ∧ w'.cell? ⟨N3, 1, none⟩ = some (.int .u64 bl) ∧ w'.cell? ⟨N3, 2, none⟩ = some (.int .u64 yh) ∧ w'.cell? ⟨N3, 3, none⟩ = some (.int .u64 yl)) (first | exact keep00 hCw3 | exact keep0 hCw3 | exact keepD hCw3 (by assumption) | exact keepB hCw3 hb (by assumption))
              (first | (go_at_call 13; refine (is4_any _ _ ?_ ?_ _).mono ?_; (first | exact h0 | exact h2); (first | exact h1 | exact h3); rintro e w' ⟨rfl, hb⟩))
            all_goals (go_wp2; go_ret; exact ⟨rfl, bel_via bw3 (And.left (by assumption))⟩)
          · go_region_held3 (fun w' => Below w3.heap.size w3 w' ∧ w'.cell? ⟨w.heap.size, 0, none⟩ = some (.int .u64 ah) ∧ w'.cell? ⟨w.heap.size, 1, none⟩ = some (.int .u64 al) ∧ w'.cell? ⟨w.heap.size + 1, 0, none⟩ = some (.int .u64 bh) ∧ w'.cell? ⟨w.heap.size + 1, 1, none⟩ = some (.int .u64 bl) ∧ w'.cell? ⟨N1, 0, none⟩ = some (.int .u64 ah) ∧ w'.cell? ⟨N1, 1, none⟩ = some (.int .u64 al) ∧ w'.cell? ⟨N1, 2, none⟩ = some (.int .u64 xh) ∧ w'.cell? ⟨N1, 3, none⟩ = some (.int .u64 xl) ∧ w'.cell? ⟨N3, 0, none⟩ = some (.int .u64 bh) ∧ w'.cell? ⟨N3, 1, none⟩ = some (.int .u64 bl) ∧ w'.cell? ⟨N3, 2, none⟩ = some (.int .u64 yh) ∧ w'.cell? ⟨N3, 3, none⟩ = some (.int .u64 yl)) (first | exact keep00 hCw3 | exact keep0 hCw3 | exact keepD hCw3 (by assumption) | exact keepB hCw3 hb (by assumption))
              (first | (go_at_call 13; refine (is4_any _ _ ?_ ?_ _).mono ?_; (first | exact h0 | exact h2); (first | exact h1 | exact h3); rintro e w' ⟨rfl, hb⟩))
            all_goals (go_wp2; go_ret; exact ⟨rfl, bel_via bw3 (And.left (by assumption))⟩)
          · go_region_held3 (fun w' => Below w3.heap.size w3 w' ∧ w'.cell? ⟨w.heap.size, 0, none⟩ = some (.int .u64 ah) ∧ w'.cell? ⟨w.heap.size, 1, none⟩ = some (.int .u64 al) ∧ w'.cell? ⟨w.heap.size + 1, 0, none⟩ = some (.int .u64 bh) ∧ w'.cell? ⟨w.heap.size + 1, 1, none⟩ = some (.int .u64 bl) ∧ w'.cell? ⟨N1, 0, none⟩ = some (.int .u64 ah) ∧ w'.cell? ⟨N1, 1, none⟩ = some (.int .u64 al) ∧ w'.cell? ⟨N1, 2, none⟩ = some (.int .u64 xh) ∧ w'.cell? ⟨N1, 3, none⟩ = some (.int .u64 xl) ∧ w'.cell? ⟨N3, 0, none⟩ = some (.int .u64 bh) ∧ w'.cell? ⟨N3, 1, none⟩ = some (.int .u64 bl) ∧ w'.cell? ⟨N3, 2, none⟩ = some (.int .u64 yh) ∧ w'.cell? ⟨N3, 3, none⟩ = some (.int .u64 yl)) (first | exact keep00 hCw3 | exact keep0 hCw3 | exact keepD hCw3 (by assumption) | exact keepB hCw3 hb (by assumption))
              (first | (go_at_call 13; refine (is4_any _ _ ?_ ?_ _).mono ?_; (first | exact h0 | exact h2); (first | exact h1 | exact h3); rintro e w' ⟨rfl, hb⟩))
            have hE := nested h0 h1 h2 h3 (hi.trans hi'.symm) (by omega) hx hy
            simp only at hE
            all_goals go_wp2
            all_goals (go_region_held3 (fun w' => Below w3.heap.size w3 w' ∧ w'.cell? ⟨w.heap.size, 0, none⟩ = some (.int .u64 ah) ∧ w'.cell? ⟨w.heap.size, 1, none⟩ = some (.int .u64 al) ∧ w'.cell? ⟨w.heap.size + 1, 0, none⟩ = some (.int .u64 bh) ∧ w'.cell? ⟨w.heap.size + 1, 1, none⟩ = some (.int .u64 bl) ∧ w'.cell? ⟨N1, 0, none⟩ = some (.int .u64 ah) ∧ w'.cell? ⟨N1, 1, none⟩ = some (.int .u64 al) ∧ w'.cell? ⟨N1, 2, none⟩ = some (.int .u64 xh) ∧ w'.cell? ⟨N1, 3, none⟩ = some (.int .u64 xl) ∧ w'.cell? ⟨N3, 0, none⟩ = some (.int .u64 bh) ∧ w'.cell? ⟨N3, 1, none⟩ = some (.int .u64 bl) ∧ w'.cell? ⟨N3, 2, none⟩ = some (.int .u64 yh) ∧ w'.cell? ⟨N3, 3, none⟩ = some (.int .u64 yl)) (first | exact keep00 hCw3 | exact keep0 hCw3 | exact keepD hCw3 (by assumption) | exact keepB hCw3 hb (by assumption))
                (first | (go_at_call 21; refine (has_any _ _ _ _ _ _ _).mono ?_; rintro e w' ⟨rfl, hb⟩)))
            all_goals (go_wp2; go_ret; exact ⟨rfl, bel_via bw3 (And.left (by assumption))⟩)
    · exact absurd hle (by rw [hX]; decide)
end Go.Proofs.Ytdocpkeegmkknaa
