/- How many first bits a range's ends share, and whether it is a prefix; by-name template. -/
import Derived.Test.YtmnnjkdmnfadhaaGreatDoorARngP
import Derived.Test.YtmnnjkdmnfadhaaGreatDoorAPre
import Derived.Test.YtmnnjkdmnfadhaaGreatDoorAFourP
namespace Go.Proofs.YtmnnjkdmnfadhaaGreatDoor
open Go.RowKit
set_option linter.unusedVariables false
set_option linter.unusedSimpArgs false

def commonV (fh fl th tl : Int) : Int := if bits .xor .u64 fh th = 0 then 64 + (64 - (Lib.bitLen (bits .xor .u64 fl tl).toNat : Int)) else 64 - (Lib.bitLen (bits .xor .u64 fh th).toNat : Int)

theorem common_bd (fh fl th tl : Int) : 0 ≤ commonV fh fl th tl ∧ commonV fh fl th tl ≤ 128 := by
  unfold commonV
  have h1 := wrap_within .u64 (0 : Int)
  have a0 : 0 ≤ bits .xor .u64 fh th ∧ bits .xor .u64 fh th ≤ 18446744073709551615 := wrap_within .u64 _
  have b0 : 0 ≤ bits .xor .u64 fl tl ∧ bits .xor .u64 fl tl ≤ 18446744073709551615 := wrap_within .u64 _
  have a1 := bitLen_64 (x := (bits .xor .u64 fh th).toNat) (by omega)
  have b1 := bitLen_64 (x := (bits .xor .u64 fl tl).toNat) (by omega)
  split <;> omega

set_option maxHeartbeats 1000000 in
set_option maxRecDepth 100000 in
theorem common_any (fh fl th tl : Int) (w : World) : Calls Tryz.prog 141 #[.agg #[.int .u64 fh, .int .u64 fl, .int .u64 th, .int .u64 tl]] w fun e w' => e = .returned (.int .i64 (commonV fh fl th tl)) ∧ Below w.heap.size w w' := by
  have a0 : 0 ≤ bits .xor .u64 fh th ∧ bits .xor .u64 fh th ≤ 18446744073709551615 := wrap_within .u64 _
  have b0 : 0 ≤ bits .xor .u64 fl tl ∧ bits .xor .u64 fl tl ≤ 18446744073709551615 := wrap_within .u64 _
  have hbd := common_bd fh fl th tl
  have a1 := bitLen_64 (x := (bits .xor .u64 fh th).toNat) (by omega)
  have b1 := bitLen_64 (x := (bits .xor .u64 fl tl).toNat) (by omega)
  have l1 := fun W => (Tryz.bits_LeadingZeros64 (bits .xor .u64 fh th) W a0.1 a0.2).mono (fun e w' ⟨h1, h2⟩ => show e = _ ∧ W = w' from ⟨h1, h2.symm⟩)
  have l2 := fun W => (Tryz.bits_LeadingZeros64 (bits .xor .u64 fl tl) W b0.1 b0.2).mono (fun e w' ⟨h1, h2⟩ => show e = _ ∧ W = w' from ⟨h1, h2.symm⟩)
  obtain ⟨C, hC⟩ : ∃ C, C = commonV fh fl th tl := ⟨_, rfl⟩
  rw [← hC] at hbd ⊢
  unfold commonV at hC
  obtain ⟨X, hX⟩ : ∃ X, X = bits .xor .u64 fh th := ⟨_, rfl⟩
  obtain ⟨Y, hY⟩ : ∃ Y, Y = bits .xor .u64 fl tl := ⟨_, rfl⟩
  rw [← hX] at hC a0 a1 l1
  rw [← hY] at hC b0 b1 l2
  have hX' := hX.symm
  have hY' := hY.symm
  clear hX hY
  by_cases h0 : X = 0
  · rw [if_pos h0] at hC
    have h0b : (X != 0) = false := by rw [h0]; rfl
    obtain ⟨Z, hZ⟩ : ∃ Z : Int, Z = 64 - (Lib.bitLen Y.toNat : Int) := ⟨_, rfl⟩
    rw [← hZ] at l2 hC
    have hZb : 0 ≤ Z ∧ Z ≤ 64 := by omega
    obtain ⟨z0, z1⟩ := hZb
    have HC := Lib.hid hC
    clear hC hZ l1 a1 b1 hbd h0
    go_enter Tryz.func141, Tryz.ntmps141
    go_wp2_with (go_at_call 160; refine (l2 _).mono ?_; rintro e w' ⟨rfl, rfl⟩)
    go_ret
    exact ⟨by rw [HC.out]; rfl, Below.al (Below.refl _ _) _⟩
  · rw [if_neg h0] at hC
    have h0b : (X != 0) = true := by simp [h0]
    have h0c : (X == 0) = false := by simp [h0]
    rw [← hC] at l1
    clear hC l2 a1 b1 hbd
    go_enter Tryz.func141, Tryz.ntmps141
    go_wp2_with (go_at_call 160; refine (l1 _).mono ?_; rintro e w' ⟨rfl, rfl⟩)
    go_ret
    exact ⟨rfl, Below.al (Below.refl _ _) _⟩

theorem Below.drN {B : Nat} {w w' : World} (h : Below B w w') (n : Nat) : Below B w (w'.drewN n) := ⟨h.os, h.tape, h.output, h.size, h.block⟩

theorem rcells_of {w : World} {B : Nat} {x y z u : Value} {t : TypeId} (h : w.heap[B]? = some (.cells #[x, y, z, u] t (0, 0))) : w.cell? ⟨B, 0, none⟩ = some x ∧ w.cell? ⟨B, 1, none⟩ = some y ∧ w.cell? ⟨B, 2, none⟩ = some z ∧ w.cell? ⟨B, 3, none⟩ = some u := by
  refine ⟨?_, ?_, ?_, ?_⟩ <;> simp [World.cell?, h]

/-- What prefixBits tells: of how many bits, and whether just that prefix is the range. -/
def BitsPost (fh fl th tl : Int) (w : World) (e : Ending) (w' : World) : Prop :=
  ∃ (n : Int) (ok : Bool), e = .returned (.tuple #[.int .i64 n, .bool ok]) ∧ (ok = true → preV fh fl n = some (th, tl)) ∧ Below w.heap.size w w' ∧ Hid (n = commonV fh fl th tl - (ahead fh fl : Int)) ∧ (ok = false → preV fh fl n ≠ some (th, tl))

set_option maxHeartbeats 2000000 in
set_option maxRecDepth 100000 in
theorem pbits_any (fh fl th tl : Int) (h0 : Word fh) (h1 : Word fl) (w : World) : Calls Tryz.prog 103 #[.agg #[.int .u64 fh, .int .u64 fl, .int .u64 th, .int .u64 tl]] w (BitsPost fh fl th tl w) := by
  have hbd := common_bd fh fl th tl
  have cc := common_any fh fl th tl
  have cb := fun W => (bitsAhead_any fh fl h0 h1 W).mono (fun e w' ⟨h1, h2⟩ => show e = _ ∧ Below W.heap.size W w' from ⟨h1, by rw [h2]; exact Below.al (Below.al (Below.refl _ _) _) _⟩)
  have hab : ahead fh fl ≤ 96 := by unfold ahead; split <;> omega
  obtain ⟨C, hC⟩ : ∃ C, C = commonV fh fl th tl := ⟨_, rfl⟩
  obtain ⟨D, hD⟩ : ∃ D, D = ahead fh fl := ⟨_, rfl⟩
  rw [← hC] at cc hbd
  rw [← hD] at cb hab
  obtain ⟨hb0, hb1⟩ := hbd
  have hDi : (D : Int) ≤ 96 := by omega
  obtain ⟨n, hn⟩ : ∃ n : Int, n = C - (D : Int) := ⟨_, rfl⟩
  have cpf := fun W => pre_any fh fl n h0 h1 (by omega) (by omega) W
  have en : C - (D : Int) = n := hn.symm
  have hn0 : -96 ≤ n := by omega
  have hn1 : n ≤ 128 := by omega
  have ew : IntKind.i64.wrap n = n := IntWalk.i64_in _ (by omega)
  have HN : Hid (n = commonV fh fl th tl - (ahead fh fl : Int)) := Lib.hid (by rw [hn, hC, hD])
  clear hC hD hn
  go_enter Tryz.func103, Tryz.ntmps103
  go_wp2
  obtain ⟨w1, hw1⟩ : ∃ v, v = w.alloc (.cells #[.int .u64 fh, .int .u64 fl, .int .u64 th, .int .u64 tl] 45) := ⟨_, rfl⟩
  have bw1 : Below w.heap.size w w1 := by rw [hw1]; exact Below.al (Below.refl _ _) _
  have hR1 : w1.heap[w.heap.size]? = some (.cells #[.int .u64 fh, .int .u64 fl, .int .u64 th, .int .u64 tl] 45 (0, 0)) := by rw [hw1]; exact al_new rfl _
  obtain ⟨BR, hBR⟩ : ∃ b, b = w.heap.size := ⟨_, rfl⟩
  rw [← hw1, ← hBR]
  rw [← hBR] at hR1
  have hlt1 : BR < w1.heap.size := (Array.getElem?_eq_some_iff.1 hR1).1
  obtain ⟨c0, c1, c2, c3⟩ := rcells_of hR1
  have hC1 : ∀ w', Below w1.heap.size w1 w' → w'.cell? ⟨BR, 0, none⟩ = some (.int .u64 fh) ∧ w'.cell? ⟨BR, 1, none⟩ = some (.int .u64 fl) ∧ w'.cell? ⟨BR, 2, none⟩ = some (.int .u64 th) ∧ w'.cell? ⟨BR, 3, none⟩ = some (.int .u64 tl) :=
    fun w' h => ⟨keepc h c0, keepc h c1, keepc h c2, keepc h c3⟩
  clear hw1 hBR c0 c1 c2 c3
  go_region_held3 (fun w' => Below w1.heap.size w1 w' ∧ w'.cell? ⟨BR, 0, none⟩ = some (.int .u64 fh) ∧ w'.cell? ⟨BR, 1, none⟩ = some (.int .u64 fl) ∧ w'.cell? ⟨BR, 2, none⟩ = some (.int .u64 th) ∧ w'.cell? ⟨BR, 3, none⟩ = some (.int .u64 tl)) (first | exact keep00 hC1 | exact keep0 hC1 | exact keepD hC1 (by assumption) | exact keepB hC1 hb (by assumption) | exact keepB hC1 (by assumption) (by assumption))
    (first
      | (go_at_call 141; refine (cc _).mono ?_; rintro e w' ⟨rfl, hb⟩)
      | (go_at_call 114; refine (cb _).mono ?_; rintro e w' ⟨rfl, hb⟩))
  obtain ⟨hbS, s0, s1, s2, s3⟩ : Below w1.heap.size w1 _ ∧ _ ∧ _ ∧ _ ∧ _ := by assumption
  have bS := bel_via bw1 hbS
  clear hC1
  cases hp : preV fh fl n with
  | none =>
    have e : preT fh fl n = .tuple #[.agg #[.int .u64 0, .int .u64 0, .int .u64 0, .int .u64 0], .int .i64 31] := by unfold preT; rw [hp]
    rw [e] at cpf
    have HP := Lib.hid hp
    clear hp e
    go_wp2_with (go_at_call 62; refine (cpf _).mono ?_; rintro e w3 ⟨rfl, hb3⟩; refine Hid.out ?_)
    have b3 := bel_via bS hb3
    refine Lib.hid ?_
    go_wp2
    go_quiet (fail)
    go_wp2
    go_ret2
    exact ⟨n, false, rfl, (fun h => by cases h), Below.drN (Below.al b3 _) _, HN, fun _ => by rw [HP.out]; simp⟩
  | some x =>
    have e : preT fh fl n = .tuple #[.agg #[.int .u64 fh, .int .u64 fl, .int .u64 x.1, .int .u64 x.2], .int .i64 0] := by unfold preT; rw [hp]
    rw [e] at cpf
    have HP := Lib.hid hp
    clear hp e
    obtain ⟨x1, x2⟩ := x
    simp only at cpf
    go_wp2_with (go_at_call 62; refine (cpf _).mono ?_; rintro e w3 ⟨rfl, hb3⟩; refine Hid.out ?_)
    have b3 := bel_via bS hb3
    have r0 := fun o => keepc (Below.al (Below.refl _ w3) o) (keepc hb3 s0)
    have r1 := fun o => keepc (Below.al (Below.refl _ w3) o) (keepc hb3 s1)
    have r2 := fun o => keepc (Below.al (Below.refl _ w3) o) (keepc hb3 s2)
    have r3 := fun o => keepc (Below.al (Below.refl _ w3) o) (keepc hb3 s3)
    clear s0 s1 s2 s3 hbS hb3
    refine Lib.hid ?_
    by_cases e1 : x1 = th
    · by_cases e2 : x2 = tl
      · subst e1; subst e2
        go_wp2
        go_quiet (fail)
        go_wp2
        go_ret2
        exact ⟨n, true, by simp, (fun _ => HP.out), Below.drN (Below.al b3 _) _, HN, fun h => by cases h⟩
      · subst e1
        have e2b : (x2 == tl) = false := by simp [e2]
        go_wp2
        go_quiet (fail)
        go_wp2
        go_ret2
        exact ⟨n, false, by simp [e2], (fun h => by cases h), Below.drN (Below.al b3 _) _, HN, fun _ => by rw [HP.out]; simp [e2]⟩
    · have e1b : (x1 == th) = false := by simp [e1]
      go_wp2
      go_quiet (fail)
      go_wp2
      go_ret2
      exact ⟨n, false, by simp [e1], (fun h => by cases h), Below.drN (Below.al b3 _) _, HN, fun _ => by rw [HP.out]; simp [e1]⟩
end Go.Proofs.YtmnnjkdmnfadhaaGreatDoor
