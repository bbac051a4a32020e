/- BucketParts' walk; by-name template. -/
import Derived.Test.YtdpfeddfpdmfkaaTRate
namespace Go.Proofs.Ytdpfeddfpdmfkaa
open Go.RowKit Go.Lib
set_option linter.unusedVariables false

theorem take_zero {D : BK} {t : Int} (e : learnP D t = D) (h : 0 ≤ D.n) : takeB D t 0 = true ∧ takeD D t 0 = D := by
  have hb : takeB D t 0 = true := by unfold takeB; rw [e]; simp; omega
  exact ⟨hb, by unfold takeD; rw [hb, e]; simp⟩

set_option maxHeartbeats 2000000 in
theorem parts_walk (x y z : Int) {w : World} (hx : 0 ≤ x ∧ x < 65536) (hy : 0 ≤ y ∧ y < 65536) (hz : 0 ≤ z ∧ z < 256) :
    Calls Try.prog 3 #[.int .u16 x, .int .u16 y, .int .u8 z] w fun e w' => e = .returned (.bool true) ∧ Below w.heap.size w w' := by
  have h00 : i64ok 0 := by unfold i64ok; decide
  obtain ⟨p, hp⟩ : ∃ p, x.tmod 50 = p := ⟨_, rfl⟩
  obtain ⟨q, hq⟩ : ∃ q, y.tmod 500 = q := ⟨_, rfl⟩
  have p0 : 0 ≤ p := by rw [← hp, Int.tmod_eq_emod_of_nonneg hx.1]; omega
  have p1 : p ≤ 49 := by rw [← hp, Int.tmod_eq_emod_of_nonneg hx.1]; omega
  have q0 : 0 ≤ q := by rw [← hq, Int.tmod_eq_emod_of_nonneg hy.1]; omega
  have q1 : q ≤ 499 := by rw [← hq, Int.tmod_eq_emod_of_nonneg hy.1]; omega
  have pi : IntKind.i64.wrap p = p := i64_self (by unfold i64ok; omega)
  have qi : IntKind.i64.wrap q = q := i64_self (by unfold i64ok; omega)
  have zi : IntKind.i64.wrap z = z := i64_self (by unfold i64ok; omega)
  have zo : i64ok z := by unfold i64ok; omega
  have q1i : IntKind.i64.wrap (q + 1) = q + 1 := i64_self (by unfold i64ok; omega)
  have px0 : 0 ≤ p * z := Int.mul_nonneg p0 hz.1
  have px1 : p * z ≤ 49 * 256 := by
    have a : p * z ≤ 49 * z := Int.mul_le_mul_of_nonneg_right p1 hz.1
    omega
  obtain ⟨X, hX⟩ : ∃ X, p * z = X := ⟨_, rfl⟩
  rw [hX] at px0 px1
  have Xi : IntKind.i64.wrap X = X := i64_self (by unfold i64ok; omega)
  obtain ⟨N, hN⟩ : ∃ N, N = min (q + 1) X := ⟨_, rfl⟩
  have n0 : 0 ≤ N := by omega
  have n1 : N ≤ q + 1 := by omega
  have hD0 : newP p (q + 1) 0 = ⟨p, q + 1, q + 1, 0⟩ := by unfold newP; congr 1 <;> omega
  have hnew := fun w => new_at p (q + 1) 0 w
  have g0 := good_new p (q + 1) 0 h00
  rw [hD0] at hnew g0
  have idz : ∀ m, learnP ⟨p, q + 1, m, z⟩ z = ⟨p, q + 1, m, z⟩ := fun m => learn_old (Int.le_refl _)
  have hg : ∀ m, 0 ≤ m → m ≤ q + 1 → Good ⟨p, q + 1, m, z⟩ := fun m a b => ⟨p0, by simp only; omega, by simp only; omega, by simp only; omega, a, b, zo⟩
  have tk0 : ∀ B w', BkAt 41 w' B ⟨p, q + 1, q + 1, 0⟩ → Calls Try.prog 9 #[.pointer (some ⟨B, 0, none⟩), .int .i64 0, .int .i64 (q + 1)] w' fun e w'' => e = .returned (.bool true) ∧ BkAt 41 w'' B ⟨p, q + 1, 0, 0⟩ ∧ Off B w' w'' := by
    intro B w' h
    have := take_any h g0 h00 (q + 1)
    have e1 : takeB ⟨p, q + 1, q + 1, 0⟩ 0 (q + 1) = true := by unfold takeB; rw [learn_old (by simp)]; simp; omega
    have e2 : takeD ⟨p, q + 1, q + 1, 0⟩ 0 (q + 1) = ⟨p, q + 1, 0, 0⟩ := by unfold takeD; rw [e1, learn_old (by simp)]; simp
    rw [e1, e2] at this
    exact this
  have to1 : ∀ B w', BkAt 41 w' B ⟨p, q + 1, 0, 0⟩ → Calls Try.prog 10 #[.pointer (some ⟨B, 0, none⟩), .int .i64 z] w' fun e w'' => e = .returned (.int .i64 N) ∧ BkAt 41 w'' B ⟨p, q + 1, N, z⟩ ∧ Off B w' w'' := by
    intro B w' h
    have gg : Good ⟨p, q + 1, 0, 0⟩ := ⟨p0, by simp only; omega, by simp only; omega, by simp only; omega, by simp, by simp only; omega, h00⟩
    have := tokens_any h gg zo
    have e1 : learnP ⟨p, q + 1, 0, 0⟩ z = ⟨p, q + 1, N, z⟩ := by
      unfold learnP
      split
      · rename_i hh
        simp only at hh
        have hz0 : z = 0 := by omega
        rw [hz0] at hX
        have : N = 0 := by rw [hN, ← hX]; simp; omega
        rw [this, hz0]
      · simp only
        rw [show (0 : Int) + p * (z - 0) = X by rw [← hX]; simp, hN, Int.min_comm]
    rw [e1] at this
    exact this
  have tky : ∀ B (T : Nat) w', (T : Int) < N → BkAt 41 w' B ⟨p, q + 1, N - T, z⟩ → Calls Try.prog 9 #[.pointer (some ⟨B, 0, none⟩), .int .i64 z, .int .i64 1] w' fun e w'' => e = .returned (.bool true) ∧ BkAt 41 w'' B ⟨p, q + 1, N - ((T + 1 : Nat) : Int), z⟩ ∧ Off B w' w'' := by
    intro B T w' hT h
    have := take_any h (hg _ (by omega) (by omega)) zo 1
    have ty := takeB_yes (idz (N - T)) (by simp only; omega)
    rw [ty.1, ty.2] at this
    have e : N - (T : Int) - 1 = N - ((T + 1 : Nat) : Int) := by push_cast; omega
    simp only [e] at this
    exact this
  have tkn : ∀ B w', BkAt 41 w' B ⟨p, q + 1, 0, z⟩ → Calls Try.prog 9 #[.pointer (some ⟨B, 0, none⟩), .int .i64 z, .int .i64 1] w' fun e w'' => e = .returned (.bool false) ∧ BkAt 41 w'' B ⟨p, q + 1, 0, z⟩ ∧ Off B w' w'' := by
    intro B w' h
    have := take_any h (hg _ (by omega) (by omega)) zo 1
    have ty := takeB_no (idz 0) (by simp)
    rw [ty.1, ty.2] at this
    exact this
  have tkz : ∀ B w', BkAt 41 w' B ⟨p, q + 1, 0, z⟩ → Calls Try.prog 9 #[.pointer (some ⟨B, 0, none⟩), .int .i64 z, .int .i64 0] w' fun e w'' => e = .returned (.bool true) ∧ BkAt 41 w'' B ⟨p, q + 1, 0, z⟩ ∧ Off B w' w'' := by
    intro B w' h
    have := take_any h (hg _ (by omega) (by omega)) zo 0
    have ty := take_zero (idz 0) (by simp)
    rw [ty.1, ty.2] at this
    exact this
  have HN := Lib.hid hN
  clear hN g0 hD0 idz hg
  go_enter Try.func3, Try.ntmps3
  go_wp2_with (first
    | (go_at_call 8; refine (hnew _).mono ?_; rintro e w1 ⟨B, rfl, hB, h1, b1⟩)
    | (go_at_call 9; refine (tk0 _ _ h1).mono ?_; rintro e w2 ⟨rfl, h2, o2⟩)
    | (go_at_call 10; refine (to1 _ _ h2).mono ?_; rintro e w3 ⟨rfl, h3, o3⟩))
  have bel := (b1.trans (o2.toBelow hB b1.size)).trans (o3.toBelow hB (Nat.le_trans b1.size o2.size))
  clear hnew tk0 to1 h1 h2 o2 o3 b1
  have HB := Lib.hid hB
  clear hB
  go_loopw [9] (fun tk wr => ∃ T : Nat, (T : Int) ≤ N ∧ tk = .int .i64 (T : Int) ∧ BkAt 41 wr B ⟨p, q + 1, N - T, z⟩ ∧ Below w.heap.size w wr) (fun tk _ => N.toNat - (intOf tk).toNat)
  case atStart => exact ⟨0, n0, rfl, by simpa using h3, bel⟩
  case round =>
    clear h3 bel
    obtain ⟨T, hT, rfl, hp3, hb⟩ := hrel
    by_cases hlt : (T : Int) < N
    · have hcall := tky B T wr hlt hp3
      go_wp2_with (go_at_call 9; refine hcall.mono ?_; rintro e w6 ⟨rfl, h6, o6⟩; have hb6 := hb.trans (o6.toBelow HB.out hb.size))
      go_roundw
      case rel => exact ⟨T + 1, by push_cast; omega, by go_num, h6, hb6⟩
      case measure => simp [intOf]; omega
    · have hTN : N = (T : Int) := by omega
      subst hTN
      rw [show (T : Int) - T = 0 by omega] at hp3
      clear tky
      have hN := HN.out
      by_cases hqx : q + 1 ≤ X
      · have e1 : ((T : Int) == q + 1) = true := by simp; omega
        clear hN hlt
        go_wp2_with (first
          | (go_at_call 9; with_reducible refine (tkz B w7 h7).mono ?_; rintro e w8 ⟨rfl, h8, o8⟩; have hb8 := hb7.trans (o8.toBelow HB.out hb7.size))
          | (go_at_call 9; with_reducible refine (tkn B w6 h6).mono ?_; rintro e w7 ⟨rfl, h7, o7⟩; have hb7 := hb6.trans (o7.toBelow HB.out hb6.size))
          | (go_at_call 9; with_reducible refine (tkn B wr hp3).mono ?_; rintro e w6 ⟨rfl, h6, o6⟩; have hb6 := hb.trans (o6.toBelow HB.out hb.size)))
        go_ret
        exact ⟨rfl, hb8⟩
      · have e1 : ((T : Int) == X) = true := by simp; omega
        have hqx2 : X < q + 1 := by omega
        clear hN hlt
        go_wp2_with (first
          | (go_at_call 9; with_reducible refine (tkz B w7 h7).mono ?_; rintro e w8 ⟨rfl, h8, o8⟩; have hb8 := hb7.trans (o8.toBelow HB.out hb7.size))
          | (go_at_call 9; with_reducible refine (tkn B w6 h6).mono ?_; rintro e w7 ⟨rfl, h7, o7⟩; have hb7 := hb6.trans (o7.toBelow HB.out hb6.size))
          | (go_at_call 9; with_reducible refine (tkn B wr hp3).mono ?_; rintro e w6 ⟨rfl, h6, o6⟩; have hb6 := hb.trans (o6.toBelow HB.out hb.size)))
        go_ret
        exact ⟨rfl, hb8⟩
end Go.Proofs.Ytdpfeddfpdmfkaa
