/- Check: the first of nine that is not 0; by-name template (gen_lchk.py). -/
import Derived.Test.YtmnnjkdmnfadhaaGreatDoorLCheck
namespace Go.Proofs.YtmnnjkdmnfadhaaGreatDoor
open Go.Shelf Go.RowKit Go.Lib Go.Sort
set_option linter.unusedVariables false
set_option linter.unusedSimpArgs false

def fromN (r : Nat → Int) : Nat → Nat → Int
  | _, 0 => 0
  | k, n + 1 => if r k = 0 then fromN r (k + 1) n else r k
theorem from_zero {r : Nat → Int} {k n : Nat} (h : r k = 0) : fromN r k (n + 1) = fromN r (k + 1) n := by rw [fromN, if_pos h]
theorem from_hit {r : Nat → Int} {k n : Nat} (h : r k ≠ 0) : fromN r k (n + 1) = r k := by rw [fromN, if_neg h]
theorem ret_int {a b : Int} (h : a = b) : Ending.returned (.int .i64 a) = Ending.returned (.int .i64 b) := by rw [h]

set_option maxHeartbeats 8000000 in
theorem check_any (c : CF) (r : Nat → Int) {w : World}
    (h0 : ∀ W, Below w.heap.size w W → Calls Tryz.prog 13 #[.agg (cfc c)] W fun e w' => e = .returned (.int .i64 (r 0)) ∧ Below W.heap.size W w')
    (h1 : ∀ W, Below w.heap.size w W → Calls Tryz.prog 14 #[.agg (cfc c)] W fun e w' => e = .returned (.int .i64 (r 1)) ∧ Below W.heap.size W w')
    (h2 : ∀ W, Below w.heap.size w W → Calls Tryz.prog 15 #[.agg (cfc c)] W fun e w' => e = .returned (.int .i64 (r 2)) ∧ Below W.heap.size W w')
    (h3 : ∀ W, Below w.heap.size w W → Calls Tryz.prog 16 #[.agg (cfc c)] W fun e w' => e = .returned (.int .i64 (r 3)) ∧ Below W.heap.size W w')
    (h4 : ∀ W, Below w.heap.size w W → Calls Tryz.prog 17 #[.agg (cfc c)] W fun e w' => e = .returned (.int .i64 (r 4)) ∧ Below W.heap.size W w')
    (h5 : ∀ W, Below w.heap.size w W → Calls Tryz.prog 18 #[.agg (cfc c)] W fun e w' => e = .returned (.int .i64 (r 5)) ∧ Below W.heap.size W w')
    (h6 : ∀ W, Below w.heap.size w W → Calls Tryz.prog 19 #[.agg (cfc c)] W fun e w' => e = .returned (.int .i64 (r 6)) ∧ Below W.heap.size W w')
    (h7 : ∀ W, Below w.heap.size w W → Calls Tryz.prog 20 #[.agg (cfc c)] W fun e w' => e = .returned (.int .i64 (r 7)) ∧ Below W.heap.size W w')
    (h8 : ∀ W, Below w.heap.size w W → Calls Tryz.prog 21 #[.agg (cfc c)] W fun e w' => e = .returned (.int .i64 (r 8)) ∧ Below W.heap.size W w')
    : Calls Tryz.prog 6 #[.agg (cfc c)] w fun e w' => e = .returned (.int .i64 (fromN r 0 9)) ∧ Below w.heap.size w w' := by
  obtain ⟨Q, hQ⟩ : ∃ Q, Q = fromN r 0 9 := ⟨_, rfl⟩
  rw [← hQ]
  have HQ := Lib.hid hQ
  clear hQ
  have i0 : ∀ W, (Instr.index 71 (.agg #[.func (.func 13) #[] #[], .func (.func 14) #[] #[], .func (.func 15) #[] #[], .func (.func 16) #[] #[], .func (.func 17) #[] #[], .func (.func 18) #[] #[], .func (.func 19) #[] #[], .func (.func 20) #[] #[], .func (.func 21) #[] #[]]) (.int .i64 0)).run Tryz.prog W = .ok (.func (.func 13) #[] #[]) W := fun _ => by kernel_rfl
  have i1 : ∀ W, (Instr.index 71 (.agg #[.func (.func 13) #[] #[], .func (.func 14) #[] #[], .func (.func 15) #[] #[], .func (.func 16) #[] #[], .func (.func 17) #[] #[], .func (.func 18) #[] #[], .func (.func 19) #[] #[], .func (.func 20) #[] #[], .func (.func 21) #[] #[]]) (.int .i64 1)).run Tryz.prog W = .ok (.func (.func 14) #[] #[]) W := fun _ => by kernel_rfl
  have i2 : ∀ W, (Instr.index 71 (.agg #[.func (.func 13) #[] #[], .func (.func 14) #[] #[], .func (.func 15) #[] #[], .func (.func 16) #[] #[], .func (.func 17) #[] #[], .func (.func 18) #[] #[], .func (.func 19) #[] #[], .func (.func 20) #[] #[], .func (.func 21) #[] #[]]) (.int .i64 2)).run Tryz.prog W = .ok (.func (.func 15) #[] #[]) W := fun _ => by kernel_rfl
  have i3 : ∀ W, (Instr.index 71 (.agg #[.func (.func 13) #[] #[], .func (.func 14) #[] #[], .func (.func 15) #[] #[], .func (.func 16) #[] #[], .func (.func 17) #[] #[], .func (.func 18) #[] #[], .func (.func 19) #[] #[], .func (.func 20) #[] #[], .func (.func 21) #[] #[]]) (.int .i64 3)).run Tryz.prog W = .ok (.func (.func 16) #[] #[]) W := fun _ => by kernel_rfl
  have i4 : ∀ W, (Instr.index 71 (.agg #[.func (.func 13) #[] #[], .func (.func 14) #[] #[], .func (.func 15) #[] #[], .func (.func 16) #[] #[], .func (.func 17) #[] #[], .func (.func 18) #[] #[], .func (.func 19) #[] #[], .func (.func 20) #[] #[], .func (.func 21) #[] #[]]) (.int .i64 4)).run Tryz.prog W = .ok (.func (.func 17) #[] #[]) W := fun _ => by kernel_rfl
  have i5 : ∀ W, (Instr.index 71 (.agg #[.func (.func 13) #[] #[], .func (.func 14) #[] #[], .func (.func 15) #[] #[], .func (.func 16) #[] #[], .func (.func 17) #[] #[], .func (.func 18) #[] #[], .func (.func 19) #[] #[], .func (.func 20) #[] #[], .func (.func 21) #[] #[]]) (.int .i64 5)).run Tryz.prog W = .ok (.func (.func 18) #[] #[]) W := fun _ => by kernel_rfl
  have i6 : ∀ W, (Instr.index 71 (.agg #[.func (.func 13) #[] #[], .func (.func 14) #[] #[], .func (.func 15) #[] #[], .func (.func 16) #[] #[], .func (.func 17) #[] #[], .func (.func 18) #[] #[], .func (.func 19) #[] #[], .func (.func 20) #[] #[], .func (.func 21) #[] #[]]) (.int .i64 6)).run Tryz.prog W = .ok (.func (.func 19) #[] #[]) W := fun _ => by kernel_rfl
  have i7 : ∀ W, (Instr.index 71 (.agg #[.func (.func 13) #[] #[], .func (.func 14) #[] #[], .func (.func 15) #[] #[], .func (.func 16) #[] #[], .func (.func 17) #[] #[], .func (.func 18) #[] #[], .func (.func 19) #[] #[], .func (.func 20) #[] #[], .func (.func 21) #[] #[]]) (.int .i64 7)).run Tryz.prog W = .ok (.func (.func 20) #[] #[]) W := fun _ => by kernel_rfl
  have i8 : ∀ W, (Instr.index 71 (.agg #[.func (.func 13) #[] #[], .func (.func 14) #[] #[], .func (.func 15) #[] #[], .func (.func 16) #[] #[], .func (.func 17) #[] #[], .func (.func 18) #[] #[], .func (.func 19) #[] #[], .func (.func 20) #[] #[], .func (.func 21) #[] #[]]) (.int .i64 8)).run Tryz.prog W = .ok (.func (.func 21) #[] #[]) W := fun _ => by kernel_rfl
  have b1 : Below w.heap.size w (w.alloc (.cells (cfc c) 30)) := Below.al (Below.refl _ _) _
  have hB := CfB.made w c
  have H0 := Lib.hid h0
  have H1 := Lib.hid h1
  have H2 := Lib.hid h2
  have H3 := Lib.hid h3
  have H4 := Lib.hid h4
  have H5 := Lib.hid h5
  have H6 := Lib.hid h6
  have H7 := Lib.hid h7
  have H8 := Lib.hid h8
  clear h0 h1 h2 h3 h4 h5 h6 h7 h8
  simp only [cfc] at *
  go_enter Tryz.func6, Tryz.ntmps6
  go_wp2
  generalize w.alloc (.cells #[.slice c.zA c.zn c.zc, .slice c.oA c.on c.oc, .slice c.sA c.sn c.sc, .slice c.lA c.ln c.lc, .slice c.tA c.tn c.tc, .slice c.nA c.nn c.nc, .slice c.uA c.un c.uc, .int .i64 c.dflt] 30) = W1 at *
  go_loopw [7] (fun vi wr => ∃ k : Nat, k ≤ 9 ∧ vi = .int .i64 k ∧ Aside (Q = fromN r k (9 - k)) ∧ Below W1.heap.size W1 wr) (fun vi _ => 9 - (intOf vi).toNat)
  case atStart => exact ⟨0, by omega, rfl, HQ.out, Below.refl _ _⟩
  case round =>
    obtain ⟨k, hk, rfl, N, hb⟩ := hrel
    obtain ⟨c0, c1, c2, c3, c4, c5, c6, c7⟩ := hB.keep hb
    clear hB
    by_cases hk0 : k = 0
    · subst hk0
      have cc := H0.out wr (bel_via b1 hb)
      obtain ⟨v, hv⟩ : ∃ v, v = r 0 := ⟨_, rfl⟩
      rw [← hv] at cc
      have HV := Lib.hid hv
      clear hv
      by_cases hz : v = 0
      · subst hz
        go_wp2_with (go_at_call 13; with_reducible refine cc.mono ?_; rintro e w2 ⟨rfl, hb2⟩)
        go_roundw
        case rel => exact ⟨1, by omega, rfl, (show Q = fromN r 1 8 from N.out.trans (from_zero (k := 0) (n := 8) HV.out.symm)), bel_via hb hb2⟩
        case measure => simp [intOf]
      · have hz1 : (v != 0) = true := by simp [hz]
        have HZ := Lib.hid hz
        clear hz
        go_wp2_with (go_at_call 13; with_reducible refine cc.mono ?_; rintro e w2 ⟨rfl, hb2⟩)
        go_ret
        exact ⟨ret_int (HV.out.trans (N.out.trans (from_hit (k := 0) (n := 8) (by rw [← HV.out]; exact HZ.out))).symm), bel_via b1 (bel_via hb hb2)⟩
    by_cases hk1 : k = 1
    · subst hk1
      have cc := H1.out wr (bel_via b1 hb)
      obtain ⟨v, hv⟩ : ∃ v, v = r 1 := ⟨_, rfl⟩
      rw [← hv] at cc
      have HV := Lib.hid hv
      clear hv
      by_cases hz : v = 0
      · subst hz
        go_wp2_with (go_at_call 14; with_reducible refine cc.mono ?_; rintro e w2 ⟨rfl, hb2⟩)
        go_roundw
        case rel => exact ⟨2, by omega, rfl, (show Q = fromN r 2 7 from N.out.trans (from_zero (k := 1) (n := 7) HV.out.symm)), bel_via hb hb2⟩
        case measure => simp [intOf]
      · have hz1 : (v != 0) = true := by simp [hz]
        have HZ := Lib.hid hz
        clear hz
        go_wp2_with (go_at_call 14; with_reducible refine cc.mono ?_; rintro e w2 ⟨rfl, hb2⟩)
        go_ret
        exact ⟨ret_int (HV.out.trans (N.out.trans (from_hit (k := 1) (n := 7) (by rw [← HV.out]; exact HZ.out))).symm), bel_via b1 (bel_via hb hb2)⟩
    by_cases hk2 : k = 2
    · subst hk2
      have cc := H2.out wr (bel_via b1 hb)
      obtain ⟨v, hv⟩ : ∃ v, v = r 2 := ⟨_, rfl⟩
      rw [← hv] at cc
      have HV := Lib.hid hv
      clear hv
      by_cases hz : v = 0
      · subst hz
        go_wp2_with (go_at_call 15; with_reducible refine cc.mono ?_; rintro e w2 ⟨rfl, hb2⟩)
        go_roundw
        case rel => exact ⟨3, by omega, rfl, (show Q = fromN r 3 6 from N.out.trans (from_zero (k := 2) (n := 6) HV.out.symm)), bel_via hb hb2⟩
        case measure => simp [intOf]
      · have hz1 : (v != 0) = true := by simp [hz]
        have HZ := Lib.hid hz
        clear hz
        go_wp2_with (go_at_call 15; with_reducible refine cc.mono ?_; rintro e w2 ⟨rfl, hb2⟩)
        go_ret
        exact ⟨ret_int (HV.out.trans (N.out.trans (from_hit (k := 2) (n := 6) (by rw [← HV.out]; exact HZ.out))).symm), bel_via b1 (bel_via hb hb2)⟩
    by_cases hk3 : k = 3
    · subst hk3
      have cc := H3.out wr (bel_via b1 hb)
      obtain ⟨v, hv⟩ : ∃ v, v = r 3 := ⟨_, rfl⟩
      rw [← hv] at cc
      have HV := Lib.hid hv
      clear hv
      by_cases hz : v = 0
      · subst hz
        go_wp2_with (go_at_call 16; with_reducible refine cc.mono ?_; rintro e w2 ⟨rfl, hb2⟩)
        go_roundw
        case rel => exact ⟨4, by omega, rfl, (show Q = fromN r 4 5 from N.out.trans (from_zero (k := 3) (n := 5) HV.out.symm)), bel_via hb hb2⟩
        case measure => simp [intOf]
      · have hz1 : (v != 0) = true := by simp [hz]
        have HZ := Lib.hid hz
        clear hz
        go_wp2_with (go_at_call 16; with_reducible refine cc.mono ?_; rintro e w2 ⟨rfl, hb2⟩)
        go_ret
        exact ⟨ret_int (HV.out.trans (N.out.trans (from_hit (k := 3) (n := 5) (by rw [← HV.out]; exact HZ.out))).symm), bel_via b1 (bel_via hb hb2)⟩
    by_cases hk4 : k = 4
    · subst hk4
      have cc := H4.out wr (bel_via b1 hb)
      obtain ⟨v, hv⟩ : ∃ v, v = r 4 := ⟨_, rfl⟩
      rw [← hv] at cc
      have HV := Lib.hid hv
      clear hv
      by_cases hz : v = 0
      · subst hz
        go_wp2_with (go_at_call 17; with_reducible refine cc.mono ?_; rintro e w2 ⟨rfl, hb2⟩)
        go_roundw
        case rel => exact ⟨5, by omega, rfl, (show Q = fromN r 5 4 from N.out.trans (from_zero (k := 4) (n := 4) HV.out.symm)), bel_via hb hb2⟩
        case measure => simp [intOf]
      · have hz1 : (v != 0) = true := by simp [hz]
        have HZ := Lib.hid hz
        clear hz
        go_wp2_with (go_at_call 17; with_reducible refine cc.mono ?_; rintro e w2 ⟨rfl, hb2⟩)
        go_ret
        exact ⟨ret_int (HV.out.trans (N.out.trans (from_hit (k := 4) (n := 4) (by rw [← HV.out]; exact HZ.out))).symm), bel_via b1 (bel_via hb hb2)⟩
    by_cases hk5 : k = 5
    · subst hk5
      have cc := H5.out wr (bel_via b1 hb)
      obtain ⟨v, hv⟩ : ∃ v, v = r 5 := ⟨_, rfl⟩
      rw [← hv] at cc
      have HV := Lib.hid hv
      clear hv
      by_cases hz : v = 0
      · subst hz
        go_wp2_with (go_at_call 18; with_reducible refine cc.mono ?_; rintro e w2 ⟨rfl, hb2⟩)
        go_roundw
        case rel => exact ⟨6, by omega, rfl, (show Q = fromN r 6 3 from N.out.trans (from_zero (k := 5) (n := 3) HV.out.symm)), bel_via hb hb2⟩
        case measure => simp [intOf]
      · have hz1 : (v != 0) = true := by simp [hz]
        have HZ := Lib.hid hz
        clear hz
        go_wp2_with (go_at_call 18; with_reducible refine cc.mono ?_; rintro e w2 ⟨rfl, hb2⟩)
        go_ret
        exact ⟨ret_int (HV.out.trans (N.out.trans (from_hit (k := 5) (n := 3) (by rw [← HV.out]; exact HZ.out))).symm), bel_via b1 (bel_via hb hb2)⟩
    by_cases hk6 : k = 6
    · subst hk6
      have cc := H6.out wr (bel_via b1 hb)
      obtain ⟨v, hv⟩ : ∃ v, v = r 6 := ⟨_, rfl⟩
      rw [← hv] at cc
      have HV := Lib.hid hv
      clear hv
      by_cases hz : v = 0
      · subst hz
        go_wp2_with (go_at_call 19; with_reducible refine cc.mono ?_; rintro e w2 ⟨rfl, hb2⟩)
        go_roundw
        case rel => exact ⟨7, by omega, rfl, (show Q = fromN r 7 2 from N.out.trans (from_zero (k := 6) (n := 2) HV.out.symm)), bel_via hb hb2⟩
        case measure => simp [intOf]
      · have hz1 : (v != 0) = true := by simp [hz]
        have HZ := Lib.hid hz
        clear hz
        go_wp2_with (go_at_call 19; with_reducible refine cc.mono ?_; rintro e w2 ⟨rfl, hb2⟩)
        go_ret
        exact ⟨ret_int (HV.out.trans (N.out.trans (from_hit (k := 6) (n := 2) (by rw [← HV.out]; exact HZ.out))).symm), bel_via b1 (bel_via hb hb2)⟩
    by_cases hk7 : k = 7
    · subst hk7
      have cc := H7.out wr (bel_via b1 hb)
      obtain ⟨v, hv⟩ : ∃ v, v = r 7 := ⟨_, rfl⟩
      rw [← hv] at cc
      have HV := Lib.hid hv
      clear hv
      by_cases hz : v = 0
      · subst hz
        go_wp2_with (go_at_call 20; with_reducible refine cc.mono ?_; rintro e w2 ⟨rfl, hb2⟩)
        go_roundw
        case rel => exact ⟨8, by omega, rfl, (show Q = fromN r 8 1 from N.out.trans (from_zero (k := 7) (n := 1) HV.out.symm)), bel_via hb hb2⟩
        case measure => simp [intOf]
      · have hz1 : (v != 0) = true := by simp [hz]
        have HZ := Lib.hid hz
        clear hz
        go_wp2_with (go_at_call 20; with_reducible refine cc.mono ?_; rintro e w2 ⟨rfl, hb2⟩)
        go_ret
        exact ⟨ret_int (HV.out.trans (N.out.trans (from_hit (k := 7) (n := 1) (by rw [← HV.out]; exact HZ.out))).symm), bel_via b1 (bel_via hb hb2)⟩
    by_cases hk8 : k = 8
    · subst hk8
      have cc := H8.out wr (bel_via b1 hb)
      obtain ⟨v, hv⟩ : ∃ v, v = r 8 := ⟨_, rfl⟩
      rw [← hv] at cc
      have HV := Lib.hid hv
      clear hv
      by_cases hz : v = 0
      · subst hz
        go_wp2_with (go_at_call 21; with_reducible refine cc.mono ?_; rintro e w2 ⟨rfl, hb2⟩)
        go_roundw
        case rel => exact ⟨9, by omega, rfl, (show Q = fromN r 9 0 from N.out.trans (from_zero (k := 8) (n := 0) HV.out.symm)), bel_via hb hb2⟩
        case measure => simp [intOf]
      · have hz1 : (v != 0) = true := by simp [hz]
        have HZ := Lib.hid hz
        clear hz
        go_wp2_with (go_at_call 21; with_reducible refine cc.mono ?_; rintro e w2 ⟨rfl, hb2⟩)
        go_ret
        exact ⟨ret_int (HV.out.trans (N.out.trans (from_hit (k := 8) (n := 0) (by rw [← HV.out]; exact HZ.out))).symm), bel_via b1 (bel_via hb hb2)⟩
    obtain rfl : k = 9 := by omega
    clear hk0 hk1 hk2 hk3 hk4 hk5 hk6 hk7 hk8
    go_wp2
    go_ret
    exact ⟨ret_int (show (0 : Int) = Q from N.out.symm), bel_via b1 hb⟩
end Go.Proofs.YtmnnjkdmnfadhaaGreatDoor
