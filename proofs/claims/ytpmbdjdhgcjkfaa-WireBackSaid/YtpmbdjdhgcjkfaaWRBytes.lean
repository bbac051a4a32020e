/- The document's own bytes of an address; by-name template (gen_wrbytes.py). -/
import Derived.Test.YtpmbdjdhgcjkfaaWAdrB
namespace Go.Proofs.Ytpmbdjdhgcjkfaa
open Go.RowKit Go.Sort
set_option linter.unusedVariables false
set_option linter.unusedSimpArgs false

theorem be_byte (n k K : Nat) (h : k < K) : UInt8.ofNat (n % 256 ^ K / 256 ^ k) = UInt8.ofNat (n / 256 ^ k) := by
  apply UInt8.toNat.inj
  rw [UInt8.toNat_ofNat', UInt8.toNat_ofNat', show (2 : Nat) ^ 8 = 256 from rfl]
  obtain ⟨d, rfl⟩ : ∃ d, K = k + 1 + d := ⟨K - k - 1, by omega⟩
  rw [show 256 ^ (k + 1 + d) = 256 ^ k * (256 * 256 ^ d) by rw [Nat.pow_add, Nat.pow_succ, Nat.mul_assoc], Nat.mod_mul_right_div_self, Nat.mod_mod_of_dvd _ (Nat.dvd_mul_right _ _)]
theorem be_mod (n K : Nat) : ∀ k, k ≤ K → beB k (n % 256 ^ K) = beB k n
  | 0, _ => rfl
  | k + 1, h => by rw [beB, beB, be_byte n k K (by omega), be_mod n K k (by omega)]
theorem be_add (n m : Nat) : ∀ k, beB (k + m) n = beB k (n / 256 ^ m) ++ beB m n
  | 0 => by simp [beB]
  | k + 1 => by
    rw [show k + 1 + m = (k + m) + 1 by omega, beB, be_add n m k, beB, Nat.div_div_eq_div_mul, ← Nat.pow_add, Nat.add_comm m k]; rfl
theorem low_small (n : Nat) (h : n < 18446744073709551616) : lowN (n : Int) = n := by unfold lowN; omega
theorem be_8 (n : Nat) : beB 8 n = beB 4 (n / 4294967296) ++ beB 4 (n % 4294967296) := by
  have h1 := be_add n 4 4
  have h2 := be_mod n 4 4 (Nat.le_refl _)
  have e : (256 : Nat) ^ 4 = 4294967296 := by decide
  rw [e] at h1 h2
  rw [h1, h2]
theorem andLow (x : Nat) (h : x < 18446744073709551616) : bits .and .u64 (x : Int) 4294967295 = ((x % 4294967296 : Nat) : Int) := by
  have := bits_mask .u64 64 (Nat.le_refl _) (fun n h0 h1 => by rw [IntKind.wrap_u64]; omega) 32 (by omega) (x : Int) (by omega) (by omega)
  have e : (2 : Int) ^ 32 - 1 = 4294967295 := by decide
  rw [e] at this
  rw [this]; omega

set_option maxHeartbeats 2000000 in
set_option maxRecDepth 100000 in
theorem rbytes4 (ah al : Nat) (ha : ah < 18446744073709551616) (hb : al < 18446744073709551616) (h4 : is4I (ah : Int) (al : Int) = true) (w : World) :
    Calls Try.prog 63 #[.agg #[.int .u64 (ah : Nat), .int .u64 (al : Nat)]] w fun e w' => ∃ B, e = .returned (.slice (some ⟨B, 0, none⟩) 4 4) ∧ w.heap.size ≤ B ∧ B < w'.heap.size ∧ Byt w' B 0 (beB 4 al) ∧ Below w.heap.size w w' := by
  have ci := fun (W : World) => ris4_any (ah : Int) (al : Int) ⟨by omega, by omega⟩ ⟨by omega, by omega⟩ W
  rw [h4] at ci
  have hmk : ∀ w, (Instr.makeSlice 22 (.int .i64 4) (.int .i64 4)).run Try.prog w = .ok (.slice (some ⟨w.heap.size, 0, none⟩) 4 4) (w.alloc (.cells (Array.replicate 4 (.int .u8 0)) 5)) := fun _ => by kernel_rfl
  have em := andLow al hb
  have eb := be_mod al 4 4 (Nat.le_refl _)
  rw [show (256 : Nat) ^ 4 = 4294967296 by decide] at eb
  rw [← eb]
  have hM : al % 4294967296 < 4294967296 := Nat.mod_lt _ (by omega)
  generalize al % 4294967296 = M at *
  have wM : IntKind.i64.wrap (M : Int) = (M : Int) := by rw [IntKind.wrap_i64]; omega
  have Mi : (M : Int) < 4294967296 := by omega
  clear h4 ha hb eb
  go_enter Try.func63, Try.ntmps63
  go_wp2_with (go_at_call 62; refine (ci _).mono ?_; rintro e w3 ⟨rfl, hb3⟩; refine Hid.out ?_)
  have bw3 : Below w.heap.size w w3 := bel_via (Below.al (Below.refl _ _) _) hb3
  have hX3 : w3.heap[w.heap.size]? = some (.cells #[.int .u64 (ah : Nat), .int .u64 (al : Nat)] 25 (0, 0)) := by rw [hb3.block _ (by simp)]; exact al_neww rfl _
  have hz3 : w.heap.size < w3.heap.size := (Array.getElem?_eq_some_iff.1 hX3).1
  clear hb3 ci
  refine Lib.hid ?_
  go_wp2_with (with_reducible refine stop_op (o := ⟨some 10, _, _, _, _, _⟩) ?_)
  obtain ⟨w5, hw5⟩ : ∃ x, x = w3.alloc (.cells (Array.replicate 4 (.int .u8 0)) 5) := ⟨_, rfl⟩
  have hX5 : w5.heap[w.heap.size]? = some (.cells #[.int .u64 (ah : Nat), .int .u64 (al : Nat)] 25 (0, 0)) := by rw [hw5, al_oldw hz3]; exact hX3
  have bw5 : Below w.heap.size w w5 := by rw [hw5]; exact Below.al bw3 _
  have hr5 : Room w5 w3.heap.size 0 4 := by rw [hw5]; exact room_new w3 4 _ _
  have cp := rput_any w3.heap.size 0 4 4 (M : Int) (by omega) (by omega) (by omega) ⟨by omega, by omega⟩ hr5
  rw [low_small M (by omega)] at cp
  have hz5 : w3.heap.size < w5.heap.size := by rw [hw5]; simp
  first | rw [← hw5] | (simp only [Array.replicate] at hw5; rw [← hw5])
  obtain ⟨x0, x1, _, _⟩ := cells2 hX5
  clear hw5 hX3 hX5 hmk hr5
  refine Lib.hid ?_
  go_wp2_with (go_at_call 42; refine cp.mono ?_; rintro e w6 ⟨rfl, hW6⟩; have HW6 := Lib.hid hW6; clear hW6)
  go_ret
  exact ⟨w3.heap.size, rfl, by omega, Nat.lt_of_lt_of_le hz5 (Nat.le_of_eq HW6.out.size.symm), HW6.out.inn, HW6.out.wr.bel bw5 (by omega) hz5⟩

set_option maxHeartbeats 2000000 in
set_option maxRecDepth 100000 in
theorem rbytes16 (ah al : Nat) (ha : ah < 18446744073709551616) (hb : al < 18446744073709551616) (h4 : is4I (ah : Int) (al : Int) = false) (w : World) :
    Calls Try.prog 63 #[.agg #[.int .u64 (ah : Nat), .int .u64 (al : Nat)]] w fun e w' => ∃ B, e = .returned (.slice (some ⟨B, 0, none⟩) 16 16) ∧ w.heap.size ≤ B ∧ B < w'.heap.size ∧ Byt w' B 0 (beB 8 ah ++ beB 8 al) ∧ Below w.heap.size w w' := by
  have ci := fun (W : World) => ris4_any (ah : Int) (al : Int) ⟨by omega, by omega⟩ ⟨by omega, by omega⟩ W
  rw [h4] at ci
  have hmk : ∀ w, (Instr.makeSlice 22 (.int .i64 16) (.int .i64 16)).run Try.prog w = .ok (.slice (some ⟨w.heap.size, 0, none⟩) 16 16) (w.alloc (.cells (Array.replicate 16 (.int .u8 0)) 5)) := fun _ => by kernel_rfl
  have e1 := andLow ah ha
  have e2 := andLow al hb
  rw [be_8 ah, be_8 al]
  have d1 : (ah : Int) / 4294967296 = ((ah / 4294967296 : Nat) : Int) := by omega
  have d2 : (al : Int) / 4294967296 = ((al / 4294967296 : Nat) : Int) := by omega
  have b1 : ah / 4294967296 < 4294967296 := by omega
  have b2 : al / 4294967296 < 4294967296 := by omega
  have b3 : ah % 4294967296 < 4294967296 := Nat.mod_lt _ (by omega)
  have b4 : al % 4294967296 < 4294967296 := Nat.mod_lt _ (by omega)
  have A0 := Lib.hid (show (0 : Int) ≤ (ah : Int) by omega)
  generalize ah / 4294967296 = P1 at *
  generalize al / 4294967296 = Q1 at *
  generalize ah % 4294967296 = P0 at *
  generalize al % 4294967296 = Q0 at *
  have w1 : IntKind.i64.wrap (P1 : Int) = (P1 : Int) := by rw [IntKind.wrap_i64]; omega
  have w2 : IntKind.i64.wrap (Q1 : Int) = (Q1 : Int) := by rw [IntKind.wrap_i64]; omega
  have w3' : IntKind.i64.wrap (P0 : Int) = (P0 : Int) := by rw [IntKind.wrap_i64]; omega
  have w4 : IntKind.i64.wrap (Q0 : Int) = (Q0 : Int) := by rw [IntKind.wrap_i64]; omega
  clear h4 ha hb
  go_enter Try.func63, Try.ntmps63
  go_wp2_with (go_at_call 62; refine (ci _).mono ?_; rintro e w3 ⟨rfl, hb3⟩; refine Hid.out ?_)
  have bw3 : Below w.heap.size w w3 := bel_via (Below.al (Below.refl _ _) _) hb3
  have hX3 : w3.heap[w.heap.size]? = some (.cells #[.int .u64 (ah : Nat), .int .u64 (al : Nat)] 25 (0, 0)) := by rw [hb3.block _ (by simp)]; exact al_neww rfl _
  have hz3 : w.heap.size < w3.heap.size := (Array.getElem?_eq_some_iff.1 hX3).1
  clear hb3 ci
  have s0 : ∀ W, (Instr.slice 22 (.slice (some ⟨w3.heap.size, 0, none⟩) 16 16) none (some (.int .i64 4)) none).run Try.prog W = .ok (.slice (some ⟨w3.heap.size, 0, none⟩) 4 16) W := cut_h w3.heap.size 0 16 16 4 (by omega) (by omega)
  have s1 : ∀ W, (Instr.slice 22 (.slice (some ⟨w3.heap.size, 0, none⟩) 16 16) (some (.int .i64 4)) (some (.int .i64 8)) none).run Try.prog W = .ok (.slice (some ⟨w3.heap.size, 4, none⟩) 4 12) W := by have := cut_lh w3.heap.size 0 16 16 4 8 (by omega) (by omega) (by omega) (by omega); simpa using this
  have s2 : ∀ W, (Instr.slice 22 (.slice (some ⟨w3.heap.size, 0, none⟩) 16 16) (some (.int .i64 8)) (some (.int .i64 12)) none).run Try.prog W = .ok (.slice (some ⟨w3.heap.size, 8, none⟩) 4 8) W := by have := cut_lh w3.heap.size 0 16 16 8 12 (by omega) (by omega) (by omega) (by omega); simpa using this
  have s3 : ∀ W, (Instr.slice 22 (.slice (some ⟨w3.heap.size, 0, none⟩) 16 16) (some (.int .i64 12)) none none).run Try.prog W = .ok (.slice (some ⟨w3.heap.size, 12, none⟩) 4 4) W := fun _ => by kernel_rfl
  refine Lib.hid ?_
  go_wp2_with fail
  obtain ⟨w5, hw5⟩ : ∃ x, x = w3.alloc (.cells (Array.replicate 16 (.int .u8 0)) 5) := ⟨_, rfl⟩
  have hX0 : w5.heap[w.heap.size]? = some (.cells #[.int .u64 (ah : Nat), .int .u64 (al : Nat)] 25 (0, 0)) := by rw [hw5, al_oldw hz3]; exact hX3
  have bw5 : Below w.heap.size w w5 := by rw [hw5]; exact Below.al bw3 _
  have hr5 : Room w5 w3.heap.size 0 16 := by rw [hw5]; exact room_new w3 16 _ _
  have HR5 := Lib.hid hr5
  have hz5 : w3.heap.size < w5.heap.size := by rw [hw5]; simp
  first | rw [← hw5] | (simp only [Array.replicate] at hw5; rw [← hw5])
  obtain ⟨x0, x1, _, _⟩ := cells2 hX0
  have HW0 : Hid (Wr w5 w3.heap.size 0 [] w5) := Lib.hid (Wr.nil (Below.refl _ _) hz5 0)
  clear hw5 hX3 hmk hr5
  go_wp2_with fail
  go_still_tail 6, (by kernel_rfl)
  change wpList _ _ _ _ _ (World.drew w5)
  have hWd : Wr w5 w3.heap.size 0 ([]) (World.drew w5) := HW0.out.below hz5 (Below.dr (Below.refl _ _))
  have hXd : (World.drew w5).heap[w.heap.size]? = some (.cells #[.int .u64 (ah : Nat), .int .u64 (al : Nat)] 25 (0, 0)) := hX0
  have cp := rput_any w3.heap.size 0 16 4 (P1 : Int) (by omega) (by omega) (by omega) ⟨by omega, by omega⟩ (show Room (World.drew w5) w3.heap.size 0 4 by have := (HR5.out.wr hWd).sub (f := 0) (k := 4) (by omega); simpa using this)
  rw [low_small P1 (by omega)] at cp
  generalize World.drew w5 = wd0 at hWd hXd cp ⊢
  have HWd := Lib.hid hWd
  clear hWd hX0 HW0 x0 x1
  go_wp2_with (go_at_call 42; refine cp.mono ?_; rintro e v1 ⟨rfl, hW⟩; refine Hid.out ?_)
  have hX1 : v1.heap[w.heap.size]? = some (.cells #[.int .u64 (ah : Nat), .int .u64 (al : Nat)] 25 (0, 0)) := (hW.block w.heap.size (by omega)).trans hXd
  have HW1 := Lib.hid (HWd.out.app (show Wr wd0 w3.heap.size (0 + ([]).length) (beB 4 P1) v1 by simp only [List.length_append, List.length_nil, beB_len]; exact hW.wr))
  clear hW HWd hXd cp
  obtain ⟨x0, x1, _, _⟩ := cells2 hX1
  refine Lib.hid ?_
  go_wp2_with fail
  go_still_tail 6, (by kernel_rfl)
  change wpList _ _ _ _ _ (World.drew v1)
  have hWd : Wr w5 w3.heap.size 0 ([] ++ beB 4 P1) (World.drew v1) := HW1.out.below hz5 (Below.dr (Below.refl _ _))
  have hXd : (World.drew v1).heap[w.heap.size]? = some (.cells #[.int .u64 (ah : Nat), .int .u64 (al : Nat)] 25 (0, 0)) := hX1
  have cp := rput_any w3.heap.size 4 12 4 (P0 : Int) (by omega) (by omega) (by omega) ⟨by omega, by omega⟩ (show Room (World.drew v1) w3.heap.size 4 4 by have := (HR5.out.wr hWd).sub (f := 4) (k := 4) (by omega); simpa using this)
  rw [low_small P0 (by omega)] at cp
  generalize World.drew v1 = wd1 at hWd hXd cp ⊢
  have HWd := Lib.hid hWd
  clear hWd hX1 HW1 x0 x1
  go_wp2_with (go_at_call 42; refine cp.mono ?_; rintro e v2 ⟨rfl, hW⟩; refine Hid.out ?_)
  have hX2 : v2.heap[w.heap.size]? = some (.cells #[.int .u64 (ah : Nat), .int .u64 (al : Nat)] 25 (0, 0)) := (hW.block w.heap.size (by omega)).trans hXd
  have HW2 := Lib.hid (HWd.out.app (show Wr wd1 w3.heap.size (0 + ([] ++ beB 4 P1).length) (beB 4 P0) v2 by simp only [List.length_append, List.length_nil, beB_len]; exact hW.wr))
  clear hW HWd hXd cp
  obtain ⟨x0, x1, _, _⟩ := cells2 hX2
  refine Lib.hid ?_
  go_wp2_with fail
  go_still_tail 6, (by kernel_rfl)
  change wpList _ _ _ _ _ (World.drew v2)
  have hWd : Wr w5 w3.heap.size 0 ([] ++ beB 4 P1 ++ beB 4 P0) (World.drew v2) := HW2.out.below hz5 (Below.dr (Below.refl _ _))
  have hXd : (World.drew v2).heap[w.heap.size]? = some (.cells #[.int .u64 (ah : Nat), .int .u64 (al : Nat)] 25 (0, 0)) := hX2
  have cp := rput_any w3.heap.size 8 8 4 (Q1 : Int) (by omega) (by omega) (by omega) ⟨by omega, by omega⟩ (show Room (World.drew v2) w3.heap.size 8 4 by have := (HR5.out.wr hWd).sub (f := 8) (k := 4) (by omega); simpa using this)
  rw [low_small Q1 (by omega)] at cp
  generalize World.drew v2 = wd2 at hWd hXd cp ⊢
  have HWd := Lib.hid hWd
  clear hWd hX2 HW2 x0 x1
  go_wp2_with (go_at_call 42; refine cp.mono ?_; rintro e v3 ⟨rfl, hW⟩; refine Hid.out ?_)
  have hX3 : v3.heap[w.heap.size]? = some (.cells #[.int .u64 (ah : Nat), .int .u64 (al : Nat)] 25 (0, 0)) := (hW.block w.heap.size (by omega)).trans hXd
  have HW3 := Lib.hid (HWd.out.app (show Wr wd2 w3.heap.size (0 + ([] ++ beB 4 P1 ++ beB 4 P0).length) (beB 4 Q1) v3 by simp only [List.length_append, List.length_nil, beB_len]; exact hW.wr))
  clear hW HWd hXd cp
  obtain ⟨x0, x1, _, _⟩ := cells2 hX3
  refine Lib.hid ?_
  go_wp2_with fail
  go_still_tail 6, (by kernel_rfl)
  change wpList _ _ _ _ _ (World.drew v3)
  have hWd : Wr w5 w3.heap.size 0 ([] ++ beB 4 P1 ++ beB 4 P0 ++ beB 4 Q1) (World.drew v3) := HW3.out.below hz5 (Below.dr (Below.refl _ _))
  have hXd : (World.drew v3).heap[w.heap.size]? = some (.cells #[.int .u64 (ah : Nat), .int .u64 (al : Nat)] 25 (0, 0)) := hX3
  have cp := rput_any w3.heap.size 12 4 4 (Q0 : Int) (by omega) (by omega) (by omega) ⟨by omega, by omega⟩ (show Room (World.drew v3) w3.heap.size 12 4 by have := (HR5.out.wr hWd).sub (f := 12) (k := 4) (by omega); simpa using this)
  rw [low_small Q0 (by omega)] at cp
  generalize World.drew v3 = wd3 at hWd hXd cp ⊢
  have HWd := Lib.hid hWd
  clear hWd hX3 HW3 x0 x1
  go_wp2_with (go_at_call 42; refine cp.mono ?_; rintro e v4 ⟨rfl, hW⟩; refine Hid.out ?_)
  have hX4 : v4.heap[w.heap.size]? = some (.cells #[.int .u64 (ah : Nat), .int .u64 (al : Nat)] 25 (0, 0)) := (hW.block w.heap.size (by omega)).trans hXd
  have HW4 := Lib.hid (HWd.out.app (show Wr wd3 w3.heap.size (0 + ([] ++ beB 4 P1 ++ beB 4 P0 ++ beB 4 Q1).length) (beB 4 Q0) v4 by simp only [List.length_append, List.length_nil, beB_len]; exact hW.wr))
  clear hW HWd hXd cp
  obtain ⟨x0, x1, _, _⟩ := cells2 hX4
  refine Lib.hid ?_
  go_wp2
  go_ret
  exact ⟨w3.heap.size, rfl, by omega, Nat.lt_of_lt_of_le hz5 HW4.out.size, by have := HW4.out.inn; simpa [List.append_assoc] using this, HW4.out.bel bw5 (by omega) hz5⟩
end Go.Proofs.Ytpmbdjdhgcjkfaa
