/- TCP and UDP headers made: the program's; by-name template (gen_wmake.py). -/
import Derived.Test.YtpmbdjdhgcjkfaaWRow
namespace Go.Proofs.Ytpmbdjdhgcjkfaa
open Go.RowKit Go.Sort
set_option linter.unusedVariables false
set_option linter.unusedSimpArgs false

/-- The lowest byte of a number. -/
def loB (n : Int) : UInt8 := UInt8.ofNat (n % 256).toNat
theorem loB_val (n : Int) : ((loB n).toNat : Int) = n % 256 := by
  unfold loB
  rw [UInt8.toNat_ofNat', show (2 : Nat) ^ 8 = 256 from rfl]
  omega
/-- A TCP header, with its data. -/
def tcpB (sp dp : Int) (sq ak : Nat) (fl wn : Int) (l : List UInt8) : List UInt8 :=
  beB 2 (lowN sp) ++ beB 2 (lowN dp) ++ (beB 4 sq ++ beB 4 ak) ++ [80] ++ [loB fl] ++ beB 2 (lowN wn) ++ Zs 4 ++ l
/-- A UDP header, with its data. -/
def udpB (sp dp : Int) (l : List UInt8) : List UInt8 :=
  beB 2 (lowN sp) ++ beB 2 (lowN dp) ++ beB 2 (8 + l.length) ++ Zs 2 ++ l
theorem low_wrap (x : Int) : IntKind.u64.wrap x = ((lowN x : Nat) : Int) := by rw [IntKind.wrap_u64]; unfold lowN; omega
theorem low_lt (x : Int) : lowN x < 18446744073709551616 := by unfold lowN; omega
theorem elem8 : (Try.prog.info? 5).map (·.size) = some 1 := by kernel_rfl
theorem cut_end (g n k : Nat) (h : k ≤ n) (hn : n ≤ 9223372036854775807) : ∃ dp : Option Addr, (∀ W, (Instr.slice 22 (.slice (some ⟨g, 0, none⟩) n n) (some (.int .i64 (k : Nat))) none none).run Try.prog W = .ok (.slice dp (n - k) (n - k)) W) ∧ (0 < n - k → dp = some ⟨g, k, none⟩) := by
  by_cases hk : k < n
  · refine ⟨some ⟨g, k, none⟩, fun W => ?_, fun _ => rfl⟩
    have := cut_l g 0 n n k (by omega) hk hn (Nat.le_refl _) W
    rw [Nat.zero_add] at this
    exact this
  · obtain rfl : k = n := by omega
    refine ⟨some ⟨g, 0, none⟩, fun W => ?_, fun h => absurd h (by omega)⟩
    have hz : (sizeOf (Try.prog.elem 22)).run Try.prog W = .ok 1 W := by kernel_rfl
    rw [run_slice_l W 22 (some ⟨g, 0, none⟩) k k (by kernel_rfl) .i64 (k : Nat) (by omega) (by omega), hz]
    simp [Result.andThen, sliced]

set_option maxHeartbeats 2000000 in
set_option maxRecDepth 100000 in
theorem ptcp_any (A : Option Addr) (n c : Nat) (l : List UInt8) (sp dp : Int) (sq ak : Nat) (fl wn : Int) (hsq : sq < 4294967296) (hak : ak < 4294967296) {w : World} (h : BytArg w A n c l) (hm : n ≤ 65536) :
    Calls Try.prog 23 #[.int .i64 sp, .int .i64 dp, .int .u32 (sq : Nat), .int .u32 (ak : Nat), .int .i64 fl, .int .i64 wn, .slice A n c] w fun e w' => ∃ B, e = .returned (.slice (some ⟨B, 0, none⟩) (20 + n : Nat) (20 + n : Nat)) ∧ Row w' B (tcpB sp dp sq ak fl wn l) ∧ w.heap.size ≤ B ∧ Below w.heap.size w w' := by
  have e1 := low_wrap sp
  have e2 := low_wrap dp
  have e3 := low_wrap wn
  have hs := low_lt sp
  have hd := low_lt dp
  have hw := low_lt wn
  have eb : IntKind.u8.wrap fl = ((loB fl).toNat : Int) := by rw [IntKind.wrap_u8, loB_val]
  have eq : IntKind.u64.wrap (sq : Int) = (sq : Int) := by rw [IntKind.wrap_u64]; omega
  have ea : IntKind.u64.wrap (ak : Int) = (ak : Int) := by rw [IntKind.wrap_u64]; omega
  unfold tcpB
  generalize lowN sp = SP at *
  generalize lowN dp = DP at *
  generalize lowN wn = WN at *
  generalize loB fl = FL at *
  obtain ⟨N, hN⟩ : ∃ N, N = 20 + n := ⟨_, rfl⟩
  have wN : IntKind.i64.wrap (20 + (n : Int)) = (N : Int) := by rw [IntKind.wrap_i64]; omega
  have NB : N < 70000 := by omega
  have N20 : 20 ≤ N := by omega
  have Ni : (N : Int) < 70000 := by omega
  have nI : (n : Int) ≤ 65536 := by omega
  rw [← hN]
  have mk := make_run N (by omega)
  have j12 : (12 : Int) < (N : Int) := by omega
  have k12 : 12 < N := by omega
  have j13 : (13 : Int) < (N : Int) := by omega
  have k13 : 13 < N := by omega
  have HN := Lib.hid hN
  have HA := Lib.hid h
  clear h hN
  go_enter Try.func23, Try.ntmps23
  go_wp2_with (with_reducible refine stop_op (o := ⟨some 22, _, _, _, _, _⟩) ?_)
  obtain ⟨w1, hw1⟩ : ∃ x, x = w.alloc (.cells (bc (List.replicate N 0)).toArray 5) := ⟨_, rfl⟩
  have R1 : Row w1 w.heap.size ([] ++ Zs N) := by rw [hw1]; exact Row.new w _
  have b1 : Below w.heap.size w w1 := by rw [hw1]; exact Below.al (Below.refl _ _) _
  first | rw [← hw1] | (simp only [List.replicate] at hw1; rw [← hw1])
  clear hw1 mk
  obtain ⟨B, hB⟩ : ∃ B, B = w.heap.size := ⟨_, rfl⟩
  rw [← hB] at R1 ⊢
  have hBl : w.heap.size ≤ B := by omega
  clear hB
  have cA := ppair2 B 0 N N SP DP (by omega) (Nat.le_refl _) (by omega) hs hd (R1.room (by simp only [List.nil_append, Zs_len]; omega))
  refine Lib.hid ?_
  go_wp2_with (go_at_call 64; refine cA.mono ?_; rintro e w2 ⟨rfl, hW⟩; refine Hid.out ?_)
  have R2 := R1.wz hW (k := 4) (m := N - 4) (by omega) rfl (by simp [beB_len])
  have b2 := hW.bel b1 hBl R1.lt
  clear cA hW R1 b1
  have s4 : ∀ W, (Instr.slice 22 (.slice (some ⟨B, 0, none⟩) N N) (some (.int .i64 4)) none none).run Try.prog W = .ok (.slice (some ⟨B, 4, none⟩) (N - 4) (N - 4)) W := by have := cut_l B 0 N N 4 (by omega) (by omega) (by omega) (Nat.le_refl _); simpa using this
  have cA := ppair4 B 4 (N - 4) (N - 4) sq ak (by omega) (Nat.le_refl _) (by omega) (by omega) (by omega) (R2.room (by simp only [List.nil_append, List.length_append, beB_len, Zs_len]; omega))
  refine Lib.hid ?_
  go_wp2_with (go_at_call 64; refine cA.mono ?_; rintro e w3 ⟨rfl, hW⟩; refine Hid.out ?_)
  have R3 := R2.wz hW (k := 8) (m := N - 12) (by omega) (by simp [beB_len]) (by simp [beB_len])
  have b3 := hW.bel b2 hBl R2.lt
  clear cA hW R2 b2 s4
  have f3 := R3.frozen 12
  have c3 := R3.room (o := 12) (m := 1) (by simp only [List.nil_append, List.length_append, beB_len, Zs_len]; omega) 0 (by omega)
  obtain ⟨⟨u3, c3⟩, _⟩ := c3
  refine Lib.hid ?_
  go_wp2_with (with_reducible refine stop_op (o := ⟨some 39, _, _, _, _, _⟩) ?_)
  obtain ⟨w4, hw4⟩ : ∃ x, x = w3.setCell ⟨B, 12, none⟩ (.int .u8 80) := ⟨_, rfl⟩
  have R4 := R3.sz (80 : UInt8) (o := 12) (m := N - 13) (by omega) (by simp [beB_len])
  rw [show (((80 : UInt8).toNat : Nat) : Int) = 80 from rfl, ← hw4] at R4
  have b4 : Below w.heap.size w w4 := by rw [hw4]; exact below_set b3 hBl 12 _
  rw [← hw4]
  clear hw4 R3 b3 f3 c3
  have f4 := R4.frozen 13
  have c4 := R4.room (o := 13) (m := 1) (by simp only [List.nil_append, List.length_append, beB_len, Zs_len, List.length_singleton]; omega) 0 (by omega)
  obtain ⟨⟨u4, c4⟩, _⟩ := c4
  refine Lib.hid ?_
  go_wp2_with (with_reducible refine stop_op (o := ⟨some 42, _, _, _, _, _⟩) ?_)
  obtain ⟨w5, hw5⟩ : ∃ x, x = w4.setCell ⟨B, 13, none⟩ (.int .u8 (FL.toNat : Nat)) := ⟨_, rfl⟩
  have R5 := R4.sz FL (o := 13) (m := N - 14) (by omega) (by simp [beB_len])
  rw [← hw5] at R5
  have b5 : Below w.heap.size w w5 := by rw [hw5]; exact below_set b4 hBl 13 _
  rw [← hw5]
  clear hw5 R4 b4 f4 c4
  have s14 : ∀ W, (Instr.slice 22 (.slice (some ⟨B, 0, none⟩) N N) (some (.int .i64 14)) (some (.int .i64 16)) none).run Try.prog W = .ok (.slice (some ⟨B, 14, none⟩) 2 (N - 14)) W := by have := cut_lh B 0 N N 14 16 (by omega) (by omega) (by omega) (by omega); simpa using this
  have cA := put_any B 14 (N - 14) 2 WN (by omega) (by omega) (by omega) hw (R5.room (by simp only [List.nil_append, List.length_append, beB_len, Zs_len, List.length_singleton]; omega))
  refine Lib.hid ?_
  go_wp2_with (go_at_call 60; refine cA.mono ?_; rintro e w6 ⟨rfl, hW⟩; refine Hid.out ?_)
  have R6 := R5.wz hW.wr (k := 2) (m := 4 + n) (by have := HN.out; omega) (by simp [beB_len]) (by simp [beB_len])
  have b6 := hW.wr.bel b5 hBl R5.lt
  clear cA hW R5 b5 s14
  obtain ⟨D, s20', hD⟩ := cut_end B N 20 (by have := HN.out; omega) (by omega)
  rw [show N - 20 = n by have := HN.out; omega] at s20' hD
  have s20 : ∀ W, (Instr.slice 22 (.slice (some ⟨B, 0, none⟩) N N) (some (.int .i64 20)) none none).run Try.prog W = .ok (.slice D n n) W := s20'
  have HD := Lib.hid hD
  clear s20' hD
  have hA6 := HA.out.below b6
  rw [Zs_add, ← List.append_assoc] at R6
  have H6 := Lib.hid R6
  clear R6
  refine Lib.hid ?_
  go_wp2_with (with_reducible refine stop_op (o := ⟨some 49, _, _, _, _, _⟩) ?_)
  refine Lib.hid ?_
  refine wpList_copy_splice rfl _ _ 22 22 rfl 5 Try.underlying22 elem8 D A n n n c rfl rfl B 20 _ 5 H6.out (bc l) (by rw [bc_len, hA6.1]; simp) ?k1 ?k2 (bc_one _) w.heap.size w b6 hBl ?k3
  case k1 =>
    intro h0
    rw [bc_len, hA6.1] at h0
    obtain ⟨g, o, rfl, hb⟩ := hA6.2.2.2 h0
    exact ⟨HD.out h0, _, rfl, fun j u hj => hb.newsO j u hj⟩
  case k2 =>
    rw [bc_len, bc_len, hA6.1]
    simp only [List.nil_append, List.length_append, beB_len, Zs_len, List.length_singleton]
    omega
  case k3 =>
    intro w7 HG b7
    have G := HG.out
    rw [splice_bc _ _ _ _ (by simp only [List.nil_append, List.length_append, beB_len, Zs_len, List.length_singleton]) (by rw [Zs_len, hA6.1])] at G
    clear HG H6
    go_wp2
    go_ret
    exact ⟨B, rfl, G, hBl, b7⟩

set_option maxHeartbeats 2000000 in
set_option maxRecDepth 100000 in
theorem pudp_any (A : Option Addr) (n c : Nat) (l : List UInt8) (sp dp : Int) {w : World} (h : BytArg w A n c l) (hm : n ≤ 65536) :
    Calls Try.prog 24 #[.int .i64 sp, .int .i64 dp, .slice A n c] w fun e w' => ∃ B, e = .returned (.slice (some ⟨B, 0, none⟩) (8 + n : Nat) (8 + n : Nat)) ∧ Row w' B (udpB sp dp l) ∧ w.heap.size ≤ B ∧ Below w.heap.size w w' := by
  have e1 := low_wrap sp
  have e2 := low_wrap dp
  have hs := low_lt sp
  have hd := low_lt dp
  unfold udpB
  rw [h.1]
  generalize lowN sp = SP at *
  generalize lowN dp = DP at *
  obtain ⟨N, hN⟩ : ∃ N, N = 8 + n := ⟨_, rfl⟩
  have wN : IntKind.i64.wrap (8 + (n : Int)) = (N : Int) := by rw [IntKind.wrap_i64]; omega
  have wU : IntKind.u64.wrap (N : Int) = (N : Int) := by rw [IntKind.wrap_u64]; omega
  have NB : N < 70000 := by omega
  have N20 : 8 ≤ N := by omega
  have Ni : (N : Int) < 70000 := by omega
  have nI : (n : Int) ≤ 65536 := by omega
  rw [← hN]
  have mk := make_run N (by omega)
  have HN := Lib.hid hN
  have HA := Lib.hid h
  clear h hN
  go_enter Try.func24, Try.ntmps24
  go_wp2_with (with_reducible refine stop_op (o := ⟨some 14, _, _, _, _, _⟩) ?_)
  obtain ⟨w1, hw1⟩ : ∃ x, x = w.alloc (.cells (bc (List.replicate N 0)).toArray 5) := ⟨_, rfl⟩
  have R1 : Row w1 w.heap.size ([] ++ Zs N) := by rw [hw1]; exact Row.new w _
  have b1 : Below w.heap.size w w1 := by rw [hw1]; exact Below.al (Below.refl _ _) _
  first | rw [← hw1] | (simp only [List.replicate] at hw1; rw [← hw1])
  clear hw1 mk
  obtain ⟨B, hB⟩ : ∃ B, B = w.heap.size := ⟨_, rfl⟩
  rw [← hB] at R1 ⊢
  have hBl : w.heap.size ≤ B := by omega
  clear hB
  have cA := ppair2 B 0 N N SP DP (by omega) (Nat.le_refl _) (by omega) hs hd (R1.room (by simp only [List.nil_append, Zs_len]; omega))
  refine Lib.hid ?_
  go_wp2_with (go_at_call 64; refine cA.mono ?_; rintro e w2 ⟨rfl, hW⟩; refine Hid.out ?_)
  have R2 := R1.wz hW (k := 4) (m := N - 4) (by omega) rfl (by simp [beB_len])
  have b2 := hW.bel b1 hBl R1.lt
  clear cA hW R1 b1
  have s4 : ∀ W, (Instr.slice 22 (.slice (some ⟨B, 0, none⟩) N N) (some (.int .i64 4)) (some (.int .i64 6)) none).run Try.prog W = .ok (.slice (some ⟨B, 4, none⟩) 2 (N - 4)) W := by have := cut_lh B 0 N N 4 6 (by omega) (by omega) (by omega) (by omega); simpa using this
  have cA := put_any B 4 (N - 4) 2 N (by omega) (by omega) (by omega) (by omega) (R2.room (by simp only [List.nil_append, List.length_append, beB_len, Zs_len]; omega))
  refine Lib.hid ?_
  go_wp2_with (go_at_call 60; refine cA.mono ?_; rintro e w6 ⟨rfl, hW⟩; refine Hid.out ?_)
  have R6 := R2.wz hW.wr (k := 2) (m := 2 + n) (by have := HN.out; omega) (by simp [beB_len]) (by simp [beB_len])
  have b6 := hW.wr.bel b2 hBl R2.lt
  clear cA hW R2 b2 s4
  obtain ⟨D, s20', hD⟩ := cut_end B N 8 (by have := HN.out; omega) (by omega)
  rw [show N - 8 = n by have := HN.out; omega] at s20' hD
  have s20 : ∀ W, (Instr.slice 22 (.slice (some ⟨B, 0, none⟩) N N) (some (.int .i64 8)) none none).run Try.prog W = .ok (.slice D n n) W := s20'
  have HD := Lib.hid hD
  clear s20' hD
  have hA6 := HA.out.below b6
  rw [Zs_add, ← List.append_assoc] at R6
  have H6 := Lib.hid R6
  clear R6
  refine Lib.hid ?_
  go_wp2_with (with_reducible refine stop_op (o := ⟨some 28, _, _, _, _, _⟩) ?_)
  refine Lib.hid ?_
  refine wpList_copy_splice rfl _ _ 22 22 rfl 5 Try.underlying22 elem8 D A n n n c rfl rfl B 8 _ 5 H6.out (bc l) (by rw [bc_len, hA6.1]; simp) ?k1 ?k2 (bc_one _) w.heap.size w b6 hBl ?k3
  case k1 =>
    intro h0
    rw [bc_len, hA6.1] at h0
    obtain ⟨g, o, rfl, hb⟩ := hA6.2.2.2 h0
    exact ⟨HD.out h0, _, rfl, fun j u hj => hb.newsO j u hj⟩
  case k2 =>
    rw [bc_len, bc_len, hA6.1]
    simp only [List.nil_append, List.length_append, beB_len, Zs_len]
    omega
  case k3 =>
    intro w7 HG b7
    have G := HG.out
    rw [splice_bc _ _ _ _ (by simp only [List.nil_append, List.length_append, beB_len, Zs_len]) (by rw [Zs_len, hA6.1])] at G
    clear HG H6
    go_wp2
    go_ret
    exact ⟨B, rfl, G, hBl, b7⟩
end Go.Proofs.Ytpmbdjdhgcjkfaa
