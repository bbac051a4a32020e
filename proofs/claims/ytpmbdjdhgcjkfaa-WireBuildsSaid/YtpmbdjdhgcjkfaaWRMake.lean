/- TCP and UDP headers made: the document's; by-name template (gen_wrmake.py). -/
import Derived.Test.YtpmbdjdhgcjkfaaWMake
import Derived.Test.YtpmbdjdhgcjkfaaWLent
namespace Go.Proofs.Ytpmbdjdhgcjkfaa
open Go.RowKit Go.Sort
set_option linter.unusedVariables false
set_option linter.unusedSimpArgs false

/-- append of bytes that came in, nil or not, to a row of our own. -/
theorem append_bytes {w : World} {ops : Array Oper} {rest : List Oper} {o : Oper} {a : Act} {Q : Exit → Act → World → Prop} (hgd : o.guard = none) (s x : Operand)
    (ho : o.op = .call { callee := .builtin .append, args := #[s, x], argTypes := #[22, 22] })
    (base : Nat) (v : Value) (n : Nat) (xs : List Value) (hs : a.eval s = v) (hown : w.ownsRow base 5 1 v n xs)
    (A : Option Addr) (m c : Nat) (l : List UInt8) (hx : a.eval x = .slice A m c) (hA : BytA w A m c l) (hm : n + m ≤ 1000000) (hbase : base ≤ w.heap.size)
    (h : ∀ v' w', w'.ownsRow base 5 1 v' (n + m) (xs ++ bc l) → w.grownBy w' v.ownBlock → wpList Try.prog ops Q rest (a.put o.dst v') w') : wpList Try.prog ops Q (o :: rest) a w := by
  obtain ⟨i0, hi, hz0, hz1, hz2⟩ := info_parts info8
  cases A with
  | none =>
    obtain ⟨rfl, rfl⟩ := hA.2 rfl
    have hl : l = [] := List.length_eq_zero_iff.1 hA.1.1
    subst hl
    refine wpList_append_own_none hgd s x 22 ho base 5 i0 1 Try.underlying22 hi v n xs hs hown hx ?_
    refine h v w ?_ ⟨rfl, rfl, rfl, Nat.le_refl _, fun _ _ _ => rfl⟩
    show w.ownsRow base 5 1 v n (xs ++ [])
    rw [List.append_nil]; exact hown
  | some ad =>
    refine wpList_append_own w hgd s x 22 ho base 5 i0 (.int .u8 0) 1 1 Try.underlying22 hi hz0 hz1 hz2 rfl (by decide) v n xs hs hown ad m c (bc l) hx (by rw [bc_len, hA.1.1, Nat.mul_one]) (news_arg hA.1) (bc_one _) (by unfold maxLen; omega) (by omega) hbase ?_
    intro v' w' h1 h2 _
    exact h v' w' h1 h2

set_option maxHeartbeats 2000000 in
set_option maxRecDepth 100000 in
theorem rtcpB_any (A : Option Addr) (n c : Nat) (l : List UInt8) (sp dp : Int) (sq ak : Nat) (fl wn : Int) (hsp : -9223372036854775808 ≤ sp ∧ sp < 9223372036854775808) (hdp : -9223372036854775808 ≤ dp ∧ dp < 9223372036854775808) (hwn : -9223372036854775808 ≤ wn ∧ wn < 9223372036854775808) (hsq : sq < 4294967296) (hak : ak < 4294967296) {w : World} (h : BytA w A n c l) (hm : n ≤ 65536) :
    Calls Try.prog 25 #[.int .i64 sp, .int .i64 dp, .int .u32 (sq : Nat), .int .u32 (ak : Nat), .int .i64 fl, .int .i64 wn, .slice A n c] w fun e w' => ∃ B cx, e = .returned (.slice (some ⟨B, 0, none⟩) (20 + n : Nat) cx) ∧ BytArg w' (some ⟨B, 0, none⟩) (20 + n) cx (tcpB sp dp sq ak fl wn l) ∧ w.heap.size ≤ B ∧ Below w.heap.size w w' := by
  have eb : IntKind.u8.wrap fl = ((loB fl).toNat : Int) := by rw [IntKind.wrap_u8, loB_val]
  have eq : IntKind.i64.wrap (sq : Int) = (sq : Int) := by rw [IntKind.wrap_i64]; omega
  have ea : IntKind.i64.wrap (ak : Int) = (ak : Int) := by rw [IntKind.wrap_i64]; omega
  have lq := low_small sq (by omega)
  have la := low_small ak (by omega)
  unfold tcpB
  generalize loB fl = FL at *
  have mk : ∀ W, (Instr.makeSlice 22 (.int .i64 20) (.int .i64 20)).run Try.prog W = .ok (.slice (some ⟨W.heap.size, 0, none⟩) 20 20) (W.alloc (.cells (bc (List.replicate 20 0)).toArray 5)) := make_run 20 (by omega)
  have HA := Lib.hid h
  have HSP := Lib.hid hsp
  have HDP := Lib.hid hdp
  have HWN := Lib.hid hwn
  clear h hsp hdp hwn
  go_enter Try.func25, Try.ntmps25
  go_wp2_with (with_reducible refine stop_op (o := ⟨some 18, _, _, _, _, _⟩) ?_)
  obtain ⟨w1, hw1⟩ : ∃ x, x = w.alloc (.cells (bc (List.replicate 20 0)).toArray 5) := ⟨_, rfl⟩
  have R1 : Row w1 w.heap.size ([] ++ Zs 20) := by rw [hw1]; exact Row.new w _
  have b1 : Below w.heap.size w w1 := by rw [hw1]; exact Below.al (Below.refl _ _) _
  first | rw [← hw1] | (simp only [List.replicate] at hw1; rw [← hw1])
  clear hw1 mk
  obtain ⟨B, hB⟩ : ∃ B, B = w.heap.size := ⟨_, rfl⟩
  rw [← hB] at R1 ⊢
  have hBl : w.heap.size ≤ B := by omega
  clear hB
  refine Lib.hid ?_
  have s1 : ∀ W, (Instr.slice 22 (.slice (some ⟨B, 0, none⟩) 20 20) none (some (.int .i64 2)) none).run Try.prog W = .ok (.slice (some ⟨B, 0, none⟩) 2 20) W := by have := cut_h B 0 20 20 2 (by omega) (by omega); simpa using this
  have cA := rput_any B 0 20 2 sp (by omega) (by omega) (by omega) HSP.out (R1.room (by simp only [List.nil_append, List.length_append, beB_len, Zs_len, List.length_singleton]; omega))
  go_wp2_with (go_at_call 42; refine cA.mono ?_; rintro e w2 ⟨rfl, hW⟩; refine Hid.out ?_)
  have R2 := R1.wz hW.wr (k := 2) (m := 18) (by omega) (by simp [beB_len]) (by simp [beB_len])
  have b2 := hW.wr.bel b1 hBl R1.lt
  clear cA hW R1 b1 s1
  refine Lib.hid ?_
  have s2 : ∀ W, (Instr.slice 22 (.slice (some ⟨B, 0, none⟩) 20 20) (some (.int .i64 2)) (some (.int .i64 4)) none).run Try.prog W = .ok (.slice (some ⟨B, 2, none⟩) 2 18) W := by have := cut_lh B 0 20 20 2 4 (by omega) (by omega) (by omega) (by omega); simpa using this
  have cA := rput_any B 2 18 2 dp (by omega) (by omega) (by omega) HDP.out (R2.room (by simp only [List.nil_append, List.length_append, beB_len, Zs_len, List.length_singleton]; omega))
  go_wp2_with (go_at_call 42; refine cA.mono ?_; rintro e w3 ⟨rfl, hW⟩; refine Hid.out ?_)
  have R3 := R2.wz hW.wr (k := 2) (m := 16) (by omega) (by simp [beB_len]) (by simp [beB_len])
  have b3 := hW.wr.bel b2 hBl R2.lt
  clear cA hW R2 b2 s2
  refine Lib.hid ?_
  have s3 : ∀ W, (Instr.slice 22 (.slice (some ⟨B, 0, none⟩) 20 20) (some (.int .i64 4)) (some (.int .i64 8)) none).run Try.prog W = .ok (.slice (some ⟨B, 4, none⟩) 4 16) W := by have := cut_lh B 0 20 20 4 8 (by omega) (by omega) (by omega) (by omega); simpa using this
  have cA := rput_any B 4 16 4 (sq : Int) (by omega) (by omega) (by omega) ⟨by omega, by omega⟩ (R3.room (by simp only [List.nil_append, List.length_append, beB_len, Zs_len, List.length_singleton]; omega))
  rw [lq] at cA
  go_wp2_with (go_at_call 42; refine cA.mono ?_; rintro e w4 ⟨rfl, hW⟩; refine Hid.out ?_)
  have R4 := R3.wz hW.wr (k := 4) (m := 12) (by omega) (by simp [beB_len]) (by simp [beB_len])
  have b4 := hW.wr.bel b3 hBl R3.lt
  clear cA hW R3 b3 s3
  refine Lib.hid ?_
  have s4 : ∀ W, (Instr.slice 22 (.slice (some ⟨B, 0, none⟩) 20 20) (some (.int .i64 8)) (some (.int .i64 12)) none).run Try.prog W = .ok (.slice (some ⟨B, 8, none⟩) 4 12) W := by have := cut_lh B 0 20 20 8 12 (by omega) (by omega) (by omega) (by omega); simpa using this
  have cA := rput_any B 8 12 4 (ak : Int) (by omega) (by omega) (by omega) ⟨by omega, by omega⟩ (R4.room (by simp only [List.nil_append, List.length_append, beB_len, Zs_len, List.length_singleton]; omega))
  rw [la] at cA
  go_wp2_with (go_at_call 42; refine cA.mono ?_; rintro e w5 ⟨rfl, hW⟩; refine Hid.out ?_)
  have R5 := R4.wz hW.wr (k := 4) (m := 8) (by omega) (by simp [beB_len]) (by simp [beB_len])
  have b5 := hW.wr.bel b4 hBl R4.lt
  clear cA hW R4 b4 s4
  refine Lib.hid ?_
  have f5 := R5.frozen 12
  have c5 := R5.room (o := 12) (m := 1) (by simp only [List.nil_append, List.length_append, beB_len, Zs_len, List.length_singleton]; omega) 0 (by omega)
  obtain ⟨⟨u5, c5⟩, _⟩ := c5
  go_wp2_with (with_reducible refine stop_op (o := ⟨some 39, _, _, _, _, _⟩) ?_)
  obtain ⟨w6, hwn⟩ : ∃ x, x = w5.setCell ⟨B, 12, none⟩ (.int .u8 80) := ⟨_, rfl⟩
  have R6 := R5.sz 80 (o := 12) (m := 7) (by omega) (by simp [beB_len])
  first | rw [← hwn] at R6 | rw [show (((80 : UInt8).toNat : Nat) : Int) = 80 from rfl, ← hwn] at R6
  have b6 : Below w.heap.size w w6 := by rw [hwn]; exact below_set b5 hBl 12 _
  rw [← hwn]
  clear hwn R5 b5 f5 c5
  refine Lib.hid ?_
  have f6 := R6.frozen 13
  have c6 := R6.room (o := 13) (m := 1) (by simp only [List.nil_append, List.length_append, beB_len, Zs_len, List.length_singleton]; omega) 0 (by omega)
  obtain ⟨⟨u6, c6⟩, _⟩ := c6
  go_wp2_with (with_reducible refine stop_op (o := ⟨some 42, _, _, _, _, _⟩) ?_)
  obtain ⟨w7, hwn⟩ : ∃ x, x = w6.setCell ⟨B, 13, none⟩ (.int .u8 (FL.toNat : Nat)) := ⟨_, rfl⟩
  have R7 := R6.sz FL (o := 13) (m := 6) (by omega) (by simp [beB_len])
  first | rw [← hwn] at R7 | rw [show (((FL : UInt8).toNat : Nat) : Int) = FL from rfl, ← hwn] at R7
  have b7 : Below w.heap.size w w7 := by rw [hwn]; exact below_set b6 hBl 13 _
  rw [← hwn]
  clear hwn R6 b6 f6 c6
  refine Lib.hid ?_
  have s7 : ∀ W, (Instr.slice 22 (.slice (some ⟨B, 0, none⟩) 20 20) (some (.int .i64 14)) (some (.int .i64 16)) none).run Try.prog W = .ok (.slice (some ⟨B, 14, none⟩) 2 6) W := by have := cut_lh B 0 20 20 14 16 (by omega) (by omega) (by omega) (by omega); simpa using this
  have cA := rput_any B 14 6 2 wn (by omega) (by omega) (by omega) HWN.out (R7.room (by simp only [List.nil_append, List.length_append, beB_len, Zs_len, List.length_singleton]; omega))
  go_wp2_with (go_at_call 42; refine cA.mono ?_; rintro e w8 ⟨rfl, hW⟩; refine Hid.out ?_)
  have R8 := R7.wz hW.wr (k := 2) (m := 4) (by omega) (by simp [beB_len]) (by simp [beB_len])
  have b8 := hW.wr.bel b7 hBl R7.lt
  clear cA hW R7 b7 s7
  refine Lib.hid ?_
  have ho := R8.own (base := w.heap.size) hBl (n := 20) (by simp only [List.nil_append, List.length_append, beB_len, Zs_len, List.length_singleton]) (by unfold maxLen; omega)
  have hA := HA.out.below b8
  have H8 := Lib.hid R8
  clear R8 HA
  have HO := Lib.hid ho
  have HA := Lib.hid hA
  clear ho hA
  go_wp2_with (at_builtin; go_loud (refine append_bytes rfl _ _ rfl w.heap.size _ 20 _ rfl HO.out A n c l rfl HA.out (by omega) b8.size ?m3))
  case m3 =>
    intro v7 w7 hown7 hgrow7
    have bw7 : Below w.heap.size w w7 := b8.grown hgrow7 b8.size (fun k hk => own_lt' HO.out hk)
    rw [← bc_app] at hown7
    obtain ⟨g3, c3, rfl, hg3, hgl3, hcap3, hcm3, _⟩ := own_form hown7 (by omega)
    have hb := Byt.own hown7
    clear hown7 hgrow7 HO H8
    go_wp2
    go_ret
    refine ⟨g3, c3, rfl, ⟨?_, hcap3, hcm3, fun _ => ⟨g3, 0, rfl, ?_⟩⟩, hg3, bw7⟩
    · simp only [List.length_append, beB_len, Zs_len, List.length_singleton, HA.out.1.1]; try omega
    · simpa [List.append_assoc] using hb

set_option maxHeartbeats 2000000 in
set_option maxRecDepth 100000 in
theorem rudpB_any (A : Option Addr) (n c : Nat) (l : List UInt8) (sp dp : Int) (hsp : -9223372036854775808 ≤ sp ∧ sp < 9223372036854775808) (hdp : -9223372036854775808 ≤ dp ∧ dp < 9223372036854775808) {w : World} (h : BytA w A n c l) (hm : n ≤ 65536) :
    Calls Try.prog 26 #[.int .i64 sp, .int .i64 dp, .slice A n c] w fun e w' => ∃ B cx, e = .returned (.slice (some ⟨B, 0, none⟩) (8 + n : Nat) cx) ∧ BytArg w' (some ⟨B, 0, none⟩) (8 + n) cx (udpB sp dp l) ∧ w.heap.size ≤ B ∧ Below w.heap.size w w' := by
  unfold udpB
  rw [h.1.1]
  obtain ⟨N, hN⟩ : ∃ N, N = 8 + n := ⟨_, rfl⟩
  have wN : IntKind.i64.wrap (8 + (n : Int)) = (N : Int) := by rw [IntKind.wrap_i64]; omega
  have NB : N < 70000 := by omega
  have nI : (n : Int) ≤ 65536 := by omega
  have lN := low_small N (by omega)
  have mk : ∀ W, (Instr.makeSlice 22 (.int .i64 8) (.int .i64 8)).run Try.prog W = .ok (.slice (some ⟨W.heap.size, 0, none⟩) 8 8) (W.alloc (.cells (bc (List.replicate 8 0)).toArray 5)) := make_run 8 (by omega)
  have HA := Lib.hid h
  have HSP := Lib.hid hsp
  have HDP := Lib.hid hdp
  have HN := Lib.hid hN
  clear h hsp hdp
  rw [← hN]
  clear hN
  go_enter Try.func26, Try.ntmps26
  go_wp2_with (with_reducible refine stop_op (o := ⟨some 10, _, _, _, _, _⟩) ?_)
  obtain ⟨w1, hw1⟩ : ∃ x, x = w.alloc (.cells (bc (List.replicate 8 0)).toArray 5) := ⟨_, rfl⟩
  have R1 : Row w1 w.heap.size ([] ++ Zs 8) := by rw [hw1]; exact Row.new w _
  have b1 : Below w.heap.size w w1 := by rw [hw1]; exact Below.al (Below.refl _ _) _
  first | rw [← hw1] | (simp only [List.replicate] at hw1; rw [← hw1])
  clear hw1 mk
  obtain ⟨B, hB⟩ : ∃ B, B = w.heap.size := ⟨_, rfl⟩
  rw [← hB] at R1 ⊢
  have hBl : w.heap.size ≤ B := by omega
  clear hB
  refine Lib.hid ?_
  have s1 : ∀ W, (Instr.slice 22 (.slice (some ⟨B, 0, none⟩) 8 8) none (some (.int .i64 2)) none).run Try.prog W = .ok (.slice (some ⟨B, 0, none⟩) 2 8) W := by have := cut_h B 0 8 8 2 (by omega) (by omega); simpa using this
  have cA := rput_any B 0 8 2 sp (by omega) (by omega) (by omega) HSP.out (R1.room (by simp only [List.nil_append, List.length_append, beB_len, Zs_len, List.length_singleton]; omega))
  go_wp2_with (go_at_call 42; refine cA.mono ?_; rintro e w2 ⟨rfl, hW⟩; refine Hid.out ?_)
  have R2 := R1.wz hW.wr (k := 2) (m := 6) (by omega) (by simp [beB_len]) (by simp [beB_len])
  have b2 := hW.wr.bel b1 hBl R1.lt
  clear cA hW R1 b1 s1
  refine Lib.hid ?_
  have s2 : ∀ W, (Instr.slice 22 (.slice (some ⟨B, 0, none⟩) 8 8) (some (.int .i64 2)) (some (.int .i64 4)) none).run Try.prog W = .ok (.slice (some ⟨B, 2, none⟩) 2 6) W := by have := cut_lh B 0 8 8 2 4 (by omega) (by omega) (by omega) (by omega); simpa using this
  have cA := rput_any B 2 6 2 dp (by omega) (by omega) (by omega) HDP.out (R2.room (by simp only [List.nil_append, List.length_append, beB_len, Zs_len, List.length_singleton]; omega))
  go_wp2_with (go_at_call 42; refine cA.mono ?_; rintro e w3 ⟨rfl, hW⟩; refine Hid.out ?_)
  have R3 := R2.wz hW.wr (k := 2) (m := 4) (by omega) (by simp [beB_len]) (by simp [beB_len])
  have b3 := hW.wr.bel b2 hBl R2.lt
  clear cA hW R2 b2 s2
  refine Lib.hid ?_
  have s3 : ∀ W, (Instr.slice 22 (.slice (some ⟨B, 0, none⟩) 8 8) (some (.int .i64 4)) (some (.int .i64 6)) none).run Try.prog W = .ok (.slice (some ⟨B, 4, none⟩) 2 4) W := by have := cut_lh B 0 8 8 4 6 (by omega) (by omega) (by omega) (by omega); simpa using this
  have cA := rput_any B 4 4 2 (N : Int) (by omega) (by omega) (by omega) ⟨by omega, by omega⟩ (R3.room (by simp only [List.nil_append, List.length_append, beB_len, Zs_len, List.length_singleton]; omega))
  rw [lN] at cA
  go_wp2_with (go_at_call 42; refine cA.mono ?_; rintro e w4 ⟨rfl, hW⟩; refine Hid.out ?_)
  have R4 := R3.wz hW.wr (k := 2) (m := 2) (by omega) (by simp [beB_len]) (by simp [beB_len])
  have b4 := hW.wr.bel b3 hBl R3.lt
  clear cA hW R3 b3 s3
  refine Lib.hid ?_
  have ho := R4.own (base := w.heap.size) hBl (n := 8) (by simp only [List.nil_append, List.length_append, beB_len, Zs_len, List.length_singleton]) (by unfold maxLen; omega)
  have hA := HA.out.below b4
  have H4 := Lib.hid R4
  clear R4 HA
  have HO := Lib.hid ho
  have HA := Lib.hid hA
  clear ho hA
  go_wp2_with (at_builtin; go_loud (refine append_bytes rfl _ _ rfl w.heap.size _ 8 _ rfl HO.out A n c l rfl HA.out (by omega) b4.size ?m3))
  case m3 =>
    intro v7 w7 hown7 hgrow7
    have bw7 : Below w.heap.size w w7 := b4.grown hgrow7 b4.size (fun k hk => own_lt' HO.out hk)
    rw [← bc_app] at hown7
    obtain ⟨g3, c3, rfl, hg3, hgl3, hcap3, hcm3, _⟩ := own_form hown7 (by omega)
    have hb := Byt.own hown7
    clear hown7 hgrow7 HO H4
    go_wp2
    go_ret
    have hn8 := HN.out
    rw [← hn8] at hcap3 ⊢
    refine ⟨g3, c3, rfl, ⟨?_, hcap3, hcm3, fun _ => ⟨g3, 0, rfl, ?_⟩⟩, hg3, bw7⟩
    · simp only [List.length_append, beB_len, Zs_len, List.length_singleton, HA.out.1.1]; try omega
    · simpa [List.append_assoc] using hb
end Go.Proofs.Ytpmbdjdhgcjkfaa
