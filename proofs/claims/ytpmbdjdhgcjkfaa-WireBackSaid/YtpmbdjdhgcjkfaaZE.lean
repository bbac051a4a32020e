/- WireBuilds' walk; by-name template (gen_wbuilds.py). -/
import Derived.Test.YtpmbdjdhgcjkfaaZD
import Derived.OrdersHeld
import Derived.Deep.RegionHeld3
import Derived.Deep.DeepCutAuto
namespace Go.Proofs.Ytpmbdjdhgcjkfaa
open Go.RowKit Go.Sort
set_option linter.unusedVariables false
set_option linter.unusedSimpArgs false

theorem cells14 {w : World} {B : Nat} {x0 x1 x2 x3 x4 x5 x6 x7 x8 x9 x10 x11 x12 x13 : Value} {t : TypeId} (h : w.heap[B]? = some (.cells #[x0, x1, x2, x3, x4, x5, x6, x7, x8, x9, x10, x11, x12, x13] t (0, 0))) : w.cell? ⟨B, 0, none⟩ = some x0 ∧ w.cell? ⟨B, 1, none⟩ = some x1 ∧ w.cell? ⟨B, 2, none⟩ = some x2 ∧ w.cell? ⟨B, 3, none⟩ = some x3 ∧ w.cell? ⟨B, 4, none⟩ = some x4 ∧ w.cell? ⟨B, 5, none⟩ = some x5 ∧ w.cell? ⟨B, 6, none⟩ = some x6 ∧ w.cell? ⟨B, 7, none⟩ = some x7 ∧ w.cell? ⟨B, 8, none⟩ = some x8 ∧ w.cell? ⟨B, 9, none⟩ = some x9 ∧ w.cell? ⟨B, 10, none⟩ = some x10 ∧ w.cell? ⟨B, 11, none⟩ = some x11 ∧ w.cell? ⟨B, 12, none⟩ = some x12 ∧ w.cell? ⟨B, 13, none⟩ = some x13 := by
  refine ⟨?_, ?_, ?_, ?_, ?_, ?_, ?_, ?_, ?_, ?_, ?_, ?_, ?_, ?_⟩ <;> simp [World.cell?, h]
/-- A packet's parts. -/
structure PW where
  sh : Nat
  sl : Nat
  dh : Nat
  dl : Nat
  p : Int
  ttl : Int
  A : Option Addr
  n : Nat
  c : Nat
  l : List UInt8
  A2 : Option Addr
  n2 : Nat
  c2 : Nat
  l2 : List UInt8
  sp : Int
  dp : Int
  sq : Nat
  ak : Nat
  fl : Int
  wn : Int
structure PW.Ok (x : PW) (w : World) : Prop where
  h1 : x.sh < 18446744073709551616
  h2 : x.sl < 18446744073709551616
  h3 : x.dh < 18446744073709551616
  h4 : x.dl < 18446744073709551616
  hb : BytA w x.A x.n x.c x.l
  hd : BytA w x.A2 x.n2 x.c2 x.l2
  hsp : -9223372036854775808 ≤ x.sp ∧ x.sp < 9223372036854775808
  hdp : -9223372036854775808 ≤ x.dp ∧ x.dp < 9223372036854775808
  hwn : -9223372036854775808 ≤ x.wn ∧ x.wn < 9223372036854775808
  hsq : x.sq < 4294967296
  hak : x.ak < 4294967296
def pcells (x : PW) : Array Value := #[.int .u64 (x.sh : Nat), .int .u64 (x.sl : Nat), .int .u64 (x.dh : Nat), .int .u64 (x.dl : Nat), .int .i64 x.p, .int .i64 x.ttl, .slice x.A x.n x.c, .slice x.A2 x.n2 x.c2, .int .i64 x.sp, .int .i64 x.dp, .int .u32 (x.sq : Nat), .int .u32 (x.ak : Nat), .int .i64 x.fl, .int .i64 x.wn]
theorem keepBb {w4 wr w' : World} {X : Prop} {C : World → Prop} (hC : ∀ w', Below w4.heap.size w4 w' → C w') (hb : Below wr.heap.size wr w') (hH : Below w4.heap.size w4 wr ∧ X) : Below w4.heap.size w4 w' ∧ C w' :=
  ⟨bel_via hH.1 hb, hC _ (bel_via hH.1 hb)⟩
theorem keep0b {w4 : World} {C : World → Prop} (hC : ∀ w', Below w4.heap.size w4 w' → C w') : Below w4.heap.size w4 w4.drew ∧ C w4.drew := ⟨Below.dr (Below.refl _ _), hC _ (Below.dr (Below.refl _ _))⟩

set_option maxHeartbeats 4000000 in
set_option maxRecDepth 100000 in
theorem builds_la (sh sl dh dl : Nat) (p ttl : Int) (A : Option Addr) (n c : Nat) (l : List UInt8) (A2 : Option Addr) (n2 c2 : Nat) (l2 : List UInt8) (sp dp : Int) (sq ak : Nat) (fl wn : Int) (hn : n ≤ 9223372036854775807) (hn2 : n2 ≤ 9223372036854775807) (h : 65536 < n) (w : World) :
    Calls Try.prog 6 #[.agg #[.int .u64 (sh : Nat), .int .u64 (sl : Nat), .int .u64 (dh : Nat), .int .u64 (dl : Nat), .int .i64 p, .int .i64 ttl, .slice A n c, .slice A2 n2 c2, .int .i64 sp, .int .i64 dp, .int .u32 (sq : Nat), .int .u32 (ak : Nat), .int .i64 fl, .int .i64 wn]] w fun e w' => e = .returned (.bool true) ∧ Below w.heap.size w w' := by
  have ca := fun (W : World) => long_any A n c hn W
  have cb := fun (W : World) => long_any A2 n2 c2 hn2 W
  rw [show decide (65536 < n) = true by simp; omega] at ca
  go_enter Try.func6, Try.ntmps6
  go_wp2_with (with_reducible refine stop_op (o := ⟨some 9, _, _, _, _, _⟩) ?_)
  obtain ⟨w1, hw1⟩ : ∃ x, x = w.alloc (.cells #[.int .u64 (sh : Nat), .int .u64 (sl : Nat), .int .u64 (dh : Nat), .int .u64 (dl : Nat), .int .i64 p, .int .i64 ttl, .slice A n c, .slice A2 n2 c2, .int .i64 sp, .int .i64 dp, .int .u32 (sq : Nat), .int .u32 (ak : Nat), .int .i64 fl, .int .i64 wn] 59) := ⟨_, rfl⟩
  have hP : w1.heap[w.heap.size]? = some (.cells #[.int .u64 (sh : Nat), .int .u64 (sl : Nat), .int .u64 (dh : Nat), .int .u64 (dl : Nat), .int .i64 p, .int .i64 ttl, .slice A n c, .slice A2 n2 c2, .int .i64 sp, .int .i64 dp, .int .u32 (sq : Nat), .int .u32 (ak : Nat), .int .i64 fl, .int .i64 wn] 59 (0, 0)) := by rw [hw1]; exact al_neww rfl _
  have bw : Below w.heap.size w w1 := by rw [hw1]; exact Below.al (Below.refl _ _) _
  rw [← hw1]
  clear hw1
  obtain ⟨q0, q1, q2, q3, q4, q5, q6, q7, q8, q9, q10, q11, q12, q13⟩ := cells14 hP
  refine Lib.hid ?_
  go_wp2_with (first | (go_at_call 9; refine (ca _).mono ?_; rintro e w' ⟨rfl, hw'⟩; subst hw') | (go_at_call 9; refine (cb _).mono ?_; rintro e w' ⟨rfl, hw'⟩; subst hw'))
  go_ret
  exact ⟨rfl, bw⟩

set_option maxHeartbeats 4000000 in
set_option maxRecDepth 100000 in
theorem builds_lb (sh sl dh dl : Nat) (p ttl : Int) (A : Option Addr) (n c : Nat) (l : List UInt8) (A2 : Option Addr) (n2 c2 : Nat) (l2 : List UInt8) (sp dp : Int) (sq ak : Nat) (fl wn : Int) (hn : n ≤ 9223372036854775807) (hn2 : n2 ≤ 9223372036854775807) (h : ¬ 65536 < n) (h2 : 65536 < n2) (w : World) :
    Calls Try.prog 6 #[.agg #[.int .u64 (sh : Nat), .int .u64 (sl : Nat), .int .u64 (dh : Nat), .int .u64 (dl : Nat), .int .i64 p, .int .i64 ttl, .slice A n c, .slice A2 n2 c2, .int .i64 sp, .int .i64 dp, .int .u32 (sq : Nat), .int .u32 (ak : Nat), .int .i64 fl, .int .i64 wn]] w fun e w' => e = .returned (.bool true) ∧ Below w.heap.size w w' := by
  have ca := fun (W : World) => long_any A n c hn W
  have cb := fun (W : World) => long_any A2 n2 c2 hn2 W
  rw [show decide (65536 < n) = false by simp; omega] at ca
  rw [show decide (65536 < n2) = true by simp; omega] at cb
  go_enter Try.func6, Try.ntmps6
  go_wp2_with (with_reducible refine stop_op (o := ⟨some 9, _, _, _, _, _⟩) ?_)
  obtain ⟨w1, hw1⟩ : ∃ x, x = w.alloc (.cells #[.int .u64 (sh : Nat), .int .u64 (sl : Nat), .int .u64 (dh : Nat), .int .u64 (dl : Nat), .int .i64 p, .int .i64 ttl, .slice A n c, .slice A2 n2 c2, .int .i64 sp, .int .i64 dp, .int .u32 (sq : Nat), .int .u32 (ak : Nat), .int .i64 fl, .int .i64 wn] 59) := ⟨_, rfl⟩
  have hP : w1.heap[w.heap.size]? = some (.cells #[.int .u64 (sh : Nat), .int .u64 (sl : Nat), .int .u64 (dh : Nat), .int .u64 (dl : Nat), .int .i64 p, .int .i64 ttl, .slice A n c, .slice A2 n2 c2, .int .i64 sp, .int .i64 dp, .int .u32 (sq : Nat), .int .u32 (ak : Nat), .int .i64 fl, .int .i64 wn] 59 (0, 0)) := by rw [hw1]; exact al_neww rfl _
  have bw : Below w.heap.size w w1 := by rw [hw1]; exact Below.al (Below.refl _ _) _
  rw [← hw1]
  clear hw1
  obtain ⟨q0, q1, q2, q3, q4, q5, q6, q7, q8, q9, q10, q11, q12, q13⟩ := cells14 hP
  refine Lib.hid ?_
  go_wp2_with (first | (go_at_call 9; refine (ca _).mono ?_; rintro e w' ⟨rfl, hw'⟩; subst hw') | (go_at_call 9; refine (cb _).mono ?_; rintro e w' ⟨rfl, hw'⟩; subst hw'))
  go_ret
  exact ⟨rfl, bw⟩

set_option maxHeartbeats 20000000 in
set_option maxRecDepth 100000 in
theorem builds_ok (sh sl dh dl : Nat) (p ttl : Int) (A : Option Addr) (n c : Nat) (l : List UInt8) (A2 : Option Addr) (n2 c2 : Nat) (l2 : List UInt8) (sp dp : Int) (sq ak : Nat) (fl wn : Int) (hn : n ≤ 65536) (hn2 : n2 ≤ 65536) {w : World} (hx : PW.Ok ⟨sh, sl, dh, dl, p, ttl, A, n, c, l, A2, n2, c2, l2, sp, dp, sq, ak, fl, wn⟩ w) :
    Calls Try.prog 6 #[.agg #[.int .u64 (sh : Nat), .int .u64 (sl : Nat), .int .u64 (dh : Nat), .int .u64 (dl : Nat), .int .i64 p, .int .i64 ttl, .slice A n c, .slice A2 n2 c2, .int .i64 sp, .int .i64 dp, .int .u32 (sq : Nat), .int .u32 (ak : Nat), .int .i64 fl, .int .i64 wn]] w fun e w' => e = .returned (.bool true) ∧ Below w.heap.size w w' := by
  obtain ⟨h1, h2, h3, h4, hb, hd, hsp, hdp, hwn, hsq, hak⟩ := hx
  simp only at h1 h2 h3 h4 hb hd hsp hdp hwn hsq hak
  have ca := fun (W : World) => long_any A n c (by omega) W
  have cb := fun (W : World) => long_any A2 n2 c2 (by omega) W
  rw [show decide (65536 < n) = false by simp; omega] at ca
  rw [show decide (65536 < n2) = false by simp; omega] at cb
  have c1 := fun (W : World) (h : Below w.heap.size w W) => packet_any A n c l sh sl dh dl p ttl h1 h2 h3 h4 (hb.below h).1 hn
  have c2' := fun (W : World) (h : Below w.heap.size w W) => rpacket_any A n c l sh sl dh dl p ttl h1 h2 h3 h4 (hb.below h) hn
  have c3 := fun (W : World) (h : Below w.heap.size w W) => ptcp_any A2 n2 c2 l2 sp dp sq ak fl wn hsq hak (hd.below h).1 hn2
  have c4 := fun (W : World) (h : Below w.heap.size w W) => pudp_any A2 n2 c2 l2 sp dp (hd.below h).1 hn2
  have c5 := fun (W : World) (h : Below w.heap.size w W) => rtcpB_any A2 n2 c2 l2 sp dp sq ak fl wn hsp hdp hwn hsq hak (hd.below h) hn2
  have c6 := fun (W : World) (h : Below w.heap.size w W) => rudpB_any A2 n2 c2 l2 sp dp hsp hdp (hd.below h) hn2
  generalize packP sh sl dh dl p ttl l = PK at *
  obtain ⟨PK, er⟩ := PK
  simp only at c1 c2'
  have lT : ∀ {W : World} {B : Nat}, Row W B (tcpB sp dp sq ak fl wn l2) → BytArg W (some ⟨B, 0, none⟩) (20 + n2) (20 + n2) (tcpB sp dp sq ak fl wn l2) := fun {W B} h => ⟨by unfold tcpB; simp [beB_len, Zs_len, hd.1.1]; omega, Nat.le_refl _, by unfold maxLen; omega, fun _ => ⟨B, 0, rfl, h.byt⟩⟩
  have lU : ∀ {W : World} {B : Nat}, Row W B (udpB sp dp l2) → BytArg W (some ⟨B, 0, none⟩) (8 + n2) (8 + n2) (udpB sp dp l2) := fun {W B} h => ⟨by unfold udpB; simp [beB_len, Zs_len, hd.1.1]; omega, Nat.le_refl _, by unfold maxLen; omega, fun _ => ⟨B, 0, rfl, h.byt⟩⟩
  generalize tcpB sp dp sq ak fl wn l2 = TL at *
  generalize udpB sp dp l2 = UL at *
  have d1 : (er != er) = false := by simp
  obtain ⟨N3, hN3⟩ : ∃ N, N = 20 + n2 := ⟨_, rfl⟩
  obtain ⟨N4, hN4⟩ : ∃ N, N = 8 + n2 := ⟨_, rfl⟩
  rw [← hN3] at lT
  rw [← hN4] at lU
  simp only [← hN3, ← hN4] at c3 c4 c5 c6
  clear hb hd hsp hdp hwn hsq hak h1 h2 h3 h4 hN3 hN4
  go_enter Try.func6, Try.ntmps6
  go_wp2_with (with_reducible refine stop_op (o := ⟨some 9, _, _, _, _, _⟩) ?_)
  obtain ⟨w1, hw1⟩ : ∃ x, x = w.alloc (.cells #[.int .u64 (sh : Nat), .int .u64 (sl : Nat), .int .u64 (dh : Nat), .int .u64 (dl : Nat), .int .i64 p, .int .i64 ttl, .slice A n c, .slice A2 n2 c2, .int .i64 sp, .int .i64 dp, .int .u32 (sq : Nat), .int .u32 (ak : Nat), .int .i64 fl, .int .i64 wn] 59) := ⟨_, rfl⟩
  have hP : w1.heap[w.heap.size]? = some (.cells #[.int .u64 (sh : Nat), .int .u64 (sl : Nat), .int .u64 (dh : Nat), .int .u64 (dl : Nat), .int .i64 p, .int .i64 ttl, .slice A n c, .slice A2 n2 c2, .int .i64 sp, .int .i64 dp, .int .u32 (sq : Nat), .int .u32 (ak : Nat), .int .i64 fl, .int .i64 wn] 59 (0, 0)) := by rw [hw1]; exact al_neww rfl _
  have bw : Below w.heap.size w w1 := by rw [hw1]; exact Below.al (Below.refl _ _) _
  rw [← hw1]
  clear hw1
  obtain ⟨q0, q1, q2, q3, q4, q5, q6, q7, q8, q9, q10, q11, q12, q13⟩ := cells14 hP
  refine Lib.hid ?_
  go_wp2_with (first | (go_at_call 9; refine (ca _).mono ?_; rintro e w' ⟨rfl, hw'⟩; subst hw') | (go_at_call 9; refine (cb _).mono ?_; rintro e w' ⟨rfl, hw'⟩; subst hw') | (go_at_call 21; refine (c1 _ bw).mono ?_; rintro e w2 ⟨A3, n3, c3', rfl, hB2, hbx⟩; refine Hid.out ?_))
  have hPn := blkKeep2 hbx hP
  have bwn : Below w.heap.size w w2 := bw.trans (hbx.mono bw.size)
  clear hbx hP bw q0 q1 q2 q3 q4 q5 q6 q7 q8 q9 q10 q11 q12 q13
  have hP := hPn
  have bw := bwn
  clear hPn bwn
  obtain ⟨q0, q1, q2, q3, q4, q5, q6, q7, q8, q9, q10, q11, q12, q13⟩ := cells14 hP
  clear ca cb c1
  refine Lib.hid ?_
  go_wp2_with (go_at_call 22; refine (c2' _ bw).mono ?_; rintro e w3 ⟨A4, n4, c4', rfl, hB3, hbx⟩; refine Hid.out ?_)
  have hPn := blkKeep2 hbx hP
  have bwn : Below w.heap.size w w3 := bw.trans (hbx.mono bw.size)
  have z1 := conv_bytes (hB2.below hbx).1
  have z2 := conv_bytes hB3.1
  clear hbx hP bw q0 q1 q2 q3 q4 q5 q6 q7 q8 q9 q10 q11 q12 q13
  have hP := hPn
  have bw := bwn
  clear hPn bwn
  obtain ⟨q0, q1, q2, q3, q4, q5, q6, q7, q8, q9, q10, q11, q12, q13⟩ := cells14 hP
  clear c2' hB2 hB3
  generalize strB PK = SX at *
  refine Lib.hid ?_
  go_wp2_with (go_at_call 23; refine (c3 _ bw).mono ?_; rintro e w4 ⟨B4, rfl, hR4, _, hbx⟩; refine Hid.out ?_)
  have hPn := blkKeep2 hbx hP
  have bwn : Below w.heap.size w w4 := bw.trans (hbx.mono bw.size)
  clear hbx hP bw q0 q1 q2 q3 q4 q5 q6 q7 q8 q9 q10 q11 q12 q13
  have hP := hPn
  have bw := bwn
  clear hPn bwn
  obtain ⟨q0, q1, q2, q3, q4, q5, q6, q7, q8, q9, q10, q11, q12, q13⟩ := cells14 hP
  clear c3 z1 z2
  refine Lib.hid ?_
  go_wp2_with (go_at_call 24; refine (c4 _ bw).mono ?_; rintro e w5 ⟨B5, rfl, hR5, _, hbx⟩; refine Hid.out ?_)
  have hPn := blkKeep2 hbx hP
  have bwn : Below w.heap.size w w5 := bw.trans (hbx.mono bw.size)
  have hT := lT (hR4.below hbx)
  have hU := lU hR5
  clear hbx hP bw q0 q1 q2 q3 q4 q5 q6 q7 q8 q9 q10 q11 q12 q13
  have hP := hPn
  have bw := bwn
  clear hPn bwn
  obtain ⟨q0, q1, q2, q3, q4, q5, q6, q7, q8, q9, q10, q11, q12, q13⟩ := cells14 hP
  clear c4 hR4 hR5 lT lU
  have y1 := fun (W : World) (h : Below w5.heap.size w5 W) => conv_bytes (hT.below h)
  have y2 := fun (W : World) (h : Below w5.heap.size w5 W) => conv_bytes (hU.below h)
  have c5 := fun (W : World) (h : Below w5.heap.size w5 W) => c5 W (bw.trans (h.mono bw.size))
  have c6 := fun (W : World) (h : Below w5.heap.size w5 W) => c6 W (bw.trans (h.mono bw.size))
  clear hT hU
  have s1 : ∀ (W : World) (B c : Nat), BytArg W (some ⟨B, 0, none⟩) N3 c TL → (convert 22 9 (.slice (some ⟨B, 0, none⟩) N3 c)).run Try.prog W = .ok (.string (strB TL)) W := fun W B c h => conv_bytes h
  have s2 : ∀ (W : World) (B c : Nat), BytArg W (some ⟨B, 0, none⟩) N4 c UL → (convert 22 9 (.slice (some ⟨B, 0, none⟩) N4 c)).run Try.prog W = .ok (.string (strB UL)) W := fun W B c h => conv_bytes h
  generalize strB TL = ST at *
  generalize strB UL = SU at *
  refine Lib.hid ?_
  go_wp2_with fail
  have hC1 : ∀ w', Below w5.heap.size w5 w' → w'.cell? ⟨w.heap.size, 7, none⟩ = some (.slice A2 n2 c2) ∧ w'.cell? ⟨w.heap.size, 8, none⟩ = some (.int .i64 sp) ∧ w'.cell? ⟨w.heap.size, 9, none⟩ = some (.int .i64 dp) ∧ w'.cell? ⟨w.heap.size, 10, none⟩ = some (.int .u32 (sq : Nat)) ∧ w'.cell? ⟨w.heap.size, 11, none⟩ = some (.int .u32 (ak : Nat)) ∧ w'.cell? ⟨w.heap.size, 12, none⟩ = some (.int .i64 fl) ∧ w'.cell? ⟨w.heap.size, 13, none⟩ = some (.int .i64 wn) ∧ (convert 22 9 (.slice (some ⟨B4, 0, none⟩) N3 N3)).run Try.prog w' = .ok (.string ST) w' ∧ (convert 22 9 (.slice (some ⟨B5, 0, none⟩) N4 N4)).run Try.prog w' = .ok (.string SU) w' := fun w' h => ⟨keepc h q7, keepc h q8, keepc h q9, keepc h q10, keepc h q11, keepc h q12, keepc h q13, y1 w' h, y2 w' h⟩
  clear y1 y2 q0 q1 q2 q3 q4 q5 q6 q7 q8 q9 q10 q11 q12 q13 hP d1 hn hn2
  have C5 := Lib.hid c5
  have C6 := Lib.hid c6
  have S1 := Lib.hid s1
  have S2 := Lib.hid s2
  have HC := Lib.hid hC1
  have BW := Lib.hid bw
  clear c5 c6 s1 s2 bw
  refine wp_region_held (S := (fun w' => Below w5.heap.size w5 w' ∧ w'.cell? ⟨w.heap.size, 7, none⟩ = some (.slice A2 n2 c2) ∧ w'.cell? ⟨w.heap.size, 8, none⟩ = some (.int .i64 sp) ∧ w'.cell? ⟨w.heap.size, 9, none⟩ = some (.int .i64 dp) ∧ w'.cell? ⟨w.heap.size, 10, none⟩ = some (.int .u32 (sq : Nat)) ∧ w'.cell? ⟨w.heap.size, 11, none⟩ = some (.int .u32 (ak : Nat)) ∧ w'.cell? ⟨w.heap.size, 12, none⟩ = some (.int .i64 fl) ∧ w'.cell? ⟨w.heap.size, 13, none⟩ = some (.int .i64 wn) ∧ (convert 22 9 (.slice (some ⟨B4, 0, none⟩) N3 N3)).run Try.prog w' = .ok (.string ST) w' ∧ (convert 22 9 (.slice (some ⟨B5, 0, none⟩) N4 N4)).run Try.prog w' = .ok (.string SU) w')) (by kernel_rfl) ?_
  change wpAnyH _ _ _ _ _ _ _ _ (World.drew _)
  have hS0 := keep0b HC.out
  clear hC1
  generalize w5.drew = wd at hS0 ⊢
  refine wpAnyH_take (i := 0) (v := ?_) rfl (by kernel_rfl) (by kernel_rfl) (by kernel_rfl) (fun _ _ _ h => h) (Or.inl ⟨by kernel_rfl, ?_⟩) hS0 ?_
  rotate_left 1
  · intro W hW
    obtain ⟨hW0, hX0, hX1, hX2, hX3, hX4, hX5, hX6, hX7, hX8⟩ := hW
    go_simp
    with_reducible rfl
  refine wpAnyH_take (i := 1) (v := ?_) rfl (by kernel_rfl) (by kernel_rfl) (by kernel_rfl) (fun _ _ _ h => h) (Or.inl ⟨by kernel_rfl, ?_⟩) hS0 ?_
  rotate_left 1
  · intro W hW
    obtain ⟨hW0, hX0, hX1, hX2, hX3, hX4, hX5, hX6, hX7, hX8⟩ := hW
    go_simp
    with_reducible rfl
  refine wpAnyH_take (i := 2) (v := ?_) rfl (by kernel_rfl) (by kernel_rfl) (by kernel_rfl) (fun _ _ _ h => h) (Or.inl ⟨by kernel_rfl, ?_⟩) hS0 ?_
  rotate_left 1
  · intro W hW
    obtain ⟨hW0, hX0, hX1, hX2, hX3, hX4, hX5, hX6, hX7, hX8⟩ := hW
    go_simp
    with_reducible rfl
  refine wpAnyH_take (i := 3) (v := ?_) rfl (by kernel_rfl) (by kernel_rfl) (by kernel_rfl) (fun _ _ _ h => h) (Or.inl ⟨by kernel_rfl, ?_⟩) hS0 ?_
  rotate_left 1
  · intro W hW
    obtain ⟨hW0, hX0, hX1, hX2, hX3, hX4, hX5, hX6, hX7, hX8⟩ := hW
    go_simp
    with_reducible rfl
  refine wpAnyH_take (i := 4) (v := ?_) rfl (by kernel_rfl) (by kernel_rfl) (by kernel_rfl) (fun _ _ _ h => h) (Or.inl ⟨by kernel_rfl, ?_⟩) hS0 ?_
  rotate_left 1
  · intro W hW
    obtain ⟨hW0, hX0, hX1, hX2, hX3, hX4, hX5, hX6, hX7, hX8⟩ := hW
    go_simp
    with_reducible rfl
  refine wpAnyH_take (i := 5) (v := ?_) rfl (by kernel_rfl) (by kernel_rfl) (by kernel_rfl) (fun _ _ _ h => h) (Or.inl ⟨by kernel_rfl, ?_⟩) hS0 ?_
  rotate_left 1
  · intro W hW
    obtain ⟨hW0, hX0, hX1, hX2, hX3, hX4, hX5, hX6, hX7, hX8⟩ := hW
    go_simp
    with_reducible rfl
  refine wpAnyH_take (i := 6) (v := ?_) rfl (by kernel_rfl) (by kernel_rfl) (by kernel_rfl) (fun _ _ _ h => h) (Or.inl ⟨by kernel_rfl, ?_⟩) hS0 ?_
  rotate_left 1
  · intro W hW
    obtain ⟨hW0, hX0, hX1, hX2, hX3, hX4, hX5, hX6, hX7, hX8⟩ := hW
    go_simp
    with_reducible rfl
  refine wpAnyH_take (i := 7) (v := ?_) rfl (by kernel_rfl) (by kernel_rfl) (by kernel_rfl) (fun _ _ _ h => h) (Or.inl ⟨by kernel_rfl, ?_⟩) hS0 ?_
  rotate_left 1
  · intro W hW
    obtain ⟨hW0, hX0, hX1, hX2, hX3, hX4, hX5, hX6, hX7, hX8⟩ := hW
    go_simp
    with_reducible rfl
  refine wpAnyH_take (i := 8) (v := ?_) rfl (by kernel_rfl) (by kernel_rfl) (by kernel_rfl) (fun _ _ _ h => h) (Or.inl ⟨by kernel_rfl, ?_⟩) hS0 ?_
  rotate_left 1
  · intro W hW
    obtain ⟨hW0, hX0, hX1, hX2, hX3, hX4, hX5, hX6, hX7, hX8⟩ := hW
    go_simp
    with_reducible rfl
  refine wpAnyH_take (i := 9) (v := ?_) rfl (by kernel_rfl) (by kernel_rfl) (by kernel_rfl) (fun _ _ _ h => h) (Or.inl ⟨by kernel_rfl, ?_⟩) hS0 ?_
  rotate_left 1
  · intro W hW
    obtain ⟨hW0, hX0, hX1, hX2, hX3, hX4, hX5, hX6, hX7, hX8⟩ := hW
    go_simp
    with_reducible rfl
  refine wpAnyH_take (i := 10) (v := ?_) rfl (by kernel_rfl) (by kernel_rfl) (by kernel_rfl) (fun _ _ _ h => h) (Or.inl ⟨by kernel_rfl, ?_⟩) hS0 ?_
  rotate_left 1
  · intro W hW
    obtain ⟨hW0, hX0, hX1, hX2, hX3, hX4, hX5, hX6, hX7, hX8⟩ := hW
    go_simp
    with_reducible rfl
  refine wpAnyH_take (i := 11) (v := ?_) rfl (by kernel_rfl) (by kernel_rfl) (by kernel_rfl) (fun _ _ _ h => h) (Or.inl ⟨by kernel_rfl, ?_⟩) hS0 ?_
  rotate_left 1
  · intro W hW
    obtain ⟨hW0, hX0, hX1, hX2, hX3, hX4, hX5, hX6, hX7, hX8⟩ := hW
    go_simp
    with_reducible rfl
  refine wpAnyH_take (i := 12) (v := ?_) rfl (by kernel_rfl) (by kernel_rfl) (by kernel_rfl) (fun _ _ _ h => h) (Or.inl ⟨by kernel_rfl, ?_⟩) hS0 ?_
  rotate_left 1
  · intro W hW
    obtain ⟨hW0, hX0, hX1, hX2, hX3, hX4, hX5, hX6, hX7, hX8⟩ := hW
    go_simp
    with_reducible rfl
  refine wpAnyH_take (i := 13) (v := ?_) rfl (by kernel_rfl) (by kernel_rfl) (by kernel_rfl) (fun _ _ _ h => h) (Or.inl ⟨by kernel_rfl, ?_⟩) hS0 ?_
  rotate_left 1
  · intro W hW
    obtain ⟨hW0, hX0, hX1, hX2, hX3, hX4, hX5, hX6, hX7, hX8⟩ := hW
    go_simp
    with_reducible rfl
  refine wpAnyH_take (i := 14) (v := ?_) rfl (by kernel_rfl) (by kernel_rfl) (by kernel_rfl) (fun _ _ _ h => h) (Or.inl ⟨by kernel_rfl, ?_⟩) hS0 ?_
  rotate_left 1
  · intro W hW
    obtain ⟨hW0, hX0, hX1, hX2, hX3, hX4, hX5, hX6, hX7, hX8⟩ := hW
    go_simp
    with_reducible rfl
  refine wpAnyH_take (i := 15) (v := ?_) rfl (by kernel_rfl) (by kernel_rfl) (by kernel_rfl) (fun _ _ _ h => h) (Or.inl ⟨by kernel_rfl, ?_⟩) hS0 ?_
  rotate_left 1
  · intro W hW
    obtain ⟨hW0, hX0, hX1, hX2, hX3, hX4, hX5, hX6, hX7, hX8⟩ := hW
    go_simp
    with_reducible rfl
  refine wpAnyH_ready (rs := [16]) (by kernel_rfl) (by simp) ?_
  refine AllReadyH.cons rfl (fun K hK => ?_) AllReadyH.nil
  go_simp
  go_at_call 25
  refine (C5.out _ hS0.1).mono ?_
  rintro e w6 ⟨B6, c6', rfl, hB6, _, hb6⟩
  have hS1 := keepBb HC.out hb6 hS0
  refine hK.out _ _ hS1 (fun _ => ?_)
  clear hK K
  have v1 := S1.out _ _ _ hB6
  clear hB6
  refine wpAnyH_ready (rs := [17]) (by kernel_rfl) (by simp) ?_
  refine AllReadyH.cons rfl (fun K hK => ?_) AllReadyH.nil
  go_simp
  refine hK.out _ _ hS1 (fun _ => ?_)
  clear hK K v1
  refine wpAnyH_take (i := 18) (v := ?_) rfl (by kernel_rfl) (by kernel_rfl) (by kernel_rfl) (fun _ _ _ h => h) (Or.inl ⟨by kernel_rfl, ?_⟩) hS1 ?_
  rotate_left 1
  · intro W hW
    obtain ⟨hW0, hX0, hX1, hX2, hX3, hX4, hX5, hX6, hX7, hX8⟩ := hW
    go_simp
    with_reducible rfl
  refine wpAnyH_take (i := 19) (v := ?_) rfl (by kernel_rfl) (by kernel_rfl) (by kernel_rfl) (fun _ _ _ h => h) (Or.inl ⟨by kernel_rfl, ?_⟩) hS1 ?_
  rotate_left 1
  · intro W hW
    obtain ⟨hW0, hX0, hX1, hX2, hX3, hX4, hX5, hX6, hX7, hX8⟩ := hW
    go_simp
    with_reducible rfl
  refine wpAnyH_take (i := 20) (v := ?_) rfl (by kernel_rfl) (by kernel_rfl) (by kernel_rfl) (fun _ _ _ h => h) (Or.inl ⟨by kernel_rfl, ?_⟩) hS1 ?_
  rotate_left 1
  · intro W hW
    obtain ⟨hW0, hX0, hX1, hX2, hX3, hX4, hX5, hX6, hX7, hX8⟩ := hW
    go_simp
    with_reducible rfl
  refine wpAnyH_take (i := 21) (v := ?_) rfl (by kernel_rfl) (by kernel_rfl) (by kernel_rfl) (fun _ _ _ h => h) (Or.inl ⟨by kernel_rfl, ?_⟩) hS1 ?_
  rotate_left 1
  · intro W hW
    obtain ⟨hW0, hX0, hX1, hX2, hX3, hX4, hX5, hX6, hX7, hX8⟩ := hW
    go_simp
    with_reducible rfl
  refine wpAnyH_take (i := 22) (v := ?_) rfl (by kernel_rfl) (by kernel_rfl) (by kernel_rfl) (fun _ _ _ h => h) (Or.inl ⟨by kernel_rfl, ?_⟩) hS1 ?_
  rotate_left 1
  · intro W hW
    obtain ⟨hW0, hX0, hX1, hX2, hX3, hX4, hX5, hX6, hX7, hX8⟩ := hW
    go_simp
    with_reducible rfl
  refine wpAnyH_take (i := 23) (v := ?_) rfl (by kernel_rfl) (by kernel_rfl) (by kernel_rfl) (fun _ _ _ h => h) (Or.inl ⟨by kernel_rfl, ?_⟩) hS1 ?_
  rotate_left 1
  · intro W hW
    obtain ⟨hW0, hX0, hX1, hX2, hX3, hX4, hX5, hX6, hX7, hX8⟩ := hW
    go_simp
    with_reducible rfl
  refine wpAnyH_take (i := 24) (v := ?_) rfl (by kernel_rfl) (by kernel_rfl) (by kernel_rfl) (fun _ _ _ h => h) (Or.inl ⟨by kernel_rfl, ?_⟩) hS1 ?_
  rotate_left 1
  · intro W hW
    obtain ⟨hW0, hX0, hX1, hX2, hX3, hX4, hX5, hX6, hX7, hX8⟩ := hW
    go_simp
    with_reducible rfl
  refine wpAnyH_take (i := 25) (v := ?_) rfl (by kernel_rfl) (by kernel_rfl) (by kernel_rfl) (fun _ _ _ h => h) (Or.inl ⟨by kernel_rfl, ?_⟩) hS1 ?_
  rotate_left 1
  · intro W hW
    obtain ⟨hW0, hX0, hX1, hX2, hX3, hX4, hX5, hX6, hX7, hX8⟩ := hW
    go_simp
    with_reducible rfl
  refine wpAnyH_take (i := 26) (v := ?_) rfl (by kernel_rfl) (by kernel_rfl) (by kernel_rfl) (fun _ _ _ h => h) (Or.inl ⟨by kernel_rfl, ?_⟩) hS1 ?_
  rotate_left 1
  · intro W hW
    obtain ⟨hW0, hX0, hX1, hX2, hX3, hX4, hX5, hX6, hX7, hX8⟩ := hW
    go_simp
    with_reducible rfl
  refine wpAnyH_take (i := 27) (v := ?_) rfl (by kernel_rfl) (by kernel_rfl) (by kernel_rfl) (fun _ _ _ h => h) (Or.inl ⟨by kernel_rfl, ?_⟩) hS1 ?_
  rotate_left 1
  · intro W hW
    obtain ⟨hW0, hX0, hX1, hX2, hX3, hX4, hX5, hX6, hX7, hX8⟩ := hW
    go_simp
    with_reducible rfl
  refine wpAnyH_ready (rs := [28]) (by kernel_rfl) (by simp) ?_
  refine AllReadyH.cons rfl (fun K hK => ?_) AllReadyH.nil
  go_simp
  go_at_call 26
  refine (C6.out _ hS1.1).mono ?_
  rintro e w7 ⟨B7, c7', rfl, hB7, _, hb7⟩
  have hS2 := keepBb HC.out hb7 hS1
  refine hK.out _ _ hS2 (fun _ => ?_)
  clear hK K
  have v2 := S2.out _ _ _ hB7
  clear hB7
  refine wpAnyH_ready (rs := [29]) (by kernel_rfl) (by simp) ?_
  refine AllReadyH.cons rfl (fun K hK => ?_) AllReadyH.nil
  go_simp
  refine hK.out _ _ hS2 (fun _ => ?_)
  clear hK K v2
  refine wpAnyH_take (i := 30) (v := ?_) rfl (by kernel_rfl) (by kernel_rfl) (by kernel_rfl) (fun _ _ _ h => h) (Or.inl ⟨by kernel_rfl, ?_⟩) hS2 ?_
  rotate_left 1
  · intro W hW
    obtain ⟨hW0, hX0, hX1, hX2, hX3, hX4, hX5, hX6, hX7, hX8⟩ := hW
    go_simp
    with_reducible rfl
  refine wpAnyH_take (i := 31) (v := ?_) rfl (by kernel_rfl) (by kernel_rfl) (by kernel_rfl) (fun _ _ _ h => h) (Or.inl ⟨by kernel_rfl, ?_⟩) hS2 ?_
  rotate_left 1
  · intro W hW
    obtain ⟨hW0, hX0, hX1, hX2, hX3, hX4, hX5, hX6, hX7, hX8⟩ := hW
    go_simp
    with_reducible rfl
  refine wpAnyH_take (i := 32) (v := ?_) rfl (by kernel_rfl) (by kernel_rfl) (by kernel_rfl) (fun _ _ _ h => h) (Or.inl ⟨by kernel_rfl, ?_⟩) hS2 ?_
  rotate_left 1
  · intro W hW
    obtain ⟨hW0, hX0, hX1, hX2, hX3, hX4, hX5, hX6, hX7, hX8⟩ := hW
    go_simp
    with_reducible rfl
  refine wpAnyH_done (by kernel_rfl) ?_ _
  go_wp2
  go_ret
  exact ⟨rfl, BW.out.trans (hS2.1.mono BW.out.size)⟩

/-- WireBuilds. -/
theorem builds_any (x : PW) {w : World} (h : x.Ok w) : Calls Try.prog 6 #[.agg (pcells x)] w fun e w' => e = .returned (.bool true) ∧ Below w.heap.size w w' := by
  have hx := h
  obtain ⟨sh, sl, dh, dl, p, ttl, A, n, c, l, A2, n2, c2, l2, sp, dp, sq, ak, fl, wn⟩ := x
  obtain ⟨h1, h2, h3, h4, hb, hd, hsp, hdp, hwn, hsq, hak⟩ := h
  simp only at hb hd
  have b1 := hb.1.2.1
  have b2 := hb.1.2.2.1
  have b3 := hd.1.2.1
  have b4 := hd.1.2.2.1
  unfold maxLen at b2 b4
  simp only [pcells]
  by_cases g1 : 65536 < n
  · exact builds_la sh sl dh dl p ttl A n c l A2 n2 c2 l2 sp dp sq ak fl wn (by omega) (by omega) g1 w
  by_cases g2 : 65536 < n2
  · exact builds_lb sh sl dh dl p ttl A n c l A2 n2 c2 l2 sp dp sq ak fl wn (by omega) (by omega) g1 g2 w
  exact builds_ok sh sl dh dl p ttl A n c l A2 n2 c2 l2 sp dp sq ak fl wn (by omega) (by omega) hx
end Go.Proofs.Ytpmbdjdhgcjkfaa

namespace Go.Proofs.Ytpmbdjdhgcjkfaa
open Go.ChangeShapes Go.WideShapes Go.ChangeAt Go.RowKit
set_option linter.unusedVariables false
set_option linter.unusedSimpArgs false
set_option maxRecDepth 100000

theorem word_of_wfP {x : Int} (h : (Lit.int .u64 x).wf = true) : 0 ≤ x ∧ x < 18446744073709551616 := by
  simp [Lit.wf, IntKind.min, IntKind.max, IntKind.signed, IntKind.bits] at h
  exact ⟨by omega, by omega⟩
theorem u32_of_wfP {x : Int} (h : (Lit.int .u32 x).wf = true) : 0 ≤ x ∧ x < 4294967296 := by
  simp [Lit.wf, IntKind.min, IntKind.max, IntKind.signed, IntKind.bits] at h
  exact ⟨by omega, by omega⟩
theorem ca_u64 : Try.prog.cellsOf 23 = 1 := by kernel_rfl
theorem ca_u32 : Try.prog.cellsOf 28 = 1 := by kernel_rfl
theorem ca_int : Try.prog.cellsOf 3 = 1 := by kernel_rfl
theorem ca_adr : Try.prog.cellsOf 25 = 2 := by kernel_rfl
theorem ca_byt : Try.prog.cellsOf 22 = 1 := by kernel_rfl
theorem ca_parts : Try.prog.cellsOf 59 = 14 := by kernel_rfl

section
variable {H : Type} {enc : TypeId × Value → H} {w : World} {base : Nat} {spare : Nat → Bool} {held : Bool}
theorem open_adr {fuel : Nat} {c0 c1 : Value} {x : DataW H × List MemPlace} (h : DataW.trod enc Try.prog w base spare held fuel 25 [c0, c1] = some x) :
    ∃ a b : Nat, c0 = .int .u64 (a : Nat) ∧ c1 = .int .u64 (b : Nat) ∧ a < 18446744073709551616 ∧ b < 18446744073709551616 := by
  obtain ⟨xs, n, _, _, hl, hxl, hf⟩ := DataW.trod_struct Try.underlying25 h
  have h0 : DataW.trod enc Try.prog w base spare held n 23 [c0] = xs[0]? := by simpa [ca_u64] using hf 0 _ rfl
  have h1 : DataW.trod enc Try.prog w base spare held n 23 [c1] = xs[1]? := by simpa [ca_u64] using hf 1 _ rfl
  have hx0 : xs[0]? = some (xs[0]'(by rw [hxl]; decide)) := List.getElem?_eq_getElem _
  have hx1 : xs[1]? = some (xs[1]'(by rw [hxl]; decide)) := List.getElem?_eq_getElem _
  obtain ⟨k, e0, _, w0⟩ := DataW.trod_int Try.underlying23 (h0.trans hx0)
  obtain ⟨m, e1, _, w1⟩ := DataW.trod_int Try.underlying23 (h1.trans hx1)
  simp only [List.cons.injEq, and_true] at e0 e1
  obtain ⟨k0, k1⟩ := word_of_wfP w0
  obtain ⟨m0, m1⟩ := word_of_wfP w1
  obtain ⟨k, rfl⟩ := Int.eq_ofNat_of_zero_le k0
  obtain ⟨m, rfl⟩ := Int.eq_ofNat_of_zero_le m0
  exact ⟨k, m, e0, e1, by omega, by omega⟩
theorem open_i64 {fuel : Nat} {c0 : Value} {x : DataW H × List MemPlace} (h : DataW.trod enc Try.prog w base spare held fuel 3 [c0] = some x) :
    ∃ a : Int, c0 = .int .i64 a ∧ -9223372036854775808 ≤ a ∧ a < 9223372036854775808 := by
  obtain ⟨k, e0, _, w0⟩ := DataW.trod_int Try.underlying3 h
  simp only [List.cons.injEq, and_true] at e0
  obtain ⟨k0, k1⟩ := i64_of_wf w0
  exact ⟨k, e0, k0, k1⟩
theorem open_n32 {fuel : Nat} {c0 : Value} {x : DataW H × List MemPlace} (h : DataW.trod enc Try.prog w base spare held fuel 28 [c0] = some x) :
    ∃ a : Nat, c0 = .int .u32 (a : Nat) ∧ a < 4294967296 := by
  obtain ⟨k, e0, _, w0⟩ := DataW.trod_int Try.underlying28 h
  simp only [List.cons.injEq, and_true] at e0
  obtain ⟨k0, k1⟩ := u32_of_wfP w0
  obtain ⟨k, rfl⟩ := Int.eq_ofNat_of_zero_le k0
  exact ⟨k, e0, by omega⟩
theorem open_sl {fuel : Nat} {c0 : Value} {x : DataW H × List MemPlace} (h : DataW.trod enc Try.prog w base spare held fuel 22 [c0] = some x) :
    ∃ (A : Option Addr) (n c : Nat) (l : List UInt8), c0 = .slice A n c ∧ BytA w A n c l := by
  rcases open_ints Try.underlying22 Try.underlying5 byte_cells h with ⟨hcs, _⟩ | ⟨p, len, cap, zs, hcs, _⟩
  · simp only [List.cons.injEq, and_true] at hcs
    subst hcs
    obtain ⟨l, hl⟩ := open_bytesA h
    exact ⟨none, 0, 0, l, rfl, hl⟩
  · simp only [List.cons.injEq, and_true] at hcs
    subst hcs
    obtain ⟨l, hl⟩ := open_bytesA h
    exact ⟨some p, len, cap, l, rfl, hl⟩
theorem open_parts_cells {fuel : Nat} {cs : List Value} {x : DataW H × List MemPlace} (h : DataW.trod enc Try.prog w base spare held fuel 59 cs = some x) :
    ∃ y : PW, cs = (pcells y).toList ∧ y.Ok w := by
  obtain ⟨xs, n, _, _, hl, hxl, hf⟩ := DataW.trod_struct Try.underlying59 h
  rw [ca_parts] at hl
  match cs, hl with
  | [c0, c1, c2, c3, c4, c5, c6, c7, c8, c9, c10, c11, c12, c13], _ =>
    have h0 : DataW.trod enc Try.prog w base spare held n 25 [c0, c1] = xs[0]? := by simpa [ca_u64, ca_u32, ca_int, ca_adr, ca_byt] using hf 0 _ rfl
    have hx0 : xs[0]? = some (xs[0]'(by rw [hxl]; decide)) := List.getElem?_eq_getElem _
    have h1 : DataW.trod enc Try.prog w base spare held n 25 [c2, c3] = xs[1]? := by simpa [ca_u64, ca_u32, ca_int, ca_adr, ca_byt] using hf 1 _ rfl
    have hx1 : xs[1]? = some (xs[1]'(by rw [hxl]; decide)) := List.getElem?_eq_getElem _
    have h2 : DataW.trod enc Try.prog w base spare held n 3 [c4] = xs[2]? := by simpa [ca_u64, ca_u32, ca_int, ca_adr, ca_byt] using hf 2 _ rfl
    have hx2 : xs[2]? = some (xs[2]'(by rw [hxl]; decide)) := List.getElem?_eq_getElem _
    have h3 : DataW.trod enc Try.prog w base spare held n 3 [c5] = xs[3]? := by simpa [ca_u64, ca_u32, ca_int, ca_adr, ca_byt] using hf 3 _ rfl
    have hx3 : xs[3]? = some (xs[3]'(by rw [hxl]; decide)) := List.getElem?_eq_getElem _
    have h4 : DataW.trod enc Try.prog w base spare held n 22 [c6] = xs[4]? := by simpa [ca_u64, ca_u32, ca_int, ca_adr, ca_byt] using hf 4 _ rfl
    have hx4 : xs[4]? = some (xs[4]'(by rw [hxl]; decide)) := List.getElem?_eq_getElem _
    have h5 : DataW.trod enc Try.prog w base spare held n 22 [c7] = xs[5]? := by simpa [ca_u64, ca_u32, ca_int, ca_adr, ca_byt] using hf 5 _ rfl
    have hx5 : xs[5]? = some (xs[5]'(by rw [hxl]; decide)) := List.getElem?_eq_getElem _
    have h6 : DataW.trod enc Try.prog w base spare held n 3 [c8] = xs[6]? := by simpa [ca_u64, ca_u32, ca_int, ca_adr, ca_byt] using hf 6 _ rfl
    have hx6 : xs[6]? = some (xs[6]'(by rw [hxl]; decide)) := List.getElem?_eq_getElem _
    have h7 : DataW.trod enc Try.prog w base spare held n 3 [c9] = xs[7]? := by simpa [ca_u64, ca_u32, ca_int, ca_adr, ca_byt] using hf 7 _ rfl
    have hx7 : xs[7]? = some (xs[7]'(by rw [hxl]; decide)) := List.getElem?_eq_getElem _
    have h8 : DataW.trod enc Try.prog w base spare held n 28 [c10] = xs[8]? := by simpa [ca_u64, ca_u32, ca_int, ca_adr, ca_byt] using hf 8 _ rfl
    have hx8 : xs[8]? = some (xs[8]'(by rw [hxl]; decide)) := List.getElem?_eq_getElem _
    have h9 : DataW.trod enc Try.prog w base spare held n 28 [c11] = xs[9]? := by simpa [ca_u64, ca_u32, ca_int, ca_adr, ca_byt] using hf 9 _ rfl
    have hx9 : xs[9]? = some (xs[9]'(by rw [hxl]; decide)) := List.getElem?_eq_getElem _
    have h10 : DataW.trod enc Try.prog w base spare held n 3 [c12] = xs[10]? := by simpa [ca_u64, ca_u32, ca_int, ca_adr, ca_byt] using hf 10 _ rfl
    have hx10 : xs[10]? = some (xs[10]'(by rw [hxl]; decide)) := List.getElem?_eq_getElem _
    have h11 : DataW.trod enc Try.prog w base spare held n 3 [c13] = xs[11]? := by simpa [ca_u64, ca_u32, ca_int, ca_adr, ca_byt] using hf 11 _ rfl
    have hx11 : xs[11]? = some (xs[11]'(by rw [hxl]; decide)) := List.getElem?_eq_getElem _
    obtain ⟨sh, sl, rfl, rfl, g1, g2⟩ := open_adr (h0.trans hx0)
    obtain ⟨dh, dl, rfl, rfl, g3, g4⟩ := open_adr (h1.trans hx1)
    obtain ⟨p, rfl, _⟩ := open_i64 (h2.trans hx2)
    obtain ⟨ttl, rfl, _⟩ := open_i64 (h3.trans hx3)
    obtain ⟨A, na, ca, l, rfl, hb⟩ := open_sl (h4.trans hx4)
    obtain ⟨A2, na2, ca2, l2, rfl, hd⟩ := open_sl (h5.trans hx5)
    obtain ⟨sp, rfl, hsp⟩ := open_i64 (h6.trans hx6)
    obtain ⟨dp, rfl, hdp⟩ := open_i64 (h7.trans hx7)
    obtain ⟨sq, rfl, hsq⟩ := open_n32 (h8.trans hx8)
    obtain ⟨ak, rfl, hak⟩ := open_n32 (h9.trans hx9)
    obtain ⟨fl, rfl, _⟩ := open_i64 (h10.trans hx10)
    obtain ⟨wn, rfl, hwn⟩ := open_i64 (h11.trans hx11)
    exact ⟨⟨sh, sl, dh, dl, p, ttl, A, na, ca, l, A2, na2, ca2, l2, sp, dp, sq, ak, fl, wn⟩, rfl, ⟨g1, g2, g3, g4, hb, hd, hsp, hdp, hwn, hsq, hak⟩⟩
theorem open_parts {r : Reach} {b0 : Nat} {v : Value} {d : DataW H} {ps : List MemPlace} (hval : Value.okWide Try.prog w r b0 59 v) (hd : DataW.Trod enc Try.prog w base spare held 59 v d ps) :
    ∃ y : PW, v = .agg (pcells y) ∧ y.Ok w := by
  obtain ⟨cs, rfl, hs⟩ := okWide_struct Try.underlying59 hval
  obtain ⟨fuel, hf⟩ := hd
  obtain ⟨y, e, hy⟩ := open_parts_cells (cs := cs.toList) (by simpa [Value.cells] using hf)
  exact ⟨y, by rw [show cs = pcells y from Array.toList_inj.1 e], hy⟩
end
end Go.Proofs.Ytpmbdjdhgcjkfaa
