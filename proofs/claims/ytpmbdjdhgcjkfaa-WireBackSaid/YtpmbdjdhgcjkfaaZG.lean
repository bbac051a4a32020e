/- WireBack's walk; by-name template (gen_wback.py). -/
import Derived.Test.YtpmbdjdhgcjkfaaZF
import Derived.Test.YtpmbdjdhgcjkfaaZE
namespace Go.Proofs.Ytpmbdjdhgcjkfaa
open Go.RowKit Go.Sort
set_option linter.unusedVariables false
set_option linter.unusedSimpArgs false

/-- What is made of a packet that is not refused. -/
theorem pack_ok {sh sl dh dl : Nat} {p ttl : Int} {l : List UInt8} (h1 : sh < 18446744073709551616) (h2 : sl < 18446744073709551616) (h3 : dh < 18446744073709551616) (h4 : dl < 18446744073709551616) (hp : p = 6 ∨ p = 17) (h : (packP sh sl dh dl p ttl l).2 = 0) :
    ∃ (H : List UInt8) (vv : Bool), (packP sh sl dh dl p ttl l).1 = H ++ setB (vPk p sh sl dh dl) l ∧ H.length ≤ 40 ∧ H.length + l.length ≤ 2048 ∧ parseP (H ++ setB (vPk p sh sl dh dl) l) = (⟨vv, (H.length : Int), ((H.length + l.length : Nat) : Int), ttl, p, sh, sl, dh, dl, false, 0, 0, false⟩, 0) := by
  have hb : packBad sh sl dh dl p ttl l.length = false := by
    by_cases hb : packBad sh sl dh dl p ttl l.length = true
    · rw [packP_bad hb] at h; simp at h
    · simpa using hb
  have hb2 := hb
  unfold packBad at hb2
  simp only [Bool.or_eq_false_iff, bne_eq_false_iff_eq, Bool.not_eq_false', decide_eq_false_iff_not] at hb2
  obtain ⟨⟨⟨⟨⟨e1, e2⟩, e3⟩, e4⟩, e5⟩, e6⟩ := hb2
  by_cases hs : is4I (sh : Int) (sl : Int) = true
  · rw [hs] at e1 e6
    rw [if_pos rfl] at e6
    refine ⟨hdr4 p ttl (20 + l.length) (beB 4 sl ++ beB 4 dl), false, ?_, ?_, ?_, ?_⟩
    · unfold packP; rw [hb, if_neg (by decide), if_pos hs]; rfl
    · unfold hdr4; simp [top4_len, beB_len]
    · have : (hdr4 p ttl (20 + l.length) (beB 4 sl ++ beB 4 dl)).length = 20 := by unfold hdr4; simp [top4_len, beB_len]
      omega
    · have hl : (hdr4 p ttl (20 + l.length) (beB 4 sl ++ beB 4 dl)).length = 20 := by unfold hdr4; simp [top4_len, beB_len]
      rw [hl]
      exact back4 (setB_len _ _) (by omega) e2 e3 (by omega) h2 h4 hs e1
  · have hs : is4I (sh : Int) (sl : Int) = false := by simpa using hs
    rw [hs] at e1 e6
    rw [if_neg (by decide)] at e6
    have hl : (hdr6 p ttl l.length ((beB 8 sh ++ beB 8 sl) ++ (beB 8 dh ++ beB 8 dl))).length = 40 := by unfold hdr6; simp [beB_len, Zs_len]
    refine ⟨hdr6 p ttl l.length ((beB 8 sh ++ beB 8 sl) ++ (beB 8 dh ++ beB 8 dl)), true, ?_, by omega, by omega, ?_⟩
    · unfold packP; rw [hb, if_neg (by decide), hs, if_neg (by decide)]; rfl
    · rw [hl]
      exact back6 (setB_len _ _) (by omega) e2 e3 (by omega) e4 h1 h2 h3 h4 hs e1

set_option maxHeartbeats 4000000 in
set_option maxRecDepth 100000 in
theorem back_long (sh sl dh dl : Nat) (p ttl : Int) (A : Option Addr) (n c : Nat) (l : List UInt8) (A2 : Option Addr) (n2 c2 : Nat) (l2 : List UInt8) (sp dp : Int) (sq ak : Nat) (fl wn : Int) (ud : Bool) (hn2 : n2 ≤ 9223372036854775807) (h : 1000 < n2) (w : World) :
    Calls Try.prog 7 #[.agg #[.int .u64 (sh : Nat), .int .u64 (sl : Nat), .int .u64 (dh : Nat), .int .u64 (dl : Nat), .int .i64 p, .int .i64 ttl, .slice A n c, .slice A2 n2 c2, .int .i64 sp, .int .i64 dp, .int .u32 (sq : Nat), .int .u32 (ak : Nat), .int .i64 fl, .int .i64 wn], .bool ud] w fun e w' => e = .returned (.bool true) ∧ Below w.heap.size w w' := by
  have h1 : decide ((1000 : Int) < (n2 : Int)) = true := by simp; omega
  have h2 : (1000 : Int) < (n2 : Int) := by omega
  have h3 : decide (1000 < n2) = true := by simp; omega
  go_enter Try.func7, Try.ntmps7
  go_wp2_with (with_reducible refine stop_op (o := ⟨some 15, _, _, _, _, _⟩) ?_)
  obtain ⟨w1, hw1⟩ : ∃ x, x = w.alloc (.cells #[.int .u64 (sh : Nat), .int .u64 (sl : Nat), .int .u64 (dh : Nat), .int .u64 (dl : Nat), .int .i64 p, .int .i64 ttl, .slice A n c, .slice A2 n2 c2, .int .i64 sp, .int .i64 dp, .int .u32 (sq : Nat), .int .u32 (ak : Nat), .int .i64 fl, .int .i64 wn] 59) := ⟨_, rfl⟩
  have hP : w1.heap[w.heap.size]? = some (.cells #[.int .u64 (sh : Nat), .int .u64 (sl : Nat), .int .u64 (dh : Nat), .int .u64 (dl : Nat), .int .i64 p, .int .i64 ttl, .slice A n c, .slice A2 n2 c2, .int .i64 sp, .int .i64 dp, .int .u32 (sq : Nat), .int .u32 (ak : Nat), .int .i64 fl, .int .i64 wn] 59 (0, 0)) := by rw [hw1]; exact al_neww rfl _
  have bw : Below w.heap.size w w1 := by rw [hw1]; exact Below.al (Below.refl _ _) _
  rw [← hw1]
  clear hw1
  obtain ⟨q0, q1, q2, q3, q4, q5, q6, q7, q8, q9, q10, q11, q12, q13⟩ := cells14 hP
  refine Lib.hid ?_
  go_wp2
  go_ret
  exact ⟨rfl, bw⟩

set_option maxHeartbeats 4000000 in
set_option maxRecDepth 100000 in
theorem back_tcp_no (sh sl dh dl : Nat) (p ttl : Int) (A : Option Addr) (n c : Nat) (l : List UInt8) (A2 : Option Addr) (n2 c2 : Nat) (l2 : List UInt8) (sp dp : Int) (sq ak : Nat) (fl wn : Int) (hn2 : n2 ≤ 1000) (er : Int) (her : er ≠ 0) (L : List UInt8) (hpk : packP sh sl dh dl 6 ttl (tcpB sp dp sq ak fl wn l2) = (L, er)) {w : World} (hx : PW.Ok ⟨sh, sl, dh, dl, p, ttl, A, n, c, l, A2, n2, c2, l2, sp, dp, sq, ak, fl, wn⟩ w) :
    Calls Try.prog 7 #[.agg #[.int .u64 (sh : Nat), .int .u64 (sl : Nat), .int .u64 (dh : Nat), .int .u64 (dl : Nat), .int .i64 p, .int .i64 ttl, .slice A n c, .slice A2 n2 c2, .int .i64 sp, .int .i64 dp, .int .u32 (sq : Nat), .int .u32 (ak : Nat), .int .i64 fl, .int .i64 wn], .bool false] w fun e w' => e = .returned (.bool true) ∧ Below w.heap.size w w' := by
  obtain ⟨h1, h2, h3, h4, hb, hdd, hsp, hdp, hwn, hsq, hak⟩ := hx
  simp only at h1 h2 h3 h4 hb hdd hsp hdp hwn hsq hak
  have g1 : decide ((1000 : Int) < (n2 : Int)) = false := by simp; omega
  have g2 : ¬ (1000 : Int) < (n2 : Int) := by omega
  have g3 : decide (1000 < n2) = false := by simp; omega
  have dn : ∀ x : Int, (x != x) = false := fun x => by simp
  have de : ∀ x : Int, (x == x) = true := fun x => by simp
  have cm := fun (W : World) (h : Below w.heap.size w W) => ptcp_any A2 n2 c2 l2 sp dp sq ak fl wn hsq hak (hdd.below h).1 (by omega)
  have lT : ∀ {W : World} {B : Nat}, Row W B (tcpB sp dp sq ak fl wn l2) → BytA W (some ⟨B, 0, none⟩) (20 + n2) (20 + n2) (tcpB sp dp sq ak fl wn l2) := fun {W B} h => ⟨⟨by unfold tcpB; simp [beB_len, Zs_len, hdd.1.1]; omega, Nat.le_refl _, by unfold maxLen; omega, fun _ => ⟨B, 0, rfl, h.byt⟩⟩, fun h => by cases h⟩
  obtain ⟨NB, hNB⟩ : ∃ N, N = 20 + n2 := ⟨_, rfl⟩
  have hNBm : NB ≤ 65536 := by omega
  rw [← hNB] at lT
  simp only [← hNB] at cm
  clear hNB
  have c1 := fun (W : World) (B : Nat) (h : BytA W (some ⟨B, 0, none⟩) NB NB (tcpB sp dp sq ak fl wn l2)) => packet_any _ NB NB _ sh sl dh dl 6 ttl h1 h2 h3 h4 h.1 hNBm
  have c2' := fun (W : World) (B : Nat) (h : BytA W (some ⟨B, 0, none⟩) NB NB (tcpB sp dp sq ak fl wn l2)) => rpacket_any _ NB NB _ sh sl dh dl 6 ttl h1 h2 h3 h4 h hNBm
  simp only [hpk] at c1 c2'
  have e1 : (er != 0) = true := by simp [her]
  clear hb hdd hsp hdp hwn hsq hak h1 h2 h3 h4 hpk hNBm
  generalize hBL : (tcpB sp dp sq ak fl wn l2) = BL at *
  clear hBL
  go_enter Try.func7, Try.ntmps7
  go_wp2_with (with_reducible refine stop_op (o := ⟨some 15, _, _, _, _, _⟩) ?_)
  obtain ⟨w1, hw1⟩ : ∃ x, x = w.alloc (.cells #[.int .u64 (sh : Nat), .int .u64 (sl : Nat), .int .u64 (dh : Nat), .int .u64 (dl : Nat), .int .i64 p, .int .i64 ttl, .slice A n c, .slice A2 n2 c2, .int .i64 sp, .int .i64 dp, .int .u32 (sq : Nat), .int .u32 (ak : Nat), .int .i64 fl, .int .i64 wn] 59) := ⟨_, rfl⟩
  have hP : w1.heap[w.heap.size]? = some (.cells #[.int .u64 (sh : Nat), .int .u64 (sl : Nat), .int .u64 (dh : Nat), .int .u64 (dl : Nat), .int .i64 p, .int .i64 ttl, .slice A n c, .slice A2 n2 c2, .int .i64 sp, .int .i64 dp, .int .u32 (sq : Nat), .int .u32 (ak : Nat), .int .i64 fl, .int .i64 wn] 59 (0, 0)) := by rw [hw1]; exact al_neww rfl _
  have bw : Below w.heap.size w w1 := by rw [hw1]; exact Below.al (Below.refl _ _) _
  rw [← hw1]
  clear hw1
  obtain ⟨q0, q1, q2, q3, q4, q5, q6, q7, q8, q9, q10, q11, q12, q13⟩ := cells14 hP
  refine Lib.hid ?_
  go_wp2_with (go_at_call 23; refine (cm _ bw).mono ?_; rintro e w2 ⟨B4, rfl, hR, _, hbx⟩; refine Hid.out ?_)
  have hPn := blkKeep2 hbx hP
  have bwn : Below w.heap.size w w2 := bw.trans (hbx.mono bw.size)
  have hT := lT hR
  clear hbx hP bw q0 q1 q2 q3 q4 q5 q6 q7 q8 q9 q10 q11 q12 q13
  have hP := hPn
  have bw := bwn
  clear hPn bwn
  obtain ⟨q0, q1, q2, q3, q4, q5, q6, q7, q8, q9, q10, q11, q12, q13⟩ := cells14 hP
  clear cm lT hR
  refine Lib.hid ?_
  go_wp2_with (go_at_call 21; refine (c1 _ _ hT).mono ?_; rintro e w3 ⟨A3, n3, c3', rfl, hB3, hbx⟩; refine Hid.out ?_)
  have hPn := blkKeep2 hbx hP
  have bwn : Below w.heap.size w w3 := bw.trans (hbx.mono bw.size)
  have hTn := hT.below hbx
  clear hbx hP bw q0 q1 q2 q3 q4 q5 q6 q7 q8 q9 q10 q11 q12 q13
  have hP := hPn
  have bw := bwn
  clear hPn bwn
  obtain ⟨q0, q1, q2, q3, q4, q5, q6, q7, q8, q9, q10, q11, q12, q13⟩ := cells14 hP
  clear c1 hT
  have hT := hTn
  clear hTn
  refine Lib.hid ?_
  go_wp2_with (go_at_call 22; refine (c2' _ _ hT).mono ?_; rintro e w4 ⟨A4, n4, c4', rfl, _, hbx⟩; refine Hid.out ?_)
  have hPn := blkKeep2 hbx hP
  have bwn : Below w.heap.size w w4 := bw.trans (hbx.mono bw.size)
  have hB4 := hB3.below hbx
  clear hbx hP bw q0 q1 q2 q3 q4 q5 q6 q7 q8 q9 q10 q11 q12 q13
  have hP := hPn
  have bw := bwn
  clear hPn bwn
  obtain ⟨q0, q1, q2, q3, q4, q5, q6, q7, q8, q9, q10, q11, q12, q13⟩ := cells14 hP
  clear c2' hT hB3
  refine Lib.hid ?_
  go_wp2
  go_ret
  exact ⟨by simp, bw⟩

set_option maxHeartbeats 4000000 in
set_option maxRecDepth 100000 in
theorem back_tcp_ok (sh sl dh dl : Nat) (p ttl : Int) (A : Option Addr) (n c : Nat) (l : List UInt8) (A2 : Option Addr) (n2 c2 : Nat) (l2 : List UInt8) (sp dp : Int) (sq ak : Nat) (fl wn : Int) (hn2 : n2 ≤ 1000) (hd th : Int) (vv : Bool) (nL : Nat) (L : List UInt8) (hL : L.length = nL) (hLm : nL ≤ 2048) (hd0 : 0 ≤ hd) (hpk : packP sh sl dh dl 6 ttl (tcpB sp dp sq ak fl wn l2) = (L, 0)) (hps : parseP L = (⟨vv, hd, (nL : Nat), ttl, 6, sh, sl, dh, dl, false, 0, 0, false⟩, 0)) (htr : transP L ⟨vv, hd, (nL : Nat), ttl, 6, sh, sl, dh, dl, false, 0, 0, false⟩ = (⟨sp % 65536, dp % 65536, (sq : Nat), (ak : Nat), fl % 256, wn % 65536, 0, 0, th, (n2 : Nat)⟩, 0)) {w : World} (hx : PW.Ok ⟨sh, sl, dh, dl, p, ttl, A, n, c, l, A2, n2, c2, l2, sp, dp, sq, ak, fl, wn⟩ w) :
    Calls Try.prog 7 #[.agg #[.int .u64 (sh : Nat), .int .u64 (sl : Nat), .int .u64 (dh : Nat), .int .u64 (dl : Nat), .int .i64 p, .int .i64 ttl, .slice A n c, .slice A2 n2 c2, .int .i64 sp, .int .i64 dp, .int .u32 (sq : Nat), .int .u32 (ak : Nat), .int .i64 fl, .int .i64 wn], .bool false] w fun e w' => e = .returned (.bool true) ∧ Below w.heap.size w w' := by
  obtain ⟨h1, h2, h3, h4, hb, hdd, hsp, hdp, hwn, hsq, hak⟩ := hx
  simp only at h1 h2 h3 h4 hb hdd hsp hdp hwn hsq hak
  have g1 : decide ((1000 : Int) < (n2 : Int)) = false := by simp; omega
  have g2 : ¬ (1000 : Int) < (n2 : Int) := by omega
  have g3 : decide (1000 < n2) = false := by simp; omega
  have dn : ∀ x : Int, (x != x) = false := fun x => by simp
  have de : ∀ x : Int, (x == x) = true := fun x => by simp
  have cm := fun (W : World) (h : Below w.heap.size w W) => ptcp_any A2 n2 c2 l2 sp dp sq ak fl wn hsq hak (hdd.below h).1 (by omega)
  have lT : ∀ {W : World} {B : Nat}, Row W B (tcpB sp dp sq ak fl wn l2) → BytA W (some ⟨B, 0, none⟩) (20 + n2) (20 + n2) (tcpB sp dp sq ak fl wn l2) := fun {W B} h => ⟨⟨by unfold tcpB; simp [beB_len, Zs_len, hdd.1.1]; omega, Nat.le_refl _, by unfold maxLen; omega, fun _ => ⟨B, 0, rfl, h.byt⟩⟩, fun h => by cases h⟩
  obtain ⟨NB, hNB⟩ : ∃ N, N = 20 + n2 := ⟨_, rfl⟩
  have hNBm : NB ≤ 65536 := by omega
  rw [← hNB] at lT
  simp only [← hNB] at cm
  clear hNB
  have c1 := fun (W : World) (B : Nat) (h : BytA W (some ⟨B, 0, none⟩) NB NB (tcpB sp dp sq ak fl wn l2)) => packet_any _ NB NB _ sh sl dh dl 6 ttl h1 h2 h3 h4 h.1 hNBm
  have c2' := fun (W : World) (B : Nat) (h : BytA W (some ⟨B, 0, none⟩) NB NB (tcpB sp dp sq ak fl wn l2)) => rpacket_any _ NB NB _ sh sl dh dl 6 ttl h1 h2 h3 h4 h hNBm
  simp only [hpk] at c1 c2'
  have a1 := and16 sp
  have a2 := and16 dp
  have a3 := and16 wn
  have a4 := and8 fl
  have hvk := vok_parse L
  rw [hps] at hvk
  have c3 := fun (W : World) (A' : Option Addr) (m c' : Nat) (h : BytA W A' m c' L) => parse_any A' m c' L h.1
  have c4 := fun (W : World) (A' : Option Addr) (m c' : Nat) (h : BytA W A' m c' L) => trans_any A' m c' L ⟨vv, hd, (nL : Nat), ttl, 6, sh, sl, dh, dl, false, 0, 0, false⟩ hvk h.1 (by have := h.1.1; omega) (by simp only; omega)
  simp only [hps, htr, vcells, tcells] at c3 c4
  clear hps htr hvk
  clear hb hdd hsp hdp hwn hsq hak h1 h2 h3 h4 hpk hNBm
  generalize hBL : (tcpB sp dp sq ak fl wn l2) = BL at *
  clear hBL
  go_enter Try.func7, Try.ntmps7
  go_wp2_with (with_reducible refine stop_op (o := ⟨some 15, _, _, _, _, _⟩) ?_)
  obtain ⟨w1, hw1⟩ : ∃ x, x = w.alloc (.cells #[.int .u64 (sh : Nat), .int .u64 (sl : Nat), .int .u64 (dh : Nat), .int .u64 (dl : Nat), .int .i64 p, .int .i64 ttl, .slice A n c, .slice A2 n2 c2, .int .i64 sp, .int .i64 dp, .int .u32 (sq : Nat), .int .u32 (ak : Nat), .int .i64 fl, .int .i64 wn] 59) := ⟨_, rfl⟩
  have hP : w1.heap[w.heap.size]? = some (.cells #[.int .u64 (sh : Nat), .int .u64 (sl : Nat), .int .u64 (dh : Nat), .int .u64 (dl : Nat), .int .i64 p, .int .i64 ttl, .slice A n c, .slice A2 n2 c2, .int .i64 sp, .int .i64 dp, .int .u32 (sq : Nat), .int .u32 (ak : Nat), .int .i64 fl, .int .i64 wn] 59 (0, 0)) := by rw [hw1]; exact al_neww rfl _
  have bw : Below w.heap.size w w1 := by rw [hw1]; exact Below.al (Below.refl _ _) _
  rw [← hw1]
  clear hw1
  obtain ⟨q0, q1, q2, q3, q4, q5, q6, q7, q8, q9, q10, q11, q12, q13⟩ := cells14 hP
  refine Lib.hid ?_
  go_wp2_with (go_at_call 23; refine (cm _ bw).mono ?_; rintro e w2 ⟨B4, rfl, hR, _, hbx⟩; refine Hid.out ?_)
  have hPn := blkKeep2 hbx hP
  have bwn : Below w.heap.size w w2 := bw.trans (hbx.mono bw.size)
  have hT := lT hR
  clear hbx hP bw q0 q1 q2 q3 q4 q5 q6 q7 q8 q9 q10 q11 q12 q13
  have hP := hPn
  have bw := bwn
  clear hPn bwn
  obtain ⟨q0, q1, q2, q3, q4, q5, q6, q7, q8, q9, q10, q11, q12, q13⟩ := cells14 hP
  clear cm lT hR
  refine Lib.hid ?_
  go_wp2_with (go_at_call 21; refine (c1 _ _ hT).mono ?_; rintro e w3 ⟨A3, n3, c3', rfl, hB3, hbx⟩; refine Hid.out ?_)
  have hPn := blkKeep2 hbx hP
  have bwn : Below w.heap.size w w3 := bw.trans (hbx.mono bw.size)
  have hTn := hT.below hbx
  clear hbx hP bw q0 q1 q2 q3 q4 q5 q6 q7 q8 q9 q10 q11 q12 q13
  have hP := hPn
  have bw := bwn
  clear hPn bwn
  obtain ⟨q0, q1, q2, q3, q4, q5, q6, q7, q8, q9, q10, q11, q12, q13⟩ := cells14 hP
  clear c1 hT
  have hT := hTn
  clear hTn
  refine Lib.hid ?_
  go_wp2_with (go_at_call 22; refine (c2' _ _ hT).mono ?_; rintro e w4 ⟨A4, n4, c4', rfl, _, hbx⟩; refine Hid.out ?_)
  have hPn := blkKeep2 hbx hP
  have bwn : Below w.heap.size w w4 := bw.trans (hbx.mono bw.size)
  have hB4 := hB3.below hbx
  clear hbx hP bw q0 q1 q2 q3 q4 q5 q6 q7 q8 q9 q10 q11 q12 q13
  have hP := hPn
  have bw := bwn
  clear hPn bwn
  obtain ⟨q0, q1, q2, q3, q4, q5, q6, q7, q8, q9, q10, q11, q12, q13⟩ := cells14 hP
  clear c2' hT hB3
  refine Lib.hid ?_
  have hn3 : nL = n3 := by rw [← hB4.1.1, hL]
  subst hn3
  go_wp2_with (go_at_call 12; refine (c3 _ _ _ _ hB4).mono ?_; rintro e w5 ⟨rfl, hbx⟩; refine Hid.out ?_)
  have hPn := blkKeep2 hbx hP
  have bwn : Below w.heap.size w w5 := bw.trans (hbx.mono bw.size)
  have hB5 := hB4.below hbx
  clear hbx hP bw q0 q1 q2 q3 q4 q5 q6 q7 q8 q9 q10 q11 q12 q13
  have hP := hPn
  have bw := bwn
  clear hPn bwn
  obtain ⟨q0, q1, q2, q3, q4, q5, q6, q7, q8, q9, q10, q11, q12, q13⟩ := cells14 hP
  clear c3 hB4
  refine Lib.hid ?_
  go_wp2_with (with_reducible refine stop_op (o := ⟨some 83, _, _, _, _, _⟩) ?_)
  obtain ⟨w6, hw6⟩ : ∃ x, x = w5.alloc (.cells #[.bool vv, .int .i64 hd, .int .i64 (nL : Nat), .int .i64 ttl, .int .i64 6, .int .u64 (sh : Nat), .int .u64 (sl : Nat), .int .u64 (dh : Nat), .int .u64 (dl : Nat), .bool false, .int .u32 0, .int .i64 0, .bool false] 40) := ⟨_, rfl⟩
  have hV : w6.heap[w5.heap.size]? = some (.cells #[.bool vv, .int .i64 hd, .int .i64 (nL : Nat), .int .i64 ttl, .int .i64 6, .int .u64 (sh : Nat), .int .u64 (sl : Nat), .int .u64 (dh : Nat), .int .u64 (dl : Nat), .bool false, .int .u32 0, .int .i64 0, .bool false] 40 (0, 0)) := by rw [hw6]; exact al_neww rfl _
  have hbx : Below w5.heap.size w5 w6 := by rw [hw6]; exact Below.al (Below.refl _ _) _
  rw [← hw6]
  clear hw6
  have hPn := blkKeep2 hbx hP
  have bwn : Below w.heap.size w w6 := bw.trans (hbx.mono bw.size)
  have hB6 := hB5.below hbx
  clear hbx hP bw q0 q1 q2 q3 q4 q5 q6 q7 q8 q9 q10 q11 q12 q13
  have hP := hPn
  have bw := bwn
  clear hPn bwn
  obtain ⟨q0, q1, q2, q3, q4, q5, q6, q7, q8, q9, q10, q11, q12, q13⟩ := cells14 hP
  clear hB5
  obtain ⟨⟨v0, v1, v2, v3, v4, v5, v6, v7, v8, v9, v10, v11, v12⟩, _⟩ := cells13 hV
  refine Lib.hid ?_
  go_wp2_with (go_at_call 17; refine (c4 _ _ _ _ hB6).mono ?_; rintro e w7 ⟨rfl, hbx⟩; refine Hid.out ?_)
  have hPn := blkKeep2 hbx hP
  have bwn : Below w.heap.size w w7 := bw.trans (hbx.mono bw.size)
  have hVn := blkKeep2 hbx hV
  clear hbx hP bw q0 q1 q2 q3 q4 q5 q6 q7 q8 q9 q10 q11 q12 q13
  have hP := hPn
  have bw := bwn
  clear hPn bwn
  obtain ⟨q0, q1, q2, q3, q4, q5, q6, q7, q8, q9, q10, q11, q12, q13⟩ := cells14 hP
  clear c4 hB6 hV v0 v1 v2 v3 v4 v5 v6 v7 v8 v9 v10 v11 v12
  refine Lib.hid ?_
  go_wp2_with (with_reducible refine stop_op (o := ⟨some 88, _, _, _, _, _⟩) ?_)
  obtain ⟨w8, hw8⟩ : ∃ x, x = w7.alloc (.cells #[.int .i64 (sp % 65536), .int .i64 (dp % 65536), .int .u32 (sq : Nat), .int .u32 (ak : Nat), .int .i64 (fl % 256), .int .i64 (wn % 65536), .int .i64 0, .int .i64 0, .int .i64 th, .int .i64 (n2 : Nat)] 50) := ⟨_, rfl⟩
  have hT8 : w8.heap[w7.heap.size]? = some (.cells #[.int .i64 (sp % 65536), .int .i64 (dp % 65536), .int .u32 (sq : Nat), .int .u32 (ak : Nat), .int .i64 (fl % 256), .int .i64 (wn % 65536), .int .i64 0, .int .i64 0, .int .i64 th, .int .i64 (n2 : Nat)] 50 (0, 0)) := by rw [hw8]; exact al_neww rfl _
  have hbx : Below w7.heap.size w7 w8 := by rw [hw8]; exact Below.al (Below.refl _ _) _
  rw [← hw8]
  clear hw8
  have hPn := blkKeep2 hbx hP
  have bwn : Below w.heap.size w w8 := bw.trans (hbx.mono bw.size)
  have hV8 := blkKeep2 hbx hVn
  clear hbx hP bw q0 q1 q2 q3 q4 q5 q6 q7 q8 q9 q10 q11 q12 q13
  have hP := hPn
  have bw := bwn
  clear hPn bwn
  obtain ⟨q0, q1, q2, q3, q4, q5, q6, q7, q8, q9, q10, q11, q12, q13⟩ := cells14 hP
  clear hVn
  obtain ⟨⟨v0, v1, v2, v3, v4, v5, v6, v7, v8, v9, v10, v11, v12⟩, _⟩ := cells13 hV8
  obtain ⟨⟨t0, t1, t2, t3, t4, t5, t6, t7, t8, t9⟩, _⟩ := cells10 hT8
  refine Lib.hid ?_
  go_wp2
  go_ret
  exact ⟨by simp, bw⟩

set_option maxHeartbeats 4000000 in
set_option maxRecDepth 100000 in
theorem back_udp_no (sh sl dh dl : Nat) (p ttl : Int) (A : Option Addr) (n c : Nat) (l : List UInt8) (A2 : Option Addr) (n2 c2 : Nat) (l2 : List UInt8) (sp dp : Int) (sq ak : Nat) (fl wn : Int) (hn2 : n2 ≤ 1000) (er : Int) (her : er ≠ 0) (L : List UInt8) (hpk : packP sh sl dh dl 17 ttl (udpB sp dp l2) = (L, er)) {w : World} (hx : PW.Ok ⟨sh, sl, dh, dl, p, ttl, A, n, c, l, A2, n2, c2, l2, sp, dp, sq, ak, fl, wn⟩ w) :
    Calls Try.prog 7 #[.agg #[.int .u64 (sh : Nat), .int .u64 (sl : Nat), .int .u64 (dh : Nat), .int .u64 (dl : Nat), .int .i64 p, .int .i64 ttl, .slice A n c, .slice A2 n2 c2, .int .i64 sp, .int .i64 dp, .int .u32 (sq : Nat), .int .u32 (ak : Nat), .int .i64 fl, .int .i64 wn], .bool true] w fun e w' => e = .returned (.bool true) ∧ Below w.heap.size w w' := by
  obtain ⟨h1, h2, h3, h4, hb, hdd, hsp, hdp, hwn, hsq, hak⟩ := hx
  simp only at h1 h2 h3 h4 hb hdd hsp hdp hwn hsq hak
  have g1 : decide ((1000 : Int) < (n2 : Int)) = false := by simp; omega
  have g2 : ¬ (1000 : Int) < (n2 : Int) := by omega
  have g3 : decide (1000 < n2) = false := by simp; omega
  have dn : ∀ x : Int, (x != x) = false := fun x => by simp
  have de : ∀ x : Int, (x == x) = true := fun x => by simp
  have cm0 := fun (W : World) (h : Below w.heap.size w W) => ptcp_any A2 n2 c2 l2 sp dp sq ak fl wn hsq hak (hdd.below h).1 (by omega)
  have cm := fun (W : World) (h : Below w.heap.size w W) => pudp_any A2 n2 c2 l2 sp dp (hdd.below h).1 (by omega)
  have lT : ∀ {W : World} {B : Nat}, Row W B (udpB sp dp l2) → BytA W (some ⟨B, 0, none⟩) (8 + n2) (8 + n2) (udpB sp dp l2) := fun {W B} h => ⟨⟨by unfold udpB; simp [beB_len, Zs_len, hdd.1.1]; omega, Nat.le_refl _, by unfold maxLen; omega, fun _ => ⟨B, 0, rfl, h.byt⟩⟩, fun h => by cases h⟩
  obtain ⟨NB, hNB⟩ : ∃ N, N = 8 + n2 := ⟨_, rfl⟩
  have hNBm : NB ≤ 65536 := by omega
  rw [← hNB] at lT
  simp only [← hNB] at cm
  clear hNB
  have c1 := fun (W : World) (B : Nat) (h : BytA W (some ⟨B, 0, none⟩) NB NB (udpB sp dp l2)) => packet_any _ NB NB _ sh sl dh dl 17 ttl h1 h2 h3 h4 h.1 hNBm
  have c2' := fun (W : World) (B : Nat) (h : BytA W (some ⟨B, 0, none⟩) NB NB (udpB sp dp l2)) => rpacket_any _ NB NB _ sh sl dh dl 17 ttl h1 h2 h3 h4 h hNBm
  simp only [hpk] at c1 c2'
  have e1 : (er != 0) = true := by simp [her]
  clear hb hdd hsp hdp hwn hsq hak h1 h2 h3 h4 hpk hNBm
  generalize hBL : (udpB sp dp l2) = BL at *
  clear hBL
  go_enter Try.func7, Try.ntmps7
  go_wp2_with (with_reducible refine stop_op (o := ⟨some 15, _, _, _, _, _⟩) ?_)
  obtain ⟨w1, hw1⟩ : ∃ x, x = w.alloc (.cells #[.int .u64 (sh : Nat), .int .u64 (sl : Nat), .int .u64 (dh : Nat), .int .u64 (dl : Nat), .int .i64 p, .int .i64 ttl, .slice A n c, .slice A2 n2 c2, .int .i64 sp, .int .i64 dp, .int .u32 (sq : Nat), .int .u32 (ak : Nat), .int .i64 fl, .int .i64 wn] 59) := ⟨_, rfl⟩
  have hP : w1.heap[w.heap.size]? = some (.cells #[.int .u64 (sh : Nat), .int .u64 (sl : Nat), .int .u64 (dh : Nat), .int .u64 (dl : Nat), .int .i64 p, .int .i64 ttl, .slice A n c, .slice A2 n2 c2, .int .i64 sp, .int .i64 dp, .int .u32 (sq : Nat), .int .u32 (ak : Nat), .int .i64 fl, .int .i64 wn] 59 (0, 0)) := by rw [hw1]; exact al_neww rfl _
  have bw : Below w.heap.size w w1 := by rw [hw1]; exact Below.al (Below.refl _ _) _
  rw [← hw1]
  clear hw1
  obtain ⟨q0, q1, q2, q3, q4, q5, q6, q7, q8, q9, q10, q11, q12, q13⟩ := cells14 hP
  refine Lib.hid ?_
  go_wp2_with (go_at_call 23; refine (cm0 _ bw).mono ?_; rintro e w0 ⟨_, rfl, _, _, hbx⟩; refine Hid.out ?_)
  have hPn := blkKeep2 hbx hP
  have bwn : Below w.heap.size w w0 := bw.trans (hbx.mono bw.size)
  clear hbx hP bw q0 q1 q2 q3 q4 q5 q6 q7 q8 q9 q10 q11 q12 q13
  have hP := hPn
  have bw := bwn
  clear hPn bwn
  obtain ⟨q0, q1, q2, q3, q4, q5, q6, q7, q8, q9, q10, q11, q12, q13⟩ := cells14 hP
  clear cm0
  refine Lib.hid ?_
  go_wp2_with (go_at_call 24; refine (cm _ bw).mono ?_; rintro e w2 ⟨B4, rfl, hR, _, hbx⟩; refine Hid.out ?_)
  have hPn := blkKeep2 hbx hP
  have bwn : Below w.heap.size w w2 := bw.trans (hbx.mono bw.size)
  have hT := lT hR
  clear hbx hP bw q0 q1 q2 q3 q4 q5 q6 q7 q8 q9 q10 q11 q12 q13
  have hP := hPn
  have bw := bwn
  clear hPn bwn
  obtain ⟨q0, q1, q2, q3, q4, q5, q6, q7, q8, q9, q10, q11, q12, q13⟩ := cells14 hP
  clear cm lT hR
  refine Lib.hid ?_
  go_wp2_with (go_at_call 21; refine (c1 _ _ hT).mono ?_; rintro e w3 ⟨A3, n3, c3', rfl, hB3, hbx⟩; refine Hid.out ?_)
  have hPn := blkKeep2 hbx hP
  have bwn : Below w.heap.size w w3 := bw.trans (hbx.mono bw.size)
  have hTn := hT.below hbx
  clear hbx hP bw q0 q1 q2 q3 q4 q5 q6 q7 q8 q9 q10 q11 q12 q13
  have hP := hPn
  have bw := bwn
  clear hPn bwn
  obtain ⟨q0, q1, q2, q3, q4, q5, q6, q7, q8, q9, q10, q11, q12, q13⟩ := cells14 hP
  clear c1 hT
  have hT := hTn
  clear hTn
  refine Lib.hid ?_
  go_wp2_with (go_at_call 22; refine (c2' _ _ hT).mono ?_; rintro e w4 ⟨A4, n4, c4', rfl, _, hbx⟩; refine Hid.out ?_)
  have hPn := blkKeep2 hbx hP
  have bwn : Below w.heap.size w w4 := bw.trans (hbx.mono bw.size)
  have hB4 := hB3.below hbx
  clear hbx hP bw q0 q1 q2 q3 q4 q5 q6 q7 q8 q9 q10 q11 q12 q13
  have hP := hPn
  have bw := bwn
  clear hPn bwn
  obtain ⟨q0, q1, q2, q3, q4, q5, q6, q7, q8, q9, q10, q11, q12, q13⟩ := cells14 hP
  clear c2' hT hB3
  refine Lib.hid ?_
  go_wp2
  go_ret
  exact ⟨by simp, bw⟩

set_option maxHeartbeats 4000000 in
set_option maxRecDepth 100000 in
theorem back_udp_ok (sh sl dh dl : Nat) (p ttl : Int) (A : Option Addr) (n c : Nat) (l : List UInt8) (A2 : Option Addr) (n2 c2 : Nat) (l2 : List UInt8) (sp dp : Int) (sq ak : Nat) (fl wn : Int) (hn2 : n2 ≤ 1000) (hd th : Int) (vv : Bool) (nL : Nat) (L : List UInt8) (hL : L.length = nL) (hLm : nL ≤ 2048) (hd0 : 0 ≤ hd) (hpk : packP sh sl dh dl 17 ttl (udpB sp dp l2) = (L, 0)) (hps : parseP L = (⟨vv, hd, (nL : Nat), ttl, 17, sh, sl, dh, dl, false, 0, 0, false⟩, 0)) (htr : transP L ⟨vv, hd, (nL : Nat), ttl, 17, sh, sl, dh, dl, false, 0, 0, false⟩ = (⟨sp % 65536, dp % 65536, 0, 0, 0, 0, 0, 0, th, (n2 : Nat)⟩, 0)) {w : World} (hx : PW.Ok ⟨sh, sl, dh, dl, p, ttl, A, n, c, l, A2, n2, c2, l2, sp, dp, sq, ak, fl, wn⟩ w) :
    Calls Try.prog 7 #[.agg #[.int .u64 (sh : Nat), .int .u64 (sl : Nat), .int .u64 (dh : Nat), .int .u64 (dl : Nat), .int .i64 p, .int .i64 ttl, .slice A n c, .slice A2 n2 c2, .int .i64 sp, .int .i64 dp, .int .u32 (sq : Nat), .int .u32 (ak : Nat), .int .i64 fl, .int .i64 wn], .bool true] w fun e w' => e = .returned (.bool true) ∧ Below w.heap.size w w' := by
  obtain ⟨h1, h2, h3, h4, hb, hdd, hsp, hdp, hwn, hsq, hak⟩ := hx
  simp only at h1 h2 h3 h4 hb hdd hsp hdp hwn hsq hak
  have g1 : decide ((1000 : Int) < (n2 : Int)) = false := by simp; omega
  have g2 : ¬ (1000 : Int) < (n2 : Int) := by omega
  have g3 : decide (1000 < n2) = false := by simp; omega
  have dn : ∀ x : Int, (x != x) = false := fun x => by simp
  have de : ∀ x : Int, (x == x) = true := fun x => by simp
  have cm0 := fun (W : World) (h : Below w.heap.size w W) => ptcp_any A2 n2 c2 l2 sp dp sq ak fl wn hsq hak (hdd.below h).1 (by omega)
  have cm := fun (W : World) (h : Below w.heap.size w W) => pudp_any A2 n2 c2 l2 sp dp (hdd.below h).1 (by omega)
  have lT : ∀ {W : World} {B : Nat}, Row W B (udpB sp dp l2) → BytA W (some ⟨B, 0, none⟩) (8 + n2) (8 + n2) (udpB sp dp l2) := fun {W B} h => ⟨⟨by unfold udpB; simp [beB_len, Zs_len, hdd.1.1]; omega, Nat.le_refl _, by unfold maxLen; omega, fun _ => ⟨B, 0, rfl, h.byt⟩⟩, fun h => by cases h⟩
  obtain ⟨NB, hNB⟩ : ∃ N, N = 8 + n2 := ⟨_, rfl⟩
  have hNBm : NB ≤ 65536 := by omega
  rw [← hNB] at lT
  simp only [← hNB] at cm
  clear hNB
  have c1 := fun (W : World) (B : Nat) (h : BytA W (some ⟨B, 0, none⟩) NB NB (udpB sp dp l2)) => packet_any _ NB NB _ sh sl dh dl 17 ttl h1 h2 h3 h4 h.1 hNBm
  have c2' := fun (W : World) (B : Nat) (h : BytA W (some ⟨B, 0, none⟩) NB NB (udpB sp dp l2)) => rpacket_any _ NB NB _ sh sl dh dl 17 ttl h1 h2 h3 h4 h hNBm
  simp only [hpk] at c1 c2'
  have a1 := and16 sp
  have a2 := and16 dp
  have a3 := and16 wn
  have a4 := and8 fl
  have hvk := vok_parse L
  rw [hps] at hvk
  have c3 := fun (W : World) (A' : Option Addr) (m c' : Nat) (h : BytA W A' m c' L) => parse_any A' m c' L h.1
  have c4 := fun (W : World) (A' : Option Addr) (m c' : Nat) (h : BytA W A' m c' L) => trans_any A' m c' L ⟨vv, hd, (nL : Nat), ttl, 17, sh, sl, dh, dl, false, 0, 0, false⟩ hvk h.1 (by have := h.1.1; omega) (by simp only; omega)
  simp only [hps, htr, vcells, tcells] at c3 c4
  clear hps htr hvk
  clear hb hdd hsp hdp hwn hsq hak h1 h2 h3 h4 hpk hNBm
  generalize hBL : (udpB sp dp l2) = BL at *
  clear hBL
  go_enter Try.func7, Try.ntmps7
  go_wp2_with (with_reducible refine stop_op (o := ⟨some 15, _, _, _, _, _⟩) ?_)
  obtain ⟨w1, hw1⟩ : ∃ x, x = w.alloc (.cells #[.int .u64 (sh : Nat), .int .u64 (sl : Nat), .int .u64 (dh : Nat), .int .u64 (dl : Nat), .int .i64 p, .int .i64 ttl, .slice A n c, .slice A2 n2 c2, .int .i64 sp, .int .i64 dp, .int .u32 (sq : Nat), .int .u32 (ak : Nat), .int .i64 fl, .int .i64 wn] 59) := ⟨_, rfl⟩
  have hP : w1.heap[w.heap.size]? = some (.cells #[.int .u64 (sh : Nat), .int .u64 (sl : Nat), .int .u64 (dh : Nat), .int .u64 (dl : Nat), .int .i64 p, .int .i64 ttl, .slice A n c, .slice A2 n2 c2, .int .i64 sp, .int .i64 dp, .int .u32 (sq : Nat), .int .u32 (ak : Nat), .int .i64 fl, .int .i64 wn] 59 (0, 0)) := by rw [hw1]; exact al_neww rfl _
  have bw : Below w.heap.size w w1 := by rw [hw1]; exact Below.al (Below.refl _ _) _
  rw [← hw1]
  clear hw1
  obtain ⟨q0, q1, q2, q3, q4, q5, q6, q7, q8, q9, q10, q11, q12, q13⟩ := cells14 hP
  refine Lib.hid ?_
  go_wp2_with (go_at_call 23; refine (cm0 _ bw).mono ?_; rintro e w0 ⟨_, rfl, _, _, hbx⟩; refine Hid.out ?_)
  have hPn := blkKeep2 hbx hP
  have bwn : Below w.heap.size w w0 := bw.trans (hbx.mono bw.size)
  clear hbx hP bw q0 q1 q2 q3 q4 q5 q6 q7 q8 q9 q10 q11 q12 q13
  have hP := hPn
  have bw := bwn
  clear hPn bwn
  obtain ⟨q0, q1, q2, q3, q4, q5, q6, q7, q8, q9, q10, q11, q12, q13⟩ := cells14 hP
  clear cm0
  refine Lib.hid ?_
  go_wp2_with (go_at_call 24; refine (cm _ bw).mono ?_; rintro e w2 ⟨B4, rfl, hR, _, hbx⟩; refine Hid.out ?_)
  have hPn := blkKeep2 hbx hP
  have bwn : Below w.heap.size w w2 := bw.trans (hbx.mono bw.size)
  have hT := lT hR
  clear hbx hP bw q0 q1 q2 q3 q4 q5 q6 q7 q8 q9 q10 q11 q12 q13
  have hP := hPn
  have bw := bwn
  clear hPn bwn
  obtain ⟨q0, q1, q2, q3, q4, q5, q6, q7, q8, q9, q10, q11, q12, q13⟩ := cells14 hP
  clear cm lT hR
  refine Lib.hid ?_
  go_wp2_with (go_at_call 21; refine (c1 _ _ hT).mono ?_; rintro e w3 ⟨A3, n3, c3', rfl, hB3, hbx⟩; refine Hid.out ?_)
  have hPn := blkKeep2 hbx hP
  have bwn : Below w.heap.size w w3 := bw.trans (hbx.mono bw.size)
  have hTn := hT.below hbx
  clear hbx hP bw q0 q1 q2 q3 q4 q5 q6 q7 q8 q9 q10 q11 q12 q13
  have hP := hPn
  have bw := bwn
  clear hPn bwn
  obtain ⟨q0, q1, q2, q3, q4, q5, q6, q7, q8, q9, q10, q11, q12, q13⟩ := cells14 hP
  clear c1 hT
  have hT := hTn
  clear hTn
  refine Lib.hid ?_
  go_wp2_with (go_at_call 22; refine (c2' _ _ hT).mono ?_; rintro e w4 ⟨A4, n4, c4', rfl, _, hbx⟩; refine Hid.out ?_)
  have hPn := blkKeep2 hbx hP
  have bwn : Below w.heap.size w w4 := bw.trans (hbx.mono bw.size)
  have hB4 := hB3.below hbx
  clear hbx hP bw q0 q1 q2 q3 q4 q5 q6 q7 q8 q9 q10 q11 q12 q13
  have hP := hPn
  have bw := bwn
  clear hPn bwn
  obtain ⟨q0, q1, q2, q3, q4, q5, q6, q7, q8, q9, q10, q11, q12, q13⟩ := cells14 hP
  clear c2' hT hB3
  refine Lib.hid ?_
  have hn3 : nL = n3 := by rw [← hB4.1.1, hL]
  subst hn3
  go_wp2_with (go_at_call 12; refine (c3 _ _ _ _ hB4).mono ?_; rintro e w5 ⟨rfl, hbx⟩; refine Hid.out ?_)
  have hPn := blkKeep2 hbx hP
  have bwn : Below w.heap.size w w5 := bw.trans (hbx.mono bw.size)
  have hB5 := hB4.below hbx
  clear hbx hP bw q0 q1 q2 q3 q4 q5 q6 q7 q8 q9 q10 q11 q12 q13
  have hP := hPn
  have bw := bwn
  clear hPn bwn
  obtain ⟨q0, q1, q2, q3, q4, q5, q6, q7, q8, q9, q10, q11, q12, q13⟩ := cells14 hP
  clear c3 hB4
  refine Lib.hid ?_
  go_wp2_with (with_reducible refine stop_op (o := ⟨some 83, _, _, _, _, _⟩) ?_)
  obtain ⟨w6, hw6⟩ : ∃ x, x = w5.alloc (.cells #[.bool vv, .int .i64 hd, .int .i64 (nL : Nat), .int .i64 ttl, .int .i64 17, .int .u64 (sh : Nat), .int .u64 (sl : Nat), .int .u64 (dh : Nat), .int .u64 (dl : Nat), .bool false, .int .u32 0, .int .i64 0, .bool false] 40) := ⟨_, rfl⟩
  have hV : w6.heap[w5.heap.size]? = some (.cells #[.bool vv, .int .i64 hd, .int .i64 (nL : Nat), .int .i64 ttl, .int .i64 17, .int .u64 (sh : Nat), .int .u64 (sl : Nat), .int .u64 (dh : Nat), .int .u64 (dl : Nat), .bool false, .int .u32 0, .int .i64 0, .bool false] 40 (0, 0)) := by rw [hw6]; exact al_neww rfl _
  have hbx : Below w5.heap.size w5 w6 := by rw [hw6]; exact Below.al (Below.refl _ _) _
  rw [← hw6]
  clear hw6
  have hPn := blkKeep2 hbx hP
  have bwn : Below w.heap.size w w6 := bw.trans (hbx.mono bw.size)
  have hB6 := hB5.below hbx
  clear hbx hP bw q0 q1 q2 q3 q4 q5 q6 q7 q8 q9 q10 q11 q12 q13
  have hP := hPn
  have bw := bwn
  clear hPn bwn
  obtain ⟨q0, q1, q2, q3, q4, q5, q6, q7, q8, q9, q10, q11, q12, q13⟩ := cells14 hP
  clear hB5
  obtain ⟨⟨v0, v1, v2, v3, v4, v5, v6, v7, v8, v9, v10, v11, v12⟩, _⟩ := cells13 hV
  refine Lib.hid ?_
  go_wp2_with (go_at_call 17; refine (c4 _ _ _ _ hB6).mono ?_; rintro e w7 ⟨rfl, hbx⟩; refine Hid.out ?_)
  have hPn := blkKeep2 hbx hP
  have bwn : Below w.heap.size w w7 := bw.trans (hbx.mono bw.size)
  have hVn := blkKeep2 hbx hV
  clear hbx hP bw q0 q1 q2 q3 q4 q5 q6 q7 q8 q9 q10 q11 q12 q13
  have hP := hPn
  have bw := bwn
  clear hPn bwn
  obtain ⟨q0, q1, q2, q3, q4, q5, q6, q7, q8, q9, q10, q11, q12, q13⟩ := cells14 hP
  clear c4 hB6 hV v0 v1 v2 v3 v4 v5 v6 v7 v8 v9 v10 v11 v12
  refine Lib.hid ?_
  go_wp2_with (with_reducible refine stop_op (o := ⟨some 88, _, _, _, _, _⟩) ?_)
  obtain ⟨w8, hw8⟩ : ∃ x, x = w7.alloc (.cells #[.int .i64 (sp % 65536), .int .i64 (dp % 65536), .int .u32 0, .int .u32 0, .int .i64 0, .int .i64 0, .int .i64 0, .int .i64 0, .int .i64 th, .int .i64 (n2 : Nat)] 50) := ⟨_, rfl⟩
  have hT8 : w8.heap[w7.heap.size]? = some (.cells #[.int .i64 (sp % 65536), .int .i64 (dp % 65536), .int .u32 0, .int .u32 0, .int .i64 0, .int .i64 0, .int .i64 0, .int .i64 0, .int .i64 th, .int .i64 (n2 : Nat)] 50 (0, 0)) := by rw [hw8]; exact al_neww rfl _
  have hbx : Below w7.heap.size w7 w8 := by rw [hw8]; exact Below.al (Below.refl _ _) _
  rw [← hw8]
  clear hw8
  have hPn := blkKeep2 hbx hP
  have bwn : Below w.heap.size w w8 := bw.trans (hbx.mono bw.size)
  have hV8 := blkKeep2 hbx hVn
  clear hbx hP bw q0 q1 q2 q3 q4 q5 q6 q7 q8 q9 q10 q11 q12 q13
  have hP := hPn
  have bw := bwn
  clear hPn bwn
  obtain ⟨q0, q1, q2, q3, q4, q5, q6, q7, q8, q9, q10, q11, q12, q13⟩ := cells14 hP
  clear hVn
  obtain ⟨⟨v0, v1, v2, v3, v4, v5, v6, v7, v8, v9, v10, v11, v12⟩, _⟩ := cells13 hV8
  obtain ⟨⟨t0, t1, t2, t3, t4, t5, t6, t7, t8, t9⟩, _⟩ := cells10 hT8
  refine Lib.hid ?_
  go_wp2
  go_ret
  exact ⟨by simp, bw⟩

/-- WireBack. -/
theorem back_any (x : PW) (ud : Bool) {w : World} (h : x.Ok w) : Calls Try.prog 7 #[.agg (pcells x), .bool ud] w fun e w' => e = .returned (.bool true) ∧ Below w.heap.size w w' := by
  have hx := h
  obtain ⟨sh, sl, dh, dl, p, ttl, A, n, c, l, A2, n2, c2, l2, sp, dp, sq, ak, fl, wn⟩ := x
  obtain ⟨h1, h2, h3, h4, hb, hd, hsp, hdp, hwn, hsq, hak⟩ := h
  simp only at h1 h2 h3 h4 hb hd hsp hdp hwn hsq hak
  have b3 := hd.1.2.1
  have b4 := hd.1.2.2.1
  have hl2 := hd.1.1
  unfold maxLen at b4
  simp only [pcells]
  by_cases g2 : 1000 < n2
  · exact back_long sh sl dh dl p ttl A n c l A2 n2 c2 l2 sp dp sq ak fl wn ud (by omega) g2 w
  cases ud with
  | false =>
    rcases hpk : packP sh sl dh dl 6 ttl (tcpB sp dp sq ak fl wn l2) with ⟨L, er⟩
    by_cases he : er = 0
    · subst he
      obtain ⟨H, vv, e1, e2, e3, e4⟩ := pack_ok (l := tcpB sp dp sq ak fl wn l2) h1 h2 h3 h4 (Or.inl rfl) (by rw [hpk])
      rw [hpk] at e1
      simp only at e1
      subst e1
      have hlen : (H ++ setB (vPk 6 sh sl dh dl) (tcpB sp dp sq ak fl wn l2)).length = H.length + (tcpB sp dp sq ak fl wn l2).length := by rw [List.length_append, setB_len]
      refine back_tcp_ok sh sl dh dl p ttl A n c l A2 n2 c2 l2 sp dp sq ak fl wn (by omega) (H.length : Int) ((H.length : Int) + 20) vv _ _ hlen (by omega) (by omega) hpk e4 ?_ hx
      have := back_tcp (sp := sp) (dp := dp) (fl := fl) (wn := wn) (d := l2) (H := H) (u := vPk 6 sh sl dh dl) (v := ⟨vv, (H.length : Int), ((H.length + (tcpB sp dp sq ak fl wn l2).length : Nat) : Int), ttl, 6, sh, sl, dh, dl, false, 0, 0, false⟩) hsq hak rfl rfl rfl rfl rfl rfl rfl (by rw [setB_len]) rfl
      rw [hl2] at this
      exact this
    · exact back_tcp_no sh sl dh dl p ttl A n c l A2 n2 c2 l2 sp dp sq ak fl wn (by omega) er he L hpk hx
  | true =>
    rcases hpk : packP sh sl dh dl 17 ttl (udpB sp dp l2) with ⟨L, er⟩
    by_cases he : er = 0
    · subst he
      obtain ⟨H, vv, e1, e2, e3, e4⟩ := pack_ok (l := udpB sp dp l2) h1 h2 h3 h4 (Or.inr rfl) (by rw [hpk])
      rw [hpk] at e1
      simp only at e1
      subst e1
      have hlen : (H ++ setB (vPk 17 sh sl dh dl) (udpB sp dp l2)).length = H.length + (udpB sp dp l2).length := by rw [List.length_append, setB_len]
      refine back_udp_ok sh sl dh dl p ttl A n c l A2 n2 c2 l2 sp dp sq ak fl wn (by omega) (H.length : Int) ((H.length : Int) + 8) vv _ _ hlen (by omega) (by omega) hpk e4 ?_ hx
      have := back_udp (sp := sp) (dp := dp) (d := l2) (H := H) (u := vPk 17 sh sl dh dl) (v := ⟨vv, (H.length : Int), ((H.length + (udpB sp dp l2).length : Nat) : Int), ttl, 17, sh, sl, dh, dl, false, 0, 0, false⟩) (by omega) rfl rfl rfl rfl rfl rfl rfl (by rw [setB_len]) rfl
      rw [hl2] at this
      exact this
    · exact back_udp_no sh sl dh dl p ttl A n c l A2 n2 c2 l2 sp dp sq ak fl wn (by omega) er he L hpk hx
end Go.Proofs.Ytpmbdjdhgcjkfaa
