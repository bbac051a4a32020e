/- What was built is read back: plain; by-name template. -/
import Derived.Test.YtpmbdjdhgcjkfaaZD
import Derived.Test.YtpmbdjdhgcjkfaaWRParse
import Derived.Test.YtpmbdjdhgcjkfaaWRTran
import Derived.Test.YtpmbdjdhgcjkfaaWRight
namespace Go.Proofs.Ytpmbdjdhgcjkfaa
open Go.RowKit Go.Sort
set_option linter.unusedVariables false
set_option linter.unusedSimpArgs false

theorem be2_val {S : Nat} (h : S ≤ 65535) : w16 (beB 2 S) = S := by
  show (UInt8.ofNat (S / 256 ^ 1)).toNat * 256 + (UInt8.ofNat (S / 256 ^ 0)).toNat + 0 = S
  rw [UInt8.toNat_ofNat', UInt8.toNat_ofNat', show (2 : Nat) ^ 8 = 256 from rfl]
  omega
theorem w16_mid {a b c : List UInt8} (ha : a.length % 2 = 0) (hb : b.length % 2 = 0) : w16 (a ++ b ++ c) = w16 a + w16 b + w16 c := by
  rw [w16_app (a ++ b) c (by rw [List.length_append]; omega), w16_app a b ha]
theorem sum_own {a c : List UInt8} (ha : a.length % 2 = 0) : sumP (a ++ beB 2 (sumP (a ++ [0, 0] ++ c)) ++ c) = 0 := by
  have h := sumP_le (a ++ [0, 0] ++ c)
  have e := w16_mid (a := a) (b := beB 2 (sumP (a ++ [0, 0] ++ c))) (c := c) ha (by rw [beB_len])
  rw [be2_val h] at e
  have e2 := w16_mid (a := a) (b := [0, 0]) (c := c) ha rfl
  have e3 : w16 [0, 0] = 0 := rfl
  unfold sumP at e ⊢
  rw [e]
  have := f16_own (w16 (a ++ [0, 0] ++ c))
  rw [show w16 a + (65535 - f16 (w16 (a ++ [0, 0] ++ c))) + w16 c = w16 (a ++ [0, 0] ++ c) + (65535 - f16 (w16 (a ++ [0, 0] ++ c))) by omega, this]
theorem sum_own1 {a c : List UInt8} (ha : a.length % 2 = 0) (h : sumP (a ++ [0, 0] ++ c) = 0) : sumP (a ++ beB 2 65535 ++ c) = 0 := by
  have e := w16_mid (a := a) (b := beB 2 65535) (c := c) ha (by rw [beB_len])
  rw [be2_val (by omega)] at e
  have e2 := w16_mid (a := a) (b := [0, 0]) (c := c) ha rfl
  have e3 : w16 [0, 0] = 0 := rfl
  unfold sumP at h ⊢
  have hf := f16_le (w16 (a ++ [0, 0] ++ c))
  have h5 : f16 (w16 (a ++ [0, 0] ++ c)) = 65535 := by omega
  rw [e, show w16 a + 65535 + w16 c = w16 (a ++ [0, 0] ++ c) + 65535 by omega]
  rw [f16_mod] at h5 ⊢
  split at h5
  · omega
  · rw [if_neg (by omega)]; omega
theorem psP_even (v : VW) (n : Nat) : (psP v n).length % 2 = 0 := by
  unfold psP
  split <;> simp [beB_len, psT4_len, psT16_len]
/-- A body whose check sum was set is right. -/
theorem set_right {v : VW} {l : List UInt8} {q : Nat} (hq : q % 2 = 0) (hl : q + 2 ≤ l.length) (hp : v.proto ≠ 1) : bsP v (putL l q (beB 2 (sumVal v (putL l q [0, 0])))) = 0 := by
  have hn1 : (putL l q (beB 2 (sumVal v (putL l q [0, 0])))).length = l.length := putL_len (by rw [beB_len]; omega)
  have hn2 : (putL l q [0, 0]).length = l.length := putL_len (by simp; omega)
  have eb : bsP v (putL l q [0, 0]) = sumP ((psP v l.length ++ l.take q) ++ [0, 0] ++ l.drop (q + 2)) := by
    unfold bsP; rw [if_neg hp, hn2]; unfold putL; simp [List.append_assoc]
  have ha : (psP v l.length ++ l.take q).length % 2 = 0 := by
    have := psP_even v l.length
    rw [List.length_append, List.length_take]; omega
  have eg : bsP v (putL l q (beB 2 (sumVal v (putL l q [0, 0])))) = sumP ((psP v l.length ++ l.take q) ++ beB 2 (sumVal v (putL l q [0, 0])) ++ l.drop (q + 2)) := by
    unfold bsP; rw [if_neg hp, hn1]; unfold putL; rw [beB_len]; simp [List.append_assoc]
  rw [eg]
  unfold sumVal
  split
  · rename_i h
    exact sum_own1 ha (by rw [← eb]; exact h.1)
  · rw [eb]; exact sum_own ha
theorem sumVal_nz {v : VW} {l : List UInt8} (hp : v.proto = 17) : 0 < sumVal v l ∧ sumVal v l ≤ 65535 := by
  have := bsP_le v l
  unfold sumVal
  split
  · omega
  · rename_i h; simp only [hp, and_true] at h; omega
theorem sumVal_le (v : VW) (l : List UInt8) : sumVal v l ≤ 65535 := by
  have := bsP_le v l
  unfold sumVal
  split <;> omega
theorem nbN_app {a b c : List UInt8} {o m : Nat} (ha : a.length = o) (hb : b.length = m) : nbN (a ++ b ++ c) o m = numB b := by
  unfold nbN
  rw [List.append_assoc, ← ha, List.drop_left, ← hb, List.take_left]
theorem nbN_be {a c : List UInt8} {o m x : Nat} (ha : a.length = o) : nbN (a ++ beB m x ++ c) o m = x % 256 ^ m := by
  rw [nbN_app ha (beB_len _ _), numB_be]
theorem byN_app {a c : List UInt8} {x : UInt8} {o : Nat} (ha : a.length = o) : byN (a ++ [x] ++ c) o = x.toNat := by
  unfold byN
  rw [List.getD_eq_getElem?_getD, List.append_assoc, List.getElem?_append_right (by omega), ha, Nat.sub_self]; rfl
theorem loB_byte {n : Int} (h : byteP n = true) : ((loB n).toNat : Int) = n := by
  simp only [byteP, Bool.and_eq_true, decide_eq_true_eq] at h
  rw [loB_val]; omega
theorem and16 (n : Int) : bits .and .i64 n 65535 = n % 65536 := by
  have hm : (BitVec.ofInt 64 65535).toNat = 2 ^ 16 - 1 := by decide
  have key : (BitVec.ofInt 64 n &&& BitVec.ofInt 64 65535).toNat = (n % ((2 ^ 64 : Nat) : Int)).toNat % 2 ^ 16 := by
    rw [BitVec.toNat_and, BitVec.toNat_ofInt, hm, Nat.and_two_pow_sub_one_eq_mod]
  show IntKind.i64.wrap ((BitVec.ofInt 64 n &&& BitVec.ofInt 64 65535).toNat : Nat) = n % 65536
  rw [key, IntKind.wrap_i64]
  omega
theorem and8 (n : Int) : bits .and .i64 n 255 = n % 256 := by
  have hm : (BitVec.ofInt 64 255).toNat = 2 ^ 8 - 1 := by decide
  have key : (BitVec.ofInt 64 n &&& BitVec.ofInt 64 255).toNat = (n % ((2 ^ 64 : Nat) : Int)).toNat % 2 ^ 8 := by
    rw [BitVec.toNat_and, BitVec.toNat_ofInt, hm, Nat.and_two_pow_sub_one_eq_mod]
  show IntKind.i64.wrap ((BitVec.ofInt 64 n &&& BitVec.ofInt 64 255).toNat : Nat) = n % 256
  rw [key, IntKind.wrap_i64]
  omega
theorem mid_take {a b c : List UInt8} {o m : Nat} (ha : a.length = o) (hb : b.length = m) : ((a ++ b ++ c).drop o).take m = b := by
  rw [List.append_assoc, ← ha, List.drop_left, ← hb, List.take_left]
theorem putL_mid {a b c bs : List UInt8} {o : Nat} (ha : a.length = o) (hb : b.length = bs.length) : putL (a ++ b ++ c) o bs = a ++ bs ++ c := by
  unfold putL
  have e1 : (a ++ b ++ c).take o = a := by rw [List.append_assoc, ← ha, List.take_left]
  have e2 : (a ++ b ++ c).drop (o + bs.length) = c := by
    rw [← hb, ← ha, ← List.length_append, List.drop_left]
  rw [e1, e2]
theorem adr_be4 {s : Nat} {h : Int} (h4 : is4I h (s : Int) = true) (hs : s < 18446744073709551616) : ((adrH (beB 4 s) : Nat) : Int) = h ∧ ((adrL (beB 4 s) : Nat) : Int) = (s : Int) := by
  unfold is4I at h4
  simp only [Bool.and_eq_true, decide_eq_true_eq] at h4
  unfold adrH adrL
  rw [if_pos (beB_len _ _), if_pos (beB_len _ _), numB_be]
  exact ⟨by omega, by omega⟩
theorem adr_be16 {a b : Nat} (ha : a < 18446744073709551616) (hb : b < 18446744073709551616) : adrH (beB 8 a ++ beB 8 b) = a ∧ adrL (beB 8 a ++ beB 8 b) = b := by
  unfold adrH adrL
  have e1 : (beB 8 a ++ beB 8 b).take 8 = beB 8 a := by have := List.take_left (l₁ := beB 8 a) (l₂ := beB 8 b); rwa [beB_len] at this
  have e2 : (beB 8 a ++ beB 8 b).drop 8 = beB 8 b := by have := List.drop_left (l₁ := beB 8 a) (l₂ := beB 8 b); rwa [beB_len] at this
  rw [if_neg (by simp [beB_len]), if_neg (by simp [beB_len]), e1, e2, List.take_of_length_le (by rw [beB_len]; omega), numB_be, numB_be]
  exact ⟨by omega, by omega⟩

/-- The network header read back, IPv4. -/
theorem back4 {p ttl : Int} {sh sl dh dl : Nat} {n : Nat} {b : List UInt8} (hb : b.length = n) (hN : 20 + n ≤ 2048) (hp : byteP p = true) (ht : byteP ttl = true) (hp58 : p ≠ 58) (h1 : sl < 18446744073709551616) (h2 : dl < 18446744073709551616) (hs : is4I (sh : Int) (sl : Int) = true) (hd : is4I (dh : Int) (dl : Int) = true) :
    parseP (hdr4 p ttl (20 + n) (beB 4 sl ++ beB 4 dl) ++ b) = (⟨false, 20, ((20 + n : Nat) : Int), ttl, p, sh, sl, dh, dl, false, 0, 0, false⟩, 0) := by
  have eP := loB_byte hp
  have eT := loB_byte ht
  obtain ⟨N, hNe⟩ : ∃ N, N = 20 + n := ⟨_, rfl⟩
  rw [← hNe] at hN ⊢
  obtain ⟨S, hS⟩ : ∃ S, S = sumP (top4 p ttl N ++ [0, 0] ++ (beB 4 sl ++ beB 4 dl)) := ⟨_, rfl⟩
  have e0 : hdr4 p ttl N (beB 4 sl ++ beB 4 dl) ++ b = top4 p ttl N ++ beB 2 S ++ (beB 4 sl ++ beB 4 dl) ++ b := by rw [hS]; rfl
  have hlen : (hdr4 p ttl N (beB 4 sl ++ beB 4 dl) ++ b).length = N := by rw [e0]; simp [top4_len, beB_len, hb]; omega
  have hsum : sumP ((hdr4 p ttl N (beB 4 sl ++ beB 4 dl) ++ b).take 20) = 0 := by
    have : (hdr4 p ttl N (beB 4 sl ++ beB 4 dl) ++ b).take 20 = hdr4 p ttl N (beB 4 sl ++ beB 4 dl) := by
      have h20 : (hdr4 p ttl N (beB 4 sl ++ beB 4 dl)).length = 20 := by unfold hdr4; simp [top4_len, beB_len]
      rw [← h20, List.take_left]
    rw [this]
    exact sum_own (a := top4 p ttl N) (c := beB 4 sl ++ beB 4 dl) (by rw [top4_len])
  have b0 : byN (hdr4 p ttl N (beB 4 sl ++ beB 4 dl) ++ b) 0 = 69 := by
    rw [e0]; rfl
  have n2 : nbN (hdr4 p ttl N (beB 4 sl ++ beB 4 dl) ++ b) 2 2 = N := by
    rw [e0, show top4 p ttl N ++ beB 2 S ++ (beB 4 sl ++ beB 4 dl) ++ b = ([69] ++ Zs 1) ++ beB 2 N ++ (Zs 2 ++ [64] ++ Zs 1 ++ [loB ttl] ++ [loB p] ++ beB 2 S ++ (beB 4 sl ++ beB 4 dl) ++ b) by unfold top4; simp [List.append_assoc], nbN_be (by rfl)]
    omega
  have n4 : nbN (hdr4 p ttl N (beB 4 sl ++ beB 4 dl) ++ b) 4 2 = 0 := by
    rw [e0, show top4 p ttl N ++ beB 2 S ++ (beB 4 sl ++ beB 4 dl) ++ b = ([69] ++ Zs 1 ++ beB 2 N) ++ Zs 2 ++ ([64] ++ Zs 1 ++ [loB ttl] ++ [loB p] ++ beB 2 S ++ (beB 4 sl ++ beB 4 dl) ++ b) by unfold top4; simp [List.append_assoc], nbN_app (by rfl) (by rfl)]
    rfl
  have n6 : nbN (hdr4 p ttl N (beB 4 sl ++ beB 4 dl) ++ b) 6 2 = 16384 := by
    rw [e0, show top4 p ttl N ++ beB 2 S ++ (beB 4 sl ++ beB 4 dl) ++ b = ([69] ++ Zs 1 ++ beB 2 N ++ Zs 2) ++ ([64] ++ Zs 1) ++ ([loB ttl] ++ [loB p] ++ beB 2 S ++ (beB 4 sl ++ beB 4 dl) ++ b) by unfold top4; simp [List.append_assoc], nbN_app (by rfl) (by rfl)]
    rfl
  have b8 : byN (hdr4 p ttl N (beB 4 sl ++ beB 4 dl) ++ b) 8 = (loB ttl).toNat := by
    rw [e0, show top4 p ttl N ++ beB 2 S ++ (beB 4 sl ++ beB 4 dl) ++ b = ([69] ++ Zs 1 ++ beB 2 N ++ Zs 2 ++ [64] ++ Zs 1) ++ [loB ttl] ++ ([loB p] ++ beB 2 S ++ (beB 4 sl ++ beB 4 dl) ++ b) by unfold top4; simp [List.append_assoc], byN_app (by rfl)]
  have b9 : byN (hdr4 p ttl N (beB 4 sl ++ beB 4 dl) ++ b) 9 = (loB p).toNat := by
    rw [e0, show top4 p ttl N ++ beB 2 S ++ (beB 4 sl ++ beB 4 dl) ++ b = ([69] ++ Zs 1 ++ beB 2 N ++ Zs 2 ++ [64] ++ Zs 1 ++ [loB ttl]) ++ [loB p] ++ (beB 2 S ++ (beB 4 sl ++ beB 4 dl) ++ b) by unfold top4; simp [List.append_assoc], byN_app (by rfl)]
  have d12 : ((hdr4 p ttl N (beB 4 sl ++ beB 4 dl) ++ b).drop 12).take 4 = beB 4 sl := by
    rw [e0, show top4 p ttl N ++ beB 2 S ++ (beB 4 sl ++ beB 4 dl) ++ b = (top4 p ttl N ++ beB 2 S) ++ beB 4 sl ++ (beB 4 dl ++ b) by simp [List.append_assoc], mid_take (by simp [top4_len, beB_len]) (beB_len _ _)]
  have d16 : ((hdr4 p ttl N (beB 4 sl ++ beB 4 dl) ++ b).drop 16).take 4 = beB 4 dl := by
    rw [e0, show top4 p ttl N ++ beB 2 S ++ (beB 4 sl ++ beB 4 dl) ++ b = (top4 p ttl N ++ beB 2 S ++ beB 4 sl) ++ beB 4 dl ++ b by simp [List.append_assoc], mid_take (by simp [top4_len, beB_len]) (beB_len _ _)]
  obtain ⟨a1, a2⟩ := adr_be4 hs h1
  obtain ⟨a3, a4⟩ := adr_be4 hd h2
  generalize hdr4 p ttl N (beB 4 sl ++ beB 4 dl) ++ b = L at *
  have hi : parse4P L = (⟨false, 20, (N : Int), ttl, p, sh, sl, dh, dl, false, 0, 0, false⟩, 0) := by
    unfold parse4P
    rw [if_neg (by omega), if_neg (by omega), if_neg (by omega), if_neg (by omega), if_neg (by omega), if_neg (by omega)]
    unfold view4 partP
    rw [n2, n4, n6, b8, b9, d12, d16, eT, eP, a1, a2, a3, a4]
    simp
  unfold parseP
  have hin : innerP L = parse4P L := by
    unfold innerP
    rw [if_neg (by omega), if_neg (by omega), if_pos (by omega)]
  rw [hin, hi]
  unfold outerP
  simp only
  rw [if_neg (by decide), if_neg (by omega), if_pos (by simp [carriesP, hp58])]

/-- The network header read back, IPv6. -/
theorem back6 {p ttl : Int} {sh sl dh dl : Nat} {n : Nat} {b : List UInt8} (hb : b.length = n) (hN : 40 + n ≤ 2048) (hp : byteP p = true) (ht : byteP ttl = true) (hp1 : p ≠ 1) (hp44 : p ≠ 44) (h1 : sh < 18446744073709551616) (h2 : sl < 18446744073709551616) (h3 : dh < 18446744073709551616) (h4 : dl < 18446744073709551616) (hs : is4I (sh : Int) (sl : Int) = false) (hd : is4I (dh : Int) (dl : Int) = false) :
    parseP (hdr6 p ttl n ((beB 8 sh ++ beB 8 sl) ++ (beB 8 dh ++ beB 8 dl)) ++ b) = (⟨true, 40, ((40 + n : Nat) : Int), ttl, p, sh, sl, dh, dl, false, 0, 0, false⟩, 0) := by
  have eP := loB_byte hp
  have eT := loB_byte ht
  have e0 : hdr6 p ttl n ((beB 8 sh ++ beB 8 sl) ++ (beB 8 dh ++ beB 8 dl)) ++ b = [96] ++ Zs 3 ++ beB 2 n ++ [loB p] ++ [loB ttl] ++ ((beB 8 sh ++ beB 8 sl) ++ (beB 8 dh ++ beB 8 dl)) ++ b := rfl
  generalize hL : hdr6 p ttl n ((beB 8 sh ++ beB 8 sl) ++ (beB 8 dh ++ beB 8 dl)) ++ b = L at *
  have hlen : L.length = 40 + n := by rw [e0]; simp [beB_len, Zs_len, hb]; omega
  have b0 : byN L 0 = 96 := by rw [e0]; rfl
  have n4 : nbN L 4 2 = n := by
    rw [e0, show [96] ++ Zs 3 ++ beB 2 n ++ [loB p] ++ [loB ttl] ++ ((beB 8 sh ++ beB 8 sl) ++ (beB 8 dh ++ beB 8 dl)) ++ b = ([96] ++ Zs 3) ++ beB 2 n ++ ([loB p] ++ [loB ttl] ++ ((beB 8 sh ++ beB 8 sl) ++ (beB 8 dh ++ beB 8 dl)) ++ b) by simp [List.append_assoc], nbN_be (by rfl)]
    omega
  have b6 : byN L 6 = (loB p).toNat := by
    rw [e0, show [96] ++ Zs 3 ++ beB 2 n ++ [loB p] ++ [loB ttl] ++ ((beB 8 sh ++ beB 8 sl) ++ (beB 8 dh ++ beB 8 dl)) ++ b = ([96] ++ Zs 3 ++ beB 2 n) ++ [loB p] ++ ([loB ttl] ++ ((beB 8 sh ++ beB 8 sl) ++ (beB 8 dh ++ beB 8 dl)) ++ b) by simp [List.append_assoc], byN_app (by rfl)]
  have b7 : byN L 7 = (loB ttl).toNat := by
    rw [e0, show [96] ++ Zs 3 ++ beB 2 n ++ [loB p] ++ [loB ttl] ++ ((beB 8 sh ++ beB 8 sl) ++ (beB 8 dh ++ beB 8 dl)) ++ b = ([96] ++ Zs 3 ++ beB 2 n ++ [loB p]) ++ [loB ttl] ++ (((beB 8 sh ++ beB 8 sl) ++ (beB 8 dh ++ beB 8 dl)) ++ b) by simp [List.append_assoc], byN_app (by rfl)]
  have d8 : (L.drop 8).take 16 = beB 8 sh ++ beB 8 sl := by
    rw [e0, show [96] ++ Zs 3 ++ beB 2 n ++ [loB p] ++ [loB ttl] ++ ((beB 8 sh ++ beB 8 sl) ++ (beB 8 dh ++ beB 8 dl)) ++ b = ([96] ++ Zs 3 ++ beB 2 n ++ [loB p] ++ [loB ttl]) ++ (beB 8 sh ++ beB 8 sl) ++ ((beB 8 dh ++ beB 8 dl) ++ b) by simp [List.append_assoc], mid_take (by rfl) (by simp [beB_len])]
  have d24 : (L.drop 24).take 16 = beB 8 dh ++ beB 8 dl := by
    rw [e0, show [96] ++ Zs 3 ++ beB 2 n ++ [loB p] ++ [loB ttl] ++ ((beB 8 sh ++ beB 8 sl) ++ (beB 8 dh ++ beB 8 dl)) ++ b = ([96] ++ Zs 3 ++ beB 2 n ++ [loB p] ++ [loB ttl] ++ (beB 8 sh ++ beB 8 sl)) ++ (beB 8 dh ++ beB 8 dl) ++ b by simp [List.append_assoc], mid_take (by rfl) (by simp [beB_len])]
  obtain ⟨a1, a2⟩ := adr_be16 h1 h2
  obtain ⟨a3, a4⟩ := adr_be16 h3 h4
  have hv : ∀ t : Nat, view6 L t = ⟨true, 40, (t : Int), ttl, p, sh, sl, dh, dl, false, 0, 0, false⟩ := by
    intro t
    unfold view6
    rw [b6, b7, d8, d24, eT, eP, a1, a2, a3, a4]
  have hi : parse6P L = (⟨true, 40, ((40 + n : Nat) : Int), ttl, p, sh, sl, dh, dl, false, 0, 0, false⟩, 0) := by
    unfold parse6P
    rw [if_neg (by omega), if_neg (by omega)]
    simp only [hv]
    rw [if_neg (by rw [hs, hd]; decide), if_pos (by omega), n4, Nat.add_comm]
  unfold parseP
  have hin : innerP L = parse6P L := by
    unfold innerP
    rw [if_neg (by omega), if_neg (by omega), if_neg (by omega), if_pos (by omega)]
  rw [hin, hi]
  unfold outerP
  simp only
  rw [if_neg (by decide), if_neg (by omega), if_pos (by simp [carriesP, hp1])]
end Go.Proofs.Ytpmbdjdhgcjkfaa

namespace Go.Proofs.Ytpmbdjdhgcjkfaa
open Go.RowKit Go.Sort
set_option linter.unusedVariables false
set_option linter.unusedSimpArgs false

theorem setB_at {v : VW} {l : List UInt8} {z q : Nat} (h : layP v.proto = ((z : Int), (q : Int))) (hz : z ≠ 0) (hl : z ≤ l.length) : setB v l = putL l q (beB 2 (sumVal v (putL l q [0, 0]))) := by
  unfold setB
  rw [h]
  simp only
  rw [if_neg (by omega), Int.toNat_natCast]
theorem body_of {H b : List UInt8} {v : VW} (hh : v.head = (H.length : Int)) (ht : v.total = ((H.length + b.length : Nat) : Int)) : bodyP (H ++ b) v = b := by
  unfold bodyP
  rw [hh, ht, Int.toNat_natCast, Int.toNat_natCast, List.drop_left, List.take_of_length_le (by omega)]
theorem bsP_same {v u : VW} {l : List UInt8} (h1 : v.proto = u.proto) (h2 : v.srcH = u.srcH) (h3 : v.srcL = u.srcL) (h4 : v.dstH = u.dstH) (h5 : v.dstL = u.dstL) : bsP v l = bsP u l := by
  unfold bsP psP
  rw [h1, h2, h3, h4, h5]

/-- A TCP header read back. -/
theorem back_tcp {sp dp : Int} {sq ak : Nat} {fl wn : Int} {d H : List UInt8} {v u : VW} (hsq : sq < 4294967296) (hak : ak < 4294967296) (hu : u.proto = 6) (h1 : v.proto = u.proto) (h2 : v.srcH = u.srcH) (h3 : v.srcL = u.srcL) (h4 : v.dstH = u.dstH) (h5 : v.dstL = u.dstL)
    (hh : v.head = (H.length : Int)) (ht : v.total = ((H.length + (setB u (tcpB sp dp sq ak fl wn d)).length : Nat) : Int)) (hf : v.frag = false) :
    transP (H ++ setB u (tcpB sp dp sq ak fl wn d)) v = (⟨sp % 65536, dp % 65536, sq, ak, fl % 256, wn % 65536, 0, 0, (H.length : Int) + 20, d.length⟩, 0) := by
  have hlen : (tcpB sp dp sq ak fl wn d).length = 20 + d.length := by unfold tcpB; simp [beB_len, Zs_len]; omega
  have hlay : layP u.proto = (((20 : Nat) : Int), ((16 : Nat) : Int)) := by rw [hu]; rfl
  have hset := setB_at (z := 20) (q := 16) (l := tcpB sp dp sq ak fl wn d) hlay (by decide) (by omega)
  have hright := set_right (v := u) (l := tcpB sp dp sq ak fl wn d) (q := 16) (by decide) (by omega) (by omega)
  rw [← hset] at hright
  have hblen : (setB u (tcpB sp dp sq ak fl wn d)).length = 20 + d.length := by rw [setB_len, hlen]
  generalize hs : sumVal u (putL (tcpB sp dp sq ak fl wn d) 16 [0, 0]) = s at hset
  have hform : setB u (tcpB sp dp sq ak fl wn d) = beB 2 (lowN sp) ++ beB 2 (lowN dp) ++ (beB 4 sq ++ beB 4 ak) ++ [80] ++ [loB fl] ++ beB 2 (lowN wn) ++ beB 2 s ++ (Zs 2 ++ d) := by
    rw [hset, show tcpB sp dp sq ak fl wn d = (beB 2 (lowN sp) ++ beB 2 (lowN dp) ++ (beB 4 sq ++ beB 4 ak) ++ [80] ++ [loB fl] ++ beB 2 (lowN wn)) ++ Zs 2 ++ (Zs 2 ++ d) by unfold tcpB; rw [show Zs 4 = Zs 2 ++ Zs 2 from rfl]; simp [List.append_assoc], putL_mid (by simp [beB_len]) (by rw [Zs_len, beB_len])]
  rw [transP_tP (by rw [hh, ht, hf, List.length_append]; simp; omega), body_of hh ht]
  have f0 : nbN (setB u (tcpB sp dp sq ak fl wn d)) 0 2 = lowN sp % 65536 := by
    rw [hform, show beB 2 (lowN sp) ++ beB 2 (lowN dp) ++ (beB 4 sq ++ beB 4 ak) ++ [80] ++ [loB fl] ++ beB 2 (lowN wn) ++ beB 2 s ++ (Zs 2 ++ d) = [] ++ beB 2 (lowN sp) ++ (beB 2 (lowN dp) ++ (beB 4 sq ++ beB 4 ak) ++ [80] ++ [loB fl] ++ beB 2 (lowN wn) ++ beB 2 s ++ (Zs 2 ++ d)) by simp [List.append_assoc], nbN_be (o := 0) (a := []) rfl]
  have f2 : nbN (setB u (tcpB sp dp sq ak fl wn d)) 2 2 = lowN dp % 65536 := by
    rw [hform, show beB 2 (lowN sp) ++ beB 2 (lowN dp) ++ (beB 4 sq ++ beB 4 ak) ++ [80] ++ [loB fl] ++ beB 2 (lowN wn) ++ beB 2 s ++ (Zs 2 ++ d) = beB 2 (lowN sp) ++ beB 2 (lowN dp) ++ ((beB 4 sq ++ beB 4 ak) ++ [80] ++ [loB fl] ++ beB 2 (lowN wn) ++ beB 2 s ++ (Zs 2 ++ d)) by simp [List.append_assoc], nbN_be (beB_len _ _)]
  have f4 : nbN (setB u (tcpB sp dp sq ak fl wn d)) 4 4 = sq := by
    rw [hform, show beB 2 (lowN sp) ++ beB 2 (lowN dp) ++ (beB 4 sq ++ beB 4 ak) ++ [80] ++ [loB fl] ++ beB 2 (lowN wn) ++ beB 2 s ++ (Zs 2 ++ d) = (beB 2 (lowN sp) ++ beB 2 (lowN dp)) ++ beB 4 sq ++ (beB 4 ak ++ [80] ++ [loB fl] ++ beB 2 (lowN wn) ++ beB 2 s ++ (Zs 2 ++ d)) by simp [List.append_assoc], nbN_be (by simp [beB_len])]
    omega
  have f8 : nbN (setB u (tcpB sp dp sq ak fl wn d)) 8 4 = ak := by
    rw [hform, show beB 2 (lowN sp) ++ beB 2 (lowN dp) ++ (beB 4 sq ++ beB 4 ak) ++ [80] ++ [loB fl] ++ beB 2 (lowN wn) ++ beB 2 s ++ (Zs 2 ++ d) = (beB 2 (lowN sp) ++ beB 2 (lowN dp) ++ beB 4 sq) ++ beB 4 ak ++ ([80] ++ [loB fl] ++ beB 2 (lowN wn) ++ beB 2 s ++ (Zs 2 ++ d)) by simp [List.append_assoc], nbN_be (by simp [beB_len])]
    omega
  have f12 : byN (setB u (tcpB sp dp sq ak fl wn d)) 12 = 80 := by
    rw [hform, show beB 2 (lowN sp) ++ beB 2 (lowN dp) ++ (beB 4 sq ++ beB 4 ak) ++ [80] ++ [loB fl] ++ beB 2 (lowN wn) ++ beB 2 s ++ (Zs 2 ++ d) = (beB 2 (lowN sp) ++ beB 2 (lowN dp) ++ (beB 4 sq ++ beB 4 ak)) ++ [80] ++ ([loB fl] ++ beB 2 (lowN wn) ++ beB 2 s ++ (Zs 2 ++ d)) by simp [List.append_assoc], byN_app (by simp [beB_len])]
    rfl
  have f13 : byN (setB u (tcpB sp dp sq ak fl wn d)) 13 = (loB fl).toNat := by
    rw [hform, show beB 2 (lowN sp) ++ beB 2 (lowN dp) ++ (beB 4 sq ++ beB 4 ak) ++ [80] ++ [loB fl] ++ beB 2 (lowN wn) ++ beB 2 s ++ (Zs 2 ++ d) = (beB 2 (lowN sp) ++ beB 2 (lowN dp) ++ (beB 4 sq ++ beB 4 ak) ++ [80]) ++ [loB fl] ++ (beB 2 (lowN wn) ++ beB 2 s ++ (Zs 2 ++ d)) by simp [List.append_assoc], byN_app (by simp [beB_len])]
  have f14 : nbN (setB u (tcpB sp dp sq ak fl wn d)) 14 2 = lowN wn % 65536 := by
    rw [hform, show beB 2 (lowN sp) ++ beB 2 (lowN dp) ++ (beB 4 sq ++ beB 4 ak) ++ [80] ++ [loB fl] ++ beB 2 (lowN wn) ++ beB 2 s ++ (Zs 2 ++ d) = (beB 2 (lowN sp) ++ beB 2 (lowN dp) ++ (beB 4 sq ++ beB 4 ak) ++ [80] ++ [loB fl]) ++ beB 2 (lowN wn) ++ (beB 2 s ++ (Zs 2 ++ d)) by simp [List.append_assoc], nbN_be (by simp [beB_len])]
  have hv6 : v.proto = 6 := by rw [h1, hu]
  have hH : hsP (setB u (tcpB sp dp sq ak fl wn d)) v.proto = (20, 0) := by
    rw [hv6]
    unfold hsP
    rw [show layP 6 = (20, 16) from rfl, if_neg (by simp only; omega), if_pos rfl, f12, if_neg (by decide), if_neg (by omega)]
    rfl
  have hR : rsP v (setB u (tcpB sp dp sq ak fl wn d)) = true := by
    unfold rsP
    rw [hv6, if_neg (by decide), if_pos (Or.inl rfl), bsP_same h1 h2 h3 h4 h5, hright]
    rfl
  rw [tP_o hH hR, hv6]
  simp only [fieldsP, if_true]
  rw [f0, f2, f4, f8, f13, f14, loB_val, if_neg (by simp), hh, ht, hblen]
  have l1 : ((lowN sp % 65536 : Nat) : Int) = sp % 65536 := by unfold lowN; omega
  have l2 : ((lowN dp % 65536 : Nat) : Int) = dp % 65536 := by unfold lowN; omega
  have l3 : ((lowN wn % 65536 : Nat) : Int) = wn % 65536 := by unfold lowN; omega
  rw [l1, l2, l3, show ((H.length + (20 + d.length) : Nat) : Int) - ((H.length : Int) + 20) = (d.length : Int) by omega]

/-- A UDP header read back. -/
theorem back_udp {sp dp : Int} {d H : List UInt8} {v u : VW} (hd : d.length ≤ 60000) (hu : u.proto = 17) (h1 : v.proto = u.proto) (h2 : v.srcH = u.srcH) (h3 : v.srcL = u.srcL) (h4 : v.dstH = u.dstH) (h5 : v.dstL = u.dstL)
    (hh : v.head = (H.length : Int)) (ht : v.total = ((H.length + (setB u (udpB sp dp d)).length : Nat) : Int)) (hf : v.frag = false) :
    transP (H ++ setB u (udpB sp dp d)) v = (⟨sp % 65536, dp % 65536, 0, 0, 0, 0, 0, 0, (H.length : Int) + 8, d.length⟩, 0) := by
  have hlen : (udpB sp dp d).length = 8 + d.length := by unfold udpB; simp [beB_len, Zs_len]; omega
  have hlay : layP u.proto = (((8 : Nat) : Int), ((6 : Nat) : Int)) := by rw [hu]; rfl
  have hset := setB_at (z := 8) (q := 6) (l := udpB sp dp d) hlay (by decide) (by omega)
  have hright := set_right (v := u) (l := udpB sp dp d) (q := 6) (by decide) (by omega) (by omega)
  rw [← hset] at hright
  have hblen : (setB u (udpB sp dp d)).length = 8 + d.length := by rw [setB_len, hlen]
  have hsn := sumVal_nz (v := u) (l := putL (udpB sp dp d) 6 [0, 0]) hu
  generalize hs : sumVal u (putL (udpB sp dp d) 6 [0, 0]) = s at hset hsn
  have hform : setB u (udpB sp dp d) = beB 2 (lowN sp) ++ beB 2 (lowN dp) ++ beB 2 (8 + d.length) ++ beB 2 s ++ d := by
    rw [hset]
    unfold udpB
    rw [putL_mid (by simp [beB_len]) (by rw [Zs_len, beB_len])]
  rw [transP_tP (by rw [hh, ht, hf, List.length_append]; simp; omega), body_of hh ht]
  have f0 : nbN (setB u (udpB sp dp d)) 0 2 = lowN sp % 65536 := by
    rw [hform, show beB 2 (lowN sp) ++ beB 2 (lowN dp) ++ beB 2 (8 + d.length) ++ beB 2 s ++ d = [] ++ beB 2 (lowN sp) ++ (beB 2 (lowN dp) ++ beB 2 (8 + d.length) ++ beB 2 s ++ d) by simp [List.append_assoc], nbN_be (o := 0) (a := []) rfl]
  have f2 : nbN (setB u (udpB sp dp d)) 2 2 = lowN dp % 65536 := by
    rw [hform, show beB 2 (lowN sp) ++ beB 2 (lowN dp) ++ beB 2 (8 + d.length) ++ beB 2 s ++ d = beB 2 (lowN sp) ++ beB 2 (lowN dp) ++ (beB 2 (8 + d.length) ++ beB 2 s ++ d) by simp [List.append_assoc], nbN_be (beB_len _ _)]
  have f4 : nbN (setB u (udpB sp dp d)) 4 2 = 8 + d.length := by
    rw [hform, show beB 2 (lowN sp) ++ beB 2 (lowN dp) ++ beB 2 (8 + d.length) ++ beB 2 s ++ d = (beB 2 (lowN sp) ++ beB 2 (lowN dp)) ++ beB 2 (8 + d.length) ++ (beB 2 s ++ d) by simp [List.append_assoc], nbN_be (by simp [beB_len])]
    omega
  have f6 : nbN (setB u (udpB sp dp d)) 6 2 = s := by
    rw [hform, show beB 2 (lowN sp) ++ beB 2 (lowN dp) ++ beB 2 (8 + d.length) ++ beB 2 s ++ d = (beB 2 (lowN sp) ++ beB 2 (lowN dp) ++ beB 2 (8 + d.length)) ++ beB 2 s ++ d by simp [List.append_assoc], nbN_be (by simp [beB_len])]
    omega
  have hv17 : v.proto = 17 := by rw [h1, hu]
  have hH : hsP (setB u (udpB sp dp d)) v.proto = (8, 0) := by
    rw [hv17]
    unfold hsP
    rw [show layP 17 = (8, 6) from rfl, if_neg (by simp only; omega), if_neg (by decide), if_pos rfl, f4, hblen, if_neg (by simp)]
  have hR : rsP v (setB u (udpB sp dp d)) = true := by
    unfold rsP
    rw [hv17, if_pos rfl, f6, if_neg (by omega), bsP_same h1 h2 h3 h4 h5, hright]
    rfl
  have hF : fieldsP (setB u (udpB sp dp d)) v.v6 17 = ⟨nbN (setB u (udpB sp dp d)) 0 2, nbN (setB u (udpB sp dp d)) 2 2, 0, 0, 0, 0, 0, 0, 0, 0⟩ := by
    unfold fieldsP
    rw [if_neg (by decide), if_pos rfl]
  rw [tP_o hH hR, hv17, hF, f0, f2]
  simp only
  rw [if_neg (by simp), hh, ht, hblen]
  have l1 : ((lowN sp % 65536 : Nat) : Int) = sp % 65536 := by unfold lowN; omega
  have l2 : ((lowN dp % 65536 : Nat) : Int) = dp % 65536 := by unfold lowN; omega
  rw [l1, l2, show ((H.length + (8 + d.length) : Nat) : Int) - ((H.length : Int) + 8) = (d.length : Int) by omega]
end Go.Proofs.Ytpmbdjdhgcjkfaa

namespace Go.Proofs.Ytpmbdjdhgcjkfaa
open Go.RowKit Go.Sort
set_option linter.unusedVariables false
set_option linter.unusedSimpArgs false

theorem vok_zero : VOk zvw := by
  refine ⟨?_, ?_, ?_, ?_, ?_, ?_, rfl⟩ <;> simp [zvw, Word]
theorem adr4 {l : List UInt8} (h : l.length = 4) : Word (adrH l : Nat) ∧ Word (adrL l : Nat) ∧ is4I (adrH l : Nat) (adrL l : Nat) = true := by
  have hb := numB_lt l
  rw [h] at hb
  unfold adrH adrL Word is4I
  rw [if_pos h, if_pos h]
  refine ⟨by omega, by omega, ?_⟩
  have : ((281470681743360 + numB l : Nat) : Int) / 4294967296 = 65535 := by omega
  rw [this]; rfl
theorem vok_part {v : VW} (h : VOk v) (o m : Int) : VOk (partP v o m) := ⟨h.p0, h.p1, h.sh, h.sl, h.dh, h.dl, h.fam⟩
theorem vok_parse (l : List UInt8) : VOk (parseP l).1 := by
  by_cases h : (parseP l).2 = 0
  · unfold parseP at h ⊢
    obtain ⟨h1, h2, h3, h4⟩ := outerP_ok h
    rw [h4]
    obtain ⟨k1, k2, ⟨k0, k3⟩ | ⟨k0, k3⟩⟩ := innerP_ok h1
    · rw [k3] at h1 ⊢
      obtain ⟨p1, p2, p3, p4, p5, p6, p7⟩ := parse4P_ok h1
      rw [p7]
      refine vok_part ?_ _ _
      obtain ⟨s1, s2, s3⟩ := adr4 (l := (l.drop 12).take 4) (by rw [List.length_take, List.length_drop]; omega)
      obtain ⟨d1, d2, d3⟩ := adr4 (l := (l.drop 16).take 4) (by rw [List.length_take, List.length_drop]; omega)
      have hp := byN_lt l 9
      exact ⟨by simp only [view4]; omega, by simp only [view4]; omega, s1, s2, d1, d2, by simp only [view4]; rw [s3, d3]⟩
    · rw [k3] at h1 ⊢
      obtain ⟨p1, p2, p3, p4, p5⟩ := parse6P_ok h1
      have s1 := adrH_lt (l := (l.drop 8).take 16) (by rw [List.length_take, List.length_drop]; omega)
      have s2 := adrL_lt (l := (l.drop 8).take 16) (by rw [List.length_take, List.length_drop]; omega)
      have d1 := adrH_lt (l := (l.drop 24).take 16) (by rw [List.length_take, List.length_drop]; omega)
      have d2 := adrL_lt (l := (l.drop 24).take 16) (by rw [List.length_take, List.length_drop]; omega)
      have hp := byN_lt l 6
      have hq := byN_lt l 40
      simp only [view6] at p3 p4
      rcases p5 with ⟨q1, q2⟩ | ⟨q1, q2, q3, q4⟩
      · rw [q2]
        exact ⟨by simp only [view6]; omega, by simp only [view6]; omega, s1, s2, d1, d2, by simp only [view6]; rw [p3, p4]⟩
      · rw [q4]
        refine vok_part ?_ _ _
        exact ⟨by simp only; omega, by simp only; omega, s1, s2, d1, d2, by simp only [view6]; rw [p3, p4]⟩
  · rw [parseP_bad h]; exact vok_zero
end Go.Proofs.Ytpmbdjdhgcjkfaa
