/- Packet: the program's; by-name template (gen_wpacket.py). -/
import Derived.Test.YtpmbdjdhgcjkfaaZB
namespace Go.Proofs.Ytpmbdjdhgcjkfaa
open Go.RowKit Go.Sort
set_option linter.unusedVariables false
set_option linter.unusedSimpArgs false

def byteP (n : Int) : Bool := decide (0 ≤ n) && decide (n ≤ 255)
/-- A header's first ten bytes, of IPv4. -/
def top4 (p ttl : Int) (N : Nat) : List UInt8 := [69] ++ Zs 1 ++ beB 2 N ++ Zs 2 ++ [64] ++ Zs 1 ++ [loB ttl] ++ [loB p]
def hdr4 (p ttl : Int) (N : Nat) (sd : List UInt8) : List UInt8 := top4 p ttl N ++ beB 2 (sumP (top4 p ttl N ++ [0, 0] ++ sd)) ++ sd
def hdr6 (p ttl : Int) (n : Nat) (sd : List UInt8) : List UInt8 := [96] ++ Zs 3 ++ beB 2 n ++ [loB p] ++ [loB ttl] ++ sd
def vPk (p sh sl dh dl : Int) : VW := { zvw with proto := p, srcH := sh, srcL := sl, dstH := dh, dstL := dl }
theorem Row.pz {w : World} {B q k m : Nat} {p : List UInt8} (h : Row w B (p ++ Zs q)) (hq : q = k + m) : Row w B ((p ++ Zs k) ++ Zs m) := by
  subst hq
  rw [Zs_add, ← List.append_assoc] at h
  exact h
theorem cut_end2 (g n k : Nat) (h : k ≤ n) (hn : n ≤ 9223372036854775807) : ∃ e : Nat, (∀ W, (Instr.slice 22 (.slice (some ⟨g, 0, none⟩) n n) (some (.int .i64 (k : Nat))) none none).run Try.prog W = .ok (.slice (some ⟨g, e, none⟩) (n - k) (n - k)) W) ∧ (0 < n - k → e = k) := by
  by_cases hk : k < n
  · refine ⟨k, fun W => ?_, fun _ => rfl⟩
    have := cut_l g 0 n n k (by omega) hk hn (Nat.le_refl _) W
    rw [Nat.zero_add] at this
    exact this
  · obtain rfl : k = n := by omega
    refine ⟨0, fun W => ?_, fun h => absurd h (by omega)⟩
    have hz : (sizeOf (Try.prog.elem 22)).run Try.prog W = .ok 1 W := by kernel_rfl
    rw [run_slice_l W 22 (some ⟨g, 0, none⟩) k k (by kernel_rfl) .i64 (k : Nat) (by omega) (by omega), hz]
    simp [Result.andThen, sliced]
theorem setB_len (v : VW) (l : List UInt8) : (setB v l).length = l.length := by
  unfold setB
  split
  · rfl
  · rename_i h
    obtain ⟨z, q, hz, hz0, hq, _⟩ := layP_ok (p := v.proto) (fun e => h (Or.inl e))
    rw [hz] at h ⊢
    simp only [not_or, Int.not_lt] at h
    rw [putL_len (by rw [beB_len]; simp only [Int.toNat_natCast]; omega)]
theorem top4_len (p ttl : Int) (N : Nat) : (top4 p ttl N).length = 10 := by simp [top4, beB_len, Zs_len]
theorem setBy_byt {w w' : World} {D : Option Addr} {B k : Nat} {H l : List UInt8} {v : VW} (hR : Byt w B 0 (H ++ l)) (hk : H.length = k) (hD : 0 < l.length → D = some ⟨B, k, none⟩) (h : SetBy w D l v w') : Byt w' B 0 (H ++ setB v l) := by
  rcases h with ⟨e, hb⟩ | ⟨g, o, i, bs, e1, hW, hi, e2⟩
  · rw [e]; exact hR.below hb
  · by_cases h0 : 0 < l.length
    · rw [hD h0] at e1
      cases e1
      have := Wr.splice (o := 0) (i := k + i) (by rw [Nat.zero_add]; exact hW) hR (by rw [List.length_append]; omega)
      rw [e2]
      have e3 : putL (H ++ l) (k + i) bs = H ++ putL l i bs := by
        unfold putL
        subst hk
        rw [List.take_length_add_append, Nat.add_assoc, List.drop_length_add_append]
        simp [List.append_assoc]
      rw [e3] at this
      exact this
    · have : l = [] := List.eq_nil_of_length_eq_zero (by omega)
      subst this
      obtain ⟨hi0, hbs⟩ : i = 0 ∧ bs = [] := by simpa using hi
      subst hi0; subst hbs
      rw [e2]
      intro j x hx
      have hc := hR j x (by simpa [putL] using hx)
      by_cases hg : B = g
      · subst hg
        rw [hW.out (0 + j) (by simp; omega)]; exact hc
      · exact (World.cell?_of_block (a := ⟨B, 0 + j, none⟩) (hW.block B hg (World.block_lt_of_cell? _ _ hc))).trans hc

set_option maxHeartbeats 4000000 in
set_option maxRecDepth 100000 in
theorem isb_a (n : Int) (h : n < 0) (w : World) : Calls Try.prog 31 #[.int .i64 n] w fun e w' => e = .returned (.bool false) ∧ w = w' := by
  have h1 : decide ((0 : Int) ≤ n) = false := by simp; omega
  go_enter Try.func31, Try.ntmps31
  go_wp2
  go_ret
  exact ⟨rfl, rfl⟩

set_option maxHeartbeats 4000000 in
set_option maxRecDepth 100000 in
theorem isb_b (n : Int) (h : 255 < n) (w : World) : Calls Try.prog 31 #[.int .i64 n] w fun e w' => e = .returned (.bool false) ∧ w = w' := by
  have h1 : decide ((0 : Int) ≤ n) = true := by simp; omega
  have h2 : decide (n ≤ 255) = false := by simp; omega
  go_enter Try.func31, Try.ntmps31
  go_wp2
  go_ret
  exact ⟨rfl, rfl⟩

set_option maxHeartbeats 4000000 in
set_option maxRecDepth 100000 in
theorem isb_c (n : Int) (h : 0 ≤ n) (h2 : n ≤ 255) (w : World) : Calls Try.prog 31 #[.int .i64 n] w fun e w' => e = .returned (.bool true) ∧ w = w' := by
  have h1 : decide ((0 : Int) ≤ n) = true := by simp; omega
  have h3 : decide (n ≤ 255) = true := by simp; omega
  go_enter Try.func31, Try.ntmps31
  go_wp2
  go_ret
  exact ⟨rfl, rfl⟩

theorem isbyte_any (n : Int) (w : World) : Calls Try.prog 31 #[.int .i64 n] w fun e w' => e = .returned (.bool (byteP n)) ∧ w = w' := by
  unfold byteP
  by_cases h : n < 0
  · rw [show (decide (0 ≤ n) && decide (n ≤ 255)) = false by simp; omega]; exact isb_a n h w
  by_cases h2 : 255 < n
  · rw [show (decide (0 ≤ n) && decide (n ≤ 255)) = false by simp; omega]; exact isb_b n h2 w
  · rw [show (decide (0 ≤ n) && decide (n ≤ 255)) = true by simp; omega]; exact isb_c n (by omega) (by omega) w

set_option maxHeartbeats 4000000 in
set_option maxRecDepth 100000 in
theorem pk4_1 (A : Option Addr) (n c : Nat) (l : List UInt8) (sh sl dh dl : Nat) (vp ttl : Int) (h1 : sh < 18446744073709551616) (h2 : sl < 18446744073709551616) (h3 : dh < 18446744073709551616) (h4 : dl < 18446744073709551616) (hs4 : is4I (sh : Int) (sl : Int) = true) {w : World} (h : BytArg w A n c l) (hm : n ≤ 65536) (hd4 : is4I (dh : Int) (dl : Int) = false) :
    Calls Try.prog 21 #[.agg #[.int .u64 (sh : Nat), .int .u64 (sl : Nat)], .agg #[.int .u64 (dh : Nat), .int .u64 (dl : Nat)], .int .i64 vp, .int .i64 ttl, .slice A n c] w fun e w' => e = .returned (.tuple #[.slice none 0 0, .int .i64 1]) ∧ Below w.heap.size w w' := by
  have ci := fun (W : World) => is4_any (sh : Int) (sl : Int) ⟨by omega, by omega⟩ ⟨by omega, by omega⟩ W
  rw [hs4] at ci
  have cf := fun (W : World) => fam_any false W
  have cA := fun (W : World) => isbyte_any vp W
  have cB := fun (W : World) => isbyte_any ttl W
  have cc := fun (W : World) => carries_any false vp W
  simp only [famCells, if_true, if_false, Bool.false_eq_true] at cf cc
  obtain ⟨N, hN⟩ : ∃ N, N = 20 + n := ⟨_, rfl⟩
  have wN : IntKind.i64.wrap (20 + (n : Int)) = (N : Int) := by rw [IntKind.wrap_i64]; omega
  have nI : (n : Int) ≤ 65536 := by omega
  have NI : (N : Int) ≤ 70000 := by omega
  have wa : Word (dh : Int) := ⟨by omega, by omega⟩
  have wb : Word (dl : Int) := ⟨by omega, by omega⟩
  clear hs4 h1 h2 h3 h4
  clear h hN
  go_enter Try.func21, Try.ntmps21
  go_wp2_with (with_reducible refine stop_op (o := ⟨some 15, _, _, _, _, _⟩) ?_)
  obtain ⟨w1, hw1⟩ : ∃ x, x = (w.alloc (.cells #[.int .u64 (sh : Nat), .int .u64 (sl : Nat)] 25)).alloc (.cells #[.int .u64 (dh : Nat), .int .u64 (dl : Nat)] 25) := ⟨_, rfl⟩
  have hX : w1.heap[w.heap.size]? = some (.cells #[.int .u64 (sh : Nat), .int .u64 (sl : Nat)] 25 (0, 0)) := by rw [hw1, al_oldw (by simp)]; exact al_neww rfl _
  have hY : w1.heap[w.heap.size + 1]? = some (.cells #[.int .u64 (dh : Nat), .int .u64 (dl : Nat)] 25 (0, 0)) := by rw [hw1]; exact al_neww (by simp) _
  have bw : Below w.heap.size w w1 := by rw [hw1]; exact Below.al (Below.al (Below.refl _ _) _) _
  rw [← hw1]
  clear hw1
  obtain ⟨sx0, sx1, _, _⟩ := cells2 hX
  obtain ⟨dx0, dx1, _, _⟩ := cells2 hY
  refine Lib.hid ?_
  go_wp2_with (go_at_call 59; refine (ci _).mono ?_; rintro e w2 ⟨rfl, hb2⟩; refine Hid.out ?_)
  have hX2 := blkKeep2 hb2 hX
  have hY2 := blkKeep2 hb2 hY
  have b2 : Below w.heap.size w w2 := bw.trans (hb2.mono bw.size)
  clear hb2 hX hY bw sx0 sx1 dx0 dx1 ci
  refine Lib.hid ?_
  go_wp2_with (go_at_call 28; refine (cf _).mono ?_; rintro e w3 ⟨rfl, hb3⟩; refine Hid.out ?_)
  have hX3 := blkKeep2 hb3 hX2
  have hY3 := blkKeep2 hb3 hY2
  have b3 : Below w.heap.size w w3 := b2.trans (hb3.mono b2.size)
  clear hb3 hX2 hY2 b2 cf
  refine Lib.hid ?_
  go_wp2_with (with_reducible refine stop_op (o := ⟨some 19, _, _, _, _, _⟩) ?_)
  obtain ⟨w4, hw4⟩ : ∃ x, x = w3.alloc (.cells #[.bool false, .int .i64 20, .int .i64 8, .int .i64 9, .int .i64 12, .int .i64 4] 69) := ⟨_, rfl⟩
  have hF : w4.heap[w3.heap.size]? = some (.cells #[.bool false, .int .i64 20, .int .i64 8, .int .i64 9, .int .i64 12, .int .i64 4] 69 (0, 0)) := by rw [hw4]; exact al_neww rfl _
  have hb4 : Below w3.heap.size w3 w4 := by rw [hw4]; exact Below.al (Below.refl _ _) _
  have hX := blkKeep2 hb4 hX3
  have hY := blkKeep2 hb4 hY3
  have bw : Below w.heap.size w w4 := b3.trans (hb4.mono b3.size)
  rw [← hw4]
  clear hw4 hb4 hX3 hY3 b3
  obtain ⟨sx0, sx1, _, _⟩ := cells2 hX
  obtain ⟨dx0, dx1, _, _⟩ := cells2 hY
  obtain ⟨⟨f0, f1, f2, f3, f4, f5⟩, _⟩ := cells6 hF
  refine Lib.hid ?_
  go_wp2_with (with_reducible refine stop_op (o := ⟨some 27, _, _, _, _, _⟩) ?_)
  obtain ⟨w5, hw5⟩ : ∃ x, x = w4.alloc (.cells #[.int .u64 (dh : Nat), .int .u64 (dl : Nat)] 25) := ⟨_, rfl⟩
  have hL5 : w5.heap[w4.heap.size]? = some (.cells #[.int .u64 (dh : Nat), .int .u64 (dl : Nat)] 25 (0, 0)) := by rw [hw5]; exact al_neww rfl _
  have hA5 : AdrsAt w5 w4.heap.size 0 [((dh : Int), (dl : Int))] := by
    obtain ⟨a0, a1, _, _⟩ := cells2 hL5
    intro k a h
    match k, h with
    | 0, h => obtain rfl : _ = a := by simpa using h
              exact ⟨a0, a1, wa, wb⟩
    | k + 1, h => simp at h
  have ch := has_any false w4.heap.size 0 1 1 _ rfl (by omega) hA5
  rw [show hasP false [((dh : Int), (dl : Int))] = false by simp [hasP, hd4]] at ch
  simp only [famCells, if_true, if_false, Bool.false_eq_true] at ch
  have hbx : Below w4.heap.size w4 w5 := by rw [hw5]; exact Below.al (Below.refl _ _) _
  rw [← hw5]
  clear hw5 hA5 hL5
  have hXn := blkKeep2 hbx hX
  have hYn := blkKeep2 hbx hY
  have hFn := blkKeep2 hbx hF
  have bwn : Below w.heap.size w w5 := bw.trans (hbx.mono bw.size)
  clear hbx hX hY hF bw sx0 sx1 dx0 dx1 f0 f1 f2 f3 f4 f5
  have hX := hXn
  have hY := hYn
  have hF := hFn
  have bw := bwn
  clear hXn hYn hFn bwn
  obtain ⟨sx0, sx1, _, _⟩ := cells2 hX
  obtain ⟨dx0, dx1, _, _⟩ := cells2 hY
  obtain ⟨⟨f0, f1, f2, f3, f4, f5⟩, _⟩ := cells6 hF
  refine Lib.hid ?_
  go_wp2_with (go_at_call 29; refine ch.mono ?_; rintro e w6 ⟨rfl, hbx⟩; refine Hid.out ?_)
  have hXn := blkKeep2 hbx hX
  have hYn := blkKeep2 hbx hY
  have hFn := blkKeep2 hbx hF
  have bwn : Below w.heap.size w w6 := bw.trans (hbx.mono bw.size)
  clear hbx hX hY hF bw sx0 sx1 dx0 dx1 f0 f1 f2 f3 f4 f5
  have hX := hXn
  have hY := hYn
  have hF := hFn
  have bw := bwn
  clear hXn hYn hFn bwn
  obtain ⟨sx0, sx1, _, _⟩ := cells2 hX
  obtain ⟨dx0, dx1, _, _⟩ := cells2 hY
  obtain ⟨⟨f0, f1, f2, f3, f4, f5⟩, _⟩ := cells6 hF
  clear ch
  refine Lib.hid ?_
  go_wp2
  go_ret2
  exact ⟨rfl, bw⟩

set_option maxHeartbeats 4000000 in
set_option maxRecDepth 100000 in
theorem pk4_2 (A : Option Addr) (n c : Nat) (l : List UInt8) (sh sl dh dl : Nat) (vp ttl : Int) (h1 : sh < 18446744073709551616) (h2 : sl < 18446744073709551616) (h3 : dh < 18446744073709551616) (h4 : dl < 18446744073709551616) (hs4 : is4I (sh : Int) (sl : Int) = true) {w : World} (h : BytArg w A n c l) (hm : n ≤ 65536) (hd4 : is4I (dh : Int) (dl : Int) = true) (hp : byteP vp = false) :
    Calls Try.prog 21 #[.agg #[.int .u64 (sh : Nat), .int .u64 (sl : Nat)], .agg #[.int .u64 (dh : Nat), .int .u64 (dl : Nat)], .int .i64 vp, .int .i64 ttl, .slice A n c] w fun e w' => e = .returned (.tuple #[.slice none 0 0, .int .i64 1]) ∧ Below w.heap.size w w' := by
  have ci := fun (W : World) => is4_any (sh : Int) (sl : Int) ⟨by omega, by omega⟩ ⟨by omega, by omega⟩ W
  rw [hs4] at ci
  have cf := fun (W : World) => fam_any false W
  have cA := fun (W : World) => isbyte_any vp W
  have cB := fun (W : World) => isbyte_any ttl W
  have cc := fun (W : World) => carries_any false vp W
  simp only [famCells, if_true, if_false, Bool.false_eq_true] at cf cc
  obtain ⟨N, hN⟩ : ∃ N, N = 20 + n := ⟨_, rfl⟩
  have wN : IntKind.i64.wrap (20 + (n : Int)) = (N : Int) := by rw [IntKind.wrap_i64]; omega
  have nI : (n : Int) ≤ 65536 := by omega
  have NI : (N : Int) ≤ 70000 := by omega
  have wa : Word (dh : Int) := ⟨by omega, by omega⟩
  have wb : Word (dl : Int) := ⟨by omega, by omega⟩
  clear hs4 h1 h2 h3 h4
  rw [hp] at cA
  clear h hN
  go_enter Try.func21, Try.ntmps21
  go_wp2_with (with_reducible refine stop_op (o := ⟨some 15, _, _, _, _, _⟩) ?_)
  obtain ⟨w1, hw1⟩ : ∃ x, x = (w.alloc (.cells #[.int .u64 (sh : Nat), .int .u64 (sl : Nat)] 25)).alloc (.cells #[.int .u64 (dh : Nat), .int .u64 (dl : Nat)] 25) := ⟨_, rfl⟩
  have hX : w1.heap[w.heap.size]? = some (.cells #[.int .u64 (sh : Nat), .int .u64 (sl : Nat)] 25 (0, 0)) := by rw [hw1, al_oldw (by simp)]; exact al_neww rfl _
  have hY : w1.heap[w.heap.size + 1]? = some (.cells #[.int .u64 (dh : Nat), .int .u64 (dl : Nat)] 25 (0, 0)) := by rw [hw1]; exact al_neww (by simp) _
  have bw : Below w.heap.size w w1 := by rw [hw1]; exact Below.al (Below.al (Below.refl _ _) _) _
  rw [← hw1]
  clear hw1
  obtain ⟨sx0, sx1, _, _⟩ := cells2 hX
  obtain ⟨dx0, dx1, _, _⟩ := cells2 hY
  refine Lib.hid ?_
  go_wp2_with (go_at_call 59; refine (ci _).mono ?_; rintro e w2 ⟨rfl, hb2⟩; refine Hid.out ?_)
  have hX2 := blkKeep2 hb2 hX
  have hY2 := blkKeep2 hb2 hY
  have b2 : Below w.heap.size w w2 := bw.trans (hb2.mono bw.size)
  clear hb2 hX hY bw sx0 sx1 dx0 dx1 ci
  refine Lib.hid ?_
  go_wp2_with (go_at_call 28; refine (cf _).mono ?_; rintro e w3 ⟨rfl, hb3⟩; refine Hid.out ?_)
  have hX3 := blkKeep2 hb3 hX2
  have hY3 := blkKeep2 hb3 hY2
  have b3 : Below w.heap.size w w3 := b2.trans (hb3.mono b2.size)
  clear hb3 hX2 hY2 b2 cf
  refine Lib.hid ?_
  go_wp2_with (with_reducible refine stop_op (o := ⟨some 19, _, _, _, _, _⟩) ?_)
  obtain ⟨w4, hw4⟩ : ∃ x, x = w3.alloc (.cells #[.bool false, .int .i64 20, .int .i64 8, .int .i64 9, .int .i64 12, .int .i64 4] 69) := ⟨_, rfl⟩
  have hF : w4.heap[w3.heap.size]? = some (.cells #[.bool false, .int .i64 20, .int .i64 8, .int .i64 9, .int .i64 12, .int .i64 4] 69 (0, 0)) := by rw [hw4]; exact al_neww rfl _
  have hb4 : Below w3.heap.size w3 w4 := by rw [hw4]; exact Below.al (Below.refl _ _) _
  have hX := blkKeep2 hb4 hX3
  have hY := blkKeep2 hb4 hY3
  have bw : Below w.heap.size w w4 := b3.trans (hb4.mono b3.size)
  rw [← hw4]
  clear hw4 hb4 hX3 hY3 b3
  obtain ⟨sx0, sx1, _, _⟩ := cells2 hX
  obtain ⟨dx0, dx1, _, _⟩ := cells2 hY
  obtain ⟨⟨f0, f1, f2, f3, f4, f5⟩, _⟩ := cells6 hF
  refine Lib.hid ?_
  go_wp2_with (with_reducible refine stop_op (o := ⟨some 27, _, _, _, _, _⟩) ?_)
  obtain ⟨w5, hw5⟩ : ∃ x, x = w4.alloc (.cells #[.int .u64 (dh : Nat), .int .u64 (dl : Nat)] 25) := ⟨_, rfl⟩
  have hL5 : w5.heap[w4.heap.size]? = some (.cells #[.int .u64 (dh : Nat), .int .u64 (dl : Nat)] 25 (0, 0)) := by rw [hw5]; exact al_neww rfl _
  have hA5 : AdrsAt w5 w4.heap.size 0 [((dh : Int), (dl : Int))] := by
    obtain ⟨a0, a1, _, _⟩ := cells2 hL5
    intro k a h
    match k, h with
    | 0, h => obtain rfl : _ = a := by simpa using h
              exact ⟨a0, a1, wa, wb⟩
    | k + 1, h => simp at h
  have ch := has_any false w4.heap.size 0 1 1 _ rfl (by omega) hA5
  rw [show hasP false [((dh : Int), (dl : Int))] = true by simp [hasP, hd4]] at ch
  simp only [famCells, if_true, if_false, Bool.false_eq_true] at ch
  have hbx : Below w4.heap.size w4 w5 := by rw [hw5]; exact Below.al (Below.refl _ _) _
  rw [← hw5]
  clear hw5 hA5 hL5
  have hXn := blkKeep2 hbx hX
  have hYn := blkKeep2 hbx hY
  have hFn := blkKeep2 hbx hF
  have bwn : Below w.heap.size w w5 := bw.trans (hbx.mono bw.size)
  clear hbx hX hY hF bw sx0 sx1 dx0 dx1 f0 f1 f2 f3 f4 f5
  have hX := hXn
  have hY := hYn
  have hF := hFn
  have bw := bwn
  clear hXn hYn hFn bwn
  obtain ⟨sx0, sx1, _, _⟩ := cells2 hX
  obtain ⟨dx0, dx1, _, _⟩ := cells2 hY
  obtain ⟨⟨f0, f1, f2, f3, f4, f5⟩, _⟩ := cells6 hF
  refine Lib.hid ?_
  go_wp2_with (go_at_call 29; refine ch.mono ?_; rintro e w6 ⟨rfl, hbx⟩; refine Hid.out ?_)
  have hXn := blkKeep2 hbx hX
  have hYn := blkKeep2 hbx hY
  have hFn := blkKeep2 hbx hF
  have bwn : Below w.heap.size w w6 := bw.trans (hbx.mono bw.size)
  clear hbx hX hY hF bw sx0 sx1 dx0 dx1 f0 f1 f2 f3 f4 f5
  have hX := hXn
  have hY := hYn
  have hF := hFn
  have bw := bwn
  clear hXn hYn hFn bwn
  obtain ⟨sx0, sx1, _, _⟩ := cells2 hX
  obtain ⟨dx0, dx1, _, _⟩ := cells2 hY
  obtain ⟨⟨f0, f1, f2, f3, f4, f5⟩, _⟩ := cells6 hF
  clear ch
  refine Lib.hid ?_
  go_wp2_with (first | (go_at_call_of 31 (Value.int IntKind.i64 vp); refine (cA _).mono ?_; rintro e w' ⟨rfl, hw'⟩; subst hw') | (go_at_call_of 31 (Value.int IntKind.i64 ttl); refine (cB _).mono ?_; rintro e w' ⟨rfl, hw'⟩; subst hw') | (go_at_call 48; refine (cc _).mono ?_; rintro e w7 ⟨rfl, hbx⟩))
  go_ret2
  exact ⟨rfl, bw⟩

set_option maxHeartbeats 4000000 in
set_option maxRecDepth 100000 in
theorem pk4_3 (A : Option Addr) (n c : Nat) (l : List UInt8) (sh sl dh dl : Nat) (vp ttl : Int) (h1 : sh < 18446744073709551616) (h2 : sl < 18446744073709551616) (h3 : dh < 18446744073709551616) (h4 : dl < 18446744073709551616) (hs4 : is4I (sh : Int) (sl : Int) = true) {w : World} (h : BytArg w A n c l) (hm : n ≤ 65536) (hd4 : is4I (dh : Int) (dl : Int) = true) (hp : byteP vp = true) (ht : byteP ttl = false) :
    Calls Try.prog 21 #[.agg #[.int .u64 (sh : Nat), .int .u64 (sl : Nat)], .agg #[.int .u64 (dh : Nat), .int .u64 (dl : Nat)], .int .i64 vp, .int .i64 ttl, .slice A n c] w fun e w' => e = .returned (.tuple #[.slice none 0 0, .int .i64 1]) ∧ Below w.heap.size w w' := by
  have ci := fun (W : World) => is4_any (sh : Int) (sl : Int) ⟨by omega, by omega⟩ ⟨by omega, by omega⟩ W
  rw [hs4] at ci
  have cf := fun (W : World) => fam_any false W
  have cA := fun (W : World) => isbyte_any vp W
  have cB := fun (W : World) => isbyte_any ttl W
  have cc := fun (W : World) => carries_any false vp W
  simp only [famCells, if_true, if_false, Bool.false_eq_true] at cf cc
  obtain ⟨N, hN⟩ : ∃ N, N = 20 + n := ⟨_, rfl⟩
  have wN : IntKind.i64.wrap (20 + (n : Int)) = (N : Int) := by rw [IntKind.wrap_i64]; omega
  have nI : (n : Int) ≤ 65536 := by omega
  have NI : (N : Int) ≤ 70000 := by omega
  have wa : Word (dh : Int) := ⟨by omega, by omega⟩
  have wb : Word (dl : Int) := ⟨by omega, by omega⟩
  clear hs4 h1 h2 h3 h4
  rw [hp] at cA
  rw [ht] at cB
  clear h hN
  go_enter Try.func21, Try.ntmps21
  go_wp2_with (with_reducible refine stop_op (o := ⟨some 15, _, _, _, _, _⟩) ?_)
  obtain ⟨w1, hw1⟩ : ∃ x, x = (w.alloc (.cells #[.int .u64 (sh : Nat), .int .u64 (sl : Nat)] 25)).alloc (.cells #[.int .u64 (dh : Nat), .int .u64 (dl : Nat)] 25) := ⟨_, rfl⟩
  have hX : w1.heap[w.heap.size]? = some (.cells #[.int .u64 (sh : Nat), .int .u64 (sl : Nat)] 25 (0, 0)) := by rw [hw1, al_oldw (by simp)]; exact al_neww rfl _
  have hY : w1.heap[w.heap.size + 1]? = some (.cells #[.int .u64 (dh : Nat), .int .u64 (dl : Nat)] 25 (0, 0)) := by rw [hw1]; exact al_neww (by simp) _
  have bw : Below w.heap.size w w1 := by rw [hw1]; exact Below.al (Below.al (Below.refl _ _) _) _
  rw [← hw1]
  clear hw1
  obtain ⟨sx0, sx1, _, _⟩ := cells2 hX
  obtain ⟨dx0, dx1, _, _⟩ := cells2 hY
  refine Lib.hid ?_
  go_wp2_with (go_at_call 59; refine (ci _).mono ?_; rintro e w2 ⟨rfl, hb2⟩; refine Hid.out ?_)
  have hX2 := blkKeep2 hb2 hX
  have hY2 := blkKeep2 hb2 hY
  have b2 : Below w.heap.size w w2 := bw.trans (hb2.mono bw.size)
  clear hb2 hX hY bw sx0 sx1 dx0 dx1 ci
  refine Lib.hid ?_
  go_wp2_with (go_at_call 28; refine (cf _).mono ?_; rintro e w3 ⟨rfl, hb3⟩; refine Hid.out ?_)
  have hX3 := blkKeep2 hb3 hX2
  have hY3 := blkKeep2 hb3 hY2
  have b3 : Below w.heap.size w w3 := b2.trans (hb3.mono b2.size)
  clear hb3 hX2 hY2 b2 cf
  refine Lib.hid ?_
  go_wp2_with (with_reducible refine stop_op (o := ⟨some 19, _, _, _, _, _⟩) ?_)
  obtain ⟨w4, hw4⟩ : ∃ x, x = w3.alloc (.cells #[.bool false, .int .i64 20, .int .i64 8, .int .i64 9, .int .i64 12, .int .i64 4] 69) := ⟨_, rfl⟩
  have hF : w4.heap[w3.heap.size]? = some (.cells #[.bool false, .int .i64 20, .int .i64 8, .int .i64 9, .int .i64 12, .int .i64 4] 69 (0, 0)) := by rw [hw4]; exact al_neww rfl _
  have hb4 : Below w3.heap.size w3 w4 := by rw [hw4]; exact Below.al (Below.refl _ _) _
  have hX := blkKeep2 hb4 hX3
  have hY := blkKeep2 hb4 hY3
  have bw : Below w.heap.size w w4 := b3.trans (hb4.mono b3.size)
  rw [← hw4]
  clear hw4 hb4 hX3 hY3 b3
  obtain ⟨sx0, sx1, _, _⟩ := cells2 hX
  obtain ⟨dx0, dx1, _, _⟩ := cells2 hY
  obtain ⟨⟨f0, f1, f2, f3, f4, f5⟩, _⟩ := cells6 hF
  refine Lib.hid ?_
  go_wp2_with (with_reducible refine stop_op (o := ⟨some 27, _, _, _, _, _⟩) ?_)
  obtain ⟨w5, hw5⟩ : ∃ x, x = w4.alloc (.cells #[.int .u64 (dh : Nat), .int .u64 (dl : Nat)] 25) := ⟨_, rfl⟩
  have hL5 : w5.heap[w4.heap.size]? = some (.cells #[.int .u64 (dh : Nat), .int .u64 (dl : Nat)] 25 (0, 0)) := by rw [hw5]; exact al_neww rfl _
  have hA5 : AdrsAt w5 w4.heap.size 0 [((dh : Int), (dl : Int))] := by
    obtain ⟨a0, a1, _, _⟩ := cells2 hL5
    intro k a h
    match k, h with
    | 0, h => obtain rfl : _ = a := by simpa using h
              exact ⟨a0, a1, wa, wb⟩
    | k + 1, h => simp at h
  have ch := has_any false w4.heap.size 0 1 1 _ rfl (by omega) hA5
  rw [show hasP false [((dh : Int), (dl : Int))] = true by simp [hasP, hd4]] at ch
  simp only [famCells, if_true, if_false, Bool.false_eq_true] at ch
  have hbx : Below w4.heap.size w4 w5 := by rw [hw5]; exact Below.al (Below.refl _ _) _
  rw [← hw5]
  clear hw5 hA5 hL5
  have hXn := blkKeep2 hbx hX
  have hYn := blkKeep2 hbx hY
  have hFn := blkKeep2 hbx hF
  have bwn : Below w.heap.size w w5 := bw.trans (hbx.mono bw.size)
  clear hbx hX hY hF bw sx0 sx1 dx0 dx1 f0 f1 f2 f3 f4 f5
  have hX := hXn
  have hY := hYn
  have hF := hFn
  have bw := bwn
  clear hXn hYn hFn bwn
  obtain ⟨sx0, sx1, _, _⟩ := cells2 hX
  obtain ⟨dx0, dx1, _, _⟩ := cells2 hY
  obtain ⟨⟨f0, f1, f2, f3, f4, f5⟩, _⟩ := cells6 hF
  refine Lib.hid ?_
  go_wp2_with (go_at_call 29; refine ch.mono ?_; rintro e w6 ⟨rfl, hbx⟩; refine Hid.out ?_)
  have hXn := blkKeep2 hbx hX
  have hYn := blkKeep2 hbx hY
  have hFn := blkKeep2 hbx hF
  have bwn : Below w.heap.size w w6 := bw.trans (hbx.mono bw.size)
  clear hbx hX hY hF bw sx0 sx1 dx0 dx1 f0 f1 f2 f3 f4 f5
  have hX := hXn
  have hY := hYn
  have hF := hFn
  have bw := bwn
  clear hXn hYn hFn bwn
  obtain ⟨sx0, sx1, _, _⟩ := cells2 hX
  obtain ⟨dx0, dx1, _, _⟩ := cells2 hY
  obtain ⟨⟨f0, f1, f2, f3, f4, f5⟩, _⟩ := cells6 hF
  clear ch
  refine Lib.hid ?_
  go_wp2_with (first | (go_at_call_of 31 (Value.int IntKind.i64 vp); refine (cA _).mono ?_; rintro e w' ⟨rfl, hw'⟩; subst hw') | (go_at_call_of 31 (Value.int IntKind.i64 ttl); refine (cB _).mono ?_; rintro e w' ⟨rfl, hw'⟩; subst hw') | (go_at_call 48; refine (cc _).mono ?_; rintro e w7 ⟨rfl, hbx⟩))
  go_ret2
  exact ⟨rfl, bw⟩

set_option maxHeartbeats 4000000 in
set_option maxRecDepth 100000 in
theorem pk4_4 (A : Option Addr) (n c : Nat) (l : List UInt8) (sh sl dh dl : Nat) (ttl : Int) (h1 : sh < 18446744073709551616) (h2 : sl < 18446744073709551616) (h3 : dh < 18446744073709551616) (h4 : dl < 18446744073709551616) (hs4 : is4I (sh : Int) (sl : Int) = true) {w : World} (h : BytArg w A n c l) (hm : n ≤ 65536) (hd4 : is4I (dh : Int) (dl : Int) = true) (hp : byteP 44 = true) (ht : byteP ttl = true)  :
    Calls Try.prog 21 #[.agg #[.int .u64 (sh : Nat), .int .u64 (sl : Nat)], .agg #[.int .u64 (dh : Nat), .int .u64 (dl : Nat)], .int .i64 44, .int .i64 ttl, .slice A n c] w fun e w' => e = .returned (.tuple #[.slice none 0 0, .int .i64 1]) ∧ Below w.heap.size w w' := by
  have ci := fun (W : World) => is4_any (sh : Int) (sl : Int) ⟨by omega, by omega⟩ ⟨by omega, by omega⟩ W
  rw [hs4] at ci
  have cf := fun (W : World) => fam_any false W
  have cA := fun (W : World) => isbyte_any 44 W
  have cB := fun (W : World) => isbyte_any ttl W
  have cc := fun (W : World) => carries_any false 44 W
  simp only [famCells, if_true, if_false, Bool.false_eq_true] at cf cc
  obtain ⟨N, hN⟩ : ∃ N, N = 20 + n := ⟨_, rfl⟩
  have wN : IntKind.i64.wrap (20 + (n : Int)) = (N : Int) := by rw [IntKind.wrap_i64]; omega
  have nI : (n : Int) ≤ 65536 := by omega
  have NI : (N : Int) ≤ 70000 := by omega
  have wa : Word (dh : Int) := ⟨by omega, by omega⟩
  have wb : Word (dl : Int) := ⟨by omega, by omega⟩
  clear hs4 h1 h2 h3 h4
  rw [hp] at cA
  rw [ht] at cB
  clear h hN
  go_enter Try.func21, Try.ntmps21
  go_wp2_with (with_reducible refine stop_op (o := ⟨some 15, _, _, _, _, _⟩) ?_)
  obtain ⟨w1, hw1⟩ : ∃ x, x = (w.alloc (.cells #[.int .u64 (sh : Nat), .int .u64 (sl : Nat)] 25)).alloc (.cells #[.int .u64 (dh : Nat), .int .u64 (dl : Nat)] 25) := ⟨_, rfl⟩
  have hX : w1.heap[w.heap.size]? = some (.cells #[.int .u64 (sh : Nat), .int .u64 (sl : Nat)] 25 (0, 0)) := by rw [hw1, al_oldw (by simp)]; exact al_neww rfl _
  have hY : w1.heap[w.heap.size + 1]? = some (.cells #[.int .u64 (dh : Nat), .int .u64 (dl : Nat)] 25 (0, 0)) := by rw [hw1]; exact al_neww (by simp) _
  have bw : Below w.heap.size w w1 := by rw [hw1]; exact Below.al (Below.al (Below.refl _ _) _) _
  rw [← hw1]
  clear hw1
  obtain ⟨sx0, sx1, _, _⟩ := cells2 hX
  obtain ⟨dx0, dx1, _, _⟩ := cells2 hY
  refine Lib.hid ?_
  go_wp2_with (go_at_call 59; refine (ci _).mono ?_; rintro e w2 ⟨rfl, hb2⟩; refine Hid.out ?_)
  have hX2 := blkKeep2 hb2 hX
  have hY2 := blkKeep2 hb2 hY
  have b2 : Below w.heap.size w w2 := bw.trans (hb2.mono bw.size)
  clear hb2 hX hY bw sx0 sx1 dx0 dx1 ci
  refine Lib.hid ?_
  go_wp2_with (go_at_call 28; refine (cf _).mono ?_; rintro e w3 ⟨rfl, hb3⟩; refine Hid.out ?_)
  have hX3 := blkKeep2 hb3 hX2
  have hY3 := blkKeep2 hb3 hY2
  have b3 : Below w.heap.size w w3 := b2.trans (hb3.mono b2.size)
  clear hb3 hX2 hY2 b2 cf
  refine Lib.hid ?_
  go_wp2_with (with_reducible refine stop_op (o := ⟨some 19, _, _, _, _, _⟩) ?_)
  obtain ⟨w4, hw4⟩ : ∃ x, x = w3.alloc (.cells #[.bool false, .int .i64 20, .int .i64 8, .int .i64 9, .int .i64 12, .int .i64 4] 69) := ⟨_, rfl⟩
  have hF : w4.heap[w3.heap.size]? = some (.cells #[.bool false, .int .i64 20, .int .i64 8, .int .i64 9, .int .i64 12, .int .i64 4] 69 (0, 0)) := by rw [hw4]; exact al_neww rfl _
  have hb4 : Below w3.heap.size w3 w4 := by rw [hw4]; exact Below.al (Below.refl _ _) _
  have hX := blkKeep2 hb4 hX3
  have hY := blkKeep2 hb4 hY3
  have bw : Below w.heap.size w w4 := b3.trans (hb4.mono b3.size)
  rw [← hw4]
  clear hw4 hb4 hX3 hY3 b3
  obtain ⟨sx0, sx1, _, _⟩ := cells2 hX
  obtain ⟨dx0, dx1, _, _⟩ := cells2 hY
  obtain ⟨⟨f0, f1, f2, f3, f4, f5⟩, _⟩ := cells6 hF
  refine Lib.hid ?_
  go_wp2_with (with_reducible refine stop_op (o := ⟨some 27, _, _, _, _, _⟩) ?_)
  obtain ⟨w5, hw5⟩ : ∃ x, x = w4.alloc (.cells #[.int .u64 (dh : Nat), .int .u64 (dl : Nat)] 25) := ⟨_, rfl⟩
  have hL5 : w5.heap[w4.heap.size]? = some (.cells #[.int .u64 (dh : Nat), .int .u64 (dl : Nat)] 25 (0, 0)) := by rw [hw5]; exact al_neww rfl _
  have hA5 : AdrsAt w5 w4.heap.size 0 [((dh : Int), (dl : Int))] := by
    obtain ⟨a0, a1, _, _⟩ := cells2 hL5
    intro k a h
    match k, h with
    | 0, h => obtain rfl : _ = a := by simpa using h
              exact ⟨a0, a1, wa, wb⟩
    | k + 1, h => simp at h
  have ch := has_any false w4.heap.size 0 1 1 _ rfl (by omega) hA5
  rw [show hasP false [((dh : Int), (dl : Int))] = true by simp [hasP, hd4]] at ch
  simp only [famCells, if_true, if_false, Bool.false_eq_true] at ch
  have hbx : Below w4.heap.size w4 w5 := by rw [hw5]; exact Below.al (Below.refl _ _) _
  rw [← hw5]
  clear hw5 hA5 hL5
  have hXn := blkKeep2 hbx hX
  have hYn := blkKeep2 hbx hY
  have hFn := blkKeep2 hbx hF
  have bwn : Below w.heap.size w w5 := bw.trans (hbx.mono bw.size)
  clear hbx hX hY hF bw sx0 sx1 dx0 dx1 f0 f1 f2 f3 f4 f5
  have hX := hXn
  have hY := hYn
  have hF := hFn
  have bw := bwn
  clear hXn hYn hFn bwn
  obtain ⟨sx0, sx1, _, _⟩ := cells2 hX
  obtain ⟨dx0, dx1, _, _⟩ := cells2 hY
  obtain ⟨⟨f0, f1, f2, f3, f4, f5⟩, _⟩ := cells6 hF
  refine Lib.hid ?_
  go_wp2_with (go_at_call 29; refine ch.mono ?_; rintro e w6 ⟨rfl, hbx⟩; refine Hid.out ?_)
  have hXn := blkKeep2 hbx hX
  have hYn := blkKeep2 hbx hY
  have hFn := blkKeep2 hbx hF
  have bwn : Below w.heap.size w w6 := bw.trans (hbx.mono bw.size)
  clear hbx hX hY hF bw sx0 sx1 dx0 dx1 f0 f1 f2 f3 f4 f5
  have hX := hXn
  have hY := hYn
  have hF := hFn
  have bw := bwn
  clear hXn hYn hFn bwn
  obtain ⟨sx0, sx1, _, _⟩ := cells2 hX
  obtain ⟨dx0, dx1, _, _⟩ := cells2 hY
  obtain ⟨⟨f0, f1, f2, f3, f4, f5⟩, _⟩ := cells6 hF
  clear ch
  refine Lib.hid ?_
  go_wp2_with (first | (go_at_call_of 31 (Value.int IntKind.i64 44); refine (cA _).mono ?_; rintro e w' ⟨rfl, hw'⟩; subst hw') | (go_at_call_of 31 (Value.int IntKind.i64 ttl); refine (cB _).mono ?_; rintro e w' ⟨rfl, hw'⟩; subst hw') | (go_at_call 48; refine (cc _).mono ?_; rintro e w7 ⟨rfl, hbx⟩))
  go_ret2
  exact ⟨rfl, bw⟩

set_option maxHeartbeats 4000000 in
set_option maxRecDepth 100000 in
theorem pk4_5 (A : Option Addr) (n c : Nat) (l : List UInt8) (sh sl dh dl : Nat) (vp ttl : Int) (h1 : sh < 18446744073709551616) (h2 : sl < 18446744073709551616) (h3 : dh < 18446744073709551616) (h4 : dl < 18446744073709551616) (hs4 : is4I (sh : Int) (sl : Int) = true) {w : World} (h : BytArg w A n c l) (hm : n ≤ 65536) (hd4 : is4I (dh : Int) (dl : Int) = true) (hp : byteP vp = true) (ht : byteP ttl = true) (hq : vp ≠ 44) (hk : carriesP false vp = false) :
    Calls Try.prog 21 #[.agg #[.int .u64 (sh : Nat), .int .u64 (sl : Nat)], .agg #[.int .u64 (dh : Nat), .int .u64 (dl : Nat)], .int .i64 vp, .int .i64 ttl, .slice A n c] w fun e w' => e = .returned (.tuple #[.slice none 0 0, .int .i64 1]) ∧ Below w.heap.size w w' := by
  have ci := fun (W : World) => is4_any (sh : Int) (sl : Int) ⟨by omega, by omega⟩ ⟨by omega, by omega⟩ W
  rw [hs4] at ci
  have cf := fun (W : World) => fam_any false W
  have cA := fun (W : World) => isbyte_any vp W
  have cB := fun (W : World) => isbyte_any ttl W
  have cc := fun (W : World) => carries_any false vp W
  simp only [famCells, if_true, if_false, Bool.false_eq_true] at cf cc
  obtain ⟨N, hN⟩ : ∃ N, N = 20 + n := ⟨_, rfl⟩
  have wN : IntKind.i64.wrap (20 + (n : Int)) = (N : Int) := by rw [IntKind.wrap_i64]; omega
  have nI : (n : Int) ≤ 65536 := by omega
  have NI : (N : Int) ≤ 70000 := by omega
  have wa : Word (dh : Int) := ⟨by omega, by omega⟩
  have wb : Word (dl : Int) := ⟨by omega, by omega⟩
  clear hs4 h1 h2 h3 h4
  rw [hp] at cA
  rw [ht] at cB
  have q44 : (vp == 44) = false := by simp [hq]
  rw [hk] at cc
  clear h hN
  go_enter Try.func21, Try.ntmps21
  go_wp2_with (with_reducible refine stop_op (o := ⟨some 15, _, _, _, _, _⟩) ?_)
  obtain ⟨w1, hw1⟩ : ∃ x, x = (w.alloc (.cells #[.int .u64 (sh : Nat), .int .u64 (sl : Nat)] 25)).alloc (.cells #[.int .u64 (dh : Nat), .int .u64 (dl : Nat)] 25) := ⟨_, rfl⟩
  have hX : w1.heap[w.heap.size]? = some (.cells #[.int .u64 (sh : Nat), .int .u64 (sl : Nat)] 25 (0, 0)) := by rw [hw1, al_oldw (by simp)]; exact al_neww rfl _
  have hY : w1.heap[w.heap.size + 1]? = some (.cells #[.int .u64 (dh : Nat), .int .u64 (dl : Nat)] 25 (0, 0)) := by rw [hw1]; exact al_neww (by simp) _
  have bw : Below w.heap.size w w1 := by rw [hw1]; exact Below.al (Below.al (Below.refl _ _) _) _
  rw [← hw1]
  clear hw1
  obtain ⟨sx0, sx1, _, _⟩ := cells2 hX
  obtain ⟨dx0, dx1, _, _⟩ := cells2 hY
  refine Lib.hid ?_
  go_wp2_with (go_at_call 59; refine (ci _).mono ?_; rintro e w2 ⟨rfl, hb2⟩; refine Hid.out ?_)
  have hX2 := blkKeep2 hb2 hX
  have hY2 := blkKeep2 hb2 hY
  have b2 : Below w.heap.size w w2 := bw.trans (hb2.mono bw.size)
  clear hb2 hX hY bw sx0 sx1 dx0 dx1 ci
  refine Lib.hid ?_
  go_wp2_with (go_at_call 28; refine (cf _).mono ?_; rintro e w3 ⟨rfl, hb3⟩; refine Hid.out ?_)
  have hX3 := blkKeep2 hb3 hX2
  have hY3 := blkKeep2 hb3 hY2
  have b3 : Below w.heap.size w w3 := b2.trans (hb3.mono b2.size)
  clear hb3 hX2 hY2 b2 cf
  refine Lib.hid ?_
  go_wp2_with (with_reducible refine stop_op (o := ⟨some 19, _, _, _, _, _⟩) ?_)
  obtain ⟨w4, hw4⟩ : ∃ x, x = w3.alloc (.cells #[.bool false, .int .i64 20, .int .i64 8, .int .i64 9, .int .i64 12, .int .i64 4] 69) := ⟨_, rfl⟩
  have hF : w4.heap[w3.heap.size]? = some (.cells #[.bool false, .int .i64 20, .int .i64 8, .int .i64 9, .int .i64 12, .int .i64 4] 69 (0, 0)) := by rw [hw4]; exact al_neww rfl _
  have hb4 : Below w3.heap.size w3 w4 := by rw [hw4]; exact Below.al (Below.refl _ _) _
  have hX := blkKeep2 hb4 hX3
  have hY := blkKeep2 hb4 hY3
  have bw : Below w.heap.size w w4 := b3.trans (hb4.mono b3.size)
  rw [← hw4]
  clear hw4 hb4 hX3 hY3 b3
  obtain ⟨sx0, sx1, _, _⟩ := cells2 hX
  obtain ⟨dx0, dx1, _, _⟩ := cells2 hY
  obtain ⟨⟨f0, f1, f2, f3, f4, f5⟩, _⟩ := cells6 hF
  refine Lib.hid ?_
  go_wp2_with (with_reducible refine stop_op (o := ⟨some 27, _, _, _, _, _⟩) ?_)
  obtain ⟨w5, hw5⟩ : ∃ x, x = w4.alloc (.cells #[.int .u64 (dh : Nat), .int .u64 (dl : Nat)] 25) := ⟨_, rfl⟩
  have hL5 : w5.heap[w4.heap.size]? = some (.cells #[.int .u64 (dh : Nat), .int .u64 (dl : Nat)] 25 (0, 0)) := by rw [hw5]; exact al_neww rfl _
  have hA5 : AdrsAt w5 w4.heap.size 0 [((dh : Int), (dl : Int))] := by
    obtain ⟨a0, a1, _, _⟩ := cells2 hL5
    intro k a h
    match k, h with
    | 0, h => obtain rfl : _ = a := by simpa using h
              exact ⟨a0, a1, wa, wb⟩
    | k + 1, h => simp at h
  have ch := has_any false w4.heap.size 0 1 1 _ rfl (by omega) hA5
  rw [show hasP false [((dh : Int), (dl : Int))] = true by simp [hasP, hd4]] at ch
  simp only [famCells, if_true, if_false, Bool.false_eq_true] at ch
  have hbx : Below w4.heap.size w4 w5 := by rw [hw5]; exact Below.al (Below.refl _ _) _
  rw [← hw5]
  clear hw5 hA5 hL5
  have hXn := blkKeep2 hbx hX
  have hYn := blkKeep2 hbx hY
  have hFn := blkKeep2 hbx hF
  have bwn : Below w.heap.size w w5 := bw.trans (hbx.mono bw.size)
  clear hbx hX hY hF bw sx0 sx1 dx0 dx1 f0 f1 f2 f3 f4 f5
  have hX := hXn
  have hY := hYn
  have hF := hFn
  have bw := bwn
  clear hXn hYn hFn bwn
  obtain ⟨sx0, sx1, _, _⟩ := cells2 hX
  obtain ⟨dx0, dx1, _, _⟩ := cells2 hY
  obtain ⟨⟨f0, f1, f2, f3, f4, f5⟩, _⟩ := cells6 hF
  refine Lib.hid ?_
  go_wp2_with (go_at_call 29; refine ch.mono ?_; rintro e w6 ⟨rfl, hbx⟩; refine Hid.out ?_)
  have hXn := blkKeep2 hbx hX
  have hYn := blkKeep2 hbx hY
  have hFn := blkKeep2 hbx hF
  have bwn : Below w.heap.size w w6 := bw.trans (hbx.mono bw.size)
  clear hbx hX hY hF bw sx0 sx1 dx0 dx1 f0 f1 f2 f3 f4 f5
  have hX := hXn
  have hY := hYn
  have hF := hFn
  have bw := bwn
  clear hXn hYn hFn bwn
  obtain ⟨sx0, sx1, _, _⟩ := cells2 hX
  obtain ⟨dx0, dx1, _, _⟩ := cells2 hY
  obtain ⟨⟨f0, f1, f2, f3, f4, f5⟩, _⟩ := cells6 hF
  clear ch
  refine Lib.hid ?_
  go_wp2_with (first | (go_at_call_of 31 (Value.int IntKind.i64 vp); refine (cA _).mono ?_; rintro e w' ⟨rfl, hw'⟩; subst hw') | (go_at_call_of 31 (Value.int IntKind.i64 ttl); refine (cB _).mono ?_; rintro e w' ⟨rfl, hw'⟩; subst hw') | (go_at_call 48; refine (cc _).mono ?_; rintro e w7 ⟨rfl, hbx⟩))
  go_ret2
  exact ⟨rfl, bw.trans (hbx.mono bw.size)⟩

set_option maxHeartbeats 4000000 in
set_option maxRecDepth 100000 in
theorem pk4_6 (A : Option Addr) (n c : Nat) (l : List UInt8) (sh sl dh dl : Nat) (vp ttl : Int) (h1 : sh < 18446744073709551616) (h2 : sl < 18446744073709551616) (h3 : dh < 18446744073709551616) (h4 : dl < 18446744073709551616) (hs4 : is4I (sh : Int) (sl : Int) = true) {w : World} (h : BytArg w A n c l) (hm : n ≤ 65536) (hd4 : is4I (dh : Int) (dl : Int) = true) (hp : byteP vp = true) (ht : byteP ttl = true) (hq : vp ≠ 44) (hk : carriesP false vp = true) (hz : 2048 < 20 + n) :
    Calls Try.prog 21 #[.agg #[.int .u64 (sh : Nat), .int .u64 (sl : Nat)], .agg #[.int .u64 (dh : Nat), .int .u64 (dl : Nat)], .int .i64 vp, .int .i64 ttl, .slice A n c] w fun e w' => e = .returned (.tuple #[.slice none 0 0, .int .i64 1]) ∧ Below w.heap.size w w' := by
  have ci := fun (W : World) => is4_any (sh : Int) (sl : Int) ⟨by omega, by omega⟩ ⟨by omega, by omega⟩ W
  rw [hs4] at ci
  have cf := fun (W : World) => fam_any false W
  have cA := fun (W : World) => isbyte_any vp W
  have cB := fun (W : World) => isbyte_any ttl W
  have cc := fun (W : World) => carries_any false vp W
  simp only [famCells, if_true, if_false, Bool.false_eq_true] at cf cc
  obtain ⟨N, hN⟩ : ∃ N, N = 20 + n := ⟨_, rfl⟩
  have wN : IntKind.i64.wrap (20 + (n : Int)) = (N : Int) := by rw [IntKind.wrap_i64]; omega
  have nI : (n : Int) ≤ 65536 := by omega
  have NI : (N : Int) ≤ 70000 := by omega
  have wa : Word (dh : Int) := ⟨by omega, by omega⟩
  have wb : Word (dl : Int) := ⟨by omega, by omega⟩
  clear hs4 h1 h2 h3 h4
  rw [hp] at cA
  rw [ht] at cB
  have q44 : (vp == 44) = false := by simp [hq]
  rw [hk] at cc
  have g1 : decide ((2048 : Int) < (N : Int)) = true := by simp; omega
  have g2 : (2048 : Int) < (N : Int) := by omega
  have g3 : decide (2048 < N) = true := by simp; omega
  clear h hN
  go_enter Try.func21, Try.ntmps21
  go_wp2_with (with_reducible refine stop_op (o := ⟨some 15, _, _, _, _, _⟩) ?_)
  obtain ⟨w1, hw1⟩ : ∃ x, x = (w.alloc (.cells #[.int .u64 (sh : Nat), .int .u64 (sl : Nat)] 25)).alloc (.cells #[.int .u64 (dh : Nat), .int .u64 (dl : Nat)] 25) := ⟨_, rfl⟩
  have hX : w1.heap[w.heap.size]? = some (.cells #[.int .u64 (sh : Nat), .int .u64 (sl : Nat)] 25 (0, 0)) := by rw [hw1, al_oldw (by simp)]; exact al_neww rfl _
  have hY : w1.heap[w.heap.size + 1]? = some (.cells #[.int .u64 (dh : Nat), .int .u64 (dl : Nat)] 25 (0, 0)) := by rw [hw1]; exact al_neww (by simp) _
  have bw : Below w.heap.size w w1 := by rw [hw1]; exact Below.al (Below.al (Below.refl _ _) _) _
  rw [← hw1]
  clear hw1
  obtain ⟨sx0, sx1, _, _⟩ := cells2 hX
  obtain ⟨dx0, dx1, _, _⟩ := cells2 hY
  refine Lib.hid ?_
  go_wp2_with (go_at_call 59; refine (ci _).mono ?_; rintro e w2 ⟨rfl, hb2⟩; refine Hid.out ?_)
  have hX2 := blkKeep2 hb2 hX
  have hY2 := blkKeep2 hb2 hY
  have b2 : Below w.heap.size w w2 := bw.trans (hb2.mono bw.size)
  clear hb2 hX hY bw sx0 sx1 dx0 dx1 ci
  refine Lib.hid ?_
  go_wp2_with (go_at_call 28; refine (cf _).mono ?_; rintro e w3 ⟨rfl, hb3⟩; refine Hid.out ?_)
  have hX3 := blkKeep2 hb3 hX2
  have hY3 := blkKeep2 hb3 hY2
  have b3 : Below w.heap.size w w3 := b2.trans (hb3.mono b2.size)
  clear hb3 hX2 hY2 b2 cf
  refine Lib.hid ?_
  go_wp2_with (with_reducible refine stop_op (o := ⟨some 19, _, _, _, _, _⟩) ?_)
  obtain ⟨w4, hw4⟩ : ∃ x, x = w3.alloc (.cells #[.bool false, .int .i64 20, .int .i64 8, .int .i64 9, .int .i64 12, .int .i64 4] 69) := ⟨_, rfl⟩
  have hF : w4.heap[w3.heap.size]? = some (.cells #[.bool false, .int .i64 20, .int .i64 8, .int .i64 9, .int .i64 12, .int .i64 4] 69 (0, 0)) := by rw [hw4]; exact al_neww rfl _
  have hb4 : Below w3.heap.size w3 w4 := by rw [hw4]; exact Below.al (Below.refl _ _) _
  have hX := blkKeep2 hb4 hX3
  have hY := blkKeep2 hb4 hY3
  have bw : Below w.heap.size w w4 := b3.trans (hb4.mono b3.size)
  rw [← hw4]
  clear hw4 hb4 hX3 hY3 b3
  obtain ⟨sx0, sx1, _, _⟩ := cells2 hX
  obtain ⟨dx0, dx1, _, _⟩ := cells2 hY
  obtain ⟨⟨f0, f1, f2, f3, f4, f5⟩, _⟩ := cells6 hF
  refine Lib.hid ?_
  go_wp2_with (with_reducible refine stop_op (o := ⟨some 27, _, _, _, _, _⟩) ?_)
  obtain ⟨w5, hw5⟩ : ∃ x, x = w4.alloc (.cells #[.int .u64 (dh : Nat), .int .u64 (dl : Nat)] 25) := ⟨_, rfl⟩
  have hL5 : w5.heap[w4.heap.size]? = some (.cells #[.int .u64 (dh : Nat), .int .u64 (dl : Nat)] 25 (0, 0)) := by rw [hw5]; exact al_neww rfl _
  have hA5 : AdrsAt w5 w4.heap.size 0 [((dh : Int), (dl : Int))] := by
    obtain ⟨a0, a1, _, _⟩ := cells2 hL5
    intro k a h
    match k, h with
    | 0, h => obtain rfl : _ = a := by simpa using h
              exact ⟨a0, a1, wa, wb⟩
    | k + 1, h => simp at h
  have ch := has_any false w4.heap.size 0 1 1 _ rfl (by omega) hA5
  rw [show hasP false [((dh : Int), (dl : Int))] = true by simp [hasP, hd4]] at ch
  simp only [famCells, if_true, if_false, Bool.false_eq_true] at ch
  have hbx : Below w4.heap.size w4 w5 := by rw [hw5]; exact Below.al (Below.refl _ _) _
  rw [← hw5]
  clear hw5 hA5 hL5
  have hXn := blkKeep2 hbx hX
  have hYn := blkKeep2 hbx hY
  have hFn := blkKeep2 hbx hF
  have bwn : Below w.heap.size w w5 := bw.trans (hbx.mono bw.size)
  clear hbx hX hY hF bw sx0 sx1 dx0 dx1 f0 f1 f2 f3 f4 f5
  have hX := hXn
  have hY := hYn
  have hF := hFn
  have bw := bwn
  clear hXn hYn hFn bwn
  obtain ⟨sx0, sx1, _, _⟩ := cells2 hX
  obtain ⟨dx0, dx1, _, _⟩ := cells2 hY
  obtain ⟨⟨f0, f1, f2, f3, f4, f5⟩, _⟩ := cells6 hF
  refine Lib.hid ?_
  go_wp2_with (go_at_call 29; refine ch.mono ?_; rintro e w6 ⟨rfl, hbx⟩; refine Hid.out ?_)
  have hXn := blkKeep2 hbx hX
  have hYn := blkKeep2 hbx hY
  have hFn := blkKeep2 hbx hF
  have bwn : Below w.heap.size w w6 := bw.trans (hbx.mono bw.size)
  clear hbx hX hY hF bw sx0 sx1 dx0 dx1 f0 f1 f2 f3 f4 f5
  have hX := hXn
  have hY := hYn
  have hF := hFn
  have bw := bwn
  clear hXn hYn hFn bwn
  obtain ⟨sx0, sx1, _, _⟩ := cells2 hX
  obtain ⟨dx0, dx1, _, _⟩ := cells2 hY
  obtain ⟨⟨f0, f1, f2, f3, f4, f5⟩, _⟩ := cells6 hF
  clear ch
  refine Lib.hid ?_
  go_wp2_with (first | (go_at_call_of 31 (Value.int IntKind.i64 vp); refine (cA _).mono ?_; rintro e w' ⟨rfl, hw'⟩; subst hw') | (go_at_call_of 31 (Value.int IntKind.i64 ttl); refine (cB _).mono ?_; rintro e w' ⟨rfl, hw'⟩; subst hw') | (go_at_call 48; refine (cc _).mono ?_; rintro e w7 ⟨rfl, hbx⟩))
  go_ret2
  exact ⟨rfl, bw.trans (hbx.mono bw.size)⟩

set_option maxHeartbeats 4000000 in
set_option maxRecDepth 100000 in
theorem pk6_1 (A : Option Addr) (n c : Nat) (l : List UInt8) (sh sl dh dl : Nat) (vp ttl : Int) (h1 : sh < 18446744073709551616) (h2 : sl < 18446744073709551616) (h3 : dh < 18446744073709551616) (h4 : dl < 18446744073709551616) (hs4 : is4I (sh : Int) (sl : Int) = false) {w : World} (h : BytArg w A n c l) (hm : n ≤ 65536) (hd4 : is4I (dh : Int) (dl : Int) = true) :
    Calls Try.prog 21 #[.agg #[.int .u64 (sh : Nat), .int .u64 (sl : Nat)], .agg #[.int .u64 (dh : Nat), .int .u64 (dl : Nat)], .int .i64 vp, .int .i64 ttl, .slice A n c] w fun e w' => e = .returned (.tuple #[.slice none 0 0, .int .i64 1]) ∧ Below w.heap.size w w' := by
  have ci := fun (W : World) => is4_any (sh : Int) (sl : Int) ⟨by omega, by omega⟩ ⟨by omega, by omega⟩ W
  rw [hs4] at ci
  have cf := fun (W : World) => fam_any true W
  have cA := fun (W : World) => isbyte_any vp W
  have cB := fun (W : World) => isbyte_any ttl W
  have cc := fun (W : World) => carries_any true vp W
  simp only [famCells, if_true, if_false, Bool.false_eq_true] at cf cc
  obtain ⟨N, hN⟩ : ∃ N, N = 40 + n := ⟨_, rfl⟩
  have wN : IntKind.i64.wrap (40 + (n : Int)) = (N : Int) := by rw [IntKind.wrap_i64]; omega
  have nI : (n : Int) ≤ 65536 := by omega
  have NI : (N : Int) ≤ 70000 := by omega
  have wa : Word (dh : Int) := ⟨by omega, by omega⟩
  have wb : Word (dl : Int) := ⟨by omega, by omega⟩
  clear hs4 h1 h2 h3 h4
  clear h hN
  go_enter Try.func21, Try.ntmps21
  go_wp2_with (with_reducible refine stop_op (o := ⟨some 15, _, _, _, _, _⟩) ?_)
  obtain ⟨w1, hw1⟩ : ∃ x, x = (w.alloc (.cells #[.int .u64 (sh : Nat), .int .u64 (sl : Nat)] 25)).alloc (.cells #[.int .u64 (dh : Nat), .int .u64 (dl : Nat)] 25) := ⟨_, rfl⟩
  have hX : w1.heap[w.heap.size]? = some (.cells #[.int .u64 (sh : Nat), .int .u64 (sl : Nat)] 25 (0, 0)) := by rw [hw1, al_oldw (by simp)]; exact al_neww rfl _
  have hY : w1.heap[w.heap.size + 1]? = some (.cells #[.int .u64 (dh : Nat), .int .u64 (dl : Nat)] 25 (0, 0)) := by rw [hw1]; exact al_neww (by simp) _
  have bw : Below w.heap.size w w1 := by rw [hw1]; exact Below.al (Below.al (Below.refl _ _) _) _
  rw [← hw1]
  clear hw1
  obtain ⟨sx0, sx1, _, _⟩ := cells2 hX
  obtain ⟨dx0, dx1, _, _⟩ := cells2 hY
  refine Lib.hid ?_
  go_wp2_with (go_at_call 59; refine (ci _).mono ?_; rintro e w2 ⟨rfl, hb2⟩; refine Hid.out ?_)
  have hX2 := blkKeep2 hb2 hX
  have hY2 := blkKeep2 hb2 hY
  have b2 : Below w.heap.size w w2 := bw.trans (hb2.mono bw.size)
  clear hb2 hX hY bw sx0 sx1 dx0 dx1 ci
  refine Lib.hid ?_
  go_wp2_with (go_at_call 28; refine (cf _).mono ?_; rintro e w3 ⟨rfl, hb3⟩; refine Hid.out ?_)
  have hX3 := blkKeep2 hb3 hX2
  have hY3 := blkKeep2 hb3 hY2
  have b3 : Below w.heap.size w w3 := b2.trans (hb3.mono b2.size)
  clear hb3 hX2 hY2 b2 cf
  refine Lib.hid ?_
  go_wp2_with (with_reducible refine stop_op (o := ⟨some 19, _, _, _, _, _⟩) ?_)
  obtain ⟨w4, hw4⟩ : ∃ x, x = w3.alloc (.cells #[.bool true, .int .i64 40, .int .i64 7, .int .i64 6, .int .i64 8, .int .i64 16] 69) := ⟨_, rfl⟩
  have hF : w4.heap[w3.heap.size]? = some (.cells #[.bool true, .int .i64 40, .int .i64 7, .int .i64 6, .int .i64 8, .int .i64 16] 69 (0, 0)) := by rw [hw4]; exact al_neww rfl _
  have hb4 : Below w3.heap.size w3 w4 := by rw [hw4]; exact Below.al (Below.refl _ _) _
  have hX := blkKeep2 hb4 hX3
  have hY := blkKeep2 hb4 hY3
  have bw : Below w.heap.size w w4 := b3.trans (hb4.mono b3.size)
  rw [← hw4]
  clear hw4 hb4 hX3 hY3 b3
  obtain ⟨sx0, sx1, _, _⟩ := cells2 hX
  obtain ⟨dx0, dx1, _, _⟩ := cells2 hY
  obtain ⟨⟨f0, f1, f2, f3, f4, f5⟩, _⟩ := cells6 hF
  refine Lib.hid ?_
  go_wp2_with (with_reducible refine stop_op (o := ⟨some 27, _, _, _, _, _⟩) ?_)
  obtain ⟨w5, hw5⟩ : ∃ x, x = w4.alloc (.cells #[.int .u64 (dh : Nat), .int .u64 (dl : Nat)] 25) := ⟨_, rfl⟩
  have hL5 : w5.heap[w4.heap.size]? = some (.cells #[.int .u64 (dh : Nat), .int .u64 (dl : Nat)] 25 (0, 0)) := by rw [hw5]; exact al_neww rfl _
  have hA5 : AdrsAt w5 w4.heap.size 0 [((dh : Int), (dl : Int))] := by
    obtain ⟨a0, a1, _, _⟩ := cells2 hL5
    intro k a h
    match k, h with
    | 0, h => obtain rfl : _ = a := by simpa using h
              exact ⟨a0, a1, wa, wb⟩
    | k + 1, h => simp at h
  have ch := has_any true w4.heap.size 0 1 1 _ rfl (by omega) hA5
  rw [show hasP true [((dh : Int), (dl : Int))] = false by simp [hasP, hd4]] at ch
  simp only [famCells, if_true, if_false, Bool.false_eq_true] at ch
  have hbx : Below w4.heap.size w4 w5 := by rw [hw5]; exact Below.al (Below.refl _ _) _
  rw [← hw5]
  clear hw5 hA5 hL5
  have hXn := blkKeep2 hbx hX
  have hYn := blkKeep2 hbx hY
  have hFn := blkKeep2 hbx hF
  have bwn : Below w.heap.size w w5 := bw.trans (hbx.mono bw.size)
  clear hbx hX hY hF bw sx0 sx1 dx0 dx1 f0 f1 f2 f3 f4 f5
  have hX := hXn
  have hY := hYn
  have hF := hFn
  have bw := bwn
  clear hXn hYn hFn bwn
  obtain ⟨sx0, sx1, _, _⟩ := cells2 hX
  obtain ⟨dx0, dx1, _, _⟩ := cells2 hY
  obtain ⟨⟨f0, f1, f2, f3, f4, f5⟩, _⟩ := cells6 hF
  refine Lib.hid ?_
  go_wp2_with (go_at_call 29; refine ch.mono ?_; rintro e w6 ⟨rfl, hbx⟩; refine Hid.out ?_)
  have hXn := blkKeep2 hbx hX
  have hYn := blkKeep2 hbx hY
  have hFn := blkKeep2 hbx hF
  have bwn : Below w.heap.size w w6 := bw.trans (hbx.mono bw.size)
  clear hbx hX hY hF bw sx0 sx1 dx0 dx1 f0 f1 f2 f3 f4 f5
  have hX := hXn
  have hY := hYn
  have hF := hFn
  have bw := bwn
  clear hXn hYn hFn bwn
  obtain ⟨sx0, sx1, _, _⟩ := cells2 hX
  obtain ⟨dx0, dx1, _, _⟩ := cells2 hY
  obtain ⟨⟨f0, f1, f2, f3, f4, f5⟩, _⟩ := cells6 hF
  clear ch
  refine Lib.hid ?_
  go_wp2
  go_ret2
  exact ⟨rfl, bw⟩

set_option maxHeartbeats 4000000 in
set_option maxRecDepth 100000 in
theorem pk6_2 (A : Option Addr) (n c : Nat) (l : List UInt8) (sh sl dh dl : Nat) (vp ttl : Int) (h1 : sh < 18446744073709551616) (h2 : sl < 18446744073709551616) (h3 : dh < 18446744073709551616) (h4 : dl < 18446744073709551616) (hs4 : is4I (sh : Int) (sl : Int) = false) {w : World} (h : BytArg w A n c l) (hm : n ≤ 65536) (hd4 : is4I (dh : Int) (dl : Int) = false) (hp : byteP vp = false) :
    Calls Try.prog 21 #[.agg #[.int .u64 (sh : Nat), .int .u64 (sl : Nat)], .agg #[.int .u64 (dh : Nat), .int .u64 (dl : Nat)], .int .i64 vp, .int .i64 ttl, .slice A n c] w fun e w' => e = .returned (.tuple #[.slice none 0 0, .int .i64 1]) ∧ Below w.heap.size w w' := by
  have ci := fun (W : World) => is4_any (sh : Int) (sl : Int) ⟨by omega, by omega⟩ ⟨by omega, by omega⟩ W
  rw [hs4] at ci
  have cf := fun (W : World) => fam_any true W
  have cA := fun (W : World) => isbyte_any vp W
  have cB := fun (W : World) => isbyte_any ttl W
  have cc := fun (W : World) => carries_any true vp W
  simp only [famCells, if_true, if_false, Bool.false_eq_true] at cf cc
  obtain ⟨N, hN⟩ : ∃ N, N = 40 + n := ⟨_, rfl⟩
  have wN : IntKind.i64.wrap (40 + (n : Int)) = (N : Int) := by rw [IntKind.wrap_i64]; omega
  have nI : (n : Int) ≤ 65536 := by omega
  have NI : (N : Int) ≤ 70000 := by omega
  have wa : Word (dh : Int) := ⟨by omega, by omega⟩
  have wb : Word (dl : Int) := ⟨by omega, by omega⟩
  clear hs4 h1 h2 h3 h4
  rw [hp] at cA
  clear h hN
  go_enter Try.func21, Try.ntmps21
  go_wp2_with (with_reducible refine stop_op (o := ⟨some 15, _, _, _, _, _⟩) ?_)
  obtain ⟨w1, hw1⟩ : ∃ x, x = (w.alloc (.cells #[.int .u64 (sh : Nat), .int .u64 (sl : Nat)] 25)).alloc (.cells #[.int .u64 (dh : Nat), .int .u64 (dl : Nat)] 25) := ⟨_, rfl⟩
  have hX : w1.heap[w.heap.size]? = some (.cells #[.int .u64 (sh : Nat), .int .u64 (sl : Nat)] 25 (0, 0)) := by rw [hw1, al_oldw (by simp)]; exact al_neww rfl _
  have hY : w1.heap[w.heap.size + 1]? = some (.cells #[.int .u64 (dh : Nat), .int .u64 (dl : Nat)] 25 (0, 0)) := by rw [hw1]; exact al_neww (by simp) _
  have bw : Below w.heap.size w w1 := by rw [hw1]; exact Below.al (Below.al (Below.refl _ _) _) _
  rw [← hw1]
  clear hw1
  obtain ⟨sx0, sx1, _, _⟩ := cells2 hX
  obtain ⟨dx0, dx1, _, _⟩ := cells2 hY
  refine Lib.hid ?_
  go_wp2_with (go_at_call 59; refine (ci _).mono ?_; rintro e w2 ⟨rfl, hb2⟩; refine Hid.out ?_)
  have hX2 := blkKeep2 hb2 hX
  have hY2 := blkKeep2 hb2 hY
  have b2 : Below w.heap.size w w2 := bw.trans (hb2.mono bw.size)
  clear hb2 hX hY bw sx0 sx1 dx0 dx1 ci
  refine Lib.hid ?_
  go_wp2_with (go_at_call 28; refine (cf _).mono ?_; rintro e w3 ⟨rfl, hb3⟩; refine Hid.out ?_)
  have hX3 := blkKeep2 hb3 hX2
  have hY3 := blkKeep2 hb3 hY2
  have b3 : Below w.heap.size w w3 := b2.trans (hb3.mono b2.size)
  clear hb3 hX2 hY2 b2 cf
  refine Lib.hid ?_
  go_wp2_with (with_reducible refine stop_op (o := ⟨some 19, _, _, _, _, _⟩) ?_)
  obtain ⟨w4, hw4⟩ : ∃ x, x = w3.alloc (.cells #[.bool true, .int .i64 40, .int .i64 7, .int .i64 6, .int .i64 8, .int .i64 16] 69) := ⟨_, rfl⟩
  have hF : w4.heap[w3.heap.size]? = some (.cells #[.bool true, .int .i64 40, .int .i64 7, .int .i64 6, .int .i64 8, .int .i64 16] 69 (0, 0)) := by rw [hw4]; exact al_neww rfl _
  have hb4 : Below w3.heap.size w3 w4 := by rw [hw4]; exact Below.al (Below.refl _ _) _
  have hX := blkKeep2 hb4 hX3
  have hY := blkKeep2 hb4 hY3
  have bw : Below w.heap.size w w4 := b3.trans (hb4.mono b3.size)
  rw [← hw4]
  clear hw4 hb4 hX3 hY3 b3
  obtain ⟨sx0, sx1, _, _⟩ := cells2 hX
  obtain ⟨dx0, dx1, _, _⟩ := cells2 hY
  obtain ⟨⟨f0, f1, f2, f3, f4, f5⟩, _⟩ := cells6 hF
  refine Lib.hid ?_
  go_wp2_with (with_reducible refine stop_op (o := ⟨some 27, _, _, _, _, _⟩) ?_)
  obtain ⟨w5, hw5⟩ : ∃ x, x = w4.alloc (.cells #[.int .u64 (dh : Nat), .int .u64 (dl : Nat)] 25) := ⟨_, rfl⟩
  have hL5 : w5.heap[w4.heap.size]? = some (.cells #[.int .u64 (dh : Nat), .int .u64 (dl : Nat)] 25 (0, 0)) := by rw [hw5]; exact al_neww rfl _
  have hA5 : AdrsAt w5 w4.heap.size 0 [((dh : Int), (dl : Int))] := by
    obtain ⟨a0, a1, _, _⟩ := cells2 hL5
    intro k a h
    match k, h with
    | 0, h => obtain rfl : _ = a := by simpa using h
              exact ⟨a0, a1, wa, wb⟩
    | k + 1, h => simp at h
  have ch := has_any true w4.heap.size 0 1 1 _ rfl (by omega) hA5
  rw [show hasP true [((dh : Int), (dl : Int))] = true by simp [hasP, hd4]] at ch
  simp only [famCells, if_true, if_false, Bool.false_eq_true] at ch
  have hbx : Below w4.heap.size w4 w5 := by rw [hw5]; exact Below.al (Below.refl _ _) _
  rw [← hw5]
  clear hw5 hA5 hL5
  have hXn := blkKeep2 hbx hX
  have hYn := blkKeep2 hbx hY
  have hFn := blkKeep2 hbx hF
  have bwn : Below w.heap.size w w5 := bw.trans (hbx.mono bw.size)
  clear hbx hX hY hF bw sx0 sx1 dx0 dx1 f0 f1 f2 f3 f4 f5
  have hX := hXn
  have hY := hYn
  have hF := hFn
  have bw := bwn
  clear hXn hYn hFn bwn
  obtain ⟨sx0, sx1, _, _⟩ := cells2 hX
  obtain ⟨dx0, dx1, _, _⟩ := cells2 hY
  obtain ⟨⟨f0, f1, f2, f3, f4, f5⟩, _⟩ := cells6 hF
  refine Lib.hid ?_
  go_wp2_with (go_at_call 29; refine ch.mono ?_; rintro e w6 ⟨rfl, hbx⟩; refine Hid.out ?_)
  have hXn := blkKeep2 hbx hX
  have hYn := blkKeep2 hbx hY
  have hFn := blkKeep2 hbx hF
  have bwn : Below w.heap.size w w6 := bw.trans (hbx.mono bw.size)
  clear hbx hX hY hF bw sx0 sx1 dx0 dx1 f0 f1 f2 f3 f4 f5
  have hX := hXn
  have hY := hYn
  have hF := hFn
  have bw := bwn
  clear hXn hYn hFn bwn
  obtain ⟨sx0, sx1, _, _⟩ := cells2 hX
  obtain ⟨dx0, dx1, _, _⟩ := cells2 hY
  obtain ⟨⟨f0, f1, f2, f3, f4, f5⟩, _⟩ := cells6 hF
  clear ch
  refine Lib.hid ?_
  go_wp2_with (first | (go_at_call_of 31 (Value.int IntKind.i64 vp); refine (cA _).mono ?_; rintro e w' ⟨rfl, hw'⟩; subst hw') | (go_at_call_of 31 (Value.int IntKind.i64 ttl); refine (cB _).mono ?_; rintro e w' ⟨rfl, hw'⟩; subst hw') | (go_at_call 48; refine (cc _).mono ?_; rintro e w7 ⟨rfl, hbx⟩))
  go_ret2
  exact ⟨rfl, bw⟩

set_option maxHeartbeats 4000000 in
set_option maxRecDepth 100000 in
theorem pk6_3 (A : Option Addr) (n c : Nat) (l : List UInt8) (sh sl dh dl : Nat) (vp ttl : Int) (h1 : sh < 18446744073709551616) (h2 : sl < 18446744073709551616) (h3 : dh < 18446744073709551616) (h4 : dl < 18446744073709551616) (hs4 : is4I (sh : Int) (sl : Int) = false) {w : World} (h : BytArg w A n c l) (hm : n ≤ 65536) (hd4 : is4I (dh : Int) (dl : Int) = false) (hp : byteP vp = true) (ht : byteP ttl = false) :
    Calls Try.prog 21 #[.agg #[.int .u64 (sh : Nat), .int .u64 (sl : Nat)], .agg #[.int .u64 (dh : Nat), .int .u64 (dl : Nat)], .int .i64 vp, .int .i64 ttl, .slice A n c] w fun e w' => e = .returned (.tuple #[.slice none 0 0, .int .i64 1]) ∧ Below w.heap.size w w' := by
  have ci := fun (W : World) => is4_any (sh : Int) (sl : Int) ⟨by omega, by omega⟩ ⟨by omega, by omega⟩ W
  rw [hs4] at ci
  have cf := fun (W : World) => fam_any true W
  have cA := fun (W : World) => isbyte_any vp W
  have cB := fun (W : World) => isbyte_any ttl W
  have cc := fun (W : World) => carries_any true vp W
  simp only [famCells, if_true, if_false, Bool.false_eq_true] at cf cc
  obtain ⟨N, hN⟩ : ∃ N, N = 40 + n := ⟨_, rfl⟩
  have wN : IntKind.i64.wrap (40 + (n : Int)) = (N : Int) := by rw [IntKind.wrap_i64]; omega
  have nI : (n : Int) ≤ 65536 := by omega
  have NI : (N : Int) ≤ 70000 := by omega
  have wa : Word (dh : Int) := ⟨by omega, by omega⟩
  have wb : Word (dl : Int) := ⟨by omega, by omega⟩
  clear hs4 h1 h2 h3 h4
  rw [hp] at cA
  rw [ht] at cB
  clear h hN
  go_enter Try.func21, Try.ntmps21
  go_wp2_with (with_reducible refine stop_op (o := ⟨some 15, _, _, _, _, _⟩) ?_)
  obtain ⟨w1, hw1⟩ : ∃ x, x = (w.alloc (.cells #[.int .u64 (sh : Nat), .int .u64 (sl : Nat)] 25)).alloc (.cells #[.int .u64 (dh : Nat), .int .u64 (dl : Nat)] 25) := ⟨_, rfl⟩
  have hX : w1.heap[w.heap.size]? = some (.cells #[.int .u64 (sh : Nat), .int .u64 (sl : Nat)] 25 (0, 0)) := by rw [hw1, al_oldw (by simp)]; exact al_neww rfl _
  have hY : w1.heap[w.heap.size + 1]? = some (.cells #[.int .u64 (dh : Nat), .int .u64 (dl : Nat)] 25 (0, 0)) := by rw [hw1]; exact al_neww (by simp) _
  have bw : Below w.heap.size w w1 := by rw [hw1]; exact Below.al (Below.al (Below.refl _ _) _) _
  rw [← hw1]
  clear hw1
  obtain ⟨sx0, sx1, _, _⟩ := cells2 hX
  obtain ⟨dx0, dx1, _, _⟩ := cells2 hY
  refine Lib.hid ?_
  go_wp2_with (go_at_call 59; refine (ci _).mono ?_; rintro e w2 ⟨rfl, hb2⟩; refine Hid.out ?_)
  have hX2 := blkKeep2 hb2 hX
  have hY2 := blkKeep2 hb2 hY
  have b2 : Below w.heap.size w w2 := bw.trans (hb2.mono bw.size)
  clear hb2 hX hY bw sx0 sx1 dx0 dx1 ci
  refine Lib.hid ?_
  go_wp2_with (go_at_call 28; refine (cf _).mono ?_; rintro e w3 ⟨rfl, hb3⟩; refine Hid.out ?_)
  have hX3 := blkKeep2 hb3 hX2
  have hY3 := blkKeep2 hb3 hY2
  have b3 : Below w.heap.size w w3 := b2.trans (hb3.mono b2.size)
  clear hb3 hX2 hY2 b2 cf
  refine Lib.hid ?_
  go_wp2_with (with_reducible refine stop_op (o := ⟨some 19, _, _, _, _, _⟩) ?_)
  obtain ⟨w4, hw4⟩ : ∃ x, x = w3.alloc (.cells #[.bool true, .int .i64 40, .int .i64 7, .int .i64 6, .int .i64 8, .int .i64 16] 69) := ⟨_, rfl⟩
  have hF : w4.heap[w3.heap.size]? = some (.cells #[.bool true, .int .i64 40, .int .i64 7, .int .i64 6, .int .i64 8, .int .i64 16] 69 (0, 0)) := by rw [hw4]; exact al_neww rfl _
  have hb4 : Below w3.heap.size w3 w4 := by rw [hw4]; exact Below.al (Below.refl _ _) _
  have hX := blkKeep2 hb4 hX3
  have hY := blkKeep2 hb4 hY3
  have bw : Below w.heap.size w w4 := b3.trans (hb4.mono b3.size)
  rw [← hw4]
  clear hw4 hb4 hX3 hY3 b3
  obtain ⟨sx0, sx1, _, _⟩ := cells2 hX
  obtain ⟨dx0, dx1, _, _⟩ := cells2 hY
  obtain ⟨⟨f0, f1, f2, f3, f4, f5⟩, _⟩ := cells6 hF
  refine Lib.hid ?_
  go_wp2_with (with_reducible refine stop_op (o := ⟨some 27, _, _, _, _, _⟩) ?_)
  obtain ⟨w5, hw5⟩ : ∃ x, x = w4.alloc (.cells #[.int .u64 (dh : Nat), .int .u64 (dl : Nat)] 25) := ⟨_, rfl⟩
  have hL5 : w5.heap[w4.heap.size]? = some (.cells #[.int .u64 (dh : Nat), .int .u64 (dl : Nat)] 25 (0, 0)) := by rw [hw5]; exact al_neww rfl _
  have hA5 : AdrsAt w5 w4.heap.size 0 [((dh : Int), (dl : Int))] := by
    obtain ⟨a0, a1, _, _⟩ := cells2 hL5
    intro k a h
    match k, h with
    | 0, h => obtain rfl : _ = a := by simpa using h
              exact ⟨a0, a1, wa, wb⟩
    | k + 1, h => simp at h
  have ch := has_any true w4.heap.size 0 1 1 _ rfl (by omega) hA5
  rw [show hasP true [((dh : Int), (dl : Int))] = true by simp [hasP, hd4]] at ch
  simp only [famCells, if_true, if_false, Bool.false_eq_true] at ch
  have hbx : Below w4.heap.size w4 w5 := by rw [hw5]; exact Below.al (Below.refl _ _) _
  rw [← hw5]
  clear hw5 hA5 hL5
  have hXn := blkKeep2 hbx hX
  have hYn := blkKeep2 hbx hY
  have hFn := blkKeep2 hbx hF
  have bwn : Below w.heap.size w w5 := bw.trans (hbx.mono bw.size)
  clear hbx hX hY hF bw sx0 sx1 dx0 dx1 f0 f1 f2 f3 f4 f5
  have hX := hXn
  have hY := hYn
  have hF := hFn
  have bw := bwn
  clear hXn hYn hFn bwn
  obtain ⟨sx0, sx1, _, _⟩ := cells2 hX
  obtain ⟨dx0, dx1, _, _⟩ := cells2 hY
  obtain ⟨⟨f0, f1, f2, f3, f4, f5⟩, _⟩ := cells6 hF
  refine Lib.hid ?_
  go_wp2_with (go_at_call 29; refine ch.mono ?_; rintro e w6 ⟨rfl, hbx⟩; refine Hid.out ?_)
  have hXn := blkKeep2 hbx hX
  have hYn := blkKeep2 hbx hY
  have hFn := blkKeep2 hbx hF
  have bwn : Below w.heap.size w w6 := bw.trans (hbx.mono bw.size)
  clear hbx hX hY hF bw sx0 sx1 dx0 dx1 f0 f1 f2 f3 f4 f5
  have hX := hXn
  have hY := hYn
  have hF := hFn
  have bw := bwn
  clear hXn hYn hFn bwn
  obtain ⟨sx0, sx1, _, _⟩ := cells2 hX
  obtain ⟨dx0, dx1, _, _⟩ := cells2 hY
  obtain ⟨⟨f0, f1, f2, f3, f4, f5⟩, _⟩ := cells6 hF
  clear ch
  refine Lib.hid ?_
  go_wp2_with (first | (go_at_call_of 31 (Value.int IntKind.i64 vp); refine (cA _).mono ?_; rintro e w' ⟨rfl, hw'⟩; subst hw') | (go_at_call_of 31 (Value.int IntKind.i64 ttl); refine (cB _).mono ?_; rintro e w' ⟨rfl, hw'⟩; subst hw') | (go_at_call 48; refine (cc _).mono ?_; rintro e w7 ⟨rfl, hbx⟩))
  go_ret2
  exact ⟨rfl, bw⟩

set_option maxHeartbeats 4000000 in
set_option maxRecDepth 100000 in
theorem pk6_4 (A : Option Addr) (n c : Nat) (l : List UInt8) (sh sl dh dl : Nat) (ttl : Int) (h1 : sh < 18446744073709551616) (h2 : sl < 18446744073709551616) (h3 : dh < 18446744073709551616) (h4 : dl < 18446744073709551616) (hs4 : is4I (sh : Int) (sl : Int) = false) {w : World} (h : BytArg w A n c l) (hm : n ≤ 65536) (hd4 : is4I (dh : Int) (dl : Int) = false) (hp : byteP 44 = true) (ht : byteP ttl = true)  :
    Calls Try.prog 21 #[.agg #[.int .u64 (sh : Nat), .int .u64 (sl : Nat)], .agg #[.int .u64 (dh : Nat), .int .u64 (dl : Nat)], .int .i64 44, .int .i64 ttl, .slice A n c] w fun e w' => e = .returned (.tuple #[.slice none 0 0, .int .i64 1]) ∧ Below w.heap.size w w' := by
  have ci := fun (W : World) => is4_any (sh : Int) (sl : Int) ⟨by omega, by omega⟩ ⟨by omega, by omega⟩ W
  rw [hs4] at ci
  have cf := fun (W : World) => fam_any true W
  have cA := fun (W : World) => isbyte_any 44 W
  have cB := fun (W : World) => isbyte_any ttl W
  have cc := fun (W : World) => carries_any true 44 W
  simp only [famCells, if_true, if_false, Bool.false_eq_true] at cf cc
  obtain ⟨N, hN⟩ : ∃ N, N = 40 + n := ⟨_, rfl⟩
  have wN : IntKind.i64.wrap (40 + (n : Int)) = (N : Int) := by rw [IntKind.wrap_i64]; omega
  have nI : (n : Int) ≤ 65536 := by omega
  have NI : (N : Int) ≤ 70000 := by omega
  have wa : Word (dh : Int) := ⟨by omega, by omega⟩
  have wb : Word (dl : Int) := ⟨by omega, by omega⟩
  clear hs4 h1 h2 h3 h4
  rw [hp] at cA
  rw [ht] at cB
  clear h hN
  go_enter Try.func21, Try.ntmps21
  go_wp2_with (with_reducible refine stop_op (o := ⟨some 15, _, _, _, _, _⟩) ?_)
  obtain ⟨w1, hw1⟩ : ∃ x, x = (w.alloc (.cells #[.int .u64 (sh : Nat), .int .u64 (sl : Nat)] 25)).alloc (.cells #[.int .u64 (dh : Nat), .int .u64 (dl : Nat)] 25) := ⟨_, rfl⟩
  have hX : w1.heap[w.heap.size]? = some (.cells #[.int .u64 (sh : Nat), .int .u64 (sl : Nat)] 25 (0, 0)) := by rw [hw1, al_oldw (by simp)]; exact al_neww rfl _
  have hY : w1.heap[w.heap.size + 1]? = some (.cells #[.int .u64 (dh : Nat), .int .u64 (dl : Nat)] 25 (0, 0)) := by rw [hw1]; exact al_neww (by simp) _
  have bw : Below w.heap.size w w1 := by rw [hw1]; exact Below.al (Below.al (Below.refl _ _) _) _
  rw [← hw1]
  clear hw1
  obtain ⟨sx0, sx1, _, _⟩ := cells2 hX
  obtain ⟨dx0, dx1, _, _⟩ := cells2 hY
  refine Lib.hid ?_
  go_wp2_with (go_at_call 59; refine (ci _).mono ?_; rintro e w2 ⟨rfl, hb2⟩; refine Hid.out ?_)
  have hX2 := blkKeep2 hb2 hX
  have hY2 := blkKeep2 hb2 hY
  have b2 : Below w.heap.size w w2 := bw.trans (hb2.mono bw.size)
  clear hb2 hX hY bw sx0 sx1 dx0 dx1 ci
  refine Lib.hid ?_
  go_wp2_with (go_at_call 28; refine (cf _).mono ?_; rintro e w3 ⟨rfl, hb3⟩; refine Hid.out ?_)
  have hX3 := blkKeep2 hb3 hX2
  have hY3 := blkKeep2 hb3 hY2
  have b3 : Below w.heap.size w w3 := b2.trans (hb3.mono b2.size)
  clear hb3 hX2 hY2 b2 cf
  refine Lib.hid ?_
  go_wp2_with (with_reducible refine stop_op (o := ⟨some 19, _, _, _, _, _⟩) ?_)
  obtain ⟨w4, hw4⟩ : ∃ x, x = w3.alloc (.cells #[.bool true, .int .i64 40, .int .i64 7, .int .i64 6, .int .i64 8, .int .i64 16] 69) := ⟨_, rfl⟩
  have hF : w4.heap[w3.heap.size]? = some (.cells #[.bool true, .int .i64 40, .int .i64 7, .int .i64 6, .int .i64 8, .int .i64 16] 69 (0, 0)) := by rw [hw4]; exact al_neww rfl _
  have hb4 : Below w3.heap.size w3 w4 := by rw [hw4]; exact Below.al (Below.refl _ _) _
  have hX := blkKeep2 hb4 hX3
  have hY := blkKeep2 hb4 hY3
  have bw : Below w.heap.size w w4 := b3.trans (hb4.mono b3.size)
  rw [← hw4]
  clear hw4 hb4 hX3 hY3 b3
  obtain ⟨sx0, sx1, _, _⟩ := cells2 hX
  obtain ⟨dx0, dx1, _, _⟩ := cells2 hY
  obtain ⟨⟨f0, f1, f2, f3, f4, f5⟩, _⟩ := cells6 hF
  refine Lib.hid ?_
  go_wp2_with (with_reducible refine stop_op (o := ⟨some 27, _, _, _, _, _⟩) ?_)
  obtain ⟨w5, hw5⟩ : ∃ x, x = w4.alloc (.cells #[.int .u64 (dh : Nat), .int .u64 (dl : Nat)] 25) := ⟨_, rfl⟩
  have hL5 : w5.heap[w4.heap.size]? = some (.cells #[.int .u64 (dh : Nat), .int .u64 (dl : Nat)] 25 (0, 0)) := by rw [hw5]; exact al_neww rfl _
  have hA5 : AdrsAt w5 w4.heap.size 0 [((dh : Int), (dl : Int))] := by
    obtain ⟨a0, a1, _, _⟩ := cells2 hL5
    intro k a h
    match k, h with
    | 0, h => obtain rfl : _ = a := by simpa using h
              exact ⟨a0, a1, wa, wb⟩
    | k + 1, h => simp at h
  have ch := has_any true w4.heap.size 0 1 1 _ rfl (by omega) hA5
  rw [show hasP true [((dh : Int), (dl : Int))] = true by simp [hasP, hd4]] at ch
  simp only [famCells, if_true, if_false, Bool.false_eq_true] at ch
  have hbx : Below w4.heap.size w4 w5 := by rw [hw5]; exact Below.al (Below.refl _ _) _
  rw [← hw5]
  clear hw5 hA5 hL5
  have hXn := blkKeep2 hbx hX
  have hYn := blkKeep2 hbx hY
  have hFn := blkKeep2 hbx hF
  have bwn : Below w.heap.size w w5 := bw.trans (hbx.mono bw.size)
  clear hbx hX hY hF bw sx0 sx1 dx0 dx1 f0 f1 f2 f3 f4 f5
  have hX := hXn
  have hY := hYn
  have hF := hFn
  have bw := bwn
  clear hXn hYn hFn bwn
  obtain ⟨sx0, sx1, _, _⟩ := cells2 hX
  obtain ⟨dx0, dx1, _, _⟩ := cells2 hY
  obtain ⟨⟨f0, f1, f2, f3, f4, f5⟩, _⟩ := cells6 hF
  refine Lib.hid ?_
  go_wp2_with (go_at_call 29; refine ch.mono ?_; rintro e w6 ⟨rfl, hbx⟩; refine Hid.out ?_)
  have hXn := blkKeep2 hbx hX
  have hYn := blkKeep2 hbx hY
  have hFn := blkKeep2 hbx hF
  have bwn : Below w.heap.size w w6 := bw.trans (hbx.mono bw.size)
  clear hbx hX hY hF bw sx0 sx1 dx0 dx1 f0 f1 f2 f3 f4 f5
  have hX := hXn
  have hY := hYn
  have hF := hFn
  have bw := bwn
  clear hXn hYn hFn bwn
  obtain ⟨sx0, sx1, _, _⟩ := cells2 hX
  obtain ⟨dx0, dx1, _, _⟩ := cells2 hY
  obtain ⟨⟨f0, f1, f2, f3, f4, f5⟩, _⟩ := cells6 hF
  clear ch
  refine Lib.hid ?_
  go_wp2_with (first | (go_at_call_of 31 (Value.int IntKind.i64 44); refine (cA _).mono ?_; rintro e w' ⟨rfl, hw'⟩; subst hw') | (go_at_call_of 31 (Value.int IntKind.i64 ttl); refine (cB _).mono ?_; rintro e w' ⟨rfl, hw'⟩; subst hw') | (go_at_call 48; refine (cc _).mono ?_; rintro e w7 ⟨rfl, hbx⟩))
  go_ret2
  exact ⟨rfl, bw⟩

set_option maxHeartbeats 4000000 in
set_option maxRecDepth 100000 in
theorem pk6_5 (A : Option Addr) (n c : Nat) (l : List UInt8) (sh sl dh dl : Nat) (vp ttl : Int) (h1 : sh < 18446744073709551616) (h2 : sl < 18446744073709551616) (h3 : dh < 18446744073709551616) (h4 : dl < 18446744073709551616) (hs4 : is4I (sh : Int) (sl : Int) = false) {w : World} (h : BytArg w A n c l) (hm : n ≤ 65536) (hd4 : is4I (dh : Int) (dl : Int) = false) (hp : byteP vp = true) (ht : byteP ttl = true) (hq : vp ≠ 44) (hk : carriesP true vp = false) :
    Calls Try.prog 21 #[.agg #[.int .u64 (sh : Nat), .int .u64 (sl : Nat)], .agg #[.int .u64 (dh : Nat), .int .u64 (dl : Nat)], .int .i64 vp, .int .i64 ttl, .slice A n c] w fun e w' => e = .returned (.tuple #[.slice none 0 0, .int .i64 1]) ∧ Below w.heap.size w w' := by
  have ci := fun (W : World) => is4_any (sh : Int) (sl : Int) ⟨by omega, by omega⟩ ⟨by omega, by omega⟩ W
  rw [hs4] at ci
  have cf := fun (W : World) => fam_any true W
  have cA := fun (W : World) => isbyte_any vp W
  have cB := fun (W : World) => isbyte_any ttl W
  have cc := fun (W : World) => carries_any true vp W
  simp only [famCells, if_true, if_false, Bool.false_eq_true] at cf cc
  obtain ⟨N, hN⟩ : ∃ N, N = 40 + n := ⟨_, rfl⟩
  have wN : IntKind.i64.wrap (40 + (n : Int)) = (N : Int) := by rw [IntKind.wrap_i64]; omega
  have nI : (n : Int) ≤ 65536 := by omega
  have NI : (N : Int) ≤ 70000 := by omega
  have wa : Word (dh : Int) := ⟨by omega, by omega⟩
  have wb : Word (dl : Int) := ⟨by omega, by omega⟩
  clear hs4 h1 h2 h3 h4
  rw [hp] at cA
  rw [ht] at cB
  have q44 : (vp == 44) = false := by simp [hq]
  rw [hk] at cc
  clear h hN
  go_enter Try.func21, Try.ntmps21
  go_wp2_with (with_reducible refine stop_op (o := ⟨some 15, _, _, _, _, _⟩) ?_)
  obtain ⟨w1, hw1⟩ : ∃ x, x = (w.alloc (.cells #[.int .u64 (sh : Nat), .int .u64 (sl : Nat)] 25)).alloc (.cells #[.int .u64 (dh : Nat), .int .u64 (dl : Nat)] 25) := ⟨_, rfl⟩
  have hX : w1.heap[w.heap.size]? = some (.cells #[.int .u64 (sh : Nat), .int .u64 (sl : Nat)] 25 (0, 0)) := by rw [hw1, al_oldw (by simp)]; exact al_neww rfl _
  have hY : w1.heap[w.heap.size + 1]? = some (.cells #[.int .u64 (dh : Nat), .int .u64 (dl : Nat)] 25 (0, 0)) := by rw [hw1]; exact al_neww (by simp) _
  have bw : Below w.heap.size w w1 := by rw [hw1]; exact Below.al (Below.al (Below.refl _ _) _) _
  rw [← hw1]
  clear hw1
  obtain ⟨sx0, sx1, _, _⟩ := cells2 hX
  obtain ⟨dx0, dx1, _, _⟩ := cells2 hY
  refine Lib.hid ?_
  go_wp2_with (go_at_call 59; refine (ci _).mono ?_; rintro e w2 ⟨rfl, hb2⟩; refine Hid.out ?_)
  have hX2 := blkKeep2 hb2 hX
  have hY2 := blkKeep2 hb2 hY
  have b2 : Below w.heap.size w w2 := bw.trans (hb2.mono bw.size)
  clear hb2 hX hY bw sx0 sx1 dx0 dx1 ci
  refine Lib.hid ?_
  go_wp2_with (go_at_call 28; refine (cf _).mono ?_; rintro e w3 ⟨rfl, hb3⟩; refine Hid.out ?_)
  have hX3 := blkKeep2 hb3 hX2
  have hY3 := blkKeep2 hb3 hY2
  have b3 : Below w.heap.size w w3 := b2.trans (hb3.mono b2.size)
  clear hb3 hX2 hY2 b2 cf
  refine Lib.hid ?_
  go_wp2_with (with_reducible refine stop_op (o := ⟨some 19, _, _, _, _, _⟩) ?_)
  obtain ⟨w4, hw4⟩ : ∃ x, x = w3.alloc (.cells #[.bool true, .int .i64 40, .int .i64 7, .int .i64 6, .int .i64 8, .int .i64 16] 69) := ⟨_, rfl⟩
  have hF : w4.heap[w3.heap.size]? = some (.cells #[.bool true, .int .i64 40, .int .i64 7, .int .i64 6, .int .i64 8, .int .i64 16] 69 (0, 0)) := by rw [hw4]; exact al_neww rfl _
  have hb4 : Below w3.heap.size w3 w4 := by rw [hw4]; exact Below.al (Below.refl _ _) _
  have hX := blkKeep2 hb4 hX3
  have hY := blkKeep2 hb4 hY3
  have bw : Below w.heap.size w w4 := b3.trans (hb4.mono b3.size)
  rw [← hw4]
  clear hw4 hb4 hX3 hY3 b3
  obtain ⟨sx0, sx1, _, _⟩ := cells2 hX
  obtain ⟨dx0, dx1, _, _⟩ := cells2 hY
  obtain ⟨⟨f0, f1, f2, f3, f4, f5⟩, _⟩ := cells6 hF
  refine Lib.hid ?_
  go_wp2_with (with_reducible refine stop_op (o := ⟨some 27, _, _, _, _, _⟩) ?_)
  obtain ⟨w5, hw5⟩ : ∃ x, x = w4.alloc (.cells #[.int .u64 (dh : Nat), .int .u64 (dl : Nat)] 25) := ⟨_, rfl⟩
  have hL5 : w5.heap[w4.heap.size]? = some (.cells #[.int .u64 (dh : Nat), .int .u64 (dl : Nat)] 25 (0, 0)) := by rw [hw5]; exact al_neww rfl _
  have hA5 : AdrsAt w5 w4.heap.size 0 [((dh : Int), (dl : Int))] := by
    obtain ⟨a0, a1, _, _⟩ := cells2 hL5
    intro k a h
    match k, h with
    | 0, h => obtain rfl : _ = a := by simpa using h
              exact ⟨a0, a1, wa, wb⟩
    | k + 1, h => simp at h
  have ch := has_any true w4.heap.size 0 1 1 _ rfl (by omega) hA5
  rw [show hasP true [((dh : Int), (dl : Int))] = true by simp [hasP, hd4]] at ch
  simp only [famCells, if_true, if_false, Bool.false_eq_true] at ch
  have hbx : Below w4.heap.size w4 w5 := by rw [hw5]; exact Below.al (Below.refl _ _) _
  rw [← hw5]
  clear hw5 hA5 hL5
  have hXn := blkKeep2 hbx hX
  have hYn := blkKeep2 hbx hY
  have hFn := blkKeep2 hbx hF
  have bwn : Below w.heap.size w w5 := bw.trans (hbx.mono bw.size)
  clear hbx hX hY hF bw sx0 sx1 dx0 dx1 f0 f1 f2 f3 f4 f5
  have hX := hXn
  have hY := hYn
  have hF := hFn
  have bw := bwn
  clear hXn hYn hFn bwn
  obtain ⟨sx0, sx1, _, _⟩ := cells2 hX
  obtain ⟨dx0, dx1, _, _⟩ := cells2 hY
  obtain ⟨⟨f0, f1, f2, f3, f4, f5⟩, _⟩ := cells6 hF
  refine Lib.hid ?_
  go_wp2_with (go_at_call 29; refine ch.mono ?_; rintro e w6 ⟨rfl, hbx⟩; refine Hid.out ?_)
  have hXn := blkKeep2 hbx hX
  have hYn := blkKeep2 hbx hY
  have hFn := blkKeep2 hbx hF
  have bwn : Below w.heap.size w w6 := bw.trans (hbx.mono bw.size)
  clear hbx hX hY hF bw sx0 sx1 dx0 dx1 f0 f1 f2 f3 f4 f5
  have hX := hXn
  have hY := hYn
  have hF := hFn
  have bw := bwn
  clear hXn hYn hFn bwn
  obtain ⟨sx0, sx1, _, _⟩ := cells2 hX
  obtain ⟨dx0, dx1, _, _⟩ := cells2 hY
  obtain ⟨⟨f0, f1, f2, f3, f4, f5⟩, _⟩ := cells6 hF
  clear ch
  refine Lib.hid ?_
  go_wp2_with (first | (go_at_call_of 31 (Value.int IntKind.i64 vp); refine (cA _).mono ?_; rintro e w' ⟨rfl, hw'⟩; subst hw') | (go_at_call_of 31 (Value.int IntKind.i64 ttl); refine (cB _).mono ?_; rintro e w' ⟨rfl, hw'⟩; subst hw') | (go_at_call 48; refine (cc _).mono ?_; rintro e w7 ⟨rfl, hbx⟩))
  go_ret2
  exact ⟨rfl, bw.trans (hbx.mono bw.size)⟩

set_option maxHeartbeats 4000000 in
set_option maxRecDepth 100000 in
theorem pk6_6 (A : Option Addr) (n c : Nat) (l : List UInt8) (sh sl dh dl : Nat) (vp ttl : Int) (h1 : sh < 18446744073709551616) (h2 : sl < 18446744073709551616) (h3 : dh < 18446744073709551616) (h4 : dl < 18446744073709551616) (hs4 : is4I (sh : Int) (sl : Int) = false) {w : World} (h : BytArg w A n c l) (hm : n ≤ 65536) (hd4 : is4I (dh : Int) (dl : Int) = false) (hp : byteP vp = true) (ht : byteP ttl = true) (hq : vp ≠ 44) (hk : carriesP true vp = true) (hz : 2048 < 40 + n) :
    Calls Try.prog 21 #[.agg #[.int .u64 (sh : Nat), .int .u64 (sl : Nat)], .agg #[.int .u64 (dh : Nat), .int .u64 (dl : Nat)], .int .i64 vp, .int .i64 ttl, .slice A n c] w fun e w' => e = .returned (.tuple #[.slice none 0 0, .int .i64 1]) ∧ Below w.heap.size w w' := by
  have ci := fun (W : World) => is4_any (sh : Int) (sl : Int) ⟨by omega, by omega⟩ ⟨by omega, by omega⟩ W
  rw [hs4] at ci
  have cf := fun (W : World) => fam_any true W
  have cA := fun (W : World) => isbyte_any vp W
  have cB := fun (W : World) => isbyte_any ttl W
  have cc := fun (W : World) => carries_any true vp W
  simp only [famCells, if_true, if_false, Bool.false_eq_true] at cf cc
  obtain ⟨N, hN⟩ : ∃ N, N = 40 + n := ⟨_, rfl⟩
  have wN : IntKind.i64.wrap (40 + (n : Int)) = (N : Int) := by rw [IntKind.wrap_i64]; omega
  have nI : (n : Int) ≤ 65536 := by omega
  have NI : (N : Int) ≤ 70000 := by omega
  have wa : Word (dh : Int) := ⟨by omega, by omega⟩
  have wb : Word (dl : Int) := ⟨by omega, by omega⟩
  clear hs4 h1 h2 h3 h4
  rw [hp] at cA
  rw [ht] at cB
  have q44 : (vp == 44) = false := by simp [hq]
  rw [hk] at cc
  have g1 : decide ((2048 : Int) < (N : Int)) = true := by simp; omega
  have g2 : (2048 : Int) < (N : Int) := by omega
  have g3 : decide (2048 < N) = true := by simp; omega
  clear h hN
  go_enter Try.func21, Try.ntmps21
  go_wp2_with (with_reducible refine stop_op (o := ⟨some 15, _, _, _, _, _⟩) ?_)
  obtain ⟨w1, hw1⟩ : ∃ x, x = (w.alloc (.cells #[.int .u64 (sh : Nat), .int .u64 (sl : Nat)] 25)).alloc (.cells #[.int .u64 (dh : Nat), .int .u64 (dl : Nat)] 25) := ⟨_, rfl⟩
  have hX : w1.heap[w.heap.size]? = some (.cells #[.int .u64 (sh : Nat), .int .u64 (sl : Nat)] 25 (0, 0)) := by rw [hw1, al_oldw (by simp)]; exact al_neww rfl _
  have hY : w1.heap[w.heap.size + 1]? = some (.cells #[.int .u64 (dh : Nat), .int .u64 (dl : Nat)] 25 (0, 0)) := by rw [hw1]; exact al_neww (by simp) _
  have bw : Below w.heap.size w w1 := by rw [hw1]; exact Below.al (Below.al (Below.refl _ _) _) _
  rw [← hw1]
  clear hw1
  obtain ⟨sx0, sx1, _, _⟩ := cells2 hX
  obtain ⟨dx0, dx1, _, _⟩ := cells2 hY
  refine Lib.hid ?_
  go_wp2_with (go_at_call 59; refine (ci _).mono ?_; rintro e w2 ⟨rfl, hb2⟩; refine Hid.out ?_)
  have hX2 := blkKeep2 hb2 hX
  have hY2 := blkKeep2 hb2 hY
  have b2 : Below w.heap.size w w2 := bw.trans (hb2.mono bw.size)
  clear hb2 hX hY bw sx0 sx1 dx0 dx1 ci
  refine Lib.hid ?_
  go_wp2_with (go_at_call 28; refine (cf _).mono ?_; rintro e w3 ⟨rfl, hb3⟩; refine Hid.out ?_)
  have hX3 := blkKeep2 hb3 hX2
  have hY3 := blkKeep2 hb3 hY2
  have b3 : Below w.heap.size w w3 := b2.trans (hb3.mono b2.size)
  clear hb3 hX2 hY2 b2 cf
  refine Lib.hid ?_
  go_wp2_with (with_reducible refine stop_op (o := ⟨some 19, _, _, _, _, _⟩) ?_)
  obtain ⟨w4, hw4⟩ : ∃ x, x = w3.alloc (.cells #[.bool true, .int .i64 40, .int .i64 7, .int .i64 6, .int .i64 8, .int .i64 16] 69) := ⟨_, rfl⟩
  have hF : w4.heap[w3.heap.size]? = some (.cells #[.bool true, .int .i64 40, .int .i64 7, .int .i64 6, .int .i64 8, .int .i64 16] 69 (0, 0)) := by rw [hw4]; exact al_neww rfl _
  have hb4 : Below w3.heap.size w3 w4 := by rw [hw4]; exact Below.al (Below.refl _ _) _
  have hX := blkKeep2 hb4 hX3
  have hY := blkKeep2 hb4 hY3
  have bw : Below w.heap.size w w4 := b3.trans (hb4.mono b3.size)
  rw [← hw4]
  clear hw4 hb4 hX3 hY3 b3
  obtain ⟨sx0, sx1, _, _⟩ := cells2 hX
  obtain ⟨dx0, dx1, _, _⟩ := cells2 hY
  obtain ⟨⟨f0, f1, f2, f3, f4, f5⟩, _⟩ := cells6 hF
  refine Lib.hid ?_
  go_wp2_with (with_reducible refine stop_op (o := ⟨some 27, _, _, _, _, _⟩) ?_)
  obtain ⟨w5, hw5⟩ : ∃ x, x = w4.alloc (.cells #[.int .u64 (dh : Nat), .int .u64 (dl : Nat)] 25) := ⟨_, rfl⟩
  have hL5 : w5.heap[w4.heap.size]? = some (.cells #[.int .u64 (dh : Nat), .int .u64 (dl : Nat)] 25 (0, 0)) := by rw [hw5]; exact al_neww rfl _
  have hA5 : AdrsAt w5 w4.heap.size 0 [((dh : Int), (dl : Int))] := by
    obtain ⟨a0, a1, _, _⟩ := cells2 hL5
    intro k a h
    match k, h with
    | 0, h => obtain rfl : _ = a := by simpa using h
              exact ⟨a0, a1, wa, wb⟩
    | k + 1, h => simp at h
  have ch := has_any true w4.heap.size 0 1 1 _ rfl (by omega) hA5
  rw [show hasP true [((dh : Int), (dl : Int))] = true by simp [hasP, hd4]] at ch
  simp only [famCells, if_true, if_false, Bool.false_eq_true] at ch
  have hbx : Below w4.heap.size w4 w5 := by rw [hw5]; exact Below.al (Below.refl _ _) _
  rw [← hw5]
  clear hw5 hA5 hL5
  have hXn := blkKeep2 hbx hX
  have hYn := blkKeep2 hbx hY
  have hFn := blkKeep2 hbx hF
  have bwn : Below w.heap.size w w5 := bw.trans (hbx.mono bw.size)
  clear hbx hX hY hF bw sx0 sx1 dx0 dx1 f0 f1 f2 f3 f4 f5
  have hX := hXn
  have hY := hYn
  have hF := hFn
  have bw := bwn
  clear hXn hYn hFn bwn
  obtain ⟨sx0, sx1, _, _⟩ := cells2 hX
  obtain ⟨dx0, dx1, _, _⟩ := cells2 hY
  obtain ⟨⟨f0, f1, f2, f3, f4, f5⟩, _⟩ := cells6 hF
  refine Lib.hid ?_
  go_wp2_with (go_at_call 29; refine ch.mono ?_; rintro e w6 ⟨rfl, hbx⟩; refine Hid.out ?_)
  have hXn := blkKeep2 hbx hX
  have hYn := blkKeep2 hbx hY
  have hFn := blkKeep2 hbx hF
  have bwn : Below w.heap.size w w6 := bw.trans (hbx.mono bw.size)
  clear hbx hX hY hF bw sx0 sx1 dx0 dx1 f0 f1 f2 f3 f4 f5
  have hX := hXn
  have hY := hYn
  have hF := hFn
  have bw := bwn
  clear hXn hYn hFn bwn
  obtain ⟨sx0, sx1, _, _⟩ := cells2 hX
  obtain ⟨dx0, dx1, _, _⟩ := cells2 hY
  obtain ⟨⟨f0, f1, f2, f3, f4, f5⟩, _⟩ := cells6 hF
  clear ch
  refine Lib.hid ?_
  go_wp2_with (first | (go_at_call_of 31 (Value.int IntKind.i64 vp); refine (cA _).mono ?_; rintro e w' ⟨rfl, hw'⟩; subst hw') | (go_at_call_of 31 (Value.int IntKind.i64 ttl); refine (cB _).mono ?_; rintro e w' ⟨rfl, hw'⟩; subst hw') | (go_at_call 48; refine (cc _).mono ?_; rintro e w7 ⟨rfl, hbx⟩))
  go_ret2
  exact ⟨rfl, bw.trans (hbx.mono bw.size)⟩
end Go.Proofs.Ytpmbdjdhgcjkfaa

namespace Go.Proofs.Ytpmbdjdhgcjkfaa
open Go.RowKit Go.Sort
set_option linter.unusedVariables false
set_option linter.unusedSimpArgs false


set_option maxHeartbeats 4000000 in
set_option maxRecDepth 100000 in
theorem pk4_ok (A : Option Addr) (n c : Nat) (l : List UInt8) (sh sl dh dl : Nat) (vp ttl : Int) (h1 : sh < 18446744073709551616) (h2 : sl < 18446744073709551616) (h3 : dh < 18446744073709551616) (h4 : dl < 18446744073709551616) (hs4 : is4I (sh : Int) (sl : Int) = true) {w : World} (h : BytArg w A n c l) (hm : n ≤ 65536) (hd4 : is4I (dh : Int) (dl : Int) = true) (hp : byteP vp = true) (ht : byteP ttl = true) (hq : vp ≠ 44) (hk : carriesP false vp = true) (hz : ¬ 2048 < 20 + n) :
    Calls Try.prog 21 #[.agg #[.int .u64 (sh : Nat), .int .u64 (sl : Nat)], .agg #[.int .u64 (dh : Nat), .int .u64 (dl : Nat)], .int .i64 vp, .int .i64 ttl, .slice A n c] w fun e w' => ∃ B, e = .returned (.tuple #[.slice (some ⟨B, 0, none⟩) (20 + n : Nat) (20 + n : Nat), .int .i64 0]) ∧ BytArg w' (some ⟨B, 0, none⟩) (20 + n) (20 + n) (hdr4 vp ttl (20 + n) (beB 4 sl ++ beB 4 dl) ++ setB (vPk vp sh sl dh dl) l) ∧ w.heap.size ≤ B ∧ Below w.heap.size w w' := by
  have ci := fun (W : World) => is4_any (sh : Int) (sl : Int) ⟨by omega, by omega⟩ ⟨by omega, by omega⟩ W
  rw [hs4] at ci
  have cf := fun (W : World) => fam_any false W
  have cA := fun (W : World) => isbyte_any vp W
  have cB := fun (W : World) => isbyte_any ttl W
  have cc := fun (W : World) => carries_any false vp W
  simp only [famCells, if_true, if_false, Bool.false_eq_true] at cf cc
  obtain ⟨N, hN⟩ : ∃ N, N = 20 + n := ⟨_, rfl⟩
  have wN : IntKind.i64.wrap (20 + (n : Int)) = (N : Int) := by rw [IntKind.wrap_i64]; omega
  have nI : (n : Int) ≤ 65536 := by omega
  have NI : (N : Int) ≤ 70000 := by omega
  have wa : Word (dh : Int) := ⟨by omega, by omega⟩
  have wb : Word (dl : Int) := ⟨by omega, by omega⟩
  have hv : VOk (vPk vp sh sl dh dl) := by
    simp only [byteP, Bool.and_eq_true, decide_eq_true_eq] at hp
    exact ⟨hp.1, by simp only [vPk]; omega, ⟨by simp only [vPk]; omega, by simp only [vPk]; omega⟩, ⟨by simp only [vPk]; omega, by simp only [vPk]; omega⟩, wa, wb, by simp only [vPk]; rw [hs4, hd4]⟩
  rw [hp] at cA
  rw [ht] at cB
  have q44 : (vp == 44) = false := by simp [hq]
  rw [hk] at cc
  have g1 : decide ((2048 : Int) < (N : Int)) = false := by simp; omega
  have g2 : ¬ (2048 : Int) < (N : Int) := by omega
  have g3 : decide (2048 < N) = false := by simp; omega
  have N20 : 20 ≤ N := by omega
  have NB : N ≤ 2048 := by omega
  have mk := make_run N (by omega)
  have eT : IntKind.u8.wrap ttl = ((loB ttl).toNat : Int) := by rw [IntKind.wrap_u8, loB_val]
  have eP : IntKind.u8.wrap vp = ((loB vp).toNat : Int) := by rw [IntKind.wrap_u8, loB_val]
  have wU : IntKind.u64.wrap (N : Int) = (N : Int) := by rw [IntKind.wrap_u64]; omega
  have wn : IntKind.u64.wrap (n : Int) = (n : Int) := by rw [IntKind.wrap_u64]; omega
  rw [← hN]
  have j0 : (0 : Int) < (N : Int) := by omega
  have j6 : (6 : Int) < (N : Int) := by omega
  have j7 : (7 : Int) < (N : Int) := by omega
  have j8 : (8 : Int) < (N : Int) := by omega
  have j9 : (9 : Int) < (N : Int) := by omega
  have k0 : 0 < N := by omega
  have k6 : 6 < N := by omega
  have k7 : 7 < N := by omega
  have k8 : 8 < N := by omega
  have k9 : 9 < N := by omega
  have HA := Lib.hid h
  have HN := Lib.hid hN
  have HV := Lib.hid hv
  have HB := Lib.hid (show sh < 18446744073709551616 ∧ sl < 18446744073709551616 ∧ dh < 18446744073709551616 ∧ dl < 18446744073709551616 from ⟨h1, h2, h3, h4⟩)
  clear h hN hp ht hq hk hz hs4 hv h1 h2 h3 h4
  go_enter Try.func21, Try.ntmps21
  go_wp2_with (with_reducible refine stop_op (o := ⟨some 15, _, _, _, _, _⟩) ?_)
  obtain ⟨w1, hw1⟩ : ∃ x, x = (w.alloc (.cells #[.int .u64 (sh : Nat), .int .u64 (sl : Nat)] 25)).alloc (.cells #[.int .u64 (dh : Nat), .int .u64 (dl : Nat)] 25) := ⟨_, rfl⟩
  have hX : w1.heap[w.heap.size]? = some (.cells #[.int .u64 (sh : Nat), .int .u64 (sl : Nat)] 25 (0, 0)) := by rw [hw1, al_oldw (by simp)]; exact al_neww rfl _
  have hY : w1.heap[w.heap.size + 1]? = some (.cells #[.int .u64 (dh : Nat), .int .u64 (dl : Nat)] 25 (0, 0)) := by rw [hw1]; exact al_neww (by simp) _
  have bw : Below w.heap.size w w1 := by rw [hw1]; exact Below.al (Below.al (Below.refl _ _) _) _
  rw [← hw1]
  clear hw1
  obtain ⟨sx0, sx1, _, _⟩ := cells2 hX
  obtain ⟨dx0, dx1, _, _⟩ := cells2 hY
  refine Lib.hid ?_
  go_wp2_with (go_at_call 59; refine (ci _).mono ?_; rintro e w2 ⟨rfl, hb2⟩; refine Hid.out ?_)
  have hX2 := blkKeep2 hb2 hX
  have hY2 := blkKeep2 hb2 hY
  have b2 : Below w.heap.size w w2 := bw.trans (hb2.mono bw.size)
  clear hb2 hX hY bw sx0 sx1 dx0 dx1 ci
  refine Lib.hid ?_
  go_wp2_with (go_at_call 28; refine (cf _).mono ?_; rintro e w3 ⟨rfl, hb3⟩; refine Hid.out ?_)
  have hX3 := blkKeep2 hb3 hX2
  have hY3 := blkKeep2 hb3 hY2
  have b3 : Below w.heap.size w w3 := b2.trans (hb3.mono b2.size)
  clear hb3 hX2 hY2 b2 cf
  refine Lib.hid ?_
  go_wp2_with (with_reducible refine stop_op (o := ⟨some 19, _, _, _, _, _⟩) ?_)
  obtain ⟨w4, hw4⟩ : ∃ x, x = w3.alloc (.cells #[.bool false, .int .i64 20, .int .i64 8, .int .i64 9, .int .i64 12, .int .i64 4] 69) := ⟨_, rfl⟩
  have hF : w4.heap[w3.heap.size]? = some (.cells #[.bool false, .int .i64 20, .int .i64 8, .int .i64 9, .int .i64 12, .int .i64 4] 69 (0, 0)) := by rw [hw4]; exact al_neww rfl _
  have hb4 : Below w3.heap.size w3 w4 := by rw [hw4]; exact Below.al (Below.refl _ _) _
  have hX := blkKeep2 hb4 hX3
  have hY := blkKeep2 hb4 hY3
  have bw : Below w.heap.size w w4 := b3.trans (hb4.mono b3.size)
  rw [← hw4]
  clear hw4 hb4 hX3 hY3 b3
  obtain ⟨sx0, sx1, _, _⟩ := cells2 hX
  obtain ⟨dx0, dx1, _, _⟩ := cells2 hY
  obtain ⟨⟨f0, f1, f2, f3, f4, f5⟩, _⟩ := cells6 hF
  refine Lib.hid ?_
  go_wp2_with (with_reducible refine stop_op (o := ⟨some 27, _, _, _, _, _⟩) ?_)
  obtain ⟨w5, hw5⟩ : ∃ x, x = w4.alloc (.cells #[.int .u64 (dh : Nat), .int .u64 (dl : Nat)] 25) := ⟨_, rfl⟩
  have hL5 : w5.heap[w4.heap.size]? = some (.cells #[.int .u64 (dh : Nat), .int .u64 (dl : Nat)] 25 (0, 0)) := by rw [hw5]; exact al_neww rfl _
  have hA5 : AdrsAt w5 w4.heap.size 0 [((dh : Int), (dl : Int))] := by
    obtain ⟨a0, a1, _, _⟩ := cells2 hL5
    intro k a h
    match k, h with
    | 0, h => obtain rfl : _ = a := by simpa using h
              exact ⟨a0, a1, wa, wb⟩
    | k + 1, h => simp at h
  have ch := has_any false w4.heap.size 0 1 1 _ rfl (by omega) hA5
  rw [show hasP false [((dh : Int), (dl : Int))] = true by simp [hasP, hd4]] at ch
  simp only [famCells, if_true, if_false, Bool.false_eq_true] at ch
  have hbx : Below w4.heap.size w4 w5 := by rw [hw5]; exact Below.al (Below.refl _ _) _
  rw [← hw5]
  clear hw5 hA5 hL5
  have hXn := blkKeep2 hbx hX
  have hYn := blkKeep2 hbx hY
  have hFn := blkKeep2 hbx hF
  have bwn : Below w.heap.size w w5 := bw.trans (hbx.mono bw.size)
  clear hbx hX hY hF bw sx0 sx1 dx0 dx1 f0 f1 f2 f3 f4 f5
  have hX := hXn
  have hY := hYn
  have hF := hFn
  have bw := bwn
  clear hXn hYn hFn bwn
  obtain ⟨sx0, sx1, _, _⟩ := cells2 hX
  obtain ⟨dx0, dx1, _, _⟩ := cells2 hY
  obtain ⟨⟨f0, f1, f2, f3, f4, f5⟩, _⟩ := cells6 hF
  refine Lib.hid ?_
  go_wp2_with (go_at_call 29; refine ch.mono ?_; rintro e w6 ⟨rfl, hbx⟩; refine Hid.out ?_)
  have hXn := blkKeep2 hbx hX
  have hYn := blkKeep2 hbx hY
  have hFn := blkKeep2 hbx hF
  have bwn : Below w.heap.size w w6 := bw.trans (hbx.mono bw.size)
  clear hbx hX hY hF bw sx0 sx1 dx0 dx1 f0 f1 f2 f3 f4 f5
  have hX := hXn
  have hY := hYn
  have hF := hFn
  have bw := bwn
  clear hXn hYn hFn bwn
  obtain ⟨sx0, sx1, _, _⟩ := cells2 hX
  obtain ⟨dx0, dx1, _, _⟩ := cells2 hY
  obtain ⟨⟨f0, f1, f2, f3, f4, f5⟩, _⟩ := cells6 hF
  clear ch
  refine Lib.hid ?_
  go_wp2_with (first | (go_at_call_of 31 (Value.int IntKind.i64 vp); refine (cA _).mono ?_; rintro e w' ⟨rfl, hw'⟩; subst hw') | (go_at_call_of 31 (Value.int IntKind.i64 ttl); refine (cB _).mono ?_; rintro e w' ⟨rfl, hw'⟩; subst hw') | (go_at_call 48; refine (cc _).mono ?_; rintro e w7 ⟨rfl, hbx⟩; refine Hid.out ?_))
  have hXn := blkKeep2 hbx hX
  have hYn := blkKeep2 hbx hY
  have hFn := blkKeep2 hbx hF
  have bwn : Below w.heap.size w w7 := bw.trans (hbx.mono bw.size)
  clear hbx hX hY hF bw sx0 sx1 dx0 dx1 f0 f1 f2 f3 f4 f5
  have hX := hXn
  have hY := hYn
  have hF := hFn
  have bw := bwn
  clear hXn hYn hFn bwn
  obtain ⟨sx0, sx1, _, _⟩ := cells2 hX
  obtain ⟨dx0, dx1, _, _⟩ := cells2 hY
  obtain ⟨⟨f0, f1, f2, f3, f4, f5⟩, _⟩ := cells6 hF
  clear cA cB cc
  refine Lib.hid ?_
  go_wp2_with (with_reducible refine stop_op (o := ⟨some 55, _, _, _, _, _⟩) ?_)
  obtain ⟨w8, hw8⟩ : ∃ x, x = w7.alloc (.cells (bc (List.replicate N 0)).toArray 5) := ⟨_, rfl⟩
  have R0 : Row w8 w7.heap.size ([] ++ Zs N) := by rw [hw8]; exact Row.new w7 _
  have hbx : Below w7.heap.size w7 w8 := by rw [hw8]; exact Below.al (Below.refl _ _) _
  first | rw [← hw8] | (simp only [List.replicate] at hw8; rw [← hw8])
  clear hw8 mk
  obtain ⟨B, hB⟩ : ∃ B, B = w7.heap.size := ⟨_, rfl⟩
  have hLT : w.heap.size < B ∧ w.heap.size + 1 < B ∧ w3.heap.size < B := by
    rw [hB]; exact ⟨(Array.getElem?_eq_some_iff.1 hX).1, (Array.getElem?_eq_some_iff.1 hY).1, (Array.getElem?_eq_some_iff.1 hF).1⟩
  have hBl : w.heap.size ≤ B := by omega
  have hXn := blkKeep2 hbx hX
  have hYn := blkKeep2 hbx hY
  have hFn := blkKeep2 hbx hF
  have bwn : Below w.heap.size w w8 := bw.trans (hbx.mono bw.size)
  clear hbx hX hY hF bw sx0 sx1 dx0 dx1 f0 f1 f2 f3 f4 f5
  have hX := hXn
  have hY := hYn
  have hF := hFn
  have bw := bwn
  clear hXn hYn hFn bwn
  obtain ⟨sx0, sx1, _, _⟩ := cells2 hX
  obtain ⟨dx0, dx1, _, _⟩ := cells2 hY
  obtain ⟨⟨f0, f1, f2, f3, f4, f5⟩, _⟩ := cells6 hF
  rw [← hB] at R0 ⊢
  clear hB
  have HLT := Lib.hid hLT
  have HX := Lib.hid hX
  have HY := Lib.hid hY
  have HF := Lib.hid hF
  have HW8 := Lib.hid bw
  clear hLT hX hY hF bw sx0 sx1 dx0 dx1 f0 f1 f2 f3 f4 f5
  have bk : Below B w8 w8 := Below.refl _ _
  obtain ⟨x0, hx0⟩ : ∃ x, x = w8 := ⟨_, rfl⟩
  rw [← hx0] at R0 ⊢
  have bkn : Below B w8 x0 := by rw [hx0]; exact bk
  clear hx0 bk
  have bk := bkn
  clear bkn
  have fz := R0.frozen 0
  obtain ⟨⟨uu, cz⟩, _⟩ := R0.room (o := 0) (m := 1) (by simp only [List.nil_append, List.length_append, beB_len, Zs_len, List.length_singleton]; omega) 0 (by omega)
  have hX := (bk.block _ HLT.out.1).trans HX.out
  have hY := (bk.block _ HLT.out.2.1).trans HY.out
  have hF := (bk.block _ HLT.out.2.2).trans HF.out
  obtain ⟨sx0, sx1, _, _⟩ := cells2 hX
  obtain ⟨dx0, dx1, _, _⟩ := cells2 hY
  obtain ⟨⟨f0, f1, f2, f3, f4, f5⟩, _⟩ := cells6 hF
  refine Lib.hid ?_
  go_wp2_with (with_reducible refine stop_op (o := ⟨some 68, _, _, _, _, _⟩) ?_)
  obtain ⟨x1, hwn⟩ : ∃ x, x = x0.setCell ⟨B, 0, none⟩ (.int .u8 69) := ⟨_, rfl⟩
  have R1 := R0.sz (69 : UInt8) (o := 0) (m := N - 1) (by omega) (by simp [beB_len, Zs_len])
  first | rw [← hwn] at R1 | rw [show (((69 : UInt8).toNat : Nat) : Int) = 69 from rfl, ← hwn] at R1
  have bkn : Below B w8 x1 := by rw [hwn]; exact below_set bk (Nat.le_refl _) 0 _
  rw [← hwn]
  clear hwn R0 bk fz cz
  clear hX hY hF sx0 sx1 dx0 dx1 f0 f1 f2 f3 f4 f5
  have bk := bkn
  clear bkn
  have R1' := R1.pz (k := 1) (m := N - 2) (by omega)
  have s2 : ∀ W, (Instr.slice 22 (.slice (some ⟨B, 0, none⟩) N N) (some (.int .i64 2)) (some (.int .i64 4)) none).run Try.prog W = .ok (.slice (some ⟨B, 2, none⟩) 2 (N - 2)) W := by have := cut_lh B 0 N N 2 4 (by omega) (by omega) (by omega) (by omega); simpa using this
  have cp := put_any B 2 (N - 2) 2 N (by omega) (by omega) (by omega) (by omega) (R1'.room (by simp only [List.nil_append, List.length_append, beB_len, Zs_len, List.length_singleton]; omega))
  refine Lib.hid ?_
  go_wp2_with (go_at_call 60; refine cp.mono ?_; rintro e x2 ⟨rfl, hW⟩; refine Hid.out ?_)
  have R2' := R1'.wz hW.wr (k := 2) (m := N - 4) (by omega) (by simp [Zs_len]) (by simp [beB_len])
  have bkn := hW.wr.bel bk (Nat.le_refl _) R1.lt
  clear cp hW R1 R1' s2 bk
  have bk := bkn
  clear bkn
  have R2 := R2'.pz (k := 2) (m := N - 6) (by omega)
  clear R2'
  have fz := R2.frozen 6
  obtain ⟨⟨uu, cz⟩, _⟩ := R2.room (o := 6) (m := 1) (by simp only [List.nil_append, List.length_append, beB_len, Zs_len, List.length_singleton]; omega) 0 (by omega)
  have hX := (bk.block _ HLT.out.1).trans HX.out
  have hY := (bk.block _ HLT.out.2.1).trans HY.out
  have hF := (bk.block _ HLT.out.2.2).trans HF.out
  obtain ⟨sx0, sx1, _, _⟩ := cells2 hX
  obtain ⟨dx0, dx1, _, _⟩ := cells2 hY
  obtain ⟨⟨f0, f1, f2, f3, f4, f5⟩, _⟩ := cells6 hF
  refine Lib.hid ?_
  go_wp2_with (with_reducible refine stop_op (o := ⟨some 75, _, _, _, _, _⟩) ?_)
  obtain ⟨x3, hwn⟩ : ∃ x, x = x2.setCell ⟨B, 6, none⟩ (.int .u8 64) := ⟨_, rfl⟩
  have R3 := R2.sz (64 : UInt8) (o := 6) (m := N - 7) (by omega) (by simp [beB_len, Zs_len])
  first | rw [← hwn] at R3 | rw [show (((64 : UInt8).toNat : Nat) : Int) = 64 from rfl, ← hwn] at R3
  have bkn : Below B w8 x3 := by rw [hwn]; exact below_set bk (Nat.le_refl _) 6 _
  rw [← hwn]
  clear hwn R2 bk fz cz
  clear hX hY hF sx0 sx1 dx0 dx1 f0 f1 f2 f3 f4 f5
  have bk := bkn
  clear bkn
  have R3' := R3.pz (k := 1) (m := N - 8) (by omega)
  have fz1 := R3'.frozen 8
  have fz2 := R3'.frozen 9
  obtain ⟨⟨uu1, cz1⟩, _⟩ := R3'.room (o := 8) (m := 1) (by simp only [List.nil_append, List.length_append, beB_len, Zs_len, List.length_singleton]; omega) 0 (by omega)
  obtain ⟨⟨uu2, cz2⟩, _⟩ := R3'.room (o := 9) (m := 1) (by simp only [List.nil_append, List.length_append, beB_len, Zs_len, List.length_singleton]; omega) 0 (by omega)
  have hX := (bk.block _ HLT.out.1).trans HX.out
  have hY := (bk.block _ HLT.out.2.1).trans HY.out
  have hF := (bk.block _ HLT.out.2.2).trans HF.out
  obtain ⟨sx0, sx1, _, _⟩ := cells2 hX
  obtain ⟨dx0, dx1, _, _⟩ := cells2 hY
  obtain ⟨⟨f0, f1, f2, f3, f4, f5⟩, _⟩ := cells6 hF
  have hne : B ≠ w3.heap.size := by have := HLT.out; omega
  go_region
  clear fz1 fz2 cz1 cz2 hne
  clear hX hY hF sx0 sx1 dx0 dx1 f0 f1 f2 f3 f4 f5
  obtain ⟨x5, hwn⟩ : ∃ x, x = ((x3.setCell ⟨B, 8, none⟩ (.int .u8 ((loB ttl).toNat : Nat))).setCell ⟨B, 9, none⟩ (.int .u8 ((loB vp).toNat : Nat))).drew := ⟨_, rfl⟩
  have R5a := (R3'.sz (loB ttl) (o := 8) (m := N - 9) (by omega) (by simp [beB_len, Zs_len])).sz (loB vp) (o := 9) (m := N - 10) (by omega) (by simp [beB_len, Zs_len])
  have R5 : Row x5 B (top4 vp ttl N ++ Zs (N - 10)) := by rw [hwn]; exact R5a
  clear R5a R3 R3'
  have bkn : Below B w8 x5 := by rw [hwn]; exact Below.dr (below_set (below_set bk (Nat.le_refl _) 8 _) (Nat.le_refl _) 9 _)
  rw [← hwn]
  clear hwn bk
  have bk := bkn
  clear bkn
  have R6 := ((R5.pz (k := 2) (m := N - 12) (by omega)).pz (k := 4) (m := N - 16) (by omega)).pz (k := 4) (m := n) (by have := HN.out; omega)
  have cs := setaddr4 B N sh sl dh dl (top4 vp ttl N) (Zs 2) (Zs 4) (Zs 4) (Zs n) HB.out.1 HB.out.2.1 HB.out.2.2.1 HB.out.2.2.2 (top4_len _ _ _) (Zs_len _) (Zs_len _) (Zs_len _) (by rw [Zs_len]; exact HN.out) (by omega) R6
  have hX := (bk.block _ HLT.out.1).trans HX.out
  have hY := (bk.block _ HLT.out.2.1).trans HY.out
  have hF := (bk.block _ HLT.out.2.2).trans HF.out
  obtain ⟨sx0, sx1, _, _⟩ := cells2 hX
  obtain ⟨dx0, dx1, _, _⟩ := cells2 hY
  obtain ⟨⟨f0, f1, f2, f3, f4, f5⟩, _⟩ := cells6 hF
  simp only [famCells, if_true, if_false, Bool.false_eq_true] at cs
  clear R5
  go_wp2_with (go_at_call 61; refine cs.mono ?_; rintro e x6 ⟨rfl, hR, hK⟩; refine Hid.out ?_)
  have bkn := hK B w8 bk (Nat.le_refl _)
  clear cs R6 hK bk
  clear hX hY hF sx0 sx1 dx0 dx1 f0 f1 f2 f3 f4 f5
  have bk := bkn
  clear bkn
  have HR6 : Hid (Row x6 B (hdr4 vp ttl N (beB 4 sl ++ beB 4 dl) ++ Zs n)) := Lib.hid (by have := hR; simpa [hdr4, hdr6, List.append_assoc] using this)
  have HDl : (hdr4 vp ttl N (beB 4 sl ++ beB 4 dl)).length = 20 := (by unfold hdr4; simp [top4_len, beB_len])
  clear hR
  obtain ⟨HDR, hHDR⟩ : ∃ x, x = hdr4 vp ttl N (beB 4 sl ++ beB 4 dl) := ⟨_, rfl⟩
  rw [← hHDR] at HR6 HDl
  have HH := Lib.hid hHDR
  clear hHDR
  have HDL := Lib.hid HDl
  clear HDl
  obtain ⟨D, s20', hD⟩ := cut_end2 B N 20 (by omega) (by omega)
  rw [show N - 20 = n by have := HN.out; omega] at s20' hD
  have s20 : ∀ W, (Instr.slice 22 (.slice (some ⟨B, 0, none⟩) N N) (some (.int .i64 20)) none none).run Try.prog W = .ok (.slice (some ⟨B, D, none⟩) n n) W := s20'
  have HD := Lib.hid hD
  clear s20' hD
  have hA6 := HA.out.below (HW8.out.trans (bk.mono hBl))
  have hX := (bk.block _ HLT.out.1).trans HX.out
  have hY := (bk.block _ HLT.out.2.1).trans HY.out
  have hF := (bk.block _ HLT.out.2.2).trans HF.out
  obtain ⟨sx0, sx1, _, _⟩ := cells2 hX
  obtain ⟨dx0, dx1, _, _⟩ := cells2 hY
  obtain ⟨⟨f0, f1, f2, f3, f4, f5⟩, _⟩ := cells6 hF
  refine Lib.hid ?_
  go_wp2_with (with_reducible refine stop_op (o := ⟨some 97, _, _, _, _, _⟩) ?_)
  refine Lib.hid ?_
  refine wpList_copy_splice rfl _ _ 22 22 rfl 5 Try.underlying22 elem8 (some ⟨B, D, none⟩) A n n n c rfl rfl B 20 _ 5 HR6.out (bc l) (by rw [bc_len, hA6.1]; simp) ?k1 ?k2 (bc_one _) B w8 bk (Nat.le_refl _) ?k3
  case k1 =>
    intro h0
    rw [bc_len, hA6.1] at h0
    obtain ⟨g, o, rfl, hb⟩ := hA6.2.2.2 h0
    exact ⟨by rw [HD.out h0], _, rfl, fun j u hj => hb.newsO j u hj⟩
  case k2 =>
    rw [bc_len, bc_len, hA6.1, List.length_append, HDL.out, Zs_len]
    omega
  case k3 =>
    intro x7 HG bkn
    have G := HG.out
    rw [splice_bc _ _ _ _ HDL.out (by rw [Zs_len, hA6.1])] at G
    have hl := hA6.1
    have R7 : Row x7 B (HDR ++ l) := G
    clear HG HR6 bk hA6 G
    clear hX hY hF sx0 sx1 dx0 dx1 f0 f1 f2 f3 f4 f5
    have bk := bkn
    clear bkn
    have hB7 : BytArg x7.drew (some ⟨B, D, none⟩) n n l := ⟨hl, Nat.le_refl _, by unfold maxLen; have := HN.out; omega, fun h0 => ⟨B, D, rfl, by
      have hb := R7.byt
      have := hb.sub 20 n
      rw [Nat.zero_add, ← HDL.out, List.drop_left, List.take_of_length_le (by omega), HDL.out, ← HD.out h0] at this
      exact this⟩⟩
    have cs := setbody_any (some ⟨B, D, none⟩) n n l _ HV.out hB7 (fun g o e h0 => by
      cases e
      rw [HD.out h0]
      have := R7.room (o := 20) (m := n) (by rw [List.length_append, HDL.out]; omega)
      exact this) (by have := HN.out; omega)
    simp only [vcells, vPk, zvw] at cs
    have hX := (bk.block _ HLT.out.1).trans HX.out
    have hY := (bk.block _ HLT.out.2.1).trans HY.out
    have hF := (bk.block _ HLT.out.2.2).trans HF.out
    obtain ⟨sx0, sx1, _, _⟩ := cells2 hX
    obtain ⟨dx0, dx1, _, _⟩ := cells2 hY
    obtain ⟨⟨f0, f1, f2, f3, f4, f5⟩, _⟩ := cells6 hF
    go_wp2_with fail
    refine wp_region_still_tail 8 (by kernel_rfl) (by kernel_rfl) ?_
    simp only [List.take_succ_cons, List.take_zero, List.drop_succ_cons, List.drop_zero]
    repeat still_step
    try refine wpStill_nil ?_
    change wpList _ _ _ _ _ x7.drew
    have HR7 : Hid (Row x7.drew B (HDR ++ l)) := Lib.hid R7
    have bkn : Below B w8 x7.drew := Below.dr bk
    clear R7 bk hB7 hX hY hF sx0 sx1 dx0 dx1 f0 f1 f2 f3 f4 f5
    generalize x7.drew = x8 at *
    go_wp2_with (go_at_call 38; refine cs.mono ?_; rintro e x9 ⟨rfl, hS⟩; have HS := Lib.hid hS; clear hS)
    go_ret2
    have hfin := setBy_byt HR7.out.byt HDL.out (fun h0 => by rw [HD.out (by omega)]) HS.out
    have bfin : Below B w8 x9 := by
      rcases HS.out with ⟨_, hb⟩ | ⟨g, o, i, bs, e1, hW, _, _⟩
      · exact bkn.trans (hb.mono (Nat.le_of_lt HR7.out.lt))
      · cases e1; exact hW.bel bkn (Nat.le_refl _) HR7.out.lt
    rw [HH.out] at hfin
    refine ⟨B, rfl, ⟨by rw [← HH.out, List.length_append, HDL.out, setB_len]; have := HN.out; omega, Nat.le_refl _, by unfold maxLen; omega, fun _ => ⟨B, 0, rfl, hfin⟩⟩, hBl, HW8.out.trans (bfin.mono hBl)⟩
end Go.Proofs.Ytpmbdjdhgcjkfaa

namespace Go.Proofs.Ytpmbdjdhgcjkfaa
open Go.RowKit Go.Sort
set_option linter.unusedVariables false
set_option linter.unusedSimpArgs false


set_option maxHeartbeats 4000000 in
set_option maxRecDepth 100000 in
theorem pk6_ok (A : Option Addr) (n c : Nat) (l : List UInt8) (sh sl dh dl : Nat) (vp ttl : Int) (h1 : sh < 18446744073709551616) (h2 : sl < 18446744073709551616) (h3 : dh < 18446744073709551616) (h4 : dl < 18446744073709551616) (hs4 : is4I (sh : Int) (sl : Int) = false) {w : World} (h : BytArg w A n c l) (hm : n ≤ 65536) (hd4 : is4I (dh : Int) (dl : Int) = false) (hp : byteP vp = true) (ht : byteP ttl = true) (hq : vp ≠ 44) (hk : carriesP true vp = true) (hz : ¬ 2048 < 40 + n) :
    Calls Try.prog 21 #[.agg #[.int .u64 (sh : Nat), .int .u64 (sl : Nat)], .agg #[.int .u64 (dh : Nat), .int .u64 (dl : Nat)], .int .i64 vp, .int .i64 ttl, .slice A n c] w fun e w' => ∃ B, e = .returned (.tuple #[.slice (some ⟨B, 0, none⟩) (40 + n : Nat) (40 + n : Nat), .int .i64 0]) ∧ BytArg w' (some ⟨B, 0, none⟩) (40 + n) (40 + n) (hdr6 vp ttl n ((beB 8 sh ++ beB 8 sl) ++ (beB 8 dh ++ beB 8 dl)) ++ setB (vPk vp sh sl dh dl) l) ∧ w.heap.size ≤ B ∧ Below w.heap.size w w' := by
  have ci := fun (W : World) => is4_any (sh : Int) (sl : Int) ⟨by omega, by omega⟩ ⟨by omega, by omega⟩ W
  rw [hs4] at ci
  have cf := fun (W : World) => fam_any true W
  have cA := fun (W : World) => isbyte_any vp W
  have cB := fun (W : World) => isbyte_any ttl W
  have cc := fun (W : World) => carries_any true vp W
  simp only [famCells, if_true, if_false, Bool.false_eq_true] at cf cc
  obtain ⟨N, hN⟩ : ∃ N, N = 40 + n := ⟨_, rfl⟩
  have wN : IntKind.i64.wrap (40 + (n : Int)) = (N : Int) := by rw [IntKind.wrap_i64]; omega
  have nI : (n : Int) ≤ 65536 := by omega
  have NI : (N : Int) ≤ 70000 := by omega
  have wa : Word (dh : Int) := ⟨by omega, by omega⟩
  have wb : Word (dl : Int) := ⟨by omega, by omega⟩
  have hv : VOk (vPk vp sh sl dh dl) := by
    simp only [byteP, Bool.and_eq_true, decide_eq_true_eq] at hp
    exact ⟨hp.1, by simp only [vPk]; omega, ⟨by simp only [vPk]; omega, by simp only [vPk]; omega⟩, ⟨by simp only [vPk]; omega, by simp only [vPk]; omega⟩, wa, wb, by simp only [vPk]; rw [hs4, hd4]⟩
  rw [hp] at cA
  rw [ht] at cB
  have q44 : (vp == 44) = false := by simp [hq]
  rw [hk] at cc
  have g1 : decide ((2048 : Int) < (N : Int)) = false := by simp; omega
  have g2 : ¬ (2048 : Int) < (N : Int) := by omega
  have g3 : decide (2048 < N) = false := by simp; omega
  have N20 : 40 ≤ N := by omega
  have NB : N ≤ 2048 := by omega
  have mk := make_run N (by omega)
  have eT : IntKind.u8.wrap ttl = ((loB ttl).toNat : Int) := by rw [IntKind.wrap_u8, loB_val]
  have eP : IntKind.u8.wrap vp = ((loB vp).toNat : Int) := by rw [IntKind.wrap_u8, loB_val]
  have wU : IntKind.u64.wrap (N : Int) = (N : Int) := by rw [IntKind.wrap_u64]; omega
  have wn : IntKind.u64.wrap (n : Int) = (n : Int) := by rw [IntKind.wrap_u64]; omega
  rw [← hN]
  have j0 : (0 : Int) < (N : Int) := by omega
  have j6 : (6 : Int) < (N : Int) := by omega
  have j7 : (7 : Int) < (N : Int) := by omega
  have j8 : (8 : Int) < (N : Int) := by omega
  have j9 : (9 : Int) < (N : Int) := by omega
  have k0 : 0 < N := by omega
  have k6 : 6 < N := by omega
  have k7 : 7 < N := by omega
  have k8 : 8 < N := by omega
  have k9 : 9 < N := by omega
  have HA := Lib.hid h
  have HN := Lib.hid hN
  have HV := Lib.hid hv
  have HB := Lib.hid (show sh < 18446744073709551616 ∧ sl < 18446744073709551616 ∧ dh < 18446744073709551616 ∧ dl < 18446744073709551616 from ⟨h1, h2, h3, h4⟩)
  clear h hN hp ht hq hk hz hs4 hv h1 h2 h3 h4
  go_enter Try.func21, Try.ntmps21
  go_wp2_with (with_reducible refine stop_op (o := ⟨some 15, _, _, _, _, _⟩) ?_)
  obtain ⟨w1, hw1⟩ : ∃ x, x = (w.alloc (.cells #[.int .u64 (sh : Nat), .int .u64 (sl : Nat)] 25)).alloc (.cells #[.int .u64 (dh : Nat), .int .u64 (dl : Nat)] 25) := ⟨_, rfl⟩
  have hX : w1.heap[w.heap.size]? = some (.cells #[.int .u64 (sh : Nat), .int .u64 (sl : Nat)] 25 (0, 0)) := by rw [hw1, al_oldw (by simp)]; exact al_neww rfl _
  have hY : w1.heap[w.heap.size + 1]? = some (.cells #[.int .u64 (dh : Nat), .int .u64 (dl : Nat)] 25 (0, 0)) := by rw [hw1]; exact al_neww (by simp) _
  have bw : Below w.heap.size w w1 := by rw [hw1]; exact Below.al (Below.al (Below.refl _ _) _) _
  rw [← hw1]
  clear hw1
  obtain ⟨sx0, sx1, _, _⟩ := cells2 hX
  obtain ⟨dx0, dx1, _, _⟩ := cells2 hY
  refine Lib.hid ?_
  go_wp2_with (go_at_call 59; refine (ci _).mono ?_; rintro e w2 ⟨rfl, hb2⟩; refine Hid.out ?_)
  have hX2 := blkKeep2 hb2 hX
  have hY2 := blkKeep2 hb2 hY
  have b2 : Below w.heap.size w w2 := bw.trans (hb2.mono bw.size)
  clear hb2 hX hY bw sx0 sx1 dx0 dx1 ci
  refine Lib.hid ?_
  go_wp2_with (go_at_call 28; refine (cf _).mono ?_; rintro e w3 ⟨rfl, hb3⟩; refine Hid.out ?_)
  have hX3 := blkKeep2 hb3 hX2
  have hY3 := blkKeep2 hb3 hY2
  have b3 : Below w.heap.size w w3 := b2.trans (hb3.mono b2.size)
  clear hb3 hX2 hY2 b2 cf
  refine Lib.hid ?_
  go_wp2_with (with_reducible refine stop_op (o := ⟨some 19, _, _, _, _, _⟩) ?_)
  obtain ⟨w4, hw4⟩ : ∃ x, x = w3.alloc (.cells #[.bool true, .int .i64 40, .int .i64 7, .int .i64 6, .int .i64 8, .int .i64 16] 69) := ⟨_, rfl⟩
  have hF : w4.heap[w3.heap.size]? = some (.cells #[.bool true, .int .i64 40, .int .i64 7, .int .i64 6, .int .i64 8, .int .i64 16] 69 (0, 0)) := by rw [hw4]; exact al_neww rfl _
  have hb4 : Below w3.heap.size w3 w4 := by rw [hw4]; exact Below.al (Below.refl _ _) _
  have hX := blkKeep2 hb4 hX3
  have hY := blkKeep2 hb4 hY3
  have bw : Below w.heap.size w w4 := b3.trans (hb4.mono b3.size)
  rw [← hw4]
  clear hw4 hb4 hX3 hY3 b3
  obtain ⟨sx0, sx1, _, _⟩ := cells2 hX
  obtain ⟨dx0, dx1, _, _⟩ := cells2 hY
  obtain ⟨⟨f0, f1, f2, f3, f4, f5⟩, _⟩ := cells6 hF
  refine Lib.hid ?_
  go_wp2_with (with_reducible refine stop_op (o := ⟨some 27, _, _, _, _, _⟩) ?_)
  obtain ⟨w5, hw5⟩ : ∃ x, x = w4.alloc (.cells #[.int .u64 (dh : Nat), .int .u64 (dl : Nat)] 25) := ⟨_, rfl⟩
  have hL5 : w5.heap[w4.heap.size]? = some (.cells #[.int .u64 (dh : Nat), .int .u64 (dl : Nat)] 25 (0, 0)) := by rw [hw5]; exact al_neww rfl _
  have hA5 : AdrsAt w5 w4.heap.size 0 [((dh : Int), (dl : Int))] := by
    obtain ⟨a0, a1, _, _⟩ := cells2 hL5
    intro k a h
    match k, h with
    | 0, h => obtain rfl : _ = a := by simpa using h
              exact ⟨a0, a1, wa, wb⟩
    | k + 1, h => simp at h
  have ch := has_any true w4.heap.size 0 1 1 _ rfl (by omega) hA5
  rw [show hasP true [((dh : Int), (dl : Int))] = true by simp [hasP, hd4]] at ch
  simp only [famCells, if_true, if_false, Bool.false_eq_true] at ch
  have hbx : Below w4.heap.size w4 w5 := by rw [hw5]; exact Below.al (Below.refl _ _) _
  rw [← hw5]
  clear hw5 hA5 hL5
  have hXn := blkKeep2 hbx hX
  have hYn := blkKeep2 hbx hY
  have hFn := blkKeep2 hbx hF
  have bwn : Below w.heap.size w w5 := bw.trans (hbx.mono bw.size)
  clear hbx hX hY hF bw sx0 sx1 dx0 dx1 f0 f1 f2 f3 f4 f5
  have hX := hXn
  have hY := hYn
  have hF := hFn
  have bw := bwn
  clear hXn hYn hFn bwn
  obtain ⟨sx0, sx1, _, _⟩ := cells2 hX
  obtain ⟨dx0, dx1, _, _⟩ := cells2 hY
  obtain ⟨⟨f0, f1, f2, f3, f4, f5⟩, _⟩ := cells6 hF
  refine Lib.hid ?_
  go_wp2_with (go_at_call 29; refine ch.mono ?_; rintro e w6 ⟨rfl, hbx⟩; refine Hid.out ?_)
  have hXn := blkKeep2 hbx hX
  have hYn := blkKeep2 hbx hY
  have hFn := blkKeep2 hbx hF
  have bwn : Below w.heap.size w w6 := bw.trans (hbx.mono bw.size)
  clear hbx hX hY hF bw sx0 sx1 dx0 dx1 f0 f1 f2 f3 f4 f5
  have hX := hXn
  have hY := hYn
  have hF := hFn
  have bw := bwn
  clear hXn hYn hFn bwn
  obtain ⟨sx0, sx1, _, _⟩ := cells2 hX
  obtain ⟨dx0, dx1, _, _⟩ := cells2 hY
  obtain ⟨⟨f0, f1, f2, f3, f4, f5⟩, _⟩ := cells6 hF
  clear ch
  refine Lib.hid ?_
  go_wp2_with (first | (go_at_call_of 31 (Value.int IntKind.i64 vp); refine (cA _).mono ?_; rintro e w' ⟨rfl, hw'⟩; subst hw') | (go_at_call_of 31 (Value.int IntKind.i64 ttl); refine (cB _).mono ?_; rintro e w' ⟨rfl, hw'⟩; subst hw') | (go_at_call 48; refine (cc _).mono ?_; rintro e w7 ⟨rfl, hbx⟩; refine Hid.out ?_))
  have hXn := blkKeep2 hbx hX
  have hYn := blkKeep2 hbx hY
  have hFn := blkKeep2 hbx hF
  have bwn : Below w.heap.size w w7 := bw.trans (hbx.mono bw.size)
  clear hbx hX hY hF bw sx0 sx1 dx0 dx1 f0 f1 f2 f3 f4 f5
  have hX := hXn
  have hY := hYn
  have hF := hFn
  have bw := bwn
  clear hXn hYn hFn bwn
  obtain ⟨sx0, sx1, _, _⟩ := cells2 hX
  obtain ⟨dx0, dx1, _, _⟩ := cells2 hY
  obtain ⟨⟨f0, f1, f2, f3, f4, f5⟩, _⟩ := cells6 hF
  clear cA cB cc
  refine Lib.hid ?_
  go_wp2_with (with_reducible refine stop_op (o := ⟨some 55, _, _, _, _, _⟩) ?_)
  obtain ⟨w8, hw8⟩ : ∃ x, x = w7.alloc (.cells (bc (List.replicate N 0)).toArray 5) := ⟨_, rfl⟩
  have R0 : Row w8 w7.heap.size ([] ++ Zs N) := by rw [hw8]; exact Row.new w7 _
  have hbx : Below w7.heap.size w7 w8 := by rw [hw8]; exact Below.al (Below.refl _ _) _
  first | rw [← hw8] | (simp only [List.replicate] at hw8; rw [← hw8])
  clear hw8 mk
  obtain ⟨B, hB⟩ : ∃ B, B = w7.heap.size := ⟨_, rfl⟩
  have hLT : w.heap.size < B ∧ w.heap.size + 1 < B ∧ w3.heap.size < B := by
    rw [hB]; exact ⟨(Array.getElem?_eq_some_iff.1 hX).1, (Array.getElem?_eq_some_iff.1 hY).1, (Array.getElem?_eq_some_iff.1 hF).1⟩
  have hBl : w.heap.size ≤ B := by omega
  have hXn := blkKeep2 hbx hX
  have hYn := blkKeep2 hbx hY
  have hFn := blkKeep2 hbx hF
  have bwn : Below w.heap.size w w8 := bw.trans (hbx.mono bw.size)
  clear hbx hX hY hF bw sx0 sx1 dx0 dx1 f0 f1 f2 f3 f4 f5
  have hX := hXn
  have hY := hYn
  have hF := hFn
  have bw := bwn
  clear hXn hYn hFn bwn
  obtain ⟨sx0, sx1, _, _⟩ := cells2 hX
  obtain ⟨dx0, dx1, _, _⟩ := cells2 hY
  obtain ⟨⟨f0, f1, f2, f3, f4, f5⟩, _⟩ := cells6 hF
  rw [← hB] at R0 ⊢
  clear hB
  have HLT := Lib.hid hLT
  have HX := Lib.hid hX
  have HY := Lib.hid hY
  have HF := Lib.hid hF
  have HW8 := Lib.hid bw
  clear hLT hX hY hF bw sx0 sx1 dx0 dx1 f0 f1 f2 f3 f4 f5
  have bk : Below B w8 w8 := Below.refl _ _
  obtain ⟨x0, hx0⟩ : ∃ x, x = w8 := ⟨_, rfl⟩
  rw [← hx0] at R0 ⊢
  have bkn : Below B w8 x0 := by rw [hx0]; exact bk
  clear hx0 bk
  have bk := bkn
  clear bkn
  have fz := R0.frozen 0
  obtain ⟨⟨uu, cz⟩, _⟩ := R0.room (o := 0) (m := 1) (by simp only [List.nil_append, List.length_append, beB_len, Zs_len, List.length_singleton]; omega) 0 (by omega)
  have hX := (bk.block _ HLT.out.1).trans HX.out
  have hY := (bk.block _ HLT.out.2.1).trans HY.out
  have hF := (bk.block _ HLT.out.2.2).trans HF.out
  obtain ⟨sx0, sx1, _, _⟩ := cells2 hX
  obtain ⟨dx0, dx1, _, _⟩ := cells2 hY
  obtain ⟨⟨f0, f1, f2, f3, f4, f5⟩, _⟩ := cells6 hF
  refine Lib.hid ?_
  go_wp2_with (with_reducible refine stop_op (o := ⟨some 60, _, _, _, _, _⟩) ?_)
  obtain ⟨x1, hwn⟩ : ∃ x, x = x0.setCell ⟨B, 0, none⟩ (.int .u8 96) := ⟨_, rfl⟩
  have R1 := R0.sz (96 : UInt8) (o := 0) (m := N - 1) (by omega) (by simp [beB_len, Zs_len])
  first | rw [← hwn] at R1 | rw [show (((96 : UInt8).toNat : Nat) : Int) = 96 from rfl, ← hwn] at R1
  have bkn : Below B w8 x1 := by rw [hwn]; exact below_set bk (Nat.le_refl _) 0 _
  rw [← hwn]
  clear hwn R0 bk fz cz
  clear hX hY hF sx0 sx1 dx0 dx1 f0 f1 f2 f3 f4 f5
  have bk := bkn
  clear bkn
  have R1' := R1.pz (k := 3) (m := N - 4) (by omega)
  have s2 : ∀ W, (Instr.slice 22 (.slice (some ⟨B, 0, none⟩) N N) (some (.int .i64 4)) (some (.int .i64 6)) none).run Try.prog W = .ok (.slice (some ⟨B, 4, none⟩) 2 (N - 4)) W := by have := cut_lh B 0 N N 4 6 (by omega) (by omega) (by omega) (by omega); simpa using this
  have cp := put_any B 4 (N - 4) 2 n (by omega) (by omega) (by omega) (by omega) (R1'.room (by simp only [List.nil_append, List.length_append, beB_len, Zs_len, List.length_singleton]; omega))
  refine Lib.hid ?_
  go_wp2_with (go_at_call 60; refine cp.mono ?_; rintro e x2 ⟨rfl, hW⟩; refine Hid.out ?_)
  have R2 := R1'.wz hW.wr (k := 2) (m := N - 6) (by omega) (by simp [Zs_len]) (by simp [beB_len])
  have bkn := hW.wr.bel bk (Nat.le_refl _) R1.lt
  clear cp hW R1 R1' s2 bk
  have bk := bkn
  clear bkn
  refine Lib.hid ?_
  go_wp2_with fail
  have R2' := R2.pz (k := 0) (m := N - 6) (by omega)
  have fz1 := R2'.frozen 7
  have fz2 := R2'.frozen 6
  obtain ⟨⟨uu1, cz1⟩, _⟩ := R2'.room (o := 7) (m := 1) (by simp only [List.nil_append, List.length_append, beB_len, Zs_len, List.length_singleton]; omega) 0 (by omega)
  obtain ⟨⟨uu2, cz2⟩, _⟩ := R2'.room (o := 6) (m := 1) (by simp only [List.nil_append, List.length_append, beB_len, Zs_len, List.length_singleton]; omega) 0 (by omega)
  have hX := (bk.block _ HLT.out.1).trans HX.out
  have hY := (bk.block _ HLT.out.2.1).trans HY.out
  have hF := (bk.block _ HLT.out.2.2).trans HF.out
  obtain ⟨sx0, sx1, _, _⟩ := cells2 hX
  obtain ⟨dx0, dx1, _, _⟩ := cells2 hY
  obtain ⟨⟨f0, f1, f2, f3, f4, f5⟩, _⟩ := cells6 hF
  have hne : B ≠ w3.heap.size := by have := HLT.out; omega
  go_region
  clear fz1 fz2 cz1 cz2 hne
  clear hX hY hF sx0 sx1 dx0 dx1 f0 f1 f2 f3 f4 f5
  obtain ⟨x5, hwn⟩ : ∃ x, x = ((x2.setCell ⟨B, 7, none⟩ (.int .u8 ((loB ttl).toNat : Nat))).setCell ⟨B, 6, none⟩ (.int .u8 ((loB vp).toNat : Nat))).drew := ⟨_, rfl⟩
  have R5a := R2'.set (loB ttl) (o := 7) (a := [] ++ [96] ++ Zs 3 ++ beB 2 n ++ [0]) (y := 0) (c := Zs (N - 8)) (by rw [show N - 6 = 2 + (N - 8) by omega, Zs_add]; simp [Zs, List.replicate_succ, List.append_assoc]) (by simp [beB_len, Zs_len]) rfl
  have R5b := R5a.set (loB vp) (o := 6) (a := [] ++ [96] ++ Zs 3 ++ beB 2 n) (y := 0) (c := [loB ttl] ++ Zs (N - 8)) (by simp [List.append_assoc]) (by simp [beB_len, Zs_len]) rfl
  have R5 : Row x5 B (([96] ++ Zs 3 ++ beB 2 n ++ [loB vp] ++ [loB ttl]) ++ Zs (N - 8)) := by
    have R5c : Row ((x2.setCell ⟨B, 7, none⟩ (.int .u8 ((loB ttl).toNat : Nat))).setCell ⟨B, 6, none⟩ (.int .u8 ((loB vp).toNat : Nat))) B (([96] ++ Zs 3 ++ beB 2 n ++ [loB vp] ++ [loB ttl]) ++ Zs (N - 8)) := by have := R5b; simpa [List.append_assoc] using this
    rw [hwn]; exact R5c
  clear R5a R5b R2 R2'
  have bkn : Below B w8 x5 := by rw [hwn]; exact Below.dr (below_set (below_set bk (Nat.le_refl _) 7 _) (Nat.le_refl _) 6 _)
  rw [← hwn]
  clear hwn bk
  have bk := bkn
  clear bkn
  have R6 := ((R5.pz (k := 16) (m := N - 24) (by omega)).pz (k := 16) (m := n) (by have := HN.out; omega))
  have cs := setaddr16 B N sh sl dh dl ([96] ++ Zs 3 ++ beB 2 n ++ [loB vp] ++ [loB ttl]) (Zs 16) (Zs 16) (Zs n) HB.out.1 HB.out.2.1 HB.out.2.2.1 HB.out.2.2.2 (by simp [beB_len, Zs_len]) (Zs_len _) (Zs_len _) (by rw [Zs_len]; exact HN.out) (by omega) R6
  have hX := (bk.block _ HLT.out.1).trans HX.out
  have hY := (bk.block _ HLT.out.2.1).trans HY.out
  have hF := (bk.block _ HLT.out.2.2).trans HF.out
  obtain ⟨sx0, sx1, _, _⟩ := cells2 hX
  obtain ⟨dx0, dx1, _, _⟩ := cells2 hY
  obtain ⟨⟨f0, f1, f2, f3, f4, f5⟩, _⟩ := cells6 hF
  simp only [famCells, if_true, if_false, Bool.false_eq_true] at cs
  clear R5
  go_wp2_with (go_at_call 61; refine cs.mono ?_; rintro e x6 ⟨rfl, hR, hK⟩; refine Hid.out ?_)
  have bkn := hK B w8 bk (Nat.le_refl _)
  clear cs R6 hK bk
  clear hX hY hF sx0 sx1 dx0 dx1 f0 f1 f2 f3 f4 f5
  have bk := bkn
  clear bkn
  have HR6 : Hid (Row x6 B (hdr6 vp ttl n ((beB 8 sh ++ beB 8 sl) ++ (beB 8 dh ++ beB 8 dl)) ++ Zs n)) := Lib.hid (by have := hR; simpa [hdr4, hdr6, List.append_assoc] using this)
  have HDl : (hdr6 vp ttl n ((beB 8 sh ++ beB 8 sl) ++ (beB 8 dh ++ beB 8 dl))).length = 40 := (by unfold hdr6; simp [beB_len, Zs_len])
  clear hR
  obtain ⟨HDR, hHDR⟩ : ∃ x, x = hdr6 vp ttl n ((beB 8 sh ++ beB 8 sl) ++ (beB 8 dh ++ beB 8 dl)) := ⟨_, rfl⟩
  rw [← hHDR] at HR6 HDl
  have HH := Lib.hid hHDR
  clear hHDR
  have HDL := Lib.hid HDl
  clear HDl
  obtain ⟨D, s20', hD⟩ := cut_end2 B N 40 (by omega) (by omega)
  rw [show N - 40 = n by have := HN.out; omega] at s20' hD
  have s20 : ∀ W, (Instr.slice 22 (.slice (some ⟨B, 0, none⟩) N N) (some (.int .i64 40)) none none).run Try.prog W = .ok (.slice (some ⟨B, D, none⟩) n n) W := s20'
  have HD := Lib.hid hD
  clear s20' hD
  have hA6 := HA.out.below (HW8.out.trans (bk.mono hBl))
  have hX := (bk.block _ HLT.out.1).trans HX.out
  have hY := (bk.block _ HLT.out.2.1).trans HY.out
  have hF := (bk.block _ HLT.out.2.2).trans HF.out
  obtain ⟨sx0, sx1, _, _⟩ := cells2 hX
  obtain ⟨dx0, dx1, _, _⟩ := cells2 hY
  obtain ⟨⟨f0, f1, f2, f3, f4, f5⟩, _⟩ := cells6 hF
  refine Lib.hid ?_
  go_wp2_with (with_reducible refine stop_op (o := ⟨some 97, _, _, _, _, _⟩) ?_)
  refine Lib.hid ?_
  refine wpList_copy_splice rfl _ _ 22 22 rfl 5 Try.underlying22 elem8 (some ⟨B, D, none⟩) A n n n c rfl rfl B 40 _ 5 HR6.out (bc l) (by rw [bc_len, hA6.1]; simp) ?k1 ?k2 (bc_one _) B w8 bk (Nat.le_refl _) ?k3
  case k1 =>
    intro h0
    rw [bc_len, hA6.1] at h0
    obtain ⟨g, o, rfl, hb⟩ := hA6.2.2.2 h0
    exact ⟨by rw [HD.out h0], _, rfl, fun j u hj => hb.newsO j u hj⟩
  case k2 =>
    rw [bc_len, bc_len, hA6.1, List.length_append, HDL.out, Zs_len]
    omega
  case k3 =>
    intro x7 HG bkn
    have G := HG.out
    rw [splice_bc _ _ _ _ HDL.out (by rw [Zs_len, hA6.1])] at G
    have hl := hA6.1
    have R7 : Row x7 B (HDR ++ l) := G
    clear HG HR6 bk hA6 G
    clear hX hY hF sx0 sx1 dx0 dx1 f0 f1 f2 f3 f4 f5
    have bk := bkn
    clear bkn
    have hB7 : BytArg x7.drew (some ⟨B, D, none⟩) n n l := ⟨hl, Nat.le_refl _, by unfold maxLen; have := HN.out; omega, fun h0 => ⟨B, D, rfl, by
      have hb := R7.byt
      have := hb.sub 40 n
      rw [Nat.zero_add, ← HDL.out, List.drop_left, List.take_of_length_le (by omega), HDL.out, ← HD.out h0] at this
      exact this⟩⟩
    have cs := setbody_any (some ⟨B, D, none⟩) n n l _ HV.out hB7 (fun g o e h0 => by
      cases e
      rw [HD.out h0]
      have := R7.room (o := 40) (m := n) (by rw [List.length_append, HDL.out]; omega)
      exact this) (by have := HN.out; omega)
    simp only [vcells, vPk, zvw] at cs
    have hX := (bk.block _ HLT.out.1).trans HX.out
    have hY := (bk.block _ HLT.out.2.1).trans HY.out
    have hF := (bk.block _ HLT.out.2.2).trans HF.out
    obtain ⟨sx0, sx1, _, _⟩ := cells2 hX
    obtain ⟨dx0, dx1, _, _⟩ := cells2 hY
    obtain ⟨⟨f0, f1, f2, f3, f4, f5⟩, _⟩ := cells6 hF
    go_wp2_with fail
    refine wp_region_still_tail 8 (by kernel_rfl) (by kernel_rfl) ?_
    simp only [List.take_succ_cons, List.take_zero, List.drop_succ_cons, List.drop_zero]
    repeat still_step
    try refine wpStill_nil ?_
    change wpList _ _ _ _ _ x7.drew
    have HR7 : Hid (Row x7.drew B (HDR ++ l)) := Lib.hid R7
    have bkn : Below B w8 x7.drew := Below.dr bk
    clear R7 bk hB7 hX hY hF sx0 sx1 dx0 dx1 f0 f1 f2 f3 f4 f5
    generalize x7.drew = x8 at *
    go_wp2_with (go_at_call 38; refine cs.mono ?_; rintro e x9 ⟨rfl, hS⟩; have HS := Lib.hid hS; clear hS)
    go_ret2
    have hfin := setBy_byt HR7.out.byt HDL.out (fun h0 => by rw [HD.out (by omega)]) HS.out
    have bfin : Below B w8 x9 := by
      rcases HS.out with ⟨_, hb⟩ | ⟨g, o, i, bs, e1, hW, _, _⟩
      · exact bkn.trans (hb.mono (Nat.le_of_lt HR7.out.lt))
      · cases e1; exact hW.bel bkn (Nat.le_refl _) HR7.out.lt
    rw [HH.out] at hfin
    refine ⟨B, rfl, ⟨by rw [← HH.out, List.length_append, HDL.out, setB_len]; have := HN.out; omega, Nat.le_refl _, by unfold maxLen; omega, fun _ => ⟨B, 0, rfl, hfin⟩⟩, hBl, HW8.out.trans (bfin.mono hBl)⟩
end Go.Proofs.Ytpmbdjdhgcjkfaa
