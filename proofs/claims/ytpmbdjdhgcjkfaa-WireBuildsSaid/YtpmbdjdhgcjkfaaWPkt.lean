/- Packet: the program's; by-name template (gen_wpacket.py). -/
import Derived.Test.YtpmbdjdhgcjkfaaWSetA
import Derived.Test.YtpmbdjdhgcjkfaaWSetB
namespace Go.Proofs.Ytpmbdjdhgcjkfaa
open Go.RowKit Go.Sort
set_option linter.unusedVariables false
set_option linter.unusedSimpArgs false

def byteP (n : Int) : Bool := decide (0 ≤ n) && decide (n ≤ 255)
/-- A header's first ten bytes, of IPv4. -/
def top4 (p ttl : Int) (N : Nat) : List UInt8 := [69] ++ Zs 1 ++ beB 2 N ++ Zs 2 ++ [64] ++ Zs 1 ++ [loB ttl] ++ [loB p]
def hdr4 (p ttl : Int) (N : Nat) (sd : List UInt8) : List UInt8 := top4 p ttl N ++ beB 2 (sumP (top4 p ttl N ++ [0, 0] ++ sd)) ++ sd
def hdr6 (p ttl : Int) (n : Nat) (sd : List UInt8) : List UInt8 := [96] ++ Zs 3 ++ beB 2 n ++ [loB p] ++ [loB ttl] ++ sd
def vPk (p sh sl dh dl : Int) : VW := { zvw with proto := p, srcH := sh, srcL := sl, dstH := dh, dstL := dl }
theorem Row.pz {w : World} {B q k m : Nat} {p : List UInt8} (h : Row w B (p ++ Zs q)) (hq : q = k + m) : Row w B ((p ++ Zs k) ++ Zs m) := by
  subst hq
  rw [Zs_add, ← List.append_assoc] at h
  exact h
theorem cut_end2 (g n k : Nat) (h : k ≤ n) (hn : n ≤ 9223372036854775807) : ∃ e : Nat, (∀ W, (Instr.slice 22 (.slice (some ⟨g, 0, none⟩) n n) (some (.int .i64 (k : Nat))) none none).run Try.prog W = .ok (.slice (some ⟨g, e, none⟩) (n - k) (n - k)) W) ∧ (0 < n - k → e = k) := by
  by_cases hk : k < n
  · refine ⟨k, fun W => ?_, fun _ => rfl⟩
    have := cut_l g 0 n n k (by omega) hk hn (Nat.le_refl _) W
    rw [Nat.zero_add] at this
    exact this
  · obtain rfl : k = n := by omega
    refine ⟨0, fun W => ?_, fun h => absurd h (by omega)⟩
    have hz : (sizeOf (Try.prog.elem 22)).run Try.prog W = .ok 1 W := by kernel_rfl
    rw [run_slice_l W 22 (some ⟨g, 0, none⟩) k k (by kernel_rfl) .i64 (k : Nat) (by omega) (by omega), hz]
    simp [Result.andThen, sliced]
theorem setB_len (v : VW) (l : List UInt8) : (setB v l).length = l.length := by
  unfold setB
  split
  · rfl
  · rename_i h
    obtain ⟨z, q, hz, hz0, hq, _⟩ := layP_ok (p := v.proto) (fun e => h (Or.inl e))
    rw [hz] at h ⊢
    simp only [not_or, Int.not_lt] at h
    rw [putL_len (by rw [beB_len]; simp only [Int.toNat_natCast]; omega)]
theorem top4_len (p ttl : Int) (N : Nat) : (top4 p ttl N).length = 10 := by simp [top4, beB_len, Zs_len]
theorem setBy_byt {w w' : World} {D : Option Addr} {B k : Nat} {H l : List UInt8} {v : VW} (hR : Byt w B 0 (H ++ l)) (hk : H.length = k) (hD : 0 < l.length → D = some ⟨B, k, none⟩) (h : SetBy w D l v w') : Byt w' B 0 (H ++ setB v l) := by
  rcases h with ⟨e, hb⟩ | ⟨g, o, i, bs, e1, hW, hi, e2⟩
  · rw [e]; exact hR.below hb
  · by_cases h0 : 0 < l.length
    · rw [hD h0] at e1
      cases e1
      have := Wr.splice (o := 0) (i := k + i) (by rw [Nat.zero_add]; exact hW) hR (by rw [List.length_append]; omega)
      rw [e2]
      have e3 : putL (H ++ l) (k + i) bs = H ++ putL l i bs := by
        unfold putL
        subst hk
        rw [List.take_length_add_append, Nat.add_assoc, List.drop_length_add_append]
        simp [List.append_assoc]
      rw [e3] at this
      exact this
    · have : l = [] := List.eq_nil_of_length_eq_zero (by omega)
      subst this
      obtain ⟨hi0, hbs⟩ : i = 0 ∧ bs = [] := by simpa using hi
      subst hi0; subst hbs
      rw [e2]
      intro j x hx
      have hc := hR j x (by simpa [putL] using hx)
      by_cases hg : B = g
      · subst hg
        rw [hW.out (0 + j) (by simp; omega)]; exact hc
      · exact (World.cell?_of_block (a := ⟨B, 0 + j, none⟩) (hW.block B hg (World.block_lt_of_cell? _ _ hc))).trans hc

set_option maxHeartbeats 4000000 in
set_option maxRecDepth 100000 in
theorem isb_a (n : Int) (h : n < 0) (w : World) : Calls Try.prog 31 #[.int .i64 n] w fun e w' => e = .returned (.bool false) ∧ w = w' := by
  have h1 : decide ((0 : Int) ≤ n) = false := by simp; omega
  go_enter Try.func31, Try.ntmps31
  go_wp2
  go_ret
  exact ⟨rfl, rfl⟩

set_option maxHeartbeats 4000000 in
set_option maxRecDepth 100000 in
theorem isb_b (n : Int) (h : 255 < n) (w : World) : Calls Try.prog 31 #[.int .i64 n] w fun e w' => e = .returned (.bool false) ∧ w = w' := by
  have h1 : decide ((0 : Int) ≤ n) = true := by simp; omega
  have h2 : decide (n ≤ 255) = false := by simp; omega
  go_enter Try.func31, Try.ntmps31
  go_wp2
  go_ret
  exact ⟨rfl, rfl⟩

set_option maxHeartbeats 4000000 in
set_option maxRecDepth 100000 in
theorem isb_c (n : Int) (h : 0 ≤ n) (h2 : n ≤ 255) (w : World) : Calls Try.prog 31 #[.int .i64 n] w fun e w' => e = .returned (.bool true) ∧ w = w' := by
  have h1 : decide ((0 : Int) ≤ n) = true := by simp; omega
  have h3 : decide (n ≤ 255) = true := by simp; omega
  go_enter Try.func31, Try.ntmps31
  go_wp2
  go_ret
  exact ⟨rfl, rfl⟩

theorem isbyte_any (n : Int) (w : World) : Calls Try.prog 31 #[.int .i64 n] w fun e w' => e = .returned (.bool (byteP n)) ∧ w = w' := by
  unfold byteP
  by_cases h : n < 0
  · rw [show (decide (0 ≤ n) && decide (n ≤ 255)) = false by simp; omega]; exact isb_a n h w
  by_cases h2 : 255 < n
  · rw [show (decide (0 ≤ n) && decide (n ≤ 255)) = false by simp; omega]; exact isb_b n h2 w
  · rw [show (decide (0 ≤ n) && decide (n ≤ 255)) = true by simp; omega]; exact isb_c n (by omega) (by omega) w

set_option maxHeartbeats 4000000 in
set_option maxRecDepth 100000 in
theorem pk4_1 (A : Option Addr) (n c : Nat) (l : List UInt8) (sh sl dh dl : Nat) (vp ttl : Int) (h1 : sh < 18446744073709551616) (h2 : sl < 18446744073709551616) (h3 : dh < 18446744073709551616) (h4 : dl < 18446744073709551616) (hs4 : is4I (sh : Int) (sl : Int) = true) {w : World} (h : BytArg w A n c l) (hm : n ≤ 65536) (hd4 : is4I (dh : Int) (dl : Int) = false) :
    Calls Try.prog 21 #[.agg #[.int .u64 (sh : Nat), .int .u64 (sl : Nat)], .agg #[.int .u64 (dh : Nat), .int .u64 (dl : Nat)], .int .i64 vp, .int .i64 ttl, .slice A n c] w fun e w' => e = .returned (.tuple #[.slice none 0 0, .int .i64 1]) ∧ Below w.heap.size w w' := by
  have ci := fun (W : World) => is4_any (sh : Int) (sl : Int) ⟨by omega, by omega⟩ ⟨by omega, by omega⟩ W
  rw [hs4] at ci
  have cf := fun (W : World) => fam_any false W
  have cA := fun (W : World) => isbyte_any vp W
  have cB := fun (W : World) => isbyte_any ttl W
  have cc := fun (W : World) => carries_any false vp W
  simp only [famCells, if_true, if_false, Bool.false_eq_true] at cf cc
  obtain ⟨N, hN⟩ : ∃ N, N = 20 + n := ⟨_, rfl⟩
  have wN : IntKind.i64.wrap (20 + (n : Int)) = (N : Int) := by rw [IntKind.wrap_i64]; omega
  have nI : (n : Int) ≤ 65536 := by omega
  have NI : (N : Int) ≤ 70000 := by omega
  have wa : Word (dh : Int) := ⟨by omega, by omega⟩
  have wb : Word (dl : Int) := ⟨by omega, by omega⟩
  clear hs4 h1 h2 h3 h4
  clear h hN
  go_enter Try.func21, Try.ntmps21
  go_wp2_with (with_reducible refine stop_op (o := ⟨some 15, _, _, _, _, _⟩) ?_)
  obtain ⟨w1, hw1⟩ : ∃ x, x = (w.alloc (.cells #[.int .u64 (sh : Nat), .int .u64 (sl : Nat)] 25)).alloc (.cells #[.int .u64 (dh : Nat), .int .u64 (dl : Nat)] 25) := ⟨_, rfl⟩
  have hX : w1.heap[w.heap.size]? = some (.cells #[.int .u64 (sh : Nat), .int .u64 (sl : Nat)] 25 (0, 0)) := by rw [hw1, al_oldw (by simp)]; exact al_neww rfl _
  have hY : w1.heap[w.heap.size + 1]? = some (.cells #[.int .u64 (dh : Nat), .int .u64 (dl : Nat)] 25 (0, 0)) := by rw [hw1]; exact al_neww (by simp) _
  have bw : Below w.heap.size w w1 := by rw [hw1]; exact Below.al (Below.al (Below.refl _ _) _) _
  rw [← hw1]
  clear hw1
  obtain ⟨sx0, sx1, _, _⟩ := cells2 hX
  obtain ⟨dx0, dx1, _, _⟩ := cells2 hY
  refine Lib.hid ?_
  go_wp2_with (go_at_call 59; refine (ci _).mono ?_; rintro e w2 ⟨rfl, hb2⟩; refine Hid.out ?_)
  have hX2 := blkKeep2 hb2 hX
  have hY2 := blkKeep2 hb2 hY
  have b2 : Below w.heap.size w w2 := bw.trans (hb2.mono bw.size)
  clear hb2 hX hY bw sx0 sx1 dx0 dx1 ci
  refine Lib.hid ?_
  go_wp2_with (go_at_call 28; refine (cf _).mono ?_; rintro e w3 ⟨rfl, hb3⟩; refine Hid.out ?_)
  have hX3 := blkKeep2 hb3 hX2
  have hY3 := blkKeep2 hb3 hY2
  have b3 : Below w.heap.size w w3 := b2.trans (hb3.mono b2.size)
  clear hb3 hX2 hY2 b2 cf
  refine Lib.hid ?_
  go_wp2_with (with_reducible refine stop_op (o := ⟨some 19, _, _, _, _, _⟩) ?_)
  obtain ⟨w4, hw4⟩ : ∃ x, x = w3.alloc (.cells #[.bool false, .int .i64 20, .int .i64 8, .int .i64 9, .int .i64 12, .int .i64 4] 69) := ⟨_, rfl⟩
  have hF : w4.heap[w3.heap.size]? = some (.cells #[.bool false, .int .i64 20, .int .i64 8, .int .i64 9, .int .i64 12, .int .i64 4] 69 (0, 0)) := by rw [hw4]; exact al_neww rfl _
  have hb4 : Below w3.heap.size w3 w4 := by rw [hw4]; exact Below.al (Below.refl _ _) _
  have hX := blkKeep2 hb4 hX3
  have hY := blkKeep2 hb4 hY3
  have bw : Below w.heap.size w w4 := b3.trans (hb4.mono b3.size)
  rw [← hw4]
  clear hw4 hb4 hX3 hY3 b3
  obtain ⟨sx0, sx1, _, _⟩ := cells2 hX
  obtain ⟨dx0, dx1, _, _⟩ := cells2 hY
  obtain ⟨⟨f0, f1, f2, f3, f4, f5⟩, _⟩ := cells6 hF
  refine Lib.hid ?_
  go_wp2_with (with_reducible refine stop_op (o := ⟨some 27, _, _, _, _, _⟩) ?_)
  obtain ⟨w5, hw5⟩ : ∃ x, x = w4.alloc (.cells #[.int .u64 (dh : Nat), .int .u64 (dl : Nat)] 25) := ⟨_, rfl⟩
  have hL5 : w5.heap[w4.heap.size]? = some (.cells #[.int .u64 (dh : Nat), .int .u64 (dl : Nat)] 25 (0, 0)) := by rw [hw5]; exact al_neww rfl _
  have hA5 : AdrsAt w5 w4.heap.size 0 [((dh : Int), (dl : Int))] := by
    obtain ⟨a0, a1, _, _⟩ := cells2 hL5
    intro k a h
    match k, h with
    | 0, h => obtain rfl : _ = a := by simpa using h
              exact ⟨a0, a1, wa, wb⟩
    | k + 1, h => simp at h
  have ch := has_any false w4.heap.size 0 1 1 _ rfl (by omega) hA5
  rw [show hasP false [((dh : Int), (dl : Int))] = false by simp [hasP, hd4]] at ch
  simp only [famCells, if_true, if_false, Bool.false_eq_true] at ch
  have hbx : Below w4.heap.size w4 w5 := by rw [hw5]; exact Below.al (Below.refl _ _) _
  rw [← hw5]
  clear hw5 hA5 hL5
  have hXn := blkKeep2 hbx hX
  have hYn := blkKeep2 hbx hY
  have hFn := blkKeep2 hbx hF
  have bwn : Below w.heap.size w w5 := bw.trans (hbx.mono bw.size)
  clear hbx hX hY hF bw sx0 sx1 dx0 dx1 f0 f1 f2 f3 f4 f5
  have hX := hXn
  have hY := hYn
  have hF := hFn
  have bw := bwn
  clear hXn hYn hFn bwn
  obtain ⟨sx0, sx1, _, _⟩ := cells2 hX
  obtain ⟨dx0, dx1, _, _⟩ := cells2 hY
  obtain ⟨⟨f0, f1, f2, f3, f4, f5⟩, _⟩ := cells6 hF
  refine Lib.hid ?_
  go_wp2_with (go_at_call 29; refine ch.mono ?_; rintro e w6 ⟨rfl, hbx⟩; refine Hid.out ?_)
  have hXn := blkKeep2 hbx hX
  have hYn := blkKeep2 hbx hY
  have hFn := blkKeep2 hbx hF
  have bwn : Below w.heap.size w w6 := bw.trans (hbx.mono bw.size)
  clear hbx hX hY hF bw sx0 sx1 dx0 dx1 f0 f1 f2 f3 f4 f5
  have hX := hXn
  have hY := hYn
  have hF := hFn
  have bw := bwn
  clear hXn hYn hFn bwn
  obtain ⟨sx0, sx1, _, _⟩ := cells2 hX
  obtain ⟨dx0, dx1, _, _⟩ := cells2 hY
  obtain ⟨⟨f0, f1, f2, f3, f4, f5⟩, _⟩ := cells6 hF
  clear ch
  refine Lib.hid ?_
  go_wp2
  go_ret2
  exact ⟨rfl, bw⟩

set_option maxHeartbeats 4000000 in
set_option maxRecDepth 100000 in
theorem pk4_2 (A : Option Addr) (n c : Nat) (l : List UInt8) (sh sl dh dl : Nat) (vp ttl : Int) (h1 : sh < 18446744073709551616) (h2 : sl < 18446744073709551616) (h3 : dh < 18446744073709551616) (h4 : dl < 18446744073709551616) (hs4 : is4I (sh : Int) (sl : Int) = true) {w : World} (h : BytArg w A n c l) (hm : n ≤ 65536) (hd4 : is4I (dh : Int) (dl : Int) = true) (hp : byteP vp = false) :
    Calls Try.prog 21 #[.agg #[.int .u64 (sh : Nat), .int .u64 (sl : Nat)], .agg #[.int .u64 (dh : Nat), .int .u64 (dl : Nat)], .int .i64 vp, .int .i64 ttl, .slice A n c] w fun e w' => e = .returned (.tuple #[.slice none 0 0, .int .i64 1]) ∧ Below w.heap.size w w' := by
  have ci := fun (W : World) => is4_any (sh : Int) (sl : Int) ⟨by omega, by omega⟩ ⟨by omega, by omega⟩ W
  rw [hs4] at ci
  have cf := fun (W : World) => fam_any false W
  have cA := fun (W : World) => isbyte_any vp W
  have cB := fun (W : World) => isbyte_any ttl W
  have cc := fun (W : World) => carries_any false vp W
  simp only [famCells, if_true, if_false, Bool.false_eq_true] at cf cc
  obtain ⟨N, hN⟩ : ∃ N, N = 20 + n := ⟨_, rfl⟩
  have wN : IntKind.i64.wrap (20 + (n : Int)) = (N : Int) := by rw [IntKind.wrap_i64]; omega
  have nI : (n : Int) ≤ 65536 := by omega
  have NI : (N : Int) ≤ 70000 := by omega
  have wa : Word (dh : Int) := ⟨by omega, by omega⟩
  have wb : Word (dl : Int) := ⟨by omega, by omega⟩
  clear hs4 h1 h2 h3 h4
  rw [hp] at cA
  clear h hN
  go_enter Try.func21, Try.ntmps21
  go_wp2_with (with_reducible refine stop_op (o := ⟨some 15, _, _, _, _, _⟩) ?_)
  obtain ⟨w1, hw1⟩ : ∃ x, x = (w.alloc (.cells #[.int .u64 (sh : Nat), .int .u64 (sl : Nat)] 25)).alloc (.cells #[.int .u64 (dh : Nat), .int .u64 (dl : Nat)] 25) := ⟨_, rfl⟩
  have hX : w1.heap[w.heap.size]? = some (.cells #[.int .u64 (sh : Nat), .int .u64 (sl : Nat)] 25 (0, 0)) := by rw [hw1, al_oldw (by simp)]; exact al_neww rfl _
  have hY : w1.heap[w.heap.size + 1]? = some (.cells #[.int .u64 (dh : Nat), .int .u64 (dl : Nat)] 25 (0, 0)) := by rw [hw1]; exact al_neww (by simp) _
  have bw : Below w.heap.size w w1 := by rw [hw1]; exact Below.al (Below.al (Below.refl _ _) _) _
  rw [← hw1]
  clear hw1
  obtain ⟨sx0, sx1, _, _⟩ := cells2 hX
  obtain ⟨dx0, dx1, _, _⟩ := cells2 hY
  refine Lib.hid ?_
  go_wp2_with (go_at_call 59; refine (ci _).mono ?_; rintro e w2 ⟨rfl, hb2⟩; refine Hid.out ?_)
  have hX2 := blkKeep2 hb2 hX
  have hY2 := blkKeep2 hb2 hY
  have b2 : Below w.heap.size w w2 := bw.trans (hb2.mono bw.size)
  clear hb2 hX hY bw sx0 sx1 dx0 dx1 ci
  refine Lib.hid ?_
  go_wp2_with (go_at_call 28; refine (cf _).mono ?_; rintro e w3 ⟨rfl, hb3⟩; refine Hid.out ?_)
  have hX3 := blkKeep2 hb3 hX2
  have hY3 := blkKeep2 hb3 hY2
  have b3 : Below w.heap.size w w3 := b2.trans (hb3.mono b2.size)
  clear hb3 hX2 hY2 b2 cf
  refine Lib.hid ?_
  go_wp2_with (with_reducible refine stop_op (o := ⟨some 19, _, _, _, _, _⟩) ?_)
  obtain ⟨w4, hw4⟩ : ∃ x, x = w3.alloc (.cells #[.bool false, .int .i64 20, .int .i64 8, .int .i64 9, .int .i64 12, .int .i64 4] 69) := ⟨_, rfl⟩
  have hF : w4.heap[w3.heap.size]? = some (.cells #[.bool false, .int .i64 20, .int .i64 8, .int .i64 9, .int .i64 12, .int .i64 4] 69 (0, 0)) := by rw [hw4]; exact al_neww rfl _
  have hb4 : Below w3.heap.size w3 w4 := by rw [hw4]; exact Below.al (Below.refl _ _) _
  have hX := blkKeep2 hb4 hX3
  have hY := blkKeep2 hb4 hY3
  have bw : Below w.heap.size w w4 := b3.trans (hb4.mono b3.size)
  rw [← hw4]
  clear hw4 hb4 hX3 hY3 b3
  obtain ⟨sx0, sx1, _, _⟩ := cells2 hX
  obtain ⟨dx0, dx1, _, _⟩ := cells2 hY
  obtain ⟨⟨f0, f1, f2, f3, f4, f5⟩, _⟩ := cells6 hF
  refine Lib.hid ?_
  go_wp2_with (with_reducible refine stop_op (o := ⟨some 27, _, _, _, _, _⟩) ?_)
  obtain ⟨w5, hw5⟩ : ∃ x, x = w4.alloc (.cells #[.int .u64 (dh : Nat), .int .u64 (dl : Nat)] 25) := ⟨_, rfl⟩
  have hL5 : w5.heap[w4.heap.size]? = some (.cells #[.int .u64 (dh : Nat), .int .u64 (dl : Nat)] 25 (0, 0)) := by rw [hw5]; exact al_neww rfl _
  have hA5 : AdrsAt w5 w4.heap.size 0 [((dh : Int), (dl : Int))] := by
    obtain ⟨a0, a1, _, _⟩ := cells2 hL5
    intro k a h
    match k, h with
    | 0, h => obtain rfl : _ = a := by simpa using h
              exact ⟨a0, a1, wa, wb⟩
    | k + 1, h => simp at h
  have ch := has_any false w4.heap.size 0 1 1 _ rfl (by omega) hA5
  rw [show hasP false [((dh : Int), (dl : Int))] = true by simp [hasP, hd4]] at ch
  simp only [famCells, if_true, if_false, Bool.false_eq_true] at ch
  have hbx : Below w4.heap.size w4 w5 := by rw [hw5]; exact Below.al (Below.refl _ _) _
  rw [← hw5]
  clear hw5 hA5 hL5
  have hXn := blkKeep2 hbx hX
  have hYn := blkKeep2 hbx hY
  have hFn := blkKeep2 hbx hF
  have bwn : Below w.heap.size w w5 := bw.trans (hbx.mono bw.size)
  clear hbx hX hY hF bw sx0 sx1 dx0 dx1 f0 f1 f2 f3 f4 f5
  have hX := hXn
  have hY := hYn
  have hF := hFn
  have bw := bwn
  clear hXn hYn hFn bwn
  obtain ⟨sx0, sx1, _, _⟩ := cells2 hX
  obtain ⟨dx0, dx1, _, _⟩ := cells2 hY
  obtain ⟨⟨f0, f1, f2, f3, f4, f5⟩, _⟩ := cells6 hF
  refine Lib.hid ?_
  go_wp2_with (go_at_call 29; refine ch.mono ?_; rintro e w6 ⟨rfl, hbx⟩; refine Hid.out ?_)
  have hXn := blkKeep2 hbx hX
  have hYn := blkKeep2 hbx hY
  have hFn := blkKeep2 hbx hF
  have bwn : Below w.heap.size w w6 := bw.trans (hbx.mono bw.size)
  clear hbx hX hY hF bw sx0 sx1 dx0 dx1 f0 f1 f2 f3 f4 f5
  have hX := hXn
  have hY := hYn
  have hF := hFn
  have bw := bwn
  clear hXn hYn hFn bwn
  obtain ⟨sx0, sx1, _, _⟩ := cells2 hX
  obtain ⟨dx0, dx1, _, _⟩ := cells2 hY
  obtain ⟨⟨f0, f1, f2, f3, f4, f5⟩, _⟩ := cells6 hF
  clear ch
  refine Lib.hid ?_
  go_wp2_with (first | (go_at_call_of 31 (Value.int IntKind.i64 vp); refine (cA _).mono ?_; rintro e w' ⟨rfl, hw'⟩; subst hw') | (go_at_call_of 31 (Value.int IntKind.i64 ttl); refine (cB _).mono ?_; rintro e w' ⟨rfl, hw'⟩; subst hw') | (go_at_call 48; refine (cc _).mono ?_; rintro e w7 ⟨rfl, hbx⟩))
  go_ret2
  exact ⟨rfl, bw⟩

set_option maxHeartbeats 4000000 in
set_option maxRecDepth 100000 in
theorem pk4_3 (A : Option Addr) (n c : Nat) (l : List UInt8) (sh sl dh dl : Nat) (vp ttl : Int) (h1 : sh < 18446744073709551616) (h2 : sl < 18446744073709551616) (h3 : dh < 18446744073709551616) (h4 : dl < 18446744073709551616) (hs4 : is4I (sh : Int) (sl : Int) = true) {w : World} (h : BytArg w A n c l) (hm : n ≤ 65536) (hd4 : is4I (dh : Int) (dl : Int) = true) (hp : byteP vp = true) (ht : byteP ttl = false) :
    Calls Try.prog 21 #[.agg #[.int .u64 (sh : Nat), .int .u64 (sl : Nat)], .agg #[.int .u64 (dh : Nat), .int .u64 (dl : Nat)], .int .i64 vp, .int .i64 ttl, .slice A n c] w fun e w' => e = .returned (.tuple #[.slice none 0 0, .int .i64 1]) ∧ Below w.heap.size w w' := by
  have ci := fun (W : World) => is4_any (sh : Int) (sl : Int) ⟨by omega, by omega⟩ ⟨by omega, by omega⟩ W
  rw [hs4] at ci
  have cf := fun (W : World) => fam_any false W
  have cA := fun (W : World) => isbyte_any vp W
  have cB := fun (W : World) => isbyte_any ttl W
  have cc := fun (W : World) => carries_any false vp W
  simp only [famCells, if_true, if_false, Bool.false_eq_true] at cf cc
  obtain ⟨N, hN⟩ : ∃ N, N = 20 + n := ⟨_, rfl⟩
  have wN : IntKind.i64.wrap (20 + (n : Int)) = (N : Int) := by rw [IntKind.wrap_i64]; omega
  have nI : (n : Int) ≤ 65536 := by omega
  have NI : (N : Int) ≤ 70000 := by omega
  have wa : Word (dh : Int) := ⟨by omega, by omega⟩
  have wb : Word (dl : Int) := ⟨by omega, by omega⟩
  clear hs4 h1 h2 h3 h4
  rw [hp] at cA
  rw [ht] at cB
  clear h hN
  go_enter Try.func21, Try.ntmps21
  go_wp2_with (with_reducible refine stop_op (o := ⟨some 15, _, _, _, _, _⟩) ?_)
  obtain ⟨w1, hw1⟩ : ∃ x, x = (w.alloc (.cells #[.int .u64 (sh : Nat), .int .u64 (sl : Nat)] 25)).alloc (.cells #[.int .u64 (dh : Nat), .int .u64 (dl : Nat)] 25) := ⟨_, rfl⟩
  have hX : w1.heap[w.heap.size]? = some (.cells #[.int .u64 (sh : Nat), .int .u64 (sl : Nat)] 25 (0, 0)) := by rw [hw1, al_oldw (by simp)]; exact al_neww rfl _
  have hY : w1.heap[w.heap.size + 1]? = some (.cells #[.int .u64 (dh : Nat), .int .u64 (dl : Nat)] 25 (0, 0)) := by rw [hw1]; exact al_neww (by simp) _
  have bw : Below w.heap.size w w1 := by rw [hw1]; exact Below.al (Below.al (Below.refl _ _) _) _
  rw [← hw1]
  clear hw1
  obtain ⟨sx0, sx1, _, _⟩ := cells2 hX
  obtain ⟨dx0, dx1, _, _⟩ := cells2 hY
  refine Lib.hid ?_
  go_wp2_with (go_at_call 59; refine (ci _).mono ?_; rintro e w2 ⟨rfl, hb2⟩; refine Hid.out ?_)
  have hX2 := blkKeep2 hb2 hX
  have hY2 := blkKeep2 hb2 hY
  have b2 : Below w.heap.size w w2 := bw.trans (hb2.mono bw.size)
  clear hb2 hX hY bw sx0 sx1 dx0 dx1 ci
  refine Lib.hid ?_
  go_wp2_with (go_at_call 28; refine (cf _).mono ?_; rintro e w3 ⟨rfl, hb3⟩; refine Hid.out ?_)
  have hX3 := blkKeep2 hb3 hX2
  have hY3 := blkKeep2 hb3 hY2
  have b3 : Below w.heap.size w w3 := b2.trans (hb3.mono b2.size)
  clear hb3 hX2 hY2 b2 cf
  refine Lib.hid ?_
  go_wp2_with (with_reducible refine stop_op (o := ⟨some 19, _, _, _, _, _⟩) ?_)
  obtain ⟨w4, hw4⟩ : ∃ x, x = w3.alloc (.cells #[.bool false, .int .i64 20, .int .i64 8, .int .i64 9, .int .i64 12, .int .i64 4] 69) := ⟨_, rfl⟩
  have hF : w4.heap[w3.heap.size]? = some (.cells #[.bool false, .int .i64 20, .int .i64 8, .int .i64 9, .int .i64 12, .int .i64 4] 69 (0, 0)) := by rw [hw4]; exact al_neww rfl _
  have hb4 : Below w3.heap.size w3 w4 := by rw [hw4]; exact Below.al (Below.refl _ _) _
  have hX := blkKeep2 hb4 hX3
  have hY := blkKeep2 hb4 hY3
  have bw : Below w.heap.size w w4 := b3.trans (hb4.mono b3.size)
  rw [← hw4]
  clear hw4 hb4 hX3 hY3 b3
  obtain ⟨sx0, sx1, _, _⟩ := cells2 hX
  obtain ⟨dx0, dx1, _, _⟩ := cells2 hY
  obtain ⟨⟨f0, f1, f2, f3, f4, f5⟩, _⟩ := cells6 hF
  refine Lib.hid ?_
  go_wp2_with (with_reducible refine stop_op (o := ⟨some 27, _, _, _, _, _⟩) ?_)
  obtain ⟨w5, hw5⟩ : ∃ x, x = w4.alloc (.cells #[.int .u64 (dh : Nat), .int .u64 (dl : Nat)] 25) := ⟨_, rfl⟩
  have hL5 : w5.heap[w4.heap.size]? = some (.cells #[.int .u64 (dh : Nat), .int .u64 (dl : Nat)] 25 (0, 0)) := by rw [hw5]; exact al_neww rfl _
  have hA5 : AdrsAt w5 w4.heap.size 0 [((dh : Int), (dl : Int))] := by
    obtain ⟨a0, a1, _, _⟩ := cells2 hL5
    intro k a h
    match k, h with
    | 0, h => obtain rfl : _ = a := by simpa using h
              exact ⟨a0, a1, wa, wb⟩
    | k + 1, h => simp at h
  have ch := has_any false w4.heap.size 0 1 1 _ rfl (by omega) hA5
  rw [show hasP false [((dh : Int), (dl : Int))] = true by simp [hasP, hd4]] at ch
  simp only [famCells, if_true, if_false, Bool.false_eq_true] at ch
  have hbx : Below w4.heap.size w4 w5 := by rw [hw5]; exact Below.al (Below.refl _ _) _
  rw [← hw5]
  clear hw5 hA5 hL5
  have hXn := blkKeep2 hbx hX
  have hYn := blkKeep2 hbx hY
  have hFn := blkKeep2 hbx hF
  have bwn : Below w.heap.size w w5 := bw.trans (hbx.mono bw.size)
  clear hbx hX hY hF bw sx0 sx1 dx0 dx1 f0 f1 f2 f3 f4 f5
  have hX := hXn
  have hY := hYn
  have hF := hFn
  have bw := bwn
  clear hXn hYn hFn bwn
  obtain ⟨sx0, sx1, _, _⟩ := cells2 hX
  obtain ⟨dx0, dx1, _, _⟩ := cells2 hY
  obtain ⟨⟨f0, f1, f2, f3, f4, f5⟩, _⟩ := cells6 hF
  refine Lib.hid ?_
  go_wp2_with (go_at_call 29; refine ch.mono ?_; rintro e w6 ⟨rfl, hbx⟩; refine Hid.out ?_)
  have hXn := blkKeep2 hbx hX
  have hYn := blkKeep2 hbx hY
  have hFn := blkKeep2 hbx hF
  have bwn : Below w.heap.size w w6 := bw.trans (hbx.mono bw.size)
  clear hbx hX hY hF bw sx0 sx1 dx0 dx1 f0 f1 f2 f3 f4 f5
  have hX := hXn
  have hY := hYn
  have hF := hFn
  have bw := bwn
  clear hXn hYn hFn bwn
  obtain ⟨sx0, sx1, _, _⟩ := cells2 hX
  obtain ⟨dx0, dx1, _, _⟩ := cells2 hY
  obtain ⟨⟨f0, f1, f2, f3, f4, f5⟩, _⟩ := cells6 hF
  clear ch
  refine Lib.hid ?_
  go_wp2_with (first | (go_at_call_of 31 (Value.int IntKind.i64 vp); refine (cA _).mono ?_; rintro e w' ⟨rfl, hw'⟩; subst hw') | (go_at_call_of 31 (Value.int IntKind.i64 ttl); refine (cB _).mono ?_; rintro e w' ⟨rfl, hw'⟩; subst hw') | (go_at_call 48; refine (cc _).mono ?_; rintro e w7 ⟨rfl, hbx⟩))
  go_ret2
  exact ⟨rfl, bw⟩

set_option maxHeartbeats 4000000 in
set_option maxRecDepth 100000 in
theorem pk4_4 (A : Option Addr) (n c : Nat) (l : List UInt8) (sh sl dh dl : Nat) (ttl : Int) (h1 : sh < 18446744073709551616) (h2 : sl < 18446744073709551616) (h3 : dh < 18446744073709551616) (h4 : dl < 18446744073709551616) (hs4 : is4I (sh : Int) (sl : Int) = true) {w : World} (h : BytArg w A n c l) (hm : n ≤ 65536) (hd4 : is4I (dh : Int) (dl : Int) = true) (hp : byteP 44 = true) (ht : byteP ttl = true)  :
    Calls Try.prog 21 #[.agg #[.int .u64 (sh : Nat), .int .u64 (sl : Nat)], .agg #[.int .u64 (dh : Nat), .int .u64 (dl : Nat)], .int .i64 44, .int .i64 ttl, .slice A n c] w fun e w' => e = .returned (.tuple #[.slice none 0 0, .int .i64 1]) ∧ Below w.heap.size w w' := by
  have ci := fun (W : World) => is4_any (sh : Int) (sl : Int) ⟨by omega, by omega⟩ ⟨by omega, by omega⟩ W
  rw [hs4] at ci
  have cf := fun (W : World) => fam_any false W
  have cA := fun (W : World) => isbyte_any 44 W
  have cB := fun (W : World) => isbyte_any ttl W
  have cc := fun (W : World) => carries_any false 44 W
  simp only [famCells, if_true, if_false, Bool.false_eq_true] at cf cc
  obtain ⟨N, hN⟩ : ∃ N, N = 20 + n := ⟨_, rfl⟩
  have wN : IntKind.i64.wrap (20 + (n : Int)) = (N : Int) := by rw [IntKind.wrap_i64]; omega
  have nI : (n : Int) ≤ 65536 := by omega
  have NI : (N : Int) ≤ 70000 := by omega
  have wa : Word (dh : Int) := ⟨by omega, by omega⟩
  have wb : Word (dl : Int) := ⟨by omega, by omega⟩
  clear hs4 h1 h2 h3 h4
  rw [hp] at cA
  rw [ht] at cB
  clear h hN
  go_enter Try.func21, Try.ntmps21
  go_wp2_with (with_reducible refine stop_op (o := ⟨some 15, _, _, _, _, _⟩) ?_)
  obtain ⟨w1, hw1⟩ : ∃ x, x = (w.alloc (.cells #[.int .u64 (sh : Nat), .int .u64 (sl : Nat)] 25)).alloc (.cells #[.int .u64 (dh : Nat), .int .u64 (dl : Nat)] 25) := ⟨_, rfl⟩
  have hX : w1.heap[w.heap.size]? = some (.cells #[.int .u64 (sh : Nat), .int .u64 (sl : Nat)] 25 (0, 0)) := by rw [hw1, al_oldw (by simp)]; exact al_neww rfl _
  have hY : w1.heap[w.heap.size + 1]? = some (.cells #[.int .u64 (dh : Nat), .int .u64 (dl : Nat)] 25 (0, 0)) := by rw [hw1]; exact al_neww (by simp) _
  have bw : Below w.heap.size w w1 := by rw [hw1]; exact Below.al (Below.al (Below.refl _ _) _) _
  rw [← hw1]
  clear hw1
  obtain ⟨sx0, sx1, _, _⟩ := cells2 hX
  obtain ⟨dx0, dx1, _, _⟩ := cells2 hY
  refine Lib.hid ?_
  go_wp2_with (go_at_call 59; refine (ci _).mono ?_; rintro e w2 ⟨rfl, hb2⟩; refine Hid.out ?_)
  have hX2 := blkKeep2 hb2 hX
  have hY2 := blkKeep2 hb2 hY
  have b2 : Below w.heap.size w w2 := bw.trans (hb2.mono bw.size)
  clear hb2 hX hY bw sx0 sx1 dx0 dx1 ci
  refine Lib.hid ?_
  go_wp2_with (go_at_call 28; refine (cf _).mono ?_; rintro e w3 ⟨rfl, hb3⟩; refine Hid.out ?_)
  have hX3 := blkKeep2 hb3 hX2
  have hY3 := blkKeep2 hb3 hY2
  have b3 : Below w.heap.size w w3 := b2.trans (hb3.mono b2.size)
  clear hb3 hX2 hY2 b2 cf
  refine Lib.hid ?_
  go_wp2_with (with_reducible refine stop_op (o := ⟨some 19, _, _, _, _, _⟩) ?_)
  obtain ⟨w4, hw4⟩ : ∃ x, x = w3.alloc (.cells #[.bool false, .int .i64 20, .int .i64 8, .int .i64 9, .int .i64 12, .int .i64 4] 69) := ⟨_, rfl⟩
  have hF : w4.heap[w3.heap.size]? = some (.cells #[.bool false, .int .i64 20, .int .i64 8, .int .i64 9, .int .i64 12, .int .i64 4] 69 (0, 0)) := by rw [hw4]; exact al_neww rfl _
  have hb4 : Below w3.heap.size w3 w4 := by rw [hw4]; exact Below.al (Below.refl _ _) _
  have hX := blkKeep2 hb4 hX3
  have hY := blkKeep2 hb4 hY3
  have bw : Below w.heap.size w w4 := b3.trans (hb4.mono b3.size)
  rw [← hw4]
  clear hw4 hb4 hX3 hY3 b3
  obtain ⟨sx0, sx1, _, _⟩ := cells2 hX
  obtain ⟨dx0, dx1, _, _⟩ := cells2 hY
  obtain ⟨⟨f0, f1, f2, f3, f4, f5⟩, _⟩ := cells6 hF
  refine Lib.hid ?_
  go_wp2_with (with_reducible refine stop_op (o := ⟨some 27, _, _, _, _, _⟩) ?_)
  obtain ⟨w5, hw5⟩ : ∃ x, x = w4.alloc (.cells #[.int .u64 (dh : Nat), .int .u64 (dl : Nat)] 25) := ⟨_, rfl⟩
  have hL5 : w5.heap[w4.heap.size]? = some (.cells #[.int .u64 (dh : Nat), .int .u64 (dl : Nat)] 25 (0, 0)) := by rw [hw5]; exact al_neww rfl _
  have hA5 : AdrsAt w5 w4.heap.size 0 [((dh : Int), (dl : Int))] := by
    obtain ⟨a0, a1, _, _⟩ := cells2 hL5
    intro k a h
    match k, h with
    | 0, h => obtain rfl : _ = a := by simpa using h
              exact ⟨a0, a1, wa, wb⟩
    | k + 1, h => simp at h
  have ch := has_any false w4.heap.size 0 1 1 _ rfl (by omega) hA5
  rw [show hasP false [((dh : Int), (dl : Int))] = true by simp [hasP, hd4]] at ch
  simp only [famCells, if_true, if_false, Bool.false_eq_true] at ch
  have hbx : Below w4.heap.size w4 w5 := by rw [hw5]; exact Below.al (Below.refl _ _) _
  rw [← hw5]
  clear hw5 hA5 hL5
  have hXn := blkKeep2 hbx hX
  have hYn := blkKeep2 hbx hY
  have hFn := blkKeep2 hbx hF
  have bwn : Below w.heap.size w w5 := bw.trans (hbx.mono bw.size)
  clear hbx hX hY hF bw sx0 sx1 dx0 dx1 f0 f1 f2 f3 f4 f5
  have hX := hXn
  have hY := hYn
  have hF := hFn
  have bw := bwn
  clear hXn hYn hFn bwn
  obtain ⟨sx0, sx1, _, _⟩ := cells2 hX
  obtain ⟨dx0, dx1, _, _⟩ := cells2 hY
  obtain ⟨⟨f0, f1, f2, f3, f4, f5⟩, _⟩ := cells6 hF
  refine Lib.hid ?_
  go_wp2_with (go_at_call 29; refine ch.mono ?_; rintro e w6 ⟨rfl, hbx⟩; refine Hid.out ?_)
  have hXn := blkKeep2 hbx hX
  have hYn := blkKeep2 hbx hY
  have hFn := blkKeep2 hbx hF
  have bwn : Below w.heap.size w w6 := bw.trans (hbx.mono bw.size)
  clear hbx hX hY hF bw sx0 sx1 dx0 dx1 f0 f1 f2 f3 f4 f5
  have hX := hXn
  have hY := hYn
  have hF := hFn
  have bw := bwn
  clear hXn hYn hFn bwn
  obtain ⟨sx0, sx1, _, _⟩ := cells2 hX
  obtain ⟨dx0, dx1, _, _⟩ := cells2 hY
  obtain ⟨⟨f0, f1, f2, f3, f4, f5⟩, _⟩ := cells6 hF
  clear ch
  refine Lib.hid ?_
  go_wp2_with (first | (go_at_call_of 31 (Value.int IntKind.i64 44); refine (cA _).mono ?_; rintro e w' ⟨rfl, hw'⟩; subst hw') | (go_at_call_of 31 (Value.int IntKind.i64 ttl); refine (cB _).mono ?_; rintro e w' ⟨rfl, hw'⟩; subst hw') | (go_at_call 48; refine (cc _).mono ?_; rintro e w7 ⟨rfl, hbx⟩))
  go_ret2
  exact ⟨rfl, bw⟩

set_option maxHeartbeats 4000000 in
set_option maxRecDepth 100000 in
theorem pk4_5 (A : Option Addr) (n c : Nat) (l : List UInt8) (sh sl dh dl : Nat) (vp ttl : Int) (h1 : sh < 18446744073709551616) (h2 : sl < 18446744073709551616) (h3 : dh < 18446744073709551616) (h4 : dl < 18446744073709551616) (hs4 : is4I (sh : Int) (sl : Int) = true) {w : World} (h : BytArg w A n c l) (hm : n ≤ 65536) (hd4 : is4I (dh : Int) (dl : Int) = true) (hp : byteP vp = true) (ht : byteP ttl = true) (hq : vp ≠ 44) (hk : carriesP false vp = false) :
    Calls Try.prog 21 #[.agg #[.int .u64 (sh : Nat), .int .u64 (sl : Nat)], .agg #[.int .u64 (dh : Nat), .int .u64 (dl : Nat)], .int .i64 vp, .int .i64 ttl, .slice A n c] w fun e w' => e = .returned (.tuple #[.slice none 0 0, .int .i64 1]) ∧ Below w.heap.size w w' := by
  have ci := fun (W : World) => is4_any (sh : Int) (sl : Int) ⟨by omega, by omega⟩ ⟨by omega, by omega⟩ W
  rw [hs4] at ci
  have cf := fun (W : World) => fam_any false W
  have cA := fun (W : World) => isbyte_any vp W
  have cB := fun (W : World) => isbyte_any ttl W
  have cc := fun (W : World) => carries_any false vp W
  simp only [famCells, if_true, if_false, Bool.false_eq_true] at cf cc
  obtain ⟨N, hN⟩ : ∃ N, N = 20 + n := ⟨_, rfl⟩
  have wN : IntKind.i64.wrap (20 + (n : Int)) = (N : Int) := by rw [IntKind.wrap_i64]; omega
  have nI : (n : Int) ≤ 65536 := by omega
  have NI : (N : Int) ≤ 70000 := by omega
  have wa : Word (dh : Int) := ⟨by omega, by omega⟩
  have wb : Word (dl : Int) := ⟨by omega, by omega⟩
  clear hs4 h1 h2 h3 h4
  rw [hp] at cA
  rw [ht] at cB
  have q44 : (vp == 44) = false := by simp [hq]
  rw [hk] at cc
  clear h hN
  go_enter Try.func21, Try.ntmps21
  go_wp2_with (with_reducible refine stop_op (o := ⟨some 15, _, _, _, _, _⟩) ?_)
  obtain ⟨w1, hw1⟩ : ∃ x, x = (w.alloc (.cells #[.int .u64 (sh : Nat), .int .u64 (sl : Nat)] 25)).alloc (.cells #[.int .u64 (dh : Nat), .int .u64 (dl : Nat)] 25) := ⟨_, rfl⟩
  have hX : w1.heap[w.heap.size]? = some (.cells #[.int .u64 (sh : Nat), .int .u64 (sl : Nat)] 25 (0, 0)) := by rw [hw1, al_oldw (by simp)]; exact al_neww rfl _
  have hY : w1.heap[w.heap.size + 1]? = some (.cells #[.int .u64 (dh : Nat), .int .u64 (dl : Nat)] 25 (0, 0)) := by rw [hw1]; exact al_neww (by simp) _
  have bw : Below w.heap.size w w1 := by rw [hw1]; exact Below.al (Below.al (Below.refl _ _) _) _
  rw [← hw1]
  clear hw1
  obtain ⟨sx0, sx1, _, _⟩ := cells2 hX
  obtain ⟨dx0, dx1, _, _⟩ := cells2 hY
  refine Lib.hid ?_
  go_wp2_with (go_at_call 59; refine (ci _).mono ?_; rintro e w2 ⟨rfl, hb2⟩; refine Hid.out ?_)
  have hX2 := blkKeep2 hb2 hX
  have hY2 := blkKeep2 hb2 hY
  have b2 : Below w.heap.size w w2 := bw.trans (hb2.mono bw.size)
  clear hb2 hX hY bw sx0 sx1 dx0 dx1 ci
  refine Lib.hid ?_
  go_wp2_with (go_at_call 28; refine (cf _).mono ?_; rintro e w3 ⟨rfl, hb3⟩; refine Hid.out ?_)
  have hX3 := blkKeep2 hb3 hX2
  have hY3 := blkKeep2 hb3 hY2
  have b3 : Below w.heap.size w w3 := b2.trans (hb3.mono b2.size)
  clear hb3 hX2 hY2 b2 cf
  refine Lib.hid ?_
  go_wp2_with (with_reducible refine stop_op (o := ⟨some 19, _, _, _, _, _⟩) ?_)
  obtain ⟨w4, hw4⟩ : ∃ x, x = w3.alloc (.cells #[.bool false, .int .i64 20, .int .i64 8, .int .i64 9, .int .i64 12, .int .i64 4] 69) := ⟨_, rfl⟩
  have hF : w4.heap[w3.heap.size]? = some (.cells #[.bool false, .int .i64 20, .int .i64 8, .int .i64 9, .int .i64 12, .int .i64 4] 69 (0, 0)) := by rw [hw4]; exact al_neww rfl _
  have hb4 : Below w3.heap.size w3 w4 := by rw [hw4]; exact Below.al (Below.refl _ _) _
  have hX := blkKeep2 hb4 hX3
  have hY := blkKeep2 hb4 hY3
  have bw : Below w.heap.size w w4 := b3.trans (hb4.mono b3.size)
  rw [← hw4]
  clear hw4 hb4 hX3 hY3 b3
  obtain ⟨sx0, sx1, _, _⟩ := cells2 hX
  obtain ⟨dx0, dx1, _, _⟩ := cells2 hY
  obtain ⟨⟨f0, f1, f2, f3, f4, f5⟩, _⟩ := cells6 hF
  refine Lib.hid ?_
  go_wp2_with (with_reducible refine stop_op (o := ⟨some 27, _, _, _, _, _⟩) ?_)
  obtain ⟨w5, hw5⟩ : ∃ x, x = w4.alloc (.cells #[.int .u64 (dh : Nat), .int .u64 (dl : Nat)] 25) := ⟨_, rfl⟩
  have hL5 : w5.heap[w4.heap.size]? = some (.cells #[.int .u64 (dh : Nat), .int .u64 (dl : Nat)] 25 (0, 0)) := by rw [hw5]; exact al_neww rfl _
  have hA5 : AdrsAt w5 w4.heap.size 0 [((dh : Int), (dl : Int))] := by
    obtain ⟨a0, a1, _, _⟩ := cells2 hL5
    intro k a h
    match k, h with
    | 0, h => obtain rfl : _ = a := by simpa using h
              exact ⟨a0, a1, wa, wb⟩
    | k + 1, h => simp at h
  have ch := has_any false w4.heap.size 0 1 1 _ rfl (by omega) hA5
  rw [show hasP false [((dh : Int), (dl : Int))] = true by simp [hasP, hd4]] at ch
  simp only [famCells, if_true, if_false, Bool.false_eq_true] at ch
  have hbx : Below w4.heap.size w4 w5 := by rw [hw5]; exact Below.al (Below.refl _ _) _
  rw [← hw5]
  clear hw5 hA5 hL5
  have hXn := blkKeep2 hbx hX
  have hYn := blkKeep2 hbx hY
  have hFn := blkKeep2 hbx hF
  have bwn : Below w.heap.size w w5 := bw.trans (hbx.mono bw.size)
  clear hbx hX hY hF bw sx0 sx1 dx0 dx1 f0 f1 f2 f3 f4 f5
  have hX := hXn
  have hY := hYn
  have hF := hFn
  have bw := bwn
  clear hXn hYn hFn bwn
  obtain ⟨sx0, sx1, _, _⟩ := cells2 hX
  obtain ⟨dx0, dx1, _, _⟩ := cells2 hY
  obtain ⟨⟨f0, f1, f2, f3, f4, f5⟩, _⟩ := cells6 hF
  refine Lib.hid ?_
  go_wp2_with (go_at_call 29; refine ch.mono ?_; rintro e w6 ⟨rfl, hbx⟩; refine Hid.out ?_)
  have hXn := blkKeep2 hbx hX
  have hYn := blkKeep2 hbx hY
  have hFn := blkKeep2 hbx hF
  have bwn : Below w.heap.size w w6 := bw.trans (hbx.mono bw.size)
  clear hbx hX hY hF bw sx0 sx1 dx0 dx1 f0 f1 f2 f3 f4 f5
  have hX := hXn
  have hY := hYn
  have hF := hFn
  have bw := bwn
  clear hXn hYn hFn bwn
  obtain ⟨sx0, sx1, _, _⟩ := cells2 hX
  obtain ⟨dx0, dx1, _, _⟩ := cells2 hY
  obtain ⟨⟨f0, f1, f2, f3, f4, f5⟩, _⟩ := cells6 hF
  clear ch
  refine Lib.hid ?_
  go_wp2_with (first | (go_at_call_of 31 (Value.int IntKind.i64 vp); refine (cA _).mono ?_; rintro e w' ⟨rfl, hw'⟩; subst hw') | (go_at_call_of 31 (Value.int IntKind.i64 ttl); refine (cB _).mono ?_; rintro e w' ⟨rfl, hw'⟩; subst hw') | (go_at_call 48; refine (cc _).mono ?_; rintro e w7 ⟨rfl, hbx⟩))
  go_ret2
  exact ⟨rfl, bw.trans (hbx.mono bw.size)⟩

set_option maxHeartbeats 4000000 in
set_option maxRecDepth 100000 in
theorem pk4_6 (A : Option Addr) (n c : Nat) (l : List UInt8) (sh sl dh dl : Nat) (vp ttl : Int) (h1 : sh < 18446744073709551616) (h2 : sl < 18446744073709551616) (h3 : dh < 18446744073709551616) (h4 : dl < 18446744073709551616) (hs4 : is4I (sh : Int) (sl : Int) = true) {w : World} (h : BytArg w A n c l) (hm : n ≤ 65536) (hd4 : is4I (dh : Int) (dl : Int) = true) (hp : byteP vp = true) (ht : byteP ttl = true) (hq : vp ≠ 44) (hk : carriesP false vp = true) (hz : 2048 < 20 + n) :
    Calls Try.prog 21 #[.agg #[.int .u64 (sh : Nat), .int .u64 (sl : Nat)], .agg #[.int .u64 (dh : Nat), .int .u64 (dl : Nat)], .int .i64 vp, .int .i64 ttl, .slice A n c] w fun e w' => e = .returned (.tuple #[.slice none 0 0, .int .i64 1]) ∧ Below w.heap.size w w' := by
  have ci := fun (W : World) => is4_any (sh : Int) (sl : Int) ⟨by omega, by omega⟩ ⟨by omega, by omega⟩ W
  rw [hs4] at ci
  have cf := fun (W : World) => fam_any false W
  have cA := fun (W : World) => isbyte_any vp W
  have cB := fun (W : World) => isbyte_any ttl W
  have cc := fun (W : World) => carries_any false vp W
  simp only [famCells, if_true, if_false, Bool.false_eq_true] at cf cc
  obtain ⟨N, hN⟩ : ∃ N, N = 20 + n := ⟨_, rfl⟩
  have wN : IntKind.i64.wrap (20 + (n : Int)) = (N : Int) := by rw [IntKind.wrap_i64]; omega
  have nI : (n : Int) ≤ 65536 := by omega
  have NI : (N : Int) ≤ 70000 := by omega
  have wa : Word (dh : Int) := ⟨by omega, by omega⟩
  have wb : Word (dl : Int) := ⟨by omega, by omega⟩
  clear hs4 h1 h2 h3 h4
  rw [hp] at cA
  rw [ht] at cB
  have q44 : (vp == 44) = false := by simp [hq]
  rw [hk] at cc
  have g1 : decide ((2048 : Int) < (N : Int)) = true := by simp; omega
  have g2 : (2048 : Int) < (N : Int) := by omega
  have g3 : decide (2048 < N) = true := by simp; omega
  clear h hN
  go_enter Try.func21, Try.ntmps21
  go_wp2_with (with_reducible refine stop_op (o := ⟨some 15, _, _, _, _, _⟩) ?_)
  obtain ⟨w1, hw1⟩ : ∃ x, x = (w.alloc (.cells #[.int .u64 (sh : Nat), .int .u64 (sl : Nat)] 25)).alloc (.cells #[.int .u64 (dh : Nat), .int .u64 (dl : Nat)] 25) := ⟨_, rfl⟩
  have hX : w1.heap[w.heap.size]? = some (.cells #[.int .u64 (sh : Nat), .int .u64 (sl : Nat)] 25 (0, 0)) := by rw [hw1, al_oldw (by simp)]; exact al_neww rfl _
  have hY : w1.heap[w.heap.size + 1]? = some (.cells #[.int .u64 (dh : Nat), .int .u64 (dl : Nat)] 25 (0, 0)) := by rw [hw1]; exact al_neww (by simp) _
  have bw : Below w.heap.size w w1 := by rw [hw1]; exact Below.al (Below.al (Below.refl _ _) _) _
  rw [← hw1]
  clear hw1
  obtain ⟨sx0, sx1, _, _⟩ := cells2 hX
  obtain ⟨dx0, dx1, _, _⟩ := cells2 hY
  refine Lib.hid ?_
  go_wp2_with (go_at_call 59; refine (ci _).mono ?_; rintro e w2 ⟨rfl, hb2⟩; refine Hid.out ?_)
  have hX2 := blkKeep2 hb2 hX
  have hY2 := blkKeep2 hb2 hY
  have b2 : Below w.heap.size w w2 := bw.trans (hb2.mono bw.size)
  clear hb2 hX hY bw sx0 sx1 dx0 dx1 ci
  refine Lib.hid ?_
  go_wp2_with (go_at_call 28; refine (cf _).mono ?_; rintro e w3 ⟨rfl, hb3⟩; refine Hid.out ?_)
  have hX3 := blkKeep2 hb3 hX2
  have hY3 := blkKeep2 hb3 hY2
  have b3 : Below w.heap.size w w3 := b2.trans (hb3.mono b2.size)
  clear hb3 hX2 hY2 b2 cf
  refine Lib.hid ?_
  go_wp2_with (with_reducible refine stop_op (o := ⟨some 19, _, _, _, _, _⟩) ?_)
  obtain ⟨w4, hw4⟩ : ∃ x, x = w3.alloc (.cells #[.bool false, .int .i64 20, .int .i64 8, .int .i64 9, .int .i64 12, .int .i64 4] 69) := ⟨_, rfl⟩
  have hF : w4.heap[w3.heap.size]? = some (.cells #[.bool false, .int .i64 20, .int .i64 8, .int .i64 9, .int .i64 12, .int .i64 4] 69 (0, 0)) := by rw [hw4]; exact al_neww rfl _
  have hb4 : Below w3.heap.size w3 w4 := by rw [hw4]; exact Below.al (Below.refl _ _) _
  have hX := blkKeep2 hb4 hX3
  have hY := blkKeep2 hb4 hY3
  have bw : Below w.heap.size w w4 := b3.trans (hb4.mono b3.size)
  rw [← hw4]
  clear hw4 hb4 hX3 hY3 b3
  obtain ⟨sx0, sx1, _, _⟩ := cells2 hX
  obtain ⟨dx0, dx1, _, _⟩ := cells2 hY
  obtain ⟨⟨f0, f1, f2, f3, f4, f5⟩, _⟩ := cells6 hF
  refine Lib.hid ?_
  go_wp2_with (with_reducible refine stop_op (o := ⟨some 27, _, _, _, _, _⟩) ?_)
  obtain ⟨w5, hw5⟩ : ∃ x, x = w4.alloc (.cells #[.int .u64 (dh : Nat), .int .u64 (dl : Nat)] 25) := ⟨_, rfl⟩
  have hL5 : w5.heap[w4.heap.size]? = some (.cells #[.int .u64 (dh : Nat), .int .u64 (dl : Nat)] 25 (0, 0)) := by rw [hw5]; exact al_neww rfl _
  have hA5 : AdrsAt w5 w4.heap.size 0 [((dh : Int), (dl : Int))] := by
    obtain ⟨a0, a1, _, _⟩ := cells2 hL5
    intro k a h
    match k, h with
    | 0, h => obtain rfl : _ = a := by simpa using h
              exact ⟨a0, a1, wa, wb⟩
    | k + 1, h => simp at h
  have ch := has_any false w4.heap.size 0 1 1 _ rfl (by omega) hA5
  rw [show hasP false [((dh : Int), (dl : Int))] = true by simp [hasP, hd4]] at ch
  simp only [famCells, if_true, if_false, Bool.false_eq_true] at ch
  have hbx : Below w4.heap.size w4 w5 := by rw [hw5]; exact Below.al (Below.refl _ _) _
  rw [← hw5]
  clear hw5 hA5 hL5
  have hXn := blkKeep2 hbx hX
  have hYn := blkKeep2 hbx hY
  have hFn := blkKeep2 hbx hF
  have bwn : Below w.heap.size w w5 := bw.trans (hbx.mono bw.size)
  clear hbx hX hY hF bw sx0 sx1 dx0 dx1 f0 f1 f2 f3 f4 f5
  have hX := hXn
  have hY := hYn
  have hF := hFn
  have bw := bwn
  clear hXn hYn hFn bwn
  obtain ⟨sx0, sx1, _, _⟩ := cells2 hX
  obtain ⟨dx0, dx1, _, _⟩ := cells2 hY
  obtain ⟨⟨f0, f1, f2, f3, f4, f5⟩, _⟩ := cells6 hF
  refine Lib.hid ?_
  go_wp2_with (go_at_call 29; refine ch.mono ?_; rintro e w6 ⟨rfl, hbx⟩; refine Hid.out ?_)
  have hXn := blkKeep2 hbx hX
  have hYn := blkKeep2 hbx hY
  have hFn := blkKeep2 hbx hF
  have bwn : Below w.heap.size w w6 := bw.trans (hbx.mono bw.size)
  clear hbx hX hY hF bw sx0 sx1 dx0 dx1 f0 f1 f2 f3 f4 f5
  have hX := hXn
  have hY := hYn
  have hF := hFn
  have bw := bwn
  clear hXn hYn hFn bwn
  obtain ⟨sx0, sx1, _, _⟩ := cells2 hX
  obtain ⟨dx0, dx1, _, _⟩ := cells2 hY
  obtain ⟨⟨f0, f1, f2, f3, f4, f5⟩, _⟩ := cells6 hF
  clear ch
  refine Lib.hid ?_
  go_wp2_with (first | (go_at_call_of 31 (Value.int IntKind.i64 vp); refine (cA _).mono ?_; rintro e w' ⟨rfl, hw'⟩; subst hw') | (go_at_call_of 31 (Value.int IntKind.i64 ttl); refine (cB _).mono ?_; rintro e w' ⟨rfl, hw'⟩; subst hw') | (go_at_call 48; refine (cc _).mono ?_; rintro e w7 ⟨rfl, hbx⟩))
  go_ret2
  exact ⟨rfl, bw.trans (hbx.mono bw.size)⟩

set_option maxHeartbeats 4000000 in
set_option maxRecDepth 100000 in
theorem pk6_1 (A : Option Addr) (n c : Nat) (l : List UInt8) (sh sl dh dl : Nat) (vp ttl : Int) (h1 : sh < 18446744073709551616) (h2 : sl < 18446744073709551616) (h3 : dh < 18446744073709551616) (h4 : dl < 18446744073709551616) (hs4 : is4I (sh : Int) (sl : Int) = false) {w : World} (h : BytArg w A n c l) (hm : n ≤ 65536) (hd4 : is4I (dh : Int) (dl : Int) = true) :
    Calls Try.prog 21 #[.agg #[.int .u64 (sh : Nat), .int .u64 (sl : Nat)], .agg #[.int .u64 (dh : Nat), .int .u64 (dl : Nat)], .int .i64 vp, .int .i64 ttl, .slice A n c] w fun e w' => e = .returned (.tuple #[.slice none 0 0, .int .i64 1]) ∧ Below w.heap.size w w' := by
  have ci := fun (W : World) => is4_any (sh : Int) (sl : Int) ⟨by omega, by omega⟩ ⟨by omega, by omega⟩ W
  rw [hs4] at ci
  have cf := fun (W : World) => fam_any true W
  have cA := fun (W : World) => isbyte_any vp W
  have cB := fun (W : World) => isbyte_any ttl W
  have cc := fun (W : World) => carries_any true vp W
  simp only [famCells, if_true, if_false, Bool.false_eq_true] at cf cc
  obtain ⟨N, hN⟩ : ∃ N, N = 40 + n := ⟨_, rfl⟩
  have wN : IntKind.i64.wrap (40 + (n : Int)) = (N : Int) := by rw [IntKind.wrap_i64]; omega
  have nI : (n : Int) ≤ 65536 := by omega
  have NI : (N : Int) ≤ 70000 := by omega
  have wa : Word (dh : Int) := ⟨by omega, by omega⟩
  have wb : Word (dl : Int) := ⟨by omega, by omega⟩
  clear hs4 h1 h2 h3 h4
  clear h hN
  go_enter Try.func21, Try.ntmps21
  go_wp2_with (with_reducible refine stop_op (o := ⟨some 15, _, _, _, _, _⟩) ?_)
  obtain ⟨w1, hw1⟩ : ∃ x, x = (w.alloc (.cells #[.int .u64 (sh : Nat), .int .u64 (sl : Nat)] 25)).alloc (.cells #[.int .u64 (dh : Nat), .int .u64 (dl : Nat)] 25) := ⟨_, rfl⟩
  have hX : w1.heap[w.heap.size]? = some (.cells #[.int .u64 (sh : Nat), .int .u64 (sl : Nat)] 25 (0, 0)) := by rw [hw1, al_oldw (by simp)]; exact al_neww rfl _
  have hY : w1.heap[w.heap.size + 1]? = some (.cells #[.int .u64 (dh : Nat), .int .u64 (dl : Nat)] 25 (0, 0)) := by rw [hw1]; exact al_neww (by simp) _
  have bw : Below w.heap.size w w1 := by rw [hw1]; exact Below.al (Below.al (Below.refl _ _) _) _
  rw [← hw1]
  clear hw1
  obtain ⟨sx0, sx1, _, _⟩ := cells2 hX
  obtain ⟨dx0, dx1, _, _⟩ := cells2 hY
  refine Lib.hid ?_
  go_wp2_with (go_at_call 59; refine (ci _).mono ?_; rintro e w2 ⟨rfl, hb2⟩; refine Hid.out ?_)
  have hX2 := blkKeep2 hb2 hX
  have hY2 := blkKeep2 hb2 hY
  have b2 : Below w.heap.size w w2 := bw.trans (hb2.mono bw.size)
  clear hb2 hX hY bw sx0 sx1 dx0 dx1 ci
  refine Lib.hid ?_
  go_wp2_with (go_at_call 28; refine (cf _).mono ?_; rintro e w3 ⟨rfl, hb3⟩; refine Hid.out ?_)
  have hX3 := blkKeep2 hb3 hX2
  have hY3 := blkKeep2 hb3 hY2
  have b3 : Below w.heap.size w w3 := b2.trans (hb3.mono b2.size)
  clear hb3 hX2 hY2 b2 cf
  refine Lib.hid ?_
  go_wp2_with (with_reducible refine stop_op (o := ⟨some 19, _, _, _, _, _⟩) ?_)
  obtain ⟨w4, hw4⟩ : ∃ x, x = w3.alloc (.cells #[.bool true, .int .i64 40, .int .i64 7, .int .i64 6, .int .i64 8, .int .i64 16] 69) := ⟨_, rfl⟩
  have hF : w4.heap[w3.heap.size]? = some (.cells #[.bool true, .int .i64 40, .int .i64 7, .int .i64 6, .int .i64 8, .int .i64 16] 69 (0, 0)) := by rw [hw4]; exact al_neww rfl _
  have hb4 : Below w3.heap.size w3 w4 := by rw [hw4]; exact Below.al (Below.refl _ _) _
  have hX := blkKeep2 hb4 hX3
  have hY := blkKeep2 hb4 hY3
  have bw : Below w.heap.size w w4 := b3.trans (hb4.mono b3.size)
  rw [← hw4]
  clear hw4 hb4 hX3 hY3 b3
  obtain ⟨sx0, sx1, _, _⟩ := cells2 hX
  obtain ⟨dx0, dx1, _, _⟩ := cells2 hY
  obtain ⟨⟨f0, f1, f2, f3, f4, f5⟩, _⟩ := cells6 hF
  refine Lib.hid ?_
  go_wp2_with (with_reducible refine stop_op (o := ⟨some 27, _, _, _, _, _⟩) ?_)
  obtain ⟨w5, hw5⟩ : ∃ x, x = w4.alloc (.cells #[.int .u64 (dh : Nat), .int .u64 (dl : Nat)] 25) := ⟨_, rfl⟩
  have hL5 : w5.heap[w4.heap.size]? = some (.cells #[.int .u64 (dh : Nat), .int .u64 (dl : Nat)] 25 (0, 0)) := by rw [hw5]; exact al_neww rfl _
  have hA5 : AdrsAt w5 w4.heap.size 0 [((dh : Int), (dl : Int))] := by
    obtain ⟨a0, a1, _, _⟩ := cells2 hL5
    intro k a h
    match k, h with
    | 0, h => obtain rfl : _ = a := by simpa using h
              exact ⟨a0, a1, wa, wb⟩
    | k + 1, h => simp at h
  have ch := has_any true w4.heap.size 0 1 1 _ rfl (by omega) hA5
  rw [show hasP true [((dh : Int), (dl : Int))] = false by simp [hasP, hd4]] at ch
  simp only [famCells, if_true, if_false, Bool.false_eq_true] at ch
  have hbx : Below w4.heap.size w4 w5 := by rw [hw5]; exact Below.al (Below.refl _ _) _
  rw [← hw5]
  clear hw5 hA5 hL5
  have hXn := blkKeep2 hbx hX
  have hYn := blkKeep2 hbx hY
  have hFn := blkKeep2 hbx hF
  have bwn : Below w.heap.size w w5 := bw.trans (hbx.mono bw.size)
  clear hbx hX hY hF bw sx0 sx1 dx0 dx1 f0 f1 f2 f3 f4 f5
  have hX := hXn
  have hY := hYn
  have hF := hFn
  have bw := bwn
  clear hXn hYn hFn bwn
  obtain ⟨sx0, sx1, _, _⟩ := cells2 hX
  obtain ⟨dx0, dx1, _, _⟩ := cells2 hY
  obtain ⟨⟨f0, f1, f2, f3, f4, f5⟩, _⟩ := cells6 hF
  refine Lib.hid ?_
  go_wp2_with (go_at_call 29; refine ch.mono ?_; rintro e w6 ⟨rfl, hbx⟩; refine Hid.out ?_)
  have hXn := blkKeep2 hbx hX
  have hYn := blkKeep2 hbx hY
  have hFn := blkKeep2 hbx hF
  have bwn : Below w.heap.size w w6 := bw.trans (hbx.mono bw.size)
  clear hbx hX hY hF bw sx0 sx1 dx0 dx1 f0 f1 f2 f3 f4 f5
  have hX := hXn
  have hY := hYn
  have hF := hFn
  have bw := bwn
  clear hXn hYn hFn bwn
  obtain ⟨sx0, sx1, _, _⟩ := cells2 hX
  obtain ⟨dx0, dx1, _, _⟩ := cells2 hY
  obtain ⟨⟨f0, f1, f2, f3, f4, f5⟩, _⟩ := cells6 hF
  clear ch
  refine Lib.hid ?_
  go_wp2
  go_ret2
  exact ⟨rfl, bw⟩

set_option maxHeartbeats 4000000 in
set_option maxRecDepth 100000 in
theorem pk6_2 (A : Option Addr) (n c : Nat) (l : List UInt8) (sh sl dh dl : Nat) (vp ttl : Int) (h1 : sh < 18446744073709551616) (h2 : sl < 18446744073709551616) (h3 : dh < 18446744073709551616) (h4 : dl < 18446744073709551616) (hs4 : is4I (sh : Int) (sl : Int) = false) {w : World} (h : BytArg w A n c l) (hm : n ≤ 65536) (hd4 : is4I (dh : Int) (dl : Int) = false) (hp : byteP vp = false) :
    Calls Try.prog 21 #[.agg #[.int .u64 (sh : Nat), .int .u64 (sl : Nat)], .agg #[.int .u64 (dh : Nat), .int .u64 (dl : Nat)], .int .i64 vp, .int .i64 ttl, .slice A n c] w fun e w' => e = .returned (.tuple #[.slice none 0 0, .int .i64 1]) ∧ Below w.heap.size w w' := by
  have ci := fun (W : World) => is4_any (sh : Int) (sl : Int) ⟨by omega, by omega⟩ ⟨by omega, by omega⟩ W
  rw [hs4] at ci
  have cf := fun (W : World) => fam_any true W
  have cA := fun (W : World) => isbyte_any vp W
  have cB := fun (W : World) => isbyte_any ttl W
  have cc := fun (W : World) => carries_any true vp W
  simp only [famCells, if_true, if_false, Bool.false_eq_true] at cf cc
  obtain ⟨N, hN⟩ : ∃ N, N = 40 + n := ⟨_, rfl⟩
  have wN : IntKind.i64.wrap (40 + (n : Int)) = (N : Int) := by rw [IntKind.wrap_i64]; omega
  have nI : (n : Int) ≤ 65536 := by omega
  have NI : (N : Int) ≤ 70000 := by omega
  have wa : Word (dh : Int) := ⟨by omega, by omega⟩
  have wb : Word (dl : Int) := ⟨by omega, by omega⟩
  clear hs4 h1 h2 h3 h4
  rw [hp] at cA
  clear h hN
  go_enter Try.func21, Try.ntmps21
  go_wp2_with (with_reducible refine stop_op (o := ⟨some 15, _, _, _, _, _⟩) ?_)
  obtain ⟨w1, hw1⟩ : ∃ x, x = (w.alloc (.cells #[.int .u64 (sh : Nat), .int .u64 (sl : Nat)] 25)).alloc (.cells #[.int .u64 (dh : Nat), .int .u64 (dl : Nat)] 25) := ⟨_, rfl⟩
  have hX : w1.heap[w.heap.size]? = some (.cells #[.int .u64 (sh : Nat), .int .u64 (sl : Nat)] 25 (0, 0)) := by rw [hw1, al_oldw (by simp)]; exact al_neww rfl _
  have hY : w1.heap[w.heap.size + 1]? = some (.cells #[.int .u64 (dh : Nat), .int .u64 (dl : Nat)] 25 (0, 0)) := by rw [hw1]; exact al_neww (by simp) _
  have bw : Below w.heap.size w w1 := by rw [hw1]; exact Below.al (Below.al (Below.refl _ _) _) _
  rw [← hw1]
  clear hw1
  obtain ⟨sx0, sx1, _, _⟩ := cells2 hX
  obtain ⟨dx0, dx1, _, _⟩ := cells2 hY
  refine Lib.hid ?_
  go_wp2_with (go_at_call 59; refine (ci _).mono ?_; rintro e w2 ⟨rfl, hb2⟩; refine Hid.out ?_)
  have hX2 := blkKeep2 hb2 hX
  have hY2 := blkKeep2 hb2 hY
  have b2 : Below w.heap.size w w2 := bw.trans (hb2.mono bw.size)
  clear hb2 hX hY bw sx0 sx1 dx0 dx1 ci
  refine Lib.hid ?_
  go_wp2_with (go_at_call 28; refine (cf _).mono ?_; rintro e w3 ⟨rfl, hb3⟩; refine Hid.out ?_)
  have hX3 := blkKeep2 hb3 hX2
  have hY3 := blkKeep2 hb3 hY2
  have b3 : Below w.heap.size w w3 := b2.trans (hb3.mono b2.size)
  clear hb3 hX2 hY2 b2 cf
  refine Lib.hid ?_
  go_wp2_with (with_reducible refine stop_op (o := ⟨some 19, _, _, _, _, _⟩) ?_)
  obtain ⟨w4, hw4⟩ : ∃ x, x = w3.alloc (.cells #[.bool true, .int .i64 40, .int .i64 7, .int .i64 6, .int .i64 8, .int .i64 16] 69) := ⟨_, rfl⟩
  have hF : w4.heap[w3.heap.size]? = some (.cells #[.bool true, .int .i64 40, .int .i64 7, .int .i64 6, .int .i64 8, .int .i64 16] 69 (0, 0)) := by rw [hw4]; exact al_neww rfl _
  have hb4 : Below w3.heap.size w3 w4 := by rw [hw4]; exact Below.al (Below.refl _ _) _
  have hX := blkKeep2 hb4 hX3
  have hY := blkKeep2 hb4 hY3
  have bw : Below w.heap.size w w4 := b3.trans (hb4.mono b3.size)
  rw [← hw4]
  clear hw4 hb4 hX3 hY3 b3
  obtain ⟨sx0, sx1, _, _⟩ := cells2 hX
  obtain ⟨dx0, dx1, _, _⟩ := cells2 hY
  obtain ⟨⟨f0, f1, f2, f3, f4, f5⟩, _⟩ := cells6 hF
  refine Lib.hid ?_
  go_wp2_with (with_reducible refine stop_op (o := ⟨some 27, _, _, _, _, _⟩) ?_)
  obtain ⟨w5, hw5⟩ : ∃ x, x = w4.alloc (.cells #[.int .u64 (dh : Nat), .int .u64 (dl : Nat)] 25) := ⟨_, rfl⟩
  have hL5 : w5.heap[w4.heap.size]? = some (.cells #[.int .u64 (dh : Nat), .int .u64 (dl : Nat)] 25 (0, 0)) := by rw [hw5]; exact al_neww rfl _
  have hA5 : AdrsAt w5 w4.heap.size 0 [((dh : Int), (dl : Int))] := by
    obtain ⟨a0, a1, _, _⟩ := cells2 hL5
    intro k a h
    match k, h with
    | 0, h => obtain rfl : _ = a := by simpa using h
              exact ⟨a0, a1, wa, wb⟩
    | k + 1, h => simp at h
  have ch := has_any true w4.heap.size 0 1 1 _ rfl (by omega) hA5
  rw [show hasP true [((dh : Int), (dl : Int))] = true by simp [hasP, hd4]] at ch
  simp only [famCells, if_true, if_false, Bool.false_eq_true] at ch
  have hbx : Below w4.heap.size w4 w5 := by rw [hw5]; exact Below.al (Below.refl _ _) _
  rw [← hw5]
  clear hw5 hA5 hL5
  have hXn := blkKeep2 hbx hX
  have hYn := blkKeep2 hbx hY
  have hFn := blkKeep2 hbx hF
  have bwn : Below w.heap.size w w5 := bw.trans (hbx.mono bw.size)
  clear hbx hX hY hF bw sx0 sx1 dx0 dx1 f0 f1 f2 f3 f4 f5
  have hX := hXn
  have hY := hYn
  have hF := hFn
  have bw := bwn
  clear hXn hYn hFn bwn
  obtain ⟨sx0, sx1, _, _⟩ := cells2 hX
  obtain ⟨dx0, dx1, _, _⟩ := cells2 hY
  obtain ⟨⟨f0, f1, f2, f3, f4, f5⟩, _⟩ := cells6 hF
  refine Lib.hid ?_
  go_wp2_with (go_at_call 29; refine ch.mono ?_; rintro e w6 ⟨rfl, hbx⟩; refine Hid.out ?_)
  have hXn := blkKeep2 hbx hX
  have hYn := blkKeep2 hbx hY
  have hFn := blkKeep2 hbx hF
  have bwn : Below w.heap.size w w6 := bw.trans (hbx.mono bw.size)
  clear hbx hX hY hF bw sx0 sx1 dx0 dx1 f0 f1 f2 f3 f4 f5
  have hX := hXn
  have hY := hYn
  have hF := hFn
  have bw := bwn
  clear hXn hYn hFn bwn
  obtain ⟨sx0, sx1, _, _⟩ := cells2 hX
  obtain ⟨dx0, dx1, _, _⟩ := cells2 hY
  obtain ⟨⟨f0, f1, f2, f3, f4, f5⟩, _⟩ := cells6 hF
  clear ch
  refine Lib.hid ?_
  go_wp2_with (first | (go_at_call_of 31 (Value.int IntKind.i64 vp); refine (cA _).mono ?_; rintro e w' ⟨rfl, hw'⟩; subst hw') | (go_at_call_of 31 (Value.int IntKind.i64 ttl); refine (cB _).mono ?_; rintro e w' ⟨rfl, hw'⟩; subst hw') | (go_at_call 48; refine (cc _).mono ?_; rintro e w7 ⟨rfl, hbx⟩))
  go_ret2
  exact ⟨rfl, bw⟩

set_option maxHeartbeats 4000000 in
set_option maxRecDepth 100000 in
theorem pk6_3 (A : Option Addr) (n c : Nat) (l : List UInt8) (sh sl dh dl : Nat) (vp ttl : Int) (h1 : sh < 18446744073709551616) (h2 : sl < 18446744073709551616) (h3 : dh < 18446744073709551616) (h4 : dl < 18446744073709551616) (hs4 : is4I (sh : Int) (sl : Int) = false) {w : World} (h : BytArg w A n c l) (hm : n ≤ 65536) (hd4 : is4I (dh : Int) (dl : Int) = false) (hp : byteP vp = true) (ht : byteP ttl = false) :
    Calls Try.prog 21 #[.agg #[.int .u64 (sh : Nat), .int .u64 (sl : Nat)], .agg #[.int .u64 (dh : Nat), .int .u64 (dl : Nat)], .int .i64 vp, .int .i64 ttl, .slice A n c] w fun e w' => e = .returned (.tuple #[.slice none 0 0, .int .i64 1]) ∧ Below w.heap.size w w' := by
  have ci := fun (W : World) => is4_any (sh : Int) (sl : Int) ⟨by omega, by omega⟩ ⟨by omega, by omega⟩ W
  rw [hs4] at ci
  have cf := fun (W : World) => fam_any true W
  have cA := fun (W : World) => isbyte_any vp W
  have cB := fun (W : World) => isbyte_any ttl W
  have cc := fun (W : World) => carries_any true vp W
  simp only [famCells, if_true, if_false, Bool.false_eq_true] at cf cc
  obtain ⟨N, hN⟩ : ∃ N, N = 40 + n := ⟨_, rfl⟩
  have wN : IntKind.i64.wrap (40 + (n : Int)) = (N : Int) := by rw [IntKind.wrap_i64]; omega
  have nI : (n : Int) ≤ 65536 := by omega
  have NI : (N : Int) ≤ 70000 := by omega
  have wa : Word (dh : Int) := ⟨by omega, by omega⟩
  have wb : Word (dl : Int) := ⟨by omega, by omega⟩
  clear hs4 h1 h2 h3 h4
  rw [hp] at cA
  rw [ht] at cB
  clear h hN
  go_enter Try.func21, Try.ntmps21
  go_wp2_with (with_reducible refine stop_op (o := ⟨some 15, _, _, _, _, _⟩) ?_)
  obtain ⟨w1, hw1⟩ : ∃ x, x = (w.alloc (.cells #[.int .u64 (sh : Nat), .int .u64 (sl : Nat)] 25)).alloc (.cells #[.int .u64 (dh : Nat), .int .u64 (dl : Nat)] 25) := ⟨_, rfl⟩
  have hX : w1.heap[w.heap.size]? = some (.cells #[.int .u64 (sh : Nat), .int .u64 (sl : Nat)] 25 (0, 0)) := by rw [hw1, al_oldw (by simp)]; exact al_neww rfl _
  have hY : w1.heap[w.heap.size + 1]? = some (.cells #[.int .u64 (dh : Nat), .int .u64 (dl : Nat)] 25 (0, 0)) := by rw [hw1]; exact al_neww (by simp) _
  have bw : Below w.heap.size w w1 := by rw [hw1]; exact Below.al (Below.al (Below.refl _ _) _) _
  rw [← hw1]
  clear hw1
  obtain ⟨sx0, sx1, _, _⟩ := cells2 hX
  obtain ⟨dx0, dx1, _, _⟩ := cells2 hY
  refine Lib.hid ?_
  go_wp2_with (go_at_call 59; refine (ci _).mono ?_; rintro e w2 ⟨rfl, hb2⟩; refine Hid.out ?_)
  have hX2 := blkKeep2 hb2 hX
  have hY2 := blkKeep2 hb2 hY
  have b2 : Below w.heap.size w w2 := bw.trans (hb2.mono bw.size)
  clear hb2 hX hY bw sx0 sx1 dx0 dx1 ci
  refine Lib.hid ?_
  go_wp2_with (go_at_call 28; refine (cf _).mono ?_; rintro e w3 ⟨rfl, hb3⟩; refine Hid.out ?_)
  have hX3 := blkKeep2 hb3 hX2
  have hY3 := blkKeep2 hb3 hY2
  have b3 : Below w.heap.size w w3 := b2.trans (hb3.mono b2.size)
  clear hb3 hX2 hY2 b2 cf
  refine Lib.hid ?_
  go_wp2_with (with_reducible refine stop_op (o := ⟨some 19, _, _, _, _, _⟩) ?_)
  obtain ⟨w4, hw4⟩ : ∃ x, x = w3.alloc (.cells #[.bool true, .int .i64 40, .int .i64 7, .int .i64 6, .int .i64 8, .int .i64 16] 69) := ⟨_, rfl⟩
  have hF : w4.heap[w3.heap.size]? = some (.cells #[.bool true, .int .i64 40, .int .i64 7, .int .i64 6, .int .i64 8, .int .i64 16] 69 (0, 0)) := by rw [hw4]; exact al_neww rfl _
  have hb4 : Below w3.heap.size w3 w4 := by rw [hw4]; exact Below.al (Below.refl _ _) _
  have hX := blkKeep2 hb4 hX3
  have hY := blkKeep2 hb4 hY3
  have bw : Below w.heap.size w w4 := b3.trans (hb4.mono b3.size)
  rw [← hw4]
  clear hw4 hb4 hX3 hY3 b3
  obtain ⟨sx0, sx1, _, _⟩ := cells2 hX
  obtain ⟨dx0, dx1, _, _⟩ := cells2 hY
  obtain ⟨⟨f0, f1, f2, f3, f4, f5⟩, _⟩ := cells6 hF
  refine Lib.hid ?_
  go_wp2_with (with_reducible refine stop_op (o := ⟨some 27, _, _, _, _, _⟩) ?_)
  obtain ⟨w5, hw5⟩ : ∃ x, x = w4.alloc (.cells #[.int .u64 (dh : Nat), .int .u64 (dl : Nat)] 25) := ⟨_, rfl⟩
  have hL5 : w5.heap[w4.heap.size]? = some (.cells #[.int .u64 (dh : Nat), .int .u64 (dl : Nat)] 25 (0, 0)) := by rw [hw5]; exact al_neww rfl _
  have hA5 : AdrsAt w5 w4.heap.size 0 [((dh : Int), (dl : Int))] := by
    obtain ⟨a0, a1, _, _⟩ := cells2 hL5
    intro k a h
    match k, h with
    | 0, h => obtain rfl : _ = a := by simpa using h
              exact ⟨a0, a1, wa, wb⟩
    | k + 1, h => simp at h
  have ch := has_any true w4.heap.size 0 1 1 _ rfl (by omega) hA5
  rw [show hasP true [((dh : Int), (dl : Int))] = true by simp [hasP, hd4]] at ch
  simp only [famCells, if_true, if_false, Bool.false_eq_true] at ch
  have hbx : Below w4.heap.size w4 w5 := by rw [hw5]; exact Below.al (Below.refl _ _) _
  rw [← hw5]
  clear hw5 hA5 hL5
  have hXn := blkKeep2 hbx hX
  have hYn := blkKeep2 hbx hY
  have hFn := blkKeep2 hbx hF
  have bwn : Below w.heap.size w w5 := bw.trans (hbx.mono bw.size)
  clear hbx hX hY hF bw sx0 sx1 dx0 dx1 f0 f1 f2 f3 f4 f5
  have hX := hXn
  have hY := hYn
  have hF := hFn
  have bw := bwn
  clear hXn hYn hFn bwn
  obtain ⟨sx0, sx1, _, _⟩ := cells2 hX
  obtain ⟨dx0, dx1, _, _⟩ := cells2 hY
  obtain ⟨⟨f0, f1, f2, f3, f4, f5⟩, _⟩ := cells6 hF
  refine Lib.hid ?_
  go_wp2_with (go_at_call 29; refine ch.mono ?_; rintro e w6 ⟨rfl, hbx⟩; refine Hid.out ?_)
  have hXn := blkKeep2 hbx hX
  have hYn := blkKeep2 hbx hY
  have hFn := blkKeep2 hbx hF
  have bwn : Below w.heap.size w w6 := bw.trans (hbx.mono bw.size)
  clear hbx hX hY hF bw sx0 sx1 dx0 dx1 f0 f1 f2 f3 f4 f5
  have hX := hXn
  have hY := hYn
  have hF := hFn
  have bw := bwn
  clear hXn hYn hFn bwn
  obtain ⟨sx0, sx1, _, _⟩ := cells2 hX
  obtain ⟨dx0, dx1, _, _⟩ := cells2 hY
  obtain ⟨⟨f0, f1, f2, f3, f4, f5⟩, _⟩ := cells6 hF
  clear ch
  refine Lib.hid ?_
  go_wp2_with (first | (go_at_call_of 31 (Value.int IntKind.i64 vp); refine (cA _).mono ?_; rintro e w' ⟨rfl, hw'⟩; subst hw') | (go_at_call_of 31 (Value.int IntKind.i64 ttl); refine (cB _).mono ?_; rintro e w' ⟨rfl, hw'⟩; subst hw') | (go_at_call 48; refine (cc _).mono ?_; rintro e w7 ⟨rfl, hbx⟩))
  go_ret2
  exact ⟨rfl, bw⟩

set_option maxHeartbeats 4000000 in
set_option maxRecDepth 100000 in
theorem pk6_4 (A : Option Addr) (n c : Nat) (l : List UInt8) (sh sl dh dl : Nat) (ttl : Int) (h1 : sh < 18446744073709551616) (h2 : sl < 18446744073709551616) (h3 : dh < 18446744073709551616) (h4 : dl < 18446744073709551616) (hs4 : is4I (sh : Int) (sl : Int) = false) {w : World} (h : BytArg w A n c l) (hm : n ≤ 65536) (hd4 : is4I (dh : Int) (dl : Int) = false) (hp : byteP 44 = true) (ht : byteP ttl = true)  :
    Calls Try.prog 21 #[.agg #[.int .u64 (sh : Nat), .int .u64 (sl : Nat)], .agg #[.int .u64 (dh : Nat), .int .u64 (dl : Nat)], .int .i64 44, .int .i64 ttl, .slice A n c] w fun e w' => e = .returned (.tuple #[.slice none 0 0, .int .i64 1]) ∧ Below w.heap.size w w' := by
  have ci := fun (W : World) => is4_any (sh : Int) (sl : Int) ⟨by omega, by omega⟩ ⟨by omega, by omega⟩ W
  rw [hs4] at ci
  have cf := fun (W : World) => fam_any true W
  have cA := fun (W : World) => isbyte_any 44 W
  have cB := fun (W : World) => isbyte_any ttl W
  have cc := fun (W : World) => carries_any true 44 W
  simp only [famCells, if_true, if_false, Bool.false_eq_true] at cf cc
  obtain ⟨N, hN⟩ : ∃ N, N = 40 + n := ⟨_, rfl⟩
  have wN : IntKind.i64.wrap (40 + (n : Int)) = (N : Int) := by rw [IntKind.wrap_i64]; omega
  have nI : (n : Int) ≤ 65536 := by omega
  have NI : (N : Int) ≤ 70000 := by omega
  have wa : Word (dh : Int) := ⟨by omega, by omega⟩
  have wb : Word (dl : Int) := ⟨by omega, by omega⟩
  clear hs4 h1 h2 h3 h4
  rw [hp] at cA
  rw [ht] at cB
  clear h hN
  go_enter Try.func21, Try.ntmps21
  go_wp2_with (with_reducible refine stop_op (o := ⟨some 15, _, _, _, _, _⟩) ?_)
  obtain ⟨w1, hw1⟩ : ∃ x, x = (w.alloc (.cells #[.int .u64 (sh : Nat), .int .u64 (sl : Nat)] 25)).alloc (.cells #[.int .u64 (dh : Nat), .int .u64 (dl : Nat)] 25) := ⟨_, rfl⟩
  have hX : w1.heap[w.heap.size]? = some (.cells #[.int .u64 (sh : Nat), .int .u64 (sl : Nat)] 25 (0, 0)) := by rw [hw1, al_oldw (by simp)]; exact al_neww rfl _
  have hY : w1.heap[w.heap.size + 1]? = some (.cells #[.int .u64 (dh : Nat), .int .u64 (dl : Nat)] 25 (0, 0)) := by rw [hw1]; exact al_neww (by simp) _
  have bw : Below w.heap.size w w1 := by rw [hw1]; exact Below.al (Below.al (Below.refl _ _) _) _
  rw [← hw1]
  clear hw1
  obtain ⟨sx0, sx1, _, _⟩ := cells2 hX
  obtain ⟨dx0, dx1, _, _⟩ := cells2 hY
  refine Lib.hid ?_
  go_wp2_with (go_at_call 59; refine (ci _).mono ?_; rintro e w2 ⟨rfl, hb2⟩; refine Hid.out ?_)
  have hX2 := blkKeep2 hb2 hX
  have hY2 := blkKeep2 hb2 hY
  have b2 : Below w.heap.size w w2 := bw.trans (hb2.mono bw.size)
  clear hb2 hX hY bw sx0 sx1 dx0 dx1 ci
  refine Lib.hid ?_
  go_wp2_with (go_at_call 28; refine (cf _).mono ?_; rintro e w3 ⟨rfl, hb3⟩; refine Hid.out ?_)
  have hX3 := blkKeep2 hb3 hX2
  have hY3 := blkKeep2 hb3 hY2
  have b3 : Below w.heap.size w w3 := b2.trans (hb3.mono b2.size)
  clear hb3 hX2 hY2 b2 cf
  refine Lib.hid ?_
  go_wp2_with (with_reducible refine stop_op (o := ⟨some 19, _, _, _, _, _⟩) ?_)
  obtain ⟨w4, hw4⟩ : ∃ x, x = w3.alloc (.cells #[.bool true, .int .i64 40, .int .i64 7, .int .i64 6, .int .i64 8, .int .i64 16] 69) := ⟨_, rfl⟩
  have hF : w4.heap[w3.heap.size]? = some (.cells #[.bool true, .int .i64 40, .int .i64 7, .int .i64 6, .int .i64 8, .int .i64 16] 69 (0, 0)) := by rw [hw4]; exact al_neww rfl _
  have hb4 : Below w3.heap.size w3 w4 := by rw [hw4]; exact Below.al (Below.refl _ _) _
  have hX := blkKeep2 hb4 hX3
  have hY := blkKeep2 hb4 hY3
  have bw : Below w.heap.size w w4 := b3.trans (hb4.mono b3.size)
  rw [← hw4]
  clear hw4 hb4 hX3 hY3 b3
  obtain ⟨sx0, sx1, _, _⟩ := cells2 hX
  obtain ⟨dx0, dx1, _, _⟩ := cells2 hY
  obtain ⟨⟨f0, f1, f2, f3, f4, f5⟩, _⟩ := cells6 hF
  refine Lib.hid ?_
  go_wp2_with (with_reducible refine stop_op (o := ⟨some 27, _, _, _, _, _⟩) ?_)
  obtain ⟨w5, hw5⟩ : ∃ x, x = w4.alloc (.cells #[.int .u64 (dh : Nat), .int .u64 (dl : Nat)] 25) := ⟨_, rfl⟩
  have hL5 : w5.heap[w4.heap.size]? = some (.cells #[.int .u64 (dh : Nat), .int .u64 (dl : Nat)] 25 (0, 0)) := by rw [hw5]; exact al_neww rfl _
  have hA5 : AdrsAt w5 w4.heap.size 0 [((dh : Int), (dl : Int))] := by
    obtain ⟨a0, a1, _, _⟩ := cells2 hL5
    intro k a h
    match k, h with
    | 0, h => obtain rfl : _ = a := by simpa using h
              exact ⟨a0, a1, wa, wb⟩
    | k + 1, h => simp at h
  have ch := has_any true w4.heap.size 0 1 1 _ rfl (by omega) hA5
  rw [show hasP true [((dh : Int), (dl : Int))] = true by simp [hasP, hd4]] at ch
  simp only [famCells, if_true, if_false, Bool.false_eq_true] at ch
  have hbx : Below w4.heap.size w4 w5 := by rw [hw5]; exact Below.al (Below.refl _ _) _
  rw [← hw5]
  clear hw5 hA5 hL5
  have hXn := blkKeep2 hbx hX
  have hYn := blkKeep2 hbx hY
  have hFn := blkKeep2 hbx hF
  have bwn : Below w.heap.size w w5 := bw.trans (hbx.mono bw.size)
  clear hbx hX hY hF bw sx0 sx1 dx0 dx1 f0 f1 f2 f3 f4 f5
  have hX := hXn
  have hY := hYn
  have hF := hFn
  have bw := bwn
  clear hXn hYn hFn bwn
  obtain ⟨sx0, sx1, _, _⟩ := cells2 hX
  obtain ⟨dx0, dx1, _, _⟩ := cells2 hY
  obtain ⟨⟨f0, f1, f2, f3, f4, f5⟩, _⟩ := cells6 hF
  refine Lib.hid ?_
  go_wp2_with (go_at_call 29; refine ch.mono ?_; rintro e w6 ⟨rfl, hbx⟩; refine Hid.out ?_)
  have hXn := blkKeep2 hbx hX
  have hYn := blkKeep2 hbx hY
  have hFn := blkKeep2 hbx hF
  have bwn : Below w.heap.size w w6 := bw.trans (hbx.mono bw.size)
  clear hbx hX hY hF bw sx0 sx1 dx0 dx1 f0 f1 f2 f3 f4 f5
  have hX := hXn
  have hY := hYn
  have hF := hFn
  have bw := bwn
  clear hXn hYn hFn bwn
  obtain ⟨sx0, sx1, _, _⟩ := cells2 hX
  obtain ⟨dx0, dx1, _, _⟩ := cells2 hY
  obtain ⟨⟨f0, f1, f2, f3, f4, f5⟩, _⟩ := cells6 hF
  clear ch
  refine Lib.hid ?_
  go_wp2_with (first | (go_at_call_of 31 (Value.int IntKind.i64 44); refine (cA _).mono ?_; rintro e w' ⟨rfl, hw'⟩; subst hw') | (go_at_call_of 31 (Value.int IntKind.i64 ttl); refine (cB _).mono ?_; rintro e w' ⟨rfl, hw'⟩; subst hw') | (go_at_call 48; refine (cc _).mono ?_; rintro e w7 ⟨rfl, hbx⟩))
  go_ret2
  exact ⟨rfl, bw⟩

set_option maxHeartbeats 4000000 in
set_option maxRecDepth 100000 in
theorem pk6_5 (A : Option Addr) (n c : Nat) (l : List UInt8) (sh sl dh dl : Nat) (vp ttl : Int) (h1 : sh < 18446744073709551616) (h2 : sl < 18446744073709551616) (h3 : dh < 18446744073709551616) (h4 : dl < 18446744073709551616) (hs4 : is4I (sh : Int) (sl : Int) = false) {w : World} (h : BytArg w A n c l) (hm : n ≤ 65536) (hd4 : is4I (dh : Int) (dl : Int) = false) (hp : byteP vp = true) (ht : byteP ttl = true) (hq : vp ≠ 44) (hk : carriesP true vp = false) :
    Calls Try.prog 21 #[.agg #[.int .u64 (sh : Nat), .int .u64 (sl : Nat)], .agg #[.int .u64 (dh : Nat), .int .u64 (dl : Nat)], .int .i64 vp, .int .i64 ttl, .slice A n c] w fun e w' => e = .returned (.tuple #[.slice none 0 0, .int .i64 1]) ∧ Below w.heap.size w w' := by
  have ci := fun (W : World) => is4_any (sh : Int) (sl : Int) ⟨by omega, by omega⟩ ⟨by omega, by omega⟩ W
  rw [hs4] at ci
  have cf := fun (W : World) => fam_any true W
  have cA := fun (W : World) => isbyte_any vp W
  have cB := fun (W : World) => isbyte_any ttl W
  have cc := fun (W : World) => carries_any true vp W
  simp only [famCells, if_true, if_false, Bool.false_eq_true] at cf cc
  obtain ⟨N, hN⟩ : ∃ N, N = 40 + n := ⟨_, rfl⟩
  have wN : IntKind.i64.wrap (40 + (n : Int)) = (N : Int) := by rw [IntKind.wrap_i64]; omega
  have nI : (n : Int) ≤ 65536 := by omega
  have NI : (N : Int) ≤ 70000 := by omega
  have wa : Word (dh : Int) := ⟨by omega, by omega⟩
  have wb : Word (dl : Int) := ⟨by omega, by omega⟩
  clear hs4 h1 h2 h3 h4
  rw [hp] at cA
  rw [ht] at cB
  have q44 : (vp == 44) = false := by simp [hq]
  rw [hk] at cc
  clear h hN
  go_enter Try.func21, Try.ntmps21
  go_wp2_with (with_reducible refine stop_op (o := ⟨some 15, _, _, _, _, _⟩) ?_)
  obtain ⟨w1, hw1⟩ : ∃ x, x = (w.alloc (.cells #[.int .u64 (sh : Nat), .int .u64 (sl : Nat)] 25)).alloc (.cells #[.int .u64 (dh : Nat), .int .u64 (dl : Nat)] 25) := ⟨_, rfl⟩
  have hX : w1.heap[w.heap.size]? = some (.cells #[.int .u64 (sh : Nat), .int .u64 (sl : Nat)] 25 (0, 0)) := by rw [hw1, al_oldw (by simp)]; exact al_neww rfl _
  have hY : w1.heap[w.heap.size + 1]? = some (.cells #[.int .u64 (dh : Nat), .int .u64 (dl : Nat)] 25 (0, 0)) := by rw [hw1]; exact al_neww (by simp) _
  have bw : Below w.heap.size w w1 := by rw [hw1]; exact Below.al (Below.al (Below.refl _ _) _) _
  rw [← hw1]
  clear hw1
  obtain ⟨sx0, sx1, _, _⟩ := cells2 hX
  obtain ⟨dx0, dx1, _, _⟩ := cells2 hY
  refine Lib.hid ?_
  go_wp2_with (go_at_call 59; refine (ci _).mono ?_; rintro e w2 ⟨rfl, hb2⟩; refine Hid.out ?_)
  have hX2 := blkKeep2 hb2 hX
  have hY2 := blkKeep2 hb2 hY
  have b2 : Below w.heap.size w w2 := bw.trans (hb2.mono bw.size)
  clear hb2 hX hY bw sx0 sx1 dx0 dx1 ci
  refine Lib.hid ?_
  go_wp2_with (go_at_call 28; refine (cf _).mono ?_; rintro e w3 ⟨rfl, hb3⟩; refine Hid.out ?_)
  have hX3 := blkKeep2 hb3 hX2
  have hY3 := blkKeep2 hb3 hY2
  have b3 : Below w.heap.size w w3 := b2.trans (hb3.mono b2.size)
  clear hb3 hX2 hY2 b2 cf
  refine Lib.hid ?_
  go_wp2_with (with_reducible refine stop_op (o := ⟨some 19, _, _, _, _, _⟩) ?_)
  obtain ⟨w4, hw4⟩ : ∃ x, x = w3.alloc (.cells #[.bool true, .int .i64 40, .int .i64 7, .int .i64 6, .int .i64 8, .int .i64 16] 69) := ⟨_, rfl⟩
  have hF : w4.heap[w3.heap.size]? = some (.cells #[.bool true, .int .i64 40, .int .i64 7, .int .i64 6, .int .i64 8, .int .i64 16] 69 (0, 0)) := by rw [hw4]; exact al_neww rfl _
  have hb4 : Below w3.heap.size w3 w4 := by rw [hw4]; exact Below.al (Below.refl _ _) _
  have hX := blkKeep2 hb4 hX3
  have hY := blkKeep2 hb4 hY3
  have bw : Below w.heap.size w w4 := b3.trans (hb4.mono b3.size)
  rw [← hw4]
  clear hw4 hb4 hX3 hY3 b3
  obtain ⟨sx0, sx1, _, _⟩ := cells2 hX
  obtain ⟨dx0, dx1, _, _⟩ := cells2 hY
  obtain ⟨⟨f0, f1, f2, f3, f4, f5⟩, _⟩ := cells6 hF
  refine Lib.hid ?_
  go_wp2_with (with_reducible refine stop_op (o := ⟨some 27, _, _, _, _, _⟩) ?_)
  obtain ⟨w5, hw5⟩ : ∃ x, x = w4.alloc (.cells #[.int .u64 (dh : Nat), .int .u64 (dl : Nat)] 25) := ⟨_, rfl⟩
  have hL5 : w5.heap[w4.heap.size]? = some (.cells #[.int .u64 (dh : Nat), .int .u64 (dl : Nat)] 25 (0, 0)) := by rw [hw5]; exact al_neww rfl _
  have hA5 : AdrsAt w5 w4.heap.size 0 [((dh : Int), (dl : Int))] := by
    obtain ⟨a0, a1, _, _⟩ := cells2 hL5
    intro k a h
    match k, h with
    | 0, h => obtain rfl : _ = a := by simpa using h
              exact ⟨a0, a1, wa, wb⟩
    | k + 1, h => simp at h
  have ch := has_any true w4.heap.size 0 1 1 _ rfl (by omega) hA5
  rw [show hasP true [((dh : Int), (dl : Int))] = true by simp [hasP, hd4]] at ch
  simp only [famCells, if_true, if_false, Bool.false_eq_true] at ch
  have hbx : Below w4.heap.size w4 w5 := by rw [hw5]; exact Below.al (Below.refl _ _) _
  rw [← hw5]
  clear hw5 hA5 hL5
  have hXn := blkKeep2 hbx hX
  have hYn := blkKeep2 hbx hY
  have hFn := blkKeep2 hbx hF
  have bwn : Below w.heap.size w w5 := bw.trans (hbx.mono bw.size)
  clear hbx hX hY hF bw sx0 sx1 dx0 dx1 f0 f1 f2 f3 f4 f5
  have hX := hXn
  have hY := hYn
  have hF := hFn
  have bw := bwn
  clear hXn hYn hFn bwn
  obtain ⟨sx0, sx1, _, _⟩ := cells2 hX
  obtain ⟨dx0, dx1, _, _⟩ := cells2 hY
  obtain ⟨⟨f0, f1, f2, f3, f4, f5⟩, _⟩ := cells6 hF
  refine Lib.hid ?_
  go_wp2_with (go_at_call 29; refine ch.mono ?_; rintro e w6 ⟨rfl, hbx⟩; refine Hid.out ?_)
  have hXn := blkKeep2 hbx hX
  have hYn := blkKeep2 hbx hY
  have hFn := blkKeep2 hbx hF
  have bwn : Below w.heap.size w w6 := bw.trans (hbx.mono bw.size)
  clear hbx hX hY hF bw sx0 sx1 dx0 dx1 f0 f1 f2 f3 f4 f5
  have hX := hXn
  have hY := hYn
  have hF := hFn
  have bw := bwn
  clear hXn hYn hFn bwn
  obtain ⟨sx0, sx1, _, _⟩ := cells2 hX
  obtain ⟨dx0, dx1, _, _⟩ := cells2 hY
  obtain ⟨⟨f0, f1, f2, f3, f4, f5⟩, _⟩ := cells6 hF
  clear ch
  refine Lib.hid ?_
  go_wp2_with (first | (go_at_call_of 31 (Value.int IntKind.i64 vp); refine (cA _).mono ?_; rintro e w' ⟨rfl, hw'⟩; subst hw') | (go_at_call_of 31 (Value.int IntKind.i64 ttl); refine (cB _).mono ?_; rintro e w' ⟨rfl, hw'⟩; subst hw') | (go_at_call 48; refine (cc _).mono ?_; rintro e w7 ⟨rfl, hbx⟩))
  go_ret2
  exact ⟨rfl, bw.trans (hbx.mono bw.size)⟩

set_option maxHeartbeats 4000000 in
set_option maxRecDepth 100000 in
theorem pk6_6 (A : Option Addr) (n c : Nat) (l : List UInt8) (sh sl dh dl : Nat) (vp ttl : Int) (h1 : sh < 18446744073709551616) (h2 : sl < 18446744073709551616) (h3 : dh < 18446744073709551616) (h4 : dl < 18446744073709551616) (hs4 : is4I (sh : Int) (sl : Int) = false) {w : World} (h : BytArg w A n c l) (hm : n ≤ 65536) (hd4 : is4I (dh : Int) (dl : Int) = false) (hp : byteP vp = true) (ht : byteP ttl = true) (hq : vp ≠ 44) (hk : carriesP true vp = true) (hz : 2048 < 40 + n) :
    Calls Try.prog 21 #[.agg #[.int .u64 (sh : Nat), .int .u64 (sl : Nat)], .agg #[.int .u64 (dh : Nat), .int .u64 (dl : Nat)], .int .i64 vp, .int .i64 ttl, .slice A n c] w fun e w' => e = .returned (.tuple #[.slice none 0 0, .int .i64 1]) ∧ Below w.heap.size w w' := by
  have ci := fun (W : World) => is4_any (sh : Int) (sl : Int) ⟨by omega, by omega⟩ ⟨by omega, by omega⟩ W
  rw [hs4] at ci
  have cf := fun (W : World) => fam_any true W
  have cA := fun (W : World) => isbyte_any vp W
  have cB := fun (W : World) => isbyte_any ttl W
  have cc := fun (W : World) => carries_any true vp W
  simp only [famCells, if_true, if_false, Bool.false_eq_true] at cf cc
  obtain ⟨N, hN⟩ : ∃ N, N = 40 + n := ⟨_, rfl⟩
  have wN : IntKind.i64.wrap (40 + (n : Int)) = (N : Int) := by rw [IntKind.wrap_i64]; omega
  have nI : (n : Int) ≤ 65536 := by omega
  have NI : (N : Int) ≤ 70000 := by omega
  have wa : Word (dh : Int) := ⟨by omega, by omega⟩
  have wb : Word (dl : Int) := ⟨by omega, by omega⟩
  clear hs4 h1 h2 h3 h4
  rw [hp] at cA
  rw [ht] at cB
  have q44 : (vp == 44) = false := by simp [hq]
  rw [hk] at cc
  have g1 : decide ((2048 : Int) < (N : Int)) = true := by simp; omega
  have g2 : (2048 : Int) < (N : Int) := by omega
  have g3 : decide (2048 < N) = true := by simp; omega
  clear h hN
  go_enter Try.func21, Try.ntmps21
  go_wp2_with (with_reducible refine stop_op (o := ⟨some 15, _, _, _, _, _⟩) ?_)
  obtain ⟨w1, hw1⟩ : ∃ x, x = (w.alloc (.cells #[.int .u64 (sh : Nat), .int .u64 (sl : Nat)] 25)).alloc (.cells #[.int .u64 (dh : Nat), .int .u64 (dl : Nat)] 25) := ⟨_, rfl⟩
  have hX : w1.heap[w.heap.size]? = some (.cells #[.int .u64 (sh : Nat), .int .u64 (sl : Nat)] 25 (0, 0)) := by rw [hw1, al_oldw (by simp)]; exact al_neww rfl _
  have hY : w1.heap[w.heap.size + 1]? = some (.cells #[.int .u64 (dh : Nat), .int .u64 (dl : Nat)] 25 (0, 0)) := by rw [hw1]; exact al_neww (by simp) _
  have bw : Below w.heap.size w w1 := by rw [hw1]; exact Below.al (Below.al (Below.refl _ _) _) _
  rw [← hw1]
  clear hw1
  obtain ⟨sx0, sx1, _, _⟩ := cells2 hX
  obtain ⟨dx0, dx1, _, _⟩ := cells2 hY
  refine Lib.hid ?_
  go_wp2_with (go_at_call 59; refine (ci _).mono ?_; rintro e w2 ⟨rfl, hb2⟩; refine Hid.out ?_)
  have hX2 := blkKeep2 hb2 hX
  have hY2 := blkKeep2 hb2 hY
  have b2 : Below w.heap.size w w2 := bw.trans (hb2.mono bw.size)
  clear hb2 hX hY bw sx0 sx1 dx0 dx1 ci
  refine Lib.hid ?_
  go_wp2_with (go_at_call 28; refine (cf _).mono ?_; rintro e w3 ⟨rfl, hb3⟩; refine Hid.out ?_)
  have hX3 := blkKeep2 hb3 hX2
  have hY3 := blkKeep2 hb3 hY2
  have b3 : Below w.heap.size w w3 := b2.trans (hb3.mono b2.size)
  clear hb3 hX2 hY2 b2 cf
  refine Lib.hid ?_
  go_wp2_with (with_reducible refine stop_op (o := ⟨some 19, _, _, _, _, _⟩) ?_)
  obtain ⟨w4, hw4⟩ : ∃ x, x = w3.alloc (.cells #[.bool true, .int .i64 40, .int .i64 7, .int .i64 6, .int .i64 8, .int .i64 16] 69) := ⟨_, rfl⟩
  have hF : w4.heap[w3.heap.size]? = some (.cells #[.bool true, .int .i64 40, .int .i64 7, .int .i64 6, .int .i64 8, .int .i64 16] 69 (0, 0)) := by rw [hw4]; exact al_neww rfl _
  have hb4 : Below w3.heap.size w3 w4 := by rw [hw4]; exact Below.al (Below.refl _ _) _
  have hX := blkKeep2 hb4 hX3
  have hY := blkKeep2 hb4 hY3
  have bw : Below w.heap.size w w4 := b3.trans (hb4.mono b3.size)
  rw [← hw4]
  clear hw4 hb4 hX3 hY3 b3
  obtain ⟨sx0, sx1, _, _⟩ := cells2 hX
  obtain ⟨dx0, dx1, _, _⟩ := cells2 hY
  obtain ⟨⟨f0, f1, f2, f3, f4, f5⟩, _⟩ := cells6 hF
  refine Lib.hid ?_
  go_wp2_with (with_reducible refine stop_op (o := ⟨some 27, _, _, _, _, _⟩) ?_)
  obtain ⟨w5, hw5⟩ : ∃ x, x = w4.alloc (.cells #[.int .u64 (dh : Nat), .int .u64 (dl : Nat)] 25) := ⟨_, rfl⟩
  have hL5 : w5.heap[w4.heap.size]? = some (.cells #[.int .u64 (dh : Nat), .int .u64 (dl : Nat)] 25 (0, 0)) := by rw [hw5]; exact al_neww rfl _
  have hA5 : AdrsAt w5 w4.heap.size 0 [((dh : Int), (dl : Int))] := by
    obtain ⟨a0, a1, _, _⟩ := cells2 hL5
    intro k a h
    match k, h with
    | 0, h => obtain rfl : _ = a := by simpa using h
              exact ⟨a0, a1, wa, wb⟩
    | k + 1, h => simp at h
  have ch := has_any true w4.heap.size 0 1 1 _ rfl (by omega) hA5
  rw [show hasP true [((dh : Int), (dl : Int))] = true by simp [hasP, hd4]] at ch
  simp only [famCells, if_true, if_false, Bool.false_eq_true] at ch
  have hbx : Below w4.heap.size w4 w5 := by rw [hw5]; exact Below.al (Below.refl _ _) _
  rw [← hw5]
  clear hw5 hA5 hL5
  have hXn := blkKeep2 hbx hX
  have hYn := blkKeep2 hbx hY
  have hFn := blkKeep2 hbx hF
  have bwn : Below w.heap.size w w5 := bw.trans (hbx.mono bw.size)
  clear hbx hX hY hF bw sx0 sx1 dx0 dx1 f0 f1 f2 f3 f4 f5
  have hX := hXn
  have hY := hYn
  have hF := hFn
  have bw := bwn
  clear hXn hYn hFn bwn
  obtain ⟨sx0, sx1, _, _⟩ := cells2 hX
  obtain ⟨dx0, dx1, _, _⟩ := cells2 hY
  obtain ⟨⟨f0, f1, f2, f3, f4, f5⟩, _⟩ := cells6 hF
  refine Lib.hid ?_
  go_wp2_with (go_at_call 29; refine ch.mono ?_; rintro e w6 ⟨rfl, hbx⟩; refine Hid.out ?_)
  have hXn := blkKeep2 hbx hX
  have hYn := blkKeep2 hbx hY
  have hFn := blkKeep2 hbx hF
  have bwn : Below w.heap.size w w6 := bw.trans (hbx.mono bw.size)
  clear hbx hX hY hF bw sx0 sx1 dx0 dx1 f0 f1 f2 f3 f4 f5
  have hX := hXn
  have hY := hYn
  have hF := hFn
  have bw := bwn
  clear hXn hYn hFn bwn
  obtain ⟨sx0, sx1, _, _⟩ := cells2 hX
  obtain ⟨dx0, dx1, _, _⟩ := cells2 hY
  obtain ⟨⟨f0, f1, f2, f3, f4, f5⟩, _⟩ := cells6 hF
  clear ch
  refine Lib.hid ?_
  go_wp2_with (first | (go_at_call_of 31 (Value.int IntKind.i64 vp); refine (cA _).mono ?_; rintro e w' ⟨rfl, hw'⟩; subst hw') | (go_at_call_of 31 (Value.int IntKind.i64 ttl); refine (cB _).mono ?_; rintro e w' ⟨rfl, hw'⟩; subst hw') | (go_at_call 48; refine (cc _).mono ?_; rintro e w7 ⟨rfl, hbx⟩))
  go_ret2
  exact ⟨rfl, bw.trans (hbx.mono bw.size)⟩
end Go.Proofs.Ytpmbdjdhgcjkfaa
