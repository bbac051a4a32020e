/- Packet: the document's; by-name template (gen_wrpacket.py). -/
import Derived.Test.YtpmbdjdhgcjkfaaWPkt
import Derived.Test.YtpmbdjdhgcjkfaaWRSet
import Derived.Test.YtpmbdjdhgcjkfaaWRMake
namespace Go.Proofs.Ytpmbdjdhgcjkfaa
open Go.RowKit Go.Sort
set_option linter.unusedVariables false
set_option linter.unusedSimpArgs false

/-- A row of our own of which some bytes were written. -/
theorem own_wr {w w' : World} {base g n cap o : Nat} {L L' a b c bs : List UInt8} (h : w.ownsRow base 5 1 (.slice (some ⟨g, 0, none⟩) n cap) n (bc L)) (hw : Wr w g o bs w') (hL : L = a ++ b ++ c) (ho : a.length = o) (hb : bs.length = b.length) (hL' : L' = a ++ bs ++ c) :
    w'.ownsRow base 5 1 (.slice (some ⟨g, 0, none⟩) n cap) n (bc L') := by
  subst hL; subst ho; subst hL'
  obtain ⟨h1, h2⟩ := h
  rw [bc_len, Nat.mul_one] at h1
  have hlen : (a ++ bs ++ c).length = n := by rw [← h1]; simp [hb]
  refine ⟨by rw [bc_len, hlen, Nat.mul_one], ?_⟩
  rcases h2 with ⟨e, _⟩ | ⟨g', cap', cur, e, hbg, hg, hn, hm, hs, ht⟩
  · cases e
  · cases e
    obtain ⟨cs, hcs, hk⟩ := hw.kind _ _ _ hg
    refine .inr ⟨g, cap, cs, rfl, hbg, hk, hn, hm, by rw [hcs, hs], ?_⟩
    rw [Nat.mul_one] at ht ⊢
    have hcell : ∀ k, w'.cell? ⟨g, k, none⟩ = cs[k]? := fun k => by simp [World.cell?, hk]
    have hcell0 : ∀ k, w.cell? ⟨g, k, none⟩ = cur[k]? := fun k => by simp [World.cell?, hg]
    have hcur : ∀ k, k < n → cur[k]? = ((a ++ b ++ c)[k]?).map fun x => .int .u8 (x.toNat : Nat) := fun k hk => by
      rw [← bc_getE, ← ht, List.getElem?_take_of_lt hk]; simp
    apply List.ext_getElem?
    intro k
    rw [bc_getE]
    by_cases hkn : k < n
    · rw [List.getElem?_take_of_lt hkn, show cs.toList[k]? = cs[k]? by simp, ← hcell k]
      by_cases h1 : k < a.length
      · rw [hw.out k (by omega), hcell0, hcur k hkn, List.append_assoc, List.append_assoc, List.getElem?_append_left h1, List.getElem?_append_left h1]
      · by_cases h2 : k < a.length + bs.length
        · rw [List.append_assoc, List.getElem?_append_right (by omega), List.getElem?_append_left (by omega)]
          have hx : bs[k - a.length]? = some (bs[k - a.length]'(by omega)) := List.getElem?_eq_getElem _
          have := hw.inn _ _ hx
          rw [show a.length + (k - a.length) = k by omega] at this
          rw [this, hx]; rfl
        · rw [hw.out k (by omega), hcell0, hcur k hkn, List.getElem?_append_right (by rw [List.length_append]; omega), List.getElem?_append_right (by rw [List.length_append]; omega), List.length_append, List.length_append, hb]
    · rw [List.getElem?_eq_none (by rw [List.length_take]; omega), List.getElem?_eq_none (by omega)]; rfl
theorem own_room {w : World} {base g n cap : Nat} {L : List UInt8} (h : w.ownsRow base 5 1 (.slice (some ⟨g, 0, none⟩) n cap) n (bc L)) (hn : 0 < n) {o m : Nat} (hm : o + m ≤ n) : Room w g o m := by
  obtain ⟨g', cap', e, _, _, _, _, hc, hf⟩ := own_form h hn
  cases e
  have hl : L.length = n := by have := h.1; rw [bc_len] at this; omega
  intro j hj
  exact ⟨⟨_, hc (o + j) _ (by rw [bc_getE, List.getElem?_eq_getElem (show o + j < L.length by omega)]; rfl)⟩, hf _⟩
theorem own_len {w : World} {base g n cap : Nat} {L : List UInt8} (h : w.ownsRow base 5 1 (.slice (some ⟨g, 0, none⟩) n cap) n (bc L)) (hn : 0 < n) : base ≤ g ∧ g < w.heap.size ∧ n ≤ cap ∧ cap ≤ maxLen := by
  obtain ⟨g', cap', e, h1, h2, h3, h4, _⟩ := own_form h hn
  cases e
  exact ⟨h1, h2, h3, h4⟩
theorem cut_cap (g n c k : Nat) (h : k ≤ n) (hc : n ≤ c) (hcm : c ≤ 9223372036854775807) : ∃ e : Nat, (∀ W, (Instr.slice 22 (.slice (some ⟨g, 0, none⟩) n c) (some (.int .i64 (k : Nat))) none none).run Try.prog W = .ok (.slice (some ⟨g, e, none⟩) (n - k) (c - k)) W) ∧ (0 < n - k → e = k) := by
  by_cases hk : k < c
  · refine ⟨k, fun W => ?_, fun _ => rfl⟩
    have := cut_l g 0 n c k (by omega) hk hcm hc W
    rw [Nat.zero_add] at this
    exact this
  · obtain rfl : k = n := by omega
    obtain rfl : k = c := by omega
    refine ⟨0, fun W => ?_, fun h => absurd h (by omega)⟩
    have hz : (sizeOf (Try.prog.elem 22)).run Try.prog W = .ok 1 W := by kernel_rfl
    rw [run_slice_l W 22 (some ⟨g, 0, none⟩) k k (by kernel_rfl) .i64 (k : Nat) (by omega) (by omega), hz]
    simp [Result.andThen, sliced]

set_option maxHeartbeats 4000000 in
set_option maxRecDepth 100000 in
theorem wi_a (n : Int) (h : n < 0) (w : World) : Calls Try.prog 40 #[.int .i64 n, .int .i64 0, .int .i64 255] w fun e w' => e = .returned (.bool false) ∧ w = w' := by
  have h1 : decide ((0 : Int) ≤ n) = false := by simp; omega
  go_enter Try.func40, Try.ntmps40
  go_wp2
  go_ret
  exact ⟨rfl, rfl⟩

set_option maxHeartbeats 4000000 in
set_option maxRecDepth 100000 in
theorem wi_b (n : Int) (h : 255 < n) (w : World) : Calls Try.prog 40 #[.int .i64 n, .int .i64 0, .int .i64 255] w fun e w' => e = .returned (.bool false) ∧ w = w' := by
  have h1 : decide ((0 : Int) ≤ n) = true := by simp; omega
  have h2 : decide (n ≤ 255) = false := by simp; omega
  go_enter Try.func40, Try.ntmps40
  go_wp2
  go_ret
  exact ⟨rfl, rfl⟩

set_option maxHeartbeats 4000000 in
set_option maxRecDepth 100000 in
theorem wi_c (n : Int) (h : 0 ≤ n) (h2 : n ≤ 255) (w : World) : Calls Try.prog 40 #[.int .i64 n, .int .i64 0, .int .i64 255] w fun e w' => e = .returned (.bool true) ∧ w = w' := by
  have h1 : decide ((0 : Int) ≤ n) = true := by simp; omega
  have h3 : decide (n ≤ 255) = true := by simp; omega
  go_enter Try.func40, Try.ntmps40
  go_wp2
  go_ret
  exact ⟨rfl, rfl⟩

theorem within_any (n : Int) (w : World) : Calls Try.prog 40 #[.int .i64 n, .int .i64 0, .int .i64 255] w fun e w' => e = .returned (.bool (byteP n)) ∧ w = w' := by
  unfold byteP
  by_cases h : n < 0
  · rw [show (decide (0 ≤ n) && decide (n ≤ 255)) = false by simp; omega]; exact wi_a n h w
  by_cases h2 : 255 < n
  · rw [show (decide (0 ≤ n) && decide (n ≤ 255)) = false by simp; omega]; exact wi_b n h2 w
  · rw [show (decide (0 ≤ n) && decide (n ≤ 255)) = true by simp; omega]; exact wi_c n (by omega) (by omega) w

set_option maxHeartbeats 4000000 in
set_option maxRecDepth 100000 in
theorem rpk4_1 (A : Option Addr) (n c : Nat) (l : List UInt8) (sh sl dh dl : Nat) (vp ttl : Int) (h1 : sh < 18446744073709551616) (h2 : sl < 18446744073709551616) (h3 : dh < 18446744073709551616) (h4 : dl < 18446744073709551616) (hs4 : is4I (sh : Int) (sl : Int) = true) {w : World} (h : BytA w A n c l) (hm : n ≤ 65536) (hd4 : is4I (dh : Int) (dl : Int) = false) :
    Calls Try.prog 22 #[.agg #[.int .u64 (sh : Nat), .int .u64 (sl : Nat)], .agg #[.int .u64 (dh : Nat), .int .u64 (dl : Nat)], .int .i64 vp, .int .i64 ttl, .slice A n c] w fun e w' => e = .returned (.tuple #[.slice none 0 0, .int .i64 1]) ∧ Below w.heap.size w w' := by
  have ci := fun (W : World) => ris4_any (sh : Int) (sl : Int) ⟨by omega, by omega⟩ ⟨by omega, by omega⟩ W
  rw [hs4] at ci
  have cd := fun (W : World) => ris4_any (dh : Int) (dl : Int) ⟨by omega, by omega⟩ ⟨by omega, by omega⟩ W
  rw [hd4] at cd
  have cA := fun (W : World) => within_any vp W
  have cB := fun (W : World) => within_any ttl W
  have nI : (n : Int) ≤ 65536 := by omega
  clear hs4 h1 h2 h3 h4 hd4
  clear h
  go_enter Try.func22, Try.ntmps22
  go_wp2_with (with_reducible refine stop_op (o := ⟨some 15, _, _, _, _, _⟩) ?_)
  obtain ⟨w1, hw1⟩ : ∃ x, x = (w.alloc (.cells #[.int .u64 (sh : Nat), .int .u64 (sl : Nat)] 25)).alloc (.cells #[.int .u64 (dh : Nat), .int .u64 (dl : Nat)] 25) := ⟨_, rfl⟩
  have hX : w1.heap[w.heap.size]? = some (.cells #[.int .u64 (sh : Nat), .int .u64 (sl : Nat)] 25 (0, 0)) := by rw [hw1, al_oldw (by simp)]; exact al_neww rfl _
  have hY : w1.heap[w.heap.size + 1]? = some (.cells #[.int .u64 (dh : Nat), .int .u64 (dl : Nat)] 25 (0, 0)) := by rw [hw1]; exact al_neww (by simp) _
  have bw : Below w.heap.size w w1 := by rw [hw1]; exact Below.al (Below.al (Below.refl _ _) _) _
  rw [← hw1]
  clear hw1
  obtain ⟨sx0, sx1, _, _⟩ := cells2 hX
  obtain ⟨dx0, dx1, _, _⟩ := cells2 hY
  refine Lib.hid ?_
  go_wp2_with (go_at_call 62; refine (ci _).mono ?_; rintro e w2 ⟨rfl, hbx⟩; refine Hid.out ?_)
  have hXn := blkKeep2 hbx hX
  have hYn := blkKeep2 hbx hY
  have bwn : Below w.heap.size w w2 := bw.trans (hbx.mono bw.size)
  clear hbx hX hY bw sx0 sx1 dx0 dx1
  have hX := hXn
  have hY := hYn
  have bw := bwn
  clear hXn hYn bwn
  obtain ⟨sx0, sx1, _, _⟩ := cells2 hX
  obtain ⟨dx0, dx1, _, _⟩ := cells2 hY
  clear ci
  refine Lib.hid ?_
  go_wp2_with (first | (go_at_call_of 40 (Value.int IntKind.i64 vp); refine (cA _).mono ?_; rintro e w' ⟨rfl, hw'⟩; subst hw') | (go_at_call_of 40 (Value.int IntKind.i64 ttl); refine (cB _).mono ?_; rintro e w' ⟨rfl, hw'⟩; subst hw') | (go_at_call 62; refine (cd _).mono ?_; rintro e w3 ⟨rfl, hbx⟩))
  go_ret2
  exact ⟨rfl, bw.trans (hbx.mono bw.size)⟩

set_option maxHeartbeats 4000000 in
set_option maxRecDepth 100000 in
theorem rpk4_2 (A : Option Addr) (n c : Nat) (l : List UInt8) (sh sl dh dl : Nat) (vp ttl : Int) (h1 : sh < 18446744073709551616) (h2 : sl < 18446744073709551616) (h3 : dh < 18446744073709551616) (h4 : dl < 18446744073709551616) (hs4 : is4I (sh : Int) (sl : Int) = true) {w : World} (h : BytA w A n c l) (hm : n ≤ 65536) (hd4 : is4I (dh : Int) (dl : Int) = true) (hp : byteP vp = false) :
    Calls Try.prog 22 #[.agg #[.int .u64 (sh : Nat), .int .u64 (sl : Nat)], .agg #[.int .u64 (dh : Nat), .int .u64 (dl : Nat)], .int .i64 vp, .int .i64 ttl, .slice A n c] w fun e w' => e = .returned (.tuple #[.slice none 0 0, .int .i64 1]) ∧ Below w.heap.size w w' := by
  have ci := fun (W : World) => ris4_any (sh : Int) (sl : Int) ⟨by omega, by omega⟩ ⟨by omega, by omega⟩ W
  rw [hs4] at ci
  have cd := fun (W : World) => ris4_any (dh : Int) (dl : Int) ⟨by omega, by omega⟩ ⟨by omega, by omega⟩ W
  rw [hd4] at cd
  have cA := fun (W : World) => within_any vp W
  have cB := fun (W : World) => within_any ttl W
  have nI : (n : Int) ≤ 65536 := by omega
  clear hs4 h1 h2 h3 h4 hd4
  rw [hp] at cA
  clear h
  go_enter Try.func22, Try.ntmps22
  go_wp2_with (with_reducible refine stop_op (o := ⟨some 15, _, _, _, _, _⟩) ?_)
  obtain ⟨w1, hw1⟩ : ∃ x, x = (w.alloc (.cells #[.int .u64 (sh : Nat), .int .u64 (sl : Nat)] 25)).alloc (.cells #[.int .u64 (dh : Nat), .int .u64 (dl : Nat)] 25) := ⟨_, rfl⟩
  have hX : w1.heap[w.heap.size]? = some (.cells #[.int .u64 (sh : Nat), .int .u64 (sl : Nat)] 25 (0, 0)) := by rw [hw1, al_oldw (by simp)]; exact al_neww rfl _
  have hY : w1.heap[w.heap.size + 1]? = some (.cells #[.int .u64 (dh : Nat), .int .u64 (dl : Nat)] 25 (0, 0)) := by rw [hw1]; exact al_neww (by simp) _
  have bw : Below w.heap.size w w1 := by rw [hw1]; exact Below.al (Below.al (Below.refl _ _) _) _
  rw [← hw1]
  clear hw1
  obtain ⟨sx0, sx1, _, _⟩ := cells2 hX
  obtain ⟨dx0, dx1, _, _⟩ := cells2 hY
  refine Lib.hid ?_
  go_wp2_with (go_at_call 62; refine (ci _).mono ?_; rintro e w2 ⟨rfl, hbx⟩; refine Hid.out ?_)
  have hXn := blkKeep2 hbx hX
  have hYn := blkKeep2 hbx hY
  have bwn : Below w.heap.size w w2 := bw.trans (hbx.mono bw.size)
  clear hbx hX hY bw sx0 sx1 dx0 dx1
  have hX := hXn
  have hY := hYn
  have bw := bwn
  clear hXn hYn bwn
  obtain ⟨sx0, sx1, _, _⟩ := cells2 hX
  obtain ⟨dx0, dx1, _, _⟩ := cells2 hY
  clear ci
  refine Lib.hid ?_
  go_wp2_with (first | (go_at_call_of 40 (Value.int IntKind.i64 vp); refine (cA _).mono ?_; rintro e w' ⟨rfl, hw'⟩; subst hw') | (go_at_call_of 40 (Value.int IntKind.i64 ttl); refine (cB _).mono ?_; rintro e w' ⟨rfl, hw'⟩; subst hw') | (go_at_call 62; refine (cd _).mono ?_; rintro e w3 ⟨rfl, hbx⟩))
  go_ret2
  exact ⟨rfl, bw.trans (hbx.mono bw.size)⟩

set_option maxHeartbeats 4000000 in
set_option maxRecDepth 100000 in
theorem rpk4_3 (A : Option Addr) (n c : Nat) (l : List UInt8) (sh sl dh dl : Nat) (vp ttl : Int) (h1 : sh < 18446744073709551616) (h2 : sl < 18446744073709551616) (h3 : dh < 18446744073709551616) (h4 : dl < 18446744073709551616) (hs4 : is4I (sh : Int) (sl : Int) = true) {w : World} (h : BytA w A n c l) (hm : n ≤ 65536) (hd4 : is4I (dh : Int) (dl : Int) = true) (hp : byteP vp = true) (ht : byteP ttl = false) :
    Calls Try.prog 22 #[.agg #[.int .u64 (sh : Nat), .int .u64 (sl : Nat)], .agg #[.int .u64 (dh : Nat), .int .u64 (dl : Nat)], .int .i64 vp, .int .i64 ttl, .slice A n c] w fun e w' => e = .returned (.tuple #[.slice none 0 0, .int .i64 1]) ∧ Below w.heap.size w w' := by
  have ci := fun (W : World) => ris4_any (sh : Int) (sl : Int) ⟨by omega, by omega⟩ ⟨by omega, by omega⟩ W
  rw [hs4] at ci
  have cd := fun (W : World) => ris4_any (dh : Int) (dl : Int) ⟨by omega, by omega⟩ ⟨by omega, by omega⟩ W
  rw [hd4] at cd
  have cA := fun (W : World) => within_any vp W
  have cB := fun (W : World) => within_any ttl W
  have nI : (n : Int) ≤ 65536 := by omega
  clear hs4 h1 h2 h3 h4 hd4
  rw [hp] at cA
  rw [ht] at cB
  clear h
  go_enter Try.func22, Try.ntmps22
  go_wp2_with (with_reducible refine stop_op (o := ⟨some 15, _, _, _, _, _⟩) ?_)
  obtain ⟨w1, hw1⟩ : ∃ x, x = (w.alloc (.cells #[.int .u64 (sh : Nat), .int .u64 (sl : Nat)] 25)).alloc (.cells #[.int .u64 (dh : Nat), .int .u64 (dl : Nat)] 25) := ⟨_, rfl⟩
  have hX : w1.heap[w.heap.size]? = some (.cells #[.int .u64 (sh : Nat), .int .u64 (sl : Nat)] 25 (0, 0)) := by rw [hw1, al_oldw (by simp)]; exact al_neww rfl _
  have hY : w1.heap[w.heap.size + 1]? = some (.cells #[.int .u64 (dh : Nat), .int .u64 (dl : Nat)] 25 (0, 0)) := by rw [hw1]; exact al_neww (by simp) _
  have bw : Below w.heap.size w w1 := by rw [hw1]; exact Below.al (Below.al (Below.refl _ _) _) _
  rw [← hw1]
  clear hw1
  obtain ⟨sx0, sx1, _, _⟩ := cells2 hX
  obtain ⟨dx0, dx1, _, _⟩ := cells2 hY
  refine Lib.hid ?_
  go_wp2_with (go_at_call 62; refine (ci _).mono ?_; rintro e w2 ⟨rfl, hbx⟩; refine Hid.out ?_)
  have hXn := blkKeep2 hbx hX
  have hYn := blkKeep2 hbx hY
  have bwn : Below w.heap.size w w2 := bw.trans (hbx.mono bw.size)
  clear hbx hX hY bw sx0 sx1 dx0 dx1
  have hX := hXn
  have hY := hYn
  have bw := bwn
  clear hXn hYn bwn
  obtain ⟨sx0, sx1, _, _⟩ := cells2 hX
  obtain ⟨dx0, dx1, _, _⟩ := cells2 hY
  clear ci
  refine Lib.hid ?_
  go_wp2_with (first | (go_at_call_of 40 (Value.int IntKind.i64 vp); refine (cA _).mono ?_; rintro e w' ⟨rfl, hw'⟩; subst hw') | (go_at_call_of 40 (Value.int IntKind.i64 ttl); refine (cB _).mono ?_; rintro e w' ⟨rfl, hw'⟩; subst hw') | (go_at_call 62; refine (cd _).mono ?_; rintro e w3 ⟨rfl, hbx⟩))
  go_ret2
  exact ⟨rfl, bw.trans (hbx.mono bw.size)⟩

set_option maxHeartbeats 4000000 in
set_option maxRecDepth 100000 in
theorem rpk4_4 (A : Option Addr) (n c : Nat) (l : List UInt8) (sh sl dh dl : Nat) (ttl : Int) (h1 : sh < 18446744073709551616) (h2 : sl < 18446744073709551616) (h3 : dh < 18446744073709551616) (h4 : dl < 18446744073709551616) (hs4 : is4I (sh : Int) (sl : Int) = true) {w : World} (h : BytA w A n c l) (hm : n ≤ 65536) (hd4 : is4I (dh : Int) (dl : Int) = true) (hp : byteP 44 = true) (ht : byteP ttl = true)  :
    Calls Try.prog 22 #[.agg #[.int .u64 (sh : Nat), .int .u64 (sl : Nat)], .agg #[.int .u64 (dh : Nat), .int .u64 (dl : Nat)], .int .i64 44, .int .i64 ttl, .slice A n c] w fun e w' => e = .returned (.tuple #[.slice none 0 0, .int .i64 1]) ∧ Below w.heap.size w w' := by
  have ci := fun (W : World) => ris4_any (sh : Int) (sl : Int) ⟨by omega, by omega⟩ ⟨by omega, by omega⟩ W
  rw [hs4] at ci
  have cd := fun (W : World) => ris4_any (dh : Int) (dl : Int) ⟨by omega, by omega⟩ ⟨by omega, by omega⟩ W
  rw [hd4] at cd
  have cA := fun (W : World) => within_any 44 W
  have cB := fun (W : World) => within_any ttl W
  have nI : (n : Int) ≤ 65536 := by omega
  clear hs4 h1 h2 h3 h4 hd4
  rw [hp] at cA
  rw [ht] at cB
  clear h
  go_enter Try.func22, Try.ntmps22
  go_wp2_with (with_reducible refine stop_op (o := ⟨some 15, _, _, _, _, _⟩) ?_)
  obtain ⟨w1, hw1⟩ : ∃ x, x = (w.alloc (.cells #[.int .u64 (sh : Nat), .int .u64 (sl : Nat)] 25)).alloc (.cells #[.int .u64 (dh : Nat), .int .u64 (dl : Nat)] 25) := ⟨_, rfl⟩
  have hX : w1.heap[w.heap.size]? = some (.cells #[.int .u64 (sh : Nat), .int .u64 (sl : Nat)] 25 (0, 0)) := by rw [hw1, al_oldw (by simp)]; exact al_neww rfl _
  have hY : w1.heap[w.heap.size + 1]? = some (.cells #[.int .u64 (dh : Nat), .int .u64 (dl : Nat)] 25 (0, 0)) := by rw [hw1]; exact al_neww (by simp) _
  have bw : Below w.heap.size w w1 := by rw [hw1]; exact Below.al (Below.al (Below.refl _ _) _) _
  rw [← hw1]
  clear hw1
  obtain ⟨sx0, sx1, _, _⟩ := cells2 hX
  obtain ⟨dx0, dx1, _, _⟩ := cells2 hY
  refine Lib.hid ?_
  go_wp2_with (go_at_call 62; refine (ci _).mono ?_; rintro e w2 ⟨rfl, hbx⟩; refine Hid.out ?_)
  have hXn := blkKeep2 hbx hX
  have hYn := blkKeep2 hbx hY
  have bwn : Below w.heap.size w w2 := bw.trans (hbx.mono bw.size)
  clear hbx hX hY bw sx0 sx1 dx0 dx1
  have hX := hXn
  have hY := hYn
  have bw := bwn
  clear hXn hYn bwn
  obtain ⟨sx0, sx1, _, _⟩ := cells2 hX
  obtain ⟨dx0, dx1, _, _⟩ := cells2 hY
  clear ci
  refine Lib.hid ?_
  go_wp2_with (first | (go_at_call_of 40 (Value.int IntKind.i64 44); refine (cA _).mono ?_; rintro e w' ⟨rfl, hw'⟩; subst hw') | (go_at_call_of 40 (Value.int IntKind.i64 ttl); refine (cB _).mono ?_; rintro e w' ⟨rfl, hw'⟩; subst hw') | (go_at_call 62; refine (cd _).mono ?_; rintro e w3 ⟨rfl, hbx⟩))
  go_ret2
  exact ⟨rfl, bw.trans (hbx.mono bw.size)⟩

set_option maxHeartbeats 4000000 in
set_option maxRecDepth 100000 in
theorem rpk4_5 (A : Option Addr) (n c : Nat) (l : List UInt8) (sh sl dh dl : Nat) (ttl : Int) (h1 : sh < 18446744073709551616) (h2 : sl < 18446744073709551616) (h3 : dh < 18446744073709551616) (h4 : dl < 18446744073709551616) (hs4 : is4I (sh : Int) (sl : Int) = true) {w : World} (h : BytA w A n c l) (hm : n ≤ 65536) (hd4 : is4I (dh : Int) (dl : Int) = true) (hp : byteP 58 = true) (ht : byteP ttl = true)   :
    Calls Try.prog 22 #[.agg #[.int .u64 (sh : Nat), .int .u64 (sl : Nat)], .agg #[.int .u64 (dh : Nat), .int .u64 (dl : Nat)], .int .i64 58, .int .i64 ttl, .slice A n c] w fun e w' => e = .returned (.tuple #[.slice none 0 0, .int .i64 1]) ∧ Below w.heap.size w w' := by
  have ci := fun (W : World) => ris4_any (sh : Int) (sl : Int) ⟨by omega, by omega⟩ ⟨by omega, by omega⟩ W
  rw [hs4] at ci
  have cd := fun (W : World) => ris4_any (dh : Int) (dl : Int) ⟨by omega, by omega⟩ ⟨by omega, by omega⟩ W
  rw [hd4] at cd
  have cA := fun (W : World) => within_any 58 W
  have cB := fun (W : World) => within_any ttl W
  have nI : (n : Int) ≤ 65536 := by omega
  clear hs4 h1 h2 h3 h4 hd4
  rw [hp] at cA
  rw [ht] at cB
  clear h
  go_enter Try.func22, Try.ntmps22
  go_wp2_with (with_reducible refine stop_op (o := ⟨some 15, _, _, _, _, _⟩) ?_)
  obtain ⟨w1, hw1⟩ : ∃ x, x = (w.alloc (.cells #[.int .u64 (sh : Nat), .int .u64 (sl : Nat)] 25)).alloc (.cells #[.int .u64 (dh : Nat), .int .u64 (dl : Nat)] 25) := ⟨_, rfl⟩
  have hX : w1.heap[w.heap.size]? = some (.cells #[.int .u64 (sh : Nat), .int .u64 (sl : Nat)] 25 (0, 0)) := by rw [hw1, al_oldw (by simp)]; exact al_neww rfl _
  have hY : w1.heap[w.heap.size + 1]? = some (.cells #[.int .u64 (dh : Nat), .int .u64 (dl : Nat)] 25 (0, 0)) := by rw [hw1]; exact al_neww (by simp) _
  have bw : Below w.heap.size w w1 := by rw [hw1]; exact Below.al (Below.al (Below.refl _ _) _) _
  rw [← hw1]
  clear hw1
  obtain ⟨sx0, sx1, _, _⟩ := cells2 hX
  obtain ⟨dx0, dx1, _, _⟩ := cells2 hY
  refine Lib.hid ?_
  go_wp2_with (go_at_call 62; refine (ci _).mono ?_; rintro e w2 ⟨rfl, hbx⟩; refine Hid.out ?_)
  have hXn := blkKeep2 hbx hX
  have hYn := blkKeep2 hbx hY
  have bwn : Below w.heap.size w w2 := bw.trans (hbx.mono bw.size)
  clear hbx hX hY bw sx0 sx1 dx0 dx1
  have hX := hXn
  have hY := hYn
  have bw := bwn
  clear hXn hYn bwn
  obtain ⟨sx0, sx1, _, _⟩ := cells2 hX
  obtain ⟨dx0, dx1, _, _⟩ := cells2 hY
  clear ci
  refine Lib.hid ?_
  go_wp2_with (first | (go_at_call_of 40 (Value.int IntKind.i64 58); refine (cA _).mono ?_; rintro e w' ⟨rfl, hw'⟩; subst hw') | (go_at_call_of 40 (Value.int IntKind.i64 ttl); refine (cB _).mono ?_; rintro e w' ⟨rfl, hw'⟩; subst hw') | (go_at_call 62; refine (cd _).mono ?_; rintro e w3 ⟨rfl, hbx⟩))
  go_ret2
  exact ⟨rfl, bw.trans (hbx.mono bw.size)⟩

set_option maxHeartbeats 4000000 in
set_option maxRecDepth 100000 in
theorem rpk4_6 (A : Option Addr) (n c : Nat) (l : List UInt8) (sh sl dh dl : Nat) (vp ttl : Int) (h1 : sh < 18446744073709551616) (h2 : sl < 18446744073709551616) (h3 : dh < 18446744073709551616) (h4 : dl < 18446744073709551616) (hs4 : is4I (sh : Int) (sl : Int) = true) {w : World} (h : BytA w A n c l) (hm : n ≤ 65536) (hd4 : is4I (dh : Int) (dl : Int) = true) (hp : byteP vp = true) (ht : byteP ttl = true) (hq : vp ≠ 44) (hk : vp ≠ 58) (hz : 2048 < 20 + n) :
    Calls Try.prog 22 #[.agg #[.int .u64 (sh : Nat), .int .u64 (sl : Nat)], .agg #[.int .u64 (dh : Nat), .int .u64 (dl : Nat)], .int .i64 vp, .int .i64 ttl, .slice A n c] w fun e w' => e = .returned (.tuple #[.slice none 0 0, .int .i64 1]) ∧ Below w.heap.size w w' := by
  have ci := fun (W : World) => ris4_any (sh : Int) (sl : Int) ⟨by omega, by omega⟩ ⟨by omega, by omega⟩ W
  rw [hs4] at ci
  have cd := fun (W : World) => ris4_any (dh : Int) (dl : Int) ⟨by omega, by omega⟩ ⟨by omega, by omega⟩ W
  rw [hd4] at cd
  have cA := fun (W : World) => within_any vp W
  have cB := fun (W : World) => within_any ttl W
  have nI : (n : Int) ≤ 65536 := by omega
  clear hs4 h1 h2 h3 h4 hd4
  rw [hp] at cA
  rw [ht] at cB
  have q44 : (vp == 44) = false := by simp [hq]
  have q58 : (vp == 58) = false := by simp [hk]
  have g0 : IntKind.i64.wrap 2028 = 2028 := by decide
  have g1 : decide ((2028 : Int) < (n : Int)) = true := by simp; omega
  have g2 : (2028 : Int) < (n : Int) := by omega
  have g3 : decide (2028 < n) = true := by simp; omega
  clear h
  go_enter Try.func22, Try.ntmps22
  go_wp2_with (with_reducible refine stop_op (o := ⟨some 15, _, _, _, _, _⟩) ?_)
  obtain ⟨w1, hw1⟩ : ∃ x, x = (w.alloc (.cells #[.int .u64 (sh : Nat), .int .u64 (sl : Nat)] 25)).alloc (.cells #[.int .u64 (dh : Nat), .int .u64 (dl : Nat)] 25) := ⟨_, rfl⟩
  have hX : w1.heap[w.heap.size]? = some (.cells #[.int .u64 (sh : Nat), .int .u64 (sl : Nat)] 25 (0, 0)) := by rw [hw1, al_oldw (by simp)]; exact al_neww rfl _
  have hY : w1.heap[w.heap.size + 1]? = some (.cells #[.int .u64 (dh : Nat), .int .u64 (dl : Nat)] 25 (0, 0)) := by rw [hw1]; exact al_neww (by simp) _
  have bw : Below w.heap.size w w1 := by rw [hw1]; exact Below.al (Below.al (Below.refl _ _) _) _
  rw [← hw1]
  clear hw1
  obtain ⟨sx0, sx1, _, _⟩ := cells2 hX
  obtain ⟨dx0, dx1, _, _⟩ := cells2 hY
  refine Lib.hid ?_
  go_wp2_with (go_at_call 62; refine (ci _).mono ?_; rintro e w2 ⟨rfl, hbx⟩; refine Hid.out ?_)
  have hXn := blkKeep2 hbx hX
  have hYn := blkKeep2 hbx hY
  have bwn : Below w.heap.size w w2 := bw.trans (hbx.mono bw.size)
  clear hbx hX hY bw sx0 sx1 dx0 dx1
  have hX := hXn
  have hY := hYn
  have bw := bwn
  clear hXn hYn bwn
  obtain ⟨sx0, sx1, _, _⟩ := cells2 hX
  obtain ⟨dx0, dx1, _, _⟩ := cells2 hY
  clear ci
  refine Lib.hid ?_
  go_wp2_with (first | (go_at_call_of 40 (Value.int IntKind.i64 vp); refine (cA _).mono ?_; rintro e w' ⟨rfl, hw'⟩; subst hw') | (go_at_call_of 40 (Value.int IntKind.i64 ttl); refine (cB _).mono ?_; rintro e w' ⟨rfl, hw'⟩; subst hw') | (go_at_call 62; refine (cd _).mono ?_; rintro e w3 ⟨rfl, hbx⟩))
  go_ret2
  exact ⟨rfl, bw.trans (hbx.mono bw.size)⟩

set_option maxHeartbeats 4000000 in
set_option maxRecDepth 100000 in
theorem rpk6_1 (A : Option Addr) (n c : Nat) (l : List UInt8) (sh sl dh dl : Nat) (vp ttl : Int) (h1 : sh < 18446744073709551616) (h2 : sl < 18446744073709551616) (h3 : dh < 18446744073709551616) (h4 : dl < 18446744073709551616) (hs4 : is4I (sh : Int) (sl : Int) = false) {w : World} (h : BytA w A n c l) (hm : n ≤ 65536) (hd4 : is4I (dh : Int) (dl : Int) = true) :
    Calls Try.prog 22 #[.agg #[.int .u64 (sh : Nat), .int .u64 (sl : Nat)], .agg #[.int .u64 (dh : Nat), .int .u64 (dl : Nat)], .int .i64 vp, .int .i64 ttl, .slice A n c] w fun e w' => e = .returned (.tuple #[.slice none 0 0, .int .i64 1]) ∧ Below w.heap.size w w' := by
  have ci := fun (W : World) => ris4_any (sh : Int) (sl : Int) ⟨by omega, by omega⟩ ⟨by omega, by omega⟩ W
  rw [hs4] at ci
  have cd := fun (W : World) => ris4_any (dh : Int) (dl : Int) ⟨by omega, by omega⟩ ⟨by omega, by omega⟩ W
  rw [hd4] at cd
  have cA := fun (W : World) => within_any vp W
  have cB := fun (W : World) => within_any ttl W
  have nI : (n : Int) ≤ 65536 := by omega
  clear hs4 h1 h2 h3 h4 hd4
  clear h
  go_enter Try.func22, Try.ntmps22
  go_wp2_with (with_reducible refine stop_op (o := ⟨some 15, _, _, _, _, _⟩) ?_)
  obtain ⟨w1, hw1⟩ : ∃ x, x = (w.alloc (.cells #[.int .u64 (sh : Nat), .int .u64 (sl : Nat)] 25)).alloc (.cells #[.int .u64 (dh : Nat), .int .u64 (dl : Nat)] 25) := ⟨_, rfl⟩
  have hX : w1.heap[w.heap.size]? = some (.cells #[.int .u64 (sh : Nat), .int .u64 (sl : Nat)] 25 (0, 0)) := by rw [hw1, al_oldw (by simp)]; exact al_neww rfl _
  have hY : w1.heap[w.heap.size + 1]? = some (.cells #[.int .u64 (dh : Nat), .int .u64 (dl : Nat)] 25 (0, 0)) := by rw [hw1]; exact al_neww (by simp) _
  have bw : Below w.heap.size w w1 := by rw [hw1]; exact Below.al (Below.al (Below.refl _ _) _) _
  rw [← hw1]
  clear hw1
  obtain ⟨sx0, sx1, _, _⟩ := cells2 hX
  obtain ⟨dx0, dx1, _, _⟩ := cells2 hY
  refine Lib.hid ?_
  go_wp2_with (go_at_call 62; refine (ci _).mono ?_; rintro e w2 ⟨rfl, hbx⟩; refine Hid.out ?_)
  have hXn := blkKeep2 hbx hX
  have hYn := blkKeep2 hbx hY
  have bwn : Below w.heap.size w w2 := bw.trans (hbx.mono bw.size)
  clear hbx hX hY bw sx0 sx1 dx0 dx1
  have hX := hXn
  have hY := hYn
  have bw := bwn
  clear hXn hYn bwn
  obtain ⟨sx0, sx1, _, _⟩ := cells2 hX
  obtain ⟨dx0, dx1, _, _⟩ := cells2 hY
  clear ci
  refine Lib.hid ?_
  go_wp2_with (first | (go_at_call_of 40 (Value.int IntKind.i64 vp); refine (cA _).mono ?_; rintro e w' ⟨rfl, hw'⟩; subst hw') | (go_at_call_of 40 (Value.int IntKind.i64 ttl); refine (cB _).mono ?_; rintro e w' ⟨rfl, hw'⟩; subst hw') | (go_at_call 62; refine (cd _).mono ?_; rintro e w3 ⟨rfl, hbx⟩))
  go_ret2
  exact ⟨rfl, bw.trans (hbx.mono bw.size)⟩

set_option maxHeartbeats 4000000 in
set_option maxRecDepth 100000 in
theorem rpk6_2 (A : Option Addr) (n c : Nat) (l : List UInt8) (sh sl dh dl : Nat) (vp ttl : Int) (h1 : sh < 18446744073709551616) (h2 : sl < 18446744073709551616) (h3 : dh < 18446744073709551616) (h4 : dl < 18446744073709551616) (hs4 : is4I (sh : Int) (sl : Int) = false) {w : World} (h : BytA w A n c l) (hm : n ≤ 65536) (hd4 : is4I (dh : Int) (dl : Int) = false) (hp : byteP vp = false) :
    Calls Try.prog 22 #[.agg #[.int .u64 (sh : Nat), .int .u64 (sl : Nat)], .agg #[.int .u64 (dh : Nat), .int .u64 (dl : Nat)], .int .i64 vp, .int .i64 ttl, .slice A n c] w fun e w' => e = .returned (.tuple #[.slice none 0 0, .int .i64 1]) ∧ Below w.heap.size w w' := by
  have ci := fun (W : World) => ris4_any (sh : Int) (sl : Int) ⟨by omega, by omega⟩ ⟨by omega, by omega⟩ W
  rw [hs4] at ci
  have cd := fun (W : World) => ris4_any (dh : Int) (dl : Int) ⟨by omega, by omega⟩ ⟨by omega, by omega⟩ W
  rw [hd4] at cd
  have cA := fun (W : World) => within_any vp W
  have cB := fun (W : World) => within_any ttl W
  have nI : (n : Int) ≤ 65536 := by omega
  clear hs4 h1 h2 h3 h4 hd4
  rw [hp] at cA
  clear h
  go_enter Try.func22, Try.ntmps22
  go_wp2_with (with_reducible refine stop_op (o := ⟨some 15, _, _, _, _, _⟩) ?_)
  obtain ⟨w1, hw1⟩ : ∃ x, x = (w.alloc (.cells #[.int .u64 (sh : Nat), .int .u64 (sl : Nat)] 25)).alloc (.cells #[.int .u64 (dh : Nat), .int .u64 (dl : Nat)] 25) := ⟨_, rfl⟩
  have hX : w1.heap[w.heap.size]? = some (.cells #[.int .u64 (sh : Nat), .int .u64 (sl : Nat)] 25 (0, 0)) := by rw [hw1, al_oldw (by simp)]; exact al_neww rfl _
  have hY : w1.heap[w.heap.size + 1]? = some (.cells #[.int .u64 (dh : Nat), .int .u64 (dl : Nat)] 25 (0, 0)) := by rw [hw1]; exact al_neww (by simp) _
  have bw : Below w.heap.size w w1 := by rw [hw1]; exact Below.al (Below.al (Below.refl _ _) _) _
  rw [← hw1]
  clear hw1
  obtain ⟨sx0, sx1, _, _⟩ := cells2 hX
  obtain ⟨dx0, dx1, _, _⟩ := cells2 hY
  refine Lib.hid ?_
  go_wp2_with (go_at_call 62; refine (ci _).mono ?_; rintro e w2 ⟨rfl, hbx⟩; refine Hid.out ?_)
  have hXn := blkKeep2 hbx hX
  have hYn := blkKeep2 hbx hY
  have bwn : Below w.heap.size w w2 := bw.trans (hbx.mono bw.size)
  clear hbx hX hY bw sx0 sx1 dx0 dx1
  have hX := hXn
  have hY := hYn
  have bw := bwn
  clear hXn hYn bwn
  obtain ⟨sx0, sx1, _, _⟩ := cells2 hX
  obtain ⟨dx0, dx1, _, _⟩ := cells2 hY
  clear ci
  refine Lib.hid ?_
  go_wp2_with (first | (go_at_call_of 40 (Value.int IntKind.i64 vp); refine (cA _).mono ?_; rintro e w' ⟨rfl, hw'⟩; subst hw') | (go_at_call_of 40 (Value.int IntKind.i64 ttl); refine (cB _).mono ?_; rintro e w' ⟨rfl, hw'⟩; subst hw') | (go_at_call 62; refine (cd _).mono ?_; rintro e w3 ⟨rfl, hbx⟩))
  go_ret2
  exact ⟨rfl, bw.trans (hbx.mono bw.size)⟩

set_option maxHeartbeats 4000000 in
set_option maxRecDepth 100000 in
theorem rpk6_3 (A : Option Addr) (n c : Nat) (l : List UInt8) (sh sl dh dl : Nat) (vp ttl : Int) (h1 : sh < 18446744073709551616) (h2 : sl < 18446744073709551616) (h3 : dh < 18446744073709551616) (h4 : dl < 18446744073709551616) (hs4 : is4I (sh : Int) (sl : Int) = false) {w : World} (h : BytA w A n c l) (hm : n ≤ 65536) (hd4 : is4I (dh : Int) (dl : Int) = false) (hp : byteP vp = true) (ht : byteP ttl = false) :
    Calls Try.prog 22 #[.agg #[.int .u64 (sh : Nat), .int .u64 (sl : Nat)], .agg #[.int .u64 (dh : Nat), .int .u64 (dl : Nat)], .int .i64 vp, .int .i64 ttl, .slice A n c] w fun e w' => e = .returned (.tuple #[.slice none 0 0, .int .i64 1]) ∧ Below w.heap.size w w' := by
  have ci := fun (W : World) => ris4_any (sh : Int) (sl : Int) ⟨by omega, by omega⟩ ⟨by omega, by omega⟩ W
  rw [hs4] at ci
  have cd := fun (W : World) => ris4_any (dh : Int) (dl : Int) ⟨by omega, by omega⟩ ⟨by omega, by omega⟩ W
  rw [hd4] at cd
  have cA := fun (W : World) => within_any vp W
  have cB := fun (W : World) => within_any ttl W
  have nI : (n : Int) ≤ 65536 := by omega
  clear hs4 h1 h2 h3 h4 hd4
  rw [hp] at cA
  rw [ht] at cB
  clear h
  go_enter Try.func22, Try.ntmps22
  go_wp2_with (with_reducible refine stop_op (o := ⟨some 15, _, _, _, _, _⟩) ?_)
  obtain ⟨w1, hw1⟩ : ∃ x, x = (w.alloc (.cells #[.int .u64 (sh : Nat), .int .u64 (sl : Nat)] 25)).alloc (.cells #[.int .u64 (dh : Nat), .int .u64 (dl : Nat)] 25) := ⟨_, rfl⟩
  have hX : w1.heap[w.heap.size]? = some (.cells #[.int .u64 (sh : Nat), .int .u64 (sl : Nat)] 25 (0, 0)) := by rw [hw1, al_oldw (by simp)]; exact al_neww rfl _
  have hY : w1.heap[w.heap.size + 1]? = some (.cells #[.int .u64 (dh : Nat), .int .u64 (dl : Nat)] 25 (0, 0)) := by rw [hw1]; exact al_neww (by simp) _
  have bw : Below w.heap.size w w1 := by rw [hw1]; exact Below.al (Below.al (Below.refl _ _) _) _
  rw [← hw1]
  clear hw1
  obtain ⟨sx0, sx1, _, _⟩ := cells2 hX
  obtain ⟨dx0, dx1, _, _⟩ := cells2 hY
  refine Lib.hid ?_
  go_wp2_with (go_at_call 62; refine (ci _).mono ?_; rintro e w2 ⟨rfl, hbx⟩; refine Hid.out ?_)
  have hXn := blkKeep2 hbx hX
  have hYn := blkKeep2 hbx hY
  have bwn : Below w.heap.size w w2 := bw.trans (hbx.mono bw.size)
  clear hbx hX hY bw sx0 sx1 dx0 dx1
  have hX := hXn
  have hY := hYn
  have bw := bwn
  clear hXn hYn bwn
  obtain ⟨sx0, sx1, _, _⟩ := cells2 hX
  obtain ⟨dx0, dx1, _, _⟩ := cells2 hY
  clear ci
  refine Lib.hid ?_
  go_wp2_with (first | (go_at_call_of 40 (Value.int IntKind.i64 vp); refine (cA _).mono ?_; rintro e w' ⟨rfl, hw'⟩; subst hw') | (go_at_call_of 40 (Value.int IntKind.i64 ttl); refine (cB _).mono ?_; rintro e w' ⟨rfl, hw'⟩; subst hw') | (go_at_call 62; refine (cd _).mono ?_; rintro e w3 ⟨rfl, hbx⟩))
  go_ret2
  exact ⟨rfl, bw.trans (hbx.mono bw.size)⟩

set_option maxHeartbeats 4000000 in
set_option maxRecDepth 100000 in
theorem rpk6_4 (A : Option Addr) (n c : Nat) (l : List UInt8) (sh sl dh dl : Nat) (ttl : Int) (h1 : sh < 18446744073709551616) (h2 : sl < 18446744073709551616) (h3 : dh < 18446744073709551616) (h4 : dl < 18446744073709551616) (hs4 : is4I (sh : Int) (sl : Int) = false) {w : World} (h : BytA w A n c l) (hm : n ≤ 65536) (hd4 : is4I (dh : Int) (dl : Int) = false) (hp : byteP 44 = true) (ht : byteP ttl = true)  :
    Calls Try.prog 22 #[.agg #[.int .u64 (sh : Nat), .int .u64 (sl : Nat)], .agg #[.int .u64 (dh : Nat), .int .u64 (dl : Nat)], .int .i64 44, .int .i64 ttl, .slice A n c] w fun e w' => e = .returned (.tuple #[.slice none 0 0, .int .i64 1]) ∧ Below w.heap.size w w' := by
  have ci := fun (W : World) => ris4_any (sh : Int) (sl : Int) ⟨by omega, by omega⟩ ⟨by omega, by omega⟩ W
  rw [hs4] at ci
  have cd := fun (W : World) => ris4_any (dh : Int) (dl : Int) ⟨by omega, by omega⟩ ⟨by omega, by omega⟩ W
  rw [hd4] at cd
  have cA := fun (W : World) => within_any 44 W
  have cB := fun (W : World) => within_any ttl W
  have nI : (n : Int) ≤ 65536 := by omega
  clear hs4 h1 h2 h3 h4 hd4
  rw [hp] at cA
  rw [ht] at cB
  clear h
  go_enter Try.func22, Try.ntmps22
  go_wp2_with (with_reducible refine stop_op (o := ⟨some 15, _, _, _, _, _⟩) ?_)
  obtain ⟨w1, hw1⟩ : ∃ x, x = (w.alloc (.cells #[.int .u64 (sh : Nat), .int .u64 (sl : Nat)] 25)).alloc (.cells #[.int .u64 (dh : Nat), .int .u64 (dl : Nat)] 25) := ⟨_, rfl⟩
  have hX : w1.heap[w.heap.size]? = some (.cells #[.int .u64 (sh : Nat), .int .u64 (sl : Nat)] 25 (0, 0)) := by rw [hw1, al_oldw (by simp)]; exact al_neww rfl _
  have hY : w1.heap[w.heap.size + 1]? = some (.cells #[.int .u64 (dh : Nat), .int .u64 (dl : Nat)] 25 (0, 0)) := by rw [hw1]; exact al_neww (by simp) _
  have bw : Below w.heap.size w w1 := by rw [hw1]; exact Below.al (Below.al (Below.refl _ _) _) _
  rw [← hw1]
  clear hw1
  obtain ⟨sx0, sx1, _, _⟩ := cells2 hX
  obtain ⟨dx0, dx1, _, _⟩ := cells2 hY
  refine Lib.hid ?_
  go_wp2_with (go_at_call 62; refine (ci _).mono ?_; rintro e w2 ⟨rfl, hbx⟩; refine Hid.out ?_)
  have hXn := blkKeep2 hbx hX
  have hYn := blkKeep2 hbx hY
  have bwn : Below w.heap.size w w2 := bw.trans (hbx.mono bw.size)
  clear hbx hX hY bw sx0 sx1 dx0 dx1
  have hX := hXn
  have hY := hYn
  have bw := bwn
  clear hXn hYn bwn
  obtain ⟨sx0, sx1, _, _⟩ := cells2 hX
  obtain ⟨dx0, dx1, _, _⟩ := cells2 hY
  clear ci
  refine Lib.hid ?_
  go_wp2_with (first | (go_at_call_of 40 (Value.int IntKind.i64 44); refine (cA _).mono ?_; rintro e w' ⟨rfl, hw'⟩; subst hw') | (go_at_call_of 40 (Value.int IntKind.i64 ttl); refine (cB _).mono ?_; rintro e w' ⟨rfl, hw'⟩; subst hw') | (go_at_call 62; refine (cd _).mono ?_; rintro e w3 ⟨rfl, hbx⟩))
  go_ret2
  exact ⟨rfl, bw.trans (hbx.mono bw.size)⟩

set_option maxHeartbeats 4000000 in
set_option maxRecDepth 100000 in
theorem rpk6_5 (A : Option Addr) (n c : Nat) (l : List UInt8) (sh sl dh dl : Nat) (ttl : Int) (h1 : sh < 18446744073709551616) (h2 : sl < 18446744073709551616) (h3 : dh < 18446744073709551616) (h4 : dl < 18446744073709551616) (hs4 : is4I (sh : Int) (sl : Int) = false) {w : World} (h : BytA w A n c l) (hm : n ≤ 65536) (hd4 : is4I (dh : Int) (dl : Int) = false) (hp : byteP 1 = true) (ht : byteP ttl = true)   :
    Calls Try.prog 22 #[.agg #[.int .u64 (sh : Nat), .int .u64 (sl : Nat)], .agg #[.int .u64 (dh : Nat), .int .u64 (dl : Nat)], .int .i64 1, .int .i64 ttl, .slice A n c] w fun e w' => e = .returned (.tuple #[.slice none 0 0, .int .i64 1]) ∧ Below w.heap.size w w' := by
  have ci := fun (W : World) => ris4_any (sh : Int) (sl : Int) ⟨by omega, by omega⟩ ⟨by omega, by omega⟩ W
  rw [hs4] at ci
  have cd := fun (W : World) => ris4_any (dh : Int) (dl : Int) ⟨by omega, by omega⟩ ⟨by omega, by omega⟩ W
  rw [hd4] at cd
  have cA := fun (W : World) => within_any 1 W
  have cB := fun (W : World) => within_any ttl W
  have nI : (n : Int) ≤ 65536 := by omega
  clear hs4 h1 h2 h3 h4 hd4
  rw [hp] at cA
  rw [ht] at cB
  clear h
  go_enter Try.func22, Try.ntmps22
  go_wp2_with (with_reducible refine stop_op (o := ⟨some 15, _, _, _, _, _⟩) ?_)
  obtain ⟨w1, hw1⟩ : ∃ x, x = (w.alloc (.cells #[.int .u64 (sh : Nat), .int .u64 (sl : Nat)] 25)).alloc (.cells #[.int .u64 (dh : Nat), .int .u64 (dl : Nat)] 25) := ⟨_, rfl⟩
  have hX : w1.heap[w.heap.size]? = some (.cells #[.int .u64 (sh : Nat), .int .u64 (sl : Nat)] 25 (0, 0)) := by rw [hw1, al_oldw (by simp)]; exact al_neww rfl _
  have hY : w1.heap[w.heap.size + 1]? = some (.cells #[.int .u64 (dh : Nat), .int .u64 (dl : Nat)] 25 (0, 0)) := by rw [hw1]; exact al_neww (by simp) _
  have bw : Below w.heap.size w w1 := by rw [hw1]; exact Below.al (Below.al (Below.refl _ _) _) _
  rw [← hw1]
  clear hw1
  obtain ⟨sx0, sx1, _, _⟩ := cells2 hX
  obtain ⟨dx0, dx1, _, _⟩ := cells2 hY
  refine Lib.hid ?_
  go_wp2_with (go_at_call 62; refine (ci _).mono ?_; rintro e w2 ⟨rfl, hbx⟩; refine Hid.out ?_)
  have hXn := blkKeep2 hbx hX
  have hYn := blkKeep2 hbx hY
  have bwn : Below w.heap.size w w2 := bw.trans (hbx.mono bw.size)
  clear hbx hX hY bw sx0 sx1 dx0 dx1
  have hX := hXn
  have hY := hYn
  have bw := bwn
  clear hXn hYn bwn
  obtain ⟨sx0, sx1, _, _⟩ := cells2 hX
  obtain ⟨dx0, dx1, _, _⟩ := cells2 hY
  clear ci
  refine Lib.hid ?_
  go_wp2_with (first | (go_at_call_of 40 (Value.int IntKind.i64 1); refine (cA _).mono ?_; rintro e w' ⟨rfl, hw'⟩; subst hw') | (go_at_call_of 40 (Value.int IntKind.i64 ttl); refine (cB _).mono ?_; rintro e w' ⟨rfl, hw'⟩; subst hw') | (go_at_call 62; refine (cd _).mono ?_; rintro e w3 ⟨rfl, hbx⟩))
  go_ret2
  exact ⟨rfl, bw.trans (hbx.mono bw.size)⟩

set_option maxHeartbeats 4000000 in
set_option maxRecDepth 100000 in
theorem rpk6_6 (A : Option Addr) (n c : Nat) (l : List UInt8) (sh sl dh dl : Nat) (vp ttl : Int) (h1 : sh < 18446744073709551616) (h2 : sl < 18446744073709551616) (h3 : dh < 18446744073709551616) (h4 : dl < 18446744073709551616) (hs4 : is4I (sh : Int) (sl : Int) = false) {w : World} (h : BytA w A n c l) (hm : n ≤ 65536) (hd4 : is4I (dh : Int) (dl : Int) = false) (hp : byteP vp = true) (ht : byteP ttl = true) (hq : vp ≠ 44) (hk : vp ≠ 1) (hz : 2048 < 40 + n) :
    Calls Try.prog 22 #[.agg #[.int .u64 (sh : Nat), .int .u64 (sl : Nat)], .agg #[.int .u64 (dh : Nat), .int .u64 (dl : Nat)], .int .i64 vp, .int .i64 ttl, .slice A n c] w fun e w' => e = .returned (.tuple #[.slice none 0 0, .int .i64 1]) ∧ Below w.heap.size w w' := by
  have ci := fun (W : World) => ris4_any (sh : Int) (sl : Int) ⟨by omega, by omega⟩ ⟨by omega, by omega⟩ W
  rw [hs4] at ci
  have cd := fun (W : World) => ris4_any (dh : Int) (dl : Int) ⟨by omega, by omega⟩ ⟨by omega, by omega⟩ W
  rw [hd4] at cd
  have cA := fun (W : World) => within_any vp W
  have cB := fun (W : World) => within_any ttl W
  have nI : (n : Int) ≤ 65536 := by omega
  clear hs4 h1 h2 h3 h4 hd4
  rw [hp] at cA
  rw [ht] at cB
  have q44 : (vp == 44) = false := by simp [hq]
  have q58 : (vp == 1) = false := by simp [hk]
  have g0 : IntKind.i64.wrap 2008 = 2008 := by decide
  have g1 : decide ((2008 : Int) < (n : Int)) = true := by simp; omega
  have g2 : (2008 : Int) < (n : Int) := by omega
  have g3 : decide (2008 < n) = true := by simp; omega
  clear h
  go_enter Try.func22, Try.ntmps22
  go_wp2_with (with_reducible refine stop_op (o := ⟨some 15, _, _, _, _, _⟩) ?_)
  obtain ⟨w1, hw1⟩ : ∃ x, x = (w.alloc (.cells #[.int .u64 (sh : Nat), .int .u64 (sl : Nat)] 25)).alloc (.cells #[.int .u64 (dh : Nat), .int .u64 (dl : Nat)] 25) := ⟨_, rfl⟩
  have hX : w1.heap[w.heap.size]? = some (.cells #[.int .u64 (sh : Nat), .int .u64 (sl : Nat)] 25 (0, 0)) := by rw [hw1, al_oldw (by simp)]; exact al_neww rfl _
  have hY : w1.heap[w.heap.size + 1]? = some (.cells #[.int .u64 (dh : Nat), .int .u64 (dl : Nat)] 25 (0, 0)) := by rw [hw1]; exact al_neww (by simp) _
  have bw : Below w.heap.size w w1 := by rw [hw1]; exact Below.al (Below.al (Below.refl _ _) _) _
  rw [← hw1]
  clear hw1
  obtain ⟨sx0, sx1, _, _⟩ := cells2 hX
  obtain ⟨dx0, dx1, _, _⟩ := cells2 hY
  refine Lib.hid ?_
  go_wp2_with (go_at_call 62; refine (ci _).mono ?_; rintro e w2 ⟨rfl, hbx⟩; refine Hid.out ?_)
  have hXn := blkKeep2 hbx hX
  have hYn := blkKeep2 hbx hY
  have bwn : Below w.heap.size w w2 := bw.trans (hbx.mono bw.size)
  clear hbx hX hY bw sx0 sx1 dx0 dx1
  have hX := hXn
  have hY := hYn
  have bw := bwn
  clear hXn hYn bwn
  obtain ⟨sx0, sx1, _, _⟩ := cells2 hX
  obtain ⟨dx0, dx1, _, _⟩ := cells2 hY
  clear ci
  refine Lib.hid ?_
  go_wp2_with (first | (go_at_call_of 40 (Value.int IntKind.i64 vp); refine (cA _).mono ?_; rintro e w' ⟨rfl, hw'⟩; subst hw') | (go_at_call_of 40 (Value.int IntKind.i64 ttl); refine (cB _).mono ?_; rintro e w' ⟨rfl, hw'⟩; subst hw') | (go_at_call 62; refine (cd _).mono ?_; rintro e w3 ⟨rfl, hbx⟩))
  go_ret2
  exact ⟨rfl, bw.trans (hbx.mono bw.size)⟩
end Go.Proofs.Ytpmbdjdhgcjkfaa
