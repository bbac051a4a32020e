/- Packet: the document's; by-name template (gen_wrpacket.py). -/
import Derived.Test.YtpmbdjdhgcjkfaaZC
import Derived.Test.YtpmbdjdhgcjkfaaZB
import Derived.Test.YtpmbdjdhgcjkfaaZA
import Derived.StillTailTactics
namespace Go.Proofs.Ytpmbdjdhgcjkfaa
open Go.RowKit Go.Sort
set_option linter.unusedVariables false
set_option linter.unusedSimpArgs false

/-- A row of our own of which some bytes were written. -/
theorem own_wr {w w' : World} {base g n cap o : Nat} {L L' a b c bs : List UInt8} (h : w.ownsRow base 5 1 (.slice (some ⟨g, 0, none⟩) n cap) n (bc L)) (hw : Wr w g o bs w') (hL : L = a ++ b ++ c) (ho : a.length = o) (hb : bs.length = b.length) (hL' : L' = a ++ bs ++ c) :
    w'.ownsRow base 5 1 (.slice (some ⟨g, 0, none⟩) n cap) n (bc L') := by
  subst hL; subst ho; subst hL'
  obtain ⟨h1, h2⟩ := h
  rw [bc_len, Nat.mul_one] at h1
  have hlen : (a ++ bs ++ c).length = n := by rw [← h1]; simp [hb]
  refine ⟨by rw [bc_len, hlen, Nat.mul_one], ?_⟩
  rcases h2 with ⟨e, _⟩ | ⟨g', cap', cur, e, hbg, hg, hn, hm, hs, ht⟩
  · cases e
  · cases e
    obtain ⟨cs, hcs, hk⟩ := hw.kind _ _ _ hg
    refine .inr ⟨g, cap, cs, rfl, hbg, hk, hn, hm, by rw [hcs, hs], ?_⟩
    rw [Nat.mul_one] at ht ⊢
    have hcell : ∀ k, w'.cell? ⟨g, k, none⟩ = cs[k]? := fun k => by simp [World.cell?, hk]
    have hcell0 : ∀ k, w.cell? ⟨g, k, none⟩ = cur[k]? := fun k => by simp [World.cell?, hg]
    have hcur : ∀ k, k < n → cur[k]? = ((a ++ b ++ c)[k]?).map fun x => .int .u8 (x.toNat : Nat) := fun k hk => by
      rw [← bc_getE, ← ht, List.getElem?_take_of_lt hk]; simp
    apply List.ext_getElem?
    intro k
    rw [bc_getE]
    by_cases hkn : k < n
    · rw [List.getElem?_take_of_lt hkn, show cs.toList[k]? = cs[k]? by simp, ← hcell k]
      by_cases h1 : k < a.length
      · rw [hw.out k (by omega), hcell0, hcur k hkn, List.append_assoc, List.append_assoc, List.getElem?_append_left h1, List.getElem?_append_left h1]
      · by_cases h2 : k < a.length + bs.length
        · rw [List.append_assoc, List.getElem?_append_right (by omega), List.getElem?_append_left (by omega)]
          have hx : bs[k - a.length]? = some (bs[k - a.length]'(by omega)) := List.getElem?_eq_getElem _
          have := hw.inn _ _ hx
          rw [show a.length + (k - a.length) = k by omega] at this
          rw [this, hx]; rfl
        · rw [hw.out k (by omega), hcell0, hcur k hkn, List.getElem?_append_right (by rw [List.length_append]; omega), List.getElem?_append_right (by rw [List.length_append]; omega), List.length_append, List.length_append, hb]
    · rw [List.getElem?_eq_none (by rw [List.length_take]; omega), List.getElem?_eq_none (by omega)]; rfl
theorem own_room {w : World} {base g n cap : Nat} {L : List UInt8} (h : w.ownsRow base 5 1 (.slice (some ⟨g, 0, none⟩) n cap) n (bc L)) (hn : 0 < n) {o m : Nat} (hm : o + m ≤ n) : Room w g o m := by
  obtain ⟨g', cap', e, _, _, _, _, hc, hf⟩ := own_form h hn
  cases e
  have hl : L.length = n := by have := h.1; rw [bc_len] at this; omega
  intro j hj
  exact ⟨⟨_, hc (o + j) _ (by rw [bc_getE, List.getElem?_eq_getElem (show o + j < L.length by omega)]; rfl)⟩, hf _⟩
theorem own_len {w : World} {base g n cap : Nat} {L : List UInt8} (h : w.ownsRow base 5 1 (.slice (some ⟨g, 0, none⟩) n cap) n (bc L)) (hn : 0 < n) : base ≤ g ∧ g < w.heap.size ∧ n ≤ cap ∧ cap ≤ maxLen := by
  obtain ⟨g', cap', e, h1, h2, h3, h4, _⟩ := own_form h hn
  cases e
  exact ⟨h1, h2, h3, h4⟩
theorem cut_cap (g n c k : Nat) (h : k ≤ n) (hc : n ≤ c) (hcm : c ≤ 9223372036854775807) : ∃ e : Nat, (∀ W, (Instr.slice 22 (.slice (some ⟨g, 0, none⟩) n c) (some (.int .i64 (k : Nat))) none none).run Try.prog W = .ok (.slice (some ⟨g, e, none⟩) (n - k) (c - k)) W) ∧ (0 < n - k → e = k) := by
  by_cases hk : k < c
  · refine ⟨k, fun W => ?_, fun _ => rfl⟩
    have := cut_l g 0 n c k (by omega) hk hcm hc W
    rw [Nat.zero_add] at this
    exact this
  · obtain rfl : k = n := by omega
    obtain rfl : k = c := by omega
    refine ⟨0, fun W => ?_, fun h => absurd h (by omega)⟩
    have hz : (sizeOf (Try.prog.elem 22)).run Try.prog W = .ok 1 W := by kernel_rfl
    rw [run_slice_l W 22 (some ⟨g, 0, none⟩) k k (by kernel_rfl) .i64 (k : Nat) (by omega) (by omega), hz]
    simp [Result.andThen, sliced]

set_option maxHeartbeats 4000000 in
set_option maxRecDepth 100000 in
theorem wi_a (n : Int) (h : n < 0) (w : World) : Calls Try.prog 40 #[.int .i64 n, .int .i64 0, .int .i64 255] w fun e w' => e = .returned (.bool false) ∧ w = w' := by
  have h1 : decide ((0 : Int) ≤ n) = false := by simp; omega
  go_enter Try.func40, Try.ntmps40
  go_wp2
  go_ret
  exact ⟨rfl, rfl⟩

set_option maxHeartbeats 4000000 in
set_option maxRecDepth 100000 in
theorem wi_b (n : Int) (h : 255 < n) (w : World) : Calls Try.prog 40 #[.int .i64 n, .int .i64 0, .int .i64 255] w fun e w' => e = .returned (.bool false) ∧ w = w' := by
  have h1 : decide ((0 : Int) ≤ n) = true := by simp; omega
  have h2 : decide (n ≤ 255) = false := by simp; omega
  go_enter Try.func40, Try.ntmps40
  go_wp2
  go_ret
  exact ⟨rfl, rfl⟩

set_option maxHeartbeats 4000000 in
set_option maxRecDepth 100000 in
theorem wi_c (n : Int) (h : 0 ≤ n) (h2 : n ≤ 255) (w : World) : Calls Try.prog 40 #[.int .i64 n, .int .i64 0, .int .i64 255] w fun e w' => e = .returned (.bool true) ∧ w = w' := by
  have h1 : decide ((0 : Int) ≤ n) = true := by simp; omega
  have h3 : decide (n ≤ 255) = true := by simp; omega
  go_enter Try.func40, Try.ntmps40
  go_wp2
  go_ret
  exact ⟨rfl, rfl⟩

theorem within_any (n : Int) (w : World) : Calls Try.prog 40 #[.int .i64 n, .int .i64 0, .int .i64 255] w fun e w' => e = .returned (.bool (byteP n)) ∧ w = w' := by
  unfold byteP
  by_cases h : n < 0
  · rw [show (decide (0 ≤ n) && decide (n ≤ 255)) = false by simp; omega]; exact wi_a n h w
  by_cases h2 : 255 < n
  · rw [show (decide (0 ≤ n) && decide (n ≤ 255)) = false by simp; omega]; exact wi_b n h2 w
  · rw [show (decide (0 ≤ n) && decide (n ≤ 255)) = true by simp; omega]; exact wi_c n (by omega) (by omega) w

set_option maxHeartbeats 4000000 in
set_option maxRecDepth 100000 in
theorem rpk4_1 (A : Option Addr) (n c : Nat) (l : List UInt8) (sh sl dh dl : Nat) (vp ttl : Int) (h1 : sh < 18446744073709551616) (h2 : sl < 18446744073709551616) (h3 : dh < 18446744073709551616) (h4 : dl < 18446744073709551616) (hs4 : is4I (sh : Int) (sl : Int) = true) {w : World} (h : BytA w A n c l) (hm : n ≤ 65536) (hd4 : is4I (dh : Int) (dl : Int) = false) :
    Calls Try.prog 22 #[.agg #[.int .u64 (sh : Nat), .int .u64 (sl : Nat)], .agg #[.int .u64 (dh : Nat), .int .u64 (dl : Nat)], .int .i64 vp, .int .i64 ttl, .slice A n c] w fun e w' => e = .returned (.tuple #[.slice none 0 0, .int .i64 1]) ∧ Below w.heap.size w w' := by
  have ci := fun (W : World) => ris4_any (sh : Int) (sl : Int) ⟨by omega, by omega⟩ ⟨by omega, by omega⟩ W
  rw [hs4] at ci
  have cd := fun (W : World) => ris4_any (dh : Int) (dl : Int) ⟨by omega, by omega⟩ ⟨by omega, by omega⟩ W
  rw [hd4] at cd
  have cA := fun (W : World) => within_any vp W
  have cB := fun (W : World) => within_any ttl W
  have nI : (n : Int) ≤ 65536 := by omega
  clear hs4 h1 h2 h3 h4 hd4
  clear h
  go_enter Try.func22, Try.ntmps22
  go_wp2_with (with_reducible refine stop_op (o := ⟨some 15, _, _, _, _, _⟩) ?_)
  obtain ⟨w1, hw1⟩ : ∃ x, x = (w.alloc (.cells #[.int .u64 (sh : Nat), .int .u64 (sl : Nat)] 25)).alloc (.cells #[.int .u64 (dh : Nat), .int .u64 (dl : Nat)] 25) := ⟨_, rfl⟩
  have hX : w1.heap[w.heap.size]? = some (.cells #[.int .u64 (sh : Nat), .int .u64 (sl : Nat)] 25 (0, 0)) := by rw [hw1, al_oldw (by simp)]; exact al_neww rfl _
  have hY : w1.heap[w.heap.size + 1]? = some (.cells #[.int .u64 (dh : Nat), .int .u64 (dl : Nat)] 25 (0, 0)) := by rw [hw1]; exact al_neww (by simp) _
  have bw : Below w.heap.size w w1 := by rw [hw1]; exact Below.al (Below.al (Below.refl _ _) _) _
  rw [← hw1]
  clear hw1
  obtain ⟨sx0, sx1, _, _⟩ := cells2 hX
  obtain ⟨dx0, dx1, _, _⟩ := cells2 hY
  refine Lib.hid ?_
  go_wp2_with (go_at_call 62; refine (ci _).mono ?_; rintro e w2 ⟨rfl, hbx⟩; refine Hid.out ?_)
  have hXn := blkKeep2 hbx hX
  have hYn := blkKeep2 hbx hY
  have bwn : Below w.heap.size w w2 := bw.trans (hbx.mono bw.size)
  clear hbx hX hY bw sx0 sx1 dx0 dx1
  have hX := hXn
  have hY := hYn
  have bw := bwn
  clear hXn hYn bwn
  obtain ⟨sx0, sx1, _, _⟩ := cells2 hX
  obtain ⟨dx0, dx1, _, _⟩ := cells2 hY
  clear ci
  refine Lib.hid ?_
  go_wp2_with (first | (go_at_call_of 40 (Value.int IntKind.i64 vp); refine (cA _).mono ?_; rintro e w' ⟨rfl, hw'⟩; subst hw') | (go_at_call_of 40 (Value.int IntKind.i64 ttl); refine (cB _).mono ?_; rintro e w' ⟨rfl, hw'⟩; subst hw') | (go_at_call 62; refine (cd _).mono ?_; rintro e w3 ⟨rfl, hbx⟩))
  go_ret2
  exact ⟨rfl, bw.trans (hbx.mono bw.size)⟩

set_option maxHeartbeats 4000000 in
set_option maxRecDepth 100000 in
theorem rpk4_2 (A : Option Addr) (n c : Nat) (l : List UInt8) (sh sl dh dl : Nat) (vp ttl : Int) (h1 : sh < 18446744073709551616) (h2 : sl < 18446744073709551616) (h3 : dh < 18446744073709551616) (h4 : dl < 18446744073709551616) (hs4 : is4I (sh : Int) (sl : Int) = true) {w : World} (h : BytA w A n c l) (hm : n ≤ 65536) (hd4 : is4I (dh : Int) (dl : Int) = true) (hp : byteP vp = false) :
    Calls Try.prog 22 #[.agg #[.int .u64 (sh : Nat), .int .u64 (sl : Nat)], .agg #[.int .u64 (dh : Nat), .int .u64 (dl : Nat)], .int .i64 vp, .int .i64 ttl, .slice A n c] w fun e w' => e = .returned (.tuple #[.slice none 0 0, .int .i64 1]) ∧ Below w.heap.size w w' := by
  have ci := fun (W : World) => ris4_any (sh : Int) (sl : Int) ⟨by omega, by omega⟩ ⟨by omega, by omega⟩ W
  rw [hs4] at ci
  have cd := fun (W : World) => ris4_any (dh : Int) (dl : Int) ⟨by omega, by omega⟩ ⟨by omega, by omega⟩ W
  rw [hd4] at cd
  have cA := fun (W : World) => within_any vp W
  have cB := fun (W : World) => within_any ttl W
  have nI : (n : Int) ≤ 65536 := by omega
  clear hs4 h1 h2 h3 h4 hd4
  rw [hp] at cA
  clear h
  go_enter Try.func22, Try.ntmps22
  go_wp2_with (with_reducible refine stop_op (o := ⟨some 15, _, _, _, _, _⟩) ?_)
  obtain ⟨w1, hw1⟩ : ∃ x, x = (w.alloc (.cells #[.int .u64 (sh : Nat), .int .u64 (sl : Nat)] 25)).alloc (.cells #[.int .u64 (dh : Nat), .int .u64 (dl : Nat)] 25) := ⟨_, rfl⟩
  have hX : w1.heap[w.heap.size]? = some (.cells #[.int .u64 (sh : Nat), .int .u64 (sl : Nat)] 25 (0, 0)) := by rw [hw1, al_oldw (by simp)]; exact al_neww rfl _
  have hY : w1.heap[w.heap.size + 1]? = some (.cells #[.int .u64 (dh : Nat), .int .u64 (dl : Nat)] 25 (0, 0)) := by rw [hw1]; exact al_neww (by simp) _
  have bw : Below w.heap.size w w1 := by rw [hw1]; exact Below.al (Below.al (Below.refl _ _) _) _
  rw [← hw1]
  clear hw1
  obtain ⟨sx0, sx1, _, _⟩ := cells2 hX
  obtain ⟨dx0, dx1, _, _⟩ := cells2 hY
  refine Lib.hid ?_
  go_wp2_with (go_at_call 62; refine (ci _).mono ?_; rintro e w2 ⟨rfl, hbx⟩; refine Hid.out ?_)
  have hXn := blkKeep2 hbx hX
  have hYn := blkKeep2 hbx hY
  have bwn : Below w.heap.size w w2 := bw.trans (hbx.mono bw.size)
  clear hbx hX hY bw sx0 sx1 dx0 dx1
  have hX := hXn
  have hY := hYn
  have bw := bwn
  clear hXn hYn bwn
  obtain ⟨sx0, sx1, _, _⟩ := cells2 hX
  obtain ⟨dx0, dx1, _, _⟩ := cells2 hY
  clear ci
  refine Lib.hid ?_
  go_wp2_with (first | (go_at_call_of 40 (Value.int IntKind.i64 vp); refine (cA _).mono ?_; rintro e w' ⟨rfl, hw'⟩; subst hw') | (go_at_call_of 40 (Value.int IntKind.i64 ttl); refine (cB _).mono ?_; rintro e w' ⟨rfl, hw'⟩; subst hw') | (go_at_call 62; refine (cd _).mono ?_; rintro e w3 ⟨rfl, hbx⟩))
  go_ret2
  exact ⟨rfl, bw.trans (hbx.mono bw.size)⟩

set_option maxHeartbeats 4000000 in
set_option maxRecDepth 100000 in
theorem rpk4_3 (A : Option Addr) (n c : Nat) (l : List UInt8) (sh sl dh dl : Nat) (vp ttl : Int) (h1 : sh < 18446744073709551616) (h2 : sl < 18446744073709551616) (h3 : dh < 18446744073709551616) (h4 : dl < 18446744073709551616) (hs4 : is4I (sh : Int) (sl : Int) = true) {w : World} (h : BytA w A n c l) (hm : n ≤ 65536) (hd4 : is4I (dh : Int) (dl : Int) = true) (hp : byteP vp = true) (ht : byteP ttl = false) :
    Calls Try.prog 22 #[.agg #[.int .u64 (sh : Nat), .int .u64 (sl : Nat)], .agg #[.int .u64 (dh : Nat), .int .u64 (dl : Nat)], .int .i64 vp, .int .i64 ttl, .slice A n c] w fun e w' => e = .returned (.tuple #[.slice none 0 0, .int .i64 1]) ∧ Below w.heap.size w w' := by
  have ci := fun (W : World) => ris4_any (sh : Int) (sl : Int) ⟨by omega, by omega⟩ ⟨by omega, by omega⟩ W
  rw [hs4] at ci
  have cd := fun (W : World) => ris4_any (dh : Int) (dl : Int) ⟨by omega, by omega⟩ ⟨by omega, by omega⟩ W
  rw [hd4] at cd
  have cA := fun (W : World) => within_any vp W
  have cB := fun (W : World) => within_any ttl W
  have nI : (n : Int) ≤ 65536 := by omega
  clear hs4 h1 h2 h3 h4 hd4
  rw [hp] at cA
  rw [ht] at cB
  clear h
  go_enter Try.func22, Try.ntmps22
  go_wp2_with (with_reducible refine stop_op (o := ⟨some 15, _, _, _, _, _⟩) ?_)
  obtain ⟨w1, hw1⟩ : ∃ x, x = (w.alloc (.cells #[.int .u64 (sh : Nat), .int .u64 (sl : Nat)] 25)).alloc (.cells #[.int .u64 (dh : Nat), .int .u64 (dl : Nat)] 25) := ⟨_, rfl⟩
  have hX : w1.heap[w.heap.size]? = some (.cells #[.int .u64 (sh : Nat), .int .u64 (sl : Nat)] 25 (0, 0)) := by rw [hw1, al_oldw (by simp)]; exact al_neww rfl _
  have hY : w1.heap[w.heap.size + 1]? = some (.cells #[.int .u64 (dh : Nat), .int .u64 (dl : Nat)] 25 (0, 0)) := by rw [hw1]; exact al_neww (by simp) _
  have bw : Below w.heap.size w w1 := by rw [hw1]; exact Below.al (Below.al (Below.refl _ _) _) _
  rw [← hw1]
  clear hw1
  obtain ⟨sx0, sx1, _, _⟩ := cells2 hX
  obtain ⟨dx0, dx1, _, _⟩ := cells2 hY
  refine Lib.hid ?_
  go_wp2_with (go_at_call 62; refine (ci _).mono ?_; rintro e w2 ⟨rfl, hbx⟩; refine Hid.out ?_)
  have hXn := blkKeep2 hbx hX
  have hYn := blkKeep2 hbx hY
  have bwn : Below w.heap.size w w2 := bw.trans (hbx.mono bw.size)
  clear hbx hX hY bw sx0 sx1 dx0 dx1
  have hX := hXn
  have hY := hYn
  have bw := bwn
  clear hXn hYn bwn
  obtain ⟨sx0, sx1, _, _⟩ := cells2 hX
  obtain ⟨dx0, dx1, _, _⟩ := cells2 hY
  clear ci
  refine Lib.hid ?_
  go_wp2_with (first | (go_at_call_of 40 (Value.int IntKind.i64 vp); refine (cA _).mono ?_; rintro e w' ⟨rfl, hw'⟩; subst hw') | (go_at_call_of 40 (Value.int IntKind.i64 ttl); refine (cB _).mono ?_; rintro e w' ⟨rfl, hw'⟩; subst hw') | (go_at_call 62; refine (cd _).mono ?_; rintro e w3 ⟨rfl, hbx⟩))
  go_ret2
  exact ⟨rfl, bw.trans (hbx.mono bw.size)⟩

set_option maxHeartbeats 4000000 in
set_option maxRecDepth 100000 in
theorem rpk4_4 (A : Option Addr) (n c : Nat) (l : List UInt8) (sh sl dh dl : Nat) (ttl : Int) (h1 : sh < 18446744073709551616) (h2 : sl < 18446744073709551616) (h3 : dh < 18446744073709551616) (h4 : dl < 18446744073709551616) (hs4 : is4I (sh : Int) (sl : Int) = true) {w : World} (h : BytA w A n c l) (hm : n ≤ 65536) (hd4 : is4I (dh : Int) (dl : Int) = true) (hp : byteP 44 = true) (ht : byteP ttl = true)  :
    Calls Try.prog 22 #[.agg #[.int .u64 (sh : Nat), .int .u64 (sl : Nat)], .agg #[.int .u64 (dh : Nat), .int .u64 (dl : Nat)], .int .i64 44, .int .i64 ttl, .slice A n c] w fun e w' => e = .returned (.tuple #[.slice none 0 0, .int .i64 1]) ∧ Below w.heap.size w w' := by
  have ci := fun (W : World) => ris4_any (sh : Int) (sl : Int) ⟨by omega, by omega⟩ ⟨by omega, by omega⟩ W
  rw [hs4] at ci
  have cd := fun (W : World) => ris4_any (dh : Int) (dl : Int) ⟨by omega, by omega⟩ ⟨by omega, by omega⟩ W
  rw [hd4] at cd
  have cA := fun (W : World) => within_any 44 W
  have cB := fun (W : World) => within_any ttl W
  have nI : (n : Int) ≤ 65536 := by omega
  clear hs4 h1 h2 h3 h4 hd4
  rw [hp] at cA
  rw [ht] at cB
  clear h
  go_enter Try.func22, Try.ntmps22
  go_wp2_with (with_reducible refine stop_op (o := ⟨some 15, _, _, _, _, _⟩) ?_)
  obtain ⟨w1, hw1⟩ : ∃ x, x = (w.alloc (.cells #[.int .u64 (sh : Nat), .int .u64 (sl : Nat)] 25)).alloc (.cells #[.int .u64 (dh : Nat), .int .u64 (dl : Nat)] 25) := ⟨_, rfl⟩
  have hX : w1.heap[w.heap.size]? = some (.cells #[.int .u64 (sh : Nat), .int .u64 (sl : Nat)] 25 (0, 0)) := by rw [hw1, al_oldw (by simp)]; exact al_neww rfl _
  have hY : w1.heap[w.heap.size + 1]? = some (.cells #[.int .u64 (dh : Nat), .int .u64 (dl : Nat)] 25 (0, 0)) := by rw [hw1]; exact al_neww (by simp) _
  have bw : Below w.heap.size w w1 := by rw [hw1]; exact Below.al (Below.al (Below.refl _ _) _) _
  rw [← hw1]
  clear hw1
  obtain ⟨sx0, sx1, _, _⟩ := cells2 hX
  obtain ⟨dx0, dx1, _, _⟩ := cells2 hY
  refine Lib.hid ?_
  go_wp2_with (go_at_call 62; refine (ci _).mono ?_; rintro e w2 ⟨rfl, hbx⟩; refine Hid.out ?_)
  have hXn := blkKeep2 hbx hX
  have hYn := blkKeep2 hbx hY
  have bwn : Below w.heap.size w w2 := bw.trans (hbx.mono bw.size)
  clear hbx hX hY bw sx0 sx1 dx0 dx1
  have hX := hXn
  have hY := hYn
  have bw := bwn
  clear hXn hYn bwn
  obtain ⟨sx0, sx1, _, _⟩ := cells2 hX
  obtain ⟨dx0, dx1, _, _⟩ := cells2 hY
  clear ci
  refine Lib.hid ?_
  go_wp2_with (first | (go_at_call_of 40 (Value.int IntKind.i64 44); refine (cA _).mono ?_; rintro e w' ⟨rfl, hw'⟩; subst hw') | (go_at_call_of 40 (Value.int IntKind.i64 ttl); refine (cB _).mono ?_; rintro e w' ⟨rfl, hw'⟩; subst hw') | (go_at_call 62; refine (cd _).mono ?_; rintro e w3 ⟨rfl, hbx⟩))
  go_ret2
  exact ⟨rfl, bw.trans (hbx.mono bw.size)⟩

set_option maxHeartbeats 4000000 in
set_option maxRecDepth 100000 in
theorem rpk4_5 (A : Option Addr) (n c : Nat) (l : List UInt8) (sh sl dh dl : Nat) (ttl : Int) (h1 : sh < 18446744073709551616) (h2 : sl < 18446744073709551616) (h3 : dh < 18446744073709551616) (h4 : dl < 18446744073709551616) (hs4 : is4I (sh : Int) (sl : Int) = true) {w : World} (h : BytA w A n c l) (hm : n ≤ 65536) (hd4 : is4I (dh : Int) (dl : Int) = true) (hp : byteP 58 = true) (ht : byteP ttl = true)   :
    Calls Try.prog 22 #[.agg #[.int .u64 (sh : Nat), .int .u64 (sl : Nat)], .agg #[.int .u64 (dh : Nat), .int .u64 (dl : Nat)], .int .i64 58, .int .i64 ttl, .slice A n c] w fun e w' => e = .returned (.tuple #[.slice none 0 0, .int .i64 1]) ∧ Below w.heap.size w w' := by
  have ci := fun (W : World) => ris4_any (sh : Int) (sl : Int) ⟨by omega, by omega⟩ ⟨by omega, by omega⟩ W
  rw [hs4] at ci
  have cd := fun (W : World) => ris4_any (dh : Int) (dl : Int) ⟨by omega, by omega⟩ ⟨by omega, by omega⟩ W
  rw [hd4] at cd
  have cA := fun (W : World) => within_any 58 W
  have cB := fun (W : World) => within_any ttl W
  have nI : (n : Int) ≤ 65536 := by omega
  clear hs4 h1 h2 h3 h4 hd4
  rw [hp] at cA
  rw [ht] at cB
  clear h
  go_enter Try.func22, Try.ntmps22
  go_wp2_with (with_reducible refine stop_op (o := ⟨some 15, _, _, _, _, _⟩) ?_)
  obtain ⟨w1, hw1⟩ : ∃ x, x = (w.alloc (.cells #[.int .u64 (sh : Nat), .int .u64 (sl : Nat)] 25)).alloc (.cells #[.int .u64 (dh : Nat), .int .u64 (dl : Nat)] 25) := ⟨_, rfl⟩
  have hX : w1.heap[w.heap.size]? = some (.cells #[.int .u64 (sh : Nat), .int .u64 (sl : Nat)] 25 (0, 0)) := by rw [hw1, al_oldw (by simp)]; exact al_neww rfl _
  have hY : w1.heap[w.heap.size + 1]? = some (.cells #[.int .u64 (dh : Nat), .int .u64 (dl : Nat)] 25 (0, 0)) := by rw [hw1]; exact al_neww (by simp) _
  have bw : Below w.heap.size w w1 := by rw [hw1]; exact Below.al (Below.al (Below.refl _ _) _) _
  rw [← hw1]
  clear hw1
  obtain ⟨sx0, sx1, _, _⟩ := cells2 hX
  obtain ⟨dx0, dx1, _, _⟩ := cells2 hY
  refine Lib.hid ?_
  go_wp2_with (go_at_call 62; refine (ci _).mono ?_; rintro e w2 ⟨rfl, hbx⟩; refine Hid.out ?_)
  have hXn := blkKeep2 hbx hX
  have hYn := blkKeep2 hbx hY
  have bwn : Below w.heap.size w w2 := bw.trans (hbx.mono bw.size)
  clear hbx hX hY bw sx0 sx1 dx0 dx1
  have hX := hXn
  have hY := hYn
  have bw := bwn
  clear hXn hYn bwn
  obtain ⟨sx0, sx1, _, _⟩ := cells2 hX
  obtain ⟨dx0, dx1, _, _⟩ := cells2 hY
  clear ci
  refine Lib.hid ?_
  go_wp2_with (first | (go_at_call_of 40 (Value.int IntKind.i64 58); refine (cA _).mono ?_; rintro e w' ⟨rfl, hw'⟩; subst hw') | (go_at_call_of 40 (Value.int IntKind.i64 ttl); refine (cB _).mono ?_; rintro e w' ⟨rfl, hw'⟩; subst hw') | (go_at_call 62; refine (cd _).mono ?_; rintro e w3 ⟨rfl, hbx⟩))
  go_ret2
  exact ⟨rfl, bw.trans (hbx.mono bw.size)⟩

set_option maxHeartbeats 4000000 in
set_option maxRecDepth 100000 in
theorem rpk4_6 (A : Option Addr) (n c : Nat) (l : List UInt8) (sh sl dh dl : Nat) (vp ttl : Int) (h1 : sh < 18446744073709551616) (h2 : sl < 18446744073709551616) (h3 : dh < 18446744073709551616) (h4 : dl < 18446744073709551616) (hs4 : is4I (sh : Int) (sl : Int) = true) {w : World} (h : BytA w A n c l) (hm : n ≤ 65536) (hd4 : is4I (dh : Int) (dl : Int) = true) (hp : byteP vp = true) (ht : byteP ttl = true) (hq : vp ≠ 44) (hk : vp ≠ 58) (hz : 2048 < 20 + n) :
    Calls Try.prog 22 #[.agg #[.int .u64 (sh : Nat), .int .u64 (sl : Nat)], .agg #[.int .u64 (dh : Nat), .int .u64 (dl : Nat)], .int .i64 vp, .int .i64 ttl, .slice A n c] w fun e w' => e = .returned (.tuple #[.slice none 0 0, .int .i64 1]) ∧ Below w.heap.size w w' := by
  have ci := fun (W : World) => ris4_any (sh : Int) (sl : Int) ⟨by omega, by omega⟩ ⟨by omega, by omega⟩ W
  rw [hs4] at ci
  have cd := fun (W : World) => ris4_any (dh : Int) (dl : Int) ⟨by omega, by omega⟩ ⟨by omega, by omega⟩ W
  rw [hd4] at cd
  have cA := fun (W : World) => within_any vp W
  have cB := fun (W : World) => within_any ttl W
  have nI : (n : Int) ≤ 65536 := by omega
  clear hs4 h1 h2 h3 h4 hd4
  rw [hp] at cA
  rw [ht] at cB
  have q44 : (vp == 44) = false := by simp [hq]
  have q58 : (vp == 58) = false := by simp [hk]
  have g0 : IntKind.i64.wrap 2028 = 2028 := by decide
  have g1 : decide ((2028 : Int) < (n : Int)) = true := by simp; omega
  have g2 : (2028 : Int) < (n : Int) := by omega
  have g3 : decide (2028 < n) = true := by simp; omega
  clear h
  go_enter Try.func22, Try.ntmps22
  go_wp2_with (with_reducible refine stop_op (o := ⟨some 15, _, _, _, _, _⟩) ?_)
  obtain ⟨w1, hw1⟩ : ∃ x, x = (w.alloc (.cells #[.int .u64 (sh : Nat), .int .u64 (sl : Nat)] 25)).alloc (.cells #[.int .u64 (dh : Nat), .int .u64 (dl : Nat)] 25) := ⟨_, rfl⟩
  have hX : w1.heap[w.heap.size]? = some (.cells #[.int .u64 (sh : Nat), .int .u64 (sl : Nat)] 25 (0, 0)) := by rw [hw1, al_oldw (by simp)]; exact al_neww rfl _
  have hY : w1.heap[w.heap.size + 1]? = some (.cells #[.int .u64 (dh : Nat), .int .u64 (dl : Nat)] 25 (0, 0)) := by rw [hw1]; exact al_neww (by simp) _
  have bw : Below w.heap.size w w1 := by rw [hw1]; exact Below.al (Below.al (Below.refl _ _) _) _
  rw [← hw1]
  clear hw1
  obtain ⟨sx0, sx1, _, _⟩ := cells2 hX
  obtain ⟨dx0, dx1, _, _⟩ := cells2 hY
  refine Lib.hid ?_
  go_wp2_with (go_at_call 62; refine (ci _).mono ?_; rintro e w2 ⟨rfl, hbx⟩; refine Hid.out ?_)
  have hXn := blkKeep2 hbx hX
  have hYn := blkKeep2 hbx hY
  have bwn : Below w.heap.size w w2 := bw.trans (hbx.mono bw.size)
  clear hbx hX hY bw sx0 sx1 dx0 dx1
  have hX := hXn
  have hY := hYn
  have bw := bwn
  clear hXn hYn bwn
  obtain ⟨sx0, sx1, _, _⟩ := cells2 hX
  obtain ⟨dx0, dx1, _, _⟩ := cells2 hY
  clear ci
  refine Lib.hid ?_
  go_wp2_with (first | (go_at_call_of 40 (Value.int IntKind.i64 vp); refine (cA _).mono ?_; rintro e w' ⟨rfl, hw'⟩; subst hw') | (go_at_call_of 40 (Value.int IntKind.i64 ttl); refine (cB _).mono ?_; rintro e w' ⟨rfl, hw'⟩; subst hw') | (go_at_call 62; refine (cd _).mono ?_; rintro e w3 ⟨rfl, hbx⟩))
  go_ret2
  exact ⟨rfl, bw.trans (hbx.mono bw.size)⟩

set_option maxHeartbeats 4000000 in
set_option maxRecDepth 100000 in
theorem rpk6_1 (A : Option Addr) (n c : Nat) (l : List UInt8) (sh sl dh dl : Nat) (vp ttl : Int) (h1 : sh < 18446744073709551616) (h2 : sl < 18446744073709551616) (h3 : dh < 18446744073709551616) (h4 : dl < 18446744073709551616) (hs4 : is4I (sh : Int) (sl : Int) = false) {w : World} (h : BytA w A n c l) (hm : n ≤ 65536) (hd4 : is4I (dh : Int) (dl : Int) = true) :
    Calls Try.prog 22 #[.agg #[.int .u64 (sh : Nat), .int .u64 (sl : Nat)], .agg #[.int .u64 (dh : Nat), .int .u64 (dl : Nat)], .int .i64 vp, .int .i64 ttl, .slice A n c] w fun e w' => e = .returned (.tuple #[.slice none 0 0, .int .i64 1]) ∧ Below w.heap.size w w' := by
  have ci := fun (W : World) => ris4_any (sh : Int) (sl : Int) ⟨by omega, by omega⟩ ⟨by omega, by omega⟩ W
  rw [hs4] at ci
  have cd := fun (W : World) => ris4_any (dh : Int) (dl : Int) ⟨by omega, by omega⟩ ⟨by omega, by omega⟩ W
  rw [hd4] at cd
  have cA := fun (W : World) => within_any vp W
  have cB := fun (W : World) => within_any ttl W
  have nI : (n : Int) ≤ 65536 := by omega
  clear hs4 h1 h2 h3 h4 hd4
  clear h
  go_enter Try.func22, Try.ntmps22
  go_wp2_with (with_reducible refine stop_op (o := ⟨some 15, _, _, _, _, _⟩) ?_)
  obtain ⟨w1, hw1⟩ : ∃ x, x = (w.alloc (.cells #[.int .u64 (sh : Nat), .int .u64 (sl : Nat)] 25)).alloc (.cells #[.int .u64 (dh : Nat), .int .u64 (dl : Nat)] 25) := ⟨_, rfl⟩
  have hX : w1.heap[w.heap.size]? = some (.cells #[.int .u64 (sh : Nat), .int .u64 (sl : Nat)] 25 (0, 0)) := by rw [hw1, al_oldw (by simp)]; exact al_neww rfl _
  have hY : w1.heap[w.heap.size + 1]? = some (.cells #[.int .u64 (dh : Nat), .int .u64 (dl : Nat)] 25 (0, 0)) := by rw [hw1]; exact al_neww (by simp) _
  have bw : Below w.heap.size w w1 := by rw [hw1]; exact Below.al (Below.al (Below.refl _ _) _) _
  rw [← hw1]
  clear hw1
  obtain ⟨sx0, sx1, _, _⟩ := cells2 hX
  obtain ⟨dx0, dx1, _, _⟩ := cells2 hY
  refine Lib.hid ?_
  go_wp2_with (go_at_call 62; refine (ci _).mono ?_; rintro e w2 ⟨rfl, hbx⟩; refine Hid.out ?_)
  have hXn := blkKeep2 hbx hX
  have hYn := blkKeep2 hbx hY
  have bwn : Below w.heap.size w w2 := bw.trans (hbx.mono bw.size)
  clear hbx hX hY bw sx0 sx1 dx0 dx1
  have hX := hXn
  have hY := hYn
  have bw := bwn
  clear hXn hYn bwn
  obtain ⟨sx0, sx1, _, _⟩ := cells2 hX
  obtain ⟨dx0, dx1, _, _⟩ := cells2 hY
  clear ci
  refine Lib.hid ?_
  go_wp2_with (first | (go_at_call_of 40 (Value.int IntKind.i64 vp); refine (cA _).mono ?_; rintro e w' ⟨rfl, hw'⟩; subst hw') | (go_at_call_of 40 (Value.int IntKind.i64 ttl); refine (cB _).mono ?_; rintro e w' ⟨rfl, hw'⟩; subst hw') | (go_at_call 62; refine (cd _).mono ?_; rintro e w3 ⟨rfl, hbx⟩))
  go_ret2
  exact ⟨rfl, bw.trans (hbx.mono bw.size)⟩

set_option maxHeartbeats 4000000 in
set_option maxRecDepth 100000 in
theorem rpk6_2 (A : Option Addr) (n c : Nat) (l : List UInt8) (sh sl dh dl : Nat) (vp ttl : Int) (h1 : sh < 18446744073709551616) (h2 : sl < 18446744073709551616) (h3 : dh < 18446744073709551616) (h4 : dl < 18446744073709551616) (hs4 : is4I (sh : Int) (sl : Int) = false) {w : World} (h : BytA w A n c l) (hm : n ≤ 65536) (hd4 : is4I (dh : Int) (dl : Int) = false) (hp : byteP vp = false) :
    Calls Try.prog 22 #[.agg #[.int .u64 (sh : Nat), .int .u64 (sl : Nat)], .agg #[.int .u64 (dh : Nat), .int .u64 (dl : Nat)], .int .i64 vp, .int .i64 ttl, .slice A n c] w fun e w' => e = .returned (.tuple #[.slice none 0 0, .int .i64 1]) ∧ Below w.heap.size w w' := by
  have ci := fun (W : World) => ris4_any (sh : Int) (sl : Int) ⟨by omega, by omega⟩ ⟨by omega, by omega⟩ W
  rw [hs4] at ci
  have cd := fun (W : World) => ris4_any (dh : Int) (dl : Int) ⟨by omega, by omega⟩ ⟨by omega, by omega⟩ W
  rw [hd4] at cd
  have cA := fun (W : World) => within_any vp W
  have cB := fun (W : World) => within_any ttl W
  have nI : (n : Int) ≤ 65536 := by omega
  clear hs4 h1 h2 h3 h4 hd4
  rw [hp] at cA
  clear h
  go_enter Try.func22, Try.ntmps22
  go_wp2_with (with_reducible refine stop_op (o := ⟨some 15, _, _, _, _, _⟩) ?_)
  obtain ⟨w1, hw1⟩ : ∃ x, x = (w.alloc (.cells #[.int .u64 (sh : Nat), .int .u64 (sl : Nat)] 25)).alloc (.cells #[.int .u64 (dh : Nat), .int .u64 (dl : Nat)] 25) := ⟨_, rfl⟩
  have hX : w1.heap[w.heap.size]? = some (.cells #[.int .u64 (sh : Nat), .int .u64 (sl : Nat)] 25 (0, 0)) := by rw [hw1, al_oldw (by simp)]; exact al_neww rfl _
  have hY : w1.heap[w.heap.size + 1]? = some (.cells #[.int .u64 (dh : Nat), .int .u64 (dl : Nat)] 25 (0, 0)) := by rw [hw1]; exact al_neww (by simp) _
  have bw : Below w.heap.size w w1 := by rw [hw1]; exact Below.al (Below.al (Below.refl _ _) _) _
  rw [← hw1]
  clear hw1
  obtain ⟨sx0, sx1, _, _⟩ := cells2 hX
  obtain ⟨dx0, dx1, _, _⟩ := cells2 hY
  refine Lib.hid ?_
  go_wp2_with (go_at_call 62; refine (ci _).mono ?_; rintro e w2 ⟨rfl, hbx⟩; refine Hid.out ?_)
  have hXn := blkKeep2 hbx hX
  have hYn := blkKeep2 hbx hY
  have bwn : Below w.heap.size w w2 := bw.trans (hbx.mono bw.size)
  clear hbx hX hY bw sx0 sx1 dx0 dx1
  have hX := hXn
  have hY := hYn
  have bw := bwn
  clear hXn hYn bwn
  obtain ⟨sx0, sx1, _, _⟩ := cells2 hX
  obtain ⟨dx0, dx1, _, _⟩ := cells2 hY
  clear ci
  refine Lib.hid ?_
  go_wp2_with (first | (go_at_call_of 40 (Value.int IntKind.i64 vp); refine (cA _).mono ?_; rintro e w' ⟨rfl, hw'⟩; subst hw') | (go_at_call_of 40 (Value.int IntKind.i64 ttl); refine (cB _).mono ?_; rintro e w' ⟨rfl, hw'⟩; subst hw') | (go_at_call 62; refine (cd _).mono ?_; rintro e w3 ⟨rfl, hbx⟩))
  go_ret2
  exact ⟨rfl, bw.trans (hbx.mono bw.size)⟩

set_option maxHeartbeats 4000000 in
set_option maxRecDepth 100000 in
theorem rpk6_3 (A : Option Addr) (n c : Nat) (l : List UInt8) (sh sl dh dl : Nat) (vp ttl : Int) (h1 : sh < 18446744073709551616) (h2 : sl < 18446744073709551616) (h3 : dh < 18446744073709551616) (h4 : dl < 18446744073709551616) (hs4 : is4I (sh : Int) (sl : Int) = false) {w : World} (h : BytA w A n c l) (hm : n ≤ 65536) (hd4 : is4I (dh : Int) (dl : Int) = false) (hp : byteP vp = true) (ht : byteP ttl = false) :
    Calls Try.prog 22 #[.agg #[.int .u64 (sh : Nat), .int .u64 (sl : Nat)], .agg #[.int .u64 (dh : Nat), .int .u64 (dl : Nat)], .int .i64 vp, .int .i64 ttl, .slice A n c] w fun e w' => e = .returned (.tuple #[.slice none 0 0, .int .i64 1]) ∧ Below w.heap.size w w' := by
  have ci := fun (W : World) => ris4_any (sh : Int) (sl : Int) ⟨by omega, by omega⟩ ⟨by omega, by omega⟩ W
  rw [hs4] at ci
  have cd := fun (W : World) => ris4_any (dh : Int) (dl : Int) ⟨by omega, by omega⟩ ⟨by omega, by omega⟩ W
  rw [hd4] at cd
  have cA := fun (W : World) => within_any vp W
  have cB := fun (W : World) => within_any ttl W
  have nI : (n : Int) ≤ 65536 := by omega
  clear hs4 h1 h2 h3 h4 hd4
  rw [hp] at cA
  rw [ht] at cB
  clear h
  go_enter Try.func22, Try.ntmps22
  go_wp2_with (with_reducible refine stop_op (o := ⟨some 15, _, _, _, _, _⟩) ?_)
  obtain ⟨w1, hw1⟩ : ∃ x, x = (w.alloc (.cells #[.int .u64 (sh : Nat), .int .u64 (sl : Nat)] 25)).alloc (.cells #[.int .u64 (dh : Nat), .int .u64 (dl : Nat)] 25) := ⟨_, rfl⟩
  have hX : w1.heap[w.heap.size]? = some (.cells #[.int .u64 (sh : Nat), .int .u64 (sl : Nat)] 25 (0, 0)) := by rw [hw1, al_oldw (by simp)]; exact al_neww rfl _
  have hY : w1.heap[w.heap.size + 1]? = some (.cells #[.int .u64 (dh : Nat), .int .u64 (dl : Nat)] 25 (0, 0)) := by rw [hw1]; exact al_neww (by simp) _
  have bw : Below w.heap.size w w1 := by rw [hw1]; exact Below.al (Below.al (Below.refl _ _) _) _
  rw [← hw1]
  clear hw1
  obtain ⟨sx0, sx1, _, _⟩ := cells2 hX
  obtain ⟨dx0, dx1, _, _⟩ := cells2 hY
  refine Lib.hid ?_
  go_wp2_with (go_at_call 62; refine (ci _).mono ?_; rintro e w2 ⟨rfl, hbx⟩; refine Hid.out ?_)
  have hXn := blkKeep2 hbx hX
  have hYn := blkKeep2 hbx hY
  have bwn : Below w.heap.size w w2 := bw.trans (hbx.mono bw.size)
  clear hbx hX hY bw sx0 sx1 dx0 dx1
  have hX := hXn
  have hY := hYn
  have bw := bwn
  clear hXn hYn bwn
  obtain ⟨sx0, sx1, _, _⟩ := cells2 hX
  obtain ⟨dx0, dx1, _, _⟩ := cells2 hY
  clear ci
  refine Lib.hid ?_
  go_wp2_with (first | (go_at_call_of 40 (Value.int IntKind.i64 vp); refine (cA _).mono ?_; rintro e w' ⟨rfl, hw'⟩; subst hw') | (go_at_call_of 40 (Value.int IntKind.i64 ttl); refine (cB _).mono ?_; rintro e w' ⟨rfl, hw'⟩; subst hw') | (go_at_call 62; refine (cd _).mono ?_; rintro e w3 ⟨rfl, hbx⟩))
  go_ret2
  exact ⟨rfl, bw.trans (hbx.mono bw.size)⟩

set_option maxHeartbeats 4000000 in
set_option maxRecDepth 100000 in
theorem rpk6_4 (A : Option Addr) (n c : Nat) (l : List UInt8) (sh sl dh dl : Nat) (ttl : Int) (h1 : sh < 18446744073709551616) (h2 : sl < 18446744073709551616) (h3 : dh < 18446744073709551616) (h4 : dl < 18446744073709551616) (hs4 : is4I (sh : Int) (sl : Int) = false) {w : World} (h : BytA w A n c l) (hm : n ≤ 65536) (hd4 : is4I (dh : Int) (dl : Int) = false) (hp : byteP 44 = true) (ht : byteP ttl = true)  :
    Calls Try.prog 22 #[.agg #[.int .u64 (sh : Nat), .int .u64 (sl : Nat)], .agg #[.int .u64 (dh : Nat), .int .u64 (dl : Nat)], .int .i64 44, .int .i64 ttl, .slice A n c] w fun e w' => e = .returned (.tuple #[.slice none 0 0, .int .i64 1]) ∧ Below w.heap.size w w' := by
  have ci := fun (W : World) => ris4_any (sh : Int) (sl : Int) ⟨by omega, by omega⟩ ⟨by omega, by omega⟩ W
  rw [hs4] at ci
  have cd := fun (W : World) => ris4_any (dh : Int) (dl : Int) ⟨by omega, by omega⟩ ⟨by omega, by omega⟩ W
  rw [hd4] at cd
  have cA := fun (W : World) => within_any 44 W
  have cB := fun (W : World) => within_any ttl W
  have nI : (n : Int) ≤ 65536 := by omega
  clear hs4 h1 h2 h3 h4 hd4
  rw [hp] at cA
  rw [ht] at cB
  clear h
  go_enter Try.func22, Try.ntmps22
  go_wp2_with (with_reducible refine stop_op (o := ⟨some 15, _, _, _, _, _⟩) ?_)
  obtain ⟨w1, hw1⟩ : ∃ x, x = (w.alloc (.cells #[.int .u64 (sh : Nat), .int .u64 (sl : Nat)] 25)).alloc (.cells #[.int .u64 (dh : Nat), .int .u64 (dl : Nat)] 25) := ⟨_, rfl⟩
  have hX : w1.heap[w.heap.size]? = some (.cells #[.int .u64 (sh : Nat), .int .u64 (sl : Nat)] 25 (0, 0)) := by rw [hw1, al_oldw (by simp)]; exact al_neww rfl _
  have hY : w1.heap[w.heap.size + 1]? = some (.cells #[.int .u64 (dh : Nat), .int .u64 (dl : Nat)] 25 (0, 0)) := by rw [hw1]; exact al_neww (by simp) _
  have bw : Below w.heap.size w w1 := by rw [hw1]; exact Below.al (Below.al (Below.refl _ _) _) _
  rw [← hw1]
  clear hw1
  obtain ⟨sx0, sx1, _, _⟩ := cells2 hX
  obtain ⟨dx0, dx1, _, _⟩ := cells2 hY
  refine Lib.hid ?_
  go_wp2_with (go_at_call 62; refine (ci _).mono ?_; rintro e w2 ⟨rfl, hbx⟩; refine Hid.out ?_)
  have hXn := blkKeep2 hbx hX
  have hYn := blkKeep2 hbx hY
  have bwn : Below w.heap.size w w2 := bw.trans (hbx.mono bw.size)
  clear hbx hX hY bw sx0 sx1 dx0 dx1
  have hX := hXn
  have hY := hYn
  have bw := bwn
  clear hXn hYn bwn
  obtain ⟨sx0, sx1, _, _⟩ := cells2 hX
  obtain ⟨dx0, dx1, _, _⟩ := cells2 hY
  clear ci
  refine Lib.hid ?_
  go_wp2_with (first | (go_at_call_of 40 (Value.int IntKind.i64 44); refine (cA _).mono ?_; rintro e w' ⟨rfl, hw'⟩; subst hw') | (go_at_call_of 40 (Value.int IntKind.i64 ttl); refine (cB _).mono ?_; rintro e w' ⟨rfl, hw'⟩; subst hw') | (go_at_call 62; refine (cd _).mono ?_; rintro e w3 ⟨rfl, hbx⟩))
  go_ret2
  exact ⟨rfl, bw.trans (hbx.mono bw.size)⟩

set_option maxHeartbeats 4000000 in
set_option maxRecDepth 100000 in
theorem rpk6_5 (A : Option Addr) (n c : Nat) (l : List UInt8) (sh sl dh dl : Nat) (ttl : Int) (h1 : sh < 18446744073709551616) (h2 : sl < 18446744073709551616) (h3 : dh < 18446744073709551616) (h4 : dl < 18446744073709551616) (hs4 : is4I (sh : Int) (sl : Int) = false) {w : World} (h : BytA w A n c l) (hm : n ≤ 65536) (hd4 : is4I (dh : Int) (dl : Int) = false) (hp : byteP 1 = true) (ht : byteP ttl = true)   :
    Calls Try.prog 22 #[.agg #[.int .u64 (sh : Nat), .int .u64 (sl : Nat)], .agg #[.int .u64 (dh : Nat), .int .u64 (dl : Nat)], .int .i64 1, .int .i64 ttl, .slice A n c] w fun e w' => e = .returned (.tuple #[.slice none 0 0, .int .i64 1]) ∧ Below w.heap.size w w' := by
  have ci := fun (W : World) => ris4_any (sh : Int) (sl : Int) ⟨by omega, by omega⟩ ⟨by omega, by omega⟩ W
  rw [hs4] at ci
  have cd := fun (W : World) => ris4_any (dh : Int) (dl : Int) ⟨by omega, by omega⟩ ⟨by omega, by omega⟩ W
  rw [hd4] at cd
  have cA := fun (W : World) => within_any 1 W
  have cB := fun (W : World) => within_any ttl W
  have nI : (n : Int) ≤ 65536 := by omega
  clear hs4 h1 h2 h3 h4 hd4
  rw [hp] at cA
  rw [ht] at cB
  clear h
  go_enter Try.func22, Try.ntmps22
  go_wp2_with (with_reducible refine stop_op (o := ⟨some 15, _, _, _, _, _⟩) ?_)
  obtain ⟨w1, hw1⟩ : ∃ x, x = (w.alloc (.cells #[.int .u64 (sh : Nat), .int .u64 (sl : Nat)] 25)).alloc (.cells #[.int .u64 (dh : Nat), .int .u64 (dl : Nat)] 25) := ⟨_, rfl⟩
  have hX : w1.heap[w.heap.size]? = some (.cells #[.int .u64 (sh : Nat), .int .u64 (sl : Nat)] 25 (0, 0)) := by rw [hw1, al_oldw (by simp)]; exact al_neww rfl _
  have hY : w1.heap[w.heap.size + 1]? = some (.cells #[.int .u64 (dh : Nat), .int .u64 (dl : Nat)] 25 (0, 0)) := by rw [hw1]; exact al_neww (by simp) _
  have bw : Below w.heap.size w w1 := by rw [hw1]; exact Below.al (Below.al (Below.refl _ _) _) _
  rw [← hw1]
  clear hw1
  obtain ⟨sx0, sx1, _, _⟩ := cells2 hX
  obtain ⟨dx0, dx1, _, _⟩ := cells2 hY
  refine Lib.hid ?_
  go_wp2_with (go_at_call 62; refine (ci _).mono ?_; rintro e w2 ⟨rfl, hbx⟩; refine Hid.out ?_)
  have hXn := blkKeep2 hbx hX
  have hYn := blkKeep2 hbx hY
  have bwn : Below w.heap.size w w2 := bw.trans (hbx.mono bw.size)
  clear hbx hX hY bw sx0 sx1 dx0 dx1
  have hX := hXn
  have hY := hYn
  have bw := bwn
  clear hXn hYn bwn
  obtain ⟨sx0, sx1, _, _⟩ := cells2 hX
  obtain ⟨dx0, dx1, _, _⟩ := cells2 hY
  clear ci
  refine Lib.hid ?_
  go_wp2_with (first | (go_at_call_of 40 (Value.int IntKind.i64 1); refine (cA _).mono ?_; rintro e w' ⟨rfl, hw'⟩; subst hw') | (go_at_call_of 40 (Value.int IntKind.i64 ttl); refine (cB _).mono ?_; rintro e w' ⟨rfl, hw'⟩; subst hw') | (go_at_call 62; refine (cd _).mono ?_; rintro e w3 ⟨rfl, hbx⟩))
  go_ret2
  exact ⟨rfl, bw.trans (hbx.mono bw.size)⟩

set_option maxHeartbeats 4000000 in
set_option maxRecDepth 100000 in
theorem rpk6_6 (A : Option Addr) (n c : Nat) (l : List UInt8) (sh sl dh dl : Nat) (vp ttl : Int) (h1 : sh < 18446744073709551616) (h2 : sl < 18446744073709551616) (h3 : dh < 18446744073709551616) (h4 : dl < 18446744073709551616) (hs4 : is4I (sh : Int) (sl : Int) = false) {w : World} (h : BytA w A n c l) (hm : n ≤ 65536) (hd4 : is4I (dh : Int) (dl : Int) = false) (hp : byteP vp = true) (ht : byteP ttl = true) (hq : vp ≠ 44) (hk : vp ≠ 1) (hz : 2048 < 40 + n) :
    Calls Try.prog 22 #[.agg #[.int .u64 (sh : Nat), .int .u64 (sl : Nat)], .agg #[.int .u64 (dh : Nat), .int .u64 (dl : Nat)], .int .i64 vp, .int .i64 ttl, .slice A n c] w fun e w' => e = .returned (.tuple #[.slice none 0 0, .int .i64 1]) ∧ Below w.heap.size w w' := by
  have ci := fun (W : World) => ris4_any (sh : Int) (sl : Int) ⟨by omega, by omega⟩ ⟨by omega, by omega⟩ W
  rw [hs4] at ci
  have cd := fun (W : World) => ris4_any (dh : Int) (dl : Int) ⟨by omega, by omega⟩ ⟨by omega, by omega⟩ W
  rw [hd4] at cd
  have cA := fun (W : World) => within_any vp W
  have cB := fun (W : World) => within_any ttl W
  have nI : (n : Int) ≤ 65536 := by omega
  clear hs4 h1 h2 h3 h4 hd4
  rw [hp] at cA
  rw [ht] at cB
  have q44 : (vp == 44) = false := by simp [hq]
  have q58 : (vp == 1) = false := by simp [hk]
  have g0 : IntKind.i64.wrap 2008 = 2008 := by decide
  have g1 : decide ((2008 : Int) < (n : Int)) = true := by simp; omega
  have g2 : (2008 : Int) < (n : Int) := by omega
  have g3 : decide (2008 < n) = true := by simp; omega
  clear h
  go_enter Try.func22, Try.ntmps22
  go_wp2_with (with_reducible refine stop_op (o := ⟨some 15, _, _, _, _, _⟩) ?_)
  obtain ⟨w1, hw1⟩ : ∃ x, x = (w.alloc (.cells #[.int .u64 (sh : Nat), .int .u64 (sl : Nat)] 25)).alloc (.cells #[.int .u64 (dh : Nat), .int .u64 (dl : Nat)] 25) := ⟨_, rfl⟩
  have hX : w1.heap[w.heap.size]? = some (.cells #[.int .u64 (sh : Nat), .int .u64 (sl : Nat)] 25 (0, 0)) := by rw [hw1, al_oldw (by simp)]; exact al_neww rfl _
  have hY : w1.heap[w.heap.size + 1]? = some (.cells #[.int .u64 (dh : Nat), .int .u64 (dl : Nat)] 25 (0, 0)) := by rw [hw1]; exact al_neww (by simp) _
  have bw : Below w.heap.size w w1 := by rw [hw1]; exact Below.al (Below.al (Below.refl _ _) _) _
  rw [← hw1]
  clear hw1
  obtain ⟨sx0, sx1, _, _⟩ := cells2 hX
  obtain ⟨dx0, dx1, _, _⟩ := cells2 hY
  refine Lib.hid ?_
  go_wp2_with (go_at_call 62; refine (ci _).mono ?_; rintro e w2 ⟨rfl, hbx⟩; refine Hid.out ?_)
  have hXn := blkKeep2 hbx hX
  have hYn := blkKeep2 hbx hY
  have bwn : Below w.heap.size w w2 := bw.trans (hbx.mono bw.size)
  clear hbx hX hY bw sx0 sx1 dx0 dx1
  have hX := hXn
  have hY := hYn
  have bw := bwn
  clear hXn hYn bwn
  obtain ⟨sx0, sx1, _, _⟩ := cells2 hX
  obtain ⟨dx0, dx1, _, _⟩ := cells2 hY
  clear ci
  refine Lib.hid ?_
  go_wp2_with (first | (go_at_call_of 40 (Value.int IntKind.i64 vp); refine (cA _).mono ?_; rintro e w' ⟨rfl, hw'⟩; subst hw') | (go_at_call_of 40 (Value.int IntKind.i64 ttl); refine (cB _).mono ?_; rintro e w' ⟨rfl, hw'⟩; subst hw') | (go_at_call 62; refine (cd _).mono ?_; rintro e w3 ⟨rfl, hbx⟩))
  go_ret2
  exact ⟨rfl, bw.trans (hbx.mono bw.size)⟩
end Go.Proofs.Ytpmbdjdhgcjkfaa

namespace Go.Proofs.Ytpmbdjdhgcjkfaa
open Go.RowKit Go.Sort
set_option linter.unusedVariables false
set_option linter.unusedSimpArgs false


set_option maxHeartbeats 4000000 in
set_option maxRecDepth 100000 in
theorem rpk4_ok (A : Option Addr) (n c : Nat) (l : List UInt8) (sh sl dh dl : Nat) (vp ttl : Int) (h1 : sh < 18446744073709551616) (h2 : sl < 18446744073709551616) (h3 : dh < 18446744073709551616) (h4 : dl < 18446744073709551616) (hs4 : is4I (sh : Int) (sl : Int) = true) {w : World} (h : BytA w A n c l) (hm : n ≤ 65536) (hd4 : is4I (dh : Int) (dl : Int) = true) (hp : byteP vp = true) (ht : byteP ttl = true) (hq : vp ≠ 44) (hk : vp ≠ 58) (hz : ¬ 2048 < 20 + n) :
    Calls Try.prog 22 #[.agg #[.int .u64 (sh : Nat), .int .u64 (sl : Nat)], .agg #[.int .u64 (dh : Nat), .int .u64 (dl : Nat)], .int .i64 vp, .int .i64 ttl, .slice A n c] w fun e w' => ∃ B cx, e = .returned (.tuple #[.slice (some ⟨B, 0, none⟩) (20 + n : Nat) cx, .int .i64 0]) ∧ BytArg w' (some ⟨B, 0, none⟩) (20 + n) cx (hdr4 vp ttl (20 + n) (beB 4 sl ++ beB 4 dl) ++ setB (vPk vp sh sl dh dl) l) ∧ w.heap.size ≤ B ∧ Below w.heap.size w w' := by
  have ci := fun (W : World) => ris4_any (sh : Int) (sl : Int) ⟨by omega, by omega⟩ ⟨by omega, by omega⟩ W
  rw [hs4] at ci
  have cd := fun (W : World) => ris4_any (dh : Int) (dl : Int) ⟨by omega, by omega⟩ ⟨by omega, by omega⟩ W
  rw [hd4] at cd
  have cA := fun (W : World) => within_any vp W
  have cB := fun (W : World) => within_any ttl W
  have nI : (n : Int) ≤ 65536 := by omega
  have hv : VOk (vPk vp sh sl dh dl) := by
    simp only [byteP, Bool.and_eq_true, decide_eq_true_eq] at hp
    exact ⟨hp.1, by simp only [vPk]; omega, ⟨by simp only [vPk]; omega, by simp only [vPk]; omega⟩, ⟨by simp only [vPk]; omega, by simp only [vPk]; omega⟩, ⟨by simp only [vPk]; omega, by simp only [vPk]; omega⟩, ⟨by simp only [vPk]; omega, by simp only [vPk]; omega⟩, by simp only [vPk]; rw [hs4, hd4]⟩
  have c1 := fun (W : World) => rbytes4 sh sl h1 h2 hs4 W
  have c2 := fun (W : World) => rbytes4 dh dl h3 h4 hd4 W
  obtain ⟨i0, hi, hz0, hz1, hz2⟩ := info_parts info8
  clear hs4 h1 h2 h3 h4 hd4
  rw [hp] at cA
  rw [ht] at cB
  have q44 : (vp == 44) = false := by simp [hq]
  have q58 : (vp == 58) = false := by simp [hk]
  have g0 : IntKind.i64.wrap 2028 = 2028 := by decide
  have g1 : decide ((2028 : Int) < (n : Int)) = false := by simp; omega
  have g2 : ¬ (2028 : Int) < (n : Int) := by omega
  have g3 : decide (2028 < n) = false := by simp; omega
  obtain ⟨N, hN⟩ : ∃ N, N = 20 + n := ⟨_, rfl⟩
  have wN : IntKind.i64.wrap (20 + (n : Int)) = (N : Int) := by rw [IntKind.wrap_i64]; omega
  have NB : N ≤ 2048 := by omega
  have NI : (N : Int) ≤ 2048 := by omega
  have nB : n ≤ 2048 := by omega
  have lN := low_small N (by omega)
  have ln := low_small n (by omega)
  have eT : IntKind.u8.wrap ttl = ((loB ttl).toNat : Int) := by rw [IntKind.wrap_u8, loB_val]
  have eP : IntKind.u8.wrap vp = ((loB vp).toNat : Int) := by rw [IntKind.wrap_u8, loB_val]
  have wk8 : IntKind.i64.wrap 8 = 8 := by decide
  have wk12 : IntKind.i64.wrap 12 = 12 := by decide
  have wk32 : IntKind.i64.wrap 32 = 32 := by decide
  have hS1 : ((beB 4 sl)).length = 4 := by simp [beB_len]
  have hS2 : ((beB 4 dl)).length = 4 := by simp [beB_len]
  have mk : ∀ W, (Instr.makeSlice 22 (.int .i64 12) (.int .i64 12)).run Try.prog W = .ok (.slice (some ⟨W.heap.size, 0, none⟩) 12 12) (W.alloc (.cells (bc (List.replicate 12 0)).toArray 5)) := make_run 12 (by omega)
  rw [← hN]
  have HA := Lib.hid h
  have HN := Lib.hid hN
  have HV := Lib.hid hv
  have HS := Lib.hid (And.intro hS1 hS2)
  clear h hN hp ht hq hk hz hv hS1 hS2
  go_enter Try.func22, Try.ntmps22
  go_wp2_with (with_reducible refine stop_op (o := ⟨some 15, _, _, _, _, _⟩) ?_)
  obtain ⟨w1, hw1⟩ : ∃ x, x = (w.alloc (.cells #[.int .u64 (sh : Nat), .int .u64 (sl : Nat)] 25)).alloc (.cells #[.int .u64 (dh : Nat), .int .u64 (dl : Nat)] 25) := ⟨_, rfl⟩
  have hX : w1.heap[w.heap.size]? = some (.cells #[.int .u64 (sh : Nat), .int .u64 (sl : Nat)] 25 (0, 0)) := by rw [hw1, al_oldw (by simp)]; exact al_neww rfl _
  have hY : w1.heap[w.heap.size + 1]? = some (.cells #[.int .u64 (dh : Nat), .int .u64 (dl : Nat)] 25 (0, 0)) := by rw [hw1]; exact al_neww (by simp) _
  have bw : Below w.heap.size w w1 := by rw [hw1]; exact Below.al (Below.al (Below.refl _ _) _) _
  rw [← hw1]
  clear hw1
  obtain ⟨sx0, sx1, _, _⟩ := cells2 hX
  obtain ⟨dx0, dx1, _, _⟩ := cells2 hY
  refine Lib.hid ?_
  go_wp2_with (go_at_call 62; refine (ci _).mono ?_; rintro e w2 ⟨rfl, hbx⟩; refine Hid.out ?_)
  have hXn := blkKeep2 hbx hX
  have hYn := blkKeep2 hbx hY
  have bwn : Below w.heap.size w w2 := bw.trans (hbx.mono bw.size)
  clear hbx hX hY bw sx0 sx1 dx0 dx1
  have hX := hXn
  have hY := hYn
  have bw := bwn
  clear hXn hYn bwn
  obtain ⟨sx0, sx1, _, _⟩ := cells2 hX
  obtain ⟨dx0, dx1, _, _⟩ := cells2 hY
  clear ci
  refine Lib.hid ?_
  go_wp2_with (first | (go_at_call_of 40 (Value.int IntKind.i64 vp); refine (cA _).mono ?_; rintro e w' ⟨rfl, hw'⟩; subst hw') | (go_at_call_of 40 (Value.int IntKind.i64 ttl); refine (cB _).mono ?_; rintro e w' ⟨rfl, hw'⟩; subst hw') | (go_at_call 62; refine (cd _).mono ?_; rintro e w3 ⟨rfl, hbx⟩; refine Hid.out ?_))
  have hXn := blkKeep2 hbx hX
  have hYn := blkKeep2 hbx hY
  have bwn : Below w.heap.size w w3 := bw.trans (hbx.mono bw.size)
  clear hbx hX hY bw sx0 sx1 dx0 dx1
  have hX := hXn
  have hY := hYn
  have bw := bwn
  clear hXn hYn bwn
  obtain ⟨sx0, sx1, _, _⟩ := cells2 hX
  obtain ⟨dx0, dx1, _, _⟩ := cells2 hY
  clear cd
  refine Lib.hid ?_
  go_wp2_with (first | (go_at_call_of 40 (Value.int IntKind.i64 vp); refine (cA _).mono ?_; rintro e w' ⟨rfl, hw'⟩; subst hw') | (go_at_call_of 40 (Value.int IntKind.i64 ttl); refine (cB _).mono ?_; rintro e w' ⟨rfl, hw'⟩; subst hw') | (go_at_call 63; refine (c1 _).mono ?_; rintro e w7 ⟨B0, rfl, _, _, _, hbx⟩; refine Hid.out ?_))
  have hXn := blkKeep2 hbx hX
  have hYn := blkKeep2 hbx hY
  have bwn : Below w.heap.size w w7 := bw.trans (hbx.mono bw.size)
  clear hbx hX hY bw sx0 sx1 dx0 dx1
  have hX := hXn
  have hY := hYn
  have bw := bwn
  clear hXn hYn bwn
  obtain ⟨sx0, sx1, _, _⟩ := cells2 hX
  obtain ⟨dx0, dx1, _, _⟩ := cells2 hY
  clear cA cB
  refine Lib.hid ?_
  go_wp2_with (with_reducible refine stop_op (o := ⟨some 67, _, _, _, _, _⟩) ?_)
  obtain ⟨w8, hw8⟩ : ∃ x, x = w7.alloc (.cells (bc (List.replicate 12 0)).toArray 5) := ⟨_, rfl⟩
  have R0 : Row w8 w7.heap.size ([] ++ Zs 12) := by rw [hw8]; exact Row.new w7 _
  have hbx : Below w7.heap.size w7 w8 := by rw [hw8]; exact Below.al (Below.refl _ _) _
  first | rw [← hw8] | (simp only [List.replicate] at hw8; rw [← hw8])
  clear hw8 mk
  obtain ⟨B, hB⟩ : ∃ B, B = w7.heap.size := ⟨_, rfl⟩
  have hLT : w.heap.size < B ∧ w.heap.size + 1 < B := by
    rw [hB]; exact ⟨(Array.getElem?_eq_some_iff.1 hX).1, (Array.getElem?_eq_some_iff.1 hY).1⟩
  have hBl : w.heap.size ≤ B := by omega
  have hXn := blkKeep2 hbx hX
  have hYn := blkKeep2 hbx hY
  have bwn : Below w.heap.size w w8 := bw.trans (hbx.mono bw.size)
  clear hbx hX hY bw sx0 sx1 dx0 dx1
  have hX := hXn
  have hY := hYn
  have bw := bwn
  clear hXn hYn bwn
  obtain ⟨sx0, sx1, _, _⟩ := cells2 hX
  obtain ⟨dx0, dx1, _, _⟩ := cells2 hY
  rw [← hB] at R0 ⊢
  clear hB
  have HLT := Lib.hid hLT
  have HX := Lib.hid hX
  have HY := Lib.hid hY
  have HW8 := Lib.hid bw
  have hB8 : B ≤ w8.heap.size := Nat.le_of_lt R0.lt
  clear hLT hX hY bw sx0 sx1 dx0 dx1
  have bk : Below B w8 w8 := Below.refl _ _
  obtain ⟨x0, hx0⟩ : ∃ x, x = w8 := ⟨_, rfl⟩
  rw [← hx0] at R0 ⊢
  have bkn : Below B w8 x0 := by rw [hx0]; exact bk
  clear hx0 bk
  have bk := bkn
  clear bkn
  have fz := R0.frozen 0
  obtain ⟨⟨uu, cz⟩, _⟩ := R0.room (o := 0) (m := 1) (by simp only [List.nil_append, List.length_append, beB_len, Zs_len, List.length_singleton]; omega) 0 (by omega)
  have hX := (bk.block _ HLT.out.1).trans HX.out
  have hY := (bk.block _ HLT.out.2).trans HY.out
  obtain ⟨sx0, sx1, _, _⟩ := cells2 hX
  obtain ⟨dx0, dx1, _, _⟩ := cells2 hY
  refine Lib.hid ?_
  go_wp2_with (with_reducible refine stop_op (o := ⟨some 69, _, _, _, _, _⟩) ?_)
  obtain ⟨x1, hwn⟩ : ∃ x, x = x0.setCell ⟨B, 0, none⟩ (.int .u8 69) := ⟨_, rfl⟩
  have R1 := R0.sz (69 : UInt8) (o := 0) (m := 12 - 1) (by omega) (by simp [beB_len, Zs_len])
  first | rw [← hwn] at R1 | rw [show (((69 : UInt8).toNat : Nat) : Int) = 69 from rfl, ← hwn] at R1
  have bkn : Below B w8 x1 := by rw [hwn]; exact below_set bk (Nat.le_refl _) 0 _
  rw [← hwn]
  clear hwn R0 bk fz cz
  clear hX hY sx0 sx1 dx0 dx1
  have bk := bkn
  clear bkn
  have R1' := R1.pz (k := 1) (m := 10) (by omega)
  have s2 : ∀ W, (Instr.slice 22 (.slice (some ⟨B, 0, none⟩) 12 12) (some (.int .i64 2)) (some (.int .i64 4)) none).run Try.prog W = .ok (.slice (some ⟨B, 2, none⟩) 2 (12 - 2)) W := by have := cut_lh B 0 12 12 2 4 (by omega) (by omega) (by omega) (by omega); simpa using this
  have cp := rput_any B 2 (12 - 2) 2 (N : Int) (by omega) (by omega) (by omega) ⟨by omega, by omega⟩ (R1'.room (by simp only [List.nil_append, List.length_append, beB_len, Zs_len, List.length_singleton]; omega))
  rw [lN] at cp
  refine Lib.hid ?_
  go_wp2_with (go_at_call 42; refine cp.mono ?_; rintro e x2 ⟨rfl, hW⟩; refine Hid.out ?_)
  have R2 := R1'.wz hW.wr (k := 2) (m := 8) (by omega) (by simp [Zs_len]) (by simp [beB_len])
  have bkn := hW.wr.bel bk (Nat.le_refl _) R1.lt
  clear cp hW R1 R1' s2 bk
  have bk := bkn
  clear bkn
  have R2' := R2.pz (k := 2) (m := 6) (by omega)
  clear R2
  have R2 := R2'
  clear R2'
  have fz := R2.frozen 6
  obtain ⟨⟨uu, cz⟩, _⟩ := R2.room (o := 6) (m := 1) (by simp only [List.nil_append, List.length_append, beB_len, Zs_len, List.length_singleton]; omega) 0 (by omega)
  have hX := (bk.block _ HLT.out.1).trans HX.out
  have hY := (bk.block _ HLT.out.2).trans HY.out
  obtain ⟨sx0, sx1, _, _⟩ := cells2 hX
  obtain ⟨dx0, dx1, _, _⟩ := cells2 hY
  refine Lib.hid ?_
  go_wp2_with (with_reducible refine stop_op (o := ⟨some 79, _, _, _, _, _⟩) ?_)
  obtain ⟨x3, hwn⟩ : ∃ x, x = x2.setCell ⟨B, 6, none⟩ (.int .u8 64) := ⟨_, rfl⟩
  have R3 := R2.sz (64 : UInt8) (o := 6) (m := 12 - 7) (by omega) (by simp [beB_len, Zs_len])
  first | rw [← hwn] at R3 | rw [show (((64 : UInt8).toNat : Nat) : Int) = 64 from rfl, ← hwn] at R3
  have bkn : Below B w8 x3 := by rw [hwn]; exact below_set bk (Nat.le_refl _) 6 _
  rw [← hwn]
  clear hwn R2 bk fz cz
  clear hX hY sx0 sx1 dx0 dx1
  have bk := bkn
  clear bkn
  have R3' := R3.pz (k := 1) (m := 4) (by omega)
  clear R3
  have R3 := R3'
  clear R3'
  have fz := R3.frozen 8
  obtain ⟨⟨uu, cz⟩, _⟩ := R3.room (o := 8) (m := 1) (by simp only [List.nil_append, List.length_append, beB_len, Zs_len, List.length_singleton]; omega) 0 (by omega)
  have hX := (bk.block _ HLT.out.1).trans HX.out
  have hY := (bk.block _ HLT.out.2).trans HY.out
  obtain ⟨sx0, sx1, _, _⟩ := cells2 hX
  obtain ⟨dx0, dx1, _, _⟩ := cells2 hY
  refine Lib.hid ?_
  go_wp2_with (with_reducible refine stop_op (o := ⟨some 83, _, _, _, _, _⟩) ?_)
  obtain ⟨x4, hwn⟩ : ∃ x, x = x3.setCell ⟨B, 8, none⟩ (.int .u8 ((loB ttl).toNat : Nat)) := ⟨_, rfl⟩
  have R4 := R3.sz ((loB ttl) : UInt8) (o := 8) (m := 12 - 9) (by omega) (by simp [beB_len, Zs_len])
  first | rw [← hwn] at R4 | rw [show ((((loB ttl) : UInt8).toNat : Nat) : Int) = (loB ttl) from rfl, ← hwn] at R4
  have bkn : Below B w8 x4 := by rw [hwn]; exact below_set bk (Nat.le_refl _) 8 _
  rw [← hwn]
  clear hwn R3 bk fz cz
  clear hX hY sx0 sx1 dx0 dx1
  have bk := bkn
  clear bkn
  have fz := R4.frozen 9
  obtain ⟨⟨uu, cz⟩, _⟩ := R4.room (o := 9) (m := 1) (by simp only [List.nil_append, List.length_append, beB_len, Zs_len, List.length_singleton]; omega) 0 (by omega)
  have hX := (bk.block _ HLT.out.1).trans HX.out
  have hY := (bk.block _ HLT.out.2).trans HY.out
  obtain ⟨sx0, sx1, _, _⟩ := cells2 hX
  obtain ⟨dx0, dx1, _, _⟩ := cells2 hY
  refine Lib.hid ?_
  go_wp2_with (with_reducible refine stop_op (o := ⟨some 101, _, _, _, _, _⟩) ?_)
  obtain ⟨x5, hwn⟩ : ∃ x, x = x4.setCell ⟨B, 9, none⟩ (.int .u8 ((loB vp).toNat : Nat)) := ⟨_, rfl⟩
  have R5 := R4.sz ((loB vp) : UInt8) (o := 9) (m := 12 - 10) (by omega) (by simp [beB_len, Zs_len])
  first | rw [← hwn] at R5 | rw [show ((((loB vp) : UInt8).toNat : Nat) : Int) = (loB vp) from rfl, ← hwn] at R5
  have bkn : Below B w8 x5 := by rw [hwn]; exact below_set bk (Nat.le_refl _) 9 _
  rw [← hwn]
  clear hwn R4 bk fz cz
  clear hX hY sx0 sx1 dx0 dx1
  have bk := bkn
  clear bkn
  have RT : Row x5 B (top4 vp ttl N ++ Zs 2) := R5
  clear R5
  have HO := Lib.hid (RT.own (base := B) (Nat.le_refl B) (n := 12) (by simp [top4_len, Zs_len]) (by unfold maxLen; omega))
  clear RT
  have hX := (bk.block _ HLT.out.1).trans HX.out
  have hY := (bk.block _ HLT.out.2).trans HY.out
  obtain ⟨sx0, sx1, _, _⟩ := cells2 hX
  obtain ⟨dx0, dx1, _, _⟩ := cells2 hY
  refine Lib.hid ?_
  go_wp2_with (go_at_call 63; refine (c1 _).mono ?_; rintro e yaa ⟨B1, rfl, _, _, yb, hbx⟩; refine Hid.out ?_)
  have HOn := Lib.hid (own_below HO.out hbx)
  have bkn := bk.trans (hbx.mono (Nat.le_trans hB8 bk.size))
  clear HO bk hbx
  clear hX hY sx0 sx1 dx0 dx1
  have HO := HOn
  have bk := bkn
  clear HOn bkn
  refine Lib.hid ?_
  go_wp2_with (at_builtin; go_loud (refine wpList_append_own _ rfl _ _ 22 rfl B 5 i0 (.int .u8 0) 1 1 Try.underlying22 hi hz0 hz1 hz2 rfl (by decide) _ _ _ rfl HO.out ⟨B1, 0, none⟩ 4 4 (bc (beB 4 sl)) rfl (by rw [bc_len, HS.out.1]) (fun j u hj => yb.news j u hj) (bc_one _) (by unfold maxLen; omega) (by omega) (Nat.le_trans hB8 bk.size) ?_); intro vya ya hown hgrow _; refine Hid.out ?_)
  have bkn : Below B w8 ya := bk.grown hgrow (Nat.le_trans hB8 bk.size) (fun k hk => own_lt' HO.out hk)
  rw [← bc_app] at hown
  clear HO bk hgrow yb
  have bk := bkn
  have HO := Lib.hid hown
  clear bkn hown
  have hX := (bk.block _ HLT.out.1).trans HX.out
  have hY := (bk.block _ HLT.out.2).trans HY.out
  obtain ⟨sx0, sx1, _, _⟩ := cells2 hX
  obtain ⟨dx0, dx1, _, _⟩ := cells2 hY
  refine Lib.hid ?_
  go_wp2_with (go_at_call 63; refine (c2 _).mono ?_; rintro e yb1a ⟨B1, rfl, _, _, yb, hbx⟩; refine Hid.out ?_)
  have HOn := Lib.hid (own_below HO.out hbx)
  have bkn := bk.trans (hbx.mono (Nat.le_trans hB8 bk.size))
  clear HO bk hbx
  clear hX hY sx0 sx1 dx0 dx1
  have HO := HOn
  have bk := bkn
  clear HOn bkn
  refine Lib.hid ?_
  go_wp2_with (at_builtin; go_loud (refine wpList_append_own _ rfl _ _ 22 rfl B 5 i0 (.int .u8 0) 1 1 Try.underlying22 hi hz0 hz1 hz2 rfl (by decide) _ _ _ rfl HO.out ⟨B1, 0, none⟩ 4 4 (bc (beB 4 dl)) rfl (by rw [bc_len, HS.out.2]) (fun j u hj => yb.news j u hj) (bc_one _) (by unfold maxLen; omega) (by omega) (Nat.le_trans hB8 bk.size) ?_); intro vyb1 yb1 hown hgrow _; refine Hid.out ?_)
  have bkn : Below B w8 yb1 := bk.grown hgrow (Nat.le_trans hB8 bk.size) (fun k hk => own_lt' HO.out hk)
  rw [← bc_app] at hown
  clear HO bk hgrow yb
  have bk := bkn
  have HO := Lib.hid hown
  clear bkn hown
  obtain ⟨g2, cap2, hv2, _⟩ := own_form HO.out (by omega)
  subst hv2
  obtain ⟨hg2, hgl2, hc2, hcm2⟩ := own_len HO.out (by omega)
  have HO2 : Hid (yb1.ownsRow B 5 1 (.slice (some ⟨g2, 0, none⟩) 20 cap2) 20 (bc (top4 vp ttl N ++ [0, 0] ++ (beB 4 sl ++ beB 4 dl)))) := Lib.hid (by have := HO.out; simpa [List.append_assoc, Zs, List.replicate_succ] using this)
  clear HO
  have hH : (top4 vp ttl N ++ [0, 0] ++ (beB 4 sl ++ beB 4 dl)).length = 20 := by simp [top4_len, beB_len]
  have s10 : ∀ W, (Instr.slice 22 (.slice (some ⟨g2, 0, none⟩) 20 cap2) (some (.int .i64 10)) (some (.int .i64 12)) none).run Try.prog W = .ok (.slice (some ⟨g2, 10, none⟩) 2 (cap2 - 10)) W := by have := cut_lh g2 0 20 cap2 10 12 (by omega) (by omega) (by omega) (by unfold maxLen at hcm2; omega); simpa using this
  have hSb := sumP_le (top4 vp ttl N ++ [0, 0] ++ (beB 4 sl ++ beB 4 dl))
  have cs := (rsum_any g2 0 cap2 20 _ hH (by omega) (w := yb1.drew) (Byt.own HO2.out)).mono (fun e w' h => (⟨h.1, h.2.symm⟩ : e = .returned (.int .i64 (sumP (top4 vp ttl N ++ [0, 0] ++ (beB 4 sl ++ beB 4 dl)) : Nat)) ∧ w' = yb1.drew))
  have hrm : Room yb1.drew g2 10 2 := by have := own_room HO2.out (by omega) (o := 10) (m := 2) (by omega); exact this
  have cp := rput_any g2 10 (cap2 - 10) 2 (sumP (top4 vp ttl N ++ [0, 0] ++ (beB 4 sl ++ beB 4 dl)) : Nat) (by omega) (by omega) (by unfold maxLen at hcm2; omega) ⟨by omega, by omega⟩ hrm
  rw [low_small _ (by omega)] at cp
  obtain ⟨S, hS⟩ : ∃ S, S = sumP (top4 vp ttl N ++ [0, 0] ++ (beB 4 sl ++ beB 4 dl)) := ⟨_, rfl⟩
  rw [← hS] at cs cp hSb
  have HSS := Lib.hid hS
  clear hH hrm hS
  refine Lib.hid ?_
  go_wp2_with fail
  refine wp_region_still_tail 4 (by kernel_rfl) (by kernel_rfl) ?_
  simp only [List.take_succ_cons, List.take_zero, List.drop_succ_cons, List.drop_zero]
  still_step
  still_step
  still_step
  still_call cs
  try refine wpStill_nil ?_
  change wpList _ _ _ _ _ yb1.drew
  have HOn : Hid (yb1.drew.ownsRow B 5 1 (.slice (some ⟨g2, 0, none⟩) 20 cap2) 20 (bc (top4 vp ttl N ++ [0, 0] ++ (beB 4 sl ++ beB 4 dl)))) := HO2
  have bkn : Below B w8 yb1.drew := Below.dr bk
  clear HO2 bk cs s10
  generalize yb1.drew = yc at *
  go_wp2_with (go_at_call 42; refine cp.mono ?_; rintro e yd ⟨rfl, hW⟩; refine Hid.out ?_)
  have hO3 := own_wr HOn.out hW.wr (a := top4 vp ttl N) (b := [0, 0]) (c := (beB 4 sl ++ beB 4 dl)) rfl (top4_len _ _ _) (by simp [beB_len]) rfl
  rw [HSS.out] at hO3
  have HO : Hid (yd.ownsRow B 5 1 (.slice (some ⟨g2, 0, none⟩) 20 cap2) 20 (bc (hdr4 vp ttl N (beB 4 sl ++ beB 4 dl)))) := Lib.hid hO3
  have bk := hW.wr.bel bkn hg2 (own_len HOn.out (by omega)).2.1
  clear bkn HOn hO3 hW cp hgl2 HSS hSb
  have HDl : (hdr4 vp ttl N (beB 4 sl ++ beB 4 dl)).length = 20 := (by unfold hdr4; simp [top4_len, beB_len])
  obtain ⟨HDR, hHDR⟩ : ∃ x, x = hdr4 vp ttl N (beB 4 sl ++ beB 4 dl) := ⟨_, rfl⟩
  rw [← hHDR] at HO HDl
  have HH := Lib.hid hHDR
  have HDL := Lib.hid HDl
  clear hHDR HDl
  have HAn := Lib.hid (HA.out.below (HW8.out.trans (bk.mono hBl)))
  refine Lib.hid ?_
  go_wp2_with (at_builtin; go_loud (refine append_bytes rfl _ _ rfl B _ 20 _ rfl HO.out A n c l rfl HAn.out (by omega) (Nat.le_trans hB8 bk.size) ?_); intro vz yz hown hgrow; refine Hid.out ?_)
  have bkn : Below B w8 yz := bk.grown hgrow (Nat.le_trans hB8 bk.size) (fun k hk => own_lt' HO.out hk)
  rw [← bc_app, ← HN.out] at hown
  have hln := HAn.out.1.1
  clear HO bk hgrow hg2 hc2 hcm2 HAn
  have bk := bkn
  clear bkn
  obtain ⟨g3, cap3, hv3, _⟩ := own_form hown (by have := HN.out; omega)
  subst hv3
  obtain ⟨hg3, hgl3, hc3, hcm3⟩ := own_len hown (by have := HN.out; omega)
  have hcm4 : cap3 ≤ 9223372036854775807 := by unfold maxLen at hcm3; omega
  have HO := Lib.hid hown
  clear hown
  obtain ⟨D, s20', hD⟩ := cut_cap g3 N cap3 20 (by have := HN.out; omega) hc3 hcm4
  rw [show N - 20 = n by have := HN.out; omega] at s20' hD
  have s20 : ∀ W, (Instr.slice 22 (.slice (some ⟨g3, 0, none⟩) N cap3) (some (.int .i64 20)) none none).run Try.prog W = .ok (.slice (some ⟨g3, D, none⟩) n (cap3 - 20)) W := s20'
  have HD := Lib.hid hD
  clear s20' hD
  have hB7 : BytArg yz.drew (some ⟨g3, D, none⟩) n (cap3 - 20) l := ⟨hln, by have := HN.out; omega, by unfold maxLen; omega, fun h0 => ⟨g3, D, rfl, by
    have hb : Byt yz.drew g3 0 (HDR ++ l) := Byt.own HO.out
    have := hb.sub 20 n
    rw [Nat.zero_add, ← HDL.out, List.drop_left, List.take_of_length_le (by omega), HDL.out, ← HD.out h0] at this
    exact this⟩⟩
  have cs := rset_any (some ⟨g3, D, none⟩) n (cap3 - 20) l _ HV.out hB7 (fun g o e h0 => by
    cases e
    rw [HD.out h0]
    have := own_room HO.out (by have := HN.out; omega) (o := 20) (m := n) (by have := HN.out; omega)
    exact this) (by omega)
  simp only [vPk, zvw] at cs
  have hX := (bk.block _ HLT.out.1).trans HX.out
  have hY := (bk.block _ HLT.out.2).trans HY.out
  obtain ⟨sx0, sx1, _, _⟩ := cells2 hX
  obtain ⟨dx0, dx1, _, _⟩ := cells2 hY
  refine Lib.hid ?_
  go_wp2_with fail
  refine wp_region_still_tail 6 (by kernel_rfl) (by kernel_rfl) ?_
  simp only [List.take_succ_cons, List.take_zero, List.drop_succ_cons, List.drop_zero]
  repeat still_step
  try refine wpStill_nil ?_
  change wpList _ _ _ _ _ yz.drew
  have HOn : Hid (yz.drew.ownsRow B 5 1 (.slice (some ⟨g3, 0, none⟩) N cap3) N (bc (HDR ++ l))) := HO
  have bkn : Below B w8 yz.drew := Below.dr bk
  have hgl4 : g3 < yz.drew.heap.size := hgl3
  clear HO bk hB7 hX hY sx0 sx1 dx0 dx1 hgl3
  generalize yz.drew = x8 at *
  go_wp2_with (go_at_call 46; refine cs.mono ?_; rintro e x9 ⟨rfl, hS⟩; have HSB := Lib.hid hS; clear hS)
  go_ret2
  have hfin := setBy_byt (Byt.own HOn.out) HDL.out (fun h0 => by rw [HD.out (by omega)]) HSB.out
  have bfin : Below B w8 x9 := by
    rcases HSB.out with ⟨_, hb⟩ | ⟨g, o, i, bs, e1, hW, _, _⟩
    · exact bkn.trans (hb.mono (Nat.le_trans hg3 (Nat.le_of_lt hgl4)))
    · cases e1; exact hW.bel bkn hg3 hgl4
  rw [HH.out] at hfin
  refine ⟨g3, cap3, rfl, ⟨by rw [← HH.out, List.length_append, HDL.out, setB_len]; have := HN.out; omega, hc3, hcm3, fun _ => ⟨g3, 0, rfl, hfin⟩⟩, Nat.le_trans hBl hg3, HW8.out.trans (bfin.mono hBl)⟩
end Go.Proofs.Ytpmbdjdhgcjkfaa

namespace Go.Proofs.Ytpmbdjdhgcjkfaa
open Go.RowKit Go.Sort
set_option linter.unusedVariables false
set_option linter.unusedSimpArgs false


set_option maxHeartbeats 4000000 in
set_option maxRecDepth 100000 in
theorem rpk6_ok (A : Option Addr) (n c : Nat) (l : List UInt8) (sh sl dh dl : Nat) (vp ttl : Int) (h1 : sh < 18446744073709551616) (h2 : sl < 18446744073709551616) (h3 : dh < 18446744073709551616) (h4 : dl < 18446744073709551616) (hs4 : is4I (sh : Int) (sl : Int) = false) {w : World} (h : BytA w A n c l) (hm : n ≤ 65536) (hd4 : is4I (dh : Int) (dl : Int) = false) (hp : byteP vp = true) (ht : byteP ttl = true) (hq : vp ≠ 44) (hk : vp ≠ 1) (hz : ¬ 2048 < 40 + n) :
    Calls Try.prog 22 #[.agg #[.int .u64 (sh : Nat), .int .u64 (sl : Nat)], .agg #[.int .u64 (dh : Nat), .int .u64 (dl : Nat)], .int .i64 vp, .int .i64 ttl, .slice A n c] w fun e w' => ∃ B cx, e = .returned (.tuple #[.slice (some ⟨B, 0, none⟩) (40 + n : Nat) cx, .int .i64 0]) ∧ BytArg w' (some ⟨B, 0, none⟩) (40 + n) cx (hdr6 vp ttl n ((beB 8 sh ++ beB 8 sl) ++ (beB 8 dh ++ beB 8 dl)) ++ setB (vPk vp sh sl dh dl) l) ∧ w.heap.size ≤ B ∧ Below w.heap.size w w' := by
  have ci := fun (W : World) => ris4_any (sh : Int) (sl : Int) ⟨by omega, by omega⟩ ⟨by omega, by omega⟩ W
  rw [hs4] at ci
  have cd := fun (W : World) => ris4_any (dh : Int) (dl : Int) ⟨by omega, by omega⟩ ⟨by omega, by omega⟩ W
  rw [hd4] at cd
  have cA := fun (W : World) => within_any vp W
  have cB := fun (W : World) => within_any ttl W
  have nI : (n : Int) ≤ 65536 := by omega
  have hv : VOk (vPk vp sh sl dh dl) := by
    simp only [byteP, Bool.and_eq_true, decide_eq_true_eq] at hp
    exact ⟨hp.1, by simp only [vPk]; omega, ⟨by simp only [vPk]; omega, by simp only [vPk]; omega⟩, ⟨by simp only [vPk]; omega, by simp only [vPk]; omega⟩, ⟨by simp only [vPk]; omega, by simp only [vPk]; omega⟩, ⟨by simp only [vPk]; omega, by simp only [vPk]; omega⟩, by simp only [vPk]; rw [hs4, hd4]⟩
  have c1 := fun (W : World) => rbytes16 sh sl h1 h2 hs4 W
  have c2 := fun (W : World) => rbytes16 dh dl h3 h4 hd4 W
  obtain ⟨i0, hi, hz0, hz1, hz2⟩ := info_parts info8
  clear hs4 h1 h2 h3 h4 hd4
  rw [hp] at cA
  rw [ht] at cB
  have q44 : (vp == 44) = false := by simp [hq]
  have q58 : (vp == 1) = false := by simp [hk]
  have g0 : IntKind.i64.wrap 2008 = 2008 := by decide
  have g1 : decide ((2008 : Int) < (n : Int)) = false := by simp; omega
  have g2 : ¬ (2008 : Int) < (n : Int) := by omega
  have g3 : decide (2008 < n) = false := by simp; omega
  obtain ⟨N, hN⟩ : ∃ N, N = 40 + n := ⟨_, rfl⟩
  have wN : IntKind.i64.wrap (40 + (n : Int)) = (N : Int) := by rw [IntKind.wrap_i64]; omega
  have NB : N ≤ 2048 := by omega
  have NI : (N : Int) ≤ 2048 := by omega
  have nB : n ≤ 2048 := by omega
  have lN := low_small N (by omega)
  have ln := low_small n (by omega)
  have eT : IntKind.u8.wrap ttl = ((loB ttl).toNat : Int) := by rw [IntKind.wrap_u8, loB_val]
  have eP : IntKind.u8.wrap vp = ((loB vp).toNat : Int) := by rw [IntKind.wrap_u8, loB_val]
  have wk8 : IntKind.i64.wrap 8 = 8 := by decide
  have wk12 : IntKind.i64.wrap 12 = 12 := by decide
  have wk32 : IntKind.i64.wrap 32 = 32 := by decide
  have hS1 : ((beB 8 sh ++ beB 8 sl)).length = 16 := by simp [beB_len]
  have hS2 : ((beB 8 dh ++ beB 8 dl)).length = 16 := by simp [beB_len]
  have mk : ∀ W, (Instr.makeSlice 22 (.int .i64 8) (.int .i64 8)).run Try.prog W = .ok (.slice (some ⟨W.heap.size, 0, none⟩) 8 8) (W.alloc (.cells (bc (List.replicate 8 0)).toArray 5)) := make_run 8 (by omega)
  rw [← hN]
  have HA := Lib.hid h
  have HN := Lib.hid hN
  have HV := Lib.hid hv
  have HS := Lib.hid (And.intro hS1 hS2)
  clear h hN hp ht hq hk hz hv hS1 hS2
  go_enter Try.func22, Try.ntmps22
  go_wp2_with (with_reducible refine stop_op (o := ⟨some 15, _, _, _, _, _⟩) ?_)
  obtain ⟨w1, hw1⟩ : ∃ x, x = (w.alloc (.cells #[.int .u64 (sh : Nat), .int .u64 (sl : Nat)] 25)).alloc (.cells #[.int .u64 (dh : Nat), .int .u64 (dl : Nat)] 25) := ⟨_, rfl⟩
  have hX : w1.heap[w.heap.size]? = some (.cells #[.int .u64 (sh : Nat), .int .u64 (sl : Nat)] 25 (0, 0)) := by rw [hw1, al_oldw (by simp)]; exact al_neww rfl _
  have hY : w1.heap[w.heap.size + 1]? = some (.cells #[.int .u64 (dh : Nat), .int .u64 (dl : Nat)] 25 (0, 0)) := by rw [hw1]; exact al_neww (by simp) _
  have bw : Below w.heap.size w w1 := by rw [hw1]; exact Below.al (Below.al (Below.refl _ _) _) _
  rw [← hw1]
  clear hw1
  obtain ⟨sx0, sx1, _, _⟩ := cells2 hX
  obtain ⟨dx0, dx1, _, _⟩ := cells2 hY
  refine Lib.hid ?_
  go_wp2_with (go_at_call 62; refine (ci _).mono ?_; rintro e w2 ⟨rfl, hbx⟩; refine Hid.out ?_)
  have hXn := blkKeep2 hbx hX
  have hYn := blkKeep2 hbx hY
  have bwn : Below w.heap.size w w2 := bw.trans (hbx.mono bw.size)
  clear hbx hX hY bw sx0 sx1 dx0 dx1
  have hX := hXn
  have hY := hYn
  have bw := bwn
  clear hXn hYn bwn
  obtain ⟨sx0, sx1, _, _⟩ := cells2 hX
  obtain ⟨dx0, dx1, _, _⟩ := cells2 hY
  clear ci
  refine Lib.hid ?_
  go_wp2_with (first | (go_at_call_of 40 (Value.int IntKind.i64 vp); refine (cA _).mono ?_; rintro e w' ⟨rfl, hw'⟩; subst hw') | (go_at_call_of 40 (Value.int IntKind.i64 ttl); refine (cB _).mono ?_; rintro e w' ⟨rfl, hw'⟩; subst hw') | (go_at_call 62; refine (cd _).mono ?_; rintro e w3 ⟨rfl, hbx⟩; refine Hid.out ?_))
  have hXn := blkKeep2 hbx hX
  have hYn := blkKeep2 hbx hY
  have bwn : Below w.heap.size w w3 := bw.trans (hbx.mono bw.size)
  clear hbx hX hY bw sx0 sx1 dx0 dx1
  have hX := hXn
  have hY := hYn
  have bw := bwn
  clear hXn hYn bwn
  obtain ⟨sx0, sx1, _, _⟩ := cells2 hX
  obtain ⟨dx0, dx1, _, _⟩ := cells2 hY
  clear cd
  refine Lib.hid ?_
  go_wp2_with (first | (go_at_call_of 40 (Value.int IntKind.i64 vp); refine (cA _).mono ?_; rintro e w' ⟨rfl, hw'⟩; subst hw') | (go_at_call_of 40 (Value.int IntKind.i64 ttl); refine (cB _).mono ?_; rintro e w' ⟨rfl, hw'⟩; subst hw') | (go_at_call 63; refine (c1 _).mono ?_; rintro e w7 ⟨B0, rfl, _, _, _, hbx⟩; refine Hid.out ?_))
  have hXn := blkKeep2 hbx hX
  have hYn := blkKeep2 hbx hY
  have bwn : Below w.heap.size w w7 := bw.trans (hbx.mono bw.size)
  clear hbx hX hY bw sx0 sx1 dx0 dx1
  have hX := hXn
  have hY := hYn
  have bw := bwn
  clear hXn hYn bwn
  obtain ⟨sx0, sx1, _, _⟩ := cells2 hX
  obtain ⟨dx0, dx1, _, _⟩ := cells2 hY
  clear cA cB
  refine Lib.hid ?_
  go_wp2_with (with_reducible refine stop_op (o := ⟨some 86, _, _, _, _, _⟩) ?_)
  obtain ⟨w8, hw8⟩ : ∃ x, x = w7.alloc (.cells (bc (List.replicate 8 0)).toArray 5) := ⟨_, rfl⟩
  have R0 : Row w8 w7.heap.size ([] ++ Zs 8) := by rw [hw8]; exact Row.new w7 _
  have hbx : Below w7.heap.size w7 w8 := by rw [hw8]; exact Below.al (Below.refl _ _) _
  first | rw [← hw8] | (simp only [List.replicate] at hw8; rw [← hw8])
  clear hw8 mk
  obtain ⟨B, hB⟩ : ∃ B, B = w7.heap.size := ⟨_, rfl⟩
  have hLT : w.heap.size < B ∧ w.heap.size + 1 < B := by
    rw [hB]; exact ⟨(Array.getElem?_eq_some_iff.1 hX).1, (Array.getElem?_eq_some_iff.1 hY).1⟩
  have hBl : w.heap.size ≤ B := by omega
  have hXn := blkKeep2 hbx hX
  have hYn := blkKeep2 hbx hY
  have bwn : Below w.heap.size w w8 := bw.trans (hbx.mono bw.size)
  clear hbx hX hY bw sx0 sx1 dx0 dx1
  have hX := hXn
  have hY := hYn
  have bw := bwn
  clear hXn hYn bwn
  obtain ⟨sx0, sx1, _, _⟩ := cells2 hX
  obtain ⟨dx0, dx1, _, _⟩ := cells2 hY
  rw [← hB] at R0 ⊢
  clear hB
  have HLT := Lib.hid hLT
  have HX := Lib.hid hX
  have HY := Lib.hid hY
  have HW8 := Lib.hid bw
  have hB8 : B ≤ w8.heap.size := Nat.le_of_lt R0.lt
  clear hLT hX hY bw sx0 sx1 dx0 dx1
  have bk : Below B w8 w8 := Below.refl _ _
  obtain ⟨x0, hx0⟩ : ∃ x, x = w8 := ⟨_, rfl⟩
  rw [← hx0] at R0 ⊢
  have bkn : Below B w8 x0 := by rw [hx0]; exact bk
  clear hx0 bk
  have bk := bkn
  clear bkn
  have fz := R0.frozen 0
  obtain ⟨⟨uu, cz⟩, _⟩ := R0.room (o := 0) (m := 1) (by simp only [List.nil_append, List.length_append, beB_len, Zs_len, List.length_singleton]; omega) 0 (by omega)
  have hX := (bk.block _ HLT.out.1).trans HX.out
  have hY := (bk.block _ HLT.out.2).trans HY.out
  obtain ⟨sx0, sx1, _, _⟩ := cells2 hX
  obtain ⟨dx0, dx1, _, _⟩ := cells2 hY
  refine Lib.hid ?_
  go_wp2_with (with_reducible refine stop_op (o := ⟨some 88, _, _, _, _, _⟩) ?_)
  obtain ⟨x1, hwn⟩ : ∃ x, x = x0.setCell ⟨B, 0, none⟩ (.int .u8 96) := ⟨_, rfl⟩
  have R1 := R0.sz (96 : UInt8) (o := 0) (m := 8 - 1) (by omega) (by simp [beB_len, Zs_len])
  first | rw [← hwn] at R1 | rw [show (((96 : UInt8).toNat : Nat) : Int) = 96 from rfl, ← hwn] at R1
  have bkn : Below B w8 x1 := by rw [hwn]; exact below_set bk (Nat.le_refl _) 0 _
  rw [← hwn]
  clear hwn R0 bk fz cz
  clear hX hY sx0 sx1 dx0 dx1
  have bk := bkn
  clear bkn
  have R1' := R1.pz (k := 3) (m := 4) (by omega)
  have s2 : ∀ W, (Instr.slice 22 (.slice (some ⟨B, 0, none⟩) 8 8) (some (.int .i64 4)) (some (.int .i64 6)) none).run Try.prog W = .ok (.slice (some ⟨B, 4, none⟩) 2 (8 - 4)) W := by have := cut_lh B 0 8 8 4 6 (by omega) (by omega) (by omega) (by omega); simpa using this
  have cp := rput_any B 4 (8 - 4) 2 (n : Int) (by omega) (by omega) (by omega) ⟨by omega, by omega⟩ (R1'.room (by simp only [List.nil_append, List.length_append, beB_len, Zs_len, List.length_singleton]; omega))
  rw [ln] at cp
  refine Lib.hid ?_
  go_wp2_with (go_at_call 42; refine cp.mono ?_; rintro e x2 ⟨rfl, hW⟩; refine Hid.out ?_)
  have R2 := R1'.wz hW.wr (k := 2) (m := 2) (by omega) (by simp [Zs_len]) (by simp [beB_len])
  have bkn := hW.wr.bel bk (Nat.le_refl _) R1.lt
  clear cp hW R1 R1' s2 bk
  have bk := bkn
  clear bkn
  have fz := R2.frozen 6
  obtain ⟨⟨uu, cz⟩, _⟩ := R2.room (o := 6) (m := 1) (by simp only [List.nil_append, List.length_append, beB_len, Zs_len, List.length_singleton]; omega) 0 (by omega)
  have hX := (bk.block _ HLT.out.1).trans HX.out
  have hY := (bk.block _ HLT.out.2).trans HY.out
  obtain ⟨sx0, sx1, _, _⟩ := cells2 hX
  obtain ⟨dx0, dx1, _, _⟩ := cells2 hY
  refine Lib.hid ?_
  go_wp2_with (with_reducible refine stop_op (o := ⟨some 98, _, _, _, _, _⟩) ?_)
  obtain ⟨x3, hwn⟩ : ∃ x, x = x2.setCell ⟨B, 6, none⟩ (.int .u8 ((loB vp).toNat : Nat)) := ⟨_, rfl⟩
  have R3 := R2.sz ((loB vp) : UInt8) (o := 6) (m := 8 - 7) (by omega) (by simp [beB_len, Zs_len])
  first | rw [← hwn] at R3 | rw [show ((((loB vp) : UInt8).toNat : Nat) : Int) = (loB vp) from rfl, ← hwn] at R3
  have bkn : Below B w8 x3 := by rw [hwn]; exact below_set bk (Nat.le_refl _) 6 _
  rw [← hwn]
  clear hwn R2 bk fz cz
  clear hX hY sx0 sx1 dx0 dx1
  have bk := bkn
  clear bkn
  have fz := R3.frozen 7
  obtain ⟨⟨uu, cz⟩, _⟩ := R3.room (o := 7) (m := 1) (by simp only [List.nil_append, List.length_append, beB_len, Zs_len, List.length_singleton]; omega) 0 (by omega)
  have hX := (bk.block _ HLT.out.1).trans HX.out
  have hY := (bk.block _ HLT.out.2).trans HY.out
  obtain ⟨sx0, sx1, _, _⟩ := cells2 hX
  obtain ⟨dx0, dx1, _, _⟩ := cells2 hY
  refine Lib.hid ?_
  go_wp2_with (with_reducible refine stop_op (o := ⟨some 101, _, _, _, _, _⟩) ?_)
  obtain ⟨x4, hwn⟩ : ∃ x, x = x3.setCell ⟨B, 7, none⟩ (.int .u8 ((loB ttl).toNat : Nat)) := ⟨_, rfl⟩
  have R4 := R3.sz ((loB ttl) : UInt8) (o := 7) (m := 8 - 8) (by omega) (by simp [beB_len, Zs_len])
  first | rw [← hwn] at R4 | rw [show ((((loB ttl) : UInt8).toNat : Nat) : Int) = (loB ttl) from rfl, ← hwn] at R4
  have bkn : Below B w8 x4 := by rw [hwn]; exact below_set bk (Nat.le_refl _) 7 _
  rw [← hwn]
  clear hwn R3 bk fz cz
  clear hX hY sx0 sx1 dx0 dx1
  have bk := bkn
  clear bkn
  have RT : Row x4 B ([96] ++ Zs 3 ++ beB 2 n ++ [loB vp] ++ [loB ttl]) := by have := R4; simpa [Zs] using this
  clear R4
  have HO := Lib.hid (RT.own (base := B) (Nat.le_refl B) (n := 8) (by simp [beB_len, Zs_len]) (by unfold maxLen; omega))
  clear RT
  have hX := (bk.block _ HLT.out.1).trans HX.out
  have hY := (bk.block _ HLT.out.2).trans HY.out
  obtain ⟨sx0, sx1, _, _⟩ := cells2 hX
  obtain ⟨dx0, dx1, _, _⟩ := cells2 hY
  refine Lib.hid ?_
  go_wp2_with (go_at_call 63; refine (c1 _).mono ?_; rintro e yaa ⟨B1, rfl, _, _, yb, hbx⟩; refine Hid.out ?_)
  have HOn := Lib.hid (own_below HO.out hbx)
  have bkn := bk.trans (hbx.mono (Nat.le_trans hB8 bk.size))
  clear HO bk hbx
  clear hX hY sx0 sx1 dx0 dx1
  have HO := HOn
  have bk := bkn
  clear HOn bkn
  refine Lib.hid ?_
  go_wp2_with (at_builtin; go_loud (refine wpList_append_own _ rfl _ _ 22 rfl B 5 i0 (.int .u8 0) 1 1 Try.underlying22 hi hz0 hz1 hz2 rfl (by decide) _ _ _ rfl HO.out ⟨B1, 0, none⟩ 16 16 (bc (beB 8 sh ++ beB 8 sl)) rfl (by rw [bc_len, HS.out.1]) (fun j u hj => yb.news j u hj) (bc_one _) (by unfold maxLen; omega) (by omega) (Nat.le_trans hB8 bk.size) ?_); intro vya ya hown hgrow _; refine Hid.out ?_)
  have bkn : Below B w8 ya := bk.grown hgrow (Nat.le_trans hB8 bk.size) (fun k hk => own_lt' HO.out hk)
  rw [← bc_app] at hown
  clear HO bk hgrow yb
  have bk := bkn
  have HO := Lib.hid hown
  clear bkn hown
  have hX := (bk.block _ HLT.out.1).trans HX.out
  have hY := (bk.block _ HLT.out.2).trans HY.out
  obtain ⟨sx0, sx1, _, _⟩ := cells2 hX
  obtain ⟨dx0, dx1, _, _⟩ := cells2 hY
  refine Lib.hid ?_
  go_wp2_with (go_at_call 63; refine (c2 _).mono ?_; rintro e yb1a ⟨B1, rfl, _, _, yb, hbx⟩; refine Hid.out ?_)
  have HOn := Lib.hid (own_below HO.out hbx)
  have bkn := bk.trans (hbx.mono (Nat.le_trans hB8 bk.size))
  clear HO bk hbx
  clear hX hY sx0 sx1 dx0 dx1
  have HO := HOn
  have bk := bkn
  clear HOn bkn
  refine Lib.hid ?_
  go_wp2_with (at_builtin; go_loud (refine wpList_append_own _ rfl _ _ 22 rfl B 5 i0 (.int .u8 0) 1 1 Try.underlying22 hi hz0 hz1 hz2 rfl (by decide) _ _ _ rfl HO.out ⟨B1, 0, none⟩ 16 16 (bc (beB 8 dh ++ beB 8 dl)) rfl (by rw [bc_len, HS.out.2]) (fun j u hj => yb.news j u hj) (bc_one _) (by unfold maxLen; omega) (by omega) (Nat.le_trans hB8 bk.size) ?_); intro vyb1 yb1 hown hgrow _; refine Hid.out ?_)
  have bkn : Below B w8 yb1 := bk.grown hgrow (Nat.le_trans hB8 bk.size) (fun k hk => own_lt' HO.out hk)
  rw [← bc_app] at hown
  clear HO bk hgrow yb
  have bk := bkn
  have HO := Lib.hid hown
  clear bkn hown
  obtain ⟨g2, cap2, hv2, _⟩ := own_form HO.out (by omega)
  subst hv2
  obtain ⟨hg2, hgl2, hc2, hcm2⟩ := own_len HO.out (by omega)
  have HO2 : Hid (yb1.ownsRow B 5 1 (.slice (some ⟨g2, 0, none⟩) 40 cap2) 40 (bc (hdr6 vp ttl n ((beB 8 sh ++ beB 8 sl) ++ (beB 8 dh ++ beB 8 dl))))) := Lib.hid (by have := HO.out; simpa [hdr6, List.append_assoc] using this)
  clear HO
  have HO := HO2
  clear HO2 hgl2
  have HDl : (hdr6 vp ttl n ((beB 8 sh ++ beB 8 sl) ++ (beB 8 dh ++ beB 8 dl))).length = 40 := (by unfold hdr6; simp [beB_len, Zs_len])
  obtain ⟨HDR, hHDR⟩ : ∃ x, x = hdr6 vp ttl n ((beB 8 sh ++ beB 8 sl) ++ (beB 8 dh ++ beB 8 dl)) := ⟨_, rfl⟩
  rw [← hHDR] at HO HDl
  have HH := Lib.hid hHDR
  have HDL := Lib.hid HDl
  clear hHDR HDl
  have HAn := Lib.hid (HA.out.below (HW8.out.trans (bk.mono hBl)))
  refine Lib.hid ?_
  go_wp2_with (at_builtin; go_loud (refine append_bytes rfl _ _ rfl B _ 40 _ rfl HO.out A n c l rfl HAn.out (by omega) (Nat.le_trans hB8 bk.size) ?_); intro vz yz hown hgrow; refine Hid.out ?_)
  have bkn : Below B w8 yz := bk.grown hgrow (Nat.le_trans hB8 bk.size) (fun k hk => own_lt' HO.out hk)
  rw [← bc_app, ← HN.out] at hown
  have hln := HAn.out.1.1
  clear HO bk hgrow hg2 hc2 hcm2 HAn
  have bk := bkn
  clear bkn
  obtain ⟨g3, cap3, hv3, _⟩ := own_form hown (by have := HN.out; omega)
  subst hv3
  obtain ⟨hg3, hgl3, hc3, hcm3⟩ := own_len hown (by have := HN.out; omega)
  have hcm4 : cap3 ≤ 9223372036854775807 := by unfold maxLen at hcm3; omega
  have HO := Lib.hid hown
  clear hown
  obtain ⟨D, s20', hD⟩ := cut_cap g3 N cap3 40 (by have := HN.out; omega) hc3 hcm4
  rw [show N - 40 = n by have := HN.out; omega] at s20' hD
  have s20 : ∀ W, (Instr.slice 22 (.slice (some ⟨g3, 0, none⟩) N cap3) (some (.int .i64 40)) none none).run Try.prog W = .ok (.slice (some ⟨g3, D, none⟩) n (cap3 - 40)) W := s20'
  have HD := Lib.hid hD
  clear s20' hD
  have hB7 : BytArg yz.drew (some ⟨g3, D, none⟩) n (cap3 - 40) l := ⟨hln, by have := HN.out; omega, by unfold maxLen; omega, fun h0 => ⟨g3, D, rfl, by
    have hb : Byt yz.drew g3 0 (HDR ++ l) := Byt.own HO.out
    have := hb.sub 40 n
    rw [Nat.zero_add, ← HDL.out, List.drop_left, List.take_of_length_le (by omega), HDL.out, ← HD.out h0] at this
    exact this⟩⟩
  have cs := rset_any (some ⟨g3, D, none⟩) n (cap3 - 40) l _ HV.out hB7 (fun g o e h0 => by
    cases e
    rw [HD.out h0]
    have := own_room HO.out (by have := HN.out; omega) (o := 40) (m := n) (by have := HN.out; omega)
    exact this) (by omega)
  simp only [vPk, zvw] at cs
  have hX := (bk.block _ HLT.out.1).trans HX.out
  have hY := (bk.block _ HLT.out.2).trans HY.out
  obtain ⟨sx0, sx1, _, _⟩ := cells2 hX
  obtain ⟨dx0, dx1, _, _⟩ := cells2 hY
  refine Lib.hid ?_
  go_wp2_with fail
  refine wp_region_still_tail 6 (by kernel_rfl) (by kernel_rfl) ?_
  simp only [List.take_succ_cons, List.take_zero, List.drop_succ_cons, List.drop_zero]
  repeat still_step
  try refine wpStill_nil ?_
  change wpList _ _ _ _ _ yz.drew
  have HOn : Hid (yz.drew.ownsRow B 5 1 (.slice (some ⟨g3, 0, none⟩) N cap3) N (bc (HDR ++ l))) := HO
  have bkn : Below B w8 yz.drew := Below.dr bk
  have hgl4 : g3 < yz.drew.heap.size := hgl3
  clear HO bk hB7 hX hY sx0 sx1 dx0 dx1 hgl3
  generalize yz.drew = x8 at *
  go_wp2_with (go_at_call 46; refine cs.mono ?_; rintro e x9 ⟨rfl, hS⟩; have HSB := Lib.hid hS; clear hS)
  go_ret2
  have hfin := setBy_byt (Byt.own HOn.out) HDL.out (fun h0 => by rw [HD.out (by omega)]) HSB.out
  have bfin : Below B w8 x9 := by
    rcases HSB.out with ⟨_, hb⟩ | ⟨g, o, i, bs, e1, hW, _, _⟩
    · exact bkn.trans (hb.mono (Nat.le_trans hg3 (Nat.le_of_lt hgl4)))
    · cases e1; exact hW.bel bkn hg3 hgl4
  rw [HH.out] at hfin
  refine ⟨g3, cap3, rfl, ⟨by rw [← HH.out, List.length_append, HDL.out, setB_len]; have := HN.out; omega, hc3, hcm3, fun _ => ⟨g3, 0, rfl, hfin⟩⟩, Nat.le_trans hBl hg3, HW8.out.trans (bfin.mono hBl)⟩
end Go.Proofs.Ytpmbdjdhgcjkfaa

namespace Go.Proofs.Ytpmbdjdhgcjkfaa
open Go.RowKit Go.Sort
set_option linter.unusedVariables false
set_option linter.unusedSimpArgs false

/-- Whether a packet is refused. -/
def packBad (sh sl dh dl p ttl : Int) (n : Nat) : Bool :=
  (is4I dh dl != is4I sh sl) || !byteP p || !byteP ttl || decide (p = 44) || !carriesP (!is4I sh sl) p || decide (2048 < (if is4I sh sl then 20 else 40) + n)
/-- A packet, or why there is none. -/
def packP (sh sl dh dl p ttl : Int) (l : List UInt8) : List UInt8 × Int :=
  if packBad sh sl dh dl p ttl l.length then ([], 1)
  else if is4I sh sl then (hdr4 p ttl (20 + l.length) (beB 4 sl.toNat ++ beB 4 dl.toNat) ++ setB (vPk p sh sl dh dl) l, 0)
  else (hdr6 p ttl l.length ((beB 8 sh.toNat ++ beB 8 sl.toNat) ++ (beB 8 dh.toNat ++ beB 8 dl.toNat)) ++ setB (vPk p sh sl dh dl) l, 0)
theorem packP_bad {sh sl dh dl p ttl : Int} {l : List UInt8} (h : packBad sh sl dh dl p ttl l.length = true) : packP sh sl dh dl p ttl l = ([], 1) := by unfold packP; rw [if_pos h]
theorem byta_none (w : World) : BytA w none 0 0 [] := ⟨⟨rfl, Nat.le_refl _, by unfold maxLen; omega, fun h => absurd h (by omega)⟩, fun _ => ⟨rfl, rfl⟩⟩

theorem packet_any (A : Option Addr) (n c : Nat) (l : List UInt8) (sh sl dh dl : Nat) (vp ttl : Int) (h1 : sh < 18446744073709551616) (h2 : sl < 18446744073709551616) (h3 : dh < 18446744073709551616) (h4 : dl < 18446744073709551616) {w : World} (h : BytArg w A n c l) (hm : n ≤ 65536) :
    Calls Try.prog 21 #[.agg #[.int .u64 (sh : Nat), .int .u64 (sl : Nat)], .agg #[.int .u64 (dh : Nat), .int .u64 (dl : Nat)], .int .i64 vp, .int .i64 ttl, .slice A n c] w fun e w' => ∃ A' n' c', e = .returned (.tuple #[.slice A' n' c', .int .i64 (packP sh sl dh dl vp ttl l).2]) ∧ BytA w' A' n' c' (packP sh sl dh dl vp ttl l).1 ∧ Below w.heap.size w w' := by
  have hn : l.length = n := h.1
  have no : ∀ {P : Prop}, packBad sh sl dh dl vp ttl l.length = true → (Calls Try.prog 21 #[.agg #[.int .u64 (sh : Nat), .int .u64 (sl : Nat)], .agg #[.int .u64 (dh : Nat), .int .u64 (dl : Nat)], .int .i64 vp, .int .i64 ttl, .slice A n c] w fun e w' => e = .returned (.tuple #[.slice none 0 0, .int .i64 1]) ∧ Below w.heap.size w w') → Calls Try.prog 21 #[.agg #[.int .u64 (sh : Nat), .int .u64 (sl : Nat)], .agg #[.int .u64 (dh : Nat), .int .u64 (dl : Nat)], .int .i64 vp, .int .i64 ttl, .slice A n c] w fun e w' => ∃ A' n' c', e = .returned (.tuple #[.slice A' n' c', .int .i64 (packP sh sl dh dl vp ttl l).2]) ∧ BytA w' A' n' c' (packP sh sl dh dl vp ttl l).1 ∧ Below w.heap.size w w' := by
    intro _ hb hc
    rw [packP_bad hb]
    exact hc.mono fun e w' ⟨he, hw⟩ => ⟨none, 0, 0, he, byta_none w', hw⟩
  by_cases hs : is4I (sh : Int) (sl : Int) = true
  · skip
    by_cases hd : is4I (dh : Int) (dl : Int) = true
    case neg =>
      have hd : is4I (dh : Int) (dl : Int) = false := by simpa using hd
      exact no (P := True) (by unfold packBad; rw [hs, hd]; rfl) (pk4_1 A n c l sh sl dh dl vp ttl h1 h2 h3 h4 hs h hm hd)
    by_cases hp : byteP vp = true
    case neg =>
      have hp : byteP vp = false := by simpa using hp
      exact no (P := True) (by unfold packBad; rw [hp]; simp) (pk4_2 A n c l sh sl dh dl vp ttl h1 h2 h3 h4 hs h hm hd hp)
    by_cases ht : byteP ttl = true
    case neg =>
      have ht : byteP ttl = false := by simpa using ht
      exact no (P := True) (by unfold packBad; rw [ht]; simp) (pk4_3 A n c l sh sl dh dl vp ttl h1 h2 h3 h4 hs h hm hd hp ht)
    by_cases hq : vp = 44
    · subst hq
      exact no (P := True) (by unfold packBad; simp) (pk4_4 A n c l sh sl dh dl ttl h1 h2 h3 h4 hs h hm hd hp ht)
    by_cases hk : carriesP false vp = true
    case neg =>
      have hk : carriesP false vp = false := by simpa using hk
      exact no (P := True) (by unfold packBad; rw [hs, show (!true) = false from rfl, hk]; simp) (pk4_5 A n c l sh sl dh dl vp ttl h1 h2 h3 h4 hs h hm hd hp ht hq hk)
    have hkc := hk
    by_cases hz : 2048 < 20 + n
    · exact no (P := True) (by unfold packBad; rw [hs, hn]; simp; omega) (pk4_6 A n c l sh sl dh dl vp ttl h1 h2 h3 h4 hs h hm hd hp ht hq hk hz)
    have hg : packBad sh sl dh dl vp ttl l.length = false := by
      unfold packBad
      rw [hs, hd, hp, ht, show (!true) = false from rfl, hkc, hn]
      simp [hq]; omega
    have e : packP sh sl dh dl vp ttl l = (hdr4 vp ttl (20 + n) (beB 4 sl ++ beB 4 dl) ++ setB (vPk vp sh sl dh dl) l, 0) := by
      unfold packP
      rw [hg, hs, hn]
      rfl
    rw [e]
    exact (pk4_ok A n c l sh sl dh dl vp ttl h1 h2 h3 h4 hs h hm hd hp ht hq hk hz).mono fun e' w' ⟨B, hE, hB, _, hw⟩ => ⟨_, _, _, hE, ⟨hB, fun h => by cases h⟩, hw⟩
  · have hs : is4I (sh : Int) (sl : Int) = false := by simpa using hs
    by_cases hd : is4I (dh : Int) (dl : Int) = false
    case neg =>
      have hd : is4I (dh : Int) (dl : Int) = true := by simpa using hd
      exact no (P := True) (by unfold packBad; rw [hs, hd]; rfl) (pk6_1 A n c l sh sl dh dl vp ttl h1 h2 h3 h4 hs h hm hd)
    by_cases hp : byteP vp = true
    case neg =>
      have hp : byteP vp = false := by simpa using hp
      exact no (P := True) (by unfold packBad; rw [hp]; simp) (pk6_2 A n c l sh sl dh dl vp ttl h1 h2 h3 h4 hs h hm hd hp)
    by_cases ht : byteP ttl = true
    case neg =>
      have ht : byteP ttl = false := by simpa using ht
      exact no (P := True) (by unfold packBad; rw [ht]; simp) (pk6_3 A n c l sh sl dh dl vp ttl h1 h2 h3 h4 hs h hm hd hp ht)
    by_cases hq : vp = 44
    · subst hq
      exact no (P := True) (by unfold packBad; simp) (pk6_4 A n c l sh sl dh dl ttl h1 h2 h3 h4 hs h hm hd hp ht)
    by_cases hk : carriesP true vp = true
    case neg =>
      have hk : carriesP true vp = false := by simpa using hk
      exact no (P := True) (by unfold packBad; rw [hs, show (!false) = true from rfl, hk]; simp) (pk6_5 A n c l sh sl dh dl vp ttl h1 h2 h3 h4 hs h hm hd hp ht hq hk)
    have hkc := hk
    by_cases hz : 2048 < 40 + n
    · exact no (P := True) (by unfold packBad; rw [hs, hn]; simp; omega) (pk6_6 A n c l sh sl dh dl vp ttl h1 h2 h3 h4 hs h hm hd hp ht hq hk hz)
    have hg : packBad sh sl dh dl vp ttl l.length = false := by
      unfold packBad
      rw [hs, hd, hp, ht, show (!false) = true from rfl, hkc, hn]
      simp [hq]; omega
    have e : packP sh sl dh dl vp ttl l = (hdr6 vp ttl n ((beB 8 sh ++ beB 8 sl) ++ (beB 8 dh ++ beB 8 dl)) ++ setB (vPk vp sh sl dh dl) l, 0) := by
      unfold packP
      rw [hg, hs, hn]
      rfl
    rw [e]
    exact (pk6_ok A n c l sh sl dh dl vp ttl h1 h2 h3 h4 hs h hm hd hp ht hq hk hz).mono fun e' w' ⟨B, hE, hB, _, hw⟩ => ⟨_, _, _, hE, ⟨hB, fun h => by cases h⟩, hw⟩

theorem rpacket_any (A : Option Addr) (n c : Nat) (l : List UInt8) (sh sl dh dl : Nat) (vp ttl : Int) (h1 : sh < 18446744073709551616) (h2 : sl < 18446744073709551616) (h3 : dh < 18446744073709551616) (h4 : dl < 18446744073709551616) {w : World} (h : BytA w A n c l) (hm : n ≤ 65536) :
    Calls Try.prog 22 #[.agg #[.int .u64 (sh : Nat), .int .u64 (sl : Nat)], .agg #[.int .u64 (dh : Nat), .int .u64 (dl : Nat)], .int .i64 vp, .int .i64 ttl, .slice A n c] w fun e w' => ∃ A' n' c', e = .returned (.tuple #[.slice A' n' c', .int .i64 (packP sh sl dh dl vp ttl l).2]) ∧ BytA w' A' n' c' (packP sh sl dh dl vp ttl l).1 ∧ Below w.heap.size w w' := by
  have hn : l.length = n := h.1.1
  have no : ∀ {P : Prop}, packBad sh sl dh dl vp ttl l.length = true → (Calls Try.prog 22 #[.agg #[.int .u64 (sh : Nat), .int .u64 (sl : Nat)], .agg #[.int .u64 (dh : Nat), .int .u64 (dl : Nat)], .int .i64 vp, .int .i64 ttl, .slice A n c] w fun e w' => e = .returned (.tuple #[.slice none 0 0, .int .i64 1]) ∧ Below w.heap.size w w') → Calls Try.prog 22 #[.agg #[.int .u64 (sh : Nat), .int .u64 (sl : Nat)], .agg #[.int .u64 (dh : Nat), .int .u64 (dl : Nat)], .int .i64 vp, .int .i64 ttl, .slice A n c] w fun e w' => ∃ A' n' c', e = .returned (.tuple #[.slice A' n' c', .int .i64 (packP sh sl dh dl vp ttl l).2]) ∧ BytA w' A' n' c' (packP sh sl dh dl vp ttl l).1 ∧ Below w.heap.size w w' := by
    intro _ hb hc
    rw [packP_bad hb]
    exact hc.mono fun e w' ⟨he, hw⟩ => ⟨none, 0, 0, he, byta_none w', hw⟩
  by_cases hs : is4I (sh : Int) (sl : Int) = true
  · skip
    by_cases hd : is4I (dh : Int) (dl : Int) = true
    case neg =>
      have hd : is4I (dh : Int) (dl : Int) = false := by simpa using hd
      exact no (P := True) (by unfold packBad; rw [hs, hd]; rfl) (rpk4_1 A n c l sh sl dh dl vp ttl h1 h2 h3 h4 hs h hm hd)
    by_cases hp : byteP vp = true
    case neg =>
      have hp : byteP vp = false := by simpa using hp
      exact no (P := True) (by unfold packBad; rw [hp]; simp) (rpk4_2 A n c l sh sl dh dl vp ttl h1 h2 h3 h4 hs h hm hd hp)
    by_cases ht : byteP ttl = true
    case neg =>
      have ht : byteP ttl = false := by simpa using ht
      exact no (P := True) (by unfold packBad; rw [ht]; simp) (rpk4_3 A n c l sh sl dh dl vp ttl h1 h2 h3 h4 hs h hm hd hp ht)
    by_cases hq : vp = 44
    · subst hq
      exact no (P := True) (by unfold packBad; simp) (rpk4_4 A n c l sh sl dh dl ttl h1 h2 h3 h4 hs h hm hd hp ht)
    by_cases hk : vp = 58
    · subst hk
      exact no (P := True) (by unfold packBad; rw [hs]; simp [carriesP]) (rpk4_5 A n c l sh sl dh dl ttl h1 h2 h3 h4 hs h hm hd hp ht)
    have hkc : carriesP false vp = true := by simp [carriesP, hk]
    by_cases hz : 2048 < 20 + n
    · exact no (P := True) (by unfold packBad; rw [hs, hn]; simp; omega) (rpk4_6 A n c l sh sl dh dl vp ttl h1 h2 h3 h4 hs h hm hd hp ht hq hk hz)
    have hg : packBad sh sl dh dl vp ttl l.length = false := by
      unfold packBad
      rw [hs, hd, hp, ht, show (!true) = false from rfl, hkc, hn]
      simp [hq]; omega
    have e : packP sh sl dh dl vp ttl l = (hdr4 vp ttl (20 + n) (beB 4 sl ++ beB 4 dl) ++ setB (vPk vp sh sl dh dl) l, 0) := by
      unfold packP
      rw [hg, hs, hn]
      rfl
    rw [e]
    exact (rpk4_ok A n c l sh sl dh dl vp ttl h1 h2 h3 h4 hs h hm hd hp ht hq hk hz).mono fun e' w' ⟨B, cx, hE, hB, _, hw⟩ => ⟨_, _, _, hE, ⟨hB, fun h => by cases h⟩, hw⟩
  · have hs : is4I (sh : Int) (sl : Int) = false := by simpa using hs
    by_cases hd : is4I (dh : Int) (dl : Int) = false
    case neg =>
      have hd : is4I (dh : Int) (dl : Int) = true := by simpa using hd
      exact no (P := True) (by unfold packBad; rw [hs, hd]; rfl) (rpk6_1 A n c l sh sl dh dl vp ttl h1 h2 h3 h4 hs h hm hd)
    by_cases hp : byteP vp = true
    case neg =>
      have hp : byteP vp = false := by simpa using hp
      exact no (P := True) (by unfold packBad; rw [hp]; simp) (rpk6_2 A n c l sh sl dh dl vp ttl h1 h2 h3 h4 hs h hm hd hp)
    by_cases ht : byteP ttl = true
    case neg =>
      have ht : byteP ttl = false := by simpa using ht
      exact no (P := True) (by unfold packBad; rw [ht]; simp) (rpk6_3 A n c l sh sl dh dl vp ttl h1 h2 h3 h4 hs h hm hd hp ht)
    by_cases hq : vp = 44
    · subst hq
      exact no (P := True) (by unfold packBad; simp) (rpk6_4 A n c l sh sl dh dl ttl h1 h2 h3 h4 hs h hm hd hp ht)
    by_cases hk : vp = 1
    · subst hk
      exact no (P := True) (by unfold packBad; rw [hs]; simp [carriesP]) (rpk6_5 A n c l sh sl dh dl ttl h1 h2 h3 h4 hs h hm hd hp ht)
    have hkc : carriesP true vp = true := by simp [carriesP, hk]
    by_cases hz : 2048 < 40 + n
    · exact no (P := True) (by unfold packBad; rw [hs, hn]; simp; omega) (rpk6_6 A n c l sh sl dh dl vp ttl h1 h2 h3 h4 hs h hm hd hp ht hq hk hz)
    have hg : packBad sh sl dh dl vp ttl l.length = false := by
      unfold packBad
      rw [hs, hd, hp, ht, show (!false) = true from rfl, hkc, hn]
      simp [hq]; omega
    have e : packP sh sl dh dl vp ttl l = (hdr6 vp ttl n ((beB 8 sh ++ beB 8 sl) ++ (beB 8 dh ++ beB 8 dl)) ++ setB (vPk vp sh sl dh dl) l, 0) := by
      unfold packP
      rw [hg, hs, hn]
      rfl
    rw [e]
    exact (rpk6_ok A n c l sh sl dh dl vp ttl h1 h2 h3 h4 hs h hm hd hp ht hq hk hz).mono fun e' w' ⟨B, cx, hE, hB, _, hw⟩ => ⟨_, _, _, hE, ⟨hB, fun h => by cases h⟩, hw⟩
end Go.Proofs.Ytpmbdjdhgcjkfaa
