/- ClassifyUndo: the walk; by-name template. -/
import Derived.Test.YtomennaekjklbaaKMP
import Derived.Test.YtomennaekjklbaaKSm
import Derived.Test.YtomennaekjklbaaKMF
import Derived.Test.YtomennaekjklbaaKRBuild
namespace Go.Proofs.Ytomennaekjklbaa
open Go.RowKit Go.Lib Go.Sort
set_option linter.unusedVariables false
set_option linter.unusedSimpArgs false

/-- The place that the law puts at. -/
theorem place_any (n : Nat) (x : Int) : ∃ (r : Int) (j : Nat), x.tmod ((n : Int) + 1) = r ∧ -(n : Int) ≤ r ∧ r ≤ n ∧ (r + n + 1).tmod ((n : Int) + 1) = (j : Int) ∧ j ≤ n := by
  have hp : (0 : Int) < (n : Int) + 1 := by omega
  have h1 := Int.tmod_lt_of_pos x hp
  have h2 : -((n : Int) + 1) < x.tmod ((n : Int) + 1) := by
    have := Int.tmod_lt_of_pos (-x) hp
    rw [Int.neg_tmod] at this; omega
  have h3 := Int.tmod_nonneg (a := x.tmod ((n : Int) + 1) + n + 1) ((n : Int) + 1) (by omega)
  have h4 := Int.tmod_lt_of_pos (x.tmod ((n : Int) + 1) + n + 1) hp
  exact ⟨_, ((x.tmod ((n : Int) + 1) + n + 1).tmod ((n : Int) + 1)).toNat, rfl, by omega, by omega, by omega, by omega⟩

set_option maxRecDepth 100000 in
set_option maxHeartbeats 8000000 in
theorem cundo_core (A : Option Addr) (n c : Nat) (l : List EN) (x : EN) (pl : Int) (AP : Option Addr) (np cp : Nat) (pts : List (Nat → P2)) (hn : n ≤ 256) (hnp : np ≤ 64) (w : World) (hS : Sl w 25 enc25 A n l) (hSP : Sl w 12 (fun p : Nat → P2 => (ptc p).toList) AP np pts) (hw : ∀ e ∈ l, WB e.bx) (hwx : WB x.bx) (hpl : -9223372036854775808 ≤ pl ∧ pl < 9223372036854775808) (hc : A = none → c = 0) (hwp : ∀ p ∈ pts, WP p) :
    Calls Try.prog 3 #[.slice A n c, .agg (enA x), .int .i64 pl, .slice AP np cp] w (LawPost w) := by
  obtain ⟨M, hM⟩ : ∃ M, M = LawPost w := ⟨_, rfl⟩
  rw [← hM]
  have FIN0 : ∀ W, Below w.heap.size w W → M (.returned (.bool true)) W := fun W h => by rw [hM]; exact ⟨rfl, h⟩
  have FIN := Lib.hid FIN0
  clear FIN0 hM
  have h1 : decide ((256 : Int) < (n : Int)) = false := by simp; omega
  have h2 : decide ((64 : Int) < (np : Int)) = false := by simp; omega
  have hlen := hS.len
  have hl5 : (leftP fullB l).length ≤ 512 := Nat.le_trans (left_len _ _) (by rw [hlen]; omega)
  have ba := fun (W : World) (h : Sl W 25 enc25 A n l) => build_any A n c l (by omega) hl5 hw W h
  have rb := fun (W : World) (h : Sl W 25 enc25 A n l) => rbuild_any A n c l (by omega) hl5 hc hw W h
  have gr := fun (p : Nat → P2) (hp : WP p) (t : TN) (m : Nat) (h : treeP l = some (t, m)) => grow_rfind hp 23 fullB wb_full l hw 512 t m h (hp_full hp)
  have gl := fun (t : TN) (m : Nat) (h : treeP l = some (t, m)) => grow_leafs 23 fullB l 512 t m h
  have gc := fun (t : TN) (m : Nat) (h : treeP l = some (t, m)) => grow_count 23 fullB l 512 t m h
  have gk := fun (t : TN) (m : Nat) (h : treeP l = some (t, m)) => grow_fOk 23 fullB wb_full l hw 512 t m h
  obtain ⟨r, j, hr, hr1, hr2, hj, hjn⟩ := place_any n pl
  have pa := fun (B : Nat) (t : TN) (W : World) (h : TreeAt W B l t) => put_any B j x l t (by omega) (by omega) (Nat.le_trans (left_len _ _) (by rw [insE_len (by omega)]; omega)) hw hwx W h
  have ta := fun (B : Nat) (t : TN) (W : World) (h : TreeAt W B (insE l j x) t) => take_any B j (insE l j x) t (by rw [insE_len (by omega)]; omega) (by rw [insE_len (by omega)]; omega) (by rw [remE_insE (by omega)]; exact hl5) (fun e he => (insE_mem he).elim (hw e) (fun h => by rw [h]; exact hwx)) W h
  rw [remE_insE (by omega)] at ta
  have hli : (insE l j x).length = n + 1 := by rw [insE_len (by omega), hlen]
  have iE : (Try.prog.info? 32).map (·.size) = some (enA x).size := by kernel_rfl
  obtain ⟨R, hR⟩ : ∃ R, R = treeP l := ⟨_, rfl⟩
  simp only [← hR] at ba rb gr gl gc gk ta
  clear hR hw hwx hl5
  obtain ⟨R2, hR2⟩ : ∃ R2, R2 = treeP (insE l j x) := ⟨_, rfl⟩
  rw [← hR2] at pa
  clear hR2
  generalize insE l j x = l2 at *
  obtain ⟨EA, hEA⟩ : ∃ EA, EA = enA x := ⟨_, rfl⟩
  rw [← hEA] at pa iE ⊢
  clear hEA
  have q0 := heap_alloc_new w (.cells EA 32)
  have b0 := Below.al (Below.refl w.heap.size w) (.cells EA 32)
  have hS0 := hS.keep b0
  have hSP0 := hSP.keep b0
  obtain ⟨N0, hN0⟩ : ∃ N0, N0 = w.heap.size := ⟨_, rfl⟩
  rw [← hN0] at q0
  have hPN : 0 < np → ∀ G, w.heap.size ≤ G → NotAt G AP := fun hp G hG b off sp e => by
    obtain ⟨b', off', e', hlt, _⟩ := hSP.row hp
    rw [e] at e'; cases e'; omega
  clear hS hSP
  have hw1 : IntKind.i64.wrap ((n : Int) + 1) = (n : Int) + 1 := by rw [IntKind.wrap_i64]; omega
  have hw2 : IntKind.i64.wrap (r + (n : Int)) = r + (n : Int) := by rw [IntKind.wrap_i64]; omega
  have hw3 : IntKind.i64.wrap (r + (n : Int) + 1) = r + (n : Int) + 1 := by rw [IntKind.wrap_i64]; omega
  have hnz : ¬ ((n : Int) + 1 = 0) := by omega
  have hwr : IntKind.i64.wrap r = r := by rw [IntKind.wrap_i64]; omega
  have hwj : IntKind.i64.wrap (j : Int) = (j : Int) := by rw [IntKind.wrap_i64]; omega
  go_enter Try.func3, Try.ntmps3
  go_upto_region 3 with fail
  obtain ⟨w0, hw0⟩ : ∃ w0, w0 = w.alloc (.cells EA 32) := ⟨_, rfl⟩
  rw [← hw0] at q0 b0 hS0 hSP0 ⊢
  rw [← hN0]
  have hz0 : w.heap.size ≤ w0.heap.size := b0.size
  clear hw0 hN0
  cases R with
  | none =>
    go_wp2_with (first | (go_at_call 5; go_loud (with_reducible refine (ba _ hS0).mono ?_); rintro e w2 ⟨rfl, hb⟩; have hS2 := hS0.keep hb) | (go_at_call 6; go_loud (with_reducible refine (rb _ hS2).mono ?_); rintro e w3 ⟨rfl, hb2⟩))
    have bz := bel_via (bel_via b0 hb) hb2
    first | exact FIN.out _ bz | (go_ret; exact FIN.out _ bz)
  | some q =>
    obtain ⟨t, m⟩ := q
    have hcnt := gc t m rfl
    have hlf := gl t m rfl
    have hfk := gk t m rfl
    have hrf := fun (p : Nat → P2) (hp : p ∈ pts) => gr p (hwp p hp) t m rfl
    have hbig : t.count ≤ 4096 := by omega
    have sm := fun (B T : Nat) (W : World) (h1 : TreeAt W B l t) (h2 : RTreeAt W T l t) (h3 : Sl W 12 (fun p : Nat → P2 => (ptc p).toList) AP np pts) => same_any B l t T AP np cp pts (by omega) hbig (fun q hq => Nat.le_trans (hlf q hq) (by omega)) hfk hrf W h1 h2 h3
    have sm := Lib.hid sm
    clear gr gl gc gk hlf hfk hrf hcnt hbig
    go_upto_region 7 with (first | (go_at_call 5; go_loud (with_reducible refine (ba _ hS0).mono ?_); rintro e w2 ⟨Bt, rfl, ⟨hBlo, hTa⟩, hTt, hb⟩; have hS2 := hS0.keep hb) | (go_at_call 6; go_loud (with_reducible refine (rb _ hS2).mono ?_); rintro e w3 ⟨Tr, rfl, ⟨_, hTb⟩, _, hb2⟩))
    go_upto_region 8 with fail
    have hb3 := bel_via hb hb2
    have q3 := blkB hb3 q0
    have hTA := (hTa.keep hb2).at
    have hBl : Bt < w2.heap.size := by
      obtain ⟨_, _, _, _, _, hh, _⟩ := hTt
      exact blk_lt hh
    have hSP3 := hSP0.keep hb3
    have bz := bel_via b0 hb3
    have hBw : w.heap.size ≤ Bt := Nat.le_trans hz0 hBlo
    have hPA : 0 < np → NotAt Bt AP := fun hp => hPN hp Bt hBw
    have hLN : ((n + 1 : Nat) : Int) = (n : Int) + 1 := by omega
    clear ba rb hS0 hS2 hb hb2 hTa hTt hb3 hSP0 q0 b0 hPN hz0 hBlo hr hj hc hlen
    cases R2 with
    | none =>
      go_wp2_with (first | (refine wpList_load_row rfl 32 (.tmp 5) rfl N0 rfl 32 EA (0, 0) _ q3 Try.underlying32 rfl iE ?_) | (go_at_call 7; go_loud (with_reducible refine (pa _ _ _ hTA).mono ?_); rintro e w4 ⟨rfl, hb4⟩; have hT4 := hTA.keep hb4; have hR4 := hTb.at.keep hb4; have hSP4 := hSP3.keep hb4) | (go_at_call 10; go_loud (with_reducible refine (sm.out _ _ _ hT4 hR4 hSP4).mono ?_); rintro e w5 ⟨rfl, hb5⟩))
      have bz5 := bel_via (bel_via bz hb4) hb5
      first | exact FIN.out _ bz5 | (go_ret; exact FIN.out _ bz5)
    | some q2 =>
      obtain ⟨t2, m2⟩ := q2
      go_wp2_with (first | (refine wpList_load_row rfl 32 (.tmp 5) rfl N0 rfl 32 EA (0, 0) _ q3 Try.underlying32 rfl iE ?_) | (go_at_call 7; go_loud (with_reducible refine (pa _ _ _ hTA).mono ?_); rintro e w4 ⟨rfl, hT4, ho4⟩; have hR4 := hTb.off hBl ho4; have hSP4 := hSP3.off hPA ho4; obtain ⟨A4, c4, ty4, u4, G4, hB4, _⟩ := id hT4; rw [hli] at hB4) | (go_at_call 8; go_loud (with_reducible refine (len_any Bt A4 (n + 1) c4 _ _ hB4).mono ?_); rintro e w5 ⟨rfl, rfl⟩) | (go_at_call 9; go_loud (with_reducible refine (ta _ _ _ hT4).mono ?_); rintro e w6 ⟨rfl, hT6, ho6⟩; have hR6 := hR4.off hBl ho6; have hSP6 := hSP4.off hPA ho6) | (go_at_call 10; go_loud (with_reducible refine (sm.out _ _ _ hT6 hR6.at hSP6).mono ?_); rintro e w7 ⟨rfl, hb7⟩))
      have bz7 := bel_via ((bz.trans (ho4.bel.mono hBw)).trans (ho6.bel.mono hBw)) hb7
      first | exact FIN.out _ bz7 | (go_ret; exact FIN.out _ bz7)
set_option maxRecDepth 100000 in
set_option maxHeartbeats 4000000 in
theorem cundo_any (A : Option Addr) (n c : Nat) (l : List EN) (x : EN) (pl : Int) (AP : Option Addr) (np cp : Nat) (pts : List (Nat → P2)) (w : World) (hS : Sl w 25 enc25 A n l) (hSP : Sl w 12 (fun p : Nat → P2 => (ptc p).toList) AP np pts) (hw : ∀ e ∈ l, WB e.bx) (hwx : WB x.bx) (hpl : -9223372036854775808 ≤ pl ∧ pl < 9223372036854775808) (hc : A = none → c = 0) (hwp : ∀ p ∈ pts, WP p) :
    Calls Try.prog 3 #[.slice A n c, .agg (enA x), .int .i64 pl, .slice AP np cp] w (LawPost w) := by
  by_cases hn : n ≤ 256
  · by_cases hnp : np ≤ 64
    · exact cundo_core A n c l x pl AP np cp pts hn hnp w hS hSP hw hwx hpl hc hwp
    · unfold LawPost
      have h1 : decide ((256 : Int) < (n : Int)) = false := by simp; omega
      have h2 : decide ((64 : Int) < (np : Int)) = true := by simp; omega
      clear hS hSP hw hc hwp hn hnp
      generalize enA x = EA
      have hz := Below.al (Below.refl w.heap.size w) (.cells EA 32)
      go_enter Try.func3, Try.ntmps3
      go_wp2_with fail
      go_ret
      exact ⟨rfl, hz⟩
  · unfold LawPost
    have h1 : decide ((256 : Int) < (n : Int)) = true := by simp; omega
    clear hS hSP hw hc hwp hn
    generalize enA x = EA
    have hz := Below.al (Below.refl w.heap.size w) (.cells EA 32)
    go_enter Try.func3, Try.ntmps3
    go_wp2_with fail
    go_ret
    exact ⟨rfl, hz⟩
end Go.Proofs.Ytomennaekjklbaa
