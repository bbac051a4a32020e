/- Packet: the document's; by-name template (gen_wrpacket.py). -/
import Derived.Test.YtpmbdjdhgcjkfaaWRPkt
import Derived.StillTailTactics
namespace Go.Proofs.Ytpmbdjdhgcjkfaa
open Go.RowKit Go.Sort
set_option linter.unusedVariables false
set_option linter.unusedSimpArgs false


set_option maxHeartbeats 4000000 in
set_option maxRecDepth 100000 in
theorem rpk4_ok (A : Option Addr) (n c : Nat) (l : List UInt8) (sh sl dh dl : Nat) (vp ttl : Int) (h1 : sh < 18446744073709551616) (h2 : sl < 18446744073709551616) (h3 : dh < 18446744073709551616) (h4 : dl < 18446744073709551616) (hs4 : is4I (sh : Int) (sl : Int) = true) {w : World} (h : BytA w A n c l) (hm : n ≤ 65536) (hd4 : is4I (dh : Int) (dl : Int) = true) (hp : byteP vp = true) (ht : byteP ttl = true) (hq : vp ≠ 44) (hk : vp ≠ 58) (hz : ¬ 2048 < 20 + n) :
    Calls Try.prog 22 #[.agg #[.int .u64 (sh : Nat), .int .u64 (sl : Nat)], .agg #[.int .u64 (dh : Nat), .int .u64 (dl : Nat)], .int .i64 vp, .int .i64 ttl, .slice A n c] w fun e w' => ∃ B cx, e = .returned (.tuple #[.slice (some ⟨B, 0, none⟩) (20 + n : Nat) cx, .int .i64 0]) ∧ BytArg w' (some ⟨B, 0, none⟩) (20 + n) cx (hdr4 vp ttl (20 + n) (beB 4 sl ++ beB 4 dl) ++ setB (vPk vp sh sl dh dl) l) ∧ w.heap.size ≤ B ∧ Below w.heap.size w w' := by
  have ci := fun (W : World) => ris4_any (sh : Int) (sl : Int) ⟨by omega, by omega⟩ ⟨by omega, by omega⟩ W
  rw [hs4] at ci
  have cd := fun (W : World) => ris4_any (dh : Int) (dl : Int) ⟨by omega, by omega⟩ ⟨by omega, by omega⟩ W
  rw [hd4] at cd
  have cA := fun (W : World) => within_any vp W
  have cB := fun (W : World) => within_any ttl W
  have nI : (n : Int) ≤ 65536 := by omega
  have hv : VOk (vPk vp sh sl dh dl) := by
    simp only [byteP, Bool.and_eq_true, decide_eq_true_eq] at hp
    exact ⟨hp.1, by simp only [vPk]; omega, ⟨by simp only [vPk]; omega, by simp only [vPk]; omega⟩, ⟨by simp only [vPk]; omega, by simp only [vPk]; omega⟩, ⟨by simp only [vPk]; omega, by simp only [vPk]; omega⟩, ⟨by simp only [vPk]; omega, by simp only [vPk]; omega⟩, by simp only [vPk]; rw [hs4, hd4]⟩
  have c1 := fun (W : World) => rbytes4 sh sl h1 h2 hs4 W
  have c2 := fun (W : World) => rbytes4 dh dl h3 h4 hd4 W
  obtain ⟨i0, hi, hz0, hz1, hz2⟩ := info_parts info8
  clear hs4 h1 h2 h3 h4 hd4
  rw [hp] at cA
  rw [ht] at cB
  have q44 : (vp == 44) = false := by simp [hq]
  have q58 : (vp == 58) = false := by simp [hk]
  have g0 : IntKind.i64.wrap 2028 = 2028 := by decide
  have g1 : decide ((2028 : Int) < (n : Int)) = false := by simp; omega
  have g2 : ¬ (2028 : Int) < (n : Int) := by omega
  have g3 : decide (2028 < n) = false := by simp; omega
  obtain ⟨N, hN⟩ : ∃ N, N = 20 + n := ⟨_, rfl⟩
  have wN : IntKind.i64.wrap (20 + (n : Int)) = (N : Int) := by rw [IntKind.wrap_i64]; omega
  have NB : N ≤ 2048 := by omega
  have NI : (N : Int) ≤ 2048 := by omega
  have nB : n ≤ 2048 := by omega
  have lN := low_small N (by omega)
  have ln := low_small n (by omega)
  have eT : IntKind.u8.wrap ttl = ((loB ttl).toNat : Int) := by rw [IntKind.wrap_u8, loB_val]
  have eP : IntKind.u8.wrap vp = ((loB vp).toNat : Int) := by rw [IntKind.wrap_u8, loB_val]
  have wk8 : IntKind.i64.wrap 8 = 8 := by decide
  have wk12 : IntKind.i64.wrap 12 = 12 := by decide
  have wk32 : IntKind.i64.wrap 32 = 32 := by decide
  have hS1 : ((beB 4 sl)).length = 4 := by simp [beB_len]
  have hS2 : ((beB 4 dl)).length = 4 := by simp [beB_len]
  have mk : ∀ W, (Instr.makeSlice 22 (.int .i64 12) (.int .i64 12)).run Try.prog W = .ok (.slice (some ⟨W.heap.size, 0, none⟩) 12 12) (W.alloc (.cells (bc (List.replicate 12 0)).toArray 5)) := make_run 12 (by omega)
  rw [← hN]
  have HA := Lib.hid h
  have HN := Lib.hid hN
  have HV := Lib.hid hv
  have HS := Lib.hid (And.intro hS1 hS2)
  clear h hN hp ht hq hk hz hv hS1 hS2
  go_enter Try.func22, Try.ntmps22
  go_wp2_with (with_reducible refine stop_op (o := ⟨some 15, _, _, _, _, _⟩) ?_)
  obtain ⟨w1, hw1⟩ : ∃ x, x = (w.alloc (.cells #[.int .u64 (sh : Nat), .int .u64 (sl : Nat)] 25)).alloc (.cells #[.int .u64 (dh : Nat), .int .u64 (dl : Nat)] 25) := ⟨_, rfl⟩
  have hX : w1.heap[w.heap.size]? = some (.cells #[.int .u64 (sh : Nat), .int .u64 (sl : Nat)] 25 (0, 0)) := by rw [hw1, al_oldw (by simp)]; exact al_neww rfl _
  have hY : w1.heap[w.heap.size + 1]? = some (.cells #[.int .u64 (dh : Nat), .int .u64 (dl : Nat)] 25 (0, 0)) := by rw [hw1]; exact al_neww (by simp) _
  have bw : Below w.heap.size w w1 := by rw [hw1]; exact Below.al (Below.al (Below.refl _ _) _) _
  rw [← hw1]
  clear hw1
  obtain ⟨sx0, sx1, _, _⟩ := cells2 hX
  obtain ⟨dx0, dx1, _, _⟩ := cells2 hY
  refine Lib.hid ?_
  go_wp2_with (go_at_call 62; refine (ci _).mono ?_; rintro e w2 ⟨rfl, hbx⟩; refine Hid.out ?_)
  have hXn := blkKeep2 hbx hX
  have hYn := blkKeep2 hbx hY
  have bwn : Below w.heap.size w w2 := bw.trans (hbx.mono bw.size)
  clear hbx hX hY bw sx0 sx1 dx0 dx1
  have hX := hXn
  have hY := hYn
  have bw := bwn
  clear hXn hYn bwn
  obtain ⟨sx0, sx1, _, _⟩ := cells2 hX
  obtain ⟨dx0, dx1, _, _⟩ := cells2 hY
  clear ci
  refine Lib.hid ?_
  go_wp2_with (first | (go_at_call_of 40 (Value.int IntKind.i64 vp); refine (cA _).mono ?_; rintro e w' ⟨rfl, hw'⟩; subst hw') | (go_at_call_of 40 (Value.int IntKind.i64 ttl); refine (cB _).mono ?_; rintro e w' ⟨rfl, hw'⟩; subst hw') | (go_at_call 62; refine (cd _).mono ?_; rintro e w3 ⟨rfl, hbx⟩; refine Hid.out ?_))
  have hXn := blkKeep2 hbx hX
  have hYn := blkKeep2 hbx hY
  have bwn : Below w.heap.size w w3 := bw.trans (hbx.mono bw.size)
  clear hbx hX hY bw sx0 sx1 dx0 dx1
  have hX := hXn
  have hY := hYn
  have bw := bwn
  clear hXn hYn bwn
  obtain ⟨sx0, sx1, _, _⟩ := cells2 hX
  obtain ⟨dx0, dx1, _, _⟩ := cells2 hY
  clear cd
  refine Lib.hid ?_
  go_wp2_with (first | (go_at_call_of 40 (Value.int IntKind.i64 vp); refine (cA _).mono ?_; rintro e w' ⟨rfl, hw'⟩; subst hw') | (go_at_call_of 40 (Value.int IntKind.i64 ttl); refine (cB _).mono ?_; rintro e w' ⟨rfl, hw'⟩; subst hw') | (go_at_call 63; refine (c1 _).mono ?_; rintro e w7 ⟨B0, rfl, _, _, _, hbx⟩; refine Hid.out ?_))
  have hXn := blkKeep2 hbx hX
  have hYn := blkKeep2 hbx hY
  have bwn : Below w.heap.size w w7 := bw.trans (hbx.mono bw.size)
  clear hbx hX hY bw sx0 sx1 dx0 dx1
  have hX := hXn
  have hY := hYn
  have bw := bwn
  clear hXn hYn bwn
  obtain ⟨sx0, sx1, _, _⟩ := cells2 hX
  obtain ⟨dx0, dx1, _, _⟩ := cells2 hY
  clear cA cB
  refine Lib.hid ?_
  go_wp2_with (with_reducible refine stop_op (o := ⟨some 67, _, _, _, _, _⟩) ?_)
  obtain ⟨w8, hw8⟩ : ∃ x, x = w7.alloc (.cells (bc (List.replicate 12 0)).toArray 5) := ⟨_, rfl⟩
  have R0 : Row w8 w7.heap.size ([] ++ Zs 12) := by rw [hw8]; exact Row.new w7 _
  have hbx : Below w7.heap.size w7 w8 := by rw [hw8]; exact Below.al (Below.refl _ _) _
  first | rw [← hw8] | (simp only [List.replicate] at hw8; rw [← hw8])
  clear hw8 mk
  obtain ⟨B, hB⟩ : ∃ B, B = w7.heap.size := ⟨_, rfl⟩
  have hLT : w.heap.size < B ∧ w.heap.size + 1 < B := by
    rw [hB]; exact ⟨(Array.getElem?_eq_some_iff.1 hX).1, (Array.getElem?_eq_some_iff.1 hY).1⟩
  have hBl : w.heap.size ≤ B := by omega
  have hXn := blkKeep2 hbx hX
  have hYn := blkKeep2 hbx hY
  have bwn : Below w.heap.size w w8 := bw.trans (hbx.mono bw.size)
  clear hbx hX hY bw sx0 sx1 dx0 dx1
  have hX := hXn
  have hY := hYn
  have bw := bwn
  clear hXn hYn bwn
  obtain ⟨sx0, sx1, _, _⟩ := cells2 hX
  obtain ⟨dx0, dx1, _, _⟩ := cells2 hY
  rw [← hB] at R0 ⊢
  clear hB
  have HLT := Lib.hid hLT
  have HX := Lib.hid hX
  have HY := Lib.hid hY
  have HW8 := Lib.hid bw
  have hB8 : B ≤ w8.heap.size := Nat.le_of_lt R0.lt
  clear hLT hX hY bw sx0 sx1 dx0 dx1
  have bk : Below B w8 w8 := Below.refl _ _
  obtain ⟨x0, hx0⟩ : ∃ x, x = w8 := ⟨_, rfl⟩
  rw [← hx0] at R0 ⊢
  have bkn : Below B w8 x0 := by rw [hx0]; exact bk
  clear hx0 bk
  have bk := bkn
  clear bkn
  have fz := R0.frozen 0
  obtain ⟨⟨uu, cz⟩, _⟩ := R0.room (o := 0) (m := 1) (by simp only [List.nil_append, List.length_append, beB_len, Zs_len, List.length_singleton]; omega) 0 (by omega)
  have hX := (bk.block _ HLT.out.1).trans HX.out
  have hY := (bk.block _ HLT.out.2).trans HY.out
  obtain ⟨sx0, sx1, _, _⟩ := cells2 hX
  obtain ⟨dx0, dx1, _, _⟩ := cells2 hY
  refine Lib.hid ?_
  go_wp2_with (with_reducible refine stop_op (o := ⟨some 69, _, _, _, _, _⟩) ?_)
  obtain ⟨x1, hwn⟩ : ∃ x, x = x0.setCell ⟨B, 0, none⟩ (.int .u8 69) := ⟨_, rfl⟩
  have R1 := R0.sz (69 : UInt8) (o := 0) (m := 12 - 1) (by omega) (by simp [beB_len, Zs_len])
  first | rw [← hwn] at R1 | rw [show (((69 : UInt8).toNat : Nat) : Int) = 69 from rfl, ← hwn] at R1
  have bkn : Below B w8 x1 := by rw [hwn]; exact below_set bk (Nat.le_refl _) 0 _
  rw [← hwn]
  clear hwn R0 bk fz cz
  clear hX hY sx0 sx1 dx0 dx1
  have bk := bkn
  clear bkn
  have R1' := R1.pz (k := 1) (m := 10) (by omega)
  have s2 : ∀ W, (Instr.slice 22 (.slice (some ⟨B, 0, none⟩) 12 12) (some (.int .i64 2)) (some (.int .i64 4)) none).run Try.prog W = .ok (.slice (some ⟨B, 2, none⟩) 2 (12 - 2)) W := by have := cut_lh B 0 12 12 2 4 (by omega) (by omega) (by omega) (by omega); simpa using this
  have cp := rput_any B 2 (12 - 2) 2 (N : Int) (by omega) (by omega) (by omega) ⟨by omega, by omega⟩ (R1'.room (by simp only [List.nil_append, List.length_append, beB_len, Zs_len, List.length_singleton]; omega))
  rw [lN] at cp
  refine Lib.hid ?_
  go_wp2_with (go_at_call 42; refine cp.mono ?_; rintro e x2 ⟨rfl, hW⟩; refine Hid.out ?_)
  have R2 := R1'.wz hW.wr (k := 2) (m := 8) (by omega) (by simp [Zs_len]) (by simp [beB_len])
  have bkn := hW.wr.bel bk (Nat.le_refl _) R1.lt
  clear cp hW R1 R1' s2 bk
  have bk := bkn
  clear bkn
  have R2' := R2.pz (k := 2) (m := 6) (by omega)
  clear R2
  have R2 := R2'
  clear R2'
  have fz := R2.frozen 6
  obtain ⟨⟨uu, cz⟩, _⟩ := R2.room (o := 6) (m := 1) (by simp only [List.nil_append, List.length_append, beB_len, Zs_len, List.length_singleton]; omega) 0 (by omega)
  have hX := (bk.block _ HLT.out.1).trans HX.out
  have hY := (bk.block _ HLT.out.2).trans HY.out
  obtain ⟨sx0, sx1, _, _⟩ := cells2 hX
  obtain ⟨dx0, dx1, _, _⟩ := cells2 hY
  refine Lib.hid ?_
  go_wp2_with (with_reducible refine stop_op (o := ⟨some 79, _, _, _, _, _⟩) ?_)
  obtain ⟨x3, hwn⟩ : ∃ x, x = x2.setCell ⟨B, 6, none⟩ (.int .u8 64) := ⟨_, rfl⟩
  have R3 := R2.sz (64 : UInt8) (o := 6) (m := 12 - 7) (by omega) (by simp [beB_len, Zs_len])
  first | rw [← hwn] at R3 | rw [show (((64 : UInt8).toNat : Nat) : Int) = 64 from rfl, ← hwn] at R3
  have bkn : Below B w8 x3 := by rw [hwn]; exact below_set bk (Nat.le_refl _) 6 _
  rw [← hwn]
  clear hwn R2 bk fz cz
  clear hX hY sx0 sx1 dx0 dx1
  have bk := bkn
  clear bkn
  have R3' := R3.pz (k := 1) (m := 4) (by omega)
  clear R3
  have R3 := R3'
  clear R3'
  have fz := R3.frozen 8
  obtain ⟨⟨uu, cz⟩, _⟩ := R3.room (o := 8) (m := 1) (by simp only [List.nil_append, List.length_append, beB_len, Zs_len, List.length_singleton]; omega) 0 (by omega)
  have hX := (bk.block _ HLT.out.1).trans HX.out
  have hY := (bk.block _ HLT.out.2).trans HY.out
  obtain ⟨sx0, sx1, _, _⟩ := cells2 hX
  obtain ⟨dx0, dx1, _, _⟩ := cells2 hY
  refine Lib.hid ?_
  go_wp2_with (with_reducible refine stop_op (o := ⟨some 83, _, _, _, _, _⟩) ?_)
  obtain ⟨x4, hwn⟩ : ∃ x, x = x3.setCell ⟨B, 8, none⟩ (.int .u8 ((loB ttl).toNat : Nat)) := ⟨_, rfl⟩
  have R4 := R3.sz ((loB ttl) : UInt8) (o := 8) (m := 12 - 9) (by omega) (by simp [beB_len, Zs_len])
  first | rw [← hwn] at R4 | rw [show ((((loB ttl) : UInt8).toNat : Nat) : Int) = (loB ttl) from rfl, ← hwn] at R4
  have bkn : Below B w8 x4 := by rw [hwn]; exact below_set bk (Nat.le_refl _) 8 _
  rw [← hwn]
  clear hwn R3 bk fz cz
  clear hX hY sx0 sx1 dx0 dx1
  have bk := bkn
  clear bkn
  have fz := R4.frozen 9
  obtain ⟨⟨uu, cz⟩, _⟩ := R4.room (o := 9) (m := 1) (by simp only [List.nil_append, List.length_append, beB_len, Zs_len, List.length_singleton]; omega) 0 (by omega)
  have hX := (bk.block _ HLT.out.1).trans HX.out
  have hY := (bk.block _ HLT.out.2).trans HY.out
  obtain ⟨sx0, sx1, _, _⟩ := cells2 hX
  obtain ⟨dx0, dx1, _, _⟩ := cells2 hY
  refine Lib.hid ?_
  go_wp2_with (with_reducible refine stop_op (o := ⟨some 101, _, _, _, _, _⟩) ?_)
  obtain ⟨x5, hwn⟩ : ∃ x, x = x4.setCell ⟨B, 9, none⟩ (.int .u8 ((loB vp).toNat : Nat)) := ⟨_, rfl⟩
  have R5 := R4.sz ((loB vp) : UInt8) (o := 9) (m := 12 - 10) (by omega) (by simp [beB_len, Zs_len])
  first | rw [← hwn] at R5 | rw [show ((((loB vp) : UInt8).toNat : Nat) : Int) = (loB vp) from rfl, ← hwn] at R5
  have bkn : Below B w8 x5 := by rw [hwn]; exact below_set bk (Nat.le_refl _) 9 _
  rw [← hwn]
  clear hwn R4 bk fz cz
  clear hX hY sx0 sx1 dx0 dx1
  have bk := bkn
  clear bkn
  have RT : Row x5 B (top4 vp ttl N ++ Zs 2) := R5
  clear R5
  have HO := Lib.hid (RT.own (base := B) (Nat.le_refl B) (n := 12) (by simp [top4_len, Zs_len]) (by unfold maxLen; omega))
  clear RT
  have hX := (bk.block _ HLT.out.1).trans HX.out
  have hY := (bk.block _ HLT.out.2).trans HY.out
  obtain ⟨sx0, sx1, _, _⟩ := cells2 hX
  obtain ⟨dx0, dx1, _, _⟩ := cells2 hY
  refine Lib.hid ?_
  go_wp2_with (go_at_call 63; refine (c1 _).mono ?_; rintro e yaa ⟨B1, rfl, _, _, yb, hbx⟩; refine Hid.out ?_)
  have HOn := Lib.hid (own_below HO.out hbx)
  have bkn := bk.trans (hbx.mono (Nat.le_trans hB8 bk.size))
  clear HO bk hbx
  clear hX hY sx0 sx1 dx0 dx1
  have HO := HOn
  have bk := bkn
  clear HOn bkn
  refine Lib.hid ?_
  go_wp2_with (at_builtin; go_loud (refine wpList_append_own _ rfl _ _ 22 rfl B 5 i0 (.int .u8 0) 1 1 Try.underlying22 hi hz0 hz1 hz2 rfl (by decide) _ _ _ rfl HO.out ⟨B1, 0, none⟩ 4 4 (bc (beB 4 sl)) rfl (by rw [bc_len, HS.out.1]) (fun j u hj => yb.news j u hj) (bc_one _) (by unfold maxLen; omega) (by omega) (Nat.le_trans hB8 bk.size) ?_); intro vya ya hown hgrow _; refine Hid.out ?_)
  have bkn : Below B w8 ya := bk.grown hgrow (Nat.le_trans hB8 bk.size) (fun k hk => own_lt' HO.out hk)
  rw [← bc_app] at hown
  clear HO bk hgrow yb
  have bk := bkn
  have HO := Lib.hid hown
  clear bkn hown
  have hX := (bk.block _ HLT.out.1).trans HX.out
  have hY := (bk.block _ HLT.out.2).trans HY.out
  obtain ⟨sx0, sx1, _, _⟩ := cells2 hX
  obtain ⟨dx0, dx1, _, _⟩ := cells2 hY
  refine Lib.hid ?_
  go_wp2_with (go_at_call 63; refine (c2 _).mono ?_; rintro e yb1a ⟨B1, rfl, _, _, yb, hbx⟩; refine Hid.out ?_)
  have HOn := Lib.hid (own_below HO.out hbx)
  have bkn := bk.trans (hbx.mono (Nat.le_trans hB8 bk.size))
  clear HO bk hbx
  clear hX hY sx0 sx1 dx0 dx1
  have HO := HOn
  have bk := bkn
  clear HOn bkn
  refine Lib.hid ?_
  go_wp2_with (at_builtin; go_loud (refine wpList_append_own _ rfl _ _ 22 rfl B 5 i0 (.int .u8 0) 1 1 Try.underlying22 hi hz0 hz1 hz2 rfl (by decide) _ _ _ rfl HO.out ⟨B1, 0, none⟩ 4 4 (bc (beB 4 dl)) rfl (by rw [bc_len, HS.out.2]) (fun j u hj => yb.news j u hj) (bc_one _) (by unfold maxLen; omega) (by omega) (Nat.le_trans hB8 bk.size) ?_); intro vyb1 yb1 hown hgrow _; refine Hid.out ?_)
  have bkn : Below B w8 yb1 := bk.grown hgrow (Nat.le_trans hB8 bk.size) (fun k hk => own_lt' HO.out hk)
  rw [← bc_app] at hown
  clear HO bk hgrow yb
  have bk := bkn
  have HO := Lib.hid hown
  clear bkn hown
  obtain ⟨g2, cap2, hv2, _⟩ := own_form HO.out (by omega)
  subst hv2
  obtain ⟨hg2, hgl2, hc2, hcm2⟩ := own_len HO.out (by omega)
  have HO2 : Hid (yb1.ownsRow B 5 1 (.slice (some ⟨g2, 0, none⟩) 20 cap2) 20 (bc (top4 vp ttl N ++ [0, 0] ++ (beB 4 sl ++ beB 4 dl)))) := Lib.hid (by have := HO.out; simpa [List.append_assoc, Zs, List.replicate_succ] using this)
  clear HO
  have hH : (top4 vp ttl N ++ [0, 0] ++ (beB 4 sl ++ beB 4 dl)).length = 20 := by simp [top4_len, beB_len]
  have s10 : ∀ W, (Instr.slice 22 (.slice (some ⟨g2, 0, none⟩) 20 cap2) (some (.int .i64 10)) (some (.int .i64 12)) none).run Try.prog W = .ok (.slice (some ⟨g2, 10, none⟩) 2 (cap2 - 10)) W := by have := cut_lh g2 0 20 cap2 10 12 (by omega) (by omega) (by omega) (by unfold maxLen at hcm2; omega); simpa using this
  have hSb := sumP_le (top4 vp ttl N ++ [0, 0] ++ (beB 4 sl ++ beB 4 dl))
  have cs := (rsum_any g2 0 cap2 20 _ hH (by omega) (w := yb1.drew) (Byt.own HO2.out)).mono (fun e w' h => (⟨h.1, h.2.symm⟩ : e = .returned (.int .i64 (sumP (top4 vp ttl N ++ [0, 0] ++ (beB 4 sl ++ beB 4 dl)) : Nat)) ∧ w' = yb1.drew))
  have hrm : Room yb1.drew g2 10 2 := by have := own_room HO2.out (by omega) (o := 10) (m := 2) (by omega); exact this
  have cp := rput_any g2 10 (cap2 - 10) 2 (sumP (top4 vp ttl N ++ [0, 0] ++ (beB 4 sl ++ beB 4 dl)) : Nat) (by omega) (by omega) (by unfold maxLen at hcm2; omega) ⟨by omega, by omega⟩ hrm
  rw [low_small _ (by omega)] at cp
  obtain ⟨S, hS⟩ : ∃ S, S = sumP (top4 vp ttl N ++ [0, 0] ++ (beB 4 sl ++ beB 4 dl)) := ⟨_, rfl⟩
  rw [← hS] at cs cp hSb
  have HSS := Lib.hid hS
  clear hH hrm hS
  refine Lib.hid ?_
  go_wp2_with fail
  refine wp_region_still_tail 4 (by kernel_rfl) (by kernel_rfl) ?_
  simp only [List.take_succ_cons, List.take_zero, List.drop_succ_cons, List.drop_zero]
  still_step
  still_step
  still_step
  still_call cs
  try refine wpStill_nil ?_
  change wpList _ _ _ _ _ yb1.drew
  have HOn : Hid (yb1.drew.ownsRow B 5 1 (.slice (some ⟨g2, 0, none⟩) 20 cap2) 20 (bc (top4 vp ttl N ++ [0, 0] ++ (beB 4 sl ++ beB 4 dl)))) := HO2
  have bkn : Below B w8 yb1.drew := Below.dr bk
  clear HO2 bk cs s10
  generalize yb1.drew = yc at *
  go_wp2_with (go_at_call 42; refine cp.mono ?_; rintro e yd ⟨rfl, hW⟩; refine Hid.out ?_)
  have hO3 := own_wr HOn.out hW.wr (a := top4 vp ttl N) (b := [0, 0]) (c := (beB 4 sl ++ beB 4 dl)) rfl (top4_len _ _ _) (by simp [beB_len]) rfl
  rw [HSS.out] at hO3
  have HO : Hid (yd.ownsRow B 5 1 (.slice (some ⟨g2, 0, none⟩) 20 cap2) 20 (bc (hdr4 vp ttl N (beB 4 sl ++ beB 4 dl)))) := Lib.hid hO3
  have bk := hW.wr.bel bkn hg2 (own_len HOn.out (by omega)).2.1
  clear bkn HOn hO3 hW cp hgl2 HSS hSb
  have HDl : (hdr4 vp ttl N (beB 4 sl ++ beB 4 dl)).length = 20 := (by unfold hdr4; simp [top4_len, beB_len])
  obtain ⟨HDR, hHDR⟩ : ∃ x, x = hdr4 vp ttl N (beB 4 sl ++ beB 4 dl) := ⟨_, rfl⟩
  rw [← hHDR] at HO HDl
  have HH := Lib.hid hHDR
  have HDL := Lib.hid HDl
  clear hHDR HDl
  have HAn := Lib.hid (HA.out.below (HW8.out.trans (bk.mono hBl)))
  refine Lib.hid ?_
  go_wp2_with (at_builtin; go_loud (refine append_bytes rfl _ _ rfl B _ 20 _ rfl HO.out A n c l rfl HAn.out (by omega) (Nat.le_trans hB8 bk.size) ?_); intro vz yz hown hgrow; refine Hid.out ?_)
  have bkn : Below B w8 yz := bk.grown hgrow (Nat.le_trans hB8 bk.size) (fun k hk => own_lt' HO.out hk)
  rw [← bc_app, ← HN.out] at hown
  have hln := HAn.out.1.1
  clear HO bk hgrow hg2 hc2 hcm2 HAn
  have bk := bkn
  clear bkn
  obtain ⟨g3, cap3, hv3, _⟩ := own_form hown (by have := HN.out; omega)
  subst hv3
  obtain ⟨hg3, hgl3, hc3, hcm3⟩ := own_len hown (by have := HN.out; omega)
  have hcm4 : cap3 ≤ 9223372036854775807 := by unfold maxLen at hcm3; omega
  have HO := Lib.hid hown
  clear hown
  obtain ⟨D, s20', hD⟩ := cut_cap g3 N cap3 20 (by have := HN.out; omega) hc3 hcm4
  rw [show N - 20 = n by have := HN.out; omega] at s20' hD
  have s20 : ∀ W, (Instr.slice 22 (.slice (some ⟨g3, 0, none⟩) N cap3) (some (.int .i64 20)) none none).run Try.prog W = .ok (.slice (some ⟨g3, D, none⟩) n (cap3 - 20)) W := s20'
  have HD := Lib.hid hD
  clear s20' hD
  have hB7 : BytArg yz.drew (some ⟨g3, D, none⟩) n (cap3 - 20) l := ⟨hln, by have := HN.out; omega, by unfold maxLen; omega, fun h0 => ⟨g3, D, rfl, by
    have hb : Byt yz.drew g3 0 (HDR ++ l) := Byt.own HO.out
    have := hb.sub 20 n
    rw [Nat.zero_add, ← HDL.out, List.drop_left, List.take_of_length_le (by omega), HDL.out, ← HD.out h0] at this
    exact this⟩⟩
  have cs := rset_any (some ⟨g3, D, none⟩) n (cap3 - 20) l _ HV.out hB7 (fun g o e h0 => by
    cases e
    rw [HD.out h0]
    have := own_room HO.out (by have := HN.out; omega) (o := 20) (m := n) (by have := HN.out; omega)
    exact this) (by omega)
  simp only [vPk, zvw] at cs
  have hX := (bk.block _ HLT.out.1).trans HX.out
  have hY := (bk.block _ HLT.out.2).trans HY.out
  obtain ⟨sx0, sx1, _, _⟩ := cells2 hX
  obtain ⟨dx0, dx1, _, _⟩ := cells2 hY
  refine Lib.hid ?_
  go_wp2_with fail
  refine wp_region_still_tail 6 (by kernel_rfl) (by kernel_rfl) ?_
  simp only [List.take_succ_cons, List.take_zero, List.drop_succ_cons, List.drop_zero]
  repeat still_step
  try refine wpStill_nil ?_
  change wpList _ _ _ _ _ yz.drew
  have HOn : Hid (yz.drew.ownsRow B 5 1 (.slice (some ⟨g3, 0, none⟩) N cap3) N (bc (HDR ++ l))) := HO
  have bkn : Below B w8 yz.drew := Below.dr bk
  have hgl4 : g3 < yz.drew.heap.size := hgl3
  clear HO bk hB7 hX hY sx0 sx1 dx0 dx1 hgl3
  generalize yz.drew = x8 at *
  go_wp2_with (go_at_call 46; refine cs.mono ?_; rintro e x9 ⟨rfl, hS⟩; have HSB := Lib.hid hS; clear hS)
  go_ret2
  have hfin := setBy_byt (Byt.own HOn.out) HDL.out (fun h0 => by rw [HD.out (by omega)]) HSB.out
  have bfin : Below B w8 x9 := by
    rcases HSB.out with ⟨_, hb⟩ | ⟨g, o, i, bs, e1, hW, _, _⟩
    · exact bkn.trans (hb.mono (Nat.le_trans hg3 (Nat.le_of_lt hgl4)))
    · cases e1; exact hW.bel bkn hg3 hgl4
  rw [HH.out] at hfin
  refine ⟨g3, cap3, rfl, ⟨by rw [← HH.out, List.length_append, HDL.out, setB_len]; have := HN.out; omega, hc3, hcm3, fun _ => ⟨g3, 0, rfl, hfin⟩⟩, Nat.le_trans hBl hg3, HW8.out.trans (bfin.mono hBl)⟩
end Go.Proofs.Ytpmbdjdhgcjkfaa
