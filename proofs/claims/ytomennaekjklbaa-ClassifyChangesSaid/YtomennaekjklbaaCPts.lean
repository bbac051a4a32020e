/- The program's Points: the walk; by-name template (gen_cpts.py). -/
import Derived.Test.YtomennaekjklbaaCPtsA
namespace Go.Proofs.Ytomennaekjklbaa
open Go.RowKit Go.Lib Go.Sort
set_option linter.unusedVariables false
set_option linter.unusedSimpArgs false

set_option maxRecDepth 100000 in
set_option maxHeartbeats 8000000 in
theorem pts_any (A : Option Addr) (n c : Nat) (l : List EN) (b : Nat → R4) (k : Nat) (hk : k < 6) (hn : n ≤ 512) (hw : ∀ e ∈ l, WB e.bx) (w : World) (hS : Sl w 25 enc25 A n l) : Calls Try.prog 53 #[.slice A n c, .agg (bxc b), .int .i64 k] w (PtsPost w (rptsL l b k)) := by
  have hlen := hS.len
  obtain ⟨M, hM⟩ : ∃ M, M = PtsPost w (rptsL l b k) := ⟨_, rfl⟩
  rw [← hM]
  have HM := Lib.hid hM; clear hM
  have iC := inf29 b
  obtain ⟨C, hC⟩ : ∃ C, C = bxc b := ⟨_, rfl⟩
  rw [← hC] at iC
  rw [← hC]
  have iC := Lib.hid iC
  have HC := Lib.hid hC; clear hC
  have hk0 : (0 : Int) ≤ (k : Int) := by omega
  have hk1 : (k : Int) < 6 := by omega
  have HLEN := Lib.hid hlen; clear hlen
  go_enter Try.func53, Try.ntmps53
  go_wp2_with fail
  have A0 : ((w.alloc (.cells C 30)).alloc (.cells #[.int .i64 k] 3)).heap[w.heap.size]? = some (.cells C 30) := by rw [al_old (by rw [al_size]; omega)]; exact heap_alloc_new w _
  have A1 : ((w.alloc (.cells C 30)).alloc (.cells #[.int .i64 k] 3)).heap[w.heap.size + 1]? = some (.cells #[.int .i64 k] 3) := by have := heap_alloc_new (w.alloc (.cells C 30)) (.cells #[.int .i64 k] 3); rwa [al_size] at this
  have b0 : Below w.heap.size w ((w.alloc (.cells C 30)).alloc (.cells #[.int .i64 k] 3)) := Below.al (Below.al (Below.refl _ _) _) _
  obtain ⟨w0, hw0⟩ : ∃ w0, w0 = (w.alloc (.cells C 30)).alloc (.cells #[.int .i64 k] 3) := ⟨_, rfl⟩
  rw [← hw0] at A0 A1 b0 ⊢
  clear hw0
  have hdk : (decide ((0 : Int) ≤ (k : Int)) && decide ((k : Int) < 6)) = true := by simp [hk1]
  with_reducible refine (isField_any (k : Int) w0).mono ?_
  rintro e wz ⟨rfl, hb⟩
  rw [hdk]
  replace A0 := blkB hb A0
  replace A1 := blkB hb A1
  have bz := bel_via b0 hb
  have hS0 := hS.keep bz
  clear hb hdk hS b0
  go_wp2_with fail
  have AX0 := A0
  have AX1 := A1
  obtain ⟨P, hP⟩ : ∃ P, P = wz.heap.size := ⟨_, rfl⟩
  obtain ⟨w0, hw0⟩ : ∃ w0, w0 = wz.alloc (.cells #[.slice none 0 0] 74) := ⟨_, rfl⟩
  have hPb : w0.heap[P]? = some (.cells #[.slice none 0 0] 74 (0, 0)) := by rw [hw0, hP]; exact heap_alloc_new wz _
  replace A0 := blk_al2 hw0 A0
  replace A1 := blk_al2 hw0 A1
  replace bz := bel_al2 hw0 bz
  have hBP : w.heap.size < P := by rw [hP]; have := blk_lt (w := wz) (show wz.heap[w.heap.size]? = _ from AX0); omega
  have hFP : w.heap.size + 1 < P := by rw [hP]; have := blk_lt (w := wz) (show wz.heap[w.heap.size + 1]? = _ from AX1); omega
  have hR : ∀ (h : 0 < n), ∃ b' off, A = some ⟨b', off, none⟩ ∧ b' < P ∧ ∀ j x, l[j]? = some x → ∀ t v, (enc25 x)[t]? = some v → w0.cell? ⟨b', off + j * 25 + t, none⟩ = some v := fun h => by
    obtain ⟨b', off, h1, h2, h3⟩ := hS0.row h
    exact ⟨b', off, h1, by omega, fun j x hj t v ht => by rw [hw0]; exact keepc (Below.al (Below.refl _ _) _) (h3 j x hj t v ht)⟩
  have hsz : P ≤ w0.heap.size := by have := blk_lt hPb; omega
  rw [← hw0, ← hP]
  clear hw0 hP hS0 AX0 AX1
  go_loopw [22] (fun v22 wr => ∃ i : Nat, v22 = .int .i64 i ∧ i ≤ n ∧ (∃ vP LL, Hid (LL = (l.take i).flatMap fun e => ptsE e.bx b k) ∧ wr.heap[P]? = some (.cells #[vP] 74 (0, 0)) ∧ wr.ownsRow (P + 1) 25 2 vP LL.length (LL.flatMap p2c)) ∧ Below P w0 wr) (fun v22 _ => n - (intOf v22).toNat)
  case atStart => exact ⟨0, rfl, by omega, ⟨.slice none 0 0, [], Lib.hid (by simp), hPb, by simp [World.ownsRow]⟩, (Below.refl _ _).mono hsz⟩
  case round =>
    obtain ⟨i, rfl, hi, ⟨vP, LL, HLL, hP, hown⟩, bw⟩ := hrel
    by_cases hlt : i < n
    · have hml : i < l.length := by rw [HLEN.out]; exact hlt
      obtain ⟨x, hx⟩ : ∃ x, l[i]? = some x := ⟨_, List.getElem?_eq_getElem hml⟩
      obtain ⟨b', off, hA, hbl, hrow⟩ := hR (by omega)
      have hcell := en_row hrow hx
      have hwx := hw x (List.mem_of_getElem? hx)
      have hlti : (i : Int) < (n : Int) := by omega
      have hdn : decide (i < n) = true := by simp [hlt]
      have iE := inf47 x
      have oE := en_one x
      have zE : (#[.int .u64 0, .int .u64 0, .int .u64 0, .int .u64 0, .int .u64 0, .int .u64 0, .int .u64 0, .int .u64 0, .int .u64 0, .int .u64 0, .int .u64 0, .int .u64 0, .int .u64 0, .int .u64 0, .int .u64 0, .int .u64 0, .int .u64 0, .int .u64 0, .int .u64 0, .int .u64 0, .int .u64 0, .int .u64 0, .int .u64 0, .int .u64 0, .int .i64 0] : Array Value).size = (enA x).size := rfl
      have eB := fun (W : World) (B : Nat) => en_blk (w := W) (B := B) (x := x)
      obtain ⟨EA, hEA⟩ : ∃ EA, EA = enA x := ⟨_, rfl⟩
      rw [← hEA] at iE oE zE hcell
      simp only [← hEA] at eB
      clear hEA
      have iE := Lib.hid iE
      have oE := Lib.hid oE
      have zE := Lib.hid zE
      have EB := Lib.hid eB; clear eB
      have HX := Lib.hid hx; clear hx
      have A0' := blkN bw hBP A0
      have A1' := blkN bw hFP A1
      have e0 : ∀ j v, EA.toList[j]? = some v → wr.cell? ((⟨b', off + i * 25, none⟩ : Addr).add j) = some v := fun j v hj => cellN bw (by rw [add_block]; exact hbl) (hcell j v hj)
      subst hA
      clear hrow hcell
      have e0 := Lib.hid e0
      have hP' := hP
      have hz := Below.refl wr.heap.size wr
      obtain ⟨w1, hw1⟩ : ∃ w1, w1 = wr := ⟨_, rfl⟩
      rw [← hw1] at hP' hz bw hP hown
      subst hw1
      obtain ⟨wz, hwz⟩ : ∃ x, x = w1 := ⟨_, rfl⟩
      rw [← hwz] at A0' A1' e0 hP' ⊢
      rw [show Below w1.heap.size w1 w1 = Below w1.heap.size w1 wz by rw [hwz]] at hz
      clear hwz
      go_upto_region 8 with (first | (refine wpList_load_cells rfl 32 (.tmp 24) rfl ⟨b', off + i * 25, none⟩ rfl EA _ e0.out Try.underlying32 rfl iE.out ?_) | (refine wpList_store_row rfl 32 (.tmp 10) (.tmp 25) rfl wz.heap.size EA rfl rfl 32 #[.int .u64 0, .int .u64 0, .int .u64 0, .int .u64 0, .int .u64 0, .int .u64 0, .int .u64 0, .int .u64 0, .int .u64 0, .int .u64 0, .int .u64 0, .int .u64 0, .int .u64 0, .int .u64 0, .int .u64 0, .int .u64 0, .int .u64 0, .int .u64 0, .int .u64 0, .int .u64 0, .int .u64 0, .int .u64 0, .int .u64 0, .int .u64 0, .int .i64 0] (heap_alloc_new wz _) iE.out zE.out oE.out ?_; rw [World.setRow_alloc_new]; obtain ⟨wy, hwy⟩ : ∃ x, x = wz.alloc (.cells EA 32) := ⟨_, rfl⟩; rw [← hwy]; replace A0' := blk_al2 hwy A0'; replace A1' := blk_al2 hwy A1'; replace hP' := blk_al2 hwy hP'; have q0 := al_hd2 hwy; replace hz := bel_al2 hwy hz; obtain ⟨Q, hP⟩ : ∃ P, P = wz.heap.size := ⟨_, rfl⟩; rw [← hP] at q0 ⊢; clear hP hwy; obtain ⟨wz, hwz⟩ : ∃ x, x = wy := ⟨_, rfl⟩; subst hwz))
      try simp only [Act.put]
      have iX := inf29 x.bx
      have cm := fun W : World => meetBox_any x.bx b W
      have kM := inf29 (mbV x.bx b)
      have oM := bx_one (mbV x.bx b)
      have zM : (#[.int .u64 0, .int .u64 0, .int .u64 0, .int .u64 0, .int .u64 0, .int .u64 0, .int .u64 0, .int .u64 0, .int .u64 0, .int .u64 0, .int .u64 0, .int .u64 0, .int .u64 0, .int .u64 0, .int .u64 0, .int .u64 0, .int .u64 0, .int .u64 0, .int .u64 0, .int .u64 0, .int .u64 0, .int .u64 0, .int .u64 0, .int .u64 0] : Array Value).size = (bxc (mbV x.bx b)).size := rfl
      generalize bxc (mbV x.bx b) = MV at *
      obtain ⟨EX, hEX⟩ : ∃ EX, EX = bxc x.bx := ⟨_, rfl⟩
      rw [← hEX] at cm iX
      have EB := Lib.hid (hEX ▸ EB.out)
      rw [← HC.out] at cm
      have HEX := Lib.hid hEX; clear hEX
      have iX := Lib.hid iX
      have kM := Lib.hid kM
      have oM := Lib.hid oM
      have zM := Lib.hid zM
      generalize hO : mbO x.bx b = O at cm
      have HO := Lib.hid hO; clear hO
      have hsz1 : P ≤ w1.heap.size := by have := blk_lt hP; omega
      have hstep : (l.take (i + 1)).flatMap (fun e => ptsE e.bx b k) = LL ++ ptsE x.bx b k := by rw [HLL.out, List.take_add_one, HX.out]; simp [List.flatMap_append]
      have HST := Lib.hid hstep; clear hstep
      go_upto_region 9 with (first | (refine wpList_load_cells rfl 30 (.tmp 27) rfl ⟨Q, 0, none⟩ rfl EX _ (EB.out _ _ q0) Try.underlying30 rfl iX.out ?_) | (refine wpList_load_row rfl 30 (.tmp 4) rfl w.heap.size rfl 30 C (0, 0) _ A0' Try.underlying30 rfl iC.out ?_) | (go_at_call 52; with_reducible refine (cm _).mono ?_; rintro e wz ⟨rfl, hb⟩; replace A0' := blkB hb A0'; replace A1' := blkB hb A1'; replace hP' := blkB hb hP'; replace q0 := blkB hb q0; replace hz := bel_via hz hb; clear hb) | (refine wpList_store_row rfl 30 (.tmp 11) (.tmp 31) rfl wz.heap.size MV rfl rfl 30 #[.int .u64 0, .int .u64 0, .int .u64 0, .int .u64 0, .int .u64 0, .int .u64 0, .int .u64 0, .int .u64 0, .int .u64 0, .int .u64 0, .int .u64 0, .int .u64 0, .int .u64 0, .int .u64 0, .int .u64 0, .int .u64 0, .int .u64 0, .int .u64 0, .int .u64 0, .int .u64 0, .int .u64 0, .int .u64 0, .int .u64 0, .int .u64 0] (heap_alloc_new wz _) kM.out zM.out oM.out ?_; rw [World.setRow_alloc_new]; obtain ⟨wy, hwy⟩ : ∃ x, x = wz.alloc (.cells MV 30) := ⟨_, rfl⟩; rw [← hwy]; replace A0' := blk_al2 hwy A0'; replace A1' := blk_al2 hwy A1'; replace hP' := blk_al2 hwy hP'; replace q0 := blk_al2 hwy q0; have r0 := al_hd2 hwy; replace hz := bel_al2 hwy hz; obtain ⟨R, hP⟩ : ∃ P, P = wz.heap.size := ⟨_, rfl⟩; rw [← hP] at r0 ⊢; clear hP hwy; obtain ⟨wz, hwz⟩ : ∃ x, x = wy := ⟨_, rfl⟩; subst hwz))
      try simp only [Act.put]
      cases O with
      | false =>
        have hst : LL = (l.take (i + 1)).flatMap fun e => ptsE e.bx b k := by rw [HST.out, ptsE_no HO.out]; simp
        have HST2 := Lib.hid hst; clear hst
        go_wp2_with fail
        exact ⟨⟨i + 1, by simp, by omega, ⟨vP, LL, HST2, hP', own_bel hown hz⟩, bel_via' bw hz hsz1⟩, by simp [intOf]; omega⟩
      | true =>
        have hl7 : LL.length ≤ 1024 := by
          rw [HLL.out]
          have h1 := pts_flen b k (l.take i)
          have h2 : (l.take i).length ≤ i := by simp; omega
          omega
        have f0 : wz.cell? ⟨w.heap.size + 1, 0, none⟩ = some (.int .i64 k) := by simp [World.cell?, A1']
        have E0 := en_rng (b := x.bx) (b' := Q) (o := 0) (by rw [← HEX.out]; exact EB.out _ _ q0) k hk
        simp only [Nat.zero_add] at E0
        obtain ⟨s0, s1, s2, s3⟩ := E0
        go_upto_region 11 with fail
        obtain ⟨w5, hw5⟩ : ∃ w5, w5 = wz.alloc (.cells #[.int .u64 (x.bx k).fh, .int .u64 (x.bx k).fl, .int .u64 (x.bx k).th, .int .u64 (x.bx k).tl] 27) := ⟨_, rfl⟩
        have t5 : w5.heap[wz.heap.size]? = some (.cells #[.int .u64 (x.bx k).fh, .int .u64 (x.bx k).fl, .int .u64 (x.bx k).th, .int .u64 (x.bx k).tl] 27) := by rw [hw5]; exact heap_alloc_new wz _
        have b5 : Below wz.heap.size wz w5 := by rw [hw5]; exact Below.al (Below.refl _ _) _
        have hown4 := own_bel hown hz
        have hTP : wz.heap.size ≠ P := by have := blk_lt hP'; omega
        have hTv : vP.ownBlock ≠ some wz.heap.size := fun h => by have := (hown4.lt _ h).2; omega
        have hown5 := own_bel hown4 b5
        have hP5 := blkB b5 hP'
        have A05 := blkB b5 A0'
        have A15 := blkB b5 A1'
        have f5 := keepc b5 f0
        have bw5 : Below P w0 w5 := bel_via' (bel_via' bw hz hsz1) b5 (by have := blk_lt hP'; omega)
        have hT5 := blk_lt t5
        obtain ⟨T, hT⟩ : ∃ T, T = wz.heap.size := ⟨_, rfl⟩
        rw [← hw5]
        rw [← hT] at t5 hTP hTv hT5 ⊢
        clear s0 s1 s2 s3 hown4 f0 A0' A1' hP' q0 hown hz bw hw5 b5 hT
        have hB5 : BoxAt w5 w.heap.size b := BoxAt.of (t := 30) (by rw [← HC.out]; exact A05)
        have y1 := lay_any b k hk ⟨(x.bx k).th, (x.bx k).tl⟩ vP LL (by omega) w.heap.size (w.heap.size + 1) P hBP hFP w5 hB5 f5 hP5 hown5
        obtain ⟨g0, g1, g2, g3⟩ := cells4 t5
        go_upto_region 12 with (go_at_call 59; go_loud (with_reducible refine y1.mono ?_); rintro e wy ⟨v1, rfl, hP6, hown6, hb6, ho6⟩)
        have t6 := (ho6 T hT5 hTP hTv).trans t5
        have A06 := blkN hb6 hBP A05
        have A16 := blkN hb6 hFP A15
        have bw6 := bw5.trans hb6
        have hl1 : (LL ++ icL (b k) ⟨(x.bx k).th, (x.bx k).tl⟩).length ≤ 1025 := by have := icL_len (b k) ⟨(x.bx k).th, (x.bx k).tl⟩; rw [List.length_append]; omega
        have hpe := fun q (h : prevP (frP (x.bx k)) = q) => ptsE_is (b := b) HO.out h
        have hst := HST.out
        clear ho6 hb6 t5 A05 A15 bw5 y1 g0 g1 g2 g3 hT5 hTP hTv hB5 f5 hP5 hown5 cm
        obtain ⟨g0, g1, g2, g3⟩ := cells4 t6
        have hsz6 : P ≤ wy.heap.size := by have := blk_lt hP6; omega
        have p0 := fun W : World => prev_any (x.bx k).fh (x.bx k).fl (hwx k hk).1 (hwx k hk).2.1 W
        rw [show prevT (x.bx k).fh (x.bx k).fl = _ from prevT_eq (frP (x.bx k))] at p0
        cases hpv : prevP (frP (x.bx k)) with
        | none =>
          rw [hpv] at p0
          simp only at p0
          rw [hpe _ hpv] at hst
          have hst2 : LL ++ icL (b k) ⟨(x.bx k).th, (x.bx k).tl⟩ = (l.take (i + 1)).flatMap fun e => ptsE e.bx b k := by rw [hst]; simp [pvL]
          have HST2 := Lib.hid hst2
          clear hst hst2 hpe hpv
          go_wp2_with (first | (go_at_call 61; with_reducible refine (p0 _).mono ?_; rintro e wz ⟨rfl, hb⟩; replace hP6 := blkB hb hP6; replace hown6 := own_bel hown6 hb; replace A06 := blkB hb A06; replace A16 := blkB hb A16; replace bw6 := bel_via' bw6 hb hsz6; replace hsz6 : P ≤ wz.heap.size := (by have := blk_lt hP6; omega); clear hb))
          exact ⟨⟨i + 1, by simp, by omega, ⟨v1, _, HST2, blk_al hP6 _, own_bel hown6 (Below.al (Below.refl _ _) _)⟩, bel_via' bw6 (Below.al (Below.refl _ _) _) hsz6⟩, by simp [intOf]; omega⟩
        | some q =>
          rw [hpv] at p0
          simp only at p0
          rw [hpe _ hpv] at hst
          have hst2 : (LL ++ icL (b k) ⟨(x.bx k).th, (x.bx k).tl⟩) ++ icL (b k) q = (l.take (i + 1)).flatMap fun e => ptsE e.bx b k := by rw [hst]; simp [pvL]
          have HST2 := Lib.hid hst2
          clear hst hst2 hpe hpv
          go_upto_region 13 with (first | (go_at_call 61; with_reducible refine (p0 _).mono ?_; rintro e wz ⟨rfl, hb⟩; replace hP6 := blkB hb hP6; replace hown6 := own_bel hown6 hb; replace A06 := blkB hb A06; replace A16 := blkB hb A16; replace bw6 := bel_via' bw6 hb hsz6; replace hsz6 : P ≤ wz.heap.size := (by have := blk_lt hP6; omega); clear hb))
          obtain ⟨w8, hw8⟩ : ∃ w8, w8 = wz.alloc (.cells #[.int .u64 q.h, .int .u64 q.l] 25) := ⟨_, rfl⟩
          have d8 : w8.heap[wz.heap.size]? = some (.cells #[.int .u64 q.h, .int .u64 q.l] 25) := by rw [hw8]; exact heap_alloc_new wz _
          have b8 : Below wz.heap.size wz w8 := by rw [hw8]; exact Below.al (Below.refl _ _) _
          have hP8 := blkB b8 hP6
          have hown8 := own_bel hown6 b8
          have A08 := blkB b8 A06
          have A18 := blkB b8 A16
          have bw8 := bel_via' bw6 b8 hsz6
          rw [← hw8]
          clear hw8 b8 hP6 hown6 A06 A16 bw6
          have hB8 : BoxAt w8 w.heap.size b := BoxAt.of (t := 30) (by rw [← HC.out]; exact A08)
          have f8 : w8.cell? ⟨w.heap.size + 1, 0, none⟩ = some (.int .i64 k) := by simp [World.cell?, A18]
          have y2 := lay_any b k hk q v1 _ (by omega) w.heap.size (w.heap.size + 1) P hBP hFP w8 hB8 f8 hP8 hown8
          obtain ⟨d0, d1, _, _⟩ := cells2 d8
          go_wp2_with (go_at_call 59; go_loud (with_reducible refine y2.mono ?_); rintro e wy ⟨v2, rfl, hP9, hown9, hb9, -⟩)
          exact ⟨⟨i + 1, by simp, by omega, ⟨v2, _, HST2, hP9, hown9⟩, bw8.trans hb9⟩, by simp [intOf]; omega⟩
    · obtain rfl : i = n := by omega
      have hd0 : decide (i < i) = false := by simp
      have hdi : decide ((i : Int) < (i : Int)) = false := by simp
      have hLL : rptsL l b k = LL.foldl addP [] := by rw [HLL.out, ← HLEN.out, List.take_length]; rfl
      have hlen : LL.length ≤ 1024 := by
        rw [HLL.out]
        have h1 := pts_flen b k (l.take i)
        have h2 : (l.take i).length ≤ i := by simp; omega
        omega
      have bB : Below w.heap.size w wr := bz.trans (bw.mono (by omega))
      have hown0 := hown
      obtain ⟨h0, (⟨rfl, hn0⟩ | ⟨g, cap, cur, rfl, hg, -, hcap, -, -, -⟩)⟩ := hown
      · have e0 : LL = [] := List.eq_nil_of_length_eq_zero hn0
        have FIN : M (.returned (.slice none 0 0)) wr := by
          rw [HM.out, hLL, e0]
          exact ⟨none, 0, rfl, Nat.le_refl _, fun _ => rfl, ⟨rfl, by simp, fun h => absurd h (Nat.lt_irrefl _)⟩, bB⟩
        have FIN := Lib.hid FIN
        clear HLL hLL e0
        have v0 : wr.cell? ⟨P, 0, none⟩ = some (.slice none 0 0) := by simp [World.cell?, hP]
        go_wp2_with (first | (go_at_call 62; go_loud (with_reducible refine (sort_nil _ _ _ _).mono ?_); rintro e wy ⟨rfl, rfl⟩) | (go_at_call 64; go_loud (with_reducible refine (compact_nil _ _ _).mono ?_); rintro e wy ⟨rfl, rfl⟩))
        first | exact FIN.out | (simp [bodyPost, results, Try.results53, go_sem]; exact FIN.out) | (go_ret; exact FIN.out)
      · have c1 := sort_own (P + 1) (P + 1) g LL.length cap LL rfl hg (by omega) wr (by have := blk_lt hP; omega) hown0
        have hend : ∀ (wa wb : World) (d : Array P2), d.size = LL.length → compactUpTo d d.size = LL.foldl addP [] → Below (P + 1) wr wa → CompPost wa g cap d (.returned (.slice (some ⟨g, 0, none⟩) (compactUpTo d d.size).length cap)) wb → M (.returned (.slice (some ⟨g, 0, none⟩) (compactUpTo d d.size).length cap)) wb := by
          intro wa wb d hd hc hb hcp
          obtain ⟨-, hs, hbb⟩ := hcp
          rw [HM.out, hLL, ← hc]
          have hln : (compactUpTo d d.size).length ≤ cap := by
            rw [hc]; have := fold_len LL []; simp at this; omega
          exact ⟨some ⟨g, 0, none⟩, cap, rfl, hln, (fun h => by cases h), hs, (bB.trans (hb.mono (by omega))).trans (hbb.mono (by omega))⟩
        have HEND := Lib.hid hend
        clear hLL HLL hend h0
        have v0 : wr.cell? ⟨P, 0, none⟩ = some (.slice (some ⟨g, 0, none⟩) LL.length cap) := by simp [World.cell?, hP]
        go_upto_region 17 with (go_at_call 62; go_loud (with_reducible refine c1.mono ?_); rintro e wy ⟨rfl, d, hd, hcd, hH, hgl, hbs⟩)
        have hP7 := blkN hbs (by omega) hP
        have v7 : wy.cell? ⟨P, 0, none⟩ = some (.slice (some ⟨g, 0, none⟩) LL.length cap) := by simp [World.cell?, hP7]
        have c2 := compact_any g cap d (by omega) (by omega) wy hgl hH
        rw [hd] at c2
        go_wp2_with (go_at_call 64; go_loud (with_reducible refine c2.mono ?_); rintro e wz hcp; obtain rfl := hcp.1)
        have FIN := HEND.out _ _ d hd hcd hbs hcp
        rw [hd] at FIN
        have FIN := Lib.hid FIN
        first | exact FIN.out | (simp [bodyPost, results, Try.results53, go_sem]; exact FIN.out) | (go_ret; exact FIN.out)
end Go.Proofs.Ytomennaekjklbaa
