/- CutsBetween: the walk, no exchange; by-name template (gen_cbetw2.py). -/
import Derived.Test.YtceillkifchkdaaCBetwP
import Derived.Test.YtceillkifchkdaaCPts
import Derived.Test.YtceillkifchkdaaCRPts
namespace Go.Proofs.Ytceillkifchkdaa
open Go.RowKit Go.Lib Go.Sort
set_option linter.unusedVariables false
set_option linter.unusedSimpArgs false

set_option maxRecDepth 100000 in
set_option maxHeartbeats 8000000 in
theorem betw_a (A : Option Addr) (n c : Nat) (l : List EN) (b : Nat → R4) (k : Nat) (p q : P2) (hk : k < 6) (hn : n ≤ 512) (hw : ∀ e ∈ l, WB e.bx) (wb : WB b) (wp : Word p.h ∧ Word p.l) (wq : Word q.h ∧ Word q.l) (w : World) (hS : Sl w 25 enc25 A n l) (hsw : ltP q p = false) :
    Calls Try.prog 4 #[.slice A n c, .agg (bxc b), .int .i64 k, .agg #[.int .u64 p.h, .int .u64 p.l], .agg #[.int .u64 q.h, .int .u64 q.l]] w (LawPost w) := by
  obtain ⟨M, hM⟩ : ∃ M, M = LawPost w := ⟨_, rfl⟩
  rw [← hM]
  have HM := Lib.hid hM; clear hM
  have iC := inf29 b
  have c0 := fun W : World => lessP_any q p W
  have LP := fun (W : World) (h : Sl W 25 enc25 A n l) => pts_any A n c l b k hk hn hw W h
  have LR := fun (W : World) (h : Sl W 25 enc25 A n l) => rpts_any A n c l b k hk hn hw W h
  obtain ⟨C, hC⟩ : ∃ C, C = bxc b := ⟨_, rfl⟩
  rw [← hC] at iC
  simp only [← hC] at LP LR
  rw [← hC]
  have iC := Lib.hid iC
  have HC := Lib.hid hC; clear hC
  have hn9 : decide ((512 : Int) < (n : Int)) = false := by simp; omega
  have hk0 : decide ((k : Int) < 0) = false := by simp
  have hk6 : decide ((6 : Int) ≤ (k : Int)) = false := by simp; omega
  have kk0 : (0 : Int) ≤ (k : Int) := by omega
  have kk1 : (k : Int) < 6 := by omega
  obtain ⟨hA, hP, hQ, b0⟩ := bx3 w (.cells C 30) (.cells #[.int .u64 p.h, .int .u64 p.l] 25) (.cells #[.int .u64 q.h, .int .u64 q.l] 25)
  obtain ⟨w0, hw0⟩ : ∃ w0, w0 = World.alloc ((w.alloc (.cells C 30)).alloc (.cells #[.int .u64 p.h, .int .u64 p.l] 25)) (.cells #[.int .u64 q.h, .int .u64 q.l] 25) := ⟨_, rfl⟩
  rw [← hw0] at hA hP hQ b0
  have Hw0 := Lib.hid hw0; clear hw0
  have HS0 := Lib.hid hS
  have hS := hS.keep b0
  obtain ⟨p0, p1, _, _⟩ := cells2 hP
  obtain ⟨q0, q1, _, _⟩ := cells2 hQ
  rw [hsw] at c0
  have HSW := Lib.hid hsw; clear hsw
  go_enter Try.func4, Try.ntmps4
  go_wp2_with (with_reducible refine stop_op (o := ⟨some 29, _, _, _, _, _⟩) ?_)
  rw [← Hw0.out]
  clear Hw0
  refine Lib.hid ?_
  go_upto_region 7 with (go_at_call 15; with_reducible refine (c0 _).mono ?_; rintro e wz ⟨rfl, hb⟩; replace hA := blkB hb hA; replace hP := blkB hb hP; replace hQ := blkB hb hQ; replace hS := hS.keep hb; have bz := bel_via b0 hb; clear hb p0 p1 q0 q1 b0)
  have HB0 : Hid (ltP q p = false) := HSW
  obtain ⟨p0, p1, _, _⟩ := cells2 hP
  obtain ⟨q0, q1, _, _⟩ := cells2 hQ
  obtain ⟨y0, y1, y2, y3⟩ := BoxAt.of (w := wz) (b := b) (t := 30) (by rw [← HC.out]; exact hA) k hk
  have h1 := fun W : World => rhasP_any (b k) p W
  have h2 := fun W : World => rhasP_any (b k) q W
  obtain ⟨X, hX⟩ : ∃ X, X = inR (b k) p := ⟨_, rfl⟩
  obtain ⟨Y, hY⟩ : ∃ Y, Y = inR (b k) q := ⟨_, rfl⟩
  simp only [← hX] at h1
  simp only [← hY] at h2
  have HX := Lib.hid hX; clear hX
  have HY := Lib.hid hY; clear hY
  have FIN0 : ∀ W, Below w.heap.size w W → M (.returned (.bool true)) W := fun W h => by rw [HM.out]; exact ⟨rfl, h⟩
  have FIN := Lib.hid FIN0
  clear FIN0
  cases X with
  | false =>
    have k_p0 := cell_regrown p0
    have k_p1 := cell_regrown p1
    have k_y0 := cell_regrown y0
    have k_y1 := cell_regrown y1
    have k_y2 := cell_regrown y2
    have k_y3 := cell_regrown y3
    have r1 := fun d os => Calls.regrown_of (h1 (grow (redrawn wz d) os))
    clear p0 p1 y0 y1 y2 y3
    refine wp_region_quiet_below (by kernel_rfl) (by kernel_rfl) ?_
    repeat (first | go_big_quiet_skip | quiet_step (first | (go_at_call 16; with_reducible exact r1 _ _)))
    refine wpQuiet_nil ?_
    intro _ hw'
    obtain ⟨⟨dq, osq⟩, hw''⟩ := hw'
    subst hw''
    have hbq := below_regrown wz dq osq
    obtain ⟨w1, hwy⟩ : ∃ x, x = grow (redrawn wz dq) osq := ⟨_, rfl⟩
    rw [← hwy] at hbq ⊢
    clear hwy
    go_wp2_with fail
    first | exact FIN.out _ (bel_via bz hbq) | (go_ret; exact FIN.out _ (bel_via bz hbq))
  | true =>
    cases Y with
    | false =>
      have k_p0 := cell_regrown p0
      have k_p1 := cell_regrown p1
      have k_q0 := cell_regrown q0
      have k_q1 := cell_regrown q1
      have k_y0 := cell_regrown y0
      have k_y1 := cell_regrown y1
      have k_y2 := cell_regrown y2
      have k_y3 := cell_regrown y3
      have r1 := fun d os => Calls.regrown_of (h1 (grow (redrawn wz d) os))
      have r2 := fun d os => Calls.regrown_of (h2 (grow (redrawn wz d) os))
      clear p0 p1 q0 q1 y0 y1 y2 y3
      refine wp_region_quiet_below (by kernel_rfl) (by kernel_rfl) ?_
      repeat (first | go_big_quiet_skip | quiet_step (first | (go_at_call 16; with_reducible exact r1 _ _) | (go_at_call 16; with_reducible exact r2 _ _)))
      refine wpQuiet_nil ?_
      intro _ hw'
      obtain ⟨⟨dq, osq⟩, hw''⟩ := hw'
      subst hw''
      have hbq := below_regrown wz dq osq
      obtain ⟨w1, hwy⟩ : ∃ x, x = grow (redrawn wz dq) osq := ⟨_, rfl⟩
      rw [← hwy] at hbq ⊢
      clear hwy
      go_wp2_with fail
      first | exact FIN.out _ (bel_via bz hbq) | (go_ret; exact FIN.out _ (bel_via bz hbq))
    | true =>
      have k_p0 := cell_regrown p0
      have k_p1 := cell_regrown p1
      have k_q0 := cell_regrown q0
      have k_q1 := cell_regrown q1
      have k_y0 := cell_regrown y0
      have k_y1 := cell_regrown y1
      have k_y2 := cell_regrown y2
      have k_y3 := cell_regrown y3
      have r1 := fun d os => Calls.regrown_of (h1 (grow (redrawn wz d) os))
      have r2 := fun d os => Calls.regrown_of (h2 (grow (redrawn wz d) os))
      clear p0 p1 q0 q1 y0 y1 y2 y3
      refine wp_region_quiet_below (by kernel_rfl) (by kernel_rfl) ?_
      repeat (first | go_big_quiet_skip | quiet_step (first | (go_at_call 16; with_reducible exact r1 _ _) | (go_at_call 16; with_reducible exact r2 _ _)))
      refine wpQuiet_nil ?_
      intro _ hw'
      obtain ⟨⟨dq, osq⟩, hw''⟩ := hw'
      subst hw''
      have hbq := below_regrown wz dq osq
      obtain ⟨w1, hwy⟩ : ∃ x, x = grow (redrawn wz dq) osq := ⟨_, rfl⟩
      rw [← hwy] at hbq ⊢
      clear hwy
      replace hA := blkB hbq hA
      replace hP := blkB hbq hP
      replace hQ := blkB hbq hQ
      replace hS := hS.keep hbq
      replace bz := bel_via bz hbq
      clear hbq r1 r2 k_p0 k_p1 k_q0 k_q1 k_y0 k_y1 k_y2 k_y3
      obtain ⟨wz, hwz⟩ : ∃ x, x = w1 := ⟨_, rfl⟩
      subst hwz
      obtain ⟨LL, hLL⟩ : ∃ LL, LL = rptsL l b k := ⟨_, rfl⟩
      simp only [← hLL] at LP LR
      have HLL := Lib.hid hLL; clear hLL
      have hlen : LL.length ≤ 1024 := by rw [HLL.out]; have h := rpts_len l b k l.length (Nat.le_refl _); rw [List.take_length] at h; have := hS.len; omega
      go_wp2_with (first | (refine wpList_load_row rfl 30 (.tmp 6) rfl w.heap.size rfl 30 C (0, 0) _ hA Try.underlying30 rfl iC.out ?_) | (refine wpList_load_row_on (by rfl) 30 (.tmp 6) rfl w.heap.size rfl 30 C (0, 0) _ hA Try.underlying30 rfl iC.out ?_) | (go_at_call 13; go_loud (with_reducible refine (LP _ hS).mono ?_); rintro e wy ⟨AT, cT, rfl, hcT, hnT, hST, hb⟩; replace hA := blkB hb hA; replace hP := blkB hb hP; replace hQ := blkB hb hQ; replace hS := hS.keep hb; replace bz := bel_via bz hb; clear hb; obtain ⟨wz, hwz⟩ : ∃ x, x = wy := ⟨_, rfl⟩; subst hwz) | (go_at_call 14; go_loud (with_reducible refine (LR _ hS).mono ?_); rintro e wy ⟨AU, cU, rfl, hcU, hnU, hSU, hb⟩; replace hA := blkB hb hA; replace hP := blkB hb hP; replace hQ := blkB hb hQ; replace hS := hS.keep hb; replace bz := bel_via bz hb; replace hST := hST.keep hb; clear hb hSU hcU hnU; obtain ⟨wz, hwz⟩ : ∃ x, x = wy := ⟨_, rfl⟩; subst hwz))
      obtain ⟨w1, hw1⟩ : ∃ x, x = wz := ⟨_, rfl⟩
      rw [← hw1] at hA hP hQ hS bz hST ⊢
      clear hw1 hcT hnT
      go_loopw [13] (fun v13 wr => ∃ i : Nat, v13 = .int .i64 i ∧ i ≤ LL.length ∧ Hid (∀ j x, j < i → LL[j]? = some x → (decide (cmpA (p).h (p).l x.h x.l ≤ 0) && ltP x (q)) = false) ∧ Below w1.heap.size w1 wr) (fun v13 _ => LL.length - (intOf v13).toNat)
      case atStart => exact ⟨0, rfl, by omega, Lib.hid (fun j x h => absurd h (Nat.not_lt_zero _)), Below.refl _ _⟩
      case round =>
        obtain ⟨i, rfl, hi, HALL, bw⟩ := hrel
        by_cases hlt : i < LL.length
        · obtain ⟨x, hx⟩ : ∃ x, LL[i]? = some x := ⟨_, List.getElem?_eq_getElem hlt⟩
          obtain ⟨b', off, hAT, hbl, hrow⟩ := hST.row (by omega)
          have e0 := keepc bw (hrow i x hx 0 _ rfl)
          have e1 := keepc bw (hrow i x hx 1 _ rfl)
          simp only [Nat.add_zero] at e0
          subst hAT
          have hP1 := blkB bw hP
          have hQ1 := blkB bw hQ
          obtain ⟨p0, p1, _, _⟩ := cells2 hP1
          obtain ⟨q0, q1, _, _⟩ := cells2 hQ1
          have t1 := fun W : World => ratP_any (p) x W
          have t2 := fun W : World => lessP_any x (q) W
          obtain ⟨G1, hG1⟩ : ∃ X, X = decide (cmpA (p).h (p).l x.h x.l ≤ 0) := ⟨_, rfl⟩
          obtain ⟨G2, hG2⟩ : ∃ X, X = ltP x (q) := ⟨_, rfl⟩
          have hno : (decide (cmpA (p).h (p).l x.h x.l ≤ 0) && ltP x (q)) = (G1 && G2) := by rw [hG1, hG2]
          simp only [← hG1] at t1
          simp only [← hG2] at t2
          have HNO := Lib.hid hno
          have HX9 := Lib.hid hx
          have hlti : (i : Int) < (LL.length : Int) := by omega
          have hdn : decide (i < LL.length) = true := by simp [hlt]
          clear hno hG1 hG2 hrow hx
          have NXT : (G1 && G2) = false → Hid (∀ j x, j < i + 1 → LL[j]? = some x → (decide (cmpA (p).h (p).l x.h x.l ≤ 0) && ltP x (q)) = false) := fun hg => Lib.hid fun j y hj hy => by
            by_cases e : j = i
            · subst e
              have := HX9.out
              rw [hy] at this
              cases this
              rw [HNO.out]; exact hg
            · exact HALL.out j y (by omega) hy
          have NXT := Lib.hid NXT
          obtain ⟨w4, hw4⟩ : ∃ x, x = wr := ⟨_, rfl⟩
          subst hw4
          cases G1 with
          | false =>
            go_wp2_with fail
            have k_e0 := cell_regrown e0
            have k_e1 := cell_regrown e1
            have k_p0 := cell_regrown p0
            have k_p1 := cell_regrown p1
            have r1 := fun d os => Calls.regrown_of (t1 (grow (redrawn w4 d) os))
            clear e0 e1 p0 p1
            refine wp_region_quiet_below (by kernel_rfl) (by kernel_rfl) ?_
            repeat (first | go_big_quiet_skip | quiet_step (first | (go_at_call 17; with_reducible exact r1 _ _)))
            refine wpQuiet_nil ?_
            intro _ hw'
            obtain ⟨⟨dq, osq⟩, hw''⟩ := hw'
            subst hw''
            have hbq := below_regrown w4 dq osq
            obtain ⟨w5, hwy⟩ : ∃ x, x = grow (redrawn w4 dq) osq := ⟨_, rfl⟩
            rw [← hwy] at hbq ⊢
            clear hwy
            go_wp2_with fail
            exact ⟨⟨i + 1, by simp, by omega, NXT.out rfl, bel_via bw hbq⟩, by simp [intOf]; omega⟩
          | true =>
            cases G2 with
            | false =>
              go_wp2_with fail
              have k_e0 := cell_regrown e0
              have k_e1 := cell_regrown e1
              have k_p0 := cell_regrown p0
              have k_p1 := cell_regrown p1
              have k_q0 := cell_regrown q0
              have k_q1 := cell_regrown q1
              have r1 := fun d os => Calls.regrown_of (t1 (grow (redrawn w4 d) os))
              have r2 := fun d os => Calls.regrown_of (t2 (grow (redrawn w4 d) os))
              clear e0 e1 p0 p1 q0 q1
              refine wp_region_quiet_below (by kernel_rfl) (by kernel_rfl) ?_
              repeat (first | go_big_quiet_skip | quiet_step (first | (go_at_call 17; with_reducible exact r1 _ _) | (go_at_call 15; with_reducible exact r2 _ _)))
              refine wpQuiet_nil ?_
              intro _ hw'
              obtain ⟨⟨dq, osq⟩, hw''⟩ := hw'
              subst hw''
              have hbq := below_regrown w4 dq osq
              obtain ⟨w5, hwy⟩ : ∃ x, x = grow (redrawn w4 dq) osq := ⟨_, rfl⟩
              rw [← hwy] at hbq ⊢
              clear hwy
              go_wp2_with fail
              exact ⟨⟨i + 1, by simp, by omega, NXT.out rfl, bel_via bw hbq⟩, by simp [intOf]; omega⟩
            | true =>
              go_wp2_with fail
              have k_e0 := cell_regrown e0
              have k_e1 := cell_regrown e1
              have k_p0 := cell_regrown p0
              have k_p1 := cell_regrown p1
              have k_q0 := cell_regrown q0
              have k_q1 := cell_regrown q1
              have r1 := fun d os => Calls.regrown_of (t1 (grow (redrawn w4 d) os))
              have r2 := fun d os => Calls.regrown_of (t2 (grow (redrawn w4 d) os))
              clear e0 e1 p0 p1 q0 q1
              refine wp_region_quiet_below (by kernel_rfl) (by kernel_rfl) ?_
              repeat (first | go_big_quiet_skip | quiet_step (first | (go_at_call 17; with_reducible exact r1 _ _) | (go_at_call 15; with_reducible exact r2 _ _)))
              refine wpQuiet_nil ?_
              intro _ hw'
              obtain ⟨⟨dq, osq⟩, hw''⟩ := hw'
              subst hw''
              have hbq := below_regrown w4 dq osq
              obtain ⟨w5, hwy⟩ : ∃ x, x = grow (redrawn w4 dq) osq := ⟨_, rfl⟩
              rw [← hwy] at hbq ⊢
              clear hwy
              go_wp2_with fail
              first | exact FIN.out _ (bel_via bz (bel_via bw hbq)) | (go_ret; exact FIN.out _ (bel_via bz (bel_via bw hbq)))
        · obtain rfl : i = LL.length := by omega
          have hd0 : decide (LL.length < LL.length) = false := by simp
          have hdi : decide ((LL.length : Int) < (LL.length : Int)) = false := by simp
          have hall : ∀ x ∈ rptsL l b k, (decide (cmpA (p).h (p).l x.h x.l ≤ 0) && ltP x (q)) = false := by
            rw [← HLL.out]
            intro x hx
            obtain ⟨j, hj, hjx⟩ := List.getElem_of_mem hx
            exact HALL.out j x hj (by rw [List.getElem?_eq_getElem hj, hjx])
          have HBT := Lib.hid (between hk hw (p) (q) wp HB0.out HX.out.symm HY.out.symm hall)
          clear hall HALL
          replace hA := blkB bw hA
          replace hP := blkB bw hP
          replace hQ := blkB bw hQ
          replace hS := hS.keep bw
          replace bz := bel_via bz bw
          clear hST bw
          obtain ⟨w2, hw2⟩ : ∃ x, x = wr := ⟨_, rfl⟩
          rw [← hw2] at hA hP hQ hS bz ⊢
          clear hw2
          go_wp2_with fail
          go_loopw [14] (fun v14 wr => ∃ i : Nat, v14 = .int .i64 i ∧ i ≤ n ∧ Below w2.heap.size w2 wr) (fun v14 _ => n - (intOf v14).toNat)
          case atStart => exact ⟨0, rfl, by omega, Below.refl _ _⟩
          case round =>
            obtain ⟨i, rfl, hi, bw⟩ := hrel
            by_cases hlt : i < n
            · have hml : i < l.length := by rw [hS.len]; exact hlt
              obtain ⟨x, hx⟩ : ∃ x, l[i]? = some x := ⟨_, List.getElem?_eq_getElem hml⟩
              obtain ⟨b', off, hAA, hbl, hrow⟩ := hS.row (by omega)
              have hcell := en_cells hrow hx
              have hbt := HBT.out x (List.mem_of_getElem? hx)
              have hlti : (i : Int) < (n : Int) := by omega
              have hdn : decide (i < n) = true := by simp [hlt]
              clear hx hrow
              have iE := inf29 x.bx
              have cm := fun W : World => rmeetBox_any x.bx b W
              have kM := inf29 (mbV x.bx b)
              have oM := bx_one (mbV x.bx b)
              have zM : (#[.int .u64 0, .int .u64 0, .int .u64 0, .int .u64 0, .int .u64 0, .int .u64 0, .int .u64 0, .int .u64 0, .int .u64 0, .int .u64 0, .int .u64 0, .int .u64 0, .int .u64 0, .int .u64 0, .int .u64 0, .int .u64 0, .int .u64 0, .int .u64 0, .int .u64 0, .int .u64 0, .int .u64 0, .int .u64 0, .int .u64 0, .int .u64 0] : Array Value).size = (bxc (mbV x.bx b)).size := rfl
              have g1 := fun W : World => rhasP_any (x.bx k) (p) W
              have g2 := fun W : World => rhasP_any (x.bx k) (q) W
              generalize bxc (mbV x.bx b) = MV at *
              obtain ⟨EB, hEB⟩ : ∃ EB, EB = bxc x.bx := ⟨_, rfl⟩
              rw [← hEB] at iE hcell
              simp only [← hEB, ← HC.out] at cm
              have HEB := Lib.hid hEB; clear hEB
              have iE := Lib.hid iE
              have kM := Lib.hid kM
              have oM := Lib.hid oM
              have zM := Lib.hid zM
              obtain ⟨O, hO⟩ : ∃ O, O = mbO x.bx b := ⟨_, rfl⟩
              simp only [← hO] at cm hbt
              clear hO
              obtain ⟨Z1, hZ1⟩ : ∃ Z, Z = inR (x.bx k) (p) := ⟨_, rfl⟩
              obtain ⟨Z2, hZ2⟩ : ∃ Z, Z = inR (x.bx k) (q) := ⟨_, rfl⟩
              rw [← hZ1, ← hZ2] at hbt
              simp only [← hZ1] at g1
              simp only [← hZ2] at g2
              have HBX := Lib.hid hbt
              clear hZ1 hZ2 hbt
              have e0 : ∀ j v, EB.toList[j]? = some v → wr.cell? ((⟨b', off + i * 25, none⟩ : Addr).add j) = some v := fun j v hj => keepc bw (hcell j v hj)
              have e1 := blkB bw hA
              have e2 := blkB bw hP
              have e3 := blkB bw hQ
              subst hAA
              clear hcell
              have e0 := Lib.hid e0
              go_wp2_with fail
              obtain ⟨w4, hw4⟩ : ∃ w4, w4 = wr := ⟨_, rfl⟩
              subst hw4
              have hC1 : ∀ w', Below w4.heap.size w4 w' → ((∀ j v, EB.toList[j]? = some v → w'.cell? ((⟨b', off + i * 25, none⟩ : Addr).add j) = some v) ∧ w'.heap[w.heap.size]? = some (.cells C 30)) := fun w' h => ⟨fun j v hj => keepc h (e0.out j v hj), blkB h e1⟩
              have HC1 := Lib.hid hC1; clear hC1
              go_cut [16] from 83 to 116 (fun v16 wx => v16 = .bool O ∧ Below w4.heap.size w4 wx)
              case first =>
                have hC1 := HC1.out
                have hz : ∀ w, (zeroValue 30).run Try.prog w = .ok (.agg #[.int .u64 0, .int .u64 0, .int .u64 0, .int .u64 0, .int .u64 0, .int .u64 0, .int .u64 0, .int .u64 0, .int .u64 0, .int .u64 0, .int .u64 0, .int .u64 0, .int .u64 0, .int .u64 0, .int .u64 0, .int .u64 0, .int .u64 0, .int .u64 0, .int .u64 0, .int .u64 0, .int .u64 0, .int .u64 0, .int .u64 0, .int .u64 0]) w := fun w => by kernel_rfl
                clear HC1 e0 e1 e2 e3 g1 g2 HBX HBT hA hP hQ bz bw LP LR c0 HX HY h1 h2 HLL hlen HB0 HSW HM FIN HEB hml wb wp wq hw
                refine wp_region_held (S := fun w' => Below w4.heap.size w4 w' ∧ ((∀ j v, EB.toList[j]? = some v → w'.cell? ((⟨b', off + i * 25, none⟩ : Addr).add j) = some v) ∧ w'.heap[w.heap.size]? = some (.cells C 30))) (by kernel_rfl) ?_
                change wpAnyH _ _ _ _ _ _ _ _ (World.drew _)
                have hS0 := keep0 hC1
                generalize w4.drew = wd at hS0 ⊢
                refine wpAnyH_take (i := 0) (oi := ⟨some 90, _, _, _, _, _⟩) (v := ?_) rfl (by kernel_rfl) (by kernel_rfl) (by kernel_rfl) (fun _ _ _ h => h) (Or.inl ⟨by rfl, ?_⟩) hS0 ?_
                rotate_left 1
                · intro W hW
                  go_simp
                  with_reducible rfl
                refine wpAnyH_take (i := 1) (oi := ⟨some 91, _, _, _, _, _⟩) (v := ?_) rfl (by kernel_rfl) (by kernel_rfl) (by kernel_rfl) (fun _ _ _ h => h) (Or.inl ⟨by rfl, ?_⟩) hS0 ?_
                rotate_left 1
                · intro W hW
                  go_simp
                  with_reducible rfl
                refine wpAnyH_take (i := 2) (oi := ⟨some 92, _, _, _, _, _⟩) (v := ?_) rfl (by kernel_rfl) (by kernel_rfl) (by kernel_rfl) (fun _ _ _ h => h) (Or.inl ⟨by rfl, ?_⟩) hS0 ?_
                rotate_left 1
                · intro W hW
                  go_simp
                  with_reducible rfl
                refine wpAnyH_take (i := 3) (oi := ⟨some 93, _, _, _, _, _⟩) (v := ?_) rfl (by kernel_rfl) (by kernel_rfl) (by kernel_rfl) (fun _ _ _ h => h) (Or.inl ⟨by rfl, ?_⟩) hS0 ?_
                rotate_left 1
                · intro W hW
                  go_simp
                  with_reducible rfl
                refine wpAnyH_take (i := 4) (oi := ⟨some 94, _, _, _, _, _⟩) (v := .agg EB) rfl (by kernel_rfl) (by kernel_rfl) (by kernel_rfl) (fun _ _ _ h => h) (Or.inl ⟨by rfl, fun W hW => exec_cells 30 (.tmp 93) rfl ⟨b', off + i * 25, none⟩ rfl EB _ hW.2.1 Try.underlying30 rfl iE.out⟩) hS0 ?_
                refine wpAnyH_take (i := 5) (oi := ⟨some 95, _, _, _, _, _⟩) (v := .agg C) rfl (by kernel_rfl) (by kernel_rfl) (by kernel_rfl) (fun _ _ _ h => h) (Or.inl ⟨by rfl, fun W hW => exec_row 30 (.tmp 6) rfl w.heap.size rfl 30 C (0, 0) _ hW.2.2 Try.underlying30 rfl iC.out⟩) hS0 ?_
                simp only [Act.put, List.setIfInBounds_toArray, List.set_cons_succ, List.set_cons_zero]
                refine wpAnyH_ready (rs := [6, 10]) (by kernel_rfl) (by simp) ?_
                refine AllReadyH.cons (o := ⟨some 96, _, _, _, _, _⟩) rfl (fun K hK => ?_) (AllReadyH.cons (o := ⟨some 15, _, _, _, _, _⟩) rfl (fun K hK => ?_) AllReadyH.nil)
                · go_simp
                  go_at_call 18
                  refine (cm _).mono ?_
                  rintro e w20 ⟨rfl, hb20⟩
                  have hS20 := keepB hC1 hb20 hS0
                  refine hK.out _ _ hS20 (fun _ => ?_)
                  clear hK K
                  refine wpAnyH_take (i := 7) (oi := ⟨some 89, _, _, _, _, _⟩) (v := ?_) rfl (by kernel_rfl) (by kernel_rfl) (by kernel_rfl) (fun _ _ _ h => h) (Or.inl ⟨by rfl, ?_⟩) hS20 ?_
                  rotate_left 1
                  · intro W hW
                    go_simp
                    with_reducible rfl
                  refine wpAnyH_take (i := 8) (oi := ⟨some 97, _, _, _, _, _⟩) (v := ?_) rfl (by kernel_rfl) (by kernel_rfl) (by kernel_rfl) (fun _ _ _ h => h) (Or.inl ⟨by rfl, ?_⟩) hS20 ?_
                  rotate_left 1
                  · intro W hW
                    go_simp
                    with_reducible rfl
                  refine wpAnyH_take (i := 9) (oi := ⟨some 98, _, _, _, _, _⟩) (v := ?_) rfl (by kernel_rfl) (by kernel_rfl) (by kernel_rfl) (fun _ _ _ h => h) (Or.inl ⟨by rfl, ?_⟩) hS20 ?_
                  rotate_left 1
                  · intro W hW
                    go_simp
                    with_reducible rfl
                  simp only [Act.put, List.setIfInBounds_toArray, List.set_cons_succ, List.set_cons_zero]
                  refine wpAnyH_ready (rs := [10]) (by kernel_rfl) (by simp) ?_
                  refine AllReadyH.cons (o := ⟨some 15, _, _, _, _, _⟩) rfl (fun K hK => ?_) AllReadyH.nil
                  refine step_alloc rfl 30 rfl #[.int .u64 0, .int .u64 0, .int .u64 0, .int .u64 0, .int .u64 0, .int .u64 0, .int .u64 0, .int .u64 0, .int .u64 0, .int .u64 0, .int .u64 0, .int .u64 0, .int .u64 0, .int .u64 0, .int .u64 0, .int .u64 0, .int .u64 0, .int .u64 0, .int .u64 0, .int .u64 0, .int .u64 0, .int .u64 0, .int .u64 0, .int .u64 0] hz (fun w21 B hV hb21 hg21 => ?_)
                  have hS21 := keepB hC1 hb21 hS20
                  have hBs : w4.heap.size ≤ B := Nat.le_trans hS20.1.size hg21
                  refine hK.out _ _ hS21 (fun _ => ?_)
                  clear hK K
                  simp only [Act.put, List.setIfInBounds_toArray, List.set_cons_succ, List.set_cons_zero]
                  refine wpAnyH_ready (rs := [11]) (by kernel_rfl) (by simp) ?_
                  refine AllReadyH.cons (o := ⟨none, _, _, _, _, _⟩) rfl (fun K hK => ?_) AllReadyH.nil
                  refine step_store_row rfl 30 (.tmp 15) (.tmp 97) rfl B MV rfl rfl 30 #[.int .u64 0, .int .u64 0, .int .u64 0, .int .u64 0, .int .u64 0, .int .u64 0, .int .u64 0, .int .u64 0, .int .u64 0, .int .u64 0, .int .u64 0, .int .u64 0, .int .u64 0, .int .u64 0, .int .u64 0, .int .u64 0, .int .u64 0, .int .u64 0, .int .u64 0, .int .u64 0, .int .u64 0, .int .u64 0, .int .u64 0, .int .u64 0] hV kM.out zM.out oM.out ?_
                  have hSz := keepS hC1 (Below.setRow hS21.1 hBs MV)
                  refine hK.out _ _ hSz (fun _ => ?_)
                  clear hK K
                  refine wpAnyH_take (i := 12) (oi := ⟨some 16, _, _, _, _, _⟩) (v := ?_) rfl (by kernel_rfl) (by kernel_rfl) (by kernel_rfl) (fun _ _ _ h => h) (Or.inl ⟨by rfl, ?_⟩) hSz ?_
                  rotate_left 1
                  · intro W hW
                    go_simp
                    with_reducible rfl
                  refine wpAnyH_done (by kernel_rfl) ?_ _
                  simp only [Act.put, List.setIfInBounds_toArray, List.set_cons_succ, List.set_cons_zero]
                  go_wp2_with fail
                  go_meet
                  exact ⟨rfl, Below.setRow hS21.1 hBs _⟩
                · refine step_alloc rfl 30 rfl #[.int .u64 0, .int .u64 0, .int .u64 0, .int .u64 0, .int .u64 0, .int .u64 0, .int .u64 0, .int .u64 0, .int .u64 0, .int .u64 0, .int .u64 0, .int .u64 0, .int .u64 0, .int .u64 0, .int .u64 0, .int .u64 0, .int .u64 0, .int .u64 0, .int .u64 0, .int .u64 0, .int .u64 0, .int .u64 0, .int .u64 0, .int .u64 0] hz (fun w20 B hV hb20 hg20 => ?_)
                  have hS20 := keepB hC1 hb20 hS0
                  have hBs : w4.heap.size ≤ B := Nat.le_trans hS0.1.size hg20
                  refine hK.out _ _ hS20 (fun _ => ?_)
                  clear hK K
                  simp only [Act.put, List.setIfInBounds_toArray, List.set_cons_succ, List.set_cons_zero]
                  refine wpAnyH_ready (rs := [6]) (by kernel_rfl) (by simp) ?_
                  refine AllReadyH.cons (o := ⟨some 96, _, _, _, _, _⟩) rfl (fun K hK => ?_) AllReadyH.nil
                  go_simp
                  go_at_call 18
                  refine (cm _).mono ?_
                  rintro e w21 ⟨rfl, hb21⟩
                  have hS21 := keepB hC1 hb21 hS20
                  have hV := hV_keep hb21 hV
                  refine hK.out _ _ hS21 (fun _ => ?_)
                  clear hK K
                  refine wpAnyH_take (i := 7) (oi := ⟨some 89, _, _, _, _, _⟩) (v := ?_) rfl (by kernel_rfl) (by kernel_rfl) (by kernel_rfl) (fun _ _ _ h => h) (Or.inl ⟨by rfl, ?_⟩) hS21 ?_
                  rotate_left 1
                  · intro W hW
                    go_simp
                    with_reducible rfl
                  refine wpAnyH_take (i := 8) (oi := ⟨some 97, _, _, _, _, _⟩) (v := ?_) rfl (by kernel_rfl) (by kernel_rfl) (by kernel_rfl) (fun _ _ _ h => h) (Or.inl ⟨by rfl, ?_⟩) hS21 ?_
                  rotate_left 1
                  · intro W hW
                    go_simp
                    with_reducible rfl
                  refine wpAnyH_take (i := 9) (oi := ⟨some 98, _, _, _, _, _⟩) (v := ?_) rfl (by kernel_rfl) (by kernel_rfl) (by kernel_rfl) (fun _ _ _ h => h) (Or.inl ⟨by rfl, ?_⟩) hS21 ?_
                  rotate_left 1
                  · intro W hW
                    go_simp
                    with_reducible rfl
                  simp only [Act.put, List.setIfInBounds_toArray, List.set_cons_succ, List.set_cons_zero]
                  refine wpAnyH_ready (rs := [11]) (by kernel_rfl) (by simp) ?_
                  refine AllReadyH.cons (o := ⟨none, _, _, _, _, _⟩) rfl (fun K hK => ?_) AllReadyH.nil
                  refine step_store_row rfl 30 (.tmp 15) (.tmp 97) rfl B MV rfl rfl 30 #[.int .u64 0, .int .u64 0, .int .u64 0, .int .u64 0, .int .u64 0, .int .u64 0, .int .u64 0, .int .u64 0, .int .u64 0, .int .u64 0, .int .u64 0, .int .u64 0, .int .u64 0, .int .u64 0, .int .u64 0, .int .u64 0, .int .u64 0, .int .u64 0, .int .u64 0, .int .u64 0, .int .u64 0, .int .u64 0, .int .u64 0, .int .u64 0] hV kM.out zM.out oM.out ?_
                  have hSz := keepS hC1 (Below.setRow hS21.1 hBs MV)
                  refine hK.out _ _ hSz (fun _ => ?_)
                  clear hK K
                  refine wpAnyH_take (i := 12) (oi := ⟨some 16, _, _, _, _, _⟩) (v := ?_) rfl (by kernel_rfl) (by kernel_rfl) (by kernel_rfl) (fun _ _ _ h => h) (Or.inl ⟨by rfl, ?_⟩) hSz ?_
                  rotate_left 1
                  · intro W hW
                    go_simp
                    with_reducible rfl
                  refine wpAnyH_done (by kernel_rfl) ?_ _
                  simp only [Act.put, List.setIfInBounds_toArray, List.set_cons_succ, List.set_cons_zero]
                  go_wp2_with fail
                  go_meet
                  exact ⟨rfl, Below.setRow hS21.1 hBs _⟩
              case rest =>
                obtain ⟨rfl, hbx⟩ := hcut
                replace e2 := blkB hbx e2
                replace e3 := blkB hbx e3
                have bw := bel_via bw hbx
                obtain ⟨s0, s1, s2, s3⟩ := en_rng (b := x.bx) (by rw [← HEB.out]; exact fun j v hj => keepc hbx (e0.out j v hj)) k hk
                clear HC1 e1 cm
                go_upto_region 22 with fail
                obtain ⟨w5, hw5⟩ : ∃ w5, w5 = wc.alloc (.cells #[.int .u64 (x.bx k).fh, .int .u64 (x.bx k).fl, .int .u64 (x.bx k).th, .int .u64 (x.bx k).tl] 27) := ⟨_, rfl⟩
                have x17 : w5.heap[wc.heap.size]? = some (.cells #[.int .u64 (x.bx k).fh, .int .u64 (x.bx k).fl, .int .u64 (x.bx k).th, .int .u64 (x.bx k).tl] 27) := by rw [hw5]; exact heap_alloc_new wc _
                replace e2 := blk_al2 hw5 e2
                replace e3 := blk_al2 hw5 e3
                replace bw := bel_al2 hw5 bw
                obtain ⟨U, hU⟩ : ∃ U, U = wc.heap.size := ⟨_, rfl⟩
                rw [← hw5]
                rw [← hU] at x17 ⊢
                clear hw5 hU s0 s1 s2 s3 hbx
                cases O with
                | false =>
                  refine wp_region_quiet_below (by kernel_rfl) (by kernel_rfl) ?_
                  repeat (first | go_big_quiet_skip | quiet_step (fail))
                  refine wpQuiet_nil ?_
                  intro _ hw'
                  obtain ⟨⟨dq, osq⟩, hw''⟩ := hw'
                  subst hw''
                  have hbq := below_regrown w5 dq osq
                  obtain ⟨w6, hwy⟩ : ∃ x, x = grow (redrawn w5 dq) osq := ⟨_, rfl⟩
                  rw [← hwy] at hbq ⊢
                  clear hwy
                  go_wp2_with fail
                  exact ⟨⟨i + 1, by simp, by omega, bel_via bw hbq⟩, by simp [intOf]; omega⟩
                | true =>
                  obtain rfl := HBX.out rfl
                  obtain ⟨p0, p1, _, _⟩ := cells2 e2
                  obtain ⟨q0, q1, _, _⟩ := cells2 e3
                  obtain ⟨u0, u1, u2, u3⟩ := cells4 x17
                  have hne : (Z1 != Z1) = false := by cases Z1 <;> rfl
                  have k_p0 := cell_regrown p0
                  have k_p1 := cell_regrown p1
                  have k_q0 := cell_regrown q0
                  have k_q1 := cell_regrown q1
                  have k_u0 := cell_regrown u0
                  have k_u1 := cell_regrown u1
                  have k_u2 := cell_regrown u2
                  have k_u3 := cell_regrown u3
                  have r1 := fun d os => Calls.regrown_of (g1 (grow (redrawn w5 d) os))
                  have r2 := fun d os => Calls.regrown_of (g2 (grow (redrawn w5 d) os))
                  clear p0 p1 q0 q1 u0 u1 u2 u3
                  refine wp_region_quiet_below (by kernel_rfl) (by kernel_rfl) ?_
                  repeat (first | go_big_quiet_skip | quiet_step (first | (go_at_call 16; with_reducible exact r1 _ _) | (go_at_call 16; with_reducible exact r2 _ _)))
                  refine wpQuiet_nil ?_
                  intro _ hw'
                  obtain ⟨⟨dq, osq⟩, hw''⟩ := hw'
                  subst hw''
                  have hbq := below_regrown w5 dq osq
                  obtain ⟨w6, hwy⟩ : ∃ x, x = grow (redrawn w5 dq) osq := ⟨_, rfl⟩
                  rw [← hwy] at hbq ⊢
                  clear hwy
                  go_wp2_with fail
                  exact ⟨⟨i + 1, by simp, by omega, bel_via bw hbq⟩, by simp [intOf]; omega⟩
            · obtain rfl : i = n := by omega
              have hd0 : decide (i < i) = false := by simp
              have hdi : decide ((i : Int) < (i : Int)) = false := by simp
              go_wp2_with fail
              first | exact FIN.out _ (bel_via bz bw) | (go_ret; exact FIN.out _ (bel_via bz bw))

end Go.Proofs.Ytceillkifchkdaa
