/- The program's left: what is left of a node's entries; by-name template (gen_kleft2.py). -/
import Derived.Test.YtomennaekjklbaaKClo
namespace Go.Proofs.Ytomennaekjklbaa
open Go.RowKit Go.Lib Go.Sort
set_option linter.unusedVariables false
set_option linter.unusedSimpArgs false

theorem wpList_bs1' {ops : Array Oper} {rest : List Oper} {o : Oper} {a : Act} {w : World} {Q : Exit → Act → World → Prop} (hgd : o.guard = none) (x : Operand) (e : EN) (EA : Array Value) (hE : EA = enA e) (ho : o.op = .buildSlice 22 1 #[(0, x)]) (hx : a.eval x = .agg EA)
    (h : wpList Try.prog ops Q rest (a.put o.dst (.slice (some ⟨w.heap.size, 0, none⟩) 1 1)) (w.alloc (.cells EA 32))) : wpList Try.prog ops Q (o :: rest) a w := by
  subst hE; exact wpList_bs1 hgd x e ho hx h
theorem own_nil {w : World} {b size n c : Nat} {e : TypeId} {xs : List Value} (h : w.ownsRow b e size (.slice none n c) n xs) : c = 0 := by
  obtain ⟨_, ⟨h1, _⟩ | ⟨g, cap, cur, hv, _⟩⟩ := h
  · cases h1; rfl
  · cases hv
def LeftPost (w : World) (L : List EN) (e : Ending) (w' : World) : Prop := ∃ A c, e = .returned (.slice A L.length c) ∧ L.length ≤ c ∧ Sl w' 25 enc25 A L.length L ∧ (A = none → c = 0) ∧ (∀ b off sp, A = some ⟨b, off, sp⟩ → w.heap.size ≤ b) ∧ Below w.heap.size w w'

set_option maxRecDepth 100000 in
set_option maxHeartbeats 8000000 in
theorem left_any (A : Option Addr) (n c : Nat) (l : List EN) (b : Nat → R4) (hn : n ≤ 4096) (hnc : n ≤ c) (w : World) (hS : Sl w 25 enc25 A n l) : Calls Try.prog 43 #[.slice A n c, .agg (bxc b)] w (LeftPost w (leftP b l)) := by
  obtain ⟨M, hM⟩ : ∃ M, M = LeftPost w (leftP b l) := ⟨_, rfl⟩
  rw [← hM]
  have HM := Lib.hid hM; clear hM
  obtain ⟨iu, hiu, hu0, hu1, hu2⟩ := info_parts en_info
  have hn2 : l.length ≤ 4096 := by rw [hS.len]; exact hn
  have iC := inf29 b
  have cl := fun (W : World) (B : Nat) (x : EN) => left1_any b B x W
  obtain ⟨C, hC⟩ : ∃ C, C = bxc b := ⟨_, rfl⟩
  simp only [← hC] at cl
  rw [← hC] at iC ⊢
  have iC := Lib.hid iC
  have HC := Lib.hid hC; clear hC
  have hA := heap_alloc_new w (.cells C 30)
  have bz := Below.al (Below.refl w.heap.size w) (.cells C 30)
  have HL := Lib.hid hS.len
  go_enter Try.func43, Try.ntmps43
  go_upto_region 1 with fail
  obtain ⟨w0, hw0⟩ : ∃ w0, w0 = w.alloc (.cells C 30) := ⟨_, rfl⟩
  rw [← hw0] at hA bz ⊢
  clear hw0
  have hS0 := hS.keep bz
  have li := li_any (fun x : EN => cvB x.bx b) 50 #[.pointer (some ⟨w.heap.size, 0, none⟩)] enleft1 A n c l w0 (fun W x _ hb => cl W w.heap.size x (blkB hb hA)) hS0
  have hpc := pl_cut b l
  have hpl := pl_cases (fun x : EN => cvB x.bx b) l
  generalize pl (fun x : EN => cvB x.bx b) l = PLC at *
  clear cl hS
  go_upto_region 2 with (go_at_call 49; go_loud (with_reducible refine li.mono ?_); rintro e wz ⟨rfl, hb⟩; replace hA := blkB hb hA; replace hS0 := hS0.keep hb; replace bz := bel_via bz hb; clear hb li)
  rcases hpl with ⟨rfl, _⟩ | ⟨k, x0, hk0, rfl, _, _⟩
  · have hCL : l = cutC b l := by rw [← hpc, if_neg (by decide)]
    clear hpc
    obtain ⟨m, hm⟩ : ∃ m, m = n := ⟨_, rfl⟩
    have hS1 := hS0
    rw [← hm] at hS1 ⊢
    clear hm hS0
    have hml : m ≤ 4096 := by rw [← hS1.len]; exact hn2
    obtain ⟨w1, hw1⟩ : ∃ x, x = wz := ⟨_, rfl⟩
    rw [← hw1] at hA hS1 bz ⊢
    clear hw1
    have hown0 : w1.ownsRow w1.heap.size 32 25 (.slice none 0 0) 0 (([] : List EN).flatMap enc25) := ⟨rfl, .inl ⟨rfl, rfl⟩⟩
    go_wp2_with fail
    go_loopw [6, 22] (fun v6 v22 wr => ∃ i : Nat, v22 = .int .i64 i ∧ i ≤ m ∧ (∃ LL, Hid (LL = ((cutC b l).take i).filter fun x => mbO x.bx b) ∧ wr.ownsRow w1.heap.size 32 25 v6 LL.length (LL.flatMap enc25)) ∧ Below w1.heap.size w1 wr) (fun _ v22 _ => m - (intOf v22).toNat)
    case atStart => exact ⟨0, rfl, by omega, ⟨[], Lib.hid (by simp), hown0⟩, Below.refl _ _⟩
    case round =>
      obtain ⟨i, rfl, hi, ⟨LL, HLL, hown⟩, bw⟩ := hrel
      clear hown0
      have hll : LL.length ≤ 4096 := by
        rw [HLL.out]
        have h1 := List.length_filter_le (fun x : EN => mbO x.bx b) ((cutC b l).take i)
        have h2 : ((cutC b l).take i).length ≤ i := by rw [List.length_take]; omega
        omega
      by_cases hlt : i < m
      · have hmi : i < (cutC b l).length := by rw [← hCL, hS1.len]; exact hlt
        obtain ⟨x, hx⟩ : ∃ x, (cutC b l)[i]? = some x := ⟨_, List.getElem?_eq_getElem hmi⟩
        obtain ⟨b', off, hA1, hbl, hrow⟩ := hS1.row (by omega)
        have hcell := en_row hrow (by rw [hCL]; exact hx)
        have hstep : ((cutC b l).take (i + 1)).filter (fun x => mbO x.bx b) = LL ++ (if mbO x.bx b then [x] else []) := by
          rw [HLL.out, List.take_add_one, hx, List.filter_append]
          cases h : mbO x.bx b <;> simp [h]
        have HST := Lib.hid hstep; clear hstep hx
        have hlti : (i : Int) < (m : Int) := by omega
        have hdn : decide (i < m) = true := by simp [hlt]
        have iE := inf47 x
        have oE := en_one x
        have zE : (#[.int .u64 0, .int .u64 0, .int .u64 0, .int .u64 0, .int .u64 0, .int .u64 0, .int .u64 0, .int .u64 0, .int .u64 0, .int .u64 0, .int .u64 0, .int .u64 0, .int .u64 0, .int .u64 0, .int .u64 0, .int .u64 0, .int .u64 0, .int .u64 0, .int .u64 0, .int .u64 0, .int .u64 0, .int .u64 0, .int .u64 0, .int .u64 0, .int .i64 0] : Array Value).size = (enA x).size := rfl
        have eB := fun (W : World) (B : Nat) => en_blk (w := W) (B := B) (x := x)
        have cm := fun W : World => meetBox_any x.bx b W
        have iX := inf29 x.bx
        have kM := inf29 (mbV x.bx b)
        have oM := bx_one (mbV x.bx b)
        have zM : (#[.int .u64 0, .int .u64 0, .int .u64 0, .int .u64 0, .int .u64 0, .int .u64 0, .int .u64 0, .int .u64 0, .int .u64 0, .int .u64 0, .int .u64 0, .int .u64 0, .int .u64 0, .int .u64 0, .int .u64 0, .int .u64 0, .int .u64 0, .int .u64 0, .int .u64 0, .int .u64 0, .int .u64 0, .int .u64 0, .int .u64 0, .int .u64 0] : Array Value).size = (bxc (mbV x.bx b)).size := rfl
        have hnw := fun W : World => en_news W x 32
        obtain ⟨EA, hEA⟩ : ∃ EA, EA = enA x := ⟨_, rfl⟩
        rw [← hEA] at iE oE zE hcell
        simp only [← hEA] at eB hnw
        have HEA := Lib.hid hEA; clear hEA
        generalize bxc (mbV x.bx b) = MV at *
        generalize bxc x.bx = EX at *
        rw [← HC.out] at cm
        have iE := Lib.hid iE
        have oE := Lib.hid oE
        have zE := Lib.hid zE
        have EB := Lib.hid eB; clear eB
        have iX := Lib.hid iX
        have kM := Lib.hid kM
        have oM := Lib.hid oM
        have zM := Lib.hid zM
        have hnw := Lib.hid hnw
        obtain ⟨O, hO⟩ : ∃ O, O = mbO x.bx b := ⟨_, rfl⟩
        simp only [← hO] at cm HST
        clear hO
        have hA' := blkB bw hA
        have e0 : ∀ j v, EA.toList[j]? = some v → wr.cell? ((⟨b', off + i * 25, none⟩ : Addr).add j) = some v := fun j v hj => keepc bw (hcell j v hj)
        subst hA1
        clear hrow hcell
        have e0 := Lib.hid e0
        have hz := Below.refl wr.heap.size wr
        obtain ⟨w2, hw2⟩ : ∃ x, x = wr := ⟨_, rfl⟩
        rw [← hw2] at hz bw hown
        subst hw2
        obtain ⟨wz, hwz⟩ : ∃ x, x = w2 := ⟨_, rfl⟩
        rw [← hwz] at hA' e0 ⊢
        rw [show Below w2.heap.size w2 w2 = Below w2.heap.size w2 wz by rw [hwz]] at hz
        clear hwz
        go_upto_region 8 with (first | (refine wpList_load_cells rfl 32 (.tmp 24) rfl ⟨b', off + i * 25, none⟩ rfl EA _ e0.out Try.underlying32 rfl iE.out ?_) | (refine wpList_store_row rfl 32 (.tmp 8) (.tmp 25) rfl wz.heap.size EA rfl rfl 32 #[.int .u64 0, .int .u64 0, .int .u64 0, .int .u64 0, .int .u64 0, .int .u64 0, .int .u64 0, .int .u64 0, .int .u64 0, .int .u64 0, .int .u64 0, .int .u64 0, .int .u64 0, .int .u64 0, .int .u64 0, .int .u64 0, .int .u64 0, .int .u64 0, .int .u64 0, .int .u64 0, .int .u64 0, .int .u64 0, .int .u64 0, .int .u64 0, .int .i64 0] (heap_alloc_new wz _) iE.out zE.out oE.out ?_; rw [World.setRow_alloc_new]; obtain ⟨wy, hwy⟩ : ∃ x, x = wz.alloc (.cells EA 32) := ⟨_, rfl⟩; rw [← hwy]; replace hA' := blk_al2 hwy hA'; have q0 := al_hd2 hwy; replace hz := bel_al2 hwy hz; obtain ⟨Q, hP⟩ : ∃ P, P = wz.heap.size := ⟨_, rfl⟩; rw [← hP] at q0 ⊢; clear hP hwy; obtain ⟨wz, hwz⟩ : ∃ x, x = wy := ⟨_, rfl⟩; subst hwz))
        try simp only [Act.put]
        go_upto_region 9 with (first | (refine wpList_load_cells rfl 30 (.tmp 27) rfl ⟨Q, 0, none⟩ rfl EX _ (EB.out _ _ q0) Try.underlying30 rfl iX.out ?_) | (refine wpList_load_row rfl 30 (.tmp 3) rfl w.heap.size rfl 30 C (0, 0) _ hA' Try.underlying30 rfl iC.out ?_) | (go_at_call 52; with_reducible refine (cm _).mono ?_; rintro e wz ⟨rfl, hb⟩; replace hA' := blkB hb hA'; replace q0 := blkB hb q0; replace hz := bel_via hz hb; clear hb) | (refine wpList_store_row rfl 30 (.tmp 9) (.tmp 31) rfl wz.heap.size MV rfl rfl 30 #[.int .u64 0, .int .u64 0, .int .u64 0, .int .u64 0, .int .u64 0, .int .u64 0, .int .u64 0, .int .u64 0, .int .u64 0, .int .u64 0, .int .u64 0, .int .u64 0, .int .u64 0, .int .u64 0, .int .u64 0, .int .u64 0, .int .u64 0, .int .u64 0, .int .u64 0, .int .u64 0, .int .u64 0, .int .u64 0, .int .u64 0, .int .u64 0] (heap_alloc_new wz _) kM.out zM.out oM.out ?_; rw [World.setRow_alloc_new]; obtain ⟨wy, hwy⟩ : ∃ x, x = wz.alloc (.cells MV 30) := ⟨_, rfl⟩; rw [← hwy]; replace hA' := blk_al2 hwy hA'; replace q0 := blk_al2 hwy q0; have r0 := al_hd2 hwy; replace hz := bel_al2 hwy hz; obtain ⟨R, hP⟩ : ∃ P, P = wz.heap.size := ⟨_, rfl⟩; rw [← hP] at r0 ⊢; clear hP hwy; obtain ⟨wz, hwz⟩ : ∃ x, x = wy := ⟨_, rfl⟩; subst hwz))
        try simp only [Act.put]
        cases O with
        | false =>
          go_wp2_with fail
          exact ⟨⟨i + 1, by simp, by omega, ⟨LL, Lib.hid (by rw [HST.out]; simp), own_bel hown hz⟩, bel_via bw hz⟩, by simp [intOf]; omega⟩
        | true =>
          have hownz := own_bel hown hz
          have bw2 := bel_via bw hz
          go_upto_region 10 with fail
          have hownA := own_bel hownz (Below.al (Below.refl _ wz) (.cells EA 32))
          have hbsA : w1.heap.size ≤ (wz.alloc (.cells EA 32)).heap.size := by rw [al_size]; have := bw2.size; omega
          have bwA : Below w1.heap.size w1 (wz.alloc (.cells EA 32)) := bel_via bw2 (Below.al (Below.refl _ wz) _)
          have h1 := Lib.hid (hnw.out wz)
          have h2 := Lib.hid (en25_one x)
          have hb91 : (LL.length + 1) * 200 ≤ 140737488355328 := by omega
          have h963 : LL.length + 1 ≤ maxLen := by unfold maxLen; omega
          have ho10 := own_gt hownA
          have ho10 := Lib.hid ho10
          go_wp2_with (first | (refine wpList_load_row rfl 32 (.tmp 8) rfl Q rfl 32 EA (0, 0) _ q0 Try.underlying32 rfl iE.out ?_) | (refine wpList_bs1' rfl (.tmp 35) x EA HEA.out rfl rfl ?_) | (at_builtin; go_loud (refine wpList_append_own _ rfl _ _ 22 rfl w1.heap.size 32 iu (.agg #[.int .u64 0, .int .u64 0, .int .u64 0, .int .u64 0, .int .u64 0, .int .u64 0, .int .u64 0, .int .u64 0, .int .u64 0, .int .u64 0, .int .u64 0, .int .u64 0, .int .u64 0, .int .u64 0, .int .u64 0, .int .u64 0, .int .u64 0, .int .u64 0, .int .u64 0, .int .u64 0, .int .u64 0, .int .u64 0, .int .u64 0, .int .u64 0, .int .i64 0]) 25 200 Try.underlying22 hiu hu0 hu1 hu2 rfl (by decide) _ _ _ rfl hownA ⟨wz.heap.size, 0, none⟩ 1 1 (enc25 x) rfl rfl h1.out h2.out h963 hb91 hbsA ?_)))
          intro v10 w10 hown10 hg10 _
          go_wp2_with fail
          have bw10 : Below w1.heap.size w1 w10 := bwA.grown hg10 hbsA ho10.out
          exact ⟨⟨i + 1, by simp, by omega, ⟨LL ++ [x], Lib.hid (by rw [HST.out]; simp), by simpa using hown10⟩, bw10⟩, by simp [intOf]; omega⟩
      · obtain rfl : i = m := by omega
        have hd0 : decide (i < i) = false := by simp
        have hdi : decide ((i : Int) < (i : Int)) = false := by simp
        have hLe : LL = leftP b l := by
          rw [HLL.out, ← left_eq, List.take_of_length_le]
          rw [← hCL, hS1.len]; exact Nat.le_refl _
        have FIN0 : ∀ v, wr.ownsRow w1.heap.size 32 25 v LL.length (LL.flatMap enc25) → M (.returned v) wr := by
          intro v hown
          rw [HM.out, ← hLe]
          obtain ⟨A3, c3, rfl, hS3, hnew⟩ := sl_of_own (k := 25) (enc := enc25) en25_len hown rfl
          refine ⟨A3, c3, rfl, own_cap hown, hS3, ?_, fun b off sp h => Nat.le_trans bz.size (hnew b off sp h), bel_via bz bw⟩
          intro hA3
          subst hA3
          exact own_nil hown
        have FIN := Lib.hid (FIN0 _ hown)
        clear FIN0
        clear hLe
        go_wp2_with fail
        first | exact FIN.out | (simp [bodyPost, results, Try.results43, go_sem]; exact FIN.out) | (go_ret; exact FIN.out)
  · have hkl := (List.getElem?_eq_some_iff.1 hk0).1
    have hkn : k < n := by rw [← HL.out]; exact hkl
    have hCL : l.take (k + 1) = cutC b l := by rw [← hpc, if_pos (by omega), Int.toNat_natCast]
    clear hpc hk0
    obtain ⟨b0', off0, hA0, _, _⟩ := hS0.row (by omega)
    have hS1 := hS0.cut (m := k + 1) (by omega)
    subst hA0
    have h1 : (0 : Int) ≤ (k : Int) := by omega
    have h2 : (k : Int) + 1 ≤ (c : Int) := by omega
    have h3 : ¬ ((c : Int) < (k : Int) + 1) := by omega
    clear hS0
    go_upto_region 4 with fail
    obtain ⟨m, hm⟩ : ∃ m, m = k + 1 := ⟨_, rfl⟩
    rw [← hm] at hS1 ⊢
    have HMK := Lib.hid hm
    clear hm h1 h2 h3 hkl
    rw [← HMK.out] at hCL
    have hml : m ≤ 4096 := by rw [HMK.out]; omega
    obtain ⟨w1, hw1⟩ : ∃ x, x = wz := ⟨_, rfl⟩
    rw [← hw1] at hA hS1 bz ⊢
    clear hw1
    have hown0 : w1.ownsRow w1.heap.size 32 25 (.slice none 0 0) 0 (([] : List EN).flatMap enc25) := ⟨rfl, .inl ⟨rfl, rfl⟩⟩
    go_wp2_with fail
    go_loopw [6, 22] (fun v6 v22 wr => ∃ i : Nat, v22 = .int .i64 i ∧ i ≤ m ∧ (∃ LL, Hid (LL = ((cutC b l).take i).filter fun x => mbO x.bx b) ∧ wr.ownsRow w1.heap.size 32 25 v6 LL.length (LL.flatMap enc25)) ∧ Below w1.heap.size w1 wr) (fun _ v22 _ => m - (intOf v22).toNat)
    case atStart => exact ⟨0, rfl, by omega, ⟨[], Lib.hid (by simp), hown0⟩, Below.refl _ _⟩
    case round =>
      obtain ⟨i, rfl, hi, ⟨LL, HLL, hown⟩, bw⟩ := hrel
      clear hown0
      have hll : LL.length ≤ 4096 := by
        rw [HLL.out]
        have h1 := List.length_filter_le (fun x : EN => mbO x.bx b) ((cutC b l).take i)
        have h2 : ((cutC b l).take i).length ≤ i := by rw [List.length_take]; omega
        omega
      by_cases hlt : i < m
      · have hmi : i < (cutC b l).length := by rw [← hCL, hS1.len]; exact hlt
        obtain ⟨x, hx⟩ : ∃ x, (cutC b l)[i]? = some x := ⟨_, List.getElem?_eq_getElem hmi⟩
        obtain ⟨b', off, hA1, hbl, hrow⟩ := hS1.row (by omega)
        have hcell := en_row hrow (by rw [hCL]; exact hx)
        have hstep : ((cutC b l).take (i + 1)).filter (fun x => mbO x.bx b) = LL ++ (if mbO x.bx b then [x] else []) := by
          rw [HLL.out, List.take_add_one, hx, List.filter_append]
          cases h : mbO x.bx b <;> simp [h]
        have HST := Lib.hid hstep; clear hstep hx
        have hlti : (i : Int) < (m : Int) := by omega
        have hdn : decide (i < m) = true := by simp [hlt]
        have iE := inf47 x
        have oE := en_one x
        have zE : (#[.int .u64 0, .int .u64 0, .int .u64 0, .int .u64 0, .int .u64 0, .int .u64 0, .int .u64 0, .int .u64 0, .int .u64 0, .int .u64 0, .int .u64 0, .int .u64 0, .int .u64 0, .int .u64 0, .int .u64 0, .int .u64 0, .int .u64 0, .int .u64 0, .int .u64 0, .int .u64 0, .int .u64 0, .int .u64 0, .int .u64 0, .int .u64 0, .int .i64 0] : Array Value).size = (enA x).size := rfl
        have eB := fun (W : World) (B : Nat) => en_blk (w := W) (B := B) (x := x)
        have cm := fun W : World => meetBox_any x.bx b W
        have iX := inf29 x.bx
        have kM := inf29 (mbV x.bx b)
        have oM := bx_one (mbV x.bx b)
        have zM : (#[.int .u64 0, .int .u64 0, .int .u64 0, .int .u64 0, .int .u64 0, .int .u64 0, .int .u64 0, .int .u64 0, .int .u64 0, .int .u64 0, .int .u64 0, .int .u64 0, .int .u64 0, .int .u64 0, .int .u64 0, .int .u64 0, .int .u64 0, .int .u64 0, .int .u64 0, .int .u64 0, .int .u64 0, .int .u64 0, .int .u64 0, .int .u64 0] : Array Value).size = (bxc (mbV x.bx b)).size := rfl
        have hnw := fun W : World => en_news W x 32
        obtain ⟨EA, hEA⟩ : ∃ EA, EA = enA x := ⟨_, rfl⟩
        rw [← hEA] at iE oE zE hcell
        simp only [← hEA] at eB hnw
        have HEA := Lib.hid hEA; clear hEA
        generalize bxc (mbV x.bx b) = MV at *
        generalize bxc x.bx = EX at *
        rw [← HC.out] at cm
        have iE := Lib.hid iE
        have oE := Lib.hid oE
        have zE := Lib.hid zE
        have EB := Lib.hid eB; clear eB
        have iX := Lib.hid iX
        have kM := Lib.hid kM
        have oM := Lib.hid oM
        have zM := Lib.hid zM
        have hnw := Lib.hid hnw
        obtain ⟨O, hO⟩ : ∃ O, O = mbO x.bx b := ⟨_, rfl⟩
        simp only [← hO] at cm HST
        clear hO
        have hA' := blkB bw hA
        have e0 : ∀ j v, EA.toList[j]? = some v → wr.cell? ((⟨b', off + i * 25, none⟩ : Addr).add j) = some v := fun j v hj => keepc bw (hcell j v hj)
        obtain ⟨rfl, rfl⟩ : b' = b0' ∧ off = off0 := by cases hA1; exact ⟨rfl, rfl⟩
        clear hrow hcell
        have e0 := Lib.hid e0
        have hz := Below.refl wr.heap.size wr
        obtain ⟨w2, hw2⟩ : ∃ x, x = wr := ⟨_, rfl⟩
        rw [← hw2] at hz bw hown
        subst hw2
        obtain ⟨wz, hwz⟩ : ∃ x, x = w2 := ⟨_, rfl⟩
        rw [← hwz] at hA' e0 ⊢
        rw [show Below w2.heap.size w2 w2 = Below w2.heap.size w2 wz by rw [hwz]] at hz
        clear hwz
        go_upto_region 8 with (first | (refine wpList_load_cells rfl 32 (.tmp 24) rfl ⟨b', off + i * 25, none⟩ rfl EA _ e0.out Try.underlying32 rfl iE.out ?_) | (refine wpList_store_row rfl 32 (.tmp 8) (.tmp 25) rfl wz.heap.size EA rfl rfl 32 #[.int .u64 0, .int .u64 0, .int .u64 0, .int .u64 0, .int .u64 0, .int .u64 0, .int .u64 0, .int .u64 0, .int .u64 0, .int .u64 0, .int .u64 0, .int .u64 0, .int .u64 0, .int .u64 0, .int .u64 0, .int .u64 0, .int .u64 0, .int .u64 0, .int .u64 0, .int .u64 0, .int .u64 0, .int .u64 0, .int .u64 0, .int .u64 0, .int .i64 0] (heap_alloc_new wz _) iE.out zE.out oE.out ?_; rw [World.setRow_alloc_new]; obtain ⟨wy, hwy⟩ : ∃ x, x = wz.alloc (.cells EA 32) := ⟨_, rfl⟩; rw [← hwy]; replace hA' := blk_al2 hwy hA'; have q0 := al_hd2 hwy; replace hz := bel_al2 hwy hz; obtain ⟨Q, hP⟩ : ∃ P, P = wz.heap.size := ⟨_, rfl⟩; rw [← hP] at q0 ⊢; clear hP hwy; obtain ⟨wz, hwz⟩ : ∃ x, x = wy := ⟨_, rfl⟩; subst hwz))
        try simp only [Act.put]
        go_upto_region 9 with (first | (refine wpList_load_cells rfl 30 (.tmp 27) rfl ⟨Q, 0, none⟩ rfl EX _ (EB.out _ _ q0) Try.underlying30 rfl iX.out ?_) | (refine wpList_load_row rfl 30 (.tmp 3) rfl w.heap.size rfl 30 C (0, 0) _ hA' Try.underlying30 rfl iC.out ?_) | (go_at_call 52; with_reducible refine (cm _).mono ?_; rintro e wz ⟨rfl, hb⟩; replace hA' := blkB hb hA'; replace q0 := blkB hb q0; replace hz := bel_via hz hb; clear hb) | (refine wpList_store_row rfl 30 (.tmp 9) (.tmp 31) rfl wz.heap.size MV rfl rfl 30 #[.int .u64 0, .int .u64 0, .int .u64 0, .int .u64 0, .int .u64 0, .int .u64 0, .int .u64 0, .int .u64 0, .int .u64 0, .int .u64 0, .int .u64 0, .int .u64 0, .int .u64 0, .int .u64 0, .int .u64 0, .int .u64 0, .int .u64 0, .int .u64 0, .int .u64 0, .int .u64 0, .int .u64 0, .int .u64 0, .int .u64 0, .int .u64 0] (heap_alloc_new wz _) kM.out zM.out oM.out ?_; rw [World.setRow_alloc_new]; obtain ⟨wy, hwy⟩ : ∃ x, x = wz.alloc (.cells MV 30) := ⟨_, rfl⟩; rw [← hwy]; replace hA' := blk_al2 hwy hA'; replace q0 := blk_al2 hwy q0; have r0 := al_hd2 hwy; replace hz := bel_al2 hwy hz; obtain ⟨R, hP⟩ : ∃ P, P = wz.heap.size := ⟨_, rfl⟩; rw [← hP] at r0 ⊢; clear hP hwy; obtain ⟨wz, hwz⟩ : ∃ x, x = wy := ⟨_, rfl⟩; subst hwz))
        try simp only [Act.put]
        cases O with
        | false =>
          go_wp2_with fail
          exact ⟨⟨i + 1, by simp, by omega, ⟨LL, Lib.hid (by rw [HST.out]; simp), own_bel hown hz⟩, bel_via bw hz⟩, by simp [intOf]; omega⟩
        | true =>
          have hownz := own_bel hown hz
          have bw2 := bel_via bw hz
          go_upto_region 10 with fail
          have hownA := own_bel hownz (Below.al (Below.refl _ wz) (.cells EA 32))
          have hbsA : w1.heap.size ≤ (wz.alloc (.cells EA 32)).heap.size := by rw [al_size]; have := bw2.size; omega
          have bwA : Below w1.heap.size w1 (wz.alloc (.cells EA 32)) := bel_via bw2 (Below.al (Below.refl _ wz) _)
          have h1 := Lib.hid (hnw.out wz)
          have h2 := Lib.hid (en25_one x)
          have hb91 : (LL.length + 1) * 200 ≤ 140737488355328 := by omega
          have h963 : LL.length + 1 ≤ maxLen := by unfold maxLen; omega
          have ho10 := own_gt hownA
          have ho10 := Lib.hid ho10
          go_wp2_with (first | (refine wpList_load_row rfl 32 (.tmp 8) rfl Q rfl 32 EA (0, 0) _ q0 Try.underlying32 rfl iE.out ?_) | (refine wpList_bs1' rfl (.tmp 35) x EA HEA.out rfl rfl ?_) | (at_builtin; go_loud (refine wpList_append_own _ rfl _ _ 22 rfl w1.heap.size 32 iu (.agg #[.int .u64 0, .int .u64 0, .int .u64 0, .int .u64 0, .int .u64 0, .int .u64 0, .int .u64 0, .int .u64 0, .int .u64 0, .int .u64 0, .int .u64 0, .int .u64 0, .int .u64 0, .int .u64 0, .int .u64 0, .int .u64 0, .int .u64 0, .int .u64 0, .int .u64 0, .int .u64 0, .int .u64 0, .int .u64 0, .int .u64 0, .int .u64 0, .int .i64 0]) 25 200 Try.underlying22 hiu hu0 hu1 hu2 rfl (by decide) _ _ _ rfl hownA ⟨wz.heap.size, 0, none⟩ 1 1 (enc25 x) rfl rfl h1.out h2.out h963 hb91 hbsA ?_)))
          intro v10 w10 hown10 hg10 _
          go_wp2_with fail
          have bw10 : Below w1.heap.size w1 w10 := bwA.grown hg10 hbsA ho10.out
          exact ⟨⟨i + 1, by simp, by omega, ⟨LL ++ [x], Lib.hid (by rw [HST.out]; simp), by simpa using hown10⟩, bw10⟩, by simp [intOf]; omega⟩
      · obtain rfl : i = m := by omega
        have hd0 : decide (i < i) = false := by simp
        have hdi : decide ((i : Int) < (i : Int)) = false := by simp
        have hLe : LL = leftP b l := by
          rw [HLL.out, ← left_eq, List.take_of_length_le]
          rw [← hCL, hS1.len]; exact Nat.le_refl _
        have FIN0 : ∀ v, wr.ownsRow w1.heap.size 32 25 v LL.length (LL.flatMap enc25) → M (.returned v) wr := by
          intro v hown
          rw [HM.out, ← hLe]
          obtain ⟨A3, c3, rfl, hS3, hnew⟩ := sl_of_own (k := 25) (enc := enc25) en25_len hown rfl
          refine ⟨A3, c3, rfl, own_cap hown, hS3, ?_, fun b off sp h => Nat.le_trans bz.size (hnew b off sp h), bel_via bz bw⟩
          intro hA3
          subst hA3
          exact own_nil hown
        have FIN := Lib.hid (FIN0 _ hown)
        clear FIN0
        clear hLe
        go_wp2_with fail
        first | exact FIN.out | (simp [bodyPost, results, Try.results43, go_sem]; exact FIN.out) | (go_ret; exact FIN.out)
end Go.Proofs.Ytomennaekjklbaa
