/- Boxes: which covers which; both sides; by-name template (gen_ccov.py). -/
import Derived.Test.YtomennaekjklbaaCRMBox
import Derived.Test.YtomennaekjklbaaCEql
namespace Go.Proofs.Ytomennaekjklbaa
open Go.RowKit Go.Lib Go.Sort
set_option linter.unusedVariables false
set_option linter.unusedSimpArgs false

theorem wpList_load_row_on {P : Program} {ops : Array Oper} {rest : List Oper} {o : Oper} {a : Act} {w : World} {Q : Exit → Act → World → Prop} (hgd : Region.wanted o (yielded ops a.tmps) = true) (ty : TypeId) (x : Operand) (ho : o.op = .load ty x)
    (g : Nat) (hx : a.eval x = .pointer (some ⟨g, 0, none⟩)) (t : TypeId) (cs : Array Value) (fr : Nat × Nat) (d : TypeDesc) (hg : w.heap[g]? = some (.cells cs t fr))
    (hu : P.underlying ty = some d) (hd : (match d with | .struct _ | .array _ _ => true | _ => false) = true) (hi : (P.info? ty).map (·.size) = some cs.size)
    (h : wpList P ops Q rest (a.put o.dst (.agg cs)) w) : wpList P ops Q (o :: rest) a w :=
  wpList_step fun K hK => by
    rw [if_pos hgd]
    exact wp_load_row ty x ho g hx t cs fr d hg hu hd hi (hK _ _ h)

def cvK (r s : R4) : Bool := hasI r.fh r.fl r.th r.tl s.fh s.fl && hasI r.fh r.fl r.th r.tl s.th s.tl
def cvA (a b : Nat → R4) : Bool := cvK (a 0) (b 0) && cvK (a 1) (b 1) && cvK (a 2) (b 2) && cvK (a 3) (b 3) && cvK (a 4) (b 4) && cvK (a 5) (b 5)
/-- Whether a box covers another one. -/
def cvB (a b : Nat → R4) : Bool := emB b || cvA a b
theorem cvB_em {a b : Nat → R4} (h : emB b = true) : cvB a b = true := by unfold cvB; rw [h]; rfl
theorem cvB_no {a b : Nat → R4} {k : Nat} (he : emB b = false) (hk : k < 6) (h : cvK (a k) (b k) = false) : cvB a b = false := by
  unfold cvB cvA; rw [he]
  match k, hk with
  | 0, _ => simp [h]
  | 1, _ => simp [h]
  | 2, _ => simp [h]
  | 3, _ => simp [h]
  | 4, _ => simp [h]
  | 5, _ => simp [h]
theorem cvB_yes {a b : Nat → R4} (h : ∀ k, k < 6 → cvK (a k) (b k) = true) : cvB a b = true := by
  unfold cvB cvA; simp [h 0 (by omega), h 1 (by omega), h 2 (by omega), h 3 (by omega), h 4 (by omega), h 5 (by omega)]

set_option maxRecDepth 100000 in
set_option maxHeartbeats 4000000 in
theorem covers_any (a b : Nat → R4) (w : World) : Calls Try.prog 51 #[.agg (bxc a), .agg (bxc b)] w fun e w' => e = .returned (.bool (cvB a b)) ∧ Below w.heap.size w w' := by
  obtain ⟨R, hR⟩ : ∃ R, R = cvB a b := ⟨_, rfl⟩
  rw [← hR]
  have HR := Lib.hid hR; clear hR
  have ce := fun W : World => empty_any b W
  have IX := ix_b b
  have i27 := inf27 b
  have i29 := inf29 b
  obtain ⟨C, hC⟩ : ∃ C, C = bxc a := ⟨_, rfl⟩
  obtain ⟨D, hD⟩ : ∃ D, D = bxc b := ⟨_, rfl⟩
  rw [← hD] at ce IX i27 i29
  rw [← hC, ← hD]
  have HI := Lib.hid IX; clear IX
  have i27 := Lib.hid i27
  have i29 := Lib.hid i29
  have HC := Lib.hid hC; clear hC
  clear hD
  generalize hE : emB b = E at ce
  have HE := Lib.hid hE; clear hE
  obtain ⟨w0, hw0⟩ : ∃ w0, w0 = (w.alloc (.cells C 30)).alloc (.cells D 30) := ⟨_, rfl⟩
  have A0 : w0.heap[w.heap.size]? = some (.cells (bxc a) 30) := by rw [hw0, ← HC.out]; exact blk_al (heap_alloc_new w _) _
  have A1 : w0.heap[w.heap.size + 1]? = some (.cells D 30) := by rw [hw0]; exact al_new (al_size _ _).symm _
  have b0 : Below w.heap.size w w0 := by rw [hw0]; exact Below.al (Below.al (Below.refl _ _) _) _
  have Hw0 := Lib.hid hw0; clear hw0
  go_enter Try.func51, Try.ntmps51
  go_wp2_with (refine wpList_load_row rfl 30 (.tmp 3) rfl (w.heap.size + 1) rfl 30 D (0, 0) _ (by rw [← Hw0.out]; exact A1) Try.underlying30 rfl i29.out ?_)
  rw [← Hw0.out]
  clear Hw0 HC
  refine ((ce _).mono ?_)
  rintro e w1 ⟨rfl, hb1⟩
  have B0 := blkB hb1 A0
  have B1 := blkB hb1 A1
  have b1 := bel_via b0 hb1
  clear A0 A1 b0 hb1 ce
  cases E with
  | true =>
    obtain rfl : R = true := by rw [HR.out]; exact cvB_em HE.out
    go_wp2
    go_ret
    exact ⟨rfl, b1⟩
  | false =>
    go_wp2_with (refine wpList_load_row rfl 28 (.tmp 9) rfl (w.heap.size + 1) rfl 30 D (0, 0) _ B1 Try.underlying28 rfl i27.out ?_)
    have hB := BoxAt.of B0
    clear B0 B1 i27 i29
    go_loopw [11] (fun v11 wr => ∃ k : Nat, v11 = .int .i64 k ∧ k ≤ 6 ∧ Hid (∀ i, i < k → cvK (a i) (b i) = true) ∧ Below w1.heap.size w1 wr) (fun v11 _ => 6 - (intOf v11).toNat)
    case atStart => exact ⟨0, rfl, by omega, upto_zero, Below.refl _ _⟩
    case round =>
      obtain ⟨k, rfl, hk, hF, bw⟩ := hrel
      by_cases hk6 : k < 6
      · have ix := HI.out k hk6
        have c1 := has_any (a k).fh (a k).fl (a k).th (a k).tl (b k).fh (b k).fl
        have c2 := has_any (a k).fh (a k).fl (a k).th (a k).tl (b k).th (b k).tl
        generalize hX : hasI (a k).fh (a k).fl (a k).th (a k).tl (b k).fh (b k).fl = X at c1
        generalize hY : hasI (a k).fh (a k).fl (a k).th (a k).tl (b k).th (b k).tl = Y at c2
        have HK : Hid (cvK (a k) (b k) = (X && Y)) := Lib.hid (by unfold cvK; rw [hX, hY])
        clear hX hY
        go_wp2_with fail
        obtain ⟨w4, hw4⟩ : ∃ w4, w4 = wr.alloc (.cells #[.int .u64 (b k).fh, .int .u64 (b k).fl, .int .u64 (b k).th, .int .u64 (b k).tl] 27) := ⟨_, rfl⟩
        have b4 : Below w1.heap.size w1 w4 := by rw [hw4]; exact Below.al bw _
        obtain ⟨x0, x1, x2, x3⟩ := al_r4 wr (.int .u64 (b k).fh) (.int .u64 (b k).fl) (.int .u64 (b k).th) (.int .u64 (b k).tl) 27
        rw [← hw4] at x0 x1 x2 x3 ⊢
        obtain ⟨y0, y1, y2, y3⟩ := hB.keep b4 k hk6
        clear hw4 ix bw
        cases X with
        | false =>
          obtain rfl : R = false := by rw [HR.out]; exact cvB_no HE.out hk6 (by rw [HK.out]; rfl)
          clear HK hF HR c2
          have k_x0 := cell_regrown x0
          have k_x1 := cell_regrown x1
          have k_x2 := cell_regrown x2
          have k_x3 := cell_regrown x3
          have k_y0 := cell_regrown y0
          have k_y1 := cell_regrown y1
          have k_y2 := cell_regrown y2
          have k_y3 := cell_regrown y3
          have q1 := fun d os => Calls.regrown_of (c1 (grow (redrawn w4 d) os))
          clear x0 x1 x2 x3 y0 y1 y2 y3
          refine wp_region_quiet_below (by kernel_rfl) (by kernel_rfl) ?_
          repeat (first | go_big_quiet_skip | quiet_step (first | (go_at_call 56; with_reducible exact q1 _ _)))
          refine wpQuiet_nil ?_
          intro _ hw'
          obtain ⟨⟨dq, osq⟩, hw''⟩ := hw'
          subst hw''
          go_wp2
          go_ret
          exact ⟨rfl, bel_via b1 (bel_via b4 (below_regrown w4 dq osq))⟩
        | true =>
          cases Y with
          | false =>
            obtain rfl : R = false := by rw [HR.out]; exact cvB_no HE.out hk6 (by rw [HK.out]; rfl)
            clear HK hF HR
            have k_x0 := cell_regrown x0
            have k_x1 := cell_regrown x1
            have k_x2 := cell_regrown x2
            have k_x3 := cell_regrown x3
            have k_y0 := cell_regrown y0
            have k_y1 := cell_regrown y1
            have k_y2 := cell_regrown y2
            have k_y3 := cell_regrown y3
            have q1 := fun d os => Calls.regrown_of (c1 (grow (redrawn w4 d) os))
            have q2 := fun d os => Calls.regrown_of (c2 (grow (redrawn w4 d) os))
            clear x0 x1 x2 x3 y0 y1 y2 y3
            refine wp_region_quiet_below (by kernel_rfl) (by kernel_rfl) ?_
            repeat (first | go_big_quiet_skip | quiet_step (first | (go_at_call 56; with_reducible exact q1 _ _) | (go_at_call 56; with_reducible exact q2 _ _)))
            refine wpQuiet_nil ?_
            intro _ hw'
            obtain ⟨⟨dq, osq⟩, hw''⟩ := hw'
            subst hw''
            go_wp2
            go_ret
            exact ⟨rfl, bel_via b1 (bel_via b4 (below_regrown w4 dq osq))⟩
          | true =>
            have H := upto_succ (P := fun i => cvK (a i) (b i) = true) hF (by rw [HK.out]; rfl); clear HK hF
            have k_x0 := cell_regrown x0
            have k_x1 := cell_regrown x1
            have k_x2 := cell_regrown x2
            have k_x3 := cell_regrown x3
            have k_y0 := cell_regrown y0
            have k_y1 := cell_regrown y1
            have k_y2 := cell_regrown y2
            have k_y3 := cell_regrown y3
            have q1 := fun d os => Calls.regrown_of (c1 (grow (redrawn w4 d) os))
            have q2 := fun d os => Calls.regrown_of (c2 (grow (redrawn w4 d) os))
            clear x0 x1 x2 x3 y0 y1 y2 y3
            refine wp_region_quiet_below (by kernel_rfl) (by kernel_rfl) ?_
            repeat (first | go_big_quiet_skip | quiet_step (first | (go_at_call 56; with_reducible exact q1 _ _) | (go_at_call 56; with_reducible exact q2 _ _)))
            refine wpQuiet_nil ?_
            intro _ hw'
            obtain ⟨⟨dq, osq⟩, hw''⟩ := hw'
            subst hw''
            go_wp2
            exact ⟨⟨k + 1, by simp, by omega, H, bel_via b4 (below_regrown w4 dq osq)⟩, by simp [intOf]; omega⟩
      · obtain rfl : k = 6 := by omega
        obtain rfl : R = true := by rw [HR.out]; exact cvB_yes hF.out
        clear hF HR
        go_wp2
        go_ret
        exact ⟨rfl, bel_via b1 bw⟩

/-- The document's: empty, or what both have in common is the second. -/
def rcvB (a b : Nat → R4) : Bool := emB b || (mbO a b && eqB (mbV a b) b)

set_option maxRecDepth 100000 in
set_option maxHeartbeats 4000000 in
theorem rcovers_any (a b : Nat → R4) (w : World) : Calls Try.prog 34 #[.agg (bxc a), .agg (bxc b)] w fun e w' => e = .returned (.bool (rcvB a b)) ∧ Below w.heap.size w w' := by
  obtain ⟨R, hR⟩ : ∃ R, R = rcvB a b := ⟨_, rfl⟩
  rw [← hR]
  have HR := Lib.hid hR; clear hR
  have ce := fun W : World => rempty_any b W
  have cm := fun W : World => rmeetBox_any a b W
  have i29 := inf29 a
  have j29 := inf29 b
  have k29 := inf29 (mbV a b)
  have o29 := bx_one (mbV a b)
  have q29 := fun W : World => eql_box (mbV a b) b W
  obtain ⟨C, hC⟩ : ∃ C, C = bxc a := ⟨_, rfl⟩
  obtain ⟨D, hD⟩ : ∃ D, D = bxc b := ⟨_, rfl⟩
  obtain ⟨V, hV⟩ : ∃ D, D = bxc (mbV a b) := ⟨_, rfl⟩
  have zV : (#[.int .u64 0, .int .u64 0, .int .u64 0, .int .u64 0, .int .u64 0, .int .u64 0, .int .u64 0, .int .u64 0, .int .u64 0, .int .u64 0, .int .u64 0, .int .u64 0, .int .u64 0, .int .u64 0, .int .u64 0, .int .u64 0, .int .u64 0, .int .u64 0, .int .u64 0, .int .u64 0, .int .u64 0, .int .u64 0, .int .u64 0, .int .u64 0] : Array Value).size = V.size := by rw [hV]; rfl
  rw [← hV, ← hD] at q29
  rw [← hD] at ce j29
  rw [← hC] at i29
  rw [← hC, ← hD, ← hV] at cm
  rw [← hV] at k29 o29
  rw [← hC, ← hD]
  have i29 := Lib.hid i29
  have j29 := Lib.hid j29
  have k29 := Lib.hid k29
  have o29 := Lib.hid o29
  have zV := Lib.hid zV
  clear hC hD hV
  generalize hE : emB b = E at ce
  generalize hO : mbO a b = O at cm
  generalize hQ : eqB (mbV a b) b = Q at q29
  have HX : Hid (R = (E || (O && Q))) := Lib.hid (by rw [HR.out]; unfold rcvB; rw [hE, hO, hQ])
  clear hE hO hQ HR
  obtain ⟨w0, hw0⟩ : ∃ w0, w0 = (w.alloc (.cells C 30)).alloc (.cells D 30) := ⟨_, rfl⟩
  have A0 : w0.heap[w.heap.size]? = some (.cells C 30) := by rw [hw0]; exact blk_al (heap_alloc_new w _) _
  have A1 : w0.heap[w.heap.size + 1]? = some (.cells D 30) := by rw [hw0]; exact al_new (al_size _ _).symm _
  have b0 : Below w.heap.size w w0 := by rw [hw0]; exact Below.al (Below.al (Below.refl _ _) _) _
  have Hw0 := Lib.hid hw0; clear hw0
  go_enter Try.func34, Try.ntmps34
  go_wp2_with (first
    | (refine wpList_load_row rfl 30 (.tmp 2) rfl w.heap.size rfl 30 C (0, 0) _ (by rw [← Hw0.out]; exact A0) Try.underlying30 rfl i29.out ?_)
    | (refine wpList_load_row rfl 30 (.tmp 3) rfl (w.heap.size + 1) rfl 30 D (0, 0) _ (by rw [← Hw0.out]; exact A1) Try.underlying30 rfl j29.out ?_))
  rw [← Hw0.out]
  clear Hw0
  refine ((cm _).mono ?_)
  rintro e w1 ⟨rfl, hb1⟩
  have B1 := blkB hb1 A1
  have b1 := bel_via b0 hb1
  clear A0 A1 b0 hb1 cm
  have q29 := Lib.hid q29
  go_wp2_with (first
    | (refine wpList_store_row rfl 30 (.tmp 5) (.tmp 11) rfl w1.heap.size V rfl rfl 30 #[.int .u64 0, .int .u64 0, .int .u64 0, .int .u64 0, .int .u64 0, .int .u64 0, .int .u64 0, .int .u64 0, .int .u64 0, .int .u64 0, .int .u64 0, .int .u64 0, .int .u64 0, .int .u64 0, .int .u64 0, .int .u64 0, .int .u64 0, .int .u64 0, .int .u64 0, .int .u64 0, .int .u64 0, .int .u64 0, .int .u64 0, .int .u64 0] (heap_alloc_new w1 _) k29.out zV.out o29.out ?_; rw [World.setRow_alloc_new])
    | (refine wpList_load_row rfl 30 (.tmp 3) rfl (w.heap.size + 1) rfl 30 D (0, 0) _ (blk_al B1 _) Try.underlying30 rfl j29.out ?_))
  obtain ⟨w2, hw2⟩ : ∃ w2, w2 = w1.alloc (.cells V 30) := ⟨_, rfl⟩
  have C1 : w2.heap[w.heap.size + 1]? = some (.cells D 30) := by rw [hw2]; exact blk_al B1 _
  have C2 : w2.heap[w1.heap.size]? = some (.cells V 30) := by rw [hw2]; exact heap_alloc_new w1 _
  have b2 : Below w.heap.size w w2 := by rw [hw2]; exact bel_via b1 (Below.al (Below.refl _ _) _)
  rw [← hw2]
  clear hw2 B1 b1
  refine ((ce _).mono ?_)
  rintro e w3 ⟨rfl, hb3⟩
  have D1 := blkB hb3 C1
  have D2 := blkB hb3 C2
  have b3 := bel_via b2 hb3
  clear C1 C2 b2 hb3 ce
  cases E with
  | true =>
    obtain rfl : R = true := by rw [HX.out]; rfl
    clear HX
    go_wp2
    go_ret
    exact ⟨rfl, b3⟩
  | false =>
    cases O with
    | false =>
      obtain rfl : R = false := by rw [HX.out]; rfl
      clear HX
      go_wp2
      go_ret
      exact ⟨rfl, b3⟩
    | true =>
      obtain rfl : R = Q := by rw [HX.out]; rfl
      clear HX
      have q29 := q29.out
      go_wp2_with (first
        | (refine wpList_load_row_on (by rfl) 30 (.tmp 5) rfl w1.heap.size rfl 30 V (0, 0) _ D2 Try.underlying30 rfl k29.out ?_)
        | (refine wpList_load_row_on (by rfl) 30 (.tmp 3) rfl (w.heap.size + 1) rfl 30 D (0, 0) _ D1 Try.underlying30 rfl j29.out ?_))
      go_ret
      exact ⟨rfl, b3⟩
end Go.Proofs.Ytomennaekjklbaa
