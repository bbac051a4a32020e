/- WindowWraps: the walk; by-name template (gen_wi2.py). -/
import Derived.Test.YtdgodndaaenafabWiK
import Derived.Test.YtdgodndaaenafabWiWq
namespace Go.Proofs.Ytdgodndaaenafab
open Go.RowKit Go.Lib Go.Sort
set_option linter.unusedVariables false
set_option linter.unusedSimpArgs false

theorem step_load_row {P : Program} {ops : Array Oper} {op : Oper} {a : Act} {w : World} {K : Act → World → Prop} {Q : Exit → Act → World → Prop} {E : Prop} (hgd : op.guard = none) (ty : TypeId) (x : Operand) (ho : op.op = .load ty x)
    (g : Nat) (hx : a.eval x = .pointer (some ⟨g, 0, none⟩)) (t : TypeId) (cs : Array Value) (fr : Nat × Nat) (d : TypeDesc) (hg : w.heap[g]? = some (.cells cs t fr))
    (hu : P.underlying ty = some d) (hd : (match d with | .struct _ | .array _ _ => true | _ => false) = true) (hi : (P.info? ty).map (·.size) = some cs.size)
    (h : K (a.put op.dst (.agg cs)) w) : if Region.wanted op (yielded ops a.tmps) = true then Oper.wp P op a w K Q else E := by
  have hw : Region.wanted op (yielded ops a.tmps) = true := by simp [Region.wanted, hgd]
  rw [if_pos hw]
  exact wp_load_row ty x ho g hx t cs fr d hg hu hd hi h
/-- what is read ahead of a call, but for the connection. -/
structure KT (W1 : World) (gb o XB : Nat) (s : WS) (x : TR) : Prop where
  tb : ∀ j v, (TA s.t).toList[j]? = some v → W1.cell? ((⟨gb, o + 1, none⟩ : Addr).add j) = some v
  bb : W1.cell? ⟨gb, o, none⟩ = some (.bool s.back)
  xb : W1.heap[XB]? = some (.cells (TA x) 24 (0, 0))
theorem KT.below {W1 W2 : World} {gb o XB : Nat} {s : WS} {x : TR} (h : KT W1 gb o XB s x) (b : Below W1.heap.size W1 W2) : KT W2 gb o XB s x :=
  ⟨fun j v hj => keepc b (h.tb j v hj), keepc b h.bb, kb b h.xb⟩
theorem KT.row {W1 : World} {gb o XB : Nat} {s : WS} {x : TR} (h : KT W1 gb o XB s x) {B : Nat} (h1 : XB ≠ B) (h2 : gb ≠ B) (C : Array Value) : KT (W1.setRow B C) gb o XB s x :=
  ⟨fun j v hj => by
      rw [addr_add]
      have := h.tb j v hj
      rw [addr_add] at this
      unfold World.cell? at this ⊢
      rw [setRow_other h2]; exact this, by
      have := h.bb
      unfold World.cell? at this ⊢
      rw [setRow_other h2]; exact this, (setRow_other h1 _).trans h.xb⟩
theorem row_bel {w0 w : World} (h : Below w0.heap.size w0 w) {B : Nat} (hB : w0.heap.size ≤ B) (C : Array Value) : Below w0.heap.size w0 (w.setRow B C) := Below.setRow h hB C
set_option maxRecDepth 100000 in
set_option maxHeartbeats 16000000 in
theorem wraps_any (f : TR) (A : Option Addr) (n cap : Nat) (l : List WS) (a b : Int) (w : World) (hS : Sl w 11 wscells A n l) (hL : ∀ s ∈ l, TrOk s.t) : Calls Try.prog 3 #[.agg (TA f), .slice A n cap, .int .u32 a, .int .u32 b] w (LawPost w) := by
  have HSl := Lib.hid hS
  have hLl := hS.len
  have hbig := hS.big
  obtain ⟨W, hW⟩ : ∃ W, W = w.alloc (.cells (TA f) 24) := ⟨_, rfl⟩
  have HW : Hid (W = w.alloc (.cells (TA f) 24)) := Lib.hid hW
  have HB : Hid (Below w.heap.size w W) := Lib.hid (by rw [hW]; exact bel_al _ _)
  have HT : Hid (W.heap[w.heap.size]? = some (.cells (TA f) 24 (0, 0))) := Lib.hid (by rw [hW]; exact blk_new w _)
  clear hW hS
  by_cases hn : 4096 < n
  · have hnI : (4096 : Int) < (n : Int) := by omega
    have hnD : decide (4096 < n) = true := decide_eq_true hn
    have hnD2 : decide ((4096 : Int) < (n : Int)) = true := decide_eq_true hnI
    go_enter Try.func3, Try.ntmps3
    go_upto_region 1 with fail
    rw [← HW.out]
    go_wp2_with fail
    go_ret
    exact ⟨rfl, HB.out⟩
  · have hnI : ¬ (4096 : Int) < (n : Int) := by omega
    have hnD : decide (4096 < n) = false := decide_eq_false hn
    have hnD2 : decide ((4096 : Int) < (n : Int)) = false := decide_eq_false hnI
    have cO := fun w1 : World => openC f w1
    have cP := fun w1 : World => ropenC f w1
    have cM := fun w1 : World => moved_any f a b w1
    have cD := fun w1 : World => openC (movP f a b) w1
    have hOP : (openP f).2 = false → (openP f).1 = zcn := by unfold openP; split <;> simp
    have hOQ : (openP f).2 = true → Shift a b (openP f).1 (openP (movP f a b)).1 := fun h => shift_open a b (by unfold openP at h; split at h; assumption; cases h)
    have HOP := Lib.hid hOP
    have HOQ := Lib.hid hOQ
    rw [open_same] at cD
    have HLS := Lib.hid hL
    clear hOP hOQ hL
    generalize (openP f).1 = O at *
    generalize (openP f).2 = is at *
    generalize (openP (movP f a b)).1 = O' at *
    go_enter Try.func3, Try.ntmps3
    go_upto_region 1 with fail
    rw [← HW.out]
    go_upto_region 4 with (first | ((with_reducible refine stop_op (o := ⟨some 21, _, _, _, _, _⟩) ?_); refine Lib.hid ?_; refine wpList_load_cells rfl 24 (.tmp 4) rfl ⟨w.heap.size, 0, none⟩ rfl (TA f) _ (blk_all HT.out) Try.underlying24 rfl (ta_inf f) ?_) | (go_at_call 7; ((with_reducible refine (cO _).mono ?_); rintro e w2 ⟨rfl, b2⟩)) | ((with_reducible refine stop_op (o := ⟨none, _, _, _, _, _⟩) ?_); refine Lib.hid ?_; refine wpList_store_row rfl 29 (.tmp 9) (.tmp 23) rfl w2.heap.size (CA O) rfl rfl 29 (CA zcn) (zrow w2) (ca_inf _) rfl (ca_one _) ?_; rw [World.setRow_alloc_new]))
    obtain ⟨w3, hw3⟩ : ∃ x, x = w2.alloc (.cells (CA O) 29) := ⟨_, rfl⟩
    have H3 : Hid (w3.heap[w2.heap.size]? = some (.cells (CA O) 29 (0, 0))) := Lib.hid (by rw [hw3]; exact blk_new w2 _)
    have b3 : Below w2.heap.size w2 w3 := by rw [hw3]; exact bel_al _ _
    rw [← hw3]
    clear hw3
    obtain ⟨B3, hB3⟩ : ∃ x, x = w2.heap.size := ⟨_, rfl⟩
    rw [← hB3] at H3 ⊢
    have HB3 := Lib.hid (bel_blk2 (bel_blk2 HB.out b2) b3)
    have HT3 := Lib.hid (kb b3 (kb b2 HT.out))
    have hBCw : w.heap.size ≤ B3 := by rw [hB3]; exact (bel_blk2 HB.out b2).size
    clear b2 b3 HT HB HW hB3
    go_upto_region 5 with (first | ((with_reducible refine stop_op (o := ⟨some 26, _, _, _, _, _⟩) ?_); refine Lib.hid ?_; refine wpList_load_cells rfl 24 (.tmp 4) rfl ⟨w.heap.size, 0, none⟩ rfl (TA f) _ (blk_all HT3.out) Try.underlying24 rfl (ta_inf f) ?_) | (go_at_call 8; ((with_reducible refine (cM _).mono ?_); rintro e w4 ⟨rfl, b4⟩)) | (go_at_call 7; ((with_reducible refine (cD _).mono ?_); rintro e w6 ⟨rfl, b6⟩)) | ((with_reducible refine stop_op (o := ⟨none, _, _, _, _, _⟩) ?_); refine Lib.hid ?_; refine wpList_store_row rfl 29 (.tmp 11) (.tmp 31) rfl w6.heap.size (CA O') rfl rfl 29 (CA zcn) (zrow w6) (ca_inf _) rfl (ca_one _) ?_; rw [World.setRow_alloc_new]))
    obtain ⟨w7, hw7⟩ : ∃ x, x = w6.alloc (.cells (CA O') 29) := ⟨_, rfl⟩
    have H7 : Hid (w7.heap[w6.heap.size]? = some (.cells (CA O') 29 (0, 0))) := Lib.hid (by rw [hw7]; exact blk_new w6 _)
    have b7 : Below w6.heap.size w6 w7 := by rw [hw7]; exact bel_al _ _
    rw [← hw7]
    clear hw7
    obtain ⟨B7, hB7⟩ : ∃ x, x = w6.heap.size := ⟨_, rfl⟩
    rw [← hB7] at H7 ⊢
    have HC7 := Lib.hid (kb b7 (kb b6 (kb b4 H3.out)))
    have HT7 := Lib.hid (kb b7 (kb b6 (kb b4 HT3.out)))
    have HB7 := Lib.hid (bel_blk2 (bel_blk2 (bel_blk2 HB3.out b4) b6) b7)
    have hBCl := blk_lt H3.out
    have hBDC : B3 < B7 := by rw [hB7]; exact Nat.lt_of_lt_of_le hBCl (Nat.le_trans b4.size b6.size)
    clear b4 b6 b7 hB7 HB3 HT3 H3 hBCl cM cD
    go_upto_region 6 with (first | ((with_reducible refine stop_op (o := ⟨some 34, _, _, _, _, _⟩) ?_); refine Lib.hid ?_; refine wpList_load_cells rfl 24 (.tmp 4) rfl ⟨w.heap.size, 0, none⟩ rfl (TA f) _ (blk_all HT7.out) Try.underlying24 rfl (ta_inf f) ?_) | (go_at_call 9; ((with_reducible refine (cP _).mono ?_); rintro e w8 ⟨rfl, b8⟩)) | ((with_reducible refine stop_op (o := ⟨none, _, _, _, _, _⟩) ?_); refine Lib.hid ?_; refine wpList_store_row rfl 35 (.tmp 13) (.tmp 36) rfl w8.heap.size (CA O) rfl rfl 35 (CA zcn) (rzrow w8) (rca_inf _) rfl (ca_one _) ?_; rw [World.setRow_alloc_new]))
    obtain ⟨w9, hw9⟩ : ∃ x, x = w8.alloc (.cells (CA O) 35) := ⟨_, rfl⟩
    have b9 : Below w8.heap.size w8 w9 := by rw [hw9]; exact bel_al _ _
    rw [← hw9]
    clear hw9
    have HC9 := Lib.hid (kb b9 (kb b8 HC7.out))
    have HD9 := Lib.hid (kb b9 (kb b8 H7.out))
    have HB9 := Lib.hid (bel_blk2 (bel_blk2 HB7.out b8) b9)
    clear b8 b9 HC7 HT7 HB7 H7 cO cP
    cases is
    · have hO := HOP.out rfl
      subst hO
      have eqz : ∀ W1 : World, (binOp .eql 29 (.agg (CA zcn)) (.agg #[.int .i64 0, .bool false, .int .u32 0, .int .u32 0, .bool false, .bool false, .int .u32 0, .int .u32 0, .bool false])).run Try.prog W1 = .ok (.bool true) W1 := fun W1 => by kernel_rfl
      go_wp2_with (first | ((with_reducible refine stop_op (o := ⟨some 48, _, _, _, _, _⟩) ?_); refine Lib.hid ?_; refine wpList_load_cells rfl 29 (.tmp 9) rfl ⟨B3, 0, none⟩ rfl (CA zcn) _ (blk_all HC9.out) Try.underlying29 rfl (ca_inf _) ?_))
      go_ret
      exact ⟨rfl, HB9.out⟩
    · have hsh := Lib.hid (HOQ.out rfl)
      clear HOP HOQ
      go_wp2_with fail
      obtain ⟨BC, hBC⟩ : ∃ x, x = B3 := ⟨_, rfl⟩
      obtain ⟨BD, hBD⟩ : ∃ x, x = B7 := ⟨_, rfl⟩
      rw [← hBC] at HC9 hBCw hBDC ⊢
      rw [← hBD] at HD9 hBDC ⊢
      clear hBC hBD
      go_loopw [15] (fun v15 wr => ∃ (k : Nat) (c d : CN), v15 = .int .i64 k ∧ k ≤ n ∧ Hid (Shift a b c d) ∧ Hid (wr.heap[BC]? = some (.cells (CA c) 29 (0, 0))) ∧ Hid (wr.heap[BD]? = some (.cells (CA d) 29 (0, 0))) ∧ Hid (Below w.heap.size w wr)) (fun v15 _ => n - (intOf v15).toNat)
      case atStart => exact ⟨0, O, O', rfl, by omega, hsh, HC9, HD9, HB9⟩
      case round =>
        obtain ⟨k, c, d, rfl, hk, HSh, HC, HD, HBr⟩ := hrel
        clear hsh HC9 HD9 HB9
        by_cases hlt : k < n
        · have hlti : (k : Int) < (n : Int) := by omega
          have hdn : decide (k < n) = true := by simp [hlt]
          obtain ⟨gb, off, s, rfl, hs, hgb, hks⟩ := ws_row HSl.out hlt
          have hKS := hks wr HBr.out BC c HC.out
          have hak := (HLS.out s (List.mem_of_getElem? hs)).2
          clear hks hs
          unfold u32ok at hak
          rcases hbk0 : s.back with _ | _
          · have cM := fun w1 : World => moved_any s.t a b w1
            have F := shift_next HSh.out false hak.1 hak.2
            simp only [Bool.false_eq_true, if_false] at F
            have cX := fun w1 : World => next_any c false s.t w1
            have cY := fun w1 : World => next_any d false (movP s.t a b) w1
            rw [F.2] at cY
            have hbk : s.back = false := hbk0
            have HF := Lib.hid F.1
            clear F
            generalize (nextP c false s.t).1 = N at *
            generalize (nextP c false s.t).2 = ok at *
            generalize (nextP d false (movP s.t a b)).1 = N' at *
            go_upto_region 14 with (first | ((with_reducible refine stop_op (o := ⟨some 61, _, _, _, _, _⟩) ?_); refine Lib.hid ?_; refine wpList_load_cells rfl 24 (.tmp 60) rfl ⟨gb, off + k * 11 + 1, none⟩ rfl (TA s.t) _ hKS.tb Try.underlying24 rfl (ta_inf s.t) ?_) | (go_at_call 8; ((with_reducible refine (cM _).mono ?_); rintro e w2 ⟨rfl, b2⟩)) | ((with_reducible refine stop_op (o := ⟨none, _, _, _, _, _⟩) ?_); refine Lib.hid ?_; refine wpList_store_row rfl 24 (.tmp 16) (.tmp 64) rfl w2.heap.size (TA (movP s.t a b)) rfl rfl 24 #[.int .i64 0, .int .i64 0, .int .u32 0, .int .u32 0, .int .i64 0, .int .i64 0, .int .i64 0, .int .i64 0, .int .i64 0, .int .i64 0] (blk_new w2 _) (ta_inf _) rfl (ta_one _) ?_; rw [World.setRow_alloc_new]))
            obtain ⟨w3, hw3⟩ : ∃ x, x = w2.alloc (.cells (TA (movP s.t a b)) 24) := ⟨_, rfl⟩
            have H3 : Hid (w3.heap[w2.heap.size]? = some (.cells (TA (movP s.t a b)) 24 (0, 0))) := Lib.hid (by rw [hw3]; exact blk_new w2 _)
            have b3 : Below w2.heap.size w2 w3 := by rw [hw3]; exact bel_al _ _
            rw [← hw3]
            clear hw3
            obtain ⟨B3, hB3⟩ : ∃ x, x = w2.heap.size := ⟨_, rfl⟩
            rw [← hB3] at H3 ⊢
            have HC3 := Lib.hid (kb b3 (kb b2 HC.out))
            have HD3 := Lib.hid (kb b3 (kb b2 HD.out))
            have HB3 := Lib.hid (bel_blk2 (bel_blk2 HBr.out b2) b3)
            have hKS := (hKS.below b2).below b3
            have hXBw : wr.heap.size ≤ B3 := by rw [hB3]; exact b2.size
            have hXw : w.heap.size ≤ B3 := Nat.le_trans HBr.out.size hXBw
            have hBCl := blk_lt HC.out
            have hBDl := blk_lt HD.out
            have hgbl : gb < wr.heap.size := Nat.lt_of_lt_of_le hgb HBr.out.size
            obtain ⟨XB, hXB⟩ : ∃ x, x = B3 := ⟨_, rfl⟩
            rw [← hXB] at H3 hXBw hXw ⊢
            clear b2 b3 hB3 hXB HC HD HBr cM
            have HC := HC3
            have HD := HD3
            have hbb := hKS.bb
            rw [hbk] at hbb
            clear HC3 HD3
            go_upto_region 16 with fail
            obtain ⟨wq, hwq⟩ : ∃ x, x = w3 := ⟨_, rfl⟩
            rw [← hwq] at H3 HC HD HB3 hKS hbb ⊢
            clear hwq
            have HBw := HB3
            have hXb := H3.out
            clear HB3 H3
            have hbb := hKS.bb
            obtain ⟨xx, hxx⟩ : ∃ x, x = movP s.t a b := ⟨_, rfl⟩
            rw [← hxx] at hXb cY
            have hKT : KT wq gb (off + k * 11) XB s xx := ⟨hKS.tb, hKS.bb, hXb⟩
            rw [hbk] at hbb
            clear hKS hXb hxx
            refine wp_region_held_drew (S := fun W1 : World => KT W1 gb (off + k * 11) XB s xx) (by kernel_rfl) (hKT.below (bel_dr (Below.refl _ _))) (fun hH => ?_)
            have hH0 := hKT.below (bel_dr (Below.refl _ _))
            have hc0 : wq.drew.heap[BC]? = some (.cells (CA c) 29 (0, 0)) := HC.out
            have ho0 : wq.drew.heap[BD]? = some (.cells (CA d) 29 (0, 0)) := HD.out
            have hb0 : Below w.heap.size w wq.drew := bel_dr HBw.out
            obtain ⟨wd, hwd⟩ : ∃ x, x = wq.drew := ⟨_, rfl⟩
            rw [← hwd] at hH0 hb0 hH hc0 ho0 ⊢
            clear hwd
            refine wpAnyH_take (i := 1) (oi := ⟨some 80, _, _, _, _, _⟩) (v := .slice (some ⟨gb, off, none⟩) n cap) rfl (by kernel_rfl) (by kernel_rfl) (by kernel_rfl) (fun _ _ _ h => h) (.inl ⟨by rfl, fun W hW => by go_simp⟩) hH0 ?_
            try simp only [Act.put, List.setIfInBounds_toArray, List.set_cons_zero, List.set_cons_succ]
            refine wpAnyH_take (i := 2) (oi := ⟨some 81, _, _, _, _, _⟩) (v := .int .i64 k) rfl (by kernel_rfl) (by kernel_rfl) (by kernel_rfl) (fun _ _ _ h => h) (.inl ⟨by rfl, fun W hW => by go_simp⟩) hH0 ?_
            try simp only [Act.put, List.setIfInBounds_toArray, List.set_cons_zero, List.set_cons_succ]
            refine wpAnyH_take (i := 3) (oi := ⟨some 82, _, _, _, _, _⟩) (v := .pointer (some ⟨gb, off + k * 11, none⟩)) rfl (by kernel_rfl) (by kernel_rfl) (by kernel_rfl) (fun _ _ _ h => h) (.inl ⟨by rfl, fun W hW => by go_simp⟩) hH0 ?_
            try simp only [Act.put, List.setIfInBounds_toArray, List.set_cons_zero, List.set_cons_succ]
            refine wpAnyH_take (i := 4) (oi := ⟨some 83, _, _, _, _, _⟩) (v := .pointer (some ⟨gb, off + k * 11, none⟩)) rfl (by kernel_rfl) (by kernel_rfl) (by kernel_rfl) (fun _ _ _ h => h) (.inl ⟨by rfl, fun W hW => by go_simp⟩) hH0 ?_
            try simp only [Act.put, List.setIfInBounds_toArray, List.set_cons_zero, List.set_cons_succ]
            refine wpAnyH_take (i := 5) (oi := ⟨some 84, _, _, _, _, _⟩) (v := .bool s.back) rfl (by kernel_rfl) (by kernel_rfl) (by kernel_rfl) (fun _ _ _ h => h) (.inl ⟨by rfl, fun W hW => by have := hW.bb; go_simp⟩) hH0 ?_
            try simp only [Act.put, List.setIfInBounds_toArray, List.set_cons_zero, List.set_cons_succ]
            refine wpAnyH_take (i := 6) (oi := ⟨some 85, _, _, _, _, _⟩) (v := .slice (some ⟨gb, off, none⟩) n cap) rfl (by kernel_rfl) (by kernel_rfl) (by kernel_rfl) (fun _ _ _ h => h) (.inl ⟨by rfl, fun W hW => by go_simp⟩) hH0 ?_
            try simp only [Act.put, List.setIfInBounds_toArray, List.set_cons_zero, List.set_cons_succ]
            refine wpAnyH_take (i := 7) (oi := ⟨some 86, _, _, _, _, _⟩) (v := .int .i64 k) rfl (by kernel_rfl) (by kernel_rfl) (by kernel_rfl) (fun _ _ _ h => h) (.inl ⟨by rfl, fun W hW => by go_simp⟩) hH0 ?_
            try simp only [Act.put, List.setIfInBounds_toArray, List.set_cons_zero, List.set_cons_succ]
            refine wpAnyH_take (i := 8) (oi := ⟨some 87, _, _, _, _, _⟩) (v := .pointer (some ⟨gb, off + k * 11, none⟩)) rfl (by kernel_rfl) (by kernel_rfl) (by kernel_rfl) (fun _ _ _ h => h) (.inl ⟨by rfl, fun W hW => by go_simp⟩) hH0 ?_
            try simp only [Act.put, List.setIfInBounds_toArray, List.set_cons_zero, List.set_cons_succ]
            refine wpAnyH_take (i := 9) (oi := ⟨some 88, _, _, _, _, _⟩) (v := .pointer (some ⟨gb, off + k * 11 + 1, none⟩)) rfl (by kernel_rfl) (by kernel_rfl) (by kernel_rfl) (fun _ _ _ h => h) (.inl ⟨by rfl, fun W hW => by go_simp⟩) hH0 ?_
            try simp only [Act.put, List.setIfInBounds_toArray, List.set_cons_zero, List.set_cons_succ]
            refine wpAnyH_take (i := 10) (oi := ⟨some 89, _, _, _, _, _⟩) (v := .agg (TA s.t)) rfl (by kernel_rfl) (by kernel_rfl) (by kernel_rfl) (fun _ _ _ h => h) (yields_cells (by rfl) 24 _ rfl ⟨gb, off + k * 11 + 1, none⟩ rfl (TA s.t) _ (fun W hW => hW.tb) Try.underlying24 rfl (ta_inf s.t)) hH0 ?_
            try simp only [Act.put, List.setIfInBounds_toArray, List.set_cons_zero, List.set_cons_succ]
            refine wpAnyH_ready (rs := [0]) (by kernel_rfl) (by simp) ?_
            refine AllReadyH.cons (o := ⟨some 79, _, _, _, _, _⟩) rfl (fun K hK => ?_) AllReadyH.nil
            refine step_load_row rfl 29 (.tmp 9) rfl BC rfl 29 (CA c) (0, 0) _ hc0 Try.underlying29 rfl (ca_inf _) ?_
            refine hK.out _ _ hH0 (fun _ => ?_)
            clear hK K
            try simp only [Act.put, List.setIfInBounds_toArray, List.set_cons_zero, List.set_cons_succ]
            refine wpAnyH_ready (rs := [11]) (by kernel_rfl) (by simp) ?_
            refine AllReadyH.cons (o := ⟨some 90, _, _, _, _, _⟩) rfl (fun K hK => ?_) AllReadyH.nil
            go_simp
            go_at_call 10
            ((with_reducible refine (cX _).mono ?_); rintro e w20 ⟨rfl, b20⟩)
            have hS20 := hH0.below b20
            have hc20 := kb b20 hc0
            have ho20 := kb b20 ho0
            have hb20 := bel_blk2 hb0 b20
            refine hK.out _ _ hS20 (fun _ => ?_)
            clear hK K
            try simp only [Act.put, List.setIfInBounds_toArray, List.set_cons_zero, List.set_cons_succ]
            refine wpAnyH_take (i := 12) (oi := ⟨some 78, _, _, _, _, _⟩) (v := .tuple #[.agg (CA N), .bool ok]) rfl (by kernel_rfl) (by kernel_rfl) (by kernel_rfl) (fun _ _ _ h => h) (.inl ⟨by rfl, fun W hW => by go_simp⟩) hS20 ?_
            try simp only [Act.put, List.setIfInBounds_toArray, List.set_cons_zero, List.set_cons_succ]
            refine wpAnyH_take (i := 13) (oi := ⟨some 91, _, _, _, _, _⟩) (v := .agg (CA N)) rfl (by kernel_rfl) (by kernel_rfl) (by kernel_rfl) (fun _ _ _ h => h) (.inl ⟨by rfl, fun W hW => by go_simp⟩) hS20 ?_
            try simp only [Act.put, List.setIfInBounds_toArray, List.set_cons_zero, List.set_cons_succ]
            refine wpAnyH_take (i := 14) (oi := ⟨some 92, _, _, _, _, _⟩) (v := .bool ok) rfl (by kernel_rfl) (by kernel_rfl) (by kernel_rfl) (fun _ _ _ h => h) (.inl ⟨by rfl, fun W hW => by go_simp⟩) hS20 ?_
            try simp only [Act.put, List.setIfInBounds_toArray, List.set_cons_zero, List.set_cons_succ]
            refine wpAnyH_ready (rs := [15]) (by kernel_rfl) (by simp) ?_
            refine AllReadyH.cons (o := ⟨none, _, _, _, _, _⟩) rfl (fun K hK => ?_) AllReadyH.nil
            refine step_store_row rfl 29 (.tmp 9) (.tmp 91) rfl BC (CA N) rfl rfl 29 (CA c) hc20 (ca_inf _) rfl (ca_one _) ?_
            have hSz := hS20.row (B := BC) (by omega) (by omega) (CA N)
            have hVz := blk_setRow hc20 (CA N)
            have hOz : (w20.setRow BC (CA N)).heap[BD]? = _ := (setRow_other (by omega) _).trans ho20
            have hbz := row_bel hb20 (B := BC) (by omega) (CA N)
            refine hK.out _ _ hSz (fun _ => ?_)
            clear hK K
            try simp only [Act.put, List.setIfInBounds_toArray, List.set_cons_zero, List.set_cons_succ]
            refine wpAnyH_take (i := 16) (oi := ⟨some 10, _, _, _, _, _⟩) (v := .bool ok) rfl (by kernel_rfl) (by kernel_rfl) (by kernel_rfl) (fun _ _ _ h => h) (.inl ⟨by rfl, fun W hW => by go_simp⟩) hSz ?_
            try simp only [Act.put, List.setIfInBounds_toArray, List.set_cons_zero, List.set_cons_succ]
            refine wpAnyH_done (by kernel_rfl) ?_ _
            try simp only [Act.put, List.setIfInBounds_toArray, List.set_cons_zero, List.set_cons_succ]
            generalize w20.setRow BC (CA N) = wv at *
            have HC := Lib.hid hVz
            have HD := Lib.hid hOz
            have HBw := Lib.hid hbz
            have hKT := hSz
            clear hVz hOz hbz hSz hc20 ho20 hb20 hS20 hc0 ho0 hb0 hH0 hH b20
            go_wp2_with fail
            refine wp_region_held_drew (S := fun W1 : World => KT W1 gb (off + k * 11) XB s xx) (by kernel_rfl) (hKT.below (bel_dr (Below.refl _ _))) (fun hH => ?_)
            have hH0 := hKT.below (bel_dr (Below.refl _ _))
            have hc0 : wv.drew.heap[BD]? = some (.cells (CA d) 29 (0, 0)) := HD.out
            have ho0 : wv.drew.heap[BC]? = some (.cells (CA N) 29 (0, 0)) := HC.out
            have hb0 : Below w.heap.size w wv.drew := bel_dr HBw.out
            obtain ⟨wd, hwd⟩ : ∃ x, x = wv.drew := ⟨_, rfl⟩
            rw [← hwd] at hH0 hb0 hH hc0 ho0 ⊢
            clear hwd
            refine wpAnyH_take (i := 1) (oi := ⟨some 95, _, _, _, _, _⟩) (v := .slice (some ⟨gb, off, none⟩) n cap) rfl (by kernel_rfl) (by kernel_rfl) (by kernel_rfl) (fun _ _ _ h => h) (.inl ⟨by rfl, fun W hW => by go_simp⟩) hH0 ?_
            try simp only [Act.put, List.setIfInBounds_toArray, List.set_cons_zero, List.set_cons_succ]
            refine wpAnyH_take (i := 2) (oi := ⟨some 96, _, _, _, _, _⟩) (v := .int .i64 k) rfl (by kernel_rfl) (by kernel_rfl) (by kernel_rfl) (fun _ _ _ h => h) (.inl ⟨by rfl, fun W hW => by go_simp⟩) hH0 ?_
            try simp only [Act.put, List.setIfInBounds_toArray, List.set_cons_zero, List.set_cons_succ]
            refine wpAnyH_take (i := 3) (oi := ⟨some 97, _, _, _, _, _⟩) (v := .pointer (some ⟨gb, off + k * 11, none⟩)) rfl (by kernel_rfl) (by kernel_rfl) (by kernel_rfl) (fun _ _ _ h => h) (.inl ⟨by rfl, fun W hW => by go_simp⟩) hH0 ?_
            try simp only [Act.put, List.setIfInBounds_toArray, List.set_cons_zero, List.set_cons_succ]
            refine wpAnyH_take (i := 4) (oi := ⟨some 98, _, _, _, _, _⟩) (v := .pointer (some ⟨gb, off + k * 11, none⟩)) rfl (by kernel_rfl) (by kernel_rfl) (by kernel_rfl) (fun _ _ _ h => h) (.inl ⟨by rfl, fun W hW => by go_simp⟩) hH0 ?_
            try simp only [Act.put, List.setIfInBounds_toArray, List.set_cons_zero, List.set_cons_succ]
            refine wpAnyH_take (i := 5) (oi := ⟨some 99, _, _, _, _, _⟩) (v := .bool s.back) rfl (by kernel_rfl) (by kernel_rfl) (by kernel_rfl) (fun _ _ _ h => h) (.inl ⟨by rfl, fun W hW => by have := hW.bb; go_simp⟩) hH0 ?_
            try simp only [Act.put, List.setIfInBounds_toArray, List.set_cons_zero, List.set_cons_succ]
            refine wpAnyH_take (i := 6) (oi := ⟨some 100, _, _, _, _, _⟩) (v := .agg (TA xx)) rfl (by kernel_rfl) (by kernel_rfl) (by kernel_rfl) (fun _ _ _ h => h) (yields_rowK (by rfl) 24 _ rfl XB rfl (TA xx) 24 _ (fun W hW => hW.xb) Try.underlying24 rfl (ta_inf _)) hH0 ?_
            try simp only [Act.put, List.setIfInBounds_toArray, List.set_cons_zero, List.set_cons_succ]
            refine wpAnyH_ready (rs := [0]) (by kernel_rfl) (by simp) ?_
            refine AllReadyH.cons (o := ⟨some 94, _, _, _, _, _⟩) rfl (fun K hK => ?_) AllReadyH.nil
            refine step_load_row rfl 29 (.tmp 11) rfl BD rfl 29 (CA d) (0, 0) _ hc0 Try.underlying29 rfl (ca_inf _) ?_
            refine hK.out _ _ hH0 (fun _ => ?_)
            clear hK K
            try simp only [Act.put, List.setIfInBounds_toArray, List.set_cons_zero, List.set_cons_succ]
            refine wpAnyH_ready (rs := [7]) (by kernel_rfl) (by simp) ?_
            refine AllReadyH.cons (o := ⟨some 101, _, _, _, _, _⟩) rfl (fun K hK => ?_) AllReadyH.nil
            go_simp
            go_at_call 10
            ((with_reducible refine (cY _).mono ?_); rintro e w20 ⟨rfl, b20⟩)
            have hS20 := hH0.below b20
            have hc20 := kb b20 hc0
            have ho20 := kb b20 ho0
            have hb20 := bel_blk2 hb0 b20
            refine hK.out _ _ hS20 (fun _ => ?_)
            clear hK K
            try simp only [Act.put, List.setIfInBounds_toArray, List.set_cons_zero, List.set_cons_succ]
            refine wpAnyH_take (i := 8) (oi := ⟨some 93, _, _, _, _, _⟩) (v := .tuple #[.agg (CA N'), .bool ok]) rfl (by kernel_rfl) (by kernel_rfl) (by kernel_rfl) (fun _ _ _ h => h) (.inl ⟨by rfl, fun W hW => by go_simp⟩) hS20 ?_
            try simp only [Act.put, List.setIfInBounds_toArray, List.set_cons_zero, List.set_cons_succ]
            refine wpAnyH_take (i := 9) (oi := ⟨some 102, _, _, _, _, _⟩) (v := .agg (CA N')) rfl (by kernel_rfl) (by kernel_rfl) (by kernel_rfl) (fun _ _ _ h => h) (.inl ⟨by rfl, fun W hW => by go_simp⟩) hS20 ?_
            try simp only [Act.put, List.setIfInBounds_toArray, List.set_cons_zero, List.set_cons_succ]
            refine wpAnyH_take (i := 10) (oi := ⟨some 103, _, _, _, _, _⟩) (v := .bool ok) rfl (by kernel_rfl) (by kernel_rfl) (by kernel_rfl) (fun _ _ _ h => h) (.inl ⟨by rfl, fun W hW => by go_simp⟩) hS20 ?_
            try simp only [Act.put, List.setIfInBounds_toArray, List.set_cons_zero, List.set_cons_succ]
            refine wpAnyH_ready (rs := [11]) (by kernel_rfl) (by simp) ?_
            refine AllReadyH.cons (o := ⟨none, _, _, _, _, _⟩) rfl (fun K hK => ?_) AllReadyH.nil
            refine step_store_row rfl 29 (.tmp 11) (.tmp 102) rfl BD (CA N') rfl rfl 29 (CA d) hc20 (ca_inf _) rfl (ca_one _) ?_
            have hSz := hS20.row (B := BD) (by omega) (by omega) (CA N')
            have hVz := blk_setRow hc20 (CA N')
            have hOz : (w20.setRow BD (CA N')).heap[BC]? = _ := (setRow_other (by omega) _).trans ho20
            have hbz := row_bel hb20 (B := BD) (by omega) (CA N')
            refine hK.out _ _ hSz (fun _ => ?_)
            clear hK K
            try simp only [Act.put, List.setIfInBounds_toArray, List.set_cons_zero, List.set_cons_succ]
            refine wpAnyH_take (i := 12) (oi := ⟨some 12, _, _, _, _, _⟩) (v := .bool ok) rfl (by kernel_rfl) (by kernel_rfl) (by kernel_rfl) (fun _ _ _ h => h) (.inl ⟨by rfl, fun W hW => by go_simp⟩) hSz ?_
            try simp only [Act.put, List.setIfInBounds_toArray, List.set_cons_zero, List.set_cons_succ]
            refine wpAnyH_done (by kernel_rfl) ?_ _
            try simp only [Act.put, List.setIfInBounds_toArray, List.set_cons_zero, List.set_cons_succ]
            generalize w20.setRow BD (CA N') = wu at *
            have HDz := Lib.hid hVz
            have HCz := Lib.hid hOz
            have HBz := Lib.hid hbz
            clear hVz hOz hbz hSz hc20 ho20 hb20 hS20 hc0 ho0 hb0 hH0 hH b20 HC HD HBw
            obtain ⟨c0, c1, c2, c3, c4, c5, c6, c7, c8⟩ := ca_cells HCz.out
            obtain ⟨d0, d1, d2, d3, d4, d5, d6, d7, d8⟩ := ca_cells HDz.out
            rw [HF.out.st] at d0
            rw [HF.out.a.1] at d1
            rw [(HF.out.a.2.2 HF.out.sa).1] at d2
            rw [HF.out.b.1] at d5
            have FE := HF.out.b.2.2
            clear c3 c4 c7 c8 d3 d4 d7 d8 hbb hbk hbk0 hKT cX cY
            rcases hbs : N.b.seen with _ | _
            · rw [hbs] at c5 d5
              clear FE hbs
              go_wp2_with fail
              go_roundw
              case rel => exact ⟨k + 1, N, N', by go_num, by omega, HF, HCz, HDz, HBz⟩
              case measure => simp [intOf]; omega
            · rw [hbs] at c5 d5
              have FE2 := (FE hbs).1
              rw [FE2] at d6
              clear FE FE2 hbs
              go_wp2_with fail
              go_roundw
              case rel => exact ⟨k + 1, N, N', by go_num, by omega, HF, HCz, HDz, HBz⟩
              case measure => simp [intOf]; omega

          · have cM := fun w1 : World => moved_any s.t a b w1
            have F := shift_next HSh.out true hak.1 hak.2
            simp only [if_true] at F
            have cX := fun w1 : World => next_any c true s.t w1
            have cY := fun w1 : World => next_any d true (movP s.t b a) w1
            rw [F.2] at cY
            have hbk : s.back = true := hbk0
            have HF := Lib.hid F.1
            clear F
            generalize (nextP c true s.t).1 = N at *
            generalize (nextP c true s.t).2 = ok at *
            generalize (nextP d true (movP s.t b a)).1 = N' at *
            go_upto_region 14 with (first | ((with_reducible refine stop_op (o := ⟨some 61, _, _, _, _, _⟩) ?_); refine Lib.hid ?_; refine wpList_load_cells rfl 24 (.tmp 60) rfl ⟨gb, off + k * 11 + 1, none⟩ rfl (TA s.t) _ hKS.tb Try.underlying24 rfl (ta_inf s.t) ?_) | (go_at_call 8; ((with_reducible refine (cM _).mono ?_); rintro e w2 ⟨rfl, b2⟩)) | ((with_reducible refine stop_op (o := ⟨none, _, _, _, _, _⟩) ?_); refine Lib.hid ?_; refine wpList_store_row rfl 24 (.tmp 16) (.tmp 64) rfl w2.heap.size (TA (movP s.t a b)) rfl rfl 24 #[.int .i64 0, .int .i64 0, .int .u32 0, .int .u32 0, .int .i64 0, .int .i64 0, .int .i64 0, .int .i64 0, .int .i64 0, .int .i64 0] (blk_new w2 _) (ta_inf _) rfl (ta_one _) ?_; rw [World.setRow_alloc_new]))
            obtain ⟨w3, hw3⟩ : ∃ x, x = w2.alloc (.cells (TA (movP s.t a b)) 24) := ⟨_, rfl⟩
            have H3 : Hid (w3.heap[w2.heap.size]? = some (.cells (TA (movP s.t a b)) 24 (0, 0))) := Lib.hid (by rw [hw3]; exact blk_new w2 _)
            have b3 : Below w2.heap.size w2 w3 := by rw [hw3]; exact bel_al _ _
            rw [← hw3]
            clear hw3
            obtain ⟨B3, hB3⟩ : ∃ x, x = w2.heap.size := ⟨_, rfl⟩
            rw [← hB3] at H3 ⊢
            have HC3 := Lib.hid (kb b3 (kb b2 HC.out))
            have HD3 := Lib.hid (kb b3 (kb b2 HD.out))
            have HB3 := Lib.hid (bel_blk2 (bel_blk2 HBr.out b2) b3)
            have hKS := (hKS.below b2).below b3
            have hXBw : wr.heap.size ≤ B3 := by rw [hB3]; exact b2.size
            have hXw : w.heap.size ≤ B3 := Nat.le_trans HBr.out.size hXBw
            have hBCl := blk_lt HC.out
            have hBDl := blk_lt HD.out
            have hgbl : gb < wr.heap.size := Nat.lt_of_lt_of_le hgb HBr.out.size
            obtain ⟨XB, hXB⟩ : ∃ x, x = B3 := ⟨_, rfl⟩
            rw [← hXB] at H3 hXBw hXw ⊢
            clear b2 b3 hB3 hXB HC HD HBr cM
            have HC := HC3
            have HD := HD3
            have hbb := hKS.bb
            rw [hbk] at hbb
            clear HC3 HD3
            have cM2 := fun w1 : World => moved_any s.t b a w1
            go_upto_region 16 with (first | ((with_reducible refine stop_op (o := ⟨some 74, _, _, _, _, _⟩) ?_); refine Lib.hid ?_; refine wpList_load_cells rfl 24 (.tmp 73) rfl ⟨gb, off + k * 11 + 1, none⟩ rfl (TA s.t) _ hKS.tb Try.underlying24 rfl (ta_inf s.t) ?_) | (go_at_call 8; ((with_reducible refine (cM2 _).mono ?_); rintro e w4 ⟨rfl, b4⟩); have H4 := kb b4 H3.out; have HC4 := Lib.hid (kb b4 HC.out); have HD4 := Lib.hid (kb b4 HD.out); have HB4 := Lib.hid (bel_blk2 HB3.out b4); have hKS4 := hKS.below b4; clear b4) | ((with_reducible refine stop_op (o := ⟨none, _, _, _, _, _⟩) ?_); refine Lib.hid ?_; refine wpList_store_row rfl 24 (.tmp 16) (.tmp 77) rfl (XB) (TA (movP s.t b a)) rfl rfl 24 (TA (movP s.t a b)) (H4) (ta_inf _) rfl (ta_one _) ?_))
            have H5 := blk_setRow H4 (TA (movP s.t b a))
            obtain ⟨wq, hwq⟩ : ∃ x, x = w4.setRow XB (TA (movP s.t b a)) := ⟨_, rfl⟩
            rw [← hwq] at H5 ⊢
            have HC5 : Hid (wq.heap[BC]? = some (.cells (CA c) 29 (0, 0))) := Lib.hid (by rw [hwq]; exact (setRow_other (by omega) _).trans HC4.out)
            have HD5 : Hid (wq.heap[BD]? = some (.cells (CA d) 29 (0, 0))) := Lib.hid (by rw [hwq]; exact (setRow_other (by omega) _).trans HD4.out)
            have HBw : Hid (Below w.heap.size w wq) := Lib.hid (by rw [hwq]; exact row_bel HB4.out (by omega) _)
            have hKS5 : KS wq BC gb (off + k * 11) c s := by rw [hwq]; exact hKS4.row (by omega) (by omega) _
            clear hwq HC HD H4 HC4 HD4 HB4 hKS4 HB3 H3 hKS cM2
            have HC := HC5
            have HD := HD5
            have hKS := hKS5
            have hXb := H5
            clear HC5 HD5 hKS5 H5
            have hbb := hKS.bb
            obtain ⟨xx, hxx⟩ : ∃ x, x = movP s.t b a := ⟨_, rfl⟩
            rw [← hxx] at hXb cY
            have hKT : KT wq gb (off + k * 11) XB s xx := ⟨hKS.tb, hKS.bb, hXb⟩
            rw [hbk] at hbb
            clear hKS hXb hxx
            refine wp_region_held_drew (S := fun W1 : World => KT W1 gb (off + k * 11) XB s xx) (by kernel_rfl) (hKT.below (bel_dr (Below.refl _ _))) (fun hH => ?_)
            have hH0 := hKT.below (bel_dr (Below.refl _ _))
            have hc0 : wq.drew.heap[BC]? = some (.cells (CA c) 29 (0, 0)) := HC.out
            have ho0 : wq.drew.heap[BD]? = some (.cells (CA d) 29 (0, 0)) := HD.out
            have hb0 : Below w.heap.size w wq.drew := bel_dr HBw.out
            obtain ⟨wd, hwd⟩ : ∃ x, x = wq.drew := ⟨_, rfl⟩
            rw [← hwd] at hH0 hb0 hH hc0 ho0 ⊢
            clear hwd
            refine wpAnyH_take (i := 1) (oi := ⟨some 80, _, _, _, _, _⟩) (v := .slice (some ⟨gb, off, none⟩) n cap) rfl (by kernel_rfl) (by kernel_rfl) (by kernel_rfl) (fun _ _ _ h => h) (.inl ⟨by rfl, fun W hW => by go_simp⟩) hH0 ?_
            try simp only [Act.put, List.setIfInBounds_toArray, List.set_cons_zero, List.set_cons_succ]
            refine wpAnyH_take (i := 2) (oi := ⟨some 81, _, _, _, _, _⟩) (v := .int .i64 k) rfl (by kernel_rfl) (by kernel_rfl) (by kernel_rfl) (fun _ _ _ h => h) (.inl ⟨by rfl, fun W hW => by go_simp⟩) hH0 ?_
            try simp only [Act.put, List.setIfInBounds_toArray, List.set_cons_zero, List.set_cons_succ]
            refine wpAnyH_take (i := 3) (oi := ⟨some 82, _, _, _, _, _⟩) (v := .pointer (some ⟨gb, off + k * 11, none⟩)) rfl (by kernel_rfl) (by kernel_rfl) (by kernel_rfl) (fun _ _ _ h => h) (.inl ⟨by rfl, fun W hW => by go_simp⟩) hH0 ?_
            try simp only [Act.put, List.setIfInBounds_toArray, List.set_cons_zero, List.set_cons_succ]
            refine wpAnyH_take (i := 4) (oi := ⟨some 83, _, _, _, _, _⟩) (v := .pointer (some ⟨gb, off + k * 11, none⟩)) rfl (by kernel_rfl) (by kernel_rfl) (by kernel_rfl) (fun _ _ _ h => h) (.inl ⟨by rfl, fun W hW => by go_simp⟩) hH0 ?_
            try simp only [Act.put, List.setIfInBounds_toArray, List.set_cons_zero, List.set_cons_succ]
            refine wpAnyH_take (i := 5) (oi := ⟨some 84, _, _, _, _, _⟩) (v := .bool s.back) rfl (by kernel_rfl) (by kernel_rfl) (by kernel_rfl) (fun _ _ _ h => h) (.inl ⟨by rfl, fun W hW => by have := hW.bb; go_simp⟩) hH0 ?_
            try simp only [Act.put, List.setIfInBounds_toArray, List.set_cons_zero, List.set_cons_succ]
            refine wpAnyH_take (i := 6) (oi := ⟨some 85, _, _, _, _, _⟩) (v := .slice (some ⟨gb, off, none⟩) n cap) rfl (by kernel_rfl) (by kernel_rfl) (by kernel_rfl) (fun _ _ _ h => h) (.inl ⟨by rfl, fun W hW => by go_simp⟩) hH0 ?_
            try simp only [Act.put, List.setIfInBounds_toArray, List.set_cons_zero, List.set_cons_succ]
            refine wpAnyH_take (i := 7) (oi := ⟨some 86, _, _, _, _, _⟩) (v := .int .i64 k) rfl (by kernel_rfl) (by kernel_rfl) (by kernel_rfl) (fun _ _ _ h => h) (.inl ⟨by rfl, fun W hW => by go_simp⟩) hH0 ?_
            try simp only [Act.put, List.setIfInBounds_toArray, List.set_cons_zero, List.set_cons_succ]
            refine wpAnyH_take (i := 8) (oi := ⟨some 87, _, _, _, _, _⟩) (v := .pointer (some ⟨gb, off + k * 11, none⟩)) rfl (by kernel_rfl) (by kernel_rfl) (by kernel_rfl) (fun _ _ _ h => h) (.inl ⟨by rfl, fun W hW => by go_simp⟩) hH0 ?_
            try simp only [Act.put, List.setIfInBounds_toArray, List.set_cons_zero, List.set_cons_succ]
            refine wpAnyH_take (i := 9) (oi := ⟨some 88, _, _, _, _, _⟩) (v := .pointer (some ⟨gb, off + k * 11 + 1, none⟩)) rfl (by kernel_rfl) (by kernel_rfl) (by kernel_rfl) (fun _ _ _ h => h) (.inl ⟨by rfl, fun W hW => by go_simp⟩) hH0 ?_
            try simp only [Act.put, List.setIfInBounds_toArray, List.set_cons_zero, List.set_cons_succ]
            refine wpAnyH_take (i := 10) (oi := ⟨some 89, _, _, _, _, _⟩) (v := .agg (TA s.t)) rfl (by kernel_rfl) (by kernel_rfl) (by kernel_rfl) (fun _ _ _ h => h) (yields_cells (by rfl) 24 _ rfl ⟨gb, off + k * 11 + 1, none⟩ rfl (TA s.t) _ (fun W hW => hW.tb) Try.underlying24 rfl (ta_inf s.t)) hH0 ?_
            try simp only [Act.put, List.setIfInBounds_toArray, List.set_cons_zero, List.set_cons_succ]
            refine wpAnyH_ready (rs := [0]) (by kernel_rfl) (by simp) ?_
            refine AllReadyH.cons (o := ⟨some 79, _, _, _, _, _⟩) rfl (fun K hK => ?_) AllReadyH.nil
            refine step_load_row rfl 29 (.tmp 9) rfl BC rfl 29 (CA c) (0, 0) _ hc0 Try.underlying29 rfl (ca_inf _) ?_
            refine hK.out _ _ hH0 (fun _ => ?_)
            clear hK K
            try simp only [Act.put, List.setIfInBounds_toArray, List.set_cons_zero, List.set_cons_succ]
            refine wpAnyH_ready (rs := [11]) (by kernel_rfl) (by simp) ?_
            refine AllReadyH.cons (o := ⟨some 90, _, _, _, _, _⟩) rfl (fun K hK => ?_) AllReadyH.nil
            go_simp
            go_at_call 10
            ((with_reducible refine (cX _).mono ?_); rintro e w20 ⟨rfl, b20⟩)
            have hS20 := hH0.below b20
            have hc20 := kb b20 hc0
            have ho20 := kb b20 ho0
            have hb20 := bel_blk2 hb0 b20
            refine hK.out _ _ hS20 (fun _ => ?_)
            clear hK K
            try simp only [Act.put, List.setIfInBounds_toArray, List.set_cons_zero, List.set_cons_succ]
            refine wpAnyH_take (i := 12) (oi := ⟨some 78, _, _, _, _, _⟩) (v := .tuple #[.agg (CA N), .bool ok]) rfl (by kernel_rfl) (by kernel_rfl) (by kernel_rfl) (fun _ _ _ h => h) (.inl ⟨by rfl, fun W hW => by go_simp⟩) hS20 ?_
            try simp only [Act.put, List.setIfInBounds_toArray, List.set_cons_zero, List.set_cons_succ]
            refine wpAnyH_take (i := 13) (oi := ⟨some 91, _, _, _, _, _⟩) (v := .agg (CA N)) rfl (by kernel_rfl) (by kernel_rfl) (by kernel_rfl) (fun _ _ _ h => h) (.inl ⟨by rfl, fun W hW => by go_simp⟩) hS20 ?_
            try simp only [Act.put, List.setIfInBounds_toArray, List.set_cons_zero, List.set_cons_succ]
            refine wpAnyH_take (i := 14) (oi := ⟨some 92, _, _, _, _, _⟩) (v := .bool ok) rfl (by kernel_rfl) (by kernel_rfl) (by kernel_rfl) (fun _ _ _ h => h) (.inl ⟨by rfl, fun W hW => by go_simp⟩) hS20 ?_
            try simp only [Act.put, List.setIfInBounds_toArray, List.set_cons_zero, List.set_cons_succ]
            refine wpAnyH_ready (rs := [15]) (by kernel_rfl) (by simp) ?_
            refine AllReadyH.cons (o := ⟨none, _, _, _, _, _⟩) rfl (fun K hK => ?_) AllReadyH.nil
            refine step_store_row rfl 29 (.tmp 9) (.tmp 91) rfl BC (CA N) rfl rfl 29 (CA c) hc20 (ca_inf _) rfl (ca_one _) ?_
            have hSz := hS20.row (B := BC) (by omega) (by omega) (CA N)
            have hVz := blk_setRow hc20 (CA N)
            have hOz : (w20.setRow BC (CA N)).heap[BD]? = _ := (setRow_other (by omega) _).trans ho20
            have hbz := row_bel hb20 (B := BC) (by omega) (CA N)
            refine hK.out _ _ hSz (fun _ => ?_)
            clear hK K
            try simp only [Act.put, List.setIfInBounds_toArray, List.set_cons_zero, List.set_cons_succ]
            refine wpAnyH_take (i := 16) (oi := ⟨some 10, _, _, _, _, _⟩) (v := .bool ok) rfl (by kernel_rfl) (by kernel_rfl) (by kernel_rfl) (fun _ _ _ h => h) (.inl ⟨by rfl, fun W hW => by go_simp⟩) hSz ?_
            try simp only [Act.put, List.setIfInBounds_toArray, List.set_cons_zero, List.set_cons_succ]
            refine wpAnyH_done (by kernel_rfl) ?_ _
            try simp only [Act.put, List.setIfInBounds_toArray, List.set_cons_zero, List.set_cons_succ]
            generalize w20.setRow BC (CA N) = wv at *
            have HC := Lib.hid hVz
            have HD := Lib.hid hOz
            have HBw := Lib.hid hbz
            have hKT := hSz
            clear hVz hOz hbz hSz hc20 ho20 hb20 hS20 hc0 ho0 hb0 hH0 hH b20
            go_wp2_with fail
            refine wp_region_held_drew (S := fun W1 : World => KT W1 gb (off + k * 11) XB s xx) (by kernel_rfl) (hKT.below (bel_dr (Below.refl _ _))) (fun hH => ?_)
            have hH0 := hKT.below (bel_dr (Below.refl _ _))
            have hc0 : wv.drew.heap[BD]? = some (.cells (CA d) 29 (0, 0)) := HD.out
            have ho0 : wv.drew.heap[BC]? = some (.cells (CA N) 29 (0, 0)) := HC.out
            have hb0 : Below w.heap.size w wv.drew := bel_dr HBw.out
            obtain ⟨wd, hwd⟩ : ∃ x, x = wv.drew := ⟨_, rfl⟩
            rw [← hwd] at hH0 hb0 hH hc0 ho0 ⊢
            clear hwd
            refine wpAnyH_take (i := 1) (oi := ⟨some 95, _, _, _, _, _⟩) (v := .slice (some ⟨gb, off, none⟩) n cap) rfl (by kernel_rfl) (by kernel_rfl) (by kernel_rfl) (fun _ _ _ h => h) (.inl ⟨by rfl, fun W hW => by go_simp⟩) hH0 ?_
            try simp only [Act.put, List.setIfInBounds_toArray, List.set_cons_zero, List.set_cons_succ]
            refine wpAnyH_take (i := 2) (oi := ⟨some 96, _, _, _, _, _⟩) (v := .int .i64 k) rfl (by kernel_rfl) (by kernel_rfl) (by kernel_rfl) (fun _ _ _ h => h) (.inl ⟨by rfl, fun W hW => by go_simp⟩) hH0 ?_
            try simp only [Act.put, List.setIfInBounds_toArray, List.set_cons_zero, List.set_cons_succ]
            refine wpAnyH_take (i := 3) (oi := ⟨some 97, _, _, _, _, _⟩) (v := .pointer (some ⟨gb, off + k * 11, none⟩)) rfl (by kernel_rfl) (by kernel_rfl) (by kernel_rfl) (fun _ _ _ h => h) (.inl ⟨by rfl, fun W hW => by go_simp⟩) hH0 ?_
            try simp only [Act.put, List.setIfInBounds_toArray, List.set_cons_zero, List.set_cons_succ]
            refine wpAnyH_take (i := 4) (oi := ⟨some 98, _, _, _, _, _⟩) (v := .pointer (some ⟨gb, off + k * 11, none⟩)) rfl (by kernel_rfl) (by kernel_rfl) (by kernel_rfl) (fun _ _ _ h => h) (.inl ⟨by rfl, fun W hW => by go_simp⟩) hH0 ?_
            try simp only [Act.put, List.setIfInBounds_toArray, List.set_cons_zero, List.set_cons_succ]
            refine wpAnyH_take (i := 5) (oi := ⟨some 99, _, _, _, _, _⟩) (v := .bool s.back) rfl (by kernel_rfl) (by kernel_rfl) (by kernel_rfl) (fun _ _ _ h => h) (.inl ⟨by rfl, fun W hW => by have := hW.bb; go_simp⟩) hH0 ?_
            try simp only [Act.put, List.setIfInBounds_toArray, List.set_cons_zero, List.set_cons_succ]
            refine wpAnyH_take (i := 6) (oi := ⟨some 100, _, _, _, _, _⟩) (v := .agg (TA xx)) rfl (by kernel_rfl) (by kernel_rfl) (by kernel_rfl) (fun _ _ _ h => h) (yields_rowK (by rfl) 24 _ rfl XB rfl (TA xx) 24 _ (fun W hW => hW.xb) Try.underlying24 rfl (ta_inf _)) hH0 ?_
            try simp only [Act.put, List.setIfInBounds_toArray, List.set_cons_zero, List.set_cons_succ]
            refine wpAnyH_ready (rs := [0]) (by kernel_rfl) (by simp) ?_
            refine AllReadyH.cons (o := ⟨some 94, _, _, _, _, _⟩) rfl (fun K hK => ?_) AllReadyH.nil
            refine step_load_row rfl 29 (.tmp 11) rfl BD rfl 29 (CA d) (0, 0) _ hc0 Try.underlying29 rfl (ca_inf _) ?_
            refine hK.out _ _ hH0 (fun _ => ?_)
            clear hK K
            try simp only [Act.put, List.setIfInBounds_toArray, List.set_cons_zero, List.set_cons_succ]
            refine wpAnyH_ready (rs := [7]) (by kernel_rfl) (by simp) ?_
            refine AllReadyH.cons (o := ⟨some 101, _, _, _, _, _⟩) rfl (fun K hK => ?_) AllReadyH.nil
            go_simp
            go_at_call 10
            ((with_reducible refine (cY _).mono ?_); rintro e w20 ⟨rfl, b20⟩)
            have hS20 := hH0.below b20
            have hc20 := kb b20 hc0
            have ho20 := kb b20 ho0
            have hb20 := bel_blk2 hb0 b20
            refine hK.out _ _ hS20 (fun _ => ?_)
            clear hK K
            try simp only [Act.put, List.setIfInBounds_toArray, List.set_cons_zero, List.set_cons_succ]
            refine wpAnyH_take (i := 8) (oi := ⟨some 93, _, _, _, _, _⟩) (v := .tuple #[.agg (CA N'), .bool ok]) rfl (by kernel_rfl) (by kernel_rfl) (by kernel_rfl) (fun _ _ _ h => h) (.inl ⟨by rfl, fun W hW => by go_simp⟩) hS20 ?_
            try simp only [Act.put, List.setIfInBounds_toArray, List.set_cons_zero, List.set_cons_succ]
            refine wpAnyH_take (i := 9) (oi := ⟨some 102, _, _, _, _, _⟩) (v := .agg (CA N')) rfl (by kernel_rfl) (by kernel_rfl) (by kernel_rfl) (fun _ _ _ h => h) (.inl ⟨by rfl, fun W hW => by go_simp⟩) hS20 ?_
            try simp only [Act.put, List.setIfInBounds_toArray, List.set_cons_zero, List.set_cons_succ]
            refine wpAnyH_take (i := 10) (oi := ⟨some 103, _, _, _, _, _⟩) (v := .bool ok) rfl (by kernel_rfl) (by kernel_rfl) (by kernel_rfl) (fun _ _ _ h => h) (.inl ⟨by rfl, fun W hW => by go_simp⟩) hS20 ?_
            try simp only [Act.put, List.setIfInBounds_toArray, List.set_cons_zero, List.set_cons_succ]
            refine wpAnyH_ready (rs := [11]) (by kernel_rfl) (by simp) ?_
            refine AllReadyH.cons (o := ⟨none, _, _, _, _, _⟩) rfl (fun K hK => ?_) AllReadyH.nil
            refine step_store_row rfl 29 (.tmp 11) (.tmp 102) rfl BD (CA N') rfl rfl 29 (CA d) hc20 (ca_inf _) rfl (ca_one _) ?_
            have hSz := hS20.row (B := BD) (by omega) (by omega) (CA N')
            have hVz := blk_setRow hc20 (CA N')
            have hOz : (w20.setRow BD (CA N')).heap[BC]? = _ := (setRow_other (by omega) _).trans ho20
            have hbz := row_bel hb20 (B := BD) (by omega) (CA N')
            refine hK.out _ _ hSz (fun _ => ?_)
            clear hK K
            try simp only [Act.put, List.setIfInBounds_toArray, List.set_cons_zero, List.set_cons_succ]
            refine wpAnyH_take (i := 12) (oi := ⟨some 12, _, _, _, _, _⟩) (v := .bool ok) rfl (by kernel_rfl) (by kernel_rfl) (by kernel_rfl) (fun _ _ _ h => h) (.inl ⟨by rfl, fun W hW => by go_simp⟩) hSz ?_
            try simp only [Act.put, List.setIfInBounds_toArray, List.set_cons_zero, List.set_cons_succ]
            refine wpAnyH_done (by kernel_rfl) ?_ _
            try simp only [Act.put, List.setIfInBounds_toArray, List.set_cons_zero, List.set_cons_succ]
            generalize w20.setRow BD (CA N') = wu at *
            have HDz := Lib.hid hVz
            have HCz := Lib.hid hOz
            have HBz := Lib.hid hbz
            clear hVz hOz hbz hSz hc20 ho20 hb20 hS20 hc0 ho0 hb0 hH0 hH b20 HC HD HBw
            obtain ⟨c0, c1, c2, c3, c4, c5, c6, c7, c8⟩ := ca_cells HCz.out
            obtain ⟨d0, d1, d2, d3, d4, d5, d6, d7, d8⟩ := ca_cells HDz.out
            rw [HF.out.st] at d0
            rw [HF.out.a.1] at d1
            rw [(HF.out.a.2.2 HF.out.sa).1] at d2
            rw [HF.out.b.1] at d5
            have FE := HF.out.b.2.2
            clear c3 c4 c7 c8 d3 d4 d7 d8 hbb hbk hbk0 hKT cX cY
            rcases hbs : N.b.seen with _ | _
            · rw [hbs] at c5 d5
              clear FE hbs
              go_wp2_with fail
              go_roundw
              case rel => exact ⟨k + 1, N, N', by go_num, by omega, HF, HCz, HDz, HBz⟩
              case measure => simp [intOf]; omega
            · rw [hbs] at c5 d5
              have FE2 := (FE hbs).1
              rw [FE2] at d6
              clear FE FE2 hbs
              go_wp2_with fail
              go_roundw
              case rel => exact ⟨k + 1, N, N', by go_num, by omega, HF, HCz, HDz, HBz⟩
              case measure => simp [intOf]; omega

        · obtain rfl : k = n := by omega
          have hlti : decide ((k : Int) < (k : Int)) = false := by simp
          go_wp2_with fail
          go_ret
          exact ⟨rfl, HBr.out⟩
end Go.Proofs.Ytdgodndaaenafab
