/- The document's Find, Taken; by-name template (gen_forg.py). -/
import Derived.Test.YtdgodndaaenafaaFoRf
import Derived.Test.YtdgodndaaenafaaFoCq
namespace Go.Proofs.Ytdgodndaaenafaa
open Go.RowKit Go.Lib Go.Maps
set_option linter.unusedVariables false
set_option linter.unusedSimpArgs false

section
variable {w : World} {R : Nat → Prop} {RB : Nat} {A : Option Addr} {c : Nat} {L : List Fl}
def RFind (w : World) (t : Bool) (e : Ending) (w' : World) : Prop := ∃ f b, e = .returned (.tuple #[.agg (FA f), .bool b, .bool t]) ∧ Below w.heap.size w w'
set_option maxRecDepth 100000 in
set_option maxHeartbeats 4000000 in
theorem rfind_any (h : RIn w R RB A c L) (hn : L.length ≤ 48) (k : Ky) :
    Calls Try.prog 35 #[.pointer (some ⟨RB, 0, none⟩), .agg (KA k)] w (RFind w (takF L k)) := by
  have c0 := h.c0
  have hsl := h.sl
  have b1 : Below w.heap.size w ((w.alloc (.cells (KA k) 36)).alloc (.cells #[.int .i64 0, .int .i64 0, .int .u64 0, .int .u64 0, .int .u64 0, .int .u64 0, .int .i64 0, .int .i64 0, .int .i64 0, .int .u64 0, .int .u64 0, .int .u64 0, .int .u64 0, .int .i64 0, .int .i64 0, .int .i64 0, .int .i64 0, .int .i64 0, .int .i64 0, .int .i64 0] 42)) := Below.al (Below.al (Below.refl _ _) _) _
  have A0 : ((w.alloc (.cells (KA k) 36)).alloc (.cells #[.int .i64 0, .int .i64 0, .int .u64 0, .int .u64 0, .int .u64 0, .int .u64 0, .int .i64 0, .int .i64 0, .int .i64 0, .int .u64 0, .int .u64 0, .int .u64 0, .int .u64 0, .int .i64 0, .int .i64 0, .int .i64 0, .int .i64 0, .int .i64 0, .int .i64 0, .int .i64 0] 42)).heap[w.heap.size]? = some (.cells (KA k) 36 (0, 0)) := blk_al (heap_alloc_new w _) _
  have A1 : ((w.alloc (.cells (KA k) 36)).alloc (.cells #[.int .i64 0, .int .i64 0, .int .u64 0, .int .u64 0, .int .u64 0, .int .u64 0, .int .i64 0, .int .i64 0, .int .i64 0, .int .u64 0, .int .u64 0, .int .u64 0, .int .u64 0, .int .i64 0, .int .i64 0, .int .i64 0, .int .i64 0, .int .i64 0, .int .i64 0, .int .i64 0] 42)).heap[w.heap.size + 1]? = some (.cells (FA zf) 42 (0, 0)) := al_new (al_size _ _).symm _
  have HYES : Hid (∀ (i : Nat) (f : Fl), L[i]? = some f → hitF k f = true → takF L k = true) := Lib.hid (fun i f hi he => List.any_eq_true.2 ⟨f, List.mem_of_getElem? hi, he⟩)
  have HNO : Hid ((∀ (i : Nat) (f : Fl), L[i]? = some f → hitF k f = false) → takF L k = false) := Lib.hid (fun hh => by
    rw [Bool.eq_false_iff]
    intro e
    obtain ⟨f, hf, he⟩ := List.any_eq_true.1 e
    obtain ⟨j, hj⟩ := List.getElem?_of_mem hf
    rw [hh j f hj] at he; cases he)
  have k_i := Lib.hid (k_inf k)
  have z_i := Lib.hid (rf_inf zf)
  have z_1 := Lib.hid (f_one zf)
  have HHIT : Hid (∀ f : Fl, hitF k f = (f.op == k || f.bk == k)) := Lib.hid (fun _ => rfl)
  have HEQ : Hid (∀ (a : Ky) (W1 : World), (binOp .eql 36 (.agg (KA a)) (.agg (KA k))).run Try.prog W1 = .ok (.bool (a == k)) W1) := Lib.hid (fun a W1 => eql_ky a k W1)
  have HH : Hid (∀ f : Fl, hitF k f = ((f.op == k) || (f.bk == k))) := Lib.hid (fun _ => rfl)
  obtain ⟨M, hM⟩ : ∃ M : Ending → World → Prop, M = RFind w (takF L k) := ⟨_, rfl⟩
  have HM : Hid (∀ f b t W, takF L k = t → Below w.heap.size w W → M (.returned (.tuple #[.agg (FA f), .bool b, .bool t])) W) := Lib.hid (fun f b t W ht hb => by rw [hM, ← ht]; exact ⟨f, b, rfl, hb⟩)
  rw [← hM]
  generalize takF L k = tk at *
  generalize hnn : L.length = n at *
  have HN := Lib.hid hnn
  clear hnn h hM
  generalize hitF k = hk at *
  generalize KA k = K at *
  go_enter Try.func35, Try.ntmps35
  go_upto_region 2 with fail
  obtain ⟨w1, hw1⟩ : ∃ x, x = (w.alloc (.cells K 36)).alloc (.cells #[.int .i64 0, .int .i64 0, .int .u64 0, .int .u64 0, .int .u64 0, .int .u64 0, .int .i64 0, .int .i64 0, .int .i64 0, .int .u64 0, .int .u64 0, .int .u64 0, .int .u64 0, .int .i64 0, .int .i64 0, .int .i64 0, .int .i64 0, .int .i64 0, .int .i64 0, .int .i64 0] 42) := ⟨_, rfl⟩
  rw [← hw1] at b1 A0 A1 ⊢
  clear hw1
  have HA0 := Lib.hid A0
  have HA1 := Lib.hid A1
  have HB1 := Lib.hid b1
  clear A0 A1 b1
  go_loopw [7] (fun v7 wr => ∃ i : Nat, v7 = .int .i64 i ∧ i ≤ n ∧ Hid (∀ (j : Nat) (f : Fl), j < i → L[j]? = some f → hk f = false) ∧ Below w1.heap.size w1 wr) (fun v7 _ => n - (intOf v7).toNat)
  case atStart => exact ⟨0, rfl, by omega, Lib.hid (fun j f' hj => absurd hj (Nat.not_lt_zero _)), Below.refl _ _⟩
  case round =>
    obtain ⟨i, rfl, hi, HB, bw⟩ := hrel
    have bww := HB1.out.trans (bw.mono HB1.out.size)
    have c0r := keepc bww c0
    by_cases hlt : i < n
    · have hlti : (i : Int) < (n : Int) := by omega
      have hdn : decide (i < n) = true := by simp [hlt]
      obtain ⟨b, off, rfl, hbl, hrow⟩ := hsl.row (by omega)
      obtain ⟨x, hx⟩ : ∃ x, L[i]? = some x := ⟨_, List.getElem?_eq_getElem (by rw [HN.out]; exact hlt)⟩
      have e0 : ∀ j v, (FA x).toList[j]? = some v → wr.cell? ((⟨b, off + i * 20, none⟩ : Addr).add j) = some v := fun j v hj => keepc bww (f_row hrow hx j v hj)
      have e1 := Lib.hid (row_op (i := i) (l := L) e0)
      have e2 := Lib.hid (row_bk (i := i) (l := L) e0)
      have e0 := Lib.hid e0
      have ak := Lib.hid (fa_all (blkB bw HA0.out))
      have x_i1 := Lib.hid (k_inf x.op)
      have x_i2 := Lib.hid (k_inf x.bk)
      have f_i := Lib.hid (rf_inf x)
      have f_1 := Lib.hid (f_one x)
      have f_s := Lib.hid (show (FA zf).size = (FA x).size from rfl)
      have q1 := HEQ.out x.op
      have q2 := HEQ.out x.bk
      have hh := HH.out x
      have Y1 := blkB bw HA1.out
      have HY := Lib.hid (HYES.out i x hx)
      have HHB : Hid (hk x = false → ∀ (j : Nat) (f : Fl), j < i + 1 → L[j]? = some f → hk f = false) := Lib.hid (fun hf j f' hj hf' => by
        by_cases q : j = i
        · subst q; rw [hx] at hf'; cases hf'; exact hf
        · exact HB.out j f' (by omega) hf')
      clear hrow hx HB HYES HNO HEQ HH HHIT
      generalize (x.op == k) = b1 at *
      generalize (x.bk == k) = b2 at *
      generalize KA x.op = K1 at *
      generalize KA x.bk = K2 at *
      generalize hFx : FA x = F at *
      cases b1 with
      | true =>
        have ht := HY.out (by rw [hh]; rfl)
        have FIN := Lib.hid (fun W (hb : Below w.heap.size w W) => HM.out x false true W ht hb)
        rw [hFx] at FIN
        clear hh HHB ht HY HM q2
        go_upto_region 4 with fail
        refine wp_region_quiet_lit (by kernel_rfl) (by kernel_rfl) ?_
        repeat (first | go_big_quiet_skip | (refine quiet_load_cells (by rfl) 36 (.tmp 23) rfl ⟨b, off + i * 20 + 1, none⟩ rfl K1 _ (dn_cells e1.out) Try.underlying36 rfl x_i1.out ?_; simp only [Act.put, List.setIfInBounds_toArray, List.set_cons_succ, List.set_cons_zero]) | (refine quiet_load_cells (by rfl) 36 (.tmp 3) rfl ⟨w.heap.size, 0, none⟩ rfl K _ (dn_cells ak.out) Try.underlying36 rfl k_i.out ?_; simp only [Act.put, List.setIfInBounds_toArray, List.set_cons_succ, List.set_cons_zero]) | (quiet_step (fail)))
        refine wpQuiet_nil ?_
        intro _ hw'
        obtain ⟨nq, hw''⟩ := hw'
        subst hw''
        have bq : Below w.heap.size w (wr.drewN nq) := bel_dn bww nq
        have e0q : ∀ j v, F.toList[j]? = some v → (wr.drewN nq).cell? ((⟨b, off + i * 20, none⟩ : Addr).add j) = some v := e0.out
        have Yq : (wr.drewN nq).heap[w.heap.size + 1]? = some (.cells (FA zf) 42 (0, 0)) := Y1
        have c0q : (wr.drewN nq).cell? ⟨RB, 0, none⟩ = _ := c0r
        have e0q := Lib.hid e0q
        clear e0 e1 e2 ak Y1 q1 bww
        generalize wr.drewN nq = wq at *
        go_wp2_with (first
          | ((with_reducible refine stop_op (o := ⟨some 33, _, _, _, _, _⟩) ?_); refine Lib.hid ?_; refine wpList_load_cells rfl 42 (.tmp 32) rfl ⟨b, off + i * 20, none⟩ rfl F _ e0q.out Try.underlying42 rfl f_i.out ?_)
          | ((with_reducible refine stop_op (o := ⟨none, _, _, _, _, _⟩) ?_); refine Lib.hid ?_; refine wpList_store_row rfl 42 (.tmp 4) (.tmp 33) rfl (w.heap.size + 1) F rfl rfl 42 (FA zf) Yq f_i.out f_s.out f_1.out ?_))
        refine bodyPost_ret_by (res_rowT Try.results35 _ _ (w.heap.size + 1) 42 F _ rfl (blk_setRow Yq F) Try.underlying42 f_i.out) rfl ?_
        exact FIN.out _ (Below.setRow bq (by omega) _)
      | false =>
        cases b2 with
        | true =>
          have ht := HY.out (by rw [hh]; rfl)
          have FIN := Lib.hid (fun W (hb : Below w.heap.size w W) => HM.out x true true W ht hb)
          rw [hFx] at FIN
          clear hh HHB ht HY HM
          go_upto_region 4 with fail
          refine wp_region_quiet_lit (by kernel_rfl) (by kernel_rfl) ?_
          repeat (first | go_big_quiet_skip | (refine quiet_load_cells (by rfl) 36 (.tmp 23) rfl ⟨b, off + i * 20 + 1, none⟩ rfl K1 _ (dn_cells e1.out) Try.underlying36 rfl x_i1.out ?_; simp only [Act.put, List.setIfInBounds_toArray, List.set_cons_succ, List.set_cons_zero]) | (refine quiet_load_cells (by rfl) 36 (.tmp 3) rfl ⟨w.heap.size, 0, none⟩ rfl K _ (dn_cells ak.out) Try.underlying36 rfl k_i.out ?_; simp only [Act.put, List.setIfInBounds_toArray, List.set_cons_succ, List.set_cons_zero]) | (quiet_step (fail)))
          refine wpQuiet_nil ?_
          intro _ hw'
          obtain ⟨nq, hw''⟩ := hw'
          subst hw''
          have bq : Below w.heap.size w (wr.drewN nq) := bel_dn bww nq
          have e0q : ∀ j v, F.toList[j]? = some v → (wr.drewN nq).cell? ((⟨b, off + i * 20, none⟩ : Addr).add j) = some v := e0.out
          have e2q : ∀ j v, K2.toList[j]? = some v → (wr.drewN nq).cell? ((⟨b, off + i * 20 + 8, none⟩ : Addr).add j) = some v := e2.out
          have akq : ∀ j v, K.toList[j]? = some v → (wr.drewN nq).cell? ((⟨w.heap.size, 0, none⟩ : Addr).add j) = some v := ak.out
          have Yq : (wr.drewN nq).heap[w.heap.size + 1]? = some (.cells (FA zf) 42 (0, 0)) := Y1
          have c0q : (wr.drewN nq).cell? ⟨RB, 0, none⟩ = _ := c0r
          have e0q := Lib.hid e0q
          have e2 := Lib.hid e2q
          have ak := Lib.hid akq
          clear e0 e1 Y1 q1 bww c0r e2q akq bw
          generalize wr.drewN nq = wr at *
          go_upto_region 6 with fail
          refine wp_region_quiet_lit (by kernel_rfl) (by kernel_rfl) ?_
          repeat (first | go_big_quiet_skip | (refine quiet_load_cells (by rfl) 36 (.tmp 40) rfl ⟨b, off + i * 20 + 8, none⟩ rfl K2 _ (dn_cells e2.out) Try.underlying36 rfl x_i2.out ?_; simp only [Act.put, List.setIfInBounds_toArray, List.set_cons_succ, List.set_cons_zero]) | (refine quiet_load_cells (by rfl) 36 (.tmp 3) rfl ⟨w.heap.size, 0, none⟩ rfl K _ (dn_cells ak.out) Try.underlying36 rfl k_i.out ?_; simp only [Act.put, List.setIfInBounds_toArray, List.set_cons_succ, List.set_cons_zero]) | (quiet_step (fail)))
          refine wpQuiet_nil ?_
          intro _ hw'
          obtain ⟨nq, hw''⟩ := hw'
          subst hw''
          have bq : Below w.heap.size w (wr.drewN nq) := bel_dn bq nq
          have e0q2 : ∀ j v, F.toList[j]? = some v → (wr.drewN nq).cell? ((⟨b, off + i * 20, none⟩ : Addr).add j) = some v := e0q.out
          have Yq2 : (wr.drewN nq).heap[w.heap.size + 1]? = some (.cells (FA zf) 42 (0, 0)) := Yq
          have c0q2 : (wr.drewN nq).cell? ⟨RB, 0, none⟩ = _ := c0q
          have e0q := Lib.hid e0q2
          have Yq := Yq2
          clear e2 ak q2 c0q e0q2 Yq2
          generalize wr.drewN nq = wq at *
          go_wp2_with (first
            | ((with_reducible refine stop_op (o := ⟨some 50, _, _, _, _, _⟩) ?_); refine Lib.hid ?_; refine wpList_load_cells rfl 42 (.tmp 49) rfl ⟨b, off + i * 20, none⟩ rfl F _ e0q.out Try.underlying42 rfl f_i.out ?_)
            | ((with_reducible refine stop_op (o := ⟨none, _, _, _, _, _⟩) ?_); refine Lib.hid ?_; refine wpList_store_row rfl 42 (.tmp 4) (.tmp 50) rfl (w.heap.size + 1) F rfl rfl 42 (FA zf) Yq f_i.out f_s.out f_1.out ?_))
          refine bodyPost_ret_by (res_rowT Try.results35 _ _ (w.heap.size + 1) 42 F _ rfl (blk_setRow Yq F) Try.underlying42 f_i.out) rfl ?_
          exact FIN.out _ (Below.setRow bq (by omega) _)
        | false =>
          have HB2 := Lib.hid (HHB.out (by rw [hh]; rfl))
          clear hh HHB HY HM
          go_upto_region 4 with fail
          refine wp_region_quiet_lit (by kernel_rfl) (by kernel_rfl) ?_
          repeat (first | go_big_quiet_skip | (refine quiet_load_cells (by rfl) 36 (.tmp 23) rfl ⟨b, off + i * 20 + 1, none⟩ rfl K1 _ (dn_cells e1.out) Try.underlying36 rfl x_i1.out ?_; simp only [Act.put, List.setIfInBounds_toArray, List.set_cons_succ, List.set_cons_zero]) | (refine quiet_load_cells (by rfl) 36 (.tmp 3) rfl ⟨w.heap.size, 0, none⟩ rfl K _ (dn_cells ak.out) Try.underlying36 rfl k_i.out ?_; simp only [Act.put, List.setIfInBounds_toArray, List.set_cons_succ, List.set_cons_zero]) | (quiet_step (fail)))
          refine wpQuiet_nil ?_
          intro _ hw'
          obtain ⟨nq, hw''⟩ := hw'
          subst hw''
          have e2q : ∀ j v, K2.toList[j]? = some v → (wr.drewN nq).cell? ((⟨b, off + i * 20 + 8, none⟩ : Addr).add j) = some v := e2.out
          have akq : ∀ j v, K.toList[j]? = some v → (wr.drewN nq).cell? ((⟨w.heap.size, 0, none⟩ : Addr).add j) = some v := ak.out
          have c0q : (wr.drewN nq).cell? ⟨RB, 0, none⟩ = _ := c0r
          have bq : Below w1.heap.size w1 (wr.drewN nq) := bel_dn bw nq
          have e2 := Lib.hid e2q
          have ak := Lib.hid akq
          clear e0 e1 Y1 q1 bww c0r e2q akq bw
          generalize wr.drewN nq = wr at *
          go_upto_region 6 with fail
          refine wp_region_quiet_lit (by kernel_rfl) (by kernel_rfl) ?_
          repeat (first | go_big_quiet_skip | (refine quiet_load_cells (by rfl) 36 (.tmp 40) rfl ⟨b, off + i * 20 + 8, none⟩ rfl K2 _ (dn_cells e2.out) Try.underlying36 rfl x_i2.out ?_; simp only [Act.put, List.setIfInBounds_toArray, List.set_cons_succ, List.set_cons_zero]) | (refine quiet_load_cells (by rfl) 36 (.tmp 3) rfl ⟨w.heap.size, 0, none⟩ rfl K _ (dn_cells ak.out) Try.underlying36 rfl k_i.out ?_; simp only [Act.put, List.setIfInBounds_toArray, List.set_cons_succ, List.set_cons_zero]) | (quiet_step (fail)))
          refine wpQuiet_nil ?_
          intro _ hw'
          obtain ⟨nq, hw''⟩ := hw'
          subst hw''
          have bq2 : Below w1.heap.size w1 (wr.drewN nq) := bel_dn bq nq
          clear e2 ak q2 c0q bq
          generalize wr.drewN nq = wq at *
          go_wp2_with fail
          exact ⟨⟨i + 1, by simp, by omega, HB2, bq2⟩, by simp [intOf]; omega⟩
    · obtain rfl : i = n := by omega
      have hd0 : decide (i < i) = false := by simp
      have hdi : decide ((i : Int) < (i : Int)) = false := by simp
      have ht := HNO.out (fun j f hf => HB.out j f (by have := (List.getElem?_eq_some_iff.1 hf).1; rw [HN.out] at this; exact this) hf)
      have FIN := Lib.hid (fun W (hb : Below w.heap.size w W) => HM.out zf false false W ht hb)
      have Y1 := blkB bw HA1.out
      have bwl := Lib.hid bww
      clear ht HB HYES HNO HM HEQ HH HHIT bw bww
      have z_s : Hid ((FA zf).size = (#[.int .i64 0, .int .i64 0] : Array Value).size → True) := Lib.hid (fun _ => trivial)
      go_wp2_with (first
        | ((with_reducible refine stop_op (o := ⟨none, _, _, _, _, _⟩) ?_); refine Lib.hid ?_; refine wpList_store_row rfl 42 (.tmp 4) (.tmp 51) rfl (w.heap.size + 1) (FA zf) rfl rfl 42 (FA zf) Y1 z_i.out rfl z_1.out ?_))
      refine bodyPost_ret_by (res_rowT Try.results35 _ _ (w.heap.size + 1) 42 (FA zf) _ rfl (blk_setRow Y1 (FA zf)) Try.underlying42 z_i.out) rfl ?_
      exact FIN.out _ (Below.setRow bwl.out (by omega) _)
end
end Go.Proofs.Ytdgodndaaenafaa
