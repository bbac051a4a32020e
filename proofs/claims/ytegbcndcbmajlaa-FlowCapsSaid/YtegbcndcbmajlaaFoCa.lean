/- FlowCaps: the walk; by-name template (gen_foca.py). -/
import Derived.Test.YtegbcndcbmajlaaFoCq
namespace Go.Proofs.Ytegbcndcbmajlaa
open Go.RowKit Go.Lib Go.Maps
set_option linter.unusedVariables false
set_option linter.unusedSimpArgs false

theorem wrap_one : IntKind.i64.wrap 1 = 1 := by decide
theorem wrap_small {n : Int} (h1 : -9223372036854775808 ≤ n) (h2 : n ≤ 9223372036854775807) : IntKind.i64.wrap n = n := by
  simp [IntKind.wrap, IntKind.bits, IntKind.signed]
  omega
set_option maxRecDepth 100000 in
set_option maxHeartbeats 16000000 in
theorem caps_any (A : Option Addr) (n c : Nat) (l : List Stp) (w : World) (hS : Sl w 24 scells A n l) (hL : ∀ s ∈ l, StpOk s) : Calls Try.prog 6 #[.slice A n c] w (LawPost w) := by
  by_cases hn : 1024 < n
  · have hnI : (1024 : Int) < (n : Int) := by omega
    have hnD : decide (1024 < n) = true := decide_eq_true hn
    have hnD2 : decide ((1024 : Int) < (n : Int)) = true := decide_eq_true hnI
    clear hS hL hn
    go_enter Try.func6, Try.ntmps6
    go_wp2_with fail
    go_ret
    exact ⟨rfl, Below.refl _ _⟩
  · have hnI : ¬ (1024 : Int) < (n : Int) := by omega
    have hnD : decide (1024 < n) = false := decide_eq_false hn
    have hnD2 : decide ((1024 : Int) < (n : Int)) = false := decide_eq_false hnI
    have hmm := @run_makeMap Try.prog
    have cN := fun W1 => st_new W1
    have hLl : l.length = n := hS.len
    have HRow : Hid (∀ i, i < n → ∃ b off x, A = some ⟨b, off, none⟩ ∧ StpOk x ∧ ∀ W, Below w.heap.size w W → ∀ j v, (SA x).toList[j]? = some v → W.cell? ((⟨b, off + i * 24, none⟩ : Addr).add j) = some v) := Lib.hid (fun i hi => by
      obtain ⟨b, off, hA1, hbl, hrow⟩ := hS.row (by omega)
      have hx : l[i]? = some l[i] := List.getElem?_eq_getElem (by omega)
      exact ⟨b, off, l[i], hA1, hL _ (List.mem_of_getElem? hx), fun W hb j v hj => keepc hb (sa_row hrow hx j v hj)⟩)
    have hA := fun (w1 : World) => heap_alloc_new w1 (.cells #[.int .i64 0, .int .i64 0, .int .i64 0, .int .i64 0, .int .i64 0, .int .i64 0, .int .u64 0, .int .u64 0, .int .u64 0, .int .u64 0, .int .i64 0, .int .i64 0, .int .i64 0, .int .u64 0, .int .u64 0, .int .u64 0, .int .u64 0, .int .i64 0, .int .i64 0, .int .i64 0, .int .i64 0, .int .i64 0, .int .i64 0, .int .i64 0] 40)
    have HA : ∀ w1 : World, (w1.alloc (.cells #[.int .i64 0, .int .i64 0, .int .i64 0, .int .i64 0, .int .i64 0, .int .i64 0, .int .u64 0, .int .u64 0, .int .u64 0, .int .u64 0, .int .i64 0, .int .i64 0, .int .i64 0, .int .u64 0, .int .u64 0, .int .u64 0, .int .u64 0, .int .i64 0, .int .i64 0, .int .i64 0, .int .i64 0, .int .i64 0, .int .i64 0, .int .i64 0] 40)).heap[w1.heap.size]? = some (.cells (SA zs) 40 (0, 0)) := fun w1 => hA w1
    have HA := Lib.hid HA
    clear hS hL hn hA hLl
    go_enter Try.func6, Try.ntmps6
    go_upto_region 6 with (go_at_call 8; refine (cN _).mono ?_; rintro e w2 ⟨TB, rfl, hS2⟩)
    have hS3 := hS2.with (.map #[] 0)
    have hm3 : MapK (w2.alloc (.map #[] 0)) w2.heap.size (fun _ => none) 0 := ⟨.map [], World.ownsMap_made w2 Try.prog 36 _, fun _ _ => rfl, fun _ _ _ h => by simp at h, rfl⟩
    generalize w2.heap.size = MB at *
    generalize w2.alloc (.map #[] 0) = w3 at *
    clear hS2 cN hmm
    go_loopw [5] (fun v5 wr => ∃ i : Nat, v5 = .int .i64 i ∧ i ≤ n ∧ ∃ L g c, StX (fun j => j = MB) w wr TB L ∧ MapK wr MB g c ∧ Hid (c ≤ 96)) (fun v5 _ => n - (intOf v5).toNat)
    case atStart => exact ⟨0, rfl, by omega, _, _, _, hS3, hm3, Lib.hid (by omega)⟩
    case round =>
      clear hS3 hm3
      obtain ⟨i, rfl, hi, L, g0, c0, hSr, hmr, hc96⟩ := hrel
      by_cases hlt : i < n
      · have hlti : (i : Int) < (n : Int) := by omega
        have hdn : decide (i < n) = true := by simp [hlt]
        obtain ⟨bb, off0, x, hA1, hxo, hrow⟩ := HRow.out i hlt
        have e0 := Lib.hid (hrow wr hSr.bel)
        have s_i := Lib.hid (s_inf x)
        have s_1 := Lib.hid (s_one x)
        have s_s := Lib.hid (show (SA zs).size = (SA x).size from rfl)
        have f_i := Lib.hid (f_inf x.f)
        have k_x1 := Lib.hid (k_inf x.f.op)
        have k_x2 := Lib.hid (k_inf x.f.bk)
        subst hA1
        clear hrow
        go_upto_region 9 with (first
          | ((with_reducible refine stop_op (o := ⟨some 28, _, _, _, _, _⟩) ?_); refine Lib.hid ?_; refine wpList_load_cells rfl 40 (.tmp 27) rfl ⟨bb, off0 + i * 24, none⟩ rfl (SA x) _ e0.out Try.underlying40 rfl s_i.out ?_)
          | ((with_reducible refine stop_op (o := ⟨none, _, _, _, _, _⟩) ?_); refine Lib.hid ?_; refine wpList_store_row rfl 40 (.tmp 6) (.tmp 28) rfl wr.heap.size (SA x) rfl rfl 40 (SA zs) (HA.out wr) s_i.out s_s.out s_1.out ?_; rw [World.setRow_alloc_new]))
        have hSA0 := hSr.with (.cells (SA x) 40)
        have hmA : MapK (wr.alloc (.cells (SA x) 40)) MB g0 c0 := hmr.keep (al_old hmr.lt _)
        have AOB : (wr.alloc (.cells (SA x) 40)).heap[wr.heap.size]? = some (.cells (SA x) 40 (0, 0)) := heap_alloc_new wr _
        have HOBN : Hid (wr.heap.size ≠ MB) := Lib.hid (by have := hmr.lt; omega)
        generalize wr.heap.size = ob at *
        generalize wr.alloc (.cells (SA x) 40) = wA at *
        clear hSr hmr e0
        go_upto_region 10 with (go_at_call 11; refine (hSA0.list).mono ?_; rintro e w4 ⟨A4, c4, rfl, _, _, hS4, hK4⟩)
        have AOB4 := (hK4.2 ob (.inr rfl)).trans AOB
        have hm4 := hmA.keep (hK4.2 MB (.inl rfl))
        clear hSA0 hK4 AOB hmA
        have cA := hS4.add hxo.f
        have HFU : Hid ((addF L x.f).e = 120 → L.length = 48 ∧ cntF (addF L x.f).L = 0) := Lib.hid (fun h => by
          obtain ⟨q1, q2, q3⟩ := add_120 hS4.good h
          exact ⟨q1, by rw [q2]; exact q3⟩)
        have HT0 : Hid ((addF L x.f).e = 0 → takF (addF L x.f).L x.f.op = true ∧ x.f.op ≠ x.f.bk) := Lib.hid add_0
        have x4 := Lib.hid (sa_f AOB4)
        generalize hAR : addF L x.f = AR at *
        have Q := hAR
        clear Q hAR hS4
        obtain ⟨aid, ago, ee, L1⟩ := AR
        simp only at cA HFU HT0
        generalize L.length = nl at *
        go_upto_region 11 with (first
          | ((with_reducible refine stop_op (o := ⟨some 35, _, _, _, _, _⟩) ?_); refine Lib.hid ?_; refine wpList_load_cells rfl 38 (.tmp 34) rfl ⟨ob, 4, none⟩ rfl (FA x.f) _ x4.out Try.underlying38 rfl f_i.out ?_)
          | (go_at_call 9; refine cA.mono ?_; rintro e w5 ⟨rfl, hS5, hK5⟩))
        have AOB5 := (hK5.2 ob (.inr rfl)).trans AOB4
        have hm5 := hm4.keep (hK5.2 MB (.inl rfl))
        clear hK5 AOB4 hm4 cA x4
        by_cases he : ee = 0
        · subst he
          obtain ⟨ht, hob⟩ := HT0.out rfl
          have hob0 : (x.f.op == x.f.bk) = false := by simpa using hob
          have eob := fun W1 => eql_ky x.f.op x.f.bk W1
          rw [hob0] at eob
          have HEB := Lib.hid eob
          have cT := hS5.taken hxo.f.op
          rw [ht] at cT
          have x5 := Lib.hid (sa_op AOB5)
          clear hob hob0 eob ht HT0 HFU
          go_upto_region 13 with (first
            | ((with_reducible refine stop_op (o := ⟨some 46, _, _, _, _, _⟩) ?_); refine Lib.hid ?_; refine wpList_load_cells_on (by kernel_rfl) 36 (.tmp 45) rfl ⟨ob, 5, none⟩ rfl (KA x.f.op) _ x5.out Try.underlying36 rfl k_x1.out ?_)
            | (go_at_call 17; refine cT.mono ?_; rintro e w5b ⟨rfl, hS5b, hK5b⟩))
          have AOB7 := (hK5b.2 ob (.inr rfl)).trans AOB5
          have hm7 := hm5.keep (hK5b.2 MB (.inl rfl))
          clear hK5b AOB5 hm5 cT x5 hS5
          have hS7 := hS5b
          clear hS5b
          have q0 := sa_kind AOB7
          have q1 := sa_n AOB7
          have q3 := sa_en AOB7
          generalize hxk : x.kind = xk at q0
          have HXK := Lib.hid hxk
          clear hxk
          by_cases hk1 : xk = 1
          · subst hk1
            have cS := hS7.set (id := x.n) (st := 1) (en := x.en) hxo.n (by unfold i64k; omega) hxo.en
            generalize x.n = xn at *
            generalize x.en = xe at *
            obtain ⟨L2, hL2⟩ : ∃ M, M = setF L1 xn 1 xe := ⟨_, rfl⟩
            rw [← hL2] at cS
            clear hL2
            go_upto_region 15 with (go_at_call 18; refine cS.mono ?_; rintro e wx ⟨rfl, hS, hKs⟩)
            have AOB := (hKs.2 ob (.inr rfl)).trans AOB7
            have hm := hm7.keep (hKs.2 MB (.inl rfl))
            clear hKs AOB7 hm7 hS7 cS q0 q1 q3
            go_upto_region 16 with (go_at_call 11; refine (hS.list).mono ?_; rintro e w6 ⟨A2, c2, rfl, hSl, hA2, hS6, hK6⟩)
            have AOB6 := (hK6.2 ob (.inr rfl)).trans AOB
            have hm6 := hm.keep (hK6.2 MB (.inl rfl))
            have hMB6 : MB < wx.heap.size := hm.lt
            obtain ⟨wc, hclr, hmc, oc⟩ := hm6.clear 0
            have hobMB : ob ≠ MB := HOBN.out
            have AOBc : wc.heap[ob]? = some (.cells (SA x) 40 (0, 0)) := (oc.block ob (blk_lt AOB6) hobMB).trans AOB6
            have HSX : Hid (StX (fun j => j = MB ∨ j = ob) w wc TB L2) := Lib.hid (hS6.off oc (fun j hj => .inl hj))
            have HOBL : Hid (ob < wc.heap.size) := Lib.hid (blk_lt AOBc)
            have HGD : Hid (GoodF L2) := Lib.hid hS6.good
            have HOK : Hid (∀ y ∈ L2, FlOk y) := Lib.hid hS6.good.ok
            have hln := hS6.good.ln
            have HLR : Hid (∀ k, k < L2.length → ∃ y gA off, L2[k]? = some y ∧ A2 = some ⟨gA, off, none⟩ ∧ (gA < wc.heap.size ∧ gA ≠ MB) ∧ ∀ j v, (FA y).toList[j]? = some v → wc.cell? ((⟨gA, off + k * 20, none⟩ : Addr).add j) = some v) := Lib.hid (fun k hk => by
              obtain ⟨gA, off, hAe, hgl, hrow⟩ := hSl.row (by omega)
              have hy : L2[k]? = some L2[k] := List.getElem?_eq_getElem hk
              have hge := hA2 gA off none hAe
              have hne : gA ≠ MB := by omega
              have hf := f_row hrow hy
              exact ⟨L2[k], gA, off, hy, hAe, ⟨Nat.lt_of_lt_of_le hgl oc.size, hne⟩, fun j v hj => cell_blk (oc.block gA hgl hne) (hf j v hj)⟩)
            clear AOB AOB6 hm hm6 hS hS6 hK6 hSl hA2
            have AOB := AOBc
            clear AOBc
            generalize hn2 : L2.length = n2 at *
            have HN2 := Lib.hid hn2
            clear hn2
            go_upto_region 19 with fail
            go_loopw [12, 13] (fun v12 v13 wr => ∃ k : Nat, v13 = .int .i64 k ∧ k ≤ n2 ∧ v12 = .int .i64 (cntF (L2.take k) : Nat) ∧ ∃ g, MapK wr MB g (2 * k) ∧ Hid (KeysOf g (L2.take k)) ∧ OffS (fun j => j = MB) wc wr) (fun _ v13 _ => n2 - (intOf v13).toNat)
            case atStart => exact ⟨0, rfl, Nat.zero_le _, rfl, _, hmc, Lib.hid (fun x hx => absurd rfl hx), OffS.refl _ _⟩
            case round =>
              obtain ⟨k, rfl, hk, rfl, g, hmk, hgk, hoff⟩ := hrel
              by_cases hkl : k < n2
              · have hkI : (k : Int) < (n2 : Int) := by omega
                have hkD : decide (k < n2) = true := by simp [hkl]
                obtain ⟨y, gA, off, hy, rfl, hgA, hrow⟩ := HLR.out k hkl
                have hyo := HOK.out y (List.mem_of_getElem? hy)
                obtain ⟨hn1, hn2', hK2⟩ := keys_new HGD.out hy hgk.out
                have hct := cnt_take hy
                have HK2 := Lib.hid hK2
                have rowr : ∀ j v, (FA y).toList[j]? = some v → wr.cell? ((⟨gA, off + k * 20, none⟩ : Addr).add j) = some v := fun j v hj => cell_blk (hoff.block gA hgA.1 hgA.2) (hrow j v hj)
                obtain ⟨v1, st1, u1, u2, r1, r2, rl, m2, o1, o2⟩ := (hmk.keep (w' := wr.drew) rfl).put3 (by omega) hyo.op (n := 1) (by unfold i64ok; omega)
                rw [hn1] at rl m2
                have rl0 := (hmk.keep (w' := wr.drew) rfl).look1 hyo.op
                rw [hn1] at rl0
                simp only [Option.getD_none, Option.isSome_none, Bool.false_eq_true, if_false] at rl rl0 m2
                obtain ⟨v2, st2, u3, u4, r3, r4, rm, m4, o3, o4⟩ := (m2.keep (w' := u2.drew) rfl).put3 (by omega) hyo.bk (n := 1) (by unfold i64ok; omega)
                rw [hn2'] at rm m4
                have rm0 := (m2.keep (w' := u2.drew) rfl).look1 hyo.bk
                rw [hn2'] at rm0
                simp only [Option.getD_none, Option.isSome_none, Bool.false_eq_true, if_false] at rm rm0 m4
                have oU2 : OffS (fun j => j = MB) wr u2 := ⟨o2.os, o2.tape, o2.output, o2.size, o2.block⟩
                have oU4' : OffS (fun j => j = MB) u2 u4 := ⟨o4.os, o4.tape, o4.output, o4.size, o4.block⟩
                have oU4 := oU2.trans oU4'
                have gl0 : gA < wr.heap.size := Nat.lt_of_lt_of_le hgA.1 hoff.size
                have cOp := fun (W1 : World) (hW : W1.heap[gA]? = wr.heap[gA]?) => row_op (i := k) (l := L2) (fun j v hj => cell_blk hW (rowr j v hj))
                have cBk := fun (W1 : World) (hW : W1.heap[gA]? = wr.heap[gA]?) => row_bk (i := k) (l := L2) (fun j v hj => cell_blk hW (rowr j v hj))
                have eU1 : u1.heap[gA]? = wr.heap[gA]? := o1.block gA gl0 hgA.2
                have eU2 : u2.heap[gA]? = wr.heap[gA]? := oU2.block gA gl0 hgA.2
                have gl2 : gA < u2.drew.heap.size := Nat.lt_of_lt_of_le gl0 oU2.size
                have eU3 : u3.heap[gA]? = wr.heap[gA]? := (o3.block gA gl2 hgA.2).trans eU2
                have eU4 : u4.heap[gA]? = wr.heap[gA]? := oU4.block gA gl0 hgA.2
                have hc0 := Lib.hid (cOp wr.drew rfl)
                have hSA1 := Lib.hid (cOp u1 eU1)
                have hSB1 := Lib.hid (cOp u2 eU2)
                have hc2 := Lib.hid (cBk u2.drew eU2)
                have hSA2 := Lib.hid (cBk u3 eU3)
                have hSB2 := Lib.hid (cBk u4 eU4)
                have cst : u4.cell? ⟨gA, off + k * 20 + 18, none⟩ = some (.int .i64 y.st) := row_st (i := k) (fun j v hj => cell_blk eU4 (rowr j v hj))
                have HEND : Hid (∀ nc : Nat, nc = cntF (L2.take k) + (if openF y then 1 else 0) → ∃ k' : Nat, Value.int .i64 ((k : Int) + 1) = .int .i64 k' ∧ k' ≤ n2 ∧ Value.int .i64 (nc : Int) = .int .i64 (cntF (L2.take k') : Nat) ∧ ∃ g, MapK u4 MB g (2 * k') ∧ Hid (KeysOf g (L2.take k')) ∧ OffS (fun j => j = MB) wc u4) := Lib.hid (fun nc hnc => by
                  refine ⟨k + 1, by simp, by omega, by rw [hct, ← hnc], _, ?_, HK2, hoff.trans oU4⟩
                  rw [show 2 * (k + 1) = 2 * k + 1 + 1 by omega]
                  exact m4)
                have hcb : cntF (L2.take k) ≤ 48 := Nat.le_trans (List.length_filter_le _ _) (by rw [List.length_take]; have := HGD.out.ln; omega)
                have k_a := Lib.hid (k_inf y.op)
                have k_b := Lib.hid (k_inf y.bk)
                have HXS : Hid (openF y = (y.st == 0 || y.st == 2)) := Lib.hid rfl
                clear cOp cBk rowr hrow hmk hgk hoff m2 m4 o1 o2 o3 o4 oU2 oU4' oU4 eU1 eU2 eU3 eU4 hn1 hn2' hK2 HK2 hct hy hyo gl0 gl2
                generalize cntF (L2.take k) = ck at *
                generalize openF y = oy at *
                generalize y.st = ys at *
                generalize KA y.op = K1 at *
                generalize KA y.bk = K2 at *
                go_upto_region 21 with fail
                have hSA := hSA1.out
                have hSB := hSB1.out
                refine wp_region_held_drew (S := fun W1 : World => ∀ j v, K1.toList[j]? = some v → W1.cell? ((⟨gA, off + k * 20 + 1, none⟩ : Addr).add j) = some v) (by kernel_rfl) hc0.out (fun hH => ?_)
                generalize wr.drew = wd at *
                refine wpAnyH_take (i := 0) (oi := ⟨some 68, _, _, _, _, _⟩) (v := .map (some MB)) rfl (by kernel_rfl) (by kernel_rfl) (by kernel_rfl) (fun _ _ _ h => h) (.inl ⟨by rfl, fun W hW => by go_simp⟩) hH ?_
                try simp only [Act.put, List.setIfInBounds_toArray, List.set_cons_zero, List.set_cons_succ]
                refine wpAnyH_take (i := 1) (oi := ⟨some 69, _, _, _, _, _⟩) (v := .slice (some ⟨gA, off, none⟩) n2 c2) rfl (by kernel_rfl) (by kernel_rfl) (by kernel_rfl) (fun _ _ _ h => h) (.inl ⟨by rfl, fun W hW => by go_simp⟩) hH ?_
                try simp only [Act.put, List.setIfInBounds_toArray, List.set_cons_zero, List.set_cons_succ]
                refine wpAnyH_take (i := 2) (oi := ⟨some 70, _, _, _, _, _⟩) (v := .int .i64 k) rfl (by kernel_rfl) (by kernel_rfl) (by kernel_rfl) (fun _ _ _ h => h) (.inl ⟨by rfl, fun W hW => by go_simp⟩) hH ?_
                try simp only [Act.put, List.setIfInBounds_toArray, List.set_cons_zero, List.set_cons_succ]
                refine wpAnyH_take (i := 3) (oi := ⟨some 71, _, _, _, _, _⟩) (v := .pointer (some ⟨gA, off + k * 20, none⟩)) rfl (by kernel_rfl) (by kernel_rfl) (by kernel_rfl) (fun _ _ _ h => h) (.inl ⟨by rfl, fun W hW => by go_simp⟩) hH ?_
                try simp only [Act.put, List.setIfInBounds_toArray, List.set_cons_zero, List.set_cons_succ]
                refine wpAnyH_take (i := 4) (oi := ⟨some 72, _, _, _, _, _⟩) (v := .pointer (some ⟨gA, off + k * 20 + 1, none⟩)) rfl (by kernel_rfl) (by kernel_rfl) (by kernel_rfl) (fun _ _ _ h => h) (.inl ⟨by rfl, fun W hW => by go_simp⟩) hH ?_
                try simp only [Act.put, List.setIfInBounds_toArray, List.set_cons_zero, List.set_cons_succ]
                refine wpAnyH_take (i := 5) (oi := ⟨some 73, _, _, _, _, _⟩) (v := .agg K1) rfl (by kernel_rfl) (by kernel_rfl) (by kernel_rfl) (fun _ _ _ h => h) (yields_cells (by rfl) 36 _ rfl ⟨gA, off + k * 20 + 1, none⟩ rfl K1 _ (fun W hW => hW) Try.underlying36 rfl k_a.out) hH ?_
                try simp only [Act.put, List.setIfInBounds_toArray, List.set_cons_zero, List.set_cons_succ]
                refine wpAnyH_ready (rs := [6, 8]) (by kernel_rfl) (by simp) ?_
                refine AllReadyH.cons (o := ⟨some 74, _, _, _, _, _⟩) rfl (fun K hK => ?_) (AllReadyH.cons (o := ⟨some 76, _, _, _, _, _⟩) rfl (fun K hK => ?_) AllReadyH.nil)
                · go_simp
                  refine hK.out _ _ hH (fun _ => ?_)
                  clear hK K
                  try simp only [Act.put, List.setIfInBounds_toArray, List.set_cons_zero, List.set_cons_succ]
                  refine wpAnyH_take (i := 7) (oi := ⟨some 75, _, _, _, _, _⟩) (v := .int .i64 1) rfl (by kernel_rfl) (by kernel_rfl) (by kernel_rfl) (fun _ _ _ h => h) (.inl ⟨by rfl, fun W hW => by have hw1 := wrap_one; go_simp⟩) hH ?_
                  try simp only [Act.put, List.setIfInBounds_toArray, List.set_cons_zero, List.set_cons_succ]
                  refine wpAnyH_ready (rs := [8]) (by kernel_rfl) (by simp) ?_
                  refine AllReadyH.cons (o := ⟨some 76, _, _, _, _, _⟩) rfl (fun K hK => ?_) AllReadyH.nil
                  go_simp
                  refine hK.out _ _ hSA (fun _ => ?_)
                  clear hK K
                  try simp only [Act.put, List.setIfInBounds_toArray, List.set_cons_zero, List.set_cons_succ]
                  refine wpAnyH_take (i := 9) (oi := ⟨some 77, _, _, _, _, _⟩) (v := .int .i64 st1) rfl (by kernel_rfl) (by kernel_rfl) (by kernel_rfl) (fun _ _ _ h => h) (.inl ⟨by rfl, fun W hW => by go_simp⟩) hSA ?_
                  try simp only [Act.put, List.setIfInBounds_toArray, List.set_cons_zero, List.set_cons_succ]
                  refine wpAnyH_ready (rs := [10]) (by kernel_rfl) (by simp) ?_
                  refine AllReadyH.cons (o := ⟨none, _, _, _, _, _⟩) rfl (fun K hK => ?_) AllReadyH.nil
                  go_simp
                  refine hK.out _ _ hSB (fun _ => ?_)
                  clear hK K
                  try simp only [Act.put, List.setIfInBounds_toArray, List.set_cons_zero, List.set_cons_succ]
                  refine wpAnyH_done (by kernel_rfl) ?_ _
                  clear hSA1 hSB1 r1 r2 rl rl0 hc0 hSA hSB
                  go_upto_region 22 with fail
                  have hSA := hSA2.out
                  have hSB := hSB2.out
                  refine wp_region_held_drew (S := fun W1 : World => ∀ j v, K2.toList[j]? = some v → W1.cell? ((⟨gA, off + k * 20 + 8, none⟩ : Addr).add j) = some v) (by kernel_rfl) hc2.out (fun hH => ?_)
                  generalize u2.drew = wd at *
                  refine wpAnyH_take (i := 0) (oi := ⟨some 78, _, _, _, _, _⟩) (v := .map (some MB)) rfl (by kernel_rfl) (by kernel_rfl) (by kernel_rfl) (fun _ _ _ h => h) (.inl ⟨by rfl, fun W hW => by go_simp⟩) hH ?_
                  try simp only [Act.put, List.setIfInBounds_toArray, List.set_cons_zero, List.set_cons_succ]
                  refine wpAnyH_take (i := 1) (oi := ⟨some 79, _, _, _, _, _⟩) (v := .slice (some ⟨gA, off, none⟩) n2 c2) rfl (by kernel_rfl) (by kernel_rfl) (by kernel_rfl) (fun _ _ _ h => h) (.inl ⟨by rfl, fun W hW => by go_simp⟩) hH ?_
                  try simp only [Act.put, List.setIfInBounds_toArray, List.set_cons_zero, List.set_cons_succ]
                  refine wpAnyH_take (i := 2) (oi := ⟨some 80, _, _, _, _, _⟩) (v := .int .i64 k) rfl (by kernel_rfl) (by kernel_rfl) (by kernel_rfl) (fun _ _ _ h => h) (.inl ⟨by rfl, fun W hW => by go_simp⟩) hH ?_
                  try simp only [Act.put, List.setIfInBounds_toArray, List.set_cons_zero, List.set_cons_succ]
                  refine wpAnyH_take (i := 3) (oi := ⟨some 81, _, _, _, _, _⟩) (v := .pointer (some ⟨gA, off + k * 20, none⟩)) rfl (by kernel_rfl) (by kernel_rfl) (by kernel_rfl) (fun _ _ _ h => h) (.inl ⟨by rfl, fun W hW => by go_simp⟩) hH ?_
                  try simp only [Act.put, List.setIfInBounds_toArray, List.set_cons_zero, List.set_cons_succ]
                  refine wpAnyH_take (i := 4) (oi := ⟨some 82, _, _, _, _, _⟩) (v := .pointer (some ⟨gA, off + k * 20 + 8, none⟩)) rfl (by kernel_rfl) (by kernel_rfl) (by kernel_rfl) (fun _ _ _ h => h) (.inl ⟨by rfl, fun W hW => by go_simp⟩) hH ?_
                  try simp only [Act.put, List.setIfInBounds_toArray, List.set_cons_zero, List.set_cons_succ]
                  refine wpAnyH_take (i := 5) (oi := ⟨some 83, _, _, _, _, _⟩) (v := .agg K2) rfl (by kernel_rfl) (by kernel_rfl) (by kernel_rfl) (fun _ _ _ h => h) (yields_cells (by rfl) 36 _ rfl ⟨gA, off + k * 20 + 8, none⟩ rfl K2 _ (fun W hW => hW) Try.underlying36 rfl k_b.out) hH ?_
                  try simp only [Act.put, List.setIfInBounds_toArray, List.set_cons_zero, List.set_cons_succ]
                  refine wpAnyH_ready (rs := [6, 8]) (by kernel_rfl) (by simp) ?_
                  refine AllReadyH.cons (o := ⟨some 84, _, _, _, _, _⟩) rfl (fun K hK => ?_) (AllReadyH.cons (o := ⟨some 86, _, _, _, _, _⟩) rfl (fun K hK => ?_) AllReadyH.nil)
                  · go_simp
                    refine hK.out _ _ hH (fun _ => ?_)
                    clear hK K
                    try simp only [Act.put, List.setIfInBounds_toArray, List.set_cons_zero, List.set_cons_succ]
                    refine wpAnyH_take (i := 7) (oi := ⟨some 85, _, _, _, _, _⟩) (v := .int .i64 1) rfl (by kernel_rfl) (by kernel_rfl) (by kernel_rfl) (fun _ _ _ h => h) (.inl ⟨by rfl, fun W hW => by have hw1 := wrap_one; go_simp⟩) hH ?_
                    try simp only [Act.put, List.setIfInBounds_toArray, List.set_cons_zero, List.set_cons_succ]
                    refine wpAnyH_ready (rs := [8]) (by kernel_rfl) (by simp) ?_
                    refine AllReadyH.cons (o := ⟨some 86, _, _, _, _, _⟩) rfl (fun K hK => ?_) AllReadyH.nil
                    go_simp
                    refine hK.out _ _ hSA (fun _ => ?_)
                    clear hK K
                    try simp only [Act.put, List.setIfInBounds_toArray, List.set_cons_zero, List.set_cons_succ]
                    refine wpAnyH_take (i := 9) (oi := ⟨some 87, _, _, _, _, _⟩) (v := .int .i64 st2) rfl (by kernel_rfl) (by kernel_rfl) (by kernel_rfl) (fun _ _ _ h => h) (.inl ⟨by rfl, fun W hW => by go_simp⟩) hSA ?_
                    try simp only [Act.put, List.setIfInBounds_toArray, List.set_cons_zero, List.set_cons_succ]
                    refine wpAnyH_ready (rs := [10]) (by kernel_rfl) (by simp) ?_
                    refine AllReadyH.cons (o := ⟨none, _, _, _, _, _⟩) rfl (fun K hK => ?_) AllReadyH.nil
                    go_simp
                    refine hK.out _ _ hSB (fun _ => ?_)
                    clear hK K
                    try simp only [Act.put, List.setIfInBounds_toArray, List.set_cons_zero, List.set_cons_succ]
                    refine wpAnyH_done (by kernel_rfl) ?_ _
                    clear hSA2 hSB2 r3 r4 rm rm0 hc2 hSA hSB
                    have hsc : ys = 0 ∨ (¬ ys = 0 ∧ ys = 2) ∨ (¬ ys = 0 ∧ ¬ ys = 2) := by omega
                    rcases hsc with rfl | ⟨h0, rfl⟩ | ⟨h0, h2⟩
                    · have E := HEND.out (ck + 1) (by rw [HXS.out]; simp)
                      have HE := Lib.hid E
                      clear HEND HXS E
                      go_wp2_with fail
                      exact ⟨by simpa using HE.out, by simp [intOf]; omega⟩
                    · have E := HEND.out (ck + 1) (by rw [HXS.out]; simp)
                      have HE := Lib.hid E
                      clear HEND HXS E
                      go_wp2_with fail
                      exact ⟨by simpa using HE.out, by simp [intOf]; omega⟩
                    · have E := HEND.out ck (by rw [HXS.out]; simp [h0, h2])
                      have h0b : (ys == 0) = false := by simpa using h0
                      have h2b : (ys == 2) = false := by simpa using h2
                      have h0d : decide (ys = 0) = false := by simpa using h0
                      have h2d : decide (ys = 2) = false := by simpa using h2
                      have HE := Lib.hid E
                      clear HEND HXS E
                      go_wp2_with fail
                      exact ⟨by simpa using HE.out, by simp [intOf]; omega⟩
                  · go_simp
                    refine hK.out _ _ hSA (fun _ => ?_)
                    clear hK K
                    try simp only [Act.put, List.setIfInBounds_toArray, List.set_cons_zero, List.set_cons_succ]
                    refine wpAnyH_take (i := 9) (oi := ⟨some 87, _, _, _, _, _⟩) (v := .int .i64 st2) rfl (by kernel_rfl) (by kernel_rfl) (by kernel_rfl) (fun _ _ _ h => h) (.inl ⟨by rfl, fun W hW => by go_simp⟩) hSA ?_
                    try simp only [Act.put, List.setIfInBounds_toArray, List.set_cons_zero, List.set_cons_succ]
                    refine wpAnyH_ready (rs := [6]) (by kernel_rfl) (by simp) ?_
                    refine AllReadyH.cons (o := ⟨some 84, _, _, _, _, _⟩) rfl (fun K hK => ?_) AllReadyH.nil
                    go_simp
                    refine hK.out _ _ hSA (fun _ => ?_)
                    clear hK K
                    try simp only [Act.put, List.setIfInBounds_toArray, List.set_cons_zero, List.set_cons_succ]
                    refine wpAnyH_take (i := 7) (oi := ⟨some 85, _, _, _, _, _⟩) (v := .int .i64 1) rfl (by kernel_rfl) (by kernel_rfl) (by kernel_rfl) (fun _ _ _ h => h) (.inl ⟨by rfl, fun W hW => by have hw1 := wrap_one; go_simp⟩) hSA ?_
                    try simp only [Act.put, List.setIfInBounds_toArray, List.set_cons_zero, List.set_cons_succ]
                    refine wpAnyH_ready (rs := [10]) (by kernel_rfl) (by simp) ?_
                    refine AllReadyH.cons (o := ⟨none, _, _, _, _, _⟩) rfl (fun K hK => ?_) AllReadyH.nil
                    go_simp
                    refine hK.out _ _ hSB (fun _ => ?_)
                    clear hK K
                    try simp only [Act.put, List.setIfInBounds_toArray, List.set_cons_zero, List.set_cons_succ]
                    refine wpAnyH_done (by kernel_rfl) ?_ _
                    clear hSA2 hSB2 r3 r4 rm rm0 hc2 hSA hSB
                    have hsc : ys = 0 ∨ (¬ ys = 0 ∧ ys = 2) ∨ (¬ ys = 0 ∧ ¬ ys = 2) := by omega
                    rcases hsc with rfl | ⟨h0, rfl⟩ | ⟨h0, h2⟩
                    · have E := HEND.out (ck + 1) (by rw [HXS.out]; simp)
                      have HE := Lib.hid E
                      clear HEND HXS E
                      go_wp2_with fail
                      exact ⟨by simpa using HE.out, by simp [intOf]; omega⟩
                    · have E := HEND.out (ck + 1) (by rw [HXS.out]; simp)
                      have HE := Lib.hid E
                      clear HEND HXS E
                      go_wp2_with fail
                      exact ⟨by simpa using HE.out, by simp [intOf]; omega⟩
                    · have E := HEND.out ck (by rw [HXS.out]; simp [h0, h2])
                      have h0b : (ys == 0) = false := by simpa using h0
                      have h2b : (ys == 2) = false := by simpa using h2
                      have h0d : decide (ys = 0) = false := by simpa using h0
                      have h2d : decide (ys = 2) = false := by simpa using h2
                      have HE := Lib.hid E
                      clear HEND HXS E
                      go_wp2_with fail
                      exact ⟨by simpa using HE.out, by simp [intOf]; omega⟩
                · go_simp
                  refine hK.out _ _ hSA (fun _ => ?_)
                  clear hK K
                  try simp only [Act.put, List.setIfInBounds_toArray, List.set_cons_zero, List.set_cons_succ]
                  refine wpAnyH_take (i := 9) (oi := ⟨some 77, _, _, _, _, _⟩) (v := .int .i64 st1) rfl (by kernel_rfl) (by kernel_rfl) (by kernel_rfl) (fun _ _ _ h => h) (.inl ⟨by rfl, fun W hW => by go_simp⟩) hSA ?_
                  try simp only [Act.put, List.setIfInBounds_toArray, List.set_cons_zero, List.set_cons_succ]
                  refine wpAnyH_ready (rs := [6]) (by kernel_rfl) (by simp) ?_
                  refine AllReadyH.cons (o := ⟨some 74, _, _, _, _, _⟩) rfl (fun K hK => ?_) AllReadyH.nil
                  go_simp
                  refine hK.out _ _ hSA (fun _ => ?_)
                  clear hK K
                  try simp only [Act.put, List.setIfInBounds_toArray, List.set_cons_zero, List.set_cons_succ]
                  refine wpAnyH_take (i := 7) (oi := ⟨some 75, _, _, _, _, _⟩) (v := .int .i64 1) rfl (by kernel_rfl) (by kernel_rfl) (by kernel_rfl) (fun _ _ _ h => h) (.inl ⟨by rfl, fun W hW => by have hw1 := wrap_one; go_simp⟩) hSA ?_
                  try simp only [Act.put, List.setIfInBounds_toArray, List.set_cons_zero, List.set_cons_succ]
                  refine wpAnyH_ready (rs := [10]) (by kernel_rfl) (by simp) ?_
                  refine AllReadyH.cons (o := ⟨none, _, _, _, _, _⟩) rfl (fun K hK => ?_) AllReadyH.nil
                  go_simp
                  refine hK.out _ _ hSB (fun _ => ?_)
                  clear hK K
                  try simp only [Act.put, List.setIfInBounds_toArray, List.set_cons_zero, List.set_cons_succ]
                  refine wpAnyH_done (by kernel_rfl) ?_ _
                  clear hSA1 hSB1 r1 r2 rl rl0 hc0 hSA hSB
                  go_upto_region 22 with fail
                  have hSA := hSA2.out
                  have hSB := hSB2.out
                  refine wp_region_held_drew (S := fun W1 : World => ∀ j v, K2.toList[j]? = some v → W1.cell? ((⟨gA, off + k * 20 + 8, none⟩ : Addr).add j) = some v) (by kernel_rfl) hc2.out (fun hH => ?_)
                  generalize u2.drew = wd at *
                  refine wpAnyH_take (i := 0) (oi := ⟨some 78, _, _, _, _, _⟩) (v := .map (some MB)) rfl (by kernel_rfl) (by kernel_rfl) (by kernel_rfl) (fun _ _ _ h => h) (.inl ⟨by rfl, fun W hW => by go_simp⟩) hH ?_
                  try simp only [Act.put, List.setIfInBounds_toArray, List.set_cons_zero, List.set_cons_succ]
                  refine wpAnyH_take (i := 1) (oi := ⟨some 79, _, _, _, _, _⟩) (v := .slice (some ⟨gA, off, none⟩) n2 c2) rfl (by kernel_rfl) (by kernel_rfl) (by kernel_rfl) (fun _ _ _ h => h) (.inl ⟨by rfl, fun W hW => by go_simp⟩) hH ?_
                  try simp only [Act.put, List.setIfInBounds_toArray, List.set_cons_zero, List.set_cons_succ]
                  refine wpAnyH_take (i := 2) (oi := ⟨some 80, _, _, _, _, _⟩) (v := .int .i64 k) rfl (by kernel_rfl) (by kernel_rfl) (by kernel_rfl) (fun _ _ _ h => h) (.inl ⟨by rfl, fun W hW => by go_simp⟩) hH ?_
                  try simp only [Act.put, List.setIfInBounds_toArray, List.set_cons_zero, List.set_cons_succ]
                  refine wpAnyH_take (i := 3) (oi := ⟨some 81, _, _, _, _, _⟩) (v := .pointer (some ⟨gA, off + k * 20, none⟩)) rfl (by kernel_rfl) (by kernel_rfl) (by kernel_rfl) (fun _ _ _ h => h) (.inl ⟨by rfl, fun W hW => by go_simp⟩) hH ?_
                  try simp only [Act.put, List.setIfInBounds_toArray, List.set_cons_zero, List.set_cons_succ]
                  refine wpAnyH_take (i := 4) (oi := ⟨some 82, _, _, _, _, _⟩) (v := .pointer (some ⟨gA, off + k * 20 + 8, none⟩)) rfl (by kernel_rfl) (by kernel_rfl) (by kernel_rfl) (fun _ _ _ h => h) (.inl ⟨by rfl, fun W hW => by go_simp⟩) hH ?_
                  try simp only [Act.put, List.setIfInBounds_toArray, List.set_cons_zero, List.set_cons_succ]
                  refine wpAnyH_take (i := 5) (oi := ⟨some 83, _, _, _, _, _⟩) (v := .agg K2) rfl (by kernel_rfl) (by kernel_rfl) (by kernel_rfl) (fun _ _ _ h => h) (yields_cells (by rfl) 36 _ rfl ⟨gA, off + k * 20 + 8, none⟩ rfl K2 _ (fun W hW => hW) Try.underlying36 rfl k_b.out) hH ?_
                  try simp only [Act.put, List.setIfInBounds_toArray, List.set_cons_zero, List.set_cons_succ]
                  refine wpAnyH_ready (rs := [6, 8]) (by kernel_rfl) (by simp) ?_
                  refine AllReadyH.cons (o := ⟨some 84, _, _, _, _, _⟩) rfl (fun K hK => ?_) (AllReadyH.cons (o := ⟨some 86, _, _, _, _, _⟩) rfl (fun K hK => ?_) AllReadyH.nil)
                  · go_simp
                    refine hK.out _ _ hH (fun _ => ?_)
                    clear hK K
                    try simp only [Act.put, List.setIfInBounds_toArray, List.set_cons_zero, List.set_cons_succ]
                    refine wpAnyH_take (i := 7) (oi := ⟨some 85, _, _, _, _, _⟩) (v := .int .i64 1) rfl (by kernel_rfl) (by kernel_rfl) (by kernel_rfl) (fun _ _ _ h => h) (.inl ⟨by rfl, fun W hW => by have hw1 := wrap_one; go_simp⟩) hH ?_
                    try simp only [Act.put, List.setIfInBounds_toArray, List.set_cons_zero, List.set_cons_succ]
                    refine wpAnyH_ready (rs := [8]) (by kernel_rfl) (by simp) ?_
                    refine AllReadyH.cons (o := ⟨some 86, _, _, _, _, _⟩) rfl (fun K hK => ?_) AllReadyH.nil
                    go_simp
                    refine hK.out _ _ hSA (fun _ => ?_)
                    clear hK K
                    try simp only [Act.put, List.setIfInBounds_toArray, List.set_cons_zero, List.set_cons_succ]
                    refine wpAnyH_take (i := 9) (oi := ⟨some 87, _, _, _, _, _⟩) (v := .int .i64 st2) rfl (by kernel_rfl) (by kernel_rfl) (by kernel_rfl) (fun _ _ _ h => h) (.inl ⟨by rfl, fun W hW => by go_simp⟩) hSA ?_
                    try simp only [Act.put, List.setIfInBounds_toArray, List.set_cons_zero, List.set_cons_succ]
                    refine wpAnyH_ready (rs := [10]) (by kernel_rfl) (by simp) ?_
                    refine AllReadyH.cons (o := ⟨none, _, _, _, _, _⟩) rfl (fun K hK => ?_) AllReadyH.nil
                    go_simp
                    refine hK.out _ _ hSB (fun _ => ?_)
                    clear hK K
                    try simp only [Act.put, List.setIfInBounds_toArray, List.set_cons_zero, List.set_cons_succ]
                    refine wpAnyH_done (by kernel_rfl) ?_ _
                    clear hSA2 hSB2 r3 r4 rm rm0 hc2 hSA hSB
                    have hsc : ys = 0 ∨ (¬ ys = 0 ∧ ys = 2) ∨ (¬ ys = 0 ∧ ¬ ys = 2) := by omega
                    rcases hsc with rfl | ⟨h0, rfl⟩ | ⟨h0, h2⟩
                    · have E := HEND.out (ck + 1) (by rw [HXS.out]; simp)
                      have HE := Lib.hid E
                      clear HEND HXS E
                      go_wp2_with fail
                      exact ⟨by simpa using HE.out, by simp [intOf]; omega⟩
                    · have E := HEND.out (ck + 1) (by rw [HXS.out]; simp)
                      have HE := Lib.hid E
                      clear HEND HXS E
                      go_wp2_with fail
                      exact ⟨by simpa using HE.out, by simp [intOf]; omega⟩
                    · have E := HEND.out ck (by rw [HXS.out]; simp [h0, h2])
                      have h0b : (ys == 0) = false := by simpa using h0
                      have h2b : (ys == 2) = false := by simpa using h2
                      have h0d : decide (ys = 0) = false := by simpa using h0
                      have h2d : decide (ys = 2) = false := by simpa using h2
                      have HE := Lib.hid E
                      clear HEND HXS E
                      go_wp2_with fail
                      exact ⟨by simpa using HE.out, by simp [intOf]; omega⟩
                  · go_simp
                    refine hK.out _ _ hSA (fun _ => ?_)
                    clear hK K
                    try simp only [Act.put, List.setIfInBounds_toArray, List.set_cons_zero, List.set_cons_succ]
                    refine wpAnyH_take (i := 9) (oi := ⟨some 87, _, _, _, _, _⟩) (v := .int .i64 st2) rfl (by kernel_rfl) (by kernel_rfl) (by kernel_rfl) (fun _ _ _ h => h) (.inl ⟨by rfl, fun W hW => by go_simp⟩) hSA ?_
                    try simp only [Act.put, List.setIfInBounds_toArray, List.set_cons_zero, List.set_cons_succ]
                    refine wpAnyH_ready (rs := [6]) (by kernel_rfl) (by simp) ?_
                    refine AllReadyH.cons (o := ⟨some 84, _, _, _, _, _⟩) rfl (fun K hK => ?_) AllReadyH.nil
                    go_simp
                    refine hK.out _ _ hSA (fun _ => ?_)
                    clear hK K
                    try simp only [Act.put, List.setIfInBounds_toArray, List.set_cons_zero, List.set_cons_succ]
                    refine wpAnyH_take (i := 7) (oi := ⟨some 85, _, _, _, _, _⟩) (v := .int .i64 1) rfl (by kernel_rfl) (by kernel_rfl) (by kernel_rfl) (fun _ _ _ h => h) (.inl ⟨by rfl, fun W hW => by have hw1 := wrap_one; go_simp⟩) hSA ?_
                    try simp only [Act.put, List.setIfInBounds_toArray, List.set_cons_zero, List.set_cons_succ]
                    refine wpAnyH_ready (rs := [10]) (by kernel_rfl) (by simp) ?_
                    refine AllReadyH.cons (o := ⟨none, _, _, _, _, _⟩) rfl (fun K hK => ?_) AllReadyH.nil
                    go_simp
                    refine hK.out _ _ hSB (fun _ => ?_)
                    clear hK K
                    try simp only [Act.put, List.setIfInBounds_toArray, List.set_cons_zero, List.set_cons_succ]
                    refine wpAnyH_done (by kernel_rfl) ?_ _
                    clear hSA2 hSB2 r3 r4 rm rm0 hc2 hSA hSB
                    have hsc : ys = 0 ∨ (¬ ys = 0 ∧ ys = 2) ∨ (¬ ys = 0 ∧ ¬ ys = 2) := by omega
                    rcases hsc with rfl | ⟨h0, rfl⟩ | ⟨h0, h2⟩
                    · have E := HEND.out (ck + 1) (by rw [HXS.out]; simp)
                      have HE := Lib.hid E
                      clear HEND HXS E
                      go_wp2_with fail
                      exact ⟨by simpa using HE.out, by simp [intOf]; omega⟩
                    · have E := HEND.out (ck + 1) (by rw [HXS.out]; simp)
                      have HE := Lib.hid E
                      clear HEND HXS E
                      go_wp2_with fail
                      exact ⟨by simpa using HE.out, by simp [intOf]; omega⟩
                    · have E := HEND.out ck (by rw [HXS.out]; simp [h0, h2])
                      have h0b : (ys == 0) = false := by simpa using h0
                      have h2b : (ys == 2) = false := by simpa using h2
                      have h0d : decide (ys = 0) = false := by simpa using h0
                      have h2d : decide (ys = 2) = false := by simpa using h2
                      have HE := Lib.hid E
                      clear HEND HXS E
                      go_wp2_with fail
                      exact ⟨by simpa using HE.out, by simp [intOf]; omega⟩
              · obtain rfl : k = n2 := by omega
                have hd0 : decide (k < k) = false := by simp
                have hdi : decide ((k : Int) < (k : Int)) = false := by simp
                have h96 : k ≤ 48 := by rw [← HN2.out]; exact HGD.out.ln
                have hn48I : ¬ (48 : Int) < (k : Int) := by omega
                have hn48D : decide ((48 : Int) < (k : Int)) = false := decide_eq_false hn48I
                have hn48D2 : decide (48 < k) = false := decide_eq_false (by omega)
                obtain ⟨z, hz⟩ : ∃ z : Nat, z = 2 * k := ⟨_, rfl⟩
                have hz0 : (2 : Int) * (k : Int) = (z : Int) := by omega
                have hz1 : IntKind.i64.wrap (z : Int) = (z : Int) := by rw [wrap_small (by omega) (by omega)]
                have hlen := hmk.len 3
                rw [← hz] at hlen
                have hSX := HSX.out.off hoff (fun j hj => .inl hj)
                have hOB := (hoff.block ob HOBL.out HOBN.out).trans AOB
                have HNX : Hid (∃ i' : Nat, Value.int .i64 ((i : Int) + 1) = .int .i64 i' ∧ i' ≤ n ∧ ∃ L g c, StX (fun j => j = MB) w wr TB L ∧ MapK wr MB g c ∧ Hid (c ≤ 96)) := Lib.hid ⟨i + 1, by simp, by omega, L2, g, 2 * k, hSX.mono (fun j hj => .inl hj), hmk, Lib.hid (by omega)⟩
                have hlc : L2.take k = L2 := List.take_of_length_le (by rw [HN2.out]; exact Nat.le_refl _)
                rw [hlc]
                have q0 := sa_kind hOB
                have x5 := Lib.hid (sa_op hOB)
                have x12 := Lib.hid (sa_bk hOB)
                have eob := HEB.out
                clear hSX hmk hgk hoff hlc HGD HOK HLR HSX hz
                generalize KA x.f.op = K1 at *
                generalize KA x.f.bk = K2 at *
                go_wp2_with (first
                  | ((with_reducible refine stop_op (o := ⟨some 138, _, _, _, _, _⟩) ?_); refine Lib.hid ?_; refine wpList_load_cells_on (by kernel_rfl) 36 (.tmp 137) rfl ⟨ob, 5, none⟩ rfl K1 _ x5.out Try.underlying36 rfl k_x1.out ?_)
                  | ((with_reducible refine stop_op (o := ⟨some 141, _, _, _, _, _⟩) ?_); refine Lib.hid ?_; refine wpList_load_cells_on (by kernel_rfl) 36 (.tmp 140) rfl ⟨ob, 12, none⟩ rfl K2 _ x12.out Try.underlying36 rfl k_x2.out ?_))
                exact ⟨HNX.out, by simp [intOf]; omega⟩
          · obtain ⟨L2, hL2⟩ : ∃ M, M = L1 := ⟨_, rfl⟩
            subst hL2
            clear q1 q3
            go_upto_region 15 with fail
            clear q0
            obtain ⟨wx, hwx⟩ : ∃ W, W = w5b := ⟨_, rfl⟩
            subst hwx
            have AOB := AOB7
            have hm := hm7
            have hS := hS7
            clear AOB7 hm7 hS7
            go_upto_region 16 with (go_at_call 11; refine (hS.list).mono ?_; rintro e w6 ⟨A2, c2, rfl, hSl, hA2, hS6, hK6⟩)
            have AOB6 := (hK6.2 ob (.inr rfl)).trans AOB
            have hm6 := hm.keep (hK6.2 MB (.inl rfl))
            have hMB6 : MB < wx.heap.size := hm.lt
            obtain ⟨wc, hclr, hmc, oc⟩ := hm6.clear 0
            have hobMB : ob ≠ MB := HOBN.out
            have AOBc : wc.heap[ob]? = some (.cells (SA x) 40 (0, 0)) := (oc.block ob (blk_lt AOB6) hobMB).trans AOB6
            have HSX : Hid (StX (fun j => j = MB ∨ j = ob) w wc TB L2) := Lib.hid (hS6.off oc (fun j hj => .inl hj))
            have HOBL : Hid (ob < wc.heap.size) := Lib.hid (blk_lt AOBc)
            have HGD : Hid (GoodF L2) := Lib.hid hS6.good
            have HOK : Hid (∀ y ∈ L2, FlOk y) := Lib.hid hS6.good.ok
            have hln := hS6.good.ln
            have HLR : Hid (∀ k, k < L2.length → ∃ y gA off, L2[k]? = some y ∧ A2 = some ⟨gA, off, none⟩ ∧ (gA < wc.heap.size ∧ gA ≠ MB) ∧ ∀ j v, (FA y).toList[j]? = some v → wc.cell? ((⟨gA, off + k * 20, none⟩ : Addr).add j) = some v) := Lib.hid (fun k hk => by
              obtain ⟨gA, off, hAe, hgl, hrow⟩ := hSl.row (by omega)
              have hy : L2[k]? = some L2[k] := List.getElem?_eq_getElem hk
              have hge := hA2 gA off none hAe
              have hne : gA ≠ MB := by omega
              have hf := f_row hrow hy
              exact ⟨L2[k], gA, off, hy, hAe, ⟨Nat.lt_of_lt_of_le hgl oc.size, hne⟩, fun j v hj => cell_blk (oc.block gA hgl hne) (hf j v hj)⟩)
            clear AOB AOB6 hm hm6 hS hS6 hK6 hSl hA2
            have AOB := AOBc
            clear AOBc
            generalize hn2 : L2.length = n2 at *
            have HN2 := Lib.hid hn2
            clear hn2
            go_upto_region 19 with fail
            go_loopw [12, 13] (fun v12 v13 wr => ∃ k : Nat, v13 = .int .i64 k ∧ k ≤ n2 ∧ v12 = .int .i64 (cntF (L2.take k) : Nat) ∧ ∃ g, MapK wr MB g (2 * k) ∧ Hid (KeysOf g (L2.take k)) ∧ OffS (fun j => j = MB) wc wr) (fun _ v13 _ => n2 - (intOf v13).toNat)
            case atStart => exact ⟨0, rfl, Nat.zero_le _, rfl, _, hmc, Lib.hid (fun x hx => absurd rfl hx), OffS.refl _ _⟩
            case round =>
              obtain ⟨k, rfl, hk, rfl, g, hmk, hgk, hoff⟩ := hrel
              by_cases hkl : k < n2
              · have hkI : (k : Int) < (n2 : Int) := by omega
                have hkD : decide (k < n2) = true := by simp [hkl]
                obtain ⟨y, gA, off, hy, rfl, hgA, hrow⟩ := HLR.out k hkl
                have hyo := HOK.out y (List.mem_of_getElem? hy)
                obtain ⟨hn1, hn2', hK2⟩ := keys_new HGD.out hy hgk.out
                have hct := cnt_take hy
                have HK2 := Lib.hid hK2
                have rowr : ∀ j v, (FA y).toList[j]? = some v → wr.cell? ((⟨gA, off + k * 20, none⟩ : Addr).add j) = some v := fun j v hj => cell_blk (hoff.block gA hgA.1 hgA.2) (hrow j v hj)
                obtain ⟨v1, st1, u1, u2, r1, r2, rl, m2, o1, o2⟩ := (hmk.keep (w' := wr.drew) rfl).put3 (by omega) hyo.op (n := 1) (by unfold i64ok; omega)
                rw [hn1] at rl m2
                have rl0 := (hmk.keep (w' := wr.drew) rfl).look1 hyo.op
                rw [hn1] at rl0
                simp only [Option.getD_none, Option.isSome_none, Bool.false_eq_true, if_false] at rl rl0 m2
                obtain ⟨v2, st2, u3, u4, r3, r4, rm, m4, o3, o4⟩ := (m2.keep (w' := u2.drew) rfl).put3 (by omega) hyo.bk (n := 1) (by unfold i64ok; omega)
                rw [hn2'] at rm m4
                have rm0 := (m2.keep (w' := u2.drew) rfl).look1 hyo.bk
                rw [hn2'] at rm0
                simp only [Option.getD_none, Option.isSome_none, Bool.false_eq_true, if_false] at rm rm0 m4
                have oU2 : OffS (fun j => j = MB) wr u2 := ⟨o2.os, o2.tape, o2.output, o2.size, o2.block⟩
                have oU4' : OffS (fun j => j = MB) u2 u4 := ⟨o4.os, o4.tape, o4.output, o4.size, o4.block⟩
                have oU4 := oU2.trans oU4'
                have gl0 : gA < wr.heap.size := Nat.lt_of_lt_of_le hgA.1 hoff.size
                have cOp := fun (W1 : World) (hW : W1.heap[gA]? = wr.heap[gA]?) => row_op (i := k) (l := L2) (fun j v hj => cell_blk hW (rowr j v hj))
                have cBk := fun (W1 : World) (hW : W1.heap[gA]? = wr.heap[gA]?) => row_bk (i := k) (l := L2) (fun j v hj => cell_blk hW (rowr j v hj))
                have eU1 : u1.heap[gA]? = wr.heap[gA]? := o1.block gA gl0 hgA.2
                have eU2 : u2.heap[gA]? = wr.heap[gA]? := oU2.block gA gl0 hgA.2
                have gl2 : gA < u2.drew.heap.size := Nat.lt_of_lt_of_le gl0 oU2.size
                have eU3 : u3.heap[gA]? = wr.heap[gA]? := (o3.block gA gl2 hgA.2).trans eU2
                have eU4 : u4.heap[gA]? = wr.heap[gA]? := oU4.block gA gl0 hgA.2
                have hc0 := Lib.hid (cOp wr.drew rfl)
                have hSA1 := Lib.hid (cOp u1 eU1)
                have hSB1 := Lib.hid (cOp u2 eU2)
                have hc2 := Lib.hid (cBk u2.drew eU2)
                have hSA2 := Lib.hid (cBk u3 eU3)
                have hSB2 := Lib.hid (cBk u4 eU4)
                have cst : u4.cell? ⟨gA, off + k * 20 + 18, none⟩ = some (.int .i64 y.st) := row_st (i := k) (fun j v hj => cell_blk eU4 (rowr j v hj))
                have HEND : Hid (∀ nc : Nat, nc = cntF (L2.take k) + (if openF y then 1 else 0) → ∃ k' : Nat, Value.int .i64 ((k : Int) + 1) = .int .i64 k' ∧ k' ≤ n2 ∧ Value.int .i64 (nc : Int) = .int .i64 (cntF (L2.take k') : Nat) ∧ ∃ g, MapK u4 MB g (2 * k') ∧ Hid (KeysOf g (L2.take k')) ∧ OffS (fun j => j = MB) wc u4) := Lib.hid (fun nc hnc => by
                  refine ⟨k + 1, by simp, by omega, by rw [hct, ← hnc], _, ?_, HK2, hoff.trans oU4⟩
                  rw [show 2 * (k + 1) = 2 * k + 1 + 1 by omega]
                  exact m4)
                have hcb : cntF (L2.take k) ≤ 48 := Nat.le_trans (List.length_filter_le _ _) (by rw [List.length_take]; have := HGD.out.ln; omega)
                have k_a := Lib.hid (k_inf y.op)
                have k_b := Lib.hid (k_inf y.bk)
                have HXS : Hid (openF y = (y.st == 0 || y.st == 2)) := Lib.hid rfl
                clear cOp cBk rowr hrow hmk hgk hoff m2 m4 o1 o2 o3 o4 oU2 oU4' oU4 eU1 eU2 eU3 eU4 hn1 hn2' hK2 HK2 hct hy hyo gl0 gl2
                generalize cntF (L2.take k) = ck at *
                generalize openF y = oy at *
                generalize y.st = ys at *
                generalize KA y.op = K1 at *
                generalize KA y.bk = K2 at *
                go_upto_region 21 with fail
                have hSA := hSA1.out
                have hSB := hSB1.out
                refine wp_region_held_drew (S := fun W1 : World => ∀ j v, K1.toList[j]? = some v → W1.cell? ((⟨gA, off + k * 20 + 1, none⟩ : Addr).add j) = some v) (by kernel_rfl) hc0.out (fun hH => ?_)
                generalize wr.drew = wd at *
                refine wpAnyH_take (i := 0) (oi := ⟨some 68, _, _, _, _, _⟩) (v := .map (some MB)) rfl (by kernel_rfl) (by kernel_rfl) (by kernel_rfl) (fun _ _ _ h => h) (.inl ⟨by rfl, fun W hW => by go_simp⟩) hH ?_
                try simp only [Act.put, List.setIfInBounds_toArray, List.set_cons_zero, List.set_cons_succ]
                refine wpAnyH_take (i := 1) (oi := ⟨some 69, _, _, _, _, _⟩) (v := .slice (some ⟨gA, off, none⟩) n2 c2) rfl (by kernel_rfl) (by kernel_rfl) (by kernel_rfl) (fun _ _ _ h => h) (.inl ⟨by rfl, fun W hW => by go_simp⟩) hH ?_
                try simp only [Act.put, List.setIfInBounds_toArray, List.set_cons_zero, List.set_cons_succ]
                refine wpAnyH_take (i := 2) (oi := ⟨some 70, _, _, _, _, _⟩) (v := .int .i64 k) rfl (by kernel_rfl) (by kernel_rfl) (by kernel_rfl) (fun _ _ _ h => h) (.inl ⟨by rfl, fun W hW => by go_simp⟩) hH ?_
                try simp only [Act.put, List.setIfInBounds_toArray, List.set_cons_zero, List.set_cons_succ]
                refine wpAnyH_take (i := 3) (oi := ⟨some 71, _, _, _, _, _⟩) (v := .pointer (some ⟨gA, off + k * 20, none⟩)) rfl (by kernel_rfl) (by kernel_rfl) (by kernel_rfl) (fun _ _ _ h => h) (.inl ⟨by rfl, fun W hW => by go_simp⟩) hH ?_
                try simp only [Act.put, List.setIfInBounds_toArray, List.set_cons_zero, List.set_cons_succ]
                refine wpAnyH_take (i := 4) (oi := ⟨some 72, _, _, _, _, _⟩) (v := .pointer (some ⟨gA, off + k * 20 + 1, none⟩)) rfl (by kernel_rfl) (by kernel_rfl) (by kernel_rfl) (fun _ _ _ h => h) (.inl ⟨by rfl, fun W hW => by go_simp⟩) hH ?_
                try simp only [Act.put, List.setIfInBounds_toArray, List.set_cons_zero, List.set_cons_succ]
                refine wpAnyH_take (i := 5) (oi := ⟨some 73, _, _, _, _, _⟩) (v := .agg K1) rfl (by kernel_rfl) (by kernel_rfl) (by kernel_rfl) (fun _ _ _ h => h) (yields_cells (by rfl) 36 _ rfl ⟨gA, off + k * 20 + 1, none⟩ rfl K1 _ (fun W hW => hW) Try.underlying36 rfl k_a.out) hH ?_
                try simp only [Act.put, List.setIfInBounds_toArray, List.set_cons_zero, List.set_cons_succ]
                refine wpAnyH_ready (rs := [6, 8]) (by kernel_rfl) (by simp) ?_
                refine AllReadyH.cons (o := ⟨some 74, _, _, _, _, _⟩) rfl (fun K hK => ?_) (AllReadyH.cons (o := ⟨some 76, _, _, _, _, _⟩) rfl (fun K hK => ?_) AllReadyH.nil)
                · go_simp
                  refine hK.out _ _ hH (fun _ => ?_)
                  clear hK K
                  try simp only [Act.put, List.setIfInBounds_toArray, List.set_cons_zero, List.set_cons_succ]
                  refine wpAnyH_take (i := 7) (oi := ⟨some 75, _, _, _, _, _⟩) (v := .int .i64 1) rfl (by kernel_rfl) (by kernel_rfl) (by kernel_rfl) (fun _ _ _ h => h) (.inl ⟨by rfl, fun W hW => by have hw1 := wrap_one; go_simp⟩) hH ?_
                  try simp only [Act.put, List.setIfInBounds_toArray, List.set_cons_zero, List.set_cons_succ]
                  refine wpAnyH_ready (rs := [8]) (by kernel_rfl) (by simp) ?_
                  refine AllReadyH.cons (o := ⟨some 76, _, _, _, _, _⟩) rfl (fun K hK => ?_) AllReadyH.nil
                  go_simp
                  refine hK.out _ _ hSA (fun _ => ?_)
                  clear hK K
                  try simp only [Act.put, List.setIfInBounds_toArray, List.set_cons_zero, List.set_cons_succ]
                  refine wpAnyH_take (i := 9) (oi := ⟨some 77, _, _, _, _, _⟩) (v := .int .i64 st1) rfl (by kernel_rfl) (by kernel_rfl) (by kernel_rfl) (fun _ _ _ h => h) (.inl ⟨by rfl, fun W hW => by go_simp⟩) hSA ?_
                  try simp only [Act.put, List.setIfInBounds_toArray, List.set_cons_zero, List.set_cons_succ]
                  refine wpAnyH_ready (rs := [10]) (by kernel_rfl) (by simp) ?_
                  refine AllReadyH.cons (o := ⟨none, _, _, _, _, _⟩) rfl (fun K hK => ?_) AllReadyH.nil
                  go_simp
                  refine hK.out _ _ hSB (fun _ => ?_)
                  clear hK K
                  try simp only [Act.put, List.setIfInBounds_toArray, List.set_cons_zero, List.set_cons_succ]
                  refine wpAnyH_done (by kernel_rfl) ?_ _
                  clear hSA1 hSB1 r1 r2 rl rl0 hc0 hSA hSB
                  go_upto_region 22 with fail
                  have hSA := hSA2.out
                  have hSB := hSB2.out
                  refine wp_region_held_drew (S := fun W1 : World => ∀ j v, K2.toList[j]? = some v → W1.cell? ((⟨gA, off + k * 20 + 8, none⟩ : Addr).add j) = some v) (by kernel_rfl) hc2.out (fun hH => ?_)
                  generalize u2.drew = wd at *
                  refine wpAnyH_take (i := 0) (oi := ⟨some 78, _, _, _, _, _⟩) (v := .map (some MB)) rfl (by kernel_rfl) (by kernel_rfl) (by kernel_rfl) (fun _ _ _ h => h) (.inl ⟨by rfl, fun W hW => by go_simp⟩) hH ?_
                  try simp only [Act.put, List.setIfInBounds_toArray, List.set_cons_zero, List.set_cons_succ]
                  refine wpAnyH_take (i := 1) (oi := ⟨some 79, _, _, _, _, _⟩) (v := .slice (some ⟨gA, off, none⟩) n2 c2) rfl (by kernel_rfl) (by kernel_rfl) (by kernel_rfl) (fun _ _ _ h => h) (.inl ⟨by rfl, fun W hW => by go_simp⟩) hH ?_
                  try simp only [Act.put, List.setIfInBounds_toArray, List.set_cons_zero, List.set_cons_succ]
                  refine wpAnyH_take (i := 2) (oi := ⟨some 80, _, _, _, _, _⟩) (v := .int .i64 k) rfl (by kernel_rfl) (by kernel_rfl) (by kernel_rfl) (fun _ _ _ h => h) (.inl ⟨by rfl, fun W hW => by go_simp⟩) hH ?_
                  try simp only [Act.put, List.setIfInBounds_toArray, List.set_cons_zero, List.set_cons_succ]
                  refine wpAnyH_take (i := 3) (oi := ⟨some 81, _, _, _, _, _⟩) (v := .pointer (some ⟨gA, off + k * 20, none⟩)) rfl (by kernel_rfl) (by kernel_rfl) (by kernel_rfl) (fun _ _ _ h => h) (.inl ⟨by rfl, fun W hW => by go_simp⟩) hH ?_
                  try simp only [Act.put, List.setIfInBounds_toArray, List.set_cons_zero, List.set_cons_succ]
                  refine wpAnyH_take (i := 4) (oi := ⟨some 82, _, _, _, _, _⟩) (v := .pointer (some ⟨gA, off + k * 20 + 8, none⟩)) rfl (by kernel_rfl) (by kernel_rfl) (by kernel_rfl) (fun _ _ _ h => h) (.inl ⟨by rfl, fun W hW => by go_simp⟩) hH ?_
                  try simp only [Act.put, List.setIfInBounds_toArray, List.set_cons_zero, List.set_cons_succ]
                  refine wpAnyH_take (i := 5) (oi := ⟨some 83, _, _, _, _, _⟩) (v := .agg K2) rfl (by kernel_rfl) (by kernel_rfl) (by kernel_rfl) (fun _ _ _ h => h) (yields_cells (by rfl) 36 _ rfl ⟨gA, off + k * 20 + 8, none⟩ rfl K2 _ (fun W hW => hW) Try.underlying36 rfl k_b.out) hH ?_
                  try simp only [Act.put, List.setIfInBounds_toArray, List.set_cons_zero, List.set_cons_succ]
                  refine wpAnyH_ready (rs := [6, 8]) (by kernel_rfl) (by simp) ?_
                  refine AllReadyH.cons (o := ⟨some 84, _, _, _, _, _⟩) rfl (fun K hK => ?_) (AllReadyH.cons (o := ⟨some 86, _, _, _, _, _⟩) rfl (fun K hK => ?_) AllReadyH.nil)
                  · go_simp
                    refine hK.out _ _ hH (fun _ => ?_)
                    clear hK K
                    try simp only [Act.put, List.setIfInBounds_toArray, List.set_cons_zero, List.set_cons_succ]
                    refine wpAnyH_take (i := 7) (oi := ⟨some 85, _, _, _, _, _⟩) (v := .int .i64 1) rfl (by kernel_rfl) (by kernel_rfl) (by kernel_rfl) (fun _ _ _ h => h) (.inl ⟨by rfl, fun W hW => by have hw1 := wrap_one; go_simp⟩) hH ?_
                    try simp only [Act.put, List.setIfInBounds_toArray, List.set_cons_zero, List.set_cons_succ]
                    refine wpAnyH_ready (rs := [8]) (by kernel_rfl) (by simp) ?_
                    refine AllReadyH.cons (o := ⟨some 86, _, _, _, _, _⟩) rfl (fun K hK => ?_) AllReadyH.nil
                    go_simp
                    refine hK.out _ _ hSA (fun _ => ?_)
                    clear hK K
                    try simp only [Act.put, List.setIfInBounds_toArray, List.set_cons_zero, List.set_cons_succ]
                    refine wpAnyH_take (i := 9) (oi := ⟨some 87, _, _, _, _, _⟩) (v := .int .i64 st2) rfl (by kernel_rfl) (by kernel_rfl) (by kernel_rfl) (fun _ _ _ h => h) (.inl ⟨by rfl, fun W hW => by go_simp⟩) hSA ?_
                    try simp only [Act.put, List.setIfInBounds_toArray, List.set_cons_zero, List.set_cons_succ]
                    refine wpAnyH_ready (rs := [10]) (by kernel_rfl) (by simp) ?_
                    refine AllReadyH.cons (o := ⟨none, _, _, _, _, _⟩) rfl (fun K hK => ?_) AllReadyH.nil
                    go_simp
                    refine hK.out _ _ hSB (fun _ => ?_)
                    clear hK K
                    try simp only [Act.put, List.setIfInBounds_toArray, List.set_cons_zero, List.set_cons_succ]
                    refine wpAnyH_done (by kernel_rfl) ?_ _
                    clear hSA2 hSB2 r3 r4 rm rm0 hc2 hSA hSB
                    have hsc : ys = 0 ∨ (¬ ys = 0 ∧ ys = 2) ∨ (¬ ys = 0 ∧ ¬ ys = 2) := by omega
                    rcases hsc with rfl | ⟨h0, rfl⟩ | ⟨h0, h2⟩
                    · have E := HEND.out (ck + 1) (by rw [HXS.out]; simp)
                      have HE := Lib.hid E
                      clear HEND HXS E
                      go_wp2_with fail
                      exact ⟨by simpa using HE.out, by simp [intOf]; omega⟩
                    · have E := HEND.out (ck + 1) (by rw [HXS.out]; simp)
                      have HE := Lib.hid E
                      clear HEND HXS E
                      go_wp2_with fail
                      exact ⟨by simpa using HE.out, by simp [intOf]; omega⟩
                    · have E := HEND.out ck (by rw [HXS.out]; simp [h0, h2])
                      have h0b : (ys == 0) = false := by simpa using h0
                      have h2b : (ys == 2) = false := by simpa using h2
                      have h0d : decide (ys = 0) = false := by simpa using h0
                      have h2d : decide (ys = 2) = false := by simpa using h2
                      have HE := Lib.hid E
                      clear HEND HXS E
                      go_wp2_with fail
                      exact ⟨by simpa using HE.out, by simp [intOf]; omega⟩
                  · go_simp
                    refine hK.out _ _ hSA (fun _ => ?_)
                    clear hK K
                    try simp only [Act.put, List.setIfInBounds_toArray, List.set_cons_zero, List.set_cons_succ]
                    refine wpAnyH_take (i := 9) (oi := ⟨some 87, _, _, _, _, _⟩) (v := .int .i64 st2) rfl (by kernel_rfl) (by kernel_rfl) (by kernel_rfl) (fun _ _ _ h => h) (.inl ⟨by rfl, fun W hW => by go_simp⟩) hSA ?_
                    try simp only [Act.put, List.setIfInBounds_toArray, List.set_cons_zero, List.set_cons_succ]
                    refine wpAnyH_ready (rs := [6]) (by kernel_rfl) (by simp) ?_
                    refine AllReadyH.cons (o := ⟨some 84, _, _, _, _, _⟩) rfl (fun K hK => ?_) AllReadyH.nil
                    go_simp
                    refine hK.out _ _ hSA (fun _ => ?_)
                    clear hK K
                    try simp only [Act.put, List.setIfInBounds_toArray, List.set_cons_zero, List.set_cons_succ]
                    refine wpAnyH_take (i := 7) (oi := ⟨some 85, _, _, _, _, _⟩) (v := .int .i64 1) rfl (by kernel_rfl) (by kernel_rfl) (by kernel_rfl) (fun _ _ _ h => h) (.inl ⟨by rfl, fun W hW => by have hw1 := wrap_one; go_simp⟩) hSA ?_
                    try simp only [Act.put, List.setIfInBounds_toArray, List.set_cons_zero, List.set_cons_succ]
                    refine wpAnyH_ready (rs := [10]) (by kernel_rfl) (by simp) ?_
                    refine AllReadyH.cons (o := ⟨none, _, _, _, _, _⟩) rfl (fun K hK => ?_) AllReadyH.nil
                    go_simp
                    refine hK.out _ _ hSB (fun _ => ?_)
                    clear hK K
                    try simp only [Act.put, List.setIfInBounds_toArray, List.set_cons_zero, List.set_cons_succ]
                    refine wpAnyH_done (by kernel_rfl) ?_ _
                    clear hSA2 hSB2 r3 r4 rm rm0 hc2 hSA hSB
                    have hsc : ys = 0 ∨ (¬ ys = 0 ∧ ys = 2) ∨ (¬ ys = 0 ∧ ¬ ys = 2) := by omega
                    rcases hsc with rfl | ⟨h0, rfl⟩ | ⟨h0, h2⟩
                    · have E := HEND.out (ck + 1) (by rw [HXS.out]; simp)
                      have HE := Lib.hid E
                      clear HEND HXS E
                      go_wp2_with fail
                      exact ⟨by simpa using HE.out, by simp [intOf]; omega⟩
                    · have E := HEND.out (ck + 1) (by rw [HXS.out]; simp)
                      have HE := Lib.hid E
                      clear HEND HXS E
                      go_wp2_with fail
                      exact ⟨by simpa using HE.out, by simp [intOf]; omega⟩
                    · have E := HEND.out ck (by rw [HXS.out]; simp [h0, h2])
                      have h0b : (ys == 0) = false := by simpa using h0
                      have h2b : (ys == 2) = false := by simpa using h2
                      have h0d : decide (ys = 0) = false := by simpa using h0
                      have h2d : decide (ys = 2) = false := by simpa using h2
                      have HE := Lib.hid E
                      clear HEND HXS E
                      go_wp2_with fail
                      exact ⟨by simpa using HE.out, by simp [intOf]; omega⟩
                · go_simp
                  refine hK.out _ _ hSA (fun _ => ?_)
                  clear hK K
                  try simp only [Act.put, List.setIfInBounds_toArray, List.set_cons_zero, List.set_cons_succ]
                  refine wpAnyH_take (i := 9) (oi := ⟨some 77, _, _, _, _, _⟩) (v := .int .i64 st1) rfl (by kernel_rfl) (by kernel_rfl) (by kernel_rfl) (fun _ _ _ h => h) (.inl ⟨by rfl, fun W hW => by go_simp⟩) hSA ?_
                  try simp only [Act.put, List.setIfInBounds_toArray, List.set_cons_zero, List.set_cons_succ]
                  refine wpAnyH_ready (rs := [6]) (by kernel_rfl) (by simp) ?_
                  refine AllReadyH.cons (o := ⟨some 74, _, _, _, _, _⟩) rfl (fun K hK => ?_) AllReadyH.nil
                  go_simp
                  refine hK.out _ _ hSA (fun _ => ?_)
                  clear hK K
                  try simp only [Act.put, List.setIfInBounds_toArray, List.set_cons_zero, List.set_cons_succ]
                  refine wpAnyH_take (i := 7) (oi := ⟨some 75, _, _, _, _, _⟩) (v := .int .i64 1) rfl (by kernel_rfl) (by kernel_rfl) (by kernel_rfl) (fun _ _ _ h => h) (.inl ⟨by rfl, fun W hW => by have hw1 := wrap_one; go_simp⟩) hSA ?_
                  try simp only [Act.put, List.setIfInBounds_toArray, List.set_cons_zero, List.set_cons_succ]
                  refine wpAnyH_ready (rs := [10]) (by kernel_rfl) (by simp) ?_
                  refine AllReadyH.cons (o := ⟨none, _, _, _, _, _⟩) rfl (fun K hK => ?_) AllReadyH.nil
                  go_simp
                  refine hK.out _ _ hSB (fun _ => ?_)
                  clear hK K
                  try simp only [Act.put, List.setIfInBounds_toArray, List.set_cons_zero, List.set_cons_succ]
                  refine wpAnyH_done (by kernel_rfl) ?_ _
                  clear hSA1 hSB1 r1 r2 rl rl0 hc0 hSA hSB
                  go_upto_region 22 with fail
                  have hSA := hSA2.out
                  have hSB := hSB2.out
                  refine wp_region_held_drew (S := fun W1 : World => ∀ j v, K2.toList[j]? = some v → W1.cell? ((⟨gA, off + k * 20 + 8, none⟩ : Addr).add j) = some v) (by kernel_rfl) hc2.out (fun hH => ?_)
                  generalize u2.drew = wd at *
                  refine wpAnyH_take (i := 0) (oi := ⟨some 78, _, _, _, _, _⟩) (v := .map (some MB)) rfl (by kernel_rfl) (by kernel_rfl) (by kernel_rfl) (fun _ _ _ h => h) (.inl ⟨by rfl, fun W hW => by go_simp⟩) hH ?_
                  try simp only [Act.put, List.setIfInBounds_toArray, List.set_cons_zero, List.set_cons_succ]
                  refine wpAnyH_take (i := 1) (oi := ⟨some 79, _, _, _, _, _⟩) (v := .slice (some ⟨gA, off, none⟩) n2 c2) rfl (by kernel_rfl) (by kernel_rfl) (by kernel_rfl) (fun _ _ _ h => h) (.inl ⟨by rfl, fun W hW => by go_simp⟩) hH ?_
                  try simp only [Act.put, List.setIfInBounds_toArray, List.set_cons_zero, List.set_cons_succ]
                  refine wpAnyH_take (i := 2) (oi := ⟨some 80, _, _, _, _, _⟩) (v := .int .i64 k) rfl (by kernel_rfl) (by kernel_rfl) (by kernel_rfl) (fun _ _ _ h => h) (.inl ⟨by rfl, fun W hW => by go_simp⟩) hH ?_
                  try simp only [Act.put, List.setIfInBounds_toArray, List.set_cons_zero, List.set_cons_succ]
                  refine wpAnyH_take (i := 3) (oi := ⟨some 81, _, _, _, _, _⟩) (v := .pointer (some ⟨gA, off + k * 20, none⟩)) rfl (by kernel_rfl) (by kernel_rfl) (by kernel_rfl) (fun _ _ _ h => h) (.inl ⟨by rfl, fun W hW => by go_simp⟩) hH ?_
                  try simp only [Act.put, List.setIfInBounds_toArray, List.set_cons_zero, List.set_cons_succ]
                  refine wpAnyH_take (i := 4) (oi := ⟨some 82, _, _, _, _, _⟩) (v := .pointer (some ⟨gA, off + k * 20 + 8, none⟩)) rfl (by kernel_rfl) (by kernel_rfl) (by kernel_rfl) (fun _ _ _ h => h) (.inl ⟨by rfl, fun W hW => by go_simp⟩) hH ?_
                  try simp only [Act.put, List.setIfInBounds_toArray, List.set_cons_zero, List.set_cons_succ]
                  refine wpAnyH_take (i := 5) (oi := ⟨some 83, _, _, _, _, _⟩) (v := .agg K2) rfl (by kernel_rfl) (by kernel_rfl) (by kernel_rfl) (fun _ _ _ h => h) (yields_cells (by rfl) 36 _ rfl ⟨gA, off + k * 20 + 8, none⟩ rfl K2 _ (fun W hW => hW) Try.underlying36 rfl k_b.out) hH ?_
                  try simp only [Act.put, List.setIfInBounds_toArray, List.set_cons_zero, List.set_cons_succ]
                  refine wpAnyH_ready (rs := [6, 8]) (by kernel_rfl) (by simp) ?_
                  refine AllReadyH.cons (o := ⟨some 84, _, _, _, _, _⟩) rfl (fun K hK => ?_) (AllReadyH.cons (o := ⟨some 86, _, _, _, _, _⟩) rfl (fun K hK => ?_) AllReadyH.nil)
                  · go_simp
                    refine hK.out _ _ hH (fun _ => ?_)
                    clear hK K
                    try simp only [Act.put, List.setIfInBounds_toArray, List.set_cons_zero, List.set_cons_succ]
                    refine wpAnyH_take (i := 7) (oi := ⟨some 85, _, _, _, _, _⟩) (v := .int .i64 1) rfl (by kernel_rfl) (by kernel_rfl) (by kernel_rfl) (fun _ _ _ h => h) (.inl ⟨by rfl, fun W hW => by have hw1 := wrap_one; go_simp⟩) hH ?_
                    try simp only [Act.put, List.setIfInBounds_toArray, List.set_cons_zero, List.set_cons_succ]
                    refine wpAnyH_ready (rs := [8]) (by kernel_rfl) (by simp) ?_
                    refine AllReadyH.cons (o := ⟨some 86, _, _, _, _, _⟩) rfl (fun K hK => ?_) AllReadyH.nil
                    go_simp
                    refine hK.out _ _ hSA (fun _ => ?_)
                    clear hK K
                    try simp only [Act.put, List.setIfInBounds_toArray, List.set_cons_zero, List.set_cons_succ]
                    refine wpAnyH_take (i := 9) (oi := ⟨some 87, _, _, _, _, _⟩) (v := .int .i64 st2) rfl (by kernel_rfl) (by kernel_rfl) (by kernel_rfl) (fun _ _ _ h => h) (.inl ⟨by rfl, fun W hW => by go_simp⟩) hSA ?_
                    try simp only [Act.put, List.setIfInBounds_toArray, List.set_cons_zero, List.set_cons_succ]
                    refine wpAnyH_ready (rs := [10]) (by kernel_rfl) (by simp) ?_
                    refine AllReadyH.cons (o := ⟨none, _, _, _, _, _⟩) rfl (fun K hK => ?_) AllReadyH.nil
                    go_simp
                    refine hK.out _ _ hSB (fun _ => ?_)
                    clear hK K
                    try simp only [Act.put, List.setIfInBounds_toArray, List.set_cons_zero, List.set_cons_succ]
                    refine wpAnyH_done (by kernel_rfl) ?_ _
                    clear hSA2 hSB2 r3 r4 rm rm0 hc2 hSA hSB
                    have hsc : ys = 0 ∨ (¬ ys = 0 ∧ ys = 2) ∨ (¬ ys = 0 ∧ ¬ ys = 2) := by omega
                    rcases hsc with rfl | ⟨h0, rfl⟩ | ⟨h0, h2⟩
                    · have E := HEND.out (ck + 1) (by rw [HXS.out]; simp)
                      have HE := Lib.hid E
                      clear HEND HXS E
                      go_wp2_with fail
                      exact ⟨by simpa using HE.out, by simp [intOf]; omega⟩
                    · have E := HEND.out (ck + 1) (by rw [HXS.out]; simp)
                      have HE := Lib.hid E
                      clear HEND HXS E
                      go_wp2_with fail
                      exact ⟨by simpa using HE.out, by simp [intOf]; omega⟩
                    · have E := HEND.out ck (by rw [HXS.out]; simp [h0, h2])
                      have h0b : (ys == 0) = false := by simpa using h0
                      have h2b : (ys == 2) = false := by simpa using h2
                      have h0d : decide (ys = 0) = false := by simpa using h0
                      have h2d : decide (ys = 2) = false := by simpa using h2
                      have HE := Lib.hid E
                      clear HEND HXS E
                      go_wp2_with fail
                      exact ⟨by simpa using HE.out, by simp [intOf]; omega⟩
                  · go_simp
                    refine hK.out _ _ hSA (fun _ => ?_)
                    clear hK K
                    try simp only [Act.put, List.setIfInBounds_toArray, List.set_cons_zero, List.set_cons_succ]
                    refine wpAnyH_take (i := 9) (oi := ⟨some 87, _, _, _, _, _⟩) (v := .int .i64 st2) rfl (by kernel_rfl) (by kernel_rfl) (by kernel_rfl) (fun _ _ _ h => h) (.inl ⟨by rfl, fun W hW => by go_simp⟩) hSA ?_
                    try simp only [Act.put, List.setIfInBounds_toArray, List.set_cons_zero, List.set_cons_succ]
                    refine wpAnyH_ready (rs := [6]) (by kernel_rfl) (by simp) ?_
                    refine AllReadyH.cons (o := ⟨some 84, _, _, _, _, _⟩) rfl (fun K hK => ?_) AllReadyH.nil
                    go_simp
                    refine hK.out _ _ hSA (fun _ => ?_)
                    clear hK K
                    try simp only [Act.put, List.setIfInBounds_toArray, List.set_cons_zero, List.set_cons_succ]
                    refine wpAnyH_take (i := 7) (oi := ⟨some 85, _, _, _, _, _⟩) (v := .int .i64 1) rfl (by kernel_rfl) (by kernel_rfl) (by kernel_rfl) (fun _ _ _ h => h) (.inl ⟨by rfl, fun W hW => by have hw1 := wrap_one; go_simp⟩) hSA ?_
                    try simp only [Act.put, List.setIfInBounds_toArray, List.set_cons_zero, List.set_cons_succ]
                    refine wpAnyH_ready (rs := [10]) (by kernel_rfl) (by simp) ?_
                    refine AllReadyH.cons (o := ⟨none, _, _, _, _, _⟩) rfl (fun K hK => ?_) AllReadyH.nil
                    go_simp
                    refine hK.out _ _ hSB (fun _ => ?_)
                    clear hK K
                    try simp only [Act.put, List.setIfInBounds_toArray, List.set_cons_zero, List.set_cons_succ]
                    refine wpAnyH_done (by kernel_rfl) ?_ _
                    clear hSA2 hSB2 r3 r4 rm rm0 hc2 hSA hSB
                    have hsc : ys = 0 ∨ (¬ ys = 0 ∧ ys = 2) ∨ (¬ ys = 0 ∧ ¬ ys = 2) := by omega
                    rcases hsc with rfl | ⟨h0, rfl⟩ | ⟨h0, h2⟩
                    · have E := HEND.out (ck + 1) (by rw [HXS.out]; simp)
                      have HE := Lib.hid E
                      clear HEND HXS E
                      go_wp2_with fail
                      exact ⟨by simpa using HE.out, by simp [intOf]; omega⟩
                    · have E := HEND.out (ck + 1) (by rw [HXS.out]; simp)
                      have HE := Lib.hid E
                      clear HEND HXS E
                      go_wp2_with fail
                      exact ⟨by simpa using HE.out, by simp [intOf]; omega⟩
                    · have E := HEND.out ck (by rw [HXS.out]; simp [h0, h2])
                      have h0b : (ys == 0) = false := by simpa using h0
                      have h2b : (ys == 2) = false := by simpa using h2
                      have h0d : decide (ys = 0) = false := by simpa using h0
                      have h2d : decide (ys = 2) = false := by simpa using h2
                      have HE := Lib.hid E
                      clear HEND HXS E
                      go_wp2_with fail
                      exact ⟨by simpa using HE.out, by simp [intOf]; omega⟩
              · obtain rfl : k = n2 := by omega
                have hd0 : decide (k < k) = false := by simp
                have hdi : decide ((k : Int) < (k : Int)) = false := by simp
                have h96 : k ≤ 48 := by rw [← HN2.out]; exact HGD.out.ln
                have hn48I : ¬ (48 : Int) < (k : Int) := by omega
                have hn48D : decide ((48 : Int) < (k : Int)) = false := decide_eq_false hn48I
                have hn48D2 : decide (48 < k) = false := decide_eq_false (by omega)
                obtain ⟨z, hz⟩ : ∃ z : Nat, z = 2 * k := ⟨_, rfl⟩
                have hz0 : (2 : Int) * (k : Int) = (z : Int) := by omega
                have hz1 : IntKind.i64.wrap (z : Int) = (z : Int) := by rw [wrap_small (by omega) (by omega)]
                have hlen := hmk.len 3
                rw [← hz] at hlen
                have hSX := HSX.out.off hoff (fun j hj => .inl hj)
                have hOB := (hoff.block ob HOBL.out HOBN.out).trans AOB
                have HNX : Hid (∃ i' : Nat, Value.int .i64 ((i : Int) + 1) = .int .i64 i' ∧ i' ≤ n ∧ ∃ L g c, StX (fun j => j = MB) w wr TB L ∧ MapK wr MB g c ∧ Hid (c ≤ 96)) := Lib.hid ⟨i + 1, by simp, by omega, L2, g, 2 * k, hSX.mono (fun j hj => .inl hj), hmk, Lib.hid (by omega)⟩
                have hlc : L2.take k = L2 := List.take_of_length_le (by rw [HN2.out]; exact Nat.le_refl _)
                rw [hlc]
                have q0 := sa_kind hOB
                have x5 := Lib.hid (sa_op hOB)
                have x12 := Lib.hid (sa_bk hOB)
                have eob := HEB.out
                clear hSX hmk hgk hoff hlc HGD HOK HLR HSX hz
                generalize KA x.f.op = K1 at *
                generalize KA x.f.bk = K2 at *
                go_wp2_with (first
                  | ((with_reducible refine stop_op (o := ⟨some 138, _, _, _, _, _⟩) ?_); refine Lib.hid ?_; refine wpList_load_cells_on (by kernel_rfl) 36 (.tmp 137) rfl ⟨ob, 5, none⟩ rfl K1 _ x5.out Try.underlying36 rfl k_x1.out ?_)
                  | ((with_reducible refine stop_op (o := ⟨some 141, _, _, _, _, _⟩) ?_); refine Lib.hid ?_; refine wpList_load_cells_on (by kernel_rfl) 36 (.tmp 140) rfl ⟨ob, 12, none⟩ rfl K2 _ x12.out Try.underlying36 rfl k_x2.out ?_))
                exact ⟨HNX.out, by simp [intOf]; omega⟩
        · have hK5b := True.intro
          go_upto_region 13 with fail
          have AOB7 := AOB5
          have hm7 := hm5
          have hS7 := hS5
          clear AOB5 hm5 hS5 HT0 hK5b
          have q0 := sa_kind AOB7
          have q1 := sa_n AOB7
          have q3 := sa_en AOB7
          generalize hxk : x.kind = xk at q0
          have HXK := Lib.hid hxk
          clear hxk
          by_cases hk1 : xk = 1
          · subst hk1
            have cS := hS7.set (id := x.n) (st := 1) (en := x.en) hxo.n (by unfold i64k; omega) hxo.en
            generalize x.n = xn at *
            generalize x.en = xe at *
            obtain ⟨L2, hL2⟩ : ∃ M, M = setF L1 xn 1 xe := ⟨_, rfl⟩
            rw [← hL2] at cS
            clear hL2
            go_upto_region 15 with (go_at_call 18; refine cS.mono ?_; rintro e wx ⟨rfl, hS, hKs⟩)
            have AOB := (hKs.2 ob (.inr rfl)).trans AOB7
            have hm := hm7.keep (hKs.2 MB (.inl rfl))
            clear hKs AOB7 hm7 hS7 cS q0 q1 q3
            go_upto_region 16 with (go_at_call 11; refine (hS.list).mono ?_; rintro e w6 ⟨A2, c2, rfl, hSl, hA2, hS6, hK6⟩)
            have AOB6 := (hK6.2 ob (.inr rfl)).trans AOB
            have hm6 := hm.keep (hK6.2 MB (.inl rfl))
            have hMB6 : MB < wx.heap.size := hm.lt
            obtain ⟨wc, hclr, hmc, oc⟩ := hm6.clear 0
            have hobMB : ob ≠ MB := HOBN.out
            have AOBc : wc.heap[ob]? = some (.cells (SA x) 40 (0, 0)) := (oc.block ob (blk_lt AOB6) hobMB).trans AOB6
            have HSX : Hid (StX (fun j => j = MB ∨ j = ob) w wc TB L2) := Lib.hid (hS6.off oc (fun j hj => .inl hj))
            have HOBL : Hid (ob < wc.heap.size) := Lib.hid (blk_lt AOBc)
            have HGD : Hid (GoodF L2) := Lib.hid hS6.good
            have HOK : Hid (∀ y ∈ L2, FlOk y) := Lib.hid hS6.good.ok
            have hln := hS6.good.ln
            have HLR : Hid (∀ k, k < L2.length → ∃ y gA off, L2[k]? = some y ∧ A2 = some ⟨gA, off, none⟩ ∧ (gA < wc.heap.size ∧ gA ≠ MB) ∧ ∀ j v, (FA y).toList[j]? = some v → wc.cell? ((⟨gA, off + k * 20, none⟩ : Addr).add j) = some v) := Lib.hid (fun k hk => by
              obtain ⟨gA, off, hAe, hgl, hrow⟩ := hSl.row (by omega)
              have hy : L2[k]? = some L2[k] := List.getElem?_eq_getElem hk
              have hge := hA2 gA off none hAe
              have hne : gA ≠ MB := by omega
              have hf := f_row hrow hy
              exact ⟨L2[k], gA, off, hy, hAe, ⟨Nat.lt_of_lt_of_le hgl oc.size, hne⟩, fun j v hj => cell_blk (oc.block gA hgl hne) (hf j v hj)⟩)
            clear AOB AOB6 hm hm6 hS hS6 hK6 hSl hA2
            have AOB := AOBc
            clear AOBc
            generalize hn2 : L2.length = n2 at *
            have HN2 := Lib.hid hn2
            clear hn2
            go_upto_region 19 with fail
            go_loopw [12, 13] (fun v12 v13 wr => ∃ k : Nat, v13 = .int .i64 k ∧ k ≤ n2 ∧ v12 = .int .i64 (cntF (L2.take k) : Nat) ∧ ∃ g, MapK wr MB g (2 * k) ∧ Hid (KeysOf g (L2.take k)) ∧ OffS (fun j => j = MB) wc wr) (fun _ v13 _ => n2 - (intOf v13).toNat)
            case atStart => exact ⟨0, rfl, Nat.zero_le _, rfl, _, hmc, Lib.hid (fun x hx => absurd rfl hx), OffS.refl _ _⟩
            case round =>
              obtain ⟨k, rfl, hk, rfl, g, hmk, hgk, hoff⟩ := hrel
              by_cases hkl : k < n2
              · have hkI : (k : Int) < (n2 : Int) := by omega
                have hkD : decide (k < n2) = true := by simp [hkl]
                obtain ⟨y, gA, off, hy, rfl, hgA, hrow⟩ := HLR.out k hkl
                have hyo := HOK.out y (List.mem_of_getElem? hy)
                obtain ⟨hn1, hn2', hK2⟩ := keys_new HGD.out hy hgk.out
                have hct := cnt_take hy
                have HK2 := Lib.hid hK2
                have rowr : ∀ j v, (FA y).toList[j]? = some v → wr.cell? ((⟨gA, off + k * 20, none⟩ : Addr).add j) = some v := fun j v hj => cell_blk (hoff.block gA hgA.1 hgA.2) (hrow j v hj)
                obtain ⟨v1, st1, u1, u2, r1, r2, rl, m2, o1, o2⟩ := (hmk.keep (w' := wr.drew) rfl).put3 (by omega) hyo.op (n := 1) (by unfold i64ok; omega)
                rw [hn1] at rl m2
                have rl0 := (hmk.keep (w' := wr.drew) rfl).look1 hyo.op
                rw [hn1] at rl0
                simp only [Option.getD_none, Option.isSome_none, Bool.false_eq_true, if_false] at rl rl0 m2
                obtain ⟨v2, st2, u3, u4, r3, r4, rm, m4, o3, o4⟩ := (m2.keep (w' := u2.drew) rfl).put3 (by omega) hyo.bk (n := 1) (by unfold i64ok; omega)
                rw [hn2'] at rm m4
                have rm0 := (m2.keep (w' := u2.drew) rfl).look1 hyo.bk
                rw [hn2'] at rm0
                simp only [Option.getD_none, Option.isSome_none, Bool.false_eq_true, if_false] at rm rm0 m4
                have oU2 : OffS (fun j => j = MB) wr u2 := ⟨o2.os, o2.tape, o2.output, o2.size, o2.block⟩
                have oU4' : OffS (fun j => j = MB) u2 u4 := ⟨o4.os, o4.tape, o4.output, o4.size, o4.block⟩
                have oU4 := oU2.trans oU4'
                have gl0 : gA < wr.heap.size := Nat.lt_of_lt_of_le hgA.1 hoff.size
                have cOp := fun (W1 : World) (hW : W1.heap[gA]? = wr.heap[gA]?) => row_op (i := k) (l := L2) (fun j v hj => cell_blk hW (rowr j v hj))
                have cBk := fun (W1 : World) (hW : W1.heap[gA]? = wr.heap[gA]?) => row_bk (i := k) (l := L2) (fun j v hj => cell_blk hW (rowr j v hj))
                have eU1 : u1.heap[gA]? = wr.heap[gA]? := o1.block gA gl0 hgA.2
                have eU2 : u2.heap[gA]? = wr.heap[gA]? := oU2.block gA gl0 hgA.2
                have gl2 : gA < u2.drew.heap.size := Nat.lt_of_lt_of_le gl0 oU2.size
                have eU3 : u3.heap[gA]? = wr.heap[gA]? := (o3.block gA gl2 hgA.2).trans eU2
                have eU4 : u4.heap[gA]? = wr.heap[gA]? := oU4.block gA gl0 hgA.2
                have hc0 := Lib.hid (cOp wr.drew rfl)
                have hSA1 := Lib.hid (cOp u1 eU1)
                have hSB1 := Lib.hid (cOp u2 eU2)
                have hc2 := Lib.hid (cBk u2.drew eU2)
                have hSA2 := Lib.hid (cBk u3 eU3)
                have hSB2 := Lib.hid (cBk u4 eU4)
                have cst : u4.cell? ⟨gA, off + k * 20 + 18, none⟩ = some (.int .i64 y.st) := row_st (i := k) (fun j v hj => cell_blk eU4 (rowr j v hj))
                have HEND : Hid (∀ nc : Nat, nc = cntF (L2.take k) + (if openF y then 1 else 0) → ∃ k' : Nat, Value.int .i64 ((k : Int) + 1) = .int .i64 k' ∧ k' ≤ n2 ∧ Value.int .i64 (nc : Int) = .int .i64 (cntF (L2.take k') : Nat) ∧ ∃ g, MapK u4 MB g (2 * k') ∧ Hid (KeysOf g (L2.take k')) ∧ OffS (fun j => j = MB) wc u4) := Lib.hid (fun nc hnc => by
                  refine ⟨k + 1, by simp, by omega, by rw [hct, ← hnc], _, ?_, HK2, hoff.trans oU4⟩
                  rw [show 2 * (k + 1) = 2 * k + 1 + 1 by omega]
                  exact m4)
                have hcb : cntF (L2.take k) ≤ 48 := Nat.le_trans (List.length_filter_le _ _) (by rw [List.length_take]; have := HGD.out.ln; omega)
                have k_a := Lib.hid (k_inf y.op)
                have k_b := Lib.hid (k_inf y.bk)
                have HXS : Hid (openF y = (y.st == 0 || y.st == 2)) := Lib.hid rfl
                clear cOp cBk rowr hrow hmk hgk hoff m2 m4 o1 o2 o3 o4 oU2 oU4' oU4 eU1 eU2 eU3 eU4 hn1 hn2' hK2 HK2 hct hy hyo gl0 gl2
                generalize cntF (L2.take k) = ck at *
                generalize openF y = oy at *
                generalize y.st = ys at *
                generalize KA y.op = K1 at *
                generalize KA y.bk = K2 at *
                go_upto_region 21 with fail
                have hSA := hSA1.out
                have hSB := hSB1.out
                refine wp_region_held_drew (S := fun W1 : World => ∀ j v, K1.toList[j]? = some v → W1.cell? ((⟨gA, off + k * 20 + 1, none⟩ : Addr).add j) = some v) (by kernel_rfl) hc0.out (fun hH => ?_)
                generalize wr.drew = wd at *
                refine wpAnyH_take (i := 0) (oi := ⟨some 68, _, _, _, _, _⟩) (v := .map (some MB)) rfl (by kernel_rfl) (by kernel_rfl) (by kernel_rfl) (fun _ _ _ h => h) (.inl ⟨by rfl, fun W hW => by go_simp⟩) hH ?_
                try simp only [Act.put, List.setIfInBounds_toArray, List.set_cons_zero, List.set_cons_succ]
                refine wpAnyH_take (i := 1) (oi := ⟨some 69, _, _, _, _, _⟩) (v := .slice (some ⟨gA, off, none⟩) n2 c2) rfl (by kernel_rfl) (by kernel_rfl) (by kernel_rfl) (fun _ _ _ h => h) (.inl ⟨by rfl, fun W hW => by go_simp⟩) hH ?_
                try simp only [Act.put, List.setIfInBounds_toArray, List.set_cons_zero, List.set_cons_succ]
                refine wpAnyH_take (i := 2) (oi := ⟨some 70, _, _, _, _, _⟩) (v := .int .i64 k) rfl (by kernel_rfl) (by kernel_rfl) (by kernel_rfl) (fun _ _ _ h => h) (.inl ⟨by rfl, fun W hW => by go_simp⟩) hH ?_
                try simp only [Act.put, List.setIfInBounds_toArray, List.set_cons_zero, List.set_cons_succ]
                refine wpAnyH_take (i := 3) (oi := ⟨some 71, _, _, _, _, _⟩) (v := .pointer (some ⟨gA, off + k * 20, none⟩)) rfl (by kernel_rfl) (by kernel_rfl) (by kernel_rfl) (fun _ _ _ h => h) (.inl ⟨by rfl, fun W hW => by go_simp⟩) hH ?_
                try simp only [Act.put, List.setIfInBounds_toArray, List.set_cons_zero, List.set_cons_succ]
                refine wpAnyH_take (i := 4) (oi := ⟨some 72, _, _, _, _, _⟩) (v := .pointer (some ⟨gA, off + k * 20 + 1, none⟩)) rfl (by kernel_rfl) (by kernel_rfl) (by kernel_rfl) (fun _ _ _ h => h) (.inl ⟨by rfl, fun W hW => by go_simp⟩) hH ?_
                try simp only [Act.put, List.setIfInBounds_toArray, List.set_cons_zero, List.set_cons_succ]
                refine wpAnyH_take (i := 5) (oi := ⟨some 73, _, _, _, _, _⟩) (v := .agg K1) rfl (by kernel_rfl) (by kernel_rfl) (by kernel_rfl) (fun _ _ _ h => h) (yields_cells (by rfl) 36 _ rfl ⟨gA, off + k * 20 + 1, none⟩ rfl K1 _ (fun W hW => hW) Try.underlying36 rfl k_a.out) hH ?_
                try simp only [Act.put, List.setIfInBounds_toArray, List.set_cons_zero, List.set_cons_succ]
                refine wpAnyH_ready (rs := [6, 8]) (by kernel_rfl) (by simp) ?_
                refine AllReadyH.cons (o := ⟨some 74, _, _, _, _, _⟩) rfl (fun K hK => ?_) (AllReadyH.cons (o := ⟨some 76, _, _, _, _, _⟩) rfl (fun K hK => ?_) AllReadyH.nil)
                · go_simp
                  refine hK.out _ _ hH (fun _ => ?_)
                  clear hK K
                  try simp only [Act.put, List.setIfInBounds_toArray, List.set_cons_zero, List.set_cons_succ]
                  refine wpAnyH_take (i := 7) (oi := ⟨some 75, _, _, _, _, _⟩) (v := .int .i64 1) rfl (by kernel_rfl) (by kernel_rfl) (by kernel_rfl) (fun _ _ _ h => h) (.inl ⟨by rfl, fun W hW => by have hw1 := wrap_one; go_simp⟩) hH ?_
                  try simp only [Act.put, List.setIfInBounds_toArray, List.set_cons_zero, List.set_cons_succ]
                  refine wpAnyH_ready (rs := [8]) (by kernel_rfl) (by simp) ?_
                  refine AllReadyH.cons (o := ⟨some 76, _, _, _, _, _⟩) rfl (fun K hK => ?_) AllReadyH.nil
                  go_simp
                  refine hK.out _ _ hSA (fun _ => ?_)
                  clear hK K
                  try simp only [Act.put, List.setIfInBounds_toArray, List.set_cons_zero, List.set_cons_succ]
                  refine wpAnyH_take (i := 9) (oi := ⟨some 77, _, _, _, _, _⟩) (v := .int .i64 st1) rfl (by kernel_rfl) (by kernel_rfl) (by kernel_rfl) (fun _ _ _ h => h) (.inl ⟨by rfl, fun W hW => by go_simp⟩) hSA ?_
                  try simp only [Act.put, List.setIfInBounds_toArray, List.set_cons_zero, List.set_cons_succ]
                  refine wpAnyH_ready (rs := [10]) (by kernel_rfl) (by simp) ?_
                  refine AllReadyH.cons (o := ⟨none, _, _, _, _, _⟩) rfl (fun K hK => ?_) AllReadyH.nil
                  go_simp
                  refine hK.out _ _ hSB (fun _ => ?_)
                  clear hK K
                  try simp only [Act.put, List.setIfInBounds_toArray, List.set_cons_zero, List.set_cons_succ]
                  refine wpAnyH_done (by kernel_rfl) ?_ _
                  clear hSA1 hSB1 r1 r2 rl rl0 hc0 hSA hSB
                  go_upto_region 22 with fail
                  have hSA := hSA2.out
                  have hSB := hSB2.out
                  refine wp_region_held_drew (S := fun W1 : World => ∀ j v, K2.toList[j]? = some v → W1.cell? ((⟨gA, off + k * 20 + 8, none⟩ : Addr).add j) = some v) (by kernel_rfl) hc2.out (fun hH => ?_)
                  generalize u2.drew = wd at *
                  refine wpAnyH_take (i := 0) (oi := ⟨some 78, _, _, _, _, _⟩) (v := .map (some MB)) rfl (by kernel_rfl) (by kernel_rfl) (by kernel_rfl) (fun _ _ _ h => h) (.inl ⟨by rfl, fun W hW => by go_simp⟩) hH ?_
                  try simp only [Act.put, List.setIfInBounds_toArray, List.set_cons_zero, List.set_cons_succ]
                  refine wpAnyH_take (i := 1) (oi := ⟨some 79, _, _, _, _, _⟩) (v := .slice (some ⟨gA, off, none⟩) n2 c2) rfl (by kernel_rfl) (by kernel_rfl) (by kernel_rfl) (fun _ _ _ h => h) (.inl ⟨by rfl, fun W hW => by go_simp⟩) hH ?_
                  try simp only [Act.put, List.setIfInBounds_toArray, List.set_cons_zero, List.set_cons_succ]
                  refine wpAnyH_take (i := 2) (oi := ⟨some 80, _, _, _, _, _⟩) (v := .int .i64 k) rfl (by kernel_rfl) (by kernel_rfl) (by kernel_rfl) (fun _ _ _ h => h) (.inl ⟨by rfl, fun W hW => by go_simp⟩) hH ?_
                  try simp only [Act.put, List.setIfInBounds_toArray, List.set_cons_zero, List.set_cons_succ]
                  refine wpAnyH_take (i := 3) (oi := ⟨some 81, _, _, _, _, _⟩) (v := .pointer (some ⟨gA, off + k * 20, none⟩)) rfl (by kernel_rfl) (by kernel_rfl) (by kernel_rfl) (fun _ _ _ h => h) (.inl ⟨by rfl, fun W hW => by go_simp⟩) hH ?_
                  try simp only [Act.put, List.setIfInBounds_toArray, List.set_cons_zero, List.set_cons_succ]
                  refine wpAnyH_take (i := 4) (oi := ⟨some 82, _, _, _, _, _⟩) (v := .pointer (some ⟨gA, off + k * 20 + 8, none⟩)) rfl (by kernel_rfl) (by kernel_rfl) (by kernel_rfl) (fun _ _ _ h => h) (.inl ⟨by rfl, fun W hW => by go_simp⟩) hH ?_
                  try simp only [Act.put, List.setIfInBounds_toArray, List.set_cons_zero, List.set_cons_succ]
                  refine wpAnyH_take (i := 5) (oi := ⟨some 83, _, _, _, _, _⟩) (v := .agg K2) rfl (by kernel_rfl) (by kernel_rfl) (by kernel_rfl) (fun _ _ _ h => h) (yields_cells (by rfl) 36 _ rfl ⟨gA, off + k * 20 + 8, none⟩ rfl K2 _ (fun W hW => hW) Try.underlying36 rfl k_b.out) hH ?_
                  try simp only [Act.put, List.setIfInBounds_toArray, List.set_cons_zero, List.set_cons_succ]
                  refine wpAnyH_ready (rs := [6, 8]) (by kernel_rfl) (by simp) ?_
                  refine AllReadyH.cons (o := ⟨some 84, _, _, _, _, _⟩) rfl (fun K hK => ?_) (AllReadyH.cons (o := ⟨some 86, _, _, _, _, _⟩) rfl (fun K hK => ?_) AllReadyH.nil)
                  · go_simp
                    refine hK.out _ _ hH (fun _ => ?_)
                    clear hK K
                    try simp only [Act.put, List.setIfInBounds_toArray, List.set_cons_zero, List.set_cons_succ]
                    refine wpAnyH_take (i := 7) (oi := ⟨some 85, _, _, _, _, _⟩) (v := .int .i64 1) rfl (by kernel_rfl) (by kernel_rfl) (by kernel_rfl) (fun _ _ _ h => h) (.inl ⟨by rfl, fun W hW => by have hw1 := wrap_one; go_simp⟩) hH ?_
                    try simp only [Act.put, List.setIfInBounds_toArray, List.set_cons_zero, List.set_cons_succ]
                    refine wpAnyH_ready (rs := [8]) (by kernel_rfl) (by simp) ?_
                    refine AllReadyH.cons (o := ⟨some 86, _, _, _, _, _⟩) rfl (fun K hK => ?_) AllReadyH.nil
                    go_simp
                    refine hK.out _ _ hSA (fun _ => ?_)
                    clear hK K
                    try simp only [Act.put, List.setIfInBounds_toArray, List.set_cons_zero, List.set_cons_succ]
                    refine wpAnyH_take (i := 9) (oi := ⟨some 87, _, _, _, _, _⟩) (v := .int .i64 st2) rfl (by kernel_rfl) (by kernel_rfl) (by kernel_rfl) (fun _ _ _ h => h) (.inl ⟨by rfl, fun W hW => by go_simp⟩) hSA ?_
                    try simp only [Act.put, List.setIfInBounds_toArray, List.set_cons_zero, List.set_cons_succ]
                    refine wpAnyH_ready (rs := [10]) (by kernel_rfl) (by simp) ?_
                    refine AllReadyH.cons (o := ⟨none, _, _, _, _, _⟩) rfl (fun K hK => ?_) AllReadyH.nil
                    go_simp
                    refine hK.out _ _ hSB (fun _ => ?_)
                    clear hK K
                    try simp only [Act.put, List.setIfInBounds_toArray, List.set_cons_zero, List.set_cons_succ]
                    refine wpAnyH_done (by kernel_rfl) ?_ _
                    clear hSA2 hSB2 r3 r4 rm rm0 hc2 hSA hSB
                    have hsc : ys = 0 ∨ (¬ ys = 0 ∧ ys = 2) ∨ (¬ ys = 0 ∧ ¬ ys = 2) := by omega
                    rcases hsc with rfl | ⟨h0, rfl⟩ | ⟨h0, h2⟩
                    · have E := HEND.out (ck + 1) (by rw [HXS.out]; simp)
                      have HE := Lib.hid E
                      clear HEND HXS E
                      go_wp2_with fail
                      exact ⟨by simpa using HE.out, by simp [intOf]; omega⟩
                    · have E := HEND.out (ck + 1) (by rw [HXS.out]; simp)
                      have HE := Lib.hid E
                      clear HEND HXS E
                      go_wp2_with fail
                      exact ⟨by simpa using HE.out, by simp [intOf]; omega⟩
                    · have E := HEND.out ck (by rw [HXS.out]; simp [h0, h2])
                      have h0b : (ys == 0) = false := by simpa using h0
                      have h2b : (ys == 2) = false := by simpa using h2
                      have h0d : decide (ys = 0) = false := by simpa using h0
                      have h2d : decide (ys = 2) = false := by simpa using h2
                      have HE := Lib.hid E
                      clear HEND HXS E
                      go_wp2_with fail
                      exact ⟨by simpa using HE.out, by simp [intOf]; omega⟩
                  · go_simp
                    refine hK.out _ _ hSA (fun _ => ?_)
                    clear hK K
                    try simp only [Act.put, List.setIfInBounds_toArray, List.set_cons_zero, List.set_cons_succ]
                    refine wpAnyH_take (i := 9) (oi := ⟨some 87, _, _, _, _, _⟩) (v := .int .i64 st2) rfl (by kernel_rfl) (by kernel_rfl) (by kernel_rfl) (fun _ _ _ h => h) (.inl ⟨by rfl, fun W hW => by go_simp⟩) hSA ?_
                    try simp only [Act.put, List.setIfInBounds_toArray, List.set_cons_zero, List.set_cons_succ]
                    refine wpAnyH_ready (rs := [6]) (by kernel_rfl) (by simp) ?_
                    refine AllReadyH.cons (o := ⟨some 84, _, _, _, _, _⟩) rfl (fun K hK => ?_) AllReadyH.nil
                    go_simp
                    refine hK.out _ _ hSA (fun _ => ?_)
                    clear hK K
                    try simp only [Act.put, List.setIfInBounds_toArray, List.set_cons_zero, List.set_cons_succ]
                    refine wpAnyH_take (i := 7) (oi := ⟨some 85, _, _, _, _, _⟩) (v := .int .i64 1) rfl (by kernel_rfl) (by kernel_rfl) (by kernel_rfl) (fun _ _ _ h => h) (.inl ⟨by rfl, fun W hW => by have hw1 := wrap_one; go_simp⟩) hSA ?_
                    try simp only [Act.put, List.setIfInBounds_toArray, List.set_cons_zero, List.set_cons_succ]
                    refine wpAnyH_ready (rs := [10]) (by kernel_rfl) (by simp) ?_
                    refine AllReadyH.cons (o := ⟨none, _, _, _, _, _⟩) rfl (fun K hK => ?_) AllReadyH.nil
                    go_simp
                    refine hK.out _ _ hSB (fun _ => ?_)
                    clear hK K
                    try simp only [Act.put, List.setIfInBounds_toArray, List.set_cons_zero, List.set_cons_succ]
                    refine wpAnyH_done (by kernel_rfl) ?_ _
                    clear hSA2 hSB2 r3 r4 rm rm0 hc2 hSA hSB
                    have hsc : ys = 0 ∨ (¬ ys = 0 ∧ ys = 2) ∨ (¬ ys = 0 ∧ ¬ ys = 2) := by omega
                    rcases hsc with rfl | ⟨h0, rfl⟩ | ⟨h0, h2⟩
                    · have E := HEND.out (ck + 1) (by rw [HXS.out]; simp)
                      have HE := Lib.hid E
                      clear HEND HXS E
                      go_wp2_with fail
                      exact ⟨by simpa using HE.out, by simp [intOf]; omega⟩
                    · have E := HEND.out (ck + 1) (by rw [HXS.out]; simp)
                      have HE := Lib.hid E
                      clear HEND HXS E
                      go_wp2_with fail
                      exact ⟨by simpa using HE.out, by simp [intOf]; omega⟩
                    · have E := HEND.out ck (by rw [HXS.out]; simp [h0, h2])
                      have h0b : (ys == 0) = false := by simpa using h0
                      have h2b : (ys == 2) = false := by simpa using h2
                      have h0d : decide (ys = 0) = false := by simpa using h0
                      have h2d : decide (ys = 2) = false := by simpa using h2
                      have HE := Lib.hid E
                      clear HEND HXS E
                      go_wp2_with fail
                      exact ⟨by simpa using HE.out, by simp [intOf]; omega⟩
                · go_simp
                  refine hK.out _ _ hSA (fun _ => ?_)
                  clear hK K
                  try simp only [Act.put, List.setIfInBounds_toArray, List.set_cons_zero, List.set_cons_succ]
                  refine wpAnyH_take (i := 9) (oi := ⟨some 77, _, _, _, _, _⟩) (v := .int .i64 st1) rfl (by kernel_rfl) (by kernel_rfl) (by kernel_rfl) (fun _ _ _ h => h) (.inl ⟨by rfl, fun W hW => by go_simp⟩) hSA ?_
                  try simp only [Act.put, List.setIfInBounds_toArray, List.set_cons_zero, List.set_cons_succ]
                  refine wpAnyH_ready (rs := [6]) (by kernel_rfl) (by simp) ?_
                  refine AllReadyH.cons (o := ⟨some 74, _, _, _, _, _⟩) rfl (fun K hK => ?_) AllReadyH.nil
                  go_simp
                  refine hK.out _ _ hSA (fun _ => ?_)
                  clear hK K
                  try simp only [Act.put, List.setIfInBounds_toArray, List.set_cons_zero, List.set_cons_succ]
                  refine wpAnyH_take (i := 7) (oi := ⟨some 75, _, _, _, _, _⟩) (v := .int .i64 1) rfl (by kernel_rfl) (by kernel_rfl) (by kernel_rfl) (fun _ _ _ h => h) (.inl ⟨by rfl, fun W hW => by have hw1 := wrap_one; go_simp⟩) hSA ?_
                  try simp only [Act.put, List.setIfInBounds_toArray, List.set_cons_zero, List.set_cons_succ]
                  refine wpAnyH_ready (rs := [10]) (by kernel_rfl) (by simp) ?_
                  refine AllReadyH.cons (o := ⟨none, _, _, _, _, _⟩) rfl (fun K hK => ?_) AllReadyH.nil
                  go_simp
                  refine hK.out _ _ hSB (fun _ => ?_)
                  clear hK K
                  try simp only [Act.put, List.setIfInBounds_toArray, List.set_cons_zero, List.set_cons_succ]
                  refine wpAnyH_done (by kernel_rfl) ?_ _
                  clear hSA1 hSB1 r1 r2 rl rl0 hc0 hSA hSB
                  go_upto_region 22 with fail
                  have hSA := hSA2.out
                  have hSB := hSB2.out
                  refine wp_region_held_drew (S := fun W1 : World => ∀ j v, K2.toList[j]? = some v → W1.cell? ((⟨gA, off + k * 20 + 8, none⟩ : Addr).add j) = some v) (by kernel_rfl) hc2.out (fun hH => ?_)
                  generalize u2.drew = wd at *
                  refine wpAnyH_take (i := 0) (oi := ⟨some 78, _, _, _, _, _⟩) (v := .map (some MB)) rfl (by kernel_rfl) (by kernel_rfl) (by kernel_rfl) (fun _ _ _ h => h) (.inl ⟨by rfl, fun W hW => by go_simp⟩) hH ?_
                  try simp only [Act.put, List.setIfInBounds_toArray, List.set_cons_zero, List.set_cons_succ]
                  refine wpAnyH_take (i := 1) (oi := ⟨some 79, _, _, _, _, _⟩) (v := .slice (some ⟨gA, off, none⟩) n2 c2) rfl (by kernel_rfl) (by kernel_rfl) (by kernel_rfl) (fun _ _ _ h => h) (.inl ⟨by rfl, fun W hW => by go_simp⟩) hH ?_
                  try simp only [Act.put, List.setIfInBounds_toArray, List.set_cons_zero, List.set_cons_succ]
                  refine wpAnyH_take (i := 2) (oi := ⟨some 80, _, _, _, _, _⟩) (v := .int .i64 k) rfl (by kernel_rfl) (by kernel_rfl) (by kernel_rfl) (fun _ _ _ h => h) (.inl ⟨by rfl, fun W hW => by go_simp⟩) hH ?_
                  try simp only [Act.put, List.setIfInBounds_toArray, List.set_cons_zero, List.set_cons_succ]
                  refine wpAnyH_take (i := 3) (oi := ⟨some 81, _, _, _, _, _⟩) (v := .pointer (some ⟨gA, off + k * 20, none⟩)) rfl (by kernel_rfl) (by kernel_rfl) (by kernel_rfl) (fun _ _ _ h => h) (.inl ⟨by rfl, fun W hW => by go_simp⟩) hH ?_
                  try simp only [Act.put, List.setIfInBounds_toArray, List.set_cons_zero, List.set_cons_succ]
                  refine wpAnyH_take (i := 4) (oi := ⟨some 82, _, _, _, _, _⟩) (v := .pointer (some ⟨gA, off + k * 20 + 8, none⟩)) rfl (by kernel_rfl) (by kernel_rfl) (by kernel_rfl) (fun _ _ _ h => h) (.inl ⟨by rfl, fun W hW => by go_simp⟩) hH ?_
                  try simp only [Act.put, List.setIfInBounds_toArray, List.set_cons_zero, List.set_cons_succ]
                  refine wpAnyH_take (i := 5) (oi := ⟨some 83, _, _, _, _, _⟩) (v := .agg K2) rfl (by kernel_rfl) (by kernel_rfl) (by kernel_rfl) (fun _ _ _ h => h) (yields_cells (by rfl) 36 _ rfl ⟨gA, off + k * 20 + 8, none⟩ rfl K2 _ (fun W hW => hW) Try.underlying36 rfl k_b.out) hH ?_
                  try simp only [Act.put, List.setIfInBounds_toArray, List.set_cons_zero, List.set_cons_succ]
                  refine wpAnyH_ready (rs := [6, 8]) (by kernel_rfl) (by simp) ?_
                  refine AllReadyH.cons (o := ⟨some 84, _, _, _, _, _⟩) rfl (fun K hK => ?_) (AllReadyH.cons (o := ⟨some 86, _, _, _, _, _⟩) rfl (fun K hK => ?_) AllReadyH.nil)
                  · go_simp
                    refine hK.out _ _ hH (fun _ => ?_)
                    clear hK K
                    try simp only [Act.put, List.setIfInBounds_toArray, List.set_cons_zero, List.set_cons_succ]
                    refine wpAnyH_take (i := 7) (oi := ⟨some 85, _, _, _, _, _⟩) (v := .int .i64 1) rfl (by kernel_rfl) (by kernel_rfl) (by kernel_rfl) (fun _ _ _ h => h) (.inl ⟨by rfl, fun W hW => by have hw1 := wrap_one; go_simp⟩) hH ?_
                    try simp only [Act.put, List.setIfInBounds_toArray, List.set_cons_zero, List.set_cons_succ]
                    refine wpAnyH_ready (rs := [8]) (by kernel_rfl) (by simp) ?_
                    refine AllReadyH.cons (o := ⟨some 86, _, _, _, _, _⟩) rfl (fun K hK => ?_) AllReadyH.nil
                    go_simp
                    refine hK.out _ _ hSA (fun _ => ?_)
                    clear hK K
                    try simp only [Act.put, List.setIfInBounds_toArray, List.set_cons_zero, List.set_cons_succ]
                    refine wpAnyH_take (i := 9) (oi := ⟨some 87, _, _, _, _, _⟩) (v := .int .i64 st2) rfl (by kernel_rfl) (by kernel_rfl) (by kernel_rfl) (fun _ _ _ h => h) (.inl ⟨by rfl, fun W hW => by go_simp⟩) hSA ?_
                    try simp only [Act.put, List.setIfInBounds_toArray, List.set_cons_zero, List.set_cons_succ]
                    refine wpAnyH_ready (rs := [10]) (by kernel_rfl) (by simp) ?_
                    refine AllReadyH.cons (o := ⟨none, _, _, _, _, _⟩) rfl (fun K hK => ?_) AllReadyH.nil
                    go_simp
                    refine hK.out _ _ hSB (fun _ => ?_)
                    clear hK K
                    try simp only [Act.put, List.setIfInBounds_toArray, List.set_cons_zero, List.set_cons_succ]
                    refine wpAnyH_done (by kernel_rfl) ?_ _
                    clear hSA2 hSB2 r3 r4 rm rm0 hc2 hSA hSB
                    have hsc : ys = 0 ∨ (¬ ys = 0 ∧ ys = 2) ∨ (¬ ys = 0 ∧ ¬ ys = 2) := by omega
                    rcases hsc with rfl | ⟨h0, rfl⟩ | ⟨h0, h2⟩
                    · have E := HEND.out (ck + 1) (by rw [HXS.out]; simp)
                      have HE := Lib.hid E
                      clear HEND HXS E
                      go_wp2_with fail
                      exact ⟨by simpa using HE.out, by simp [intOf]; omega⟩
                    · have E := HEND.out (ck + 1) (by rw [HXS.out]; simp)
                      have HE := Lib.hid E
                      clear HEND HXS E
                      go_wp2_with fail
                      exact ⟨by simpa using HE.out, by simp [intOf]; omega⟩
                    · have E := HEND.out ck (by rw [HXS.out]; simp [h0, h2])
                      have h0b : (ys == 0) = false := by simpa using h0
                      have h2b : (ys == 2) = false := by simpa using h2
                      have h0d : decide (ys = 0) = false := by simpa using h0
                      have h2d : decide (ys = 2) = false := by simpa using h2
                      have HE := Lib.hid E
                      clear HEND HXS E
                      go_wp2_with fail
                      exact ⟨by simpa using HE.out, by simp [intOf]; omega⟩
                  · go_simp
                    refine hK.out _ _ hSA (fun _ => ?_)
                    clear hK K
                    try simp only [Act.put, List.setIfInBounds_toArray, List.set_cons_zero, List.set_cons_succ]
                    refine wpAnyH_take (i := 9) (oi := ⟨some 87, _, _, _, _, _⟩) (v := .int .i64 st2) rfl (by kernel_rfl) (by kernel_rfl) (by kernel_rfl) (fun _ _ _ h => h) (.inl ⟨by rfl, fun W hW => by go_simp⟩) hSA ?_
                    try simp only [Act.put, List.setIfInBounds_toArray, List.set_cons_zero, List.set_cons_succ]
                    refine wpAnyH_ready (rs := [6]) (by kernel_rfl) (by simp) ?_
                    refine AllReadyH.cons (o := ⟨some 84, _, _, _, _, _⟩) rfl (fun K hK => ?_) AllReadyH.nil
                    go_simp
                    refine hK.out _ _ hSA (fun _ => ?_)
                    clear hK K
                    try simp only [Act.put, List.setIfInBounds_toArray, List.set_cons_zero, List.set_cons_succ]
                    refine wpAnyH_take (i := 7) (oi := ⟨some 85, _, _, _, _, _⟩) (v := .int .i64 1) rfl (by kernel_rfl) (by kernel_rfl) (by kernel_rfl) (fun _ _ _ h => h) (.inl ⟨by rfl, fun W hW => by have hw1 := wrap_one; go_simp⟩) hSA ?_
                    try simp only [Act.put, List.setIfInBounds_toArray, List.set_cons_zero, List.set_cons_succ]
                    refine wpAnyH_ready (rs := [10]) (by kernel_rfl) (by simp) ?_
                    refine AllReadyH.cons (o := ⟨none, _, _, _, _, _⟩) rfl (fun K hK => ?_) AllReadyH.nil
                    go_simp
                    refine hK.out _ _ hSB (fun _ => ?_)
                    clear hK K
                    try simp only [Act.put, List.setIfInBounds_toArray, List.set_cons_zero, List.set_cons_succ]
                    refine wpAnyH_done (by kernel_rfl) ?_ _
                    clear hSA2 hSB2 r3 r4 rm rm0 hc2 hSA hSB
                    have hsc : ys = 0 ∨ (¬ ys = 0 ∧ ys = 2) ∨ (¬ ys = 0 ∧ ¬ ys = 2) := by omega
                    rcases hsc with rfl | ⟨h0, rfl⟩ | ⟨h0, h2⟩
                    · have E := HEND.out (ck + 1) (by rw [HXS.out]; simp)
                      have HE := Lib.hid E
                      clear HEND HXS E
                      go_wp2_with fail
                      exact ⟨by simpa using HE.out, by simp [intOf]; omega⟩
                    · have E := HEND.out (ck + 1) (by rw [HXS.out]; simp)
                      have HE := Lib.hid E
                      clear HEND HXS E
                      go_wp2_with fail
                      exact ⟨by simpa using HE.out, by simp [intOf]; omega⟩
                    · have E := HEND.out ck (by rw [HXS.out]; simp [h0, h2])
                      have h0b : (ys == 0) = false := by simpa using h0
                      have h2b : (ys == 2) = false := by simpa using h2
                      have h0d : decide (ys = 0) = false := by simpa using h0
                      have h2d : decide (ys = 2) = false := by simpa using h2
                      have HE := Lib.hid E
                      clear HEND HXS E
                      go_wp2_with fail
                      exact ⟨by simpa using HE.out, by simp [intOf]; omega⟩
              · obtain rfl : k = n2 := by omega
                have hd0 : decide (k < k) = false := by simp
                have hdi : decide ((k : Int) < (k : Int)) = false := by simp
                have h96 : k ≤ 48 := by rw [← HN2.out]; exact HGD.out.ln
                have hn48I : ¬ (48 : Int) < (k : Int) := by omega
                have hn48D : decide ((48 : Int) < (k : Int)) = false := decide_eq_false hn48I
                have hn48D2 : decide (48 < k) = false := decide_eq_false (by omega)
                obtain ⟨z, hz⟩ : ∃ z : Nat, z = 2 * k := ⟨_, rfl⟩
                have hz0 : (2 : Int) * (k : Int) = (z : Int) := by omega
                have hz1 : IntKind.i64.wrap (z : Int) = (z : Int) := by rw [wrap_small (by omega) (by omega)]
                have hlen := hmk.len 3
                rw [← hz] at hlen
                have hSX := HSX.out.off hoff (fun j hj => .inl hj)
                have hOB := (hoff.block ob HOBL.out HOBN.out).trans AOB
                have HNX : Hid (∃ i' : Nat, Value.int .i64 ((i : Int) + 1) = .int .i64 i' ∧ i' ≤ n ∧ ∃ L g c, StX (fun j => j = MB) w wr TB L ∧ MapK wr MB g c ∧ Hid (c ≤ 96)) := Lib.hid ⟨i + 1, by simp, by omega, L2, g, 2 * k, hSX.mono (fun j hj => .inl hj), hmk, Lib.hid (by omega)⟩
                have hlc : L2.take k = L2 := List.take_of_length_le (by rw [HN2.out]; exact Nat.le_refl _)
                rw [hlc]
                have q0 := sa_kind hOB
                by_cases h120 : ee = 120
                · subst h120
                  obtain ⟨hl48, hc0⟩ := HFU.out rfl
                  have hl48I : (nl : Int) = 48 := by omega
                  generalize cntF L2 = cc at *
                  clear hSX hmk hgk hoff hlc HGD HOK HLR HSX hz
                  go_wp2_with fail
                  all_goals exact ⟨HNX.out, by simp [intOf]; omega⟩
                · clear hSX hmk hgk hoff hlc HGD HOK HLR HSX hz HFU
                  go_wp2_with fail
                  exact ⟨HNX.out, by simp [intOf]; omega⟩
          · obtain ⟨L2, hL2⟩ : ∃ M, M = L1 := ⟨_, rfl⟩
            subst hL2
            clear q1 q3
            go_upto_region 15 with fail
            clear q0
            obtain ⟨wx, hwx⟩ : ∃ W, W = w5 := ⟨_, rfl⟩
            subst hwx
            have AOB := AOB7
            have hm := hm7
            have hS := hS7
            clear AOB7 hm7 hS7
            go_upto_region 16 with (go_at_call 11; refine (hS.list).mono ?_; rintro e w6 ⟨A2, c2, rfl, hSl, hA2, hS6, hK6⟩)
            have AOB6 := (hK6.2 ob (.inr rfl)).trans AOB
            have hm6 := hm.keep (hK6.2 MB (.inl rfl))
            have hMB6 : MB < wx.heap.size := hm.lt
            obtain ⟨wc, hclr, hmc, oc⟩ := hm6.clear 0
            have hobMB : ob ≠ MB := HOBN.out
            have AOBc : wc.heap[ob]? = some (.cells (SA x) 40 (0, 0)) := (oc.block ob (blk_lt AOB6) hobMB).trans AOB6
            have HSX : Hid (StX (fun j => j = MB ∨ j = ob) w wc TB L2) := Lib.hid (hS6.off oc (fun j hj => .inl hj))
            have HOBL : Hid (ob < wc.heap.size) := Lib.hid (blk_lt AOBc)
            have HGD : Hid (GoodF L2) := Lib.hid hS6.good
            have HOK : Hid (∀ y ∈ L2, FlOk y) := Lib.hid hS6.good.ok
            have hln := hS6.good.ln
            have HLR : Hid (∀ k, k < L2.length → ∃ y gA off, L2[k]? = some y ∧ A2 = some ⟨gA, off, none⟩ ∧ (gA < wc.heap.size ∧ gA ≠ MB) ∧ ∀ j v, (FA y).toList[j]? = some v → wc.cell? ((⟨gA, off + k * 20, none⟩ : Addr).add j) = some v) := Lib.hid (fun k hk => by
              obtain ⟨gA, off, hAe, hgl, hrow⟩ := hSl.row (by omega)
              have hy : L2[k]? = some L2[k] := List.getElem?_eq_getElem hk
              have hge := hA2 gA off none hAe
              have hne : gA ≠ MB := by omega
              have hf := f_row hrow hy
              exact ⟨L2[k], gA, off, hy, hAe, ⟨Nat.lt_of_lt_of_le hgl oc.size, hne⟩, fun j v hj => cell_blk (oc.block gA hgl hne) (hf j v hj)⟩)
            clear AOB AOB6 hm hm6 hS hS6 hK6 hSl hA2
            have AOB := AOBc
            clear AOBc
            generalize hn2 : L2.length = n2 at *
            have HN2 := Lib.hid hn2
            clear hn2
            go_upto_region 19 with fail
            go_loopw [12, 13] (fun v12 v13 wr => ∃ k : Nat, v13 = .int .i64 k ∧ k ≤ n2 ∧ v12 = .int .i64 (cntF (L2.take k) : Nat) ∧ ∃ g, MapK wr MB g (2 * k) ∧ Hid (KeysOf g (L2.take k)) ∧ OffS (fun j => j = MB) wc wr) (fun _ v13 _ => n2 - (intOf v13).toNat)
            case atStart => exact ⟨0, rfl, Nat.zero_le _, rfl, _, hmc, Lib.hid (fun x hx => absurd rfl hx), OffS.refl _ _⟩
            case round =>
              obtain ⟨k, rfl, hk, rfl, g, hmk, hgk, hoff⟩ := hrel
              by_cases hkl : k < n2
              · have hkI : (k : Int) < (n2 : Int) := by omega
                have hkD : decide (k < n2) = true := by simp [hkl]
                obtain ⟨y, gA, off, hy, rfl, hgA, hrow⟩ := HLR.out k hkl
                have hyo := HOK.out y (List.mem_of_getElem? hy)
                obtain ⟨hn1, hn2', hK2⟩ := keys_new HGD.out hy hgk.out
                have hct := cnt_take hy
                have HK2 := Lib.hid hK2
                have rowr : ∀ j v, (FA y).toList[j]? = some v → wr.cell? ((⟨gA, off + k * 20, none⟩ : Addr).add j) = some v := fun j v hj => cell_blk (hoff.block gA hgA.1 hgA.2) (hrow j v hj)
                obtain ⟨v1, st1, u1, u2, r1, r2, rl, m2, o1, o2⟩ := (hmk.keep (w' := wr.drew) rfl).put3 (by omega) hyo.op (n := 1) (by unfold i64ok; omega)
                rw [hn1] at rl m2
                have rl0 := (hmk.keep (w' := wr.drew) rfl).look1 hyo.op
                rw [hn1] at rl0
                simp only [Option.getD_none, Option.isSome_none, Bool.false_eq_true, if_false] at rl rl0 m2
                obtain ⟨v2, st2, u3, u4, r3, r4, rm, m4, o3, o4⟩ := (m2.keep (w' := u2.drew) rfl).put3 (by omega) hyo.bk (n := 1) (by unfold i64ok; omega)
                rw [hn2'] at rm m4
                have rm0 := (m2.keep (w' := u2.drew) rfl).look1 hyo.bk
                rw [hn2'] at rm0
                simp only [Option.getD_none, Option.isSome_none, Bool.false_eq_true, if_false] at rm rm0 m4
                have oU2 : OffS (fun j => j = MB) wr u2 := ⟨o2.os, o2.tape, o2.output, o2.size, o2.block⟩
                have oU4' : OffS (fun j => j = MB) u2 u4 := ⟨o4.os, o4.tape, o4.output, o4.size, o4.block⟩
                have oU4 := oU2.trans oU4'
                have gl0 : gA < wr.heap.size := Nat.lt_of_lt_of_le hgA.1 hoff.size
                have cOp := fun (W1 : World) (hW : W1.heap[gA]? = wr.heap[gA]?) => row_op (i := k) (l := L2) (fun j v hj => cell_blk hW (rowr j v hj))
                have cBk := fun (W1 : World) (hW : W1.heap[gA]? = wr.heap[gA]?) => row_bk (i := k) (l := L2) (fun j v hj => cell_blk hW (rowr j v hj))
                have eU1 : u1.heap[gA]? = wr.heap[gA]? := o1.block gA gl0 hgA.2
                have eU2 : u2.heap[gA]? = wr.heap[gA]? := oU2.block gA gl0 hgA.2
                have gl2 : gA < u2.drew.heap.size := Nat.lt_of_lt_of_le gl0 oU2.size
                have eU3 : u3.heap[gA]? = wr.heap[gA]? := (o3.block gA gl2 hgA.2).trans eU2
                have eU4 : u4.heap[gA]? = wr.heap[gA]? := oU4.block gA gl0 hgA.2
                have hc0 := Lib.hid (cOp wr.drew rfl)
                have hSA1 := Lib.hid (cOp u1 eU1)
                have hSB1 := Lib.hid (cOp u2 eU2)
                have hc2 := Lib.hid (cBk u2.drew eU2)
                have hSA2 := Lib.hid (cBk u3 eU3)
                have hSB2 := Lib.hid (cBk u4 eU4)
                have cst : u4.cell? ⟨gA, off + k * 20 + 18, none⟩ = some (.int .i64 y.st) := row_st (i := k) (fun j v hj => cell_blk eU4 (rowr j v hj))
                have HEND : Hid (∀ nc : Nat, nc = cntF (L2.take k) + (if openF y then 1 else 0) → ∃ k' : Nat, Value.int .i64 ((k : Int) + 1) = .int .i64 k' ∧ k' ≤ n2 ∧ Value.int .i64 (nc : Int) = .int .i64 (cntF (L2.take k') : Nat) ∧ ∃ g, MapK u4 MB g (2 * k') ∧ Hid (KeysOf g (L2.take k')) ∧ OffS (fun j => j = MB) wc u4) := Lib.hid (fun nc hnc => by
                  refine ⟨k + 1, by simp, by omega, by rw [hct, ← hnc], _, ?_, HK2, hoff.trans oU4⟩
                  rw [show 2 * (k + 1) = 2 * k + 1 + 1 by omega]
                  exact m4)
                have hcb : cntF (L2.take k) ≤ 48 := Nat.le_trans (List.length_filter_le _ _) (by rw [List.length_take]; have := HGD.out.ln; omega)
                have k_a := Lib.hid (k_inf y.op)
                have k_b := Lib.hid (k_inf y.bk)
                have HXS : Hid (openF y = (y.st == 0 || y.st == 2)) := Lib.hid rfl
                clear cOp cBk rowr hrow hmk hgk hoff m2 m4 o1 o2 o3 o4 oU2 oU4' oU4 eU1 eU2 eU3 eU4 hn1 hn2' hK2 HK2 hct hy hyo gl0 gl2
                generalize cntF (L2.take k) = ck at *
                generalize openF y = oy at *
                generalize y.st = ys at *
                generalize KA y.op = K1 at *
                generalize KA y.bk = K2 at *
                go_upto_region 21 with fail
                have hSA := hSA1.out
                have hSB := hSB1.out
                refine wp_region_held_drew (S := fun W1 : World => ∀ j v, K1.toList[j]? = some v → W1.cell? ((⟨gA, off + k * 20 + 1, none⟩ : Addr).add j) = some v) (by kernel_rfl) hc0.out (fun hH => ?_)
                generalize wr.drew = wd at *
                refine wpAnyH_take (i := 0) (oi := ⟨some 68, _, _, _, _, _⟩) (v := .map (some MB)) rfl (by kernel_rfl) (by kernel_rfl) (by kernel_rfl) (fun _ _ _ h => h) (.inl ⟨by rfl, fun W hW => by go_simp⟩) hH ?_
                try simp only [Act.put, List.setIfInBounds_toArray, List.set_cons_zero, List.set_cons_succ]
                refine wpAnyH_take (i := 1) (oi := ⟨some 69, _, _, _, _, _⟩) (v := .slice (some ⟨gA, off, none⟩) n2 c2) rfl (by kernel_rfl) (by kernel_rfl) (by kernel_rfl) (fun _ _ _ h => h) (.inl ⟨by rfl, fun W hW => by go_simp⟩) hH ?_
                try simp only [Act.put, List.setIfInBounds_toArray, List.set_cons_zero, List.set_cons_succ]
                refine wpAnyH_take (i := 2) (oi := ⟨some 70, _, _, _, _, _⟩) (v := .int .i64 k) rfl (by kernel_rfl) (by kernel_rfl) (by kernel_rfl) (fun _ _ _ h => h) (.inl ⟨by rfl, fun W hW => by go_simp⟩) hH ?_
                try simp only [Act.put, List.setIfInBounds_toArray, List.set_cons_zero, List.set_cons_succ]
                refine wpAnyH_take (i := 3) (oi := ⟨some 71, _, _, _, _, _⟩) (v := .pointer (some ⟨gA, off + k * 20, none⟩)) rfl (by kernel_rfl) (by kernel_rfl) (by kernel_rfl) (fun _ _ _ h => h) (.inl ⟨by rfl, fun W hW => by go_simp⟩) hH ?_
                try simp only [Act.put, List.setIfInBounds_toArray, List.set_cons_zero, List.set_cons_succ]
                refine wpAnyH_take (i := 4) (oi := ⟨some 72, _, _, _, _, _⟩) (v := .pointer (some ⟨gA, off + k * 20 + 1, none⟩)) rfl (by kernel_rfl) (by kernel_rfl) (by kernel_rfl) (fun _ _ _ h => h) (.inl ⟨by rfl, fun W hW => by go_simp⟩) hH ?_
                try simp only [Act.put, List.setIfInBounds_toArray, List.set_cons_zero, List.set_cons_succ]
                refine wpAnyH_take (i := 5) (oi := ⟨some 73, _, _, _, _, _⟩) (v := .agg K1) rfl (by kernel_rfl) (by kernel_rfl) (by kernel_rfl) (fun _ _ _ h => h) (yields_cells (by rfl) 36 _ rfl ⟨gA, off + k * 20 + 1, none⟩ rfl K1 _ (fun W hW => hW) Try.underlying36 rfl k_a.out) hH ?_
                try simp only [Act.put, List.setIfInBounds_toArray, List.set_cons_zero, List.set_cons_succ]
                refine wpAnyH_ready (rs := [6, 8]) (by kernel_rfl) (by simp) ?_
                refine AllReadyH.cons (o := ⟨some 74, _, _, _, _, _⟩) rfl (fun K hK => ?_) (AllReadyH.cons (o := ⟨some 76, _, _, _, _, _⟩) rfl (fun K hK => ?_) AllReadyH.nil)
                · go_simp
                  refine hK.out _ _ hH (fun _ => ?_)
                  clear hK K
                  try simp only [Act.put, List.setIfInBounds_toArray, List.set_cons_zero, List.set_cons_succ]
                  refine wpAnyH_take (i := 7) (oi := ⟨some 75, _, _, _, _, _⟩) (v := .int .i64 1) rfl (by kernel_rfl) (by kernel_rfl) (by kernel_rfl) (fun _ _ _ h => h) (.inl ⟨by rfl, fun W hW => by have hw1 := wrap_one; go_simp⟩) hH ?_
                  try simp only [Act.put, List.setIfInBounds_toArray, List.set_cons_zero, List.set_cons_succ]
                  refine wpAnyH_ready (rs := [8]) (by kernel_rfl) (by simp) ?_
                  refine AllReadyH.cons (o := ⟨some 76, _, _, _, _, _⟩) rfl (fun K hK => ?_) AllReadyH.nil
                  go_simp
                  refine hK.out _ _ hSA (fun _ => ?_)
                  clear hK K
                  try simp only [Act.put, List.setIfInBounds_toArray, List.set_cons_zero, List.set_cons_succ]
                  refine wpAnyH_take (i := 9) (oi := ⟨some 77, _, _, _, _, _⟩) (v := .int .i64 st1) rfl (by kernel_rfl) (by kernel_rfl) (by kernel_rfl) (fun _ _ _ h => h) (.inl ⟨by rfl, fun W hW => by go_simp⟩) hSA ?_
                  try simp only [Act.put, List.setIfInBounds_toArray, List.set_cons_zero, List.set_cons_succ]
                  refine wpAnyH_ready (rs := [10]) (by kernel_rfl) (by simp) ?_
                  refine AllReadyH.cons (o := ⟨none, _, _, _, _, _⟩) rfl (fun K hK => ?_) AllReadyH.nil
                  go_simp
                  refine hK.out _ _ hSB (fun _ => ?_)
                  clear hK K
                  try simp only [Act.put, List.setIfInBounds_toArray, List.set_cons_zero, List.set_cons_succ]
                  refine wpAnyH_done (by kernel_rfl) ?_ _
                  clear hSA1 hSB1 r1 r2 rl rl0 hc0 hSA hSB
                  go_upto_region 22 with fail
                  have hSA := hSA2.out
                  have hSB := hSB2.out
                  refine wp_region_held_drew (S := fun W1 : World => ∀ j v, K2.toList[j]? = some v → W1.cell? ((⟨gA, off + k * 20 + 8, none⟩ : Addr).add j) = some v) (by kernel_rfl) hc2.out (fun hH => ?_)
                  generalize u2.drew = wd at *
                  refine wpAnyH_take (i := 0) (oi := ⟨some 78, _, _, _, _, _⟩) (v := .map (some MB)) rfl (by kernel_rfl) (by kernel_rfl) (by kernel_rfl) (fun _ _ _ h => h) (.inl ⟨by rfl, fun W hW => by go_simp⟩) hH ?_
                  try simp only [Act.put, List.setIfInBounds_toArray, List.set_cons_zero, List.set_cons_succ]
                  refine wpAnyH_take (i := 1) (oi := ⟨some 79, _, _, _, _, _⟩) (v := .slice (some ⟨gA, off, none⟩) n2 c2) rfl (by kernel_rfl) (by kernel_rfl) (by kernel_rfl) (fun _ _ _ h => h) (.inl ⟨by rfl, fun W hW => by go_simp⟩) hH ?_
                  try simp only [Act.put, List.setIfInBounds_toArray, List.set_cons_zero, List.set_cons_succ]
                  refine wpAnyH_take (i := 2) (oi := ⟨some 80, _, _, _, _, _⟩) (v := .int .i64 k) rfl (by kernel_rfl) (by kernel_rfl) (by kernel_rfl) (fun _ _ _ h => h) (.inl ⟨by rfl, fun W hW => by go_simp⟩) hH ?_
                  try simp only [Act.put, List.setIfInBounds_toArray, List.set_cons_zero, List.set_cons_succ]
                  refine wpAnyH_take (i := 3) (oi := ⟨some 81, _, _, _, _, _⟩) (v := .pointer (some ⟨gA, off + k * 20, none⟩)) rfl (by kernel_rfl) (by kernel_rfl) (by kernel_rfl) (fun _ _ _ h => h) (.inl ⟨by rfl, fun W hW => by go_simp⟩) hH ?_
                  try simp only [Act.put, List.setIfInBounds_toArray, List.set_cons_zero, List.set_cons_succ]
                  refine wpAnyH_take (i := 4) (oi := ⟨some 82, _, _, _, _, _⟩) (v := .pointer (some ⟨gA, off + k * 20 + 8, none⟩)) rfl (by kernel_rfl) (by kernel_rfl) (by kernel_rfl) (fun _ _ _ h => h) (.inl ⟨by rfl, fun W hW => by go_simp⟩) hH ?_
                  try simp only [Act.put, List.setIfInBounds_toArray, List.set_cons_zero, List.set_cons_succ]
                  refine wpAnyH_take (i := 5) (oi := ⟨some 83, _, _, _, _, _⟩) (v := .agg K2) rfl (by kernel_rfl) (by kernel_rfl) (by kernel_rfl) (fun _ _ _ h => h) (yields_cells (by rfl) 36 _ rfl ⟨gA, off + k * 20 + 8, none⟩ rfl K2 _ (fun W hW => hW) Try.underlying36 rfl k_b.out) hH ?_
                  try simp only [Act.put, List.setIfInBounds_toArray, List.set_cons_zero, List.set_cons_succ]
                  refine wpAnyH_ready (rs := [6, 8]) (by kernel_rfl) (by simp) ?_
                  refine AllReadyH.cons (o := ⟨some 84, _, _, _, _, _⟩) rfl (fun K hK => ?_) (AllReadyH.cons (o := ⟨some 86, _, _, _, _, _⟩) rfl (fun K hK => ?_) AllReadyH.nil)
                  · go_simp
                    refine hK.out _ _ hH (fun _ => ?_)
                    clear hK K
                    try simp only [Act.put, List.setIfInBounds_toArray, List.set_cons_zero, List.set_cons_succ]
                    refine wpAnyH_take (i := 7) (oi := ⟨some 85, _, _, _, _, _⟩) (v := .int .i64 1) rfl (by kernel_rfl) (by kernel_rfl) (by kernel_rfl) (fun _ _ _ h => h) (.inl ⟨by rfl, fun W hW => by have hw1 := wrap_one; go_simp⟩) hH ?_
                    try simp only [Act.put, List.setIfInBounds_toArray, List.set_cons_zero, List.set_cons_succ]
                    refine wpAnyH_ready (rs := [8]) (by kernel_rfl) (by simp) ?_
                    refine AllReadyH.cons (o := ⟨some 86, _, _, _, _, _⟩) rfl (fun K hK => ?_) AllReadyH.nil
                    go_simp
                    refine hK.out _ _ hSA (fun _ => ?_)
                    clear hK K
                    try simp only [Act.put, List.setIfInBounds_toArray, List.set_cons_zero, List.set_cons_succ]
                    refine wpAnyH_take (i := 9) (oi := ⟨some 87, _, _, _, _, _⟩) (v := .int .i64 st2) rfl (by kernel_rfl) (by kernel_rfl) (by kernel_rfl) (fun _ _ _ h => h) (.inl ⟨by rfl, fun W hW => by go_simp⟩) hSA ?_
                    try simp only [Act.put, List.setIfInBounds_toArray, List.set_cons_zero, List.set_cons_succ]
                    refine wpAnyH_ready (rs := [10]) (by kernel_rfl) (by simp) ?_
                    refine AllReadyH.cons (o := ⟨none, _, _, _, _, _⟩) rfl (fun K hK => ?_) AllReadyH.nil
                    go_simp
                    refine hK.out _ _ hSB (fun _ => ?_)
                    clear hK K
                    try simp only [Act.put, List.setIfInBounds_toArray, List.set_cons_zero, List.set_cons_succ]
                    refine wpAnyH_done (by kernel_rfl) ?_ _
                    clear hSA2 hSB2 r3 r4 rm rm0 hc2 hSA hSB
                    have hsc : ys = 0 ∨ (¬ ys = 0 ∧ ys = 2) ∨ (¬ ys = 0 ∧ ¬ ys = 2) := by omega
                    rcases hsc with rfl | ⟨h0, rfl⟩ | ⟨h0, h2⟩
                    · have E := HEND.out (ck + 1) (by rw [HXS.out]; simp)
                      have HE := Lib.hid E
                      clear HEND HXS E
                      go_wp2_with fail
                      exact ⟨by simpa using HE.out, by simp [intOf]; omega⟩
                    · have E := HEND.out (ck + 1) (by rw [HXS.out]; simp)
                      have HE := Lib.hid E
                      clear HEND HXS E
                      go_wp2_with fail
                      exact ⟨by simpa using HE.out, by simp [intOf]; omega⟩
                    · have E := HEND.out ck (by rw [HXS.out]; simp [h0, h2])
                      have h0b : (ys == 0) = false := by simpa using h0
                      have h2b : (ys == 2) = false := by simpa using h2
                      have h0d : decide (ys = 0) = false := by simpa using h0
                      have h2d : decide (ys = 2) = false := by simpa using h2
                      have HE := Lib.hid E
                      clear HEND HXS E
                      go_wp2_with fail
                      exact ⟨by simpa using HE.out, by simp [intOf]; omega⟩
                  · go_simp
                    refine hK.out _ _ hSA (fun _ => ?_)
                    clear hK K
                    try simp only [Act.put, List.setIfInBounds_toArray, List.set_cons_zero, List.set_cons_succ]
                    refine wpAnyH_take (i := 9) (oi := ⟨some 87, _, _, _, _, _⟩) (v := .int .i64 st2) rfl (by kernel_rfl) (by kernel_rfl) (by kernel_rfl) (fun _ _ _ h => h) (.inl ⟨by rfl, fun W hW => by go_simp⟩) hSA ?_
                    try simp only [Act.put, List.setIfInBounds_toArray, List.set_cons_zero, List.set_cons_succ]
                    refine wpAnyH_ready (rs := [6]) (by kernel_rfl) (by simp) ?_
                    refine AllReadyH.cons (o := ⟨some 84, _, _, _, _, _⟩) rfl (fun K hK => ?_) AllReadyH.nil
                    go_simp
                    refine hK.out _ _ hSA (fun _ => ?_)
                    clear hK K
                    try simp only [Act.put, List.setIfInBounds_toArray, List.set_cons_zero, List.set_cons_succ]
                    refine wpAnyH_take (i := 7) (oi := ⟨some 85, _, _, _, _, _⟩) (v := .int .i64 1) rfl (by kernel_rfl) (by kernel_rfl) (by kernel_rfl) (fun _ _ _ h => h) (.inl ⟨by rfl, fun W hW => by have hw1 := wrap_one; go_simp⟩) hSA ?_
                    try simp only [Act.put, List.setIfInBounds_toArray, List.set_cons_zero, List.set_cons_succ]
                    refine wpAnyH_ready (rs := [10]) (by kernel_rfl) (by simp) ?_
                    refine AllReadyH.cons (o := ⟨none, _, _, _, _, _⟩) rfl (fun K hK => ?_) AllReadyH.nil
                    go_simp
                    refine hK.out _ _ hSB (fun _ => ?_)
                    clear hK K
                    try simp only [Act.put, List.setIfInBounds_toArray, List.set_cons_zero, List.set_cons_succ]
                    refine wpAnyH_done (by kernel_rfl) ?_ _
                    clear hSA2 hSB2 r3 r4 rm rm0 hc2 hSA hSB
                    have hsc : ys = 0 ∨ (¬ ys = 0 ∧ ys = 2) ∨ (¬ ys = 0 ∧ ¬ ys = 2) := by omega
                    rcases hsc with rfl | ⟨h0, rfl⟩ | ⟨h0, h2⟩
                    · have E := HEND.out (ck + 1) (by rw [HXS.out]; simp)
                      have HE := Lib.hid E
                      clear HEND HXS E
                      go_wp2_with fail
                      exact ⟨by simpa using HE.out, by simp [intOf]; omega⟩
                    · have E := HEND.out (ck + 1) (by rw [HXS.out]; simp)
                      have HE := Lib.hid E
                      clear HEND HXS E
                      go_wp2_with fail
                      exact ⟨by simpa using HE.out, by simp [intOf]; omega⟩
                    · have E := HEND.out ck (by rw [HXS.out]; simp [h0, h2])
                      have h0b : (ys == 0) = false := by simpa using h0
                      have h2b : (ys == 2) = false := by simpa using h2
                      have h0d : decide (ys = 0) = false := by simpa using h0
                      have h2d : decide (ys = 2) = false := by simpa using h2
                      have HE := Lib.hid E
                      clear HEND HXS E
                      go_wp2_with fail
                      exact ⟨by simpa using HE.out, by simp [intOf]; omega⟩
                · go_simp
                  refine hK.out _ _ hSA (fun _ => ?_)
                  clear hK K
                  try simp only [Act.put, List.setIfInBounds_toArray, List.set_cons_zero, List.set_cons_succ]
                  refine wpAnyH_take (i := 9) (oi := ⟨some 77, _, _, _, _, _⟩) (v := .int .i64 st1) rfl (by kernel_rfl) (by kernel_rfl) (by kernel_rfl) (fun _ _ _ h => h) (.inl ⟨by rfl, fun W hW => by go_simp⟩) hSA ?_
                  try simp only [Act.put, List.setIfInBounds_toArray, List.set_cons_zero, List.set_cons_succ]
                  refine wpAnyH_ready (rs := [6]) (by kernel_rfl) (by simp) ?_
                  refine AllReadyH.cons (o := ⟨some 74, _, _, _, _, _⟩) rfl (fun K hK => ?_) AllReadyH.nil
                  go_simp
                  refine hK.out _ _ hSA (fun _ => ?_)
                  clear hK K
                  try simp only [Act.put, List.setIfInBounds_toArray, List.set_cons_zero, List.set_cons_succ]
                  refine wpAnyH_take (i := 7) (oi := ⟨some 75, _, _, _, _, _⟩) (v := .int .i64 1) rfl (by kernel_rfl) (by kernel_rfl) (by kernel_rfl) (fun _ _ _ h => h) (.inl ⟨by rfl, fun W hW => by have hw1 := wrap_one; go_simp⟩) hSA ?_
                  try simp only [Act.put, List.setIfInBounds_toArray, List.set_cons_zero, List.set_cons_succ]
                  refine wpAnyH_ready (rs := [10]) (by kernel_rfl) (by simp) ?_
                  refine AllReadyH.cons (o := ⟨none, _, _, _, _, _⟩) rfl (fun K hK => ?_) AllReadyH.nil
                  go_simp
                  refine hK.out _ _ hSB (fun _ => ?_)
                  clear hK K
                  try simp only [Act.put, List.setIfInBounds_toArray, List.set_cons_zero, List.set_cons_succ]
                  refine wpAnyH_done (by kernel_rfl) ?_ _
                  clear hSA1 hSB1 r1 r2 rl rl0 hc0 hSA hSB
                  go_upto_region 22 with fail
                  have hSA := hSA2.out
                  have hSB := hSB2.out
                  refine wp_region_held_drew (S := fun W1 : World => ∀ j v, K2.toList[j]? = some v → W1.cell? ((⟨gA, off + k * 20 + 8, none⟩ : Addr).add j) = some v) (by kernel_rfl) hc2.out (fun hH => ?_)
                  generalize u2.drew = wd at *
                  refine wpAnyH_take (i := 0) (oi := ⟨some 78, _, _, _, _, _⟩) (v := .map (some MB)) rfl (by kernel_rfl) (by kernel_rfl) (by kernel_rfl) (fun _ _ _ h => h) (.inl ⟨by rfl, fun W hW => by go_simp⟩) hH ?_
                  try simp only [Act.put, List.setIfInBounds_toArray, List.set_cons_zero, List.set_cons_succ]
                  refine wpAnyH_take (i := 1) (oi := ⟨some 79, _, _, _, _, _⟩) (v := .slice (some ⟨gA, off, none⟩) n2 c2) rfl (by kernel_rfl) (by kernel_rfl) (by kernel_rfl) (fun _ _ _ h => h) (.inl ⟨by rfl, fun W hW => by go_simp⟩) hH ?_
                  try simp only [Act.put, List.setIfInBounds_toArray, List.set_cons_zero, List.set_cons_succ]
                  refine wpAnyH_take (i := 2) (oi := ⟨some 80, _, _, _, _, _⟩) (v := .int .i64 k) rfl (by kernel_rfl) (by kernel_rfl) (by kernel_rfl) (fun _ _ _ h => h) (.inl ⟨by rfl, fun W hW => by go_simp⟩) hH ?_
                  try simp only [Act.put, List.setIfInBounds_toArray, List.set_cons_zero, List.set_cons_succ]
                  refine wpAnyH_take (i := 3) (oi := ⟨some 81, _, _, _, _, _⟩) (v := .pointer (some ⟨gA, off + k * 20, none⟩)) rfl (by kernel_rfl) (by kernel_rfl) (by kernel_rfl) (fun _ _ _ h => h) (.inl ⟨by rfl, fun W hW => by go_simp⟩) hH ?_
                  try simp only [Act.put, List.setIfInBounds_toArray, List.set_cons_zero, List.set_cons_succ]
                  refine wpAnyH_take (i := 4) (oi := ⟨some 82, _, _, _, _, _⟩) (v := .pointer (some ⟨gA, off + k * 20 + 8, none⟩)) rfl (by kernel_rfl) (by kernel_rfl) (by kernel_rfl) (fun _ _ _ h => h) (.inl ⟨by rfl, fun W hW => by go_simp⟩) hH ?_
                  try simp only [Act.put, List.setIfInBounds_toArray, List.set_cons_zero, List.set_cons_succ]
                  refine wpAnyH_take (i := 5) (oi := ⟨some 83, _, _, _, _, _⟩) (v := .agg K2) rfl (by kernel_rfl) (by kernel_rfl) (by kernel_rfl) (fun _ _ _ h => h) (yields_cells (by rfl) 36 _ rfl ⟨gA, off + k * 20 + 8, none⟩ rfl K2 _ (fun W hW => hW) Try.underlying36 rfl k_b.out) hH ?_
                  try simp only [Act.put, List.setIfInBounds_toArray, List.set_cons_zero, List.set_cons_succ]
                  refine wpAnyH_ready (rs := [6, 8]) (by kernel_rfl) (by simp) ?_
                  refine AllReadyH.cons (o := ⟨some 84, _, _, _, _, _⟩) rfl (fun K hK => ?_) (AllReadyH.cons (o := ⟨some 86, _, _, _, _, _⟩) rfl (fun K hK => ?_) AllReadyH.nil)
                  · go_simp
                    refine hK.out _ _ hH (fun _ => ?_)
                    clear hK K
                    try simp only [Act.put, List.setIfInBounds_toArray, List.set_cons_zero, List.set_cons_succ]
                    refine wpAnyH_take (i := 7) (oi := ⟨some 85, _, _, _, _, _⟩) (v := .int .i64 1) rfl (by kernel_rfl) (by kernel_rfl) (by kernel_rfl) (fun _ _ _ h => h) (.inl ⟨by rfl, fun W hW => by have hw1 := wrap_one; go_simp⟩) hH ?_
                    try simp only [Act.put, List.setIfInBounds_toArray, List.set_cons_zero, List.set_cons_succ]
                    refine wpAnyH_ready (rs := [8]) (by kernel_rfl) (by simp) ?_
                    refine AllReadyH.cons (o := ⟨some 86, _, _, _, _, _⟩) rfl (fun K hK => ?_) AllReadyH.nil
                    go_simp
                    refine hK.out _ _ hSA (fun _ => ?_)
                    clear hK K
                    try simp only [Act.put, List.setIfInBounds_toArray, List.set_cons_zero, List.set_cons_succ]
                    refine wpAnyH_take (i := 9) (oi := ⟨some 87, _, _, _, _, _⟩) (v := .int .i64 st2) rfl (by kernel_rfl) (by kernel_rfl) (by kernel_rfl) (fun _ _ _ h => h) (.inl ⟨by rfl, fun W hW => by go_simp⟩) hSA ?_
                    try simp only [Act.put, List.setIfInBounds_toArray, List.set_cons_zero, List.set_cons_succ]
                    refine wpAnyH_ready (rs := [10]) (by kernel_rfl) (by simp) ?_
                    refine AllReadyH.cons (o := ⟨none, _, _, _, _, _⟩) rfl (fun K hK => ?_) AllReadyH.nil
                    go_simp
                    refine hK.out _ _ hSB (fun _ => ?_)
                    clear hK K
                    try simp only [Act.put, List.setIfInBounds_toArray, List.set_cons_zero, List.set_cons_succ]
                    refine wpAnyH_done (by kernel_rfl) ?_ _
                    clear hSA2 hSB2 r3 r4 rm rm0 hc2 hSA hSB
                    have hsc : ys = 0 ∨ (¬ ys = 0 ∧ ys = 2) ∨ (¬ ys = 0 ∧ ¬ ys = 2) := by omega
                    rcases hsc with rfl | ⟨h0, rfl⟩ | ⟨h0, h2⟩
                    · have E := HEND.out (ck + 1) (by rw [HXS.out]; simp)
                      have HE := Lib.hid E
                      clear HEND HXS E
                      go_wp2_with fail
                      exact ⟨by simpa using HE.out, by simp [intOf]; omega⟩
                    · have E := HEND.out (ck + 1) (by rw [HXS.out]; simp)
                      have HE := Lib.hid E
                      clear HEND HXS E
                      go_wp2_with fail
                      exact ⟨by simpa using HE.out, by simp [intOf]; omega⟩
                    · have E := HEND.out ck (by rw [HXS.out]; simp [h0, h2])
                      have h0b : (ys == 0) = false := by simpa using h0
                      have h2b : (ys == 2) = false := by simpa using h2
                      have h0d : decide (ys = 0) = false := by simpa using h0
                      have h2d : decide (ys = 2) = false := by simpa using h2
                      have HE := Lib.hid E
                      clear HEND HXS E
                      go_wp2_with fail
                      exact ⟨by simpa using HE.out, by simp [intOf]; omega⟩
                  · go_simp
                    refine hK.out _ _ hSA (fun _ => ?_)
                    clear hK K
                    try simp only [Act.put, List.setIfInBounds_toArray, List.set_cons_zero, List.set_cons_succ]
                    refine wpAnyH_take (i := 9) (oi := ⟨some 87, _, _, _, _, _⟩) (v := .int .i64 st2) rfl (by kernel_rfl) (by kernel_rfl) (by kernel_rfl) (fun _ _ _ h => h) (.inl ⟨by rfl, fun W hW => by go_simp⟩) hSA ?_
                    try simp only [Act.put, List.setIfInBounds_toArray, List.set_cons_zero, List.set_cons_succ]
                    refine wpAnyH_ready (rs := [6]) (by kernel_rfl) (by simp) ?_
                    refine AllReadyH.cons (o := ⟨some 84, _, _, _, _, _⟩) rfl (fun K hK => ?_) AllReadyH.nil
                    go_simp
                    refine hK.out _ _ hSA (fun _ => ?_)
                    clear hK K
                    try simp only [Act.put, List.setIfInBounds_toArray, List.set_cons_zero, List.set_cons_succ]
                    refine wpAnyH_take (i := 7) (oi := ⟨some 85, _, _, _, _, _⟩) (v := .int .i64 1) rfl (by kernel_rfl) (by kernel_rfl) (by kernel_rfl) (fun _ _ _ h => h) (.inl ⟨by rfl, fun W hW => by have hw1 := wrap_one; go_simp⟩) hSA ?_
                    try simp only [Act.put, List.setIfInBounds_toArray, List.set_cons_zero, List.set_cons_succ]
                    refine wpAnyH_ready (rs := [10]) (by kernel_rfl) (by simp) ?_
                    refine AllReadyH.cons (o := ⟨none, _, _, _, _, _⟩) rfl (fun K hK => ?_) AllReadyH.nil
                    go_simp
                    refine hK.out _ _ hSB (fun _ => ?_)
                    clear hK K
                    try simp only [Act.put, List.setIfInBounds_toArray, List.set_cons_zero, List.set_cons_succ]
                    refine wpAnyH_done (by kernel_rfl) ?_ _
                    clear hSA2 hSB2 r3 r4 rm rm0 hc2 hSA hSB
                    have hsc : ys = 0 ∨ (¬ ys = 0 ∧ ys = 2) ∨ (¬ ys = 0 ∧ ¬ ys = 2) := by omega
                    rcases hsc with rfl | ⟨h0, rfl⟩ | ⟨h0, h2⟩
                    · have E := HEND.out (ck + 1) (by rw [HXS.out]; simp)
                      have HE := Lib.hid E
                      clear HEND HXS E
                      go_wp2_with fail
                      exact ⟨by simpa using HE.out, by simp [intOf]; omega⟩
                    · have E := HEND.out (ck + 1) (by rw [HXS.out]; simp)
                      have HE := Lib.hid E
                      clear HEND HXS E
                      go_wp2_with fail
                      exact ⟨by simpa using HE.out, by simp [intOf]; omega⟩
                    · have E := HEND.out ck (by rw [HXS.out]; simp [h0, h2])
                      have h0b : (ys == 0) = false := by simpa using h0
                      have h2b : (ys == 2) = false := by simpa using h2
                      have h0d : decide (ys = 0) = false := by simpa using h0
                      have h2d : decide (ys = 2) = false := by simpa using h2
                      have HE := Lib.hid E
                      clear HEND HXS E
                      go_wp2_with fail
                      exact ⟨by simpa using HE.out, by simp [intOf]; omega⟩
              · obtain rfl : k = n2 := by omega
                have hd0 : decide (k < k) = false := by simp
                have hdi : decide ((k : Int) < (k : Int)) = false := by simp
                have h96 : k ≤ 48 := by rw [← HN2.out]; exact HGD.out.ln
                have hn48I : ¬ (48 : Int) < (k : Int) := by omega
                have hn48D : decide ((48 : Int) < (k : Int)) = false := decide_eq_false hn48I
                have hn48D2 : decide (48 < k) = false := decide_eq_false (by omega)
                obtain ⟨z, hz⟩ : ∃ z : Nat, z = 2 * k := ⟨_, rfl⟩
                have hz0 : (2 : Int) * (k : Int) = (z : Int) := by omega
                have hz1 : IntKind.i64.wrap (z : Int) = (z : Int) := by rw [wrap_small (by omega) (by omega)]
                have hlen := hmk.len 3
                rw [← hz] at hlen
                have hSX := HSX.out.off hoff (fun j hj => .inl hj)
                have hOB := (hoff.block ob HOBL.out HOBN.out).trans AOB
                have HNX : Hid (∃ i' : Nat, Value.int .i64 ((i : Int) + 1) = .int .i64 i' ∧ i' ≤ n ∧ ∃ L g c, StX (fun j => j = MB) w wr TB L ∧ MapK wr MB g c ∧ Hid (c ≤ 96)) := Lib.hid ⟨i + 1, by simp, by omega, L2, g, 2 * k, hSX.mono (fun j hj => .inl hj), hmk, Lib.hid (by omega)⟩
                have hlc : L2.take k = L2 := List.take_of_length_le (by rw [HN2.out]; exact Nat.le_refl _)
                rw [hlc]
                have q0 := sa_kind hOB
                by_cases h120 : ee = 120
                · subst h120
                  obtain ⟨hl48, hc0⟩ := HFU.out rfl
                  have hl48I : (nl : Int) = 48 := by omega
                  rw [hc0]
                  clear hSX hmk hgk hoff hlc HGD HOK HLR HSX hz
                  go_wp2_with fail
                  exact ⟨HNX.out, by simp [intOf]; omega⟩
                · clear hSX hmk hgk hoff hlc HGD HOK HLR HSX hz HFU
                  go_wp2_with fail
                  exact ⟨HNX.out, by simp [intOf]; omega⟩
      · obtain rfl : i = n := by omega
        have hd0 : decide (i < i) = false := by simp
        have hdi : decide ((i : Int) < (i : Int)) = false := by simp
        have FIN := Lib.hid hSr.bel
        clear hSr hmr HRow
        go_wp2_with fail
        go_ret
        exact ⟨rfl, FIN.out⟩
end Go.Proofs.Ytegbcndcbmajlaa
