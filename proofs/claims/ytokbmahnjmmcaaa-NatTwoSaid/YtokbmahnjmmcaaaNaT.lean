/- NatTwo: the walk; by-name template (gen_na.py). -/
import Derived.Test.YtokbmahnjmmcaaaNaK
namespace Go.Proofs.Ytokbmahnjmmcaaa
open Go.RowKit Go.Lib Go.Maps Go.Shelf
set_option linter.unusedVariables false
set_option linter.unusedSimpArgs false

theorem pl_ba2 {W : World} {g : Nat} {p : PN} {T : TypeId} (h : W.heap[g]? = some (.cells (PA p) T (0, 0))) : ∀ j v, (KA p.ba).toList[j]? = some v → W.cell? ((⟨g, 21, none⟩ : Addr).add j) = some v := by
  intro j v hv
  rw [addr_add]
  have hl : j < 7 := (List.getElem?_eq_some_iff.1 hv).1
  match j, hl with
  | 0, _ => exact (cell_of_row _ g 21 _ _ _ h).trans hv
  | 1, _ => exact (cell_of_row _ g 22 _ _ _ h).trans hv
  | 2, _ => exact (cell_of_row _ g 23 _ _ _ h).trans hv
  | 3, _ => exact (cell_of_row _ g 24 _ _ _ h).trans hv
  | 4, _ => exact (cell_of_row _ g 25 _ _ _ h).trans hv
  | 5, _ => exact (cell_of_row _ g 26 _ _ _ h).trans hv
  | 6, _ => exact (cell_of_row _ g 27 _ _ _ h).trans hv
theorem pl_op2 {W : World} {g : Nat} {p : PN} {T : TypeId} (h : W.heap[g]? = some (.cells (PA p) T (0, 0))) : ∀ j v, (KA p.op).toList[j]? = some v → W.cell? ((⟨g, 7, none⟩ : Addr).add j) = some v := by
  intro j v hv
  rw [addr_add]
  have hl : j < 7 := (List.getElem?_eq_some_iff.1 hv).1
  match j, hl with
  | 0, _ => exact (cell_of_row _ g 7 _ _ _ h).trans hv
  | 1, _ => exact (cell_of_row _ g 8 _ _ _ h).trans hv
  | 2, _ => exact (cell_of_row _ g 9 _ _ _ h).trans hv
  | 3, _ => exact (cell_of_row _ g 10 _ _ _ h).trans hv
  | 4, _ => exact (cell_of_row _ g 11 _ _ _ h).trans hv
  | 5, _ => exact (cell_of_row _ g 12 _ _ _ h).trans hv
  | 6, _ => exact (cell_of_row _ g 13 _ _ _ h).trans hv
structure TSt (w2 wr : World) (G : Nat) (v : Value) (T : List KR) : Prop where
  own : wr.ownsRow G 35 7 v T.length (T.flatMap krc)
  bel : Below w2.heap.size w2 wr
  gw : G ≤ wr.heap.size
  ok : ∀ x ∈ T, KyOk x
theorem scan_ok : ∀ (n i : Nat) {o op : KR} {tk : List KR} {f t : Int} {r : KR}, scanK o op tk f t n i = some r → ∃ j, i ≤ j ∧ j < i + n ∧ r = tryK o (portP f t op.sp j).1
  | 0, _, _, _, _, _, _, _, h => by cases h
  | n + 1, i, o, op, tk, f, t, r, h => by
    unfold scanK at h
    split at h
    · cases h
      exact ⟨i, Nat.le_refl _, by omega, rfl⟩
    · obtain ⟨j, h1, h2, h3⟩ := scan_ok n (i + 1) h
      exact ⟨j, by omega, by omega, h3⟩
theorem portQ_ok {c : CF} {inn : Int} {k r : KR} {tk : List KR} {w : World} (hc : c.Ok w) (hk : KyOk k) (h : portQ (d3 c inn k 0) tk = some r) : KyOk r := by
  obtain ⟨h1, h2, h3⟩ := d3_ok c inn k 0 hc hk
  unfold portQ at h
  split at h
  · obtain ⟨j, _, hj, e⟩ := scan_ok _ _ h
    rw [e]
    exact ky_try h1 (port_i64 (by omega))
  · split at h
    · cases h; exact h1
    · cases h
theorem make_ky {c : CF} {inn : Int} {k r : KR} {tk : List KR} {w : World} (hc : c.Ok w) (hk : KyOk k) (h : (makeP c inn k tk).2 = 0) (hp : (makeP c inn k tk).1 = pO c k r (turnK r)) : KyOk r := by
  by_cases h1 : (routeP c (judK c k).dh (judK c k).dl).1 = -1
  · unfold makeP at h; rw [if_pos h1] at h; simp at h
  by_cases h2 : (routeP c (judK c k).dh (judK c k).dl).2 = -1
  · unfold makeP at h; rw [if_neg h1, if_pos h2] at h; simp at h
  rw [make_rest h1 h2] at h hp
  cases hq : portQ (d3 c inn k 0) tk with
  | none => rw [hq] at h; simp at h
  | some r2 =>
    rw [hq] at hp
    simp only [pO, PN.mk.injEq] at hp
    rw [← hp.2.2.1]
    exact portQ_ok hc hk hq
theorem run_bs2 (w : World) (a b : KR) : (Instr.buildSlice 64 2 #[(0, .agg (KA a)), (1, .agg (KA b))]).run Try.prog w = .ok (.slice (some ⟨w.heap.size, 0, none⟩) 2 2) (w.alloc (.cells ((krc a ++ krc b).toArray) 35)) := by kernel_rfl
theorem wpList_bs2 {ops : Array Oper} {rest : List Oper} {o : Oper} {a : Act} {w : World} {Q : Exit → Act → World → Prop} (hgd : o.guard = none) (x y : Operand) (k m : KR) (ho : o.op = .buildSlice 64 2 #[(0, x), (1, y)]) (hx : a.eval x = .agg (KA k)) (hy : a.eval y = .agg (KA m))
    (h : wpList Try.prog ops Q rest (a.put o.dst (.slice (some ⟨w.heap.size, 0, none⟩) 2 2)) (w.alloc (.cells ((krc k ++ krc m).toArray) 35))) : wpList Try.prog ops Q (o :: rest) a w :=
  wpList_plain hgd fun _ hK => by
    unfold Oper.wp
    have e : (execOp a.eval o).run Try.prog w = .ok (.value (.slice (some ⟨w.heap.size, 0, none⟩) 2 2)) (w.alloc (.cells ((krc k ++ krc m).toArray) 35)) := by
      unfold execOp
      simp only [ho, List.map_toArray, List.map_cons, List.map_nil, hx, hy, Sem.run_bind, Sem.run_pure, Result.andThen_ok, run_bs2]
    rw [e]
    simp [go_sem]
    exact hK _ _ h
theorem TSt.below {w2 wr wk : World} {G : Nat} {v : Value} {T : List KR} (h : TSt w2 wr G v T) (b : Below wr.heap.size wr wk) : TSt w2 wk G v T := ⟨own_bel h.own b, bel_via h.bel b, Nat.le_trans h.gw b.size, h.ok⟩
set_option maxRecDepth 100000 in
set_option maxHeartbeats 8000000 in
theorem two_law (c : CF) (inn : Int) (A : Option Addr) (n cap : Nat) (l : List KR) {w : World} (hc : c.Ok w) (hf : c.Fit) (hS : Sl w 7 krc A n l) (hT : ∀ x ∈ l, KyOk x) :
    Calls Try.prog 9 #[.agg (cfc c), .int .i64 inn, .slice A n cap] w (LawP w) := by
  have HSS := Lib.hid hS
  have HLN := Lib.hid hS.len
  have HTT := Lib.hid hT
  clear hS hT
  unfold LawP
  go_enter Try.func9, Try.ntmps9
  go_upto_region 1 with fail
  obtain ⟨gc, hgc⟩ : ∃ g, g = w.heap.size := ⟨_, rfl⟩
  obtain ⟨w1, hw1⟩ : ∃ x, x = w.alloc (.cells (cfc c) 30) := ⟨_, rfl⟩
  have HB1 : Hid (Below w.heap.size w w1) := Lib.hid (by rw [hw1]; exact bel_al _ _)
  have HC1 : Hid (w1.heap[gc]? = some (.cells (cfc c) 30 (0, 0))) := Lib.hid (by rw [hw1, hgc]; exact al_new rfl _)
  rw [← hw1]
  rw [← hgc]
  clear hw1 hgc
  have ch := heavy_any c (hc.keep HB1.out) hf
  go_wp2_with ((with_reducible refine stop_op (o := ⟨some 16, _, _, _, _, _⟩) ?_); refine Lib.hid ?_; refine wpList_load_cells rfl 30 (.tmp 3) rfl ⟨gc, 0, none⟩ rfl (cfc c) _ (blk_all HC1.out) Try.underlying30 rfl (c_inf _) ?_)
  refine ch.mono ?_
  rintro e w2 ⟨hv, rfl, -, b2⟩
  have HB2 := Lib.hid (bel_via HB1.out b2)
  have HC2 := Lib.hid (kb b2 HC1.out)
  clear b2 HB1 HC1 ch
  cases hv with
  | true =>
    go_wp2
    go_ret
    exact ⟨rfl, HB2.out⟩
  | false =>
  by_cases hn : 64 < n
  · have hnI : (64 : Int) < (n : Int) := by omega
    go_wp2
    go_ret
    exact ⟨rfl, HB2.out⟩
  have hnI : ¬ (64 : Int) < (n : Int) := by omega
  go_upto_region 4 with (refine wpList_bs0 rfl rfl ?_)
  have hown3 : (w2.alloc (.cells #[] 35)).ownsRow w2.heap.size 35 7 (.slice (some ⟨w2.heap.size, 0, none⟩) 0 0) 0 ([] : List Value) := World.ownsRow_made w2 #[] 0 (Nat.le_refl _) (by unfold maxLen; omega) rfl
  have b3 : Below w2.heap.size w2 (w2.alloc (.cells #[] 35)) := bel_al _ _
  obtain ⟨w3, hw3⟩ : ∃ x, x = w2.alloc (.cells #[] 35) := ⟨_, rfl⟩
  rw [← hw3] at hown3 b3
  have hbw3 : w2.heap.size ≤ w3.heap.size := b3.size
  try simp only [Act.put]
  rw [← hw3]
  obtain ⟨G, hG⟩ : ∃ G, G = w2.heap.size := ⟨_, rfl⟩
  rw [← hG] at hown3 hbw3 ⊢
  have hGw : w2.heap.size ≤ G := by omega
  have HT0 : Hid (TSt w2 w3 G (.slice (some ⟨G, 0, none⟩) 0 0) []) := Lib.hid ⟨hown3, b3, hbw3, fun x h => by cases h⟩
  clear hw3 hG b3 hown3 hbw3
  go_wp2_with fail
  go_loopw [8, 7] (fun v8 v7 wr => ∃ i : Nat, v8 = .int .i64 i ∧ i ≤ n ∧ ∃ T, Hid (TSt w2 wr G v7 T ∧ T.length ≤ 2 * i)) (fun v8 _ _ => n - (intOf v8).toNat)
  case atStart => exact ⟨0, rfl, by omega, [], Lib.hid ⟨HT0.out, by simp⟩⟩
  case round =>
    obtain ⟨i, rfl, hi, T, HT⟩ := hrel
    obtain ⟨wo, hwo⟩ : ∃ x, x = wr := ⟨_, rfl⟩
    rw [← hwo] at HT ⊢
    clear hwo HT0
    by_cases hlt : i < n
    · have hlti : (i : Int) < (n : Int) := by omega
      obtain ⟨bb, off, hA, hbl, hrow⟩ := HSS.out.row (by omega)
      obtain ⟨x, hx⟩ : ∃ x, l[i]? = some x := ⟨_, List.getElem?_eq_getElem (by rw [HLN.out]; exact hlt)⟩
      have HX := Lib.hid hx
      have hkx : KyOk x := HTT.out x (List.mem_of_getElem? hx)
      subst hA
      have HROW : Hid (∀ W, Below w.heap.size w W → ∀ j v, (KA x).toList[j]? = some v → W.cell? ((⟨bb, off + i * 7, none⟩ : Addr).add j) = some v) := Lib.hid (fun W hW j v hj => by
        rw [addr_add]
        exact keepc hW (hrow i x hx j v hj))
      have hnb : n ≤ 9223372036854775807 := by omega
      obtain ⟨tn, htn⟩ : ∃ tn, tn = T.length := ⟨_, rfl⟩
      obtain ⟨A2, c2, rfl, hSm, _⟩ := sl_of_own (k := 7) (enc := krc) key_len HT.out.1.own rfl
      rw [← htn] at hSm
      have HSM := Lib.hid hSm
      have htb : tn ≤ 128 := by have := HT.out.2; omega
      have HTN := Lib.hid htn
      clear hrow hx hSm htn
      rw [← HTN.out]
      go_wp2_with fail
      go_loopw [9, 10] (fun v9 v10 wk => ∃ k : Nat, v10 = .int .i64 k ∧ k ≤ tn ∧ v9 = .bool ((T.take k).contains x) ∧ Below wo.heap.size wo wk) (fun _ v10 _ => tn - (intOf v10).toNat)
      case atStart => exact ⟨0, rfl, by omega, by simp, Below.refl _ _⟩
      case round =>
        obtain ⟨k, rfl, hk, rfl, hbk⟩ := hrel
        have HBK := Lib.hid hbk
        clear hbk
        by_cases hkt : k < tn
        · have hkI : (k : Int) < (tn : Int) := by omega
          obtain ⟨g2, off2, hA2, hl2, hr2⟩ := HSM.out.row (by omega)
          obtain ⟨y, hy⟩ : ∃ y, T[k]? = some y := ⟨_, List.getElem?_eq_getElem (by rw [← HTN.out]; exact hkt)⟩
          have HTK := Lib.hid (has_take (b := x) hy)
          subst hA2
          have HS : Hid ((∀ j v, (KA y).toList[j]? = some v → wr.drew.cell? ((⟨g2, off2 + k * 7, none⟩ : Addr).add j) = some v) ∧ (∀ j v, (KA x).toList[j]? = some v → wr.drew.cell? ((⟨bb, off + i * 7, none⟩ : Addr).add j) = some v)) := Lib.hid ⟨fun j v hj => by
            rw [addr_add]
            exact keepc (bel_dr HBK.out) (hr2 k y hy j v hj), HROW.out _ (bel_dr (bel_via (bel_via HB2.out HT.out.1.bel) HBK.out))⟩
          have hbw : bb < wr.heap.size := Nat.lt_of_lt_of_le hbl (bel_via (bel_via HB2.out HT.out.1.bel) HBK.out).size
          have hgw2 : g2 < wr.heap.size := Nat.lt_of_lt_of_le hl2 HBK.out.size
          obtain ⟨q, hq⟩ : ∃ q, q = (y == x) := ⟨_, rfl⟩
          have heq := fun W => eql_ky y x W
          rw [← hq] at heq
          rw [← hq] at HTK
          obtain ⟨b, hb⟩ : ∃ b, b = (T.take k).contains x := ⟨_, rfl⟩
          rw [← hb]
          rw [← hb] at HTK
          clear hr2 hy hq hb
          go_upto_region 11 with fail
          cases b
          · 
            refine wp_region_held_drew (S := fun W1 : World => (∀ j v, (KA y).toList[j]? = some v → W1.cell? ((⟨g2, off2 + k * 7, none⟩ : Addr).add j) = some v) ∧ (∀ j v, (KA x).toList[j]? = some v → W1.cell? ((⟨bb, off + i * 7, none⟩ : Addr).add j) = some v)) (by kernel_rfl) HS.out (fun hS0 => ?_)
            refine wpAnyH_take (i := 0) (oi := ⟨some 36, _, _, _, _, _⟩) (v := .bool false) rfl (by kernel_rfl) (by kernel_rfl) (by kernel_rfl) (fun _ _ _ h => h) (.inl ⟨by rfl, fun W hW => by go_simp⟩) hS0 ?_
            try simp only [Act.put, List.setIfInBounds_toArray, List.set_cons_zero, List.set_cons_succ]
            refine wpAnyH_take (i := 1) (oi := ⟨some 37, _, _, _, _, _⟩) (v := .bool false) rfl (by kernel_rfl) (by kernel_rfl) (by kernel_rfl) (fun _ _ _ h => h) (.inl ⟨by rfl, fun W hW => by go_simp⟩) hS0 ?_
            try simp only [Act.put, List.setIfInBounds_toArray, List.set_cons_zero, List.set_cons_succ]
            refine wpAnyH_take (i := 2) (oi := ⟨some 38, _, _, _, _, _⟩) (v := .slice (some ⟨g2, off2, none⟩) tn c2) rfl (by kernel_rfl) (by kernel_rfl) (by kernel_rfl) (fun _ _ _ h => h) (.inl ⟨by rfl, fun W hW => by go_simp⟩) hS0 ?_
            try simp only [Act.put, List.setIfInBounds_toArray, List.set_cons_zero, List.set_cons_succ]
            refine wpAnyH_take (i := 3) (oi := ⟨some 39, _, _, _, _, _⟩) (v := .int .i64 k) rfl (by kernel_rfl) (by kernel_rfl) (by kernel_rfl) (fun _ _ _ h => h) (.inl ⟨by rfl, fun W hW => by go_simp⟩) hS0 ?_
            try simp only [Act.put, List.setIfInBounds_toArray, List.set_cons_zero, List.set_cons_succ]
            refine wpAnyH_take (i := 4) (oi := ⟨some 40, _, _, _, _, _⟩) (v := .pointer (some ⟨g2, off2 + k * 7, none⟩)) rfl (by kernel_rfl) (by kernel_rfl) (by kernel_rfl) (fun _ _ _ h => h) (.inl ⟨by rfl, fun W hW => by go_simp⟩) hS0 ?_
            try simp only [Act.put, List.setIfInBounds_toArray, List.set_cons_zero, List.set_cons_succ]
            refine wpAnyH_take (i := 5) (oi := ⟨some 41, _, _, _, _, _⟩) (v := .agg (KA y)) rfl (by kernel_rfl) (by kernel_rfl) (by kernel_rfl) (fun _ _ _ h => h) (yields_cells (by rfl) 35 _ rfl ⟨g2, off2 + k * 7, none⟩ rfl (KA y) _ (fun W hW => hW.1) Try.underlying35 rfl (k_inf _)) hS0 ?_
            try simp only [Act.put, List.setIfInBounds_toArray, List.set_cons_zero, List.set_cons_succ]
            refine wpAnyH_take (i := 6) (oi := ⟨some 42, _, _, _, _, _⟩) (v := .slice (some ⟨bb, off, none⟩) n cap) rfl (by kernel_rfl) (by kernel_rfl) (by kernel_rfl) (fun _ _ _ h => h) (.inl ⟨by rfl, fun W hW => by go_simp⟩) hS0 ?_
            try simp only [Act.put, List.setIfInBounds_toArray, List.set_cons_zero, List.set_cons_succ]
            refine wpAnyH_take (i := 7) (oi := ⟨some 43, _, _, _, _, _⟩) (v := .int .i64 i) rfl (by kernel_rfl) (by kernel_rfl) (by kernel_rfl) (fun _ _ _ h => h) (.inl ⟨by rfl, fun W hW => by go_simp⟩) hS0 ?_
            try simp only [Act.put, List.setIfInBounds_toArray, List.set_cons_zero, List.set_cons_succ]
            refine wpAnyH_take (i := 8) (oi := ⟨some 44, _, _, _, _, _⟩) (v := .pointer (some ⟨bb, off + i * 7, none⟩)) rfl (by kernel_rfl) (by kernel_rfl) (by kernel_rfl) (fun _ _ _ h => h) (.inl ⟨by rfl, fun W hW => by go_simp⟩) hS0 ?_
            try simp only [Act.put, List.setIfInBounds_toArray, List.set_cons_zero, List.set_cons_succ]
            refine wpAnyH_take (i := 9) (oi := ⟨some 45, _, _, _, _, _⟩) (v := .agg (KA x)) rfl (by kernel_rfl) (by kernel_rfl) (by kernel_rfl) (fun _ _ _ h => h) (yields_cells (by rfl) 35 _ rfl ⟨bb, off + i * 7, none⟩ rfl (KA x) _ (fun W hW => hW.2) Try.underlying35 rfl (k_inf _)) hS0 ?_
            try simp only [Act.put, List.setIfInBounds_toArray, List.set_cons_zero, List.set_cons_succ]
            refine wpAnyH_take (i := 10) (oi := ⟨some 46, _, _, _, _, _⟩) (v := .bool q) rfl (by kernel_rfl) (by kernel_rfl) (by kernel_rfl) (fun _ _ _ h => h) (.inl ⟨by rfl, fun W hW => by have := heq W; unfold execOp; simp only []; go_simp⟩) hS0 ?_
            try simp only [Act.put, List.setIfInBounds_toArray, List.set_cons_zero, List.set_cons_succ]
            refine wpAnyH_take (i := 11) (oi := ⟨some 47, _, _, _, _, _⟩) (v := .bool q) rfl (by kernel_rfl) (by kernel_rfl) (by kernel_rfl) (fun _ _ _ h => h) (.inl ⟨by rfl, fun W hW => by go_simp⟩) hS0 ?_
            try simp only [Act.put, List.setIfInBounds_toArray, List.set_cons_zero, List.set_cons_succ]
            refine wpAnyH_take (i := 12) (oi := ⟨some 9, _, _, _, _, _⟩) (v := .bool q) rfl (by kernel_rfl) (by kernel_rfl) (by kernel_rfl) (fun _ _ _ h => h) (.inl ⟨by rfl, fun W hW => by go_simp⟩) hS0 ?_
            try simp only [Act.put, List.setIfInBounds_toArray, List.set_cons_zero, List.set_cons_succ]
            refine wpAnyH_done (by kernel_rfl) ?_ _
            try simp only [Act.put, List.setIfInBounds_toArray, List.set_cons_zero, List.set_cons_succ]
            go_wp2_with fail
            exact ⟨⟨k + 1, by first | rfl | go_num, by omega, by rw [HTK.out]; simp, bel_dr HBK.out⟩, by simp [intOf]; omega⟩
          · 
            refine wp_region_held_drew (S := fun W1 : World => (∀ j v, (KA y).toList[j]? = some v → W1.cell? ((⟨g2, off2 + k * 7, none⟩ : Addr).add j) = some v) ∧ (∀ j v, (KA x).toList[j]? = some v → W1.cell? ((⟨bb, off + i * 7, none⟩ : Addr).add j) = some v)) (by kernel_rfl) HS.out (fun hS0 => ?_)
            refine wpAnyH_take (i := 0) (oi := ⟨some 36, _, _, _, _, _⟩) (v := .bool true) rfl (by kernel_rfl) (by kernel_rfl) (by kernel_rfl) (fun _ _ _ h => h) (.inl ⟨by rfl, fun W hW => by go_simp⟩) hS0 ?_
            try simp only [Act.put, List.setIfInBounds_toArray, List.set_cons_zero, List.set_cons_succ]
            refine wpAnyH_take (i := 1) (oi := ⟨some 37, _, _, _, _, _⟩) (v := .bool true) rfl (by kernel_rfl) (by kernel_rfl) (by kernel_rfl) (fun _ _ _ h => h) (.inl ⟨by rfl, fun W hW => by go_simp⟩) hS0 ?_
            try simp only [Act.put, List.setIfInBounds_toArray, List.set_cons_zero, List.set_cons_succ]
            refine wpAnyH_take (i := 2) (oi := ⟨some 38, _, _, _, _, _⟩) (v := undef) rfl (by kernel_rfl) (by kernel_rfl) (by kernel_rfl) (fun _ _ _ h => h) (.inr ⟨by rfl, rfl⟩) hS0 ?_
            try simp only [Act.put, List.setIfInBounds_toArray, List.set_cons_zero, List.set_cons_succ]
            refine wpAnyH_take (i := 3) (oi := ⟨some 39, _, _, _, _, _⟩) (v := undef) rfl (by kernel_rfl) (by kernel_rfl) (by kernel_rfl) (fun _ _ _ h => h) (.inr ⟨by rfl, rfl⟩) hS0 ?_
            try simp only [Act.put, List.setIfInBounds_toArray, List.set_cons_zero, List.set_cons_succ]
            refine wpAnyH_take (i := 4) (oi := ⟨some 40, _, _, _, _, _⟩) (v := undef) rfl (by kernel_rfl) (by kernel_rfl) (by kernel_rfl) (fun _ _ _ h => h) (.inr ⟨by rfl, rfl⟩) hS0 ?_
            try simp only [Act.put, List.setIfInBounds_toArray, List.set_cons_zero, List.set_cons_succ]
            refine wpAnyH_take (i := 5) (oi := ⟨some 41, _, _, _, _, _⟩) (v := undef) rfl (by kernel_rfl) (by kernel_rfl) (by kernel_rfl) (fun _ _ _ h => h) (.inr ⟨by rfl, rfl⟩) hS0 ?_
            try simp only [Act.put, List.setIfInBounds_toArray, List.set_cons_zero, List.set_cons_succ]
            refine wpAnyH_take (i := 6) (oi := ⟨some 42, _, _, _, _, _⟩) (v := undef) rfl (by kernel_rfl) (by kernel_rfl) (by kernel_rfl) (fun _ _ _ h => h) (.inr ⟨by rfl, rfl⟩) hS0 ?_
            try simp only [Act.put, List.setIfInBounds_toArray, List.set_cons_zero, List.set_cons_succ]
            refine wpAnyH_take (i := 7) (oi := ⟨some 43, _, _, _, _, _⟩) (v := undef) rfl (by kernel_rfl) (by kernel_rfl) (by kernel_rfl) (fun _ _ _ h => h) (.inr ⟨by rfl, rfl⟩) hS0 ?_
            try simp only [Act.put, List.setIfInBounds_toArray, List.set_cons_zero, List.set_cons_succ]
            refine wpAnyH_take (i := 8) (oi := ⟨some 44, _, _, _, _, _⟩) (v := undef) rfl (by kernel_rfl) (by kernel_rfl) (by kernel_rfl) (fun _ _ _ h => h) (.inr ⟨by rfl, rfl⟩) hS0 ?_
            try simp only [Act.put, List.setIfInBounds_toArray, List.set_cons_zero, List.set_cons_succ]
            refine wpAnyH_take (i := 9) (oi := ⟨some 45, _, _, _, _, _⟩) (v := undef) rfl (by kernel_rfl) (by kernel_rfl) (by kernel_rfl) (fun _ _ _ h => h) (.inr ⟨by rfl, rfl⟩) hS0 ?_
            try simp only [Act.put, List.setIfInBounds_toArray, List.set_cons_zero, List.set_cons_succ]
            refine wpAnyH_take (i := 10) (oi := ⟨some 46, _, _, _, _, _⟩) (v := undef) rfl (by kernel_rfl) (by kernel_rfl) (by kernel_rfl) (fun _ _ _ h => h) (.inr ⟨by rfl, rfl⟩) hS0 ?_
            try simp only [Act.put, List.setIfInBounds_toArray, List.set_cons_zero, List.set_cons_succ]
            refine wpAnyH_take (i := 11) (oi := ⟨some 47, _, _, _, _, _⟩) (v := .bool true) rfl (by kernel_rfl) (by kernel_rfl) (by kernel_rfl) (fun _ _ _ h => h) (.inl ⟨by rfl, fun W hW => by go_simp⟩) hS0 ?_
            try simp only [Act.put, List.setIfInBounds_toArray, List.set_cons_zero, List.set_cons_succ]
            refine wpAnyH_take (i := 12) (oi := ⟨some 9, _, _, _, _, _⟩) (v := .bool true) rfl (by kernel_rfl) (by kernel_rfl) (by kernel_rfl) (fun _ _ _ h => h) (.inl ⟨by rfl, fun W hW => by go_simp⟩) hS0 ?_
            try simp only [Act.put, List.setIfInBounds_toArray, List.set_cons_zero, List.set_cons_succ]
            refine wpAnyH_done (by kernel_rfl) ?_ _
            try simp only [Act.put, List.setIfInBounds_toArray, List.set_cons_zero, List.set_cons_succ]
            go_wp2_with fail
            exact ⟨⟨k + 1, by first | rfl | go_num, by omega, by rw [HTK.out]; simp, bel_dr HBK.out⟩, by simp [intOf]; omega⟩
        · have hkI : ¬ (k : Int) < (tn : Int) := by omega
          have hkn : k = tn := by omega
          have e0 : (T.take k).contains x = T.contains x := by rw [List.take_of_length_le (by rw [← HTN.out]; omega)]
          rw [e0]
          clear e0
          have HT2 := Lib.hid (HT.out.1.below HBK.out)
          have HSM2 := Lib.hid (HSM.out.keep HBK.out)
          obtain ⟨me, hme⟩ : ∃ me, me = T.contains x := ⟨_, rfl⟩
          rw [← hme]
          have HME := Lib.hid hme
          have HTL := Lib.hid HT.out.2
          clear hme hkt hkn HSM HT HBK
          cases me
          · 
            go_upto_region 13 with fail
            have HWB := Lib.hid (bel_via HB2.out HT2.out.bel)
            have HWC := Lib.hid (kb HT2.out.bel HC2.out)
            have cM := fun (W : World) (b : Below wr.heap.size wr W) => make_any c inn x A2 tn c2 T (hc.keep (bel_via HWB.out b)) hkx (HSM2.out.keep b) HT2.out.ok (by omega)
            have cR := fun (W : World) (b : Below wr.heap.size wr W) => rmake_any c inn x A2 tn c2 T (hc.keep (bel_via HWB.out b)) hkx (HSM2.out.keep b)
            unfold MPost at cM cR
            have hmc := make_cases c inn x T
            have hmk := fun r => make_ky (c := c) (inn := inn) (k := x) (r := r) (tk := T) hc hkx
            obtain ⟨p, hp⟩ : ∃ p, p = (makeP c inn x T).1 := ⟨_, rfl⟩
            obtain ⟨m, hm⟩ : ∃ m, m = (makeP c inn x T).2 := ⟨_, rfl⟩
            rw [← hp, ← hm] at cM cR hmc
            have HMC := Lib.hid hmc
            have HMK : Hid (∀ r, m = 0 → p = pO c x r (turnK r) → KyOk r) := Lib.hid (fun r a b => by rw [hm] at a; rw [hp] at b; exact hmk r a b)
            clear hp hm hmc hmk
            go_cut [11, 12] from 49 to 59 (fun v11 v12 wx => ∃ gP, v11 = .pointer (some ⟨gP, 0, none⟩) ∧ v12 = .int .i64 m ∧ wx.heap[gP]? = some (.cells (PA p) 38 (0, 0)) ∧ Below wr.heap.size wr wx)
            case first =>
              refine wp_region_held_drew (S := fun W1 : World => W1.heap[gc]? = some (.cells (cfc c) 30 (0, 0)) ∧ Below wr.heap.size wr W1) (by kernel_rfl) ⟨HWC.out, bel_dr (Below.refl _ _)⟩ (fun hS0 => ?_)
              obtain ⟨wd0, hwd⟩ : ∃ x, x = wr.drew := ⟨_, rfl⟩
              rw [← hwd] at hS0 ⊢
              clear hwd
              refine wpAnyH_take (i := 0) (oi := ⟨some 50, _, _, _, _, _⟩) (v := .agg (cfc c)) rfl (by kernel_rfl) (by kernel_rfl) (by kernel_rfl) (fun _ _ _ h => h) (yields_cells (by rfl) 30 _ rfl ⟨gc, 0, none⟩ rfl (cfc c) _ (fun W hW => blk_all hW.1) Try.underlying30 rfl (c_inf _)) hS0 ?_
              try simp only [Act.put, List.setIfInBounds_toArray, List.set_cons_zero, List.set_cons_succ]
              refine wpAnyH_take (i := 1) (oi := ⟨some 51, _, _, _, _, _⟩) (v := .int .i64 inn) rfl (by kernel_rfl) (by kernel_rfl) (by kernel_rfl) (fun _ _ _ h => h) (.inl ⟨by rfl, fun W hW => by go_simp⟩) hS0 ?_
              try simp only [Act.put, List.setIfInBounds_toArray, List.set_cons_zero, List.set_cons_succ]
              refine wpAnyH_take (i := 2) (oi := ⟨some 52, _, _, _, _, _⟩) (v := .slice (some ⟨bb, off, none⟩) n cap) rfl (by kernel_rfl) (by kernel_rfl) (by kernel_rfl) (fun _ _ _ h => h) (.inl ⟨by rfl, fun W hW => by go_simp⟩) hS0 ?_
              try simp only [Act.put, List.setIfInBounds_toArray, List.set_cons_zero, List.set_cons_succ]
              refine wpAnyH_take (i := 3) (oi := ⟨some 53, _, _, _, _, _⟩) (v := .int .i64 i) rfl (by kernel_rfl) (by kernel_rfl) (by kernel_rfl) (fun _ _ _ h => h) (.inl ⟨by rfl, fun W hW => by go_simp⟩) hS0 ?_
              try simp only [Act.put, List.setIfInBounds_toArray, List.set_cons_zero, List.set_cons_succ]
              refine wpAnyH_take (i := 4) (oi := ⟨some 54, _, _, _, _, _⟩) (v := .pointer (some ⟨bb, off + i * 7, none⟩)) rfl (by kernel_rfl) (by kernel_rfl) (by kernel_rfl) (fun _ _ _ h => h) (.inl ⟨by rfl, fun W hW => by go_simp⟩) hS0 ?_
              try simp only [Act.put, List.setIfInBounds_toArray, List.set_cons_zero, List.set_cons_succ]
              refine wpAnyH_take (i := 5) (oi := ⟨some 55, _, _, _, _, _⟩) (v := .agg (KA x)) rfl (by kernel_rfl) (by kernel_rfl) (by kernel_rfl) (fun _ _ _ h => h) (yields_cells (by rfl) 35 _ rfl ⟨bb, off + i * 7, none⟩ rfl (KA x) _ (fun W hW => HROW.out W (bel_via HWB.out hW.2)) Try.underlying35 rfl (k_inf _)) hS0 ?_
              try simp only [Act.put, List.setIfInBounds_toArray, List.set_cons_zero, List.set_cons_succ]
              refine wpAnyH_take (i := 6) (oi := ⟨some 56, _, _, _, _, _⟩) (v := .slice A2 tn c2) rfl (by kernel_rfl) (by kernel_rfl) (by kernel_rfl) (fun _ _ _ h => h) (.inl ⟨by rfl, fun W hW => by go_simp⟩) hS0 ?_
              try simp only [Act.put, List.setIfInBounds_toArray, List.set_cons_zero, List.set_cons_succ]
              refine wpAnyH_ready (rs := [7, 11]) (by kernel_rfl) (by simp) ?_
              refine AllReadyH.cons (o := ⟨some 57, _, _, _, _, _⟩) rfl (fun K hK => ?_) (AllReadyH.cons (o := ⟨some 11, _, _, _, _, _⟩) rfl (fun K hK => ?_) AllReadyH.nil)
              · go_simp
                go_at_call 11
                ((with_reducible refine (cM _ hS0.2).mono ?_); rintro e wd1 ⟨rfl, bT⟩)
                have hS1 := And.intro (kb bT hS0.1) (bel_via hS0.2 bT)
                refine hK.out _ _ hS1 (fun _ => ?_)
                clear hK K
                try simp only [Act.put, List.setIfInBounds_toArray, List.set_cons_zero, List.set_cons_succ]
                refine wpAnyH_take (i := 8) (oi := ⟨some 49, _, _, _, _, _⟩) (v := .tuple #[.agg (PA p), .int .i64 m]) rfl (by kernel_rfl) (by kernel_rfl) (by kernel_rfl) (fun _ _ _ h => h) (.inl ⟨by rfl, fun W hW => by go_simp⟩) hS1 ?_
                try simp only [Act.put, List.setIfInBounds_toArray, List.set_cons_zero, List.set_cons_succ]
                refine wpAnyH_take (i := 9) (oi := ⟨some 58, _, _, _, _, _⟩) (v := .agg (PA p)) rfl (by kernel_rfl) (by kernel_rfl) (by kernel_rfl) (fun _ _ _ h => h) (.inl ⟨by rfl, fun W hW => by go_simp⟩) hS1 ?_
                try simp only [Act.put, List.setIfInBounds_toArray, List.set_cons_zero, List.set_cons_succ]
                refine wpAnyH_take (i := 10) (oi := ⟨some 59, _, _, _, _, _⟩) (v := .int .i64 m) rfl (by kernel_rfl) (by kernel_rfl) (by kernel_rfl) (fun _ _ _ h => h) (.inl ⟨by rfl, fun W hW => by go_simp⟩) hS1 ?_
                try simp only [Act.put, List.setIfInBounds_toArray, List.set_cons_zero, List.set_cons_succ]
                refine wpAnyH_ready (rs := [11]) (by kernel_rfl) (by simp) ?_
                refine AllReadyH.cons (o := ⟨some 11, _, _, _, _, _⟩) rfl (fun K hK => ?_) AllReadyH.nil
                refine step_alloc rfl 38 rfl (PA zP) zeroPlan (fun wd2 gP hV bA hgA => ?_)
                have hS2 := And.intro (kb bA hS1.1) (bel_via hS1.2 bA)
                have hgP1 : wr.heap.size ≤ gP := Nat.le_trans hS1.2.size hgA
                refine hK.out _ _ hS2 (fun _ => ?_)
                clear hK K
                try simp only [Act.put, List.setIfInBounds_toArray, List.set_cons_zero, List.set_cons_succ]
                refine wpAnyH_ready (rs := [12]) (by kernel_rfl) (by simp) ?_
                refine AllReadyH.cons (o := ⟨none, _, _, _, _, _⟩) rfl (fun K hK => ?_) AllReadyH.nil
                refine step_store_mid rfl 38 (.tmp 11) (.tmp 58) rfl gP 0 (PA p) rfl rfl (there_of hV (o := 0) (n := 37) (by simp [PA])) (p_inf _) (p_one _) ?_
                have hqw := setCells_heap (PA p).toList 0 hV
                have hqe : (List.foldl (fun (a : Array Value × Nat) v => (a.1.setIfInBounds a.2 v, a.2 + 1)) (PA zP, 0) (PA p).toList).1 = PA p := by kernel_rfl
                rw [hqe] at hqw
                have ho := (setCells_off (PA p).toList 0 wd2 gP)
                have bz := hS2.2.trans (ho.toBelow hgP1 hS2.2.size)
                have hcz := (ho.block _ (blk_lt hS2.1) (fun e => by have := blk_lt HWC.out; omega)).trans hS2.1
                obtain ⟨wz, hwz⟩ : ∃ x, x = wd2.setCells gP 0 (PA p).toList := ⟨_, rfl⟩
                rw [← hwz] at hqw bz hcz ⊢
                clear hwz
                refine hK.out _ _ (And.intro hcz bz) (fun _ => ?_)
                clear hK K
                try simp only [Act.put, List.setIfInBounds_toArray, List.set_cons_zero, List.set_cons_succ]
                refine wpAnyH_take (i := 13) (oi := ⟨some 12, _, _, _, _, _⟩) (v := .int .i64 m) rfl (by kernel_rfl) (by kernel_rfl) (by kernel_rfl) (fun _ _ _ h => h) (.inl ⟨by rfl, fun W hW => by go_simp⟩) (And.intro hcz bz) ?_
                try simp only [Act.put, List.setIfInBounds_toArray, List.set_cons_zero, List.set_cons_succ]
                refine wpAnyH_done (by kernel_rfl) ?_ _
                try simp only [Act.put, List.setIfInBounds_toArray, List.set_cons_zero, List.set_cons_succ]
                go_wp2_with fail
                go_meet
                exact ⟨gP, rfl, rfl, hqw, bz⟩
              · refine step_alloc rfl 38 rfl (PA zP) zeroPlan (fun wd1 gP hV bA hgA => ?_)
                have hS1 := And.intro (kb bA hS0.1) (bel_via hS0.2 bA)
                have hgP1 : wr.heap.size ≤ gP := Nat.le_trans hS0.2.size hgA
                refine hK.out _ _ hS1 (fun _ => ?_)
                clear hK K
                try simp only [Act.put, List.setIfInBounds_toArray, List.set_cons_zero, List.set_cons_succ]
                refine wpAnyH_ready (rs := [7]) (by kernel_rfl) (by simp) ?_
                refine AllReadyH.cons (o := ⟨some 57, _, _, _, _, _⟩) rfl (fun K hK => ?_) AllReadyH.nil
                go_simp
                go_at_call 11
                ((with_reducible refine (cM _ hS1.2).mono ?_); rintro e wd2 ⟨rfl, bT⟩)
                have hS2 := And.intro (kb bT hS1.1) (bel_via hS1.2 bT)
                have hV := kb bT hV
                refine hK.out _ _ hS2 (fun _ => ?_)
                clear hK K
                try simp only [Act.put, List.setIfInBounds_toArray, List.set_cons_zero, List.set_cons_succ]
                refine wpAnyH_take (i := 8) (oi := ⟨some 49, _, _, _, _, _⟩) (v := .tuple #[.agg (PA p), .int .i64 m]) rfl (by kernel_rfl) (by kernel_rfl) (by kernel_rfl) (fun _ _ _ h => h) (.inl ⟨by rfl, fun W hW => by go_simp⟩) hS2 ?_
                try simp only [Act.put, List.setIfInBounds_toArray, List.set_cons_zero, List.set_cons_succ]
                refine wpAnyH_take (i := 9) (oi := ⟨some 58, _, _, _, _, _⟩) (v := .agg (PA p)) rfl (by kernel_rfl) (by kernel_rfl) (by kernel_rfl) (fun _ _ _ h => h) (.inl ⟨by rfl, fun W hW => by go_simp⟩) hS2 ?_
                try simp only [Act.put, List.setIfInBounds_toArray, List.set_cons_zero, List.set_cons_succ]
                refine wpAnyH_take (i := 10) (oi := ⟨some 59, _, _, _, _, _⟩) (v := .int .i64 m) rfl (by kernel_rfl) (by kernel_rfl) (by kernel_rfl) (fun _ _ _ h => h) (.inl ⟨by rfl, fun W hW => by go_simp⟩) hS2 ?_
                try simp only [Act.put, List.setIfInBounds_toArray, List.set_cons_zero, List.set_cons_succ]
                refine wpAnyH_ready (rs := [12]) (by kernel_rfl) (by simp) ?_
                refine AllReadyH.cons (o := ⟨none, _, _, _, _, _⟩) rfl (fun K hK => ?_) AllReadyH.nil
                refine step_store_mid rfl 38 (.tmp 11) (.tmp 58) rfl gP 0 (PA p) rfl rfl (there_of hV (o := 0) (n := 37) (by simp [PA])) (p_inf _) (p_one _) ?_
                have hqw := setCells_heap (PA p).toList 0 hV
                have hqe : (List.foldl (fun (a : Array Value × Nat) v => (a.1.setIfInBounds a.2 v, a.2 + 1)) (PA zP, 0) (PA p).toList).1 = PA p := by kernel_rfl
                rw [hqe] at hqw
                have ho := (setCells_off (PA p).toList 0 wd2 gP)
                have bz := hS2.2.trans (ho.toBelow hgP1 hS2.2.size)
                have hcz := (ho.block _ (blk_lt hS2.1) (fun e => by have := blk_lt HWC.out; omega)).trans hS2.1
                obtain ⟨wz, hwz⟩ : ∃ x, x = wd2.setCells gP 0 (PA p).toList := ⟨_, rfl⟩
                rw [← hwz] at hqw bz hcz ⊢
                clear hwz
                refine hK.out _ _ (And.intro hcz bz) (fun _ => ?_)
                clear hK K
                try simp only [Act.put, List.setIfInBounds_toArray, List.set_cons_zero, List.set_cons_succ]
                refine wpAnyH_take (i := 13) (oi := ⟨some 12, _, _, _, _, _⟩) (v := .int .i64 m) rfl (by kernel_rfl) (by kernel_rfl) (by kernel_rfl) (fun _ _ _ h => h) (.inl ⟨by rfl, fun W hW => by go_simp⟩) (And.intro hcz bz) ?_
                try simp only [Act.put, List.setIfInBounds_toArray, List.set_cons_zero, List.set_cons_succ]
                refine wpAnyH_done (by kernel_rfl) ?_ _
                try simp only [Act.put, List.setIfInBounds_toArray, List.set_cons_zero, List.set_cons_succ]
                go_wp2_with fail
                go_meet
                exact ⟨gP, rfl, rfl, hqw, bz⟩

            case rest =>
            obtain ⟨gP, rfl, rfl, hP, bx⟩ := hcut
            obtain ⟨wp, hwp⟩ : ∃ x, x = wc := ⟨_, rfl⟩
            rw [← hwp] at hP bx ⊢
            clear hwp
            have HPB := Lib.hid (bel_via HWB.out bx)
            have HPC := Lib.hid (kb bx HWC.out)
            have HP := Lib.hid hP
            have HPX := Lib.hid bx
            have cR2 := fun (W : World) (b : Below wp.heap.size wp W) => cR W (bel_via HPX.out b)
            clear hP bx cM cR
            go_upto_region 14 with fail
            go_cut [13, 14] from 60 to 70 (fun v13 v14 wx => ∃ gR, v13 = .pointer (some ⟨gR, 0, none⟩) ∧ v14 = .int .i64 m ∧ wx.heap[gR]? = some (.cells (PA p) 54 (0, 0)) ∧ Below wp.heap.size wp wx)
            case first =>
              refine wp_region_held_drew (S := fun W1 : World => W1.heap[gc]? = some (.cells (cfc c) 30 (0, 0)) ∧ Below wp.heap.size wp W1) (by kernel_rfl) ⟨HPC.out, bel_dr (Below.refl _ _)⟩ (fun hS0 => ?_)
              obtain ⟨wd0, hwd⟩ : ∃ x, x = wp.drew := ⟨_, rfl⟩
              rw [← hwd] at hS0 ⊢
              clear hwd
              refine wpAnyH_take (i := 0) (oi := ⟨some 61, _, _, _, _, _⟩) (v := .agg (cfc c)) rfl (by kernel_rfl) (by kernel_rfl) (by kernel_rfl) (fun _ _ _ h => h) (yields_cells (by rfl) 30 _ rfl ⟨gc, 0, none⟩ rfl (cfc c) _ (fun W hW => blk_all hW.1) Try.underlying30 rfl (c_inf _)) hS0 ?_
              try simp only [Act.put, List.setIfInBounds_toArray, List.set_cons_zero, List.set_cons_succ]
              refine wpAnyH_take (i := 1) (oi := ⟨some 62, _, _, _, _, _⟩) (v := .int .i64 inn) rfl (by kernel_rfl) (by kernel_rfl) (by kernel_rfl) (fun _ _ _ h => h) (.inl ⟨by rfl, fun W hW => by go_simp⟩) hS0 ?_
              try simp only [Act.put, List.setIfInBounds_toArray, List.set_cons_zero, List.set_cons_succ]
              refine wpAnyH_take (i := 2) (oi := ⟨some 63, _, _, _, _, _⟩) (v := .slice (some ⟨bb, off, none⟩) n cap) rfl (by kernel_rfl) (by kernel_rfl) (by kernel_rfl) (fun _ _ _ h => h) (.inl ⟨by rfl, fun W hW => by go_simp⟩) hS0 ?_
              try simp only [Act.put, List.setIfInBounds_toArray, List.set_cons_zero, List.set_cons_succ]
              refine wpAnyH_take (i := 3) (oi := ⟨some 64, _, _, _, _, _⟩) (v := .int .i64 i) rfl (by kernel_rfl) (by kernel_rfl) (by kernel_rfl) (fun _ _ _ h => h) (.inl ⟨by rfl, fun W hW => by go_simp⟩) hS0 ?_
              try simp only [Act.put, List.setIfInBounds_toArray, List.set_cons_zero, List.set_cons_succ]
              refine wpAnyH_take (i := 4) (oi := ⟨some 65, _, _, _, _, _⟩) (v := .pointer (some ⟨bb, off + i * 7, none⟩)) rfl (by kernel_rfl) (by kernel_rfl) (by kernel_rfl) (fun _ _ _ h => h) (.inl ⟨by rfl, fun W hW => by go_simp⟩) hS0 ?_
              try simp only [Act.put, List.setIfInBounds_toArray, List.set_cons_zero, List.set_cons_succ]
              refine wpAnyH_take (i := 5) (oi := ⟨some 66, _, _, _, _, _⟩) (v := .agg (KA x)) rfl (by kernel_rfl) (by kernel_rfl) (by kernel_rfl) (fun _ _ _ h => h) (yields_cells (by rfl) 35 _ rfl ⟨bb, off + i * 7, none⟩ rfl (KA x) _ (fun W hW => HROW.out W (bel_via HPB.out hW.2)) Try.underlying35 rfl (k_inf _)) hS0 ?_
              try simp only [Act.put, List.setIfInBounds_toArray, List.set_cons_zero, List.set_cons_succ]
              refine wpAnyH_take (i := 6) (oi := ⟨some 67, _, _, _, _, _⟩) (v := .slice A2 tn c2) rfl (by kernel_rfl) (by kernel_rfl) (by kernel_rfl) (fun _ _ _ h => h) (.inl ⟨by rfl, fun W hW => by go_simp⟩) hS0 ?_
              try simp only [Act.put, List.setIfInBounds_toArray, List.set_cons_zero, List.set_cons_succ]
              refine wpAnyH_ready (rs := [7, 11]) (by kernel_rfl) (by simp) ?_
              refine AllReadyH.cons (o := ⟨some 68, _, _, _, _, _⟩) rfl (fun K hK => ?_) (AllReadyH.cons (o := ⟨some 13, _, _, _, _, _⟩) rfl (fun K hK => ?_) AllReadyH.nil)
              · go_simp
                go_at_call 14
                ((with_reducible refine (cR2 _ hS0.2).mono ?_); rintro e wd1 ⟨rfl, bT⟩)
                have hS1 := And.intro (kb bT hS0.1) (bel_via hS0.2 bT)
                refine hK.out _ _ hS1 (fun _ => ?_)
                clear hK K
                try simp only [Act.put, List.setIfInBounds_toArray, List.set_cons_zero, List.set_cons_succ]
                refine wpAnyH_take (i := 8) (oi := ⟨some 60, _, _, _, _, _⟩) (v := .tuple #[.agg (PA p), .int .i64 m]) rfl (by kernel_rfl) (by kernel_rfl) (by kernel_rfl) (fun _ _ _ h => h) (.inl ⟨by rfl, fun W hW => by go_simp⟩) hS1 ?_
                try simp only [Act.put, List.setIfInBounds_toArray, List.set_cons_zero, List.set_cons_succ]
                refine wpAnyH_take (i := 9) (oi := ⟨some 69, _, _, _, _, _⟩) (v := .agg (PA p)) rfl (by kernel_rfl) (by kernel_rfl) (by kernel_rfl) (fun _ _ _ h => h) (.inl ⟨by rfl, fun W hW => by go_simp⟩) hS1 ?_
                try simp only [Act.put, List.setIfInBounds_toArray, List.set_cons_zero, List.set_cons_succ]
                refine wpAnyH_take (i := 10) (oi := ⟨some 70, _, _, _, _, _⟩) (v := .int .i64 m) rfl (by kernel_rfl) (by kernel_rfl) (by kernel_rfl) (fun _ _ _ h => h) (.inl ⟨by rfl, fun W hW => by go_simp⟩) hS1 ?_
                try simp only [Act.put, List.setIfInBounds_toArray, List.set_cons_zero, List.set_cons_succ]
                refine wpAnyH_ready (rs := [11]) (by kernel_rfl) (by simp) ?_
                refine AllReadyH.cons (o := ⟨some 13, _, _, _, _, _⟩) rfl (fun K hK => ?_) AllReadyH.nil
                refine step_alloc rfl 54 rfl (PA zP) zeroR (fun wd2 gR hV bA hgA => ?_)
                have hS2 := And.intro (kb bA hS1.1) (bel_via hS1.2 bA)
                have hgP1 : wp.heap.size ≤ gR := Nat.le_trans hS1.2.size hgA
                refine hK.out _ _ hS2 (fun _ => ?_)
                clear hK K
                try simp only [Act.put, List.setIfInBounds_toArray, List.set_cons_zero, List.set_cons_succ]
                refine wpAnyH_ready (rs := [12]) (by kernel_rfl) (by simp) ?_
                refine AllReadyH.cons (o := ⟨none, _, _, _, _, _⟩) rfl (fun K hK => ?_) AllReadyH.nil
                refine step_store_mid rfl 54 (.tmp 13) (.tmp 69) rfl gR 0 (PA p) rfl rfl (there_of hV (o := 0) (n := 37) (by simp [PA])) (rp_inf _) (p_one _) ?_
                have hqw := setCells_heap (PA p).toList 0 hV
                have hqe : (List.foldl (fun (a : Array Value × Nat) v => (a.1.setIfInBounds a.2 v, a.2 + 1)) (PA zP, 0) (PA p).toList).1 = PA p := by kernel_rfl
                rw [hqe] at hqw
                have ho := (setCells_off (PA p).toList 0 wd2 gR)
                have bz := hS2.2.trans (ho.toBelow hgP1 hS2.2.size)
                have hcz := (ho.block _ (blk_lt hS2.1) (fun e => by have := blk_lt HPC.out; omega)).trans hS2.1
                obtain ⟨wz, hwz⟩ : ∃ x, x = wd2.setCells gR 0 (PA p).toList := ⟨_, rfl⟩
                rw [← hwz] at hqw bz hcz ⊢
                clear hwz
                refine hK.out _ _ (And.intro hcz bz) (fun _ => ?_)
                clear hK K
                try simp only [Act.put, List.setIfInBounds_toArray, List.set_cons_zero, List.set_cons_succ]
                refine wpAnyH_take (i := 13) (oi := ⟨some 14, _, _, _, _, _⟩) (v := .int .i64 m) rfl (by kernel_rfl) (by kernel_rfl) (by kernel_rfl) (fun _ _ _ h => h) (.inl ⟨by rfl, fun W hW => by go_simp⟩) (And.intro hcz bz) ?_
                try simp only [Act.put, List.setIfInBounds_toArray, List.set_cons_zero, List.set_cons_succ]
                refine wpAnyH_done (by kernel_rfl) ?_ _
                try simp only [Act.put, List.setIfInBounds_toArray, List.set_cons_zero, List.set_cons_succ]
                go_wp2_with fail
                go_meet
                exact ⟨gR, rfl, rfl, hqw, bz⟩
              · refine step_alloc rfl 54 rfl (PA zP) zeroR (fun wd1 gR hV bA hgA => ?_)
                have hS1 := And.intro (kb bA hS0.1) (bel_via hS0.2 bA)
                have hgP1 : wp.heap.size ≤ gR := Nat.le_trans hS0.2.size hgA
                refine hK.out _ _ hS1 (fun _ => ?_)
                clear hK K
                try simp only [Act.put, List.setIfInBounds_toArray, List.set_cons_zero, List.set_cons_succ]
                refine wpAnyH_ready (rs := [7]) (by kernel_rfl) (by simp) ?_
                refine AllReadyH.cons (o := ⟨some 68, _, _, _, _, _⟩) rfl (fun K hK => ?_) AllReadyH.nil
                go_simp
                go_at_call 14
                ((with_reducible refine (cR2 _ hS1.2).mono ?_); rintro e wd2 ⟨rfl, bT⟩)
                have hS2 := And.intro (kb bT hS1.1) (bel_via hS1.2 bT)
                have hV := kb bT hV
                refine hK.out _ _ hS2 (fun _ => ?_)
                clear hK K
                try simp only [Act.put, List.setIfInBounds_toArray, List.set_cons_zero, List.set_cons_succ]
                refine wpAnyH_take (i := 8) (oi := ⟨some 60, _, _, _, _, _⟩) (v := .tuple #[.agg (PA p), .int .i64 m]) rfl (by kernel_rfl) (by kernel_rfl) (by kernel_rfl) (fun _ _ _ h => h) (.inl ⟨by rfl, fun W hW => by go_simp⟩) hS2 ?_
                try simp only [Act.put, List.setIfInBounds_toArray, List.set_cons_zero, List.set_cons_succ]
                refine wpAnyH_take (i := 9) (oi := ⟨some 69, _, _, _, _, _⟩) (v := .agg (PA p)) rfl (by kernel_rfl) (by kernel_rfl) (by kernel_rfl) (fun _ _ _ h => h) (.inl ⟨by rfl, fun W hW => by go_simp⟩) hS2 ?_
                try simp only [Act.put, List.setIfInBounds_toArray, List.set_cons_zero, List.set_cons_succ]
                refine wpAnyH_take (i := 10) (oi := ⟨some 70, _, _, _, _, _⟩) (v := .int .i64 m) rfl (by kernel_rfl) (by kernel_rfl) (by kernel_rfl) (fun _ _ _ h => h) (.inl ⟨by rfl, fun W hW => by go_simp⟩) hS2 ?_
                try simp only [Act.put, List.setIfInBounds_toArray, List.set_cons_zero, List.set_cons_succ]
                refine wpAnyH_ready (rs := [12]) (by kernel_rfl) (by simp) ?_
                refine AllReadyH.cons (o := ⟨none, _, _, _, _, _⟩) rfl (fun K hK => ?_) AllReadyH.nil
                refine step_store_mid rfl 54 (.tmp 13) (.tmp 69) rfl gR 0 (PA p) rfl rfl (there_of hV (o := 0) (n := 37) (by simp [PA])) (rp_inf _) (p_one _) ?_
                have hqw := setCells_heap (PA p).toList 0 hV
                have hqe : (List.foldl (fun (a : Array Value × Nat) v => (a.1.setIfInBounds a.2 v, a.2 + 1)) (PA zP, 0) (PA p).toList).1 = PA p := by kernel_rfl
                rw [hqe] at hqw
                have ho := (setCells_off (PA p).toList 0 wd2 gR)
                have bz := hS2.2.trans (ho.toBelow hgP1 hS2.2.size)
                have hcz := (ho.block _ (blk_lt hS2.1) (fun e => by have := blk_lt HPC.out; omega)).trans hS2.1
                obtain ⟨wz, hwz⟩ : ∃ x, x = wd2.setCells gR 0 (PA p).toList := ⟨_, rfl⟩
                rw [← hwz] at hqw bz hcz ⊢
                clear hwz
                refine hK.out _ _ (And.intro hcz bz) (fun _ => ?_)
                clear hK K
                try simp only [Act.put, List.setIfInBounds_toArray, List.set_cons_zero, List.set_cons_succ]
                refine wpAnyH_take (i := 13) (oi := ⟨some 14, _, _, _, _, _⟩) (v := .int .i64 m) rfl (by kernel_rfl) (by kernel_rfl) (by kernel_rfl) (fun _ _ _ h => h) (.inl ⟨by rfl, fun W hW => by go_simp⟩) (And.intro hcz bz) ?_
                try simp only [Act.put, List.setIfInBounds_toArray, List.set_cons_zero, List.set_cons_succ]
                refine wpAnyH_done (by kernel_rfl) ?_ _
                try simp only [Act.put, List.setIfInBounds_toArray, List.set_cons_zero, List.set_cons_succ]
                go_wp2_with fail
                go_meet
                exact ⟨gR, rfl, rfl, hqw, bz⟩

            case rest =>
            obtain ⟨gR, rfl, rfl, _, by2⟩ := hcut
            obtain ⟨wq, hwq⟩ : ∃ x, x = wc := ⟨_, rfl⟩
            rw [← hwq] at by2 ⊢
            clear hwq
            have HBQ := Lib.hid (bel_via HPX.out by2)
            have HPQ := Lib.hid (kb by2 HP.out)
            have HTQ := Lib.hid (HT2.out.below HBQ.out)
            have HSQ := Lib.hid (HSM2.out.keep HBQ.out)
            clear by2 cR2 HPB HPC HP HPX
            rcases HMC.out with ⟨hm, _⟩ | ⟨hm, r, hpr, hfr, _⟩
            · have hm2 : (m == 0) = false := by simp [hm]
              have HM := Lib.hid hm
              clear hm
              go_wp2_with fail
              exact ⟨⟨i + 1, by first | rfl | go_num, by omega, T, Lib.hid ⟨by have h := HTQ.out; rw [← HTN.out] at h; exact h, by have := HTL.out; omega⟩⟩, by simp [intOf]; omega⟩
            · have HKR := Lib.hid (HMK.out r hm hpr)
              subst hm hpr
              have HF := Lib.hid hfr
              clear hfr HMC HMK
              go_wp2_with fail
              go_loopw [15] (fun v15 wk => ∃ k : Nat, v15 = .int .i64 k ∧ k ≤ tn ∧ Below wq.heap.size wq wk) (fun v15 _ => tn - (intOf v15).toNat)
              case atStart => exact ⟨0, rfl, by omega, Below.refl _ _⟩
              case round =>
                obtain ⟨k, rfl, hk, hbk⟩ := hrel
                have HBK := Lib.hid hbk
                clear hbk
                by_cases hkt : k < tn
                · have hkI : (k : Int) < (tn : Int) := by omega
                  obtain ⟨g3, off3, hA3, hl3, hr3⟩ := HSQ.out.row (by omega)
                  obtain ⟨y, hy⟩ : ∃ y, T[k]? = some y := ⟨_, List.getElem?_eq_getElem (by rw [← HTN.out]; exact hkt)⟩
                  subst hA3
                  have hyT : y ∈ T := List.mem_of_getElem? hy
                  have e1 : (y == turnK r) = false := by
                    cases hb : (y == turnK r) with
                    | false => rfl
                    | true => exact absurd ((eq_of_beq hb) ▸ hyT) ((free_dec _ _ _).1 HF.out).1
                  have e2 : (y == x) = false := by
                    cases hb : (y == x) with
                    | false => rfl
                    | true =>
                      have h1 : y = x := eq_of_beq hb
                      have h2 : T.contains x = true := by rw [← h1]; simpa using hyT
                      rw [← HME.out] at h2
                      cases h2
                  have heq1 := fun W => eql_ky y (turnK r) W
                  have heq2 := fun W => eql_ky y x W
                  rw [e1] at heq1
                  rw [e2] at heq2
                  have HS : Hid ((∀ j v, (KA y).toList[j]? = some v → wr.drew.cell? ((⟨g3, off3 + k * 7, none⟩ : Addr).add j) = some v) ∧ wr.drew.heap[gP]? = some (.cells (PA (pO c x r (turnK r))) 38 (0, 0))) := Lib.hid ⟨fun j v hj => by
                    rw [addr_add]
                    exact keepc (bel_dr HBK.out) (hr3 k y hy j v hj), kb (bel_dr HBK.out) HPQ.out⟩
                  have hgw3 : g3 < wr.heap.size := Nat.lt_of_lt_of_le hl3 HBK.out.size
                  clear hr3 hy hyT e1 e2
                  go_upto_region 21 with fail
                  refine wp_region_held_drew (S := fun W1 : World => (∀ j v, (KA y).toList[j]? = some v → W1.cell? ((⟨g3, off3 + k * 7, none⟩ : Addr).add j) = some v) ∧ W1.heap[gP]? = some (.cells (PA (pO c x r (turnK r))) 38 (0, 0))) (by kernel_rfl) HS.out (fun hS0 => ?_)
                  refine wpAnyH_take (i := 0) (oi := ⟨some 82, _, _, _, _, _⟩) (v := .slice (some ⟨g3, off3, none⟩) tn c2) rfl (by kernel_rfl) (by kernel_rfl) (by kernel_rfl) (fun _ _ _ h => h) (.inl ⟨by rfl, fun W hW => by go_simp⟩) hS0 ?_
                  try simp only [Act.put, List.setIfInBounds_toArray, List.set_cons_zero, List.set_cons_succ]
                  refine wpAnyH_take (i := 1) (oi := ⟨some 83, _, _, _, _, _⟩) (v := .int .i64 k) rfl (by kernel_rfl) (by kernel_rfl) (by kernel_rfl) (fun _ _ _ h => h) (.inl ⟨by rfl, fun W hW => by go_simp⟩) hS0 ?_
                  try simp only [Act.put, List.setIfInBounds_toArray, List.set_cons_zero, List.set_cons_succ]
                  refine wpAnyH_take (i := 2) (oi := ⟨some 84, _, _, _, _, _⟩) (v := .pointer (some ⟨g3, off3 + k * 7, none⟩)) rfl (by kernel_rfl) (by kernel_rfl) (by kernel_rfl) (fun _ _ _ h => h) (.inl ⟨by rfl, fun W hW => by go_simp⟩) hS0 ?_
                  try simp only [Act.put, List.setIfInBounds_toArray, List.set_cons_zero, List.set_cons_succ]
                  refine wpAnyH_take (i := 3) (oi := ⟨some 85, _, _, _, _, _⟩) (v := .agg (KA y)) rfl (by kernel_rfl) (by kernel_rfl) (by kernel_rfl) (fun _ _ _ h => h) (yields_cells (by rfl) 35 _ rfl ⟨g3, off3 + k * 7, none⟩ rfl (KA y) _ (fun W hW => hW.1) Try.underlying35 rfl (k_inf _)) hS0 ?_
                  try simp only [Act.put, List.setIfInBounds_toArray, List.set_cons_zero, List.set_cons_succ]
                  refine wpAnyH_take (i := 4) (oi := ⟨some 86, _, _, _, _, _⟩) (v := .pointer (some ⟨gP, 21, none⟩)) rfl (by kernel_rfl) (by kernel_rfl) (by kernel_rfl) (fun _ _ _ h => h) (.inl ⟨by rfl, fun W hW => by go_simp⟩) hS0 ?_
                  try simp only [Act.put, List.setIfInBounds_toArray, List.set_cons_zero, List.set_cons_succ]
                  refine wpAnyH_take (i := 5) (oi := ⟨some 87, _, _, _, _, _⟩) (v := .agg (KA (turnK r))) rfl (by kernel_rfl) (by kernel_rfl) (by kernel_rfl) (fun _ _ _ h => h) (yields_cells (by rfl) 35 _ rfl ⟨gP, 21, none⟩ rfl (KA (turnK r)) _ (fun W hW => pl_ba2 hW.2) Try.underlying35 rfl (k_inf _)) hS0 ?_
                  try simp only [Act.put, List.setIfInBounds_toArray, List.set_cons_zero, List.set_cons_succ]
                  refine wpAnyH_take (i := 6) (oi := ⟨some 88, _, _, _, _, _⟩) (v := .bool false) rfl (by kernel_rfl) (by kernel_rfl) (by kernel_rfl) (fun _ _ _ h => h) (.inl ⟨by rfl, fun W hW => by have := heq1 W; unfold execOp; simp only []; go_simp⟩) hS0 ?_
                  try simp only [Act.put, List.setIfInBounds_toArray, List.set_cons_zero, List.set_cons_succ]
                  refine wpAnyH_take (i := 7) (oi := ⟨some 89, _, _, _, _, _⟩) (v := .bool false) rfl (by kernel_rfl) (by kernel_rfl) (by kernel_rfl) (fun _ _ _ h => h) (.inl ⟨by rfl, fun W hW => by go_simp⟩) hS0 ?_
                  try simp only [Act.put, List.setIfInBounds_toArray, List.set_cons_zero, List.set_cons_succ]
                  refine wpAnyH_take (i := 8) (oi := ⟨some 90, _, _, _, _, _⟩) (v := .slice (some ⟨g3, off3, none⟩) tn c2) rfl (by kernel_rfl) (by kernel_rfl) (by kernel_rfl) (fun _ _ _ h => h) (.inl ⟨by rfl, fun W hW => by go_simp⟩) hS0 ?_
                  try simp only [Act.put, List.setIfInBounds_toArray, List.set_cons_zero, List.set_cons_succ]
                  refine wpAnyH_take (i := 9) (oi := ⟨some 91, _, _, _, _, _⟩) (v := .int .i64 k) rfl (by kernel_rfl) (by kernel_rfl) (by kernel_rfl) (fun _ _ _ h => h) (.inl ⟨by rfl, fun W hW => by go_simp⟩) hS0 ?_
                  try simp only [Act.put, List.setIfInBounds_toArray, List.set_cons_zero, List.set_cons_succ]
                  refine wpAnyH_take (i := 10) (oi := ⟨some 92, _, _, _, _, _⟩) (v := .pointer (some ⟨g3, off3 + k * 7, none⟩)) rfl (by kernel_rfl) (by kernel_rfl) (by kernel_rfl) (fun _ _ _ h => h) (.inl ⟨by rfl, fun W hW => by go_simp⟩) hS0 ?_
                  try simp only [Act.put, List.setIfInBounds_toArray, List.set_cons_zero, List.set_cons_succ]
                  refine wpAnyH_take (i := 11) (oi := ⟨some 93, _, _, _, _, _⟩) (v := .agg (KA y)) rfl (by kernel_rfl) (by kernel_rfl) (by kernel_rfl) (fun _ _ _ h => h) (yields_cells (by rfl) 35 _ rfl ⟨g3, off3 + k * 7, none⟩ rfl (KA y) _ (fun W hW => hW.1) Try.underlying35 rfl (k_inf _)) hS0 ?_
                  try simp only [Act.put, List.setIfInBounds_toArray, List.set_cons_zero, List.set_cons_succ]
                  refine wpAnyH_take (i := 12) (oi := ⟨some 94, _, _, _, _, _⟩) (v := .pointer (some ⟨gP, 7, none⟩)) rfl (by kernel_rfl) (by kernel_rfl) (by kernel_rfl) (fun _ _ _ h => h) (.inl ⟨by rfl, fun W hW => by go_simp⟩) hS0 ?_
                  try simp only [Act.put, List.setIfInBounds_toArray, List.set_cons_zero, List.set_cons_succ]
                  refine wpAnyH_take (i := 13) (oi := ⟨some 95, _, _, _, _, _⟩) (v := .agg (KA x)) rfl (by kernel_rfl) (by kernel_rfl) (by kernel_rfl) (fun _ _ _ h => h) (yields_cells (by rfl) 35 _ rfl ⟨gP, 7, none⟩ rfl (KA x) _ (fun W hW => pl_op2 hW.2) Try.underlying35 rfl (k_inf _)) hS0 ?_
                  try simp only [Act.put, List.setIfInBounds_toArray, List.set_cons_zero, List.set_cons_succ]
                  refine wpAnyH_take (i := 14) (oi := ⟨some 96, _, _, _, _, _⟩) (v := .bool false) rfl (by kernel_rfl) (by kernel_rfl) (by kernel_rfl) (fun _ _ _ h => h) (.inl ⟨by rfl, fun W hW => by have := heq2 W; unfold execOp; simp only []; go_simp⟩) hS0 ?_
                  try simp only [Act.put, List.setIfInBounds_toArray, List.set_cons_zero, List.set_cons_succ]
                  refine wpAnyH_take (i := 15) (oi := ⟨some 97, _, _, _, _, _⟩) (v := .bool false) rfl (by kernel_rfl) (by kernel_rfl) (by kernel_rfl) (fun _ _ _ h => h) (.inl ⟨by rfl, fun W hW => by go_simp⟩) hS0 ?_
                  try simp only [Act.put, List.setIfInBounds_toArray, List.set_cons_zero, List.set_cons_succ]
                  refine wpAnyH_done (by kernel_rfl) ?_ _
                  try simp only [Act.put, List.setIfInBounds_toArray, List.set_cons_zero, List.set_cons_succ]
                  go_wp2_with fail
                  exact ⟨⟨k + 1, by first | rfl | go_num, by omega, bel_dr HBK.out⟩, by simp [intOf]; omega⟩
                · have hkI : ¬ (k : Int) < (tn : Int) := by omega
                  have hpq := kb HBK.out HPQ.out
                  have hts := HTQ.out.below HBK.out
                  obtain ⟨wy, hwy⟩ : ∃ x, x = wr := ⟨_, rfl⟩
                  rw [← hwy] at hpq hts ⊢
                  clear hwy HBK
                  have HTS := Lib.hid hts
                  clear hts
                  go_upto_region 23 with fail
                  have hownA := own_bel HTS.out.own (bel_al wy (.cells ((krc x ++ krc (turnK r)).toArray) 35))
                  rw [← HTN.out] at hownA
                  have hbsA : G ≤ (wy.alloc (.cells ((krc x ++ krc (turnK r)).toArray) 35)).heap.size := by
                    have := HTS.out.gw
                    rw [al_size]; omega
                  have hzA : Below w2.heap.size w2 (wy.alloc (.cells ((krc x ++ krc (turnK r)).toArray) 35)) := bel_via HTS.out.bel (bel_al wy _)
                  have h1 : Hid (∀ j u, (krc x ++ krc (turnK r))[j]? = some u → (wy.alloc (.cells ((krc x ++ krc (turnK r)).toArray) 35)).cell? ((⟨wy.heap.size, 0, none⟩ : Addr).add j) = some u) := Lib.hid (fun j u hj => blk_all (al_new rfl (.cells ((krc x ++ krc (turnK r)).toArray) 35)) j u hj)
                  have h2 : Hid (∀ u ∈ krc x ++ krc (turnK r), u.oneCell' = true) := Lib.hid (fun u hu => (List.mem_append.1 hu).elim (key_one x u) (key_one (turnK r) u))
                  have hb91 : (tn + 2) * 56 ≤ 140737488355328 := by omega
                  have h963 : tn + 2 ≤ maxLen := by unfold maxLen; omega
                  obtain ⟨iu, hiu, hu0, hu1, hu2⟩ := info_key
                  go_wp2_with (first | ((with_reducible refine stop_op (o := ⟨some 100, _, _, _, _, _⟩) ?_); refine Lib.hid ?_; refine wpList_load_cells rfl 35 (.tmp 99) rfl ⟨gP, 7, none⟩ rfl (KA x) _ (pl_op2 hpq) Try.underlying35 rfl (k_inf _) ?_) | ((with_reducible refine stop_op (o := ⟨some 102, _, _, _, _, _⟩) ?_); refine Lib.hid ?_; refine wpList_load_cells rfl 35 (.tmp 101) rfl ⟨gP, 21, none⟩ rfl (KA (turnK r)) _ (pl_ba2 hpq) Try.underlying35 rfl (k_inf _) ?_) | (refine wpList_bs2 rfl _ _ x (turnK r) rfl rfl rfl ?_) | (at_builtin; go_loud (refine wpList_append_own _ rfl _ _ 64 rfl G 35 iu (.agg (KA zK)) 7 56 Try.underlying64 hiu hu0 hu1 hu2 rfl (by decide) _ _ _ rfl hownA ⟨wy.heap.size, 0, none⟩ 2 2 (krc x ++ krc (turnK r)) rfl rfl h1.out h2.out h963 hb91 hbsA ?_)))
                  intro v10 w10 hown10 hg10 _
                  have b10 : Below w2.heap.size w2 w10 := hzA.grown hg10 (by omega) (fun q hq => Nat.le_trans hGw (own_gt hownA q hq))
                  have hgw10 : G ≤ w10.heap.size := Nat.le_trans hbsA hg10.size
                  have hokT := HTS.out.ok
                  have hlT := HTL.out
                  have HTF : Hid (TSt w2 w10 G v10 (T ++ [x, turnK r]) ∧ (T ++ [x, turnK r]).length ≤ 2 * (i + 1)) := Lib.hid ⟨⟨by
                    rw [show T.flatMap krc ++ (krc x ++ krc (turnK r)) = (T ++ [x, turnK r]).flatMap krc by simp, HTN.out] at hown10
                    rw [List.length_append]
                    exact hown10, b10, hgw10, fun y hy => by
                    rcases List.mem_append.1 hy with hy | hy
                    · exact hokT y hy
                    · simp only [List.mem_cons, List.not_mem_nil, or_false] at hy
                      rcases hy with rfl | rfl
                      · exact hkx
                      · exact ky_turn HKR.out⟩, by rw [List.length_append]; simp; omega⟩
                  clear hg10 hownA hbsA hzA h1 h2 hb91 h963 hown10 b10 hgw10 hokT hlT hiu hu0 hu1 hu2 HTS hpq
                  go_wp2_with fail
                  exact ⟨⟨i + 1, by first | rfl | go_num, by omega, T ++ [x, turnK r], HTF⟩, by simp [intOf]; omega⟩
          · go_wp2_with fail
            exact ⟨⟨i + 1, by first | rfl | go_num, by omega, T, Lib.hid ⟨by rw [← HTN.out] at *; exact HT2.out, by have := HTL.out; omega⟩⟩, by simp [intOf]; omega⟩
    · have hlti : ¬ (i : Int) < (n : Int) := by omega
      go_wp2
      go_ret
      exact ⟨rfl, bel_via HB2.out HT.out.1.bel⟩
end Go.Proofs.Ytokbmahnjmmcaaa
