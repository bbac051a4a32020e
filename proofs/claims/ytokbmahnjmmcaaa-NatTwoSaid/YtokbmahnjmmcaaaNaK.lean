/- NatMakes: the walk; by-name template (gen_na.py). -/
import Derived.Test.YtokbmahnjmmcaaaNaO
namespace Go.Proofs.Ytokbmahnjmmcaaa
open Go.RowKit Go.Lib Go.Maps Go.Shelf
set_option linter.unusedVariables false
set_option linter.unusedSimpArgs false

theorem Sl.cut {α : Type} {w : World} {k : Nat} {enc : α → List Value} {A : Option Addr} {n m : Nat} {l : List α} (h : Sl w k enc A n l) (hm : m ≤ n) : Sl w k enc A m (l.take m) :=
  ⟨by rw [List.length_take, h.len]; omega, by have := h.big; omega, fun hp => by
    obtain ⟨b, off, hA, hlt, hc⟩ := h.row (by omega)
    refine ⟨b, off, hA, hlt, fun j x hj i v hi => hc j x ?_ i v hi⟩
    rw [List.getElem?_take] at hj
    split at hj
    · exact hj
    · cases hj⟩
def rplFs : List Field := [{ name := "Judge", type := 35, offset := 0, embedded := false, tag := "", pkgPath := "", byteOffset := 0 }, { name := "Open", type := 35, offset := 7, embedded := false, tag := "", pkgPath := "", byteOffset := 56 }, { name := "Out", type := 35, offset := 14, embedded := false, tag := "", pkgPath := "", byteOffset := 112 }, { name := "Back", type := 35, offset := 21, embedded := false, tag := "", pkgPath := "", byteOffset := 168 }, { name := "Home", type := 35, offset := 28, embedded := false, tag := "", pkgPath := "", byteOffset := 224 }, { name := "Iface", type := 3, offset := 35, embedded := false, tag := "", pkgPath := "", byteOffset := 280 }, { name := "Zone", type := 3, offset := 36, embedded := false, tag := "", pkgPath := "", byteOffset := 288 }]
set_option maxRecDepth 100000 in
theorem eq_pl (d : Nat) (p : PN) (w : World) : (Op.equalIn (d + 4) 54 (.agg (PA p)) (.agg (PA p))).run Try.prog w = .ok true w := by
  obtain ⟨ju, op, ou, ba, ho, ifc, zo⟩ := p
  rw [run_equalIn_struct w (d + 3) 54 _ _ (by kernel_rfl) (by kernel_rfl)]
  rw [show (Try.prog.fieldsOf 54).toList = rplFs from by kernel_rfl]
  unfold rplFs
  rw [eqF_cons (by decide) (show _ = Result.ok (.agg (KA ju)) w by kernel_rfl) (show _ = Result.ok (.agg (KA ju)) w by kernel_rfl) (eq_ky d ju ju w)]
  rw [eqF_cons (by decide) (show _ = Result.ok (.agg (KA op)) w by kernel_rfl) (show _ = Result.ok (.agg (KA op)) w by kernel_rfl) (eq_ky d op op w)]
  rw [eqF_cons (by decide) (show _ = Result.ok (.agg (KA ou)) w by kernel_rfl) (show _ = Result.ok (.agg (KA ou)) w by kernel_rfl) (eq_ky d ou ou w)]
  rw [eqF_cons (by decide) (show _ = Result.ok (.agg (KA ba)) w by kernel_rfl) (show _ = Result.ok (.agg (KA ba)) w by kernel_rfl) (eq_ky d ba ba w)]
  rw [eqF_cons (by decide) (show _ = Result.ok (.agg (KA ho)) w by kernel_rfl) (show _ = Result.ok (.agg (KA ho)) w by kernel_rfl) (eq_ky d ho ho w)]
  rw [eqF_cons (by decide) (show _ = Result.ok (.int .i64 ifc) w by kernel_rfl) (show _ = Result.ok (.int .i64 ifc) w by kernel_rfl) (run_equalIn_int w (d + 2) 3 .i64 .i64 ifc ifc Try.underlying3)]
  rw [eqF_cons (by decide) (show _ = Result.ok (.int .i64 zo) w by kernel_rfl) (show _ = Result.ok (.int .i64 zo) w by kernel_rfl) (run_equalIn_int w (d + 2) 3 .i64 .i64 zo zo Try.underlying3)]
  simp only [beq_self_eq_true, if_true]
  rfl
theorem neq_pl (p : PN) (w : World) : (binOp .neq 54 (.agg (PA p)) (.agg (PA p))).run Try.prog w = .ok (.bool false) w := by
  rw [run_neq_struct]
  rw [show (10000 : Nat) = 9996 + 4 from rfl, eq_pl 9996 p w]
  rfl
def k77 : KR := ⟨77, 0, 0, 0, 0, 0, 0⟩
theorem zeroPlan (w : World) : (zeroValue 38).run Try.prog w = .ok (.agg (PA zP)) w := by kernel_rfl
set_option maxRecDepth 100000 in
set_option maxHeartbeats 8000000 in
theorem makes_law (c : CF) (inn : Int) (k : KR) (A : Option Addr) (n cap : Nat) (tk : List KR) {w : World} (hc : c.Ok w) (hf : c.Fit) (hk : KyOk k) (hS : Sl w 7 krc A n tk) (hT : ∀ x ∈ tk, KyOk x) (hcap : A = none → cap = 0) :
    Calls Try.prog 7 #[.agg (cfc c), .int .i64 inn, .agg (KA k), .slice A n cap] w (LawP w) := by
  have HSS := Lib.hid hS
  have HLN := Lib.hid hS.len
  have HTT := Lib.hid hT
  have HCAP := Lib.hid hcap
  obtain ⟨iu, hiu, hu0, hu1, hu2⟩ := info_key
  clear hS hT hcap
  unfold LawP
  go_enter Try.func7, Try.ntmps7
  go_upto_region 1 with fail
  obtain ⟨gk, hgk⟩ : ∃ g, g = w.heap.size + 1 := ⟨_, rfl⟩
  obtain ⟨gc, hgc⟩ : ∃ g, g = w.heap.size := ⟨_, rfl⟩
  obtain ⟨w1, hw1⟩ : ∃ x, x = (w.alloc (.cells (cfc c) 30)).alloc (.cells (KA k) 35) := ⟨_, rfl⟩
  have HB1 : Hid (Below w.heap.size w w1) := Lib.hid (by rw [hw1]; exact Below.al (bel_al _ _) _)
  have HK1 : Hid (w1.heap[gk]? = some (.cells (KA k) 35 (0, 0))) := Lib.hid (by rw [hw1, hgk]; exact al_new (by simp [al_size]) _)
  have HC1 : Hid (w1.heap[gc]? = some (.cells (cfc c) 30 (0, 0))) := Lib.hid (by
    rw [hw1, hgc]
    exact (al_old (by simp only [al_size]; omega) _).trans (al_new rfl _))
  rw [← hw1]
  rw [← hgk]
  rw [show (Value.pointer (some ⟨w.heap.size, 0, none⟩)) = Value.pointer (some ⟨gc, 0, none⟩) by rw [hgc]]
  clear hw1 hgk hgc
  have ch := heavy_any c (hc.keep HB1.out) hf
  go_wp2_with ((with_reducible refine stop_op (o := ⟨some 15, _, _, _, _, _⟩) ?_); refine Lib.hid ?_; refine wpList_load_cells rfl 30 (.tmp 4) rfl ⟨gc, 0, none⟩ rfl (cfc c) _ (blk_all HC1.out) Try.underlying30 rfl (c_inf _) ?_)
  refine ch.mono ?_
  rintro e w2 ⟨hv, rfl, -, b2⟩
  have HB2 := Lib.hid (bel_via HB1.out b2)
  have HK2 := Lib.hid (kb b2 HK1.out)
  have HC2 := Lib.hid (kb b2 HC1.out)
  clear b2 HB1 HK1 HC1 ch
  cases hv with
  | true =>
    go_wp2
    go_ret
    exact ⟨rfl, HB2.out⟩
  | false =>
  by_cases hn : 256 < n
  · have hnI : (256 : Int) < (n : Int) := by omega
    go_wp2
    go_ret
    exact ⟨rfl, HB2.out⟩
  have hnI : ¬ (256 : Int) < (n : Int) := by omega
  have hn1 : n ≤ 1000 := by omega
  go_upto_region 4 with (refine wpList_bs0 rfl rfl ?_)
  have hown3 : (w2.alloc (.cells #[] 35)).ownsRow w2.heap.size 35 7 (.slice (some ⟨w2.heap.size, 0, none⟩) 0 0) 0 ([] : List Value) := World.ownsRow_made w2 #[] 0 (Nat.le_refl _) (by unfold maxLen; omega) rfl
  have b3 : Below w2.heap.size w2 (w2.alloc (.cells #[] 35)) := bel_al _ _
  obtain ⟨w3, hw3⟩ : ∃ x, x = w2.alloc (.cells #[] 35) := ⟨_, rfl⟩
  rw [← hw3] at hown3 b3
  have hbw3 : w2.heap.size ≤ w3.heap.size := b3.size
  try simp only [Act.put]
  rw [← hw3]
  obtain ⟨G, hG⟩ : ∃ G, G = w2.heap.size := ⟨_, rfl⟩
  rw [← hG] at hown3 hbw3 ⊢
  have hGw : w2.heap.size ≤ G := by omega
  have HB3 := Lib.hid (bel_via HB2.out b3)
  have hS3 := Lib.hid (HSS.out.keep HB3.out)
  have h31 : (0 + n) * 56 ≤ 140737488355328 := by omega
  have h33 : 0 + n ≤ maxLen := by unfold maxLen; omega
  have HB23 := Lib.hid b3
  clear hw3 hG b3
  go_wp2_with (at_builtin; go_loud (refine app_sl rfl _ _ 64 rfl G 35 iu (.agg (KA zK)) 7 56 Try.underlying64 hiu hu0 hu1 hu2 rfl (by decide) _ 0 [] rfl hown3 krc key_len A n cap tk hS3.out HCAP.out rfl key_one h33 h31 hbw3 ?_))
  intro v9 w9 hown9 hg9
  have b9 : Below w2.heap.size w2 w9 := HB23.out.grown hg9 (by omega) (fun q hq => Nat.le_trans hGw (own_gt hown3 q hq))
  replace hown9 : w9.ownsRow G 35 7 v9 n (tk.flatMap krc) := by simpa using hown9
  have hbw9 : G ≤ w9.heap.size := Nat.le_trans hbw3 hg9.size
  have HB29 := Lib.hid b9
  clear hg9 hown3 hbw3 h33 h31 hS3 b9 HB23 HB3
  try simp only [Act.put]
  go_upto_region 5 with fail
  have hownA := own_bel hown9 (bel_al w9 (.cells (KA k77) 35))
  have hbsA : G ≤ (w9.alloc (.cells (KA k77) 35)).heap.size := by rw [al_size]; omega
  have hzA : Below w2.heap.size w2 (w9.alloc (.cells (KA k77) 35)) := bel_via HB29.out (bel_al w9 _)
  have h1 := Lib.hid (key_news w9 k77 35)
  have h2 := Lib.hid (key_one k77)
  have hb91 : (n + 1) * 56 ≤ 140737488355328 := by omega
  have h963 : n + 1 ≤ maxLen := by unfold maxLen; omega
  go_wp2_with (at_builtin; go_loud (refine wpList_append_own _ rfl _ _ 64 rfl G 35 iu (.agg (KA zK)) 7 56 Try.underlying64 hiu hu0 hu1 hu2 rfl (by decide) _ _ _ rfl hownA ⟨w9.heap.size, 0, none⟩ 1 1 (krc k77) rfl rfl h1.out h2.out h963 hb91 hbsA ?_))
  intro v10 w10 hown10 hg10 _
  have b10 : Below w2.heap.size w2 w10 := hzA.grown hg10 (by omega) (fun q hq => Nat.le_trans hGw (own_gt hownA q hq))
  clear hg10 hownA hbsA hzA h1 h2 hb91 h963 hown9 hbw9 HB29
  rw [show tk.flatMap krc ++ krc k77 = (tk ++ [k77]).flatMap krc by simp] at hown10
  obtain ⟨A2, c2, rfl, hSm, _⟩ := sl_of_own (k := 7) (enc := krc) key_len hown10 (by rw [List.length_append, HLN.out]; rfl)
  have hc2 := own_cap hown10
  obtain ⟨g, off, rfl, hlg, hrm⟩ := hSm.row (by omega)
  have HROW : Hid (∀ j x, (tk ++ [k77])[j]? = some x → ∀ i v, (krc x)[i]? = some v → w10.cell? ⟨g, off + j * 7 + i, none⟩ = some v) := Lib.hid hrm
  have hCut : Sl w10 7 krc (some ⟨g, off, none⟩) n tk := by
    have := hSm.cut (m := n) (by omega)
    rwa [List.take_append_of_le_length (by rw [HLN.out]; exact Nat.le_refl _), List.take_of_length_le (by rw [HLN.out]; exact Nat.le_refl _)] at this
  have HCUT := Lib.hid hCut
  have HB10 := Lib.hid (bel_via HB2.out b10)
  have HC10 := Lib.hid (kb b10 HC2.out)
  have HK10 := Lib.hid (kb b10 HK2.out)
  have hn0 : (n : Int) ≤ (c2 : Int) := by omega
  have hnn : ¬ ((c2 : Int) < (n : Int)) := by omega
  have hc2I : ((n : Int) + 1) ≤ (c2 : Int) := by omega
  clear hown10 hSm hrm b10 HB2 HC2 HK2 hCut hiu hu0 hu1 hu2
  try simp only [Act.put]
  have cM := fun (W : World) (b : Below w10.heap.size w10 W) => make_any c inn k (some ⟨g, off, none⟩) n c2 tk (hc.keep (bel_via HB10.out b)) hk (HCUT.out.keep b) HTT.out hn1
  have cR := fun (W : World) (b : Below w.heap.size w W) => rmake_any c inn k A n cap tk (hc.keep b) hk (HSS.out.keep b)
  unfold MPost at cM cR
  obtain ⟨p, hp⟩ : ∃ p, p = (makeP c inn k tk).1 := ⟨_, rfl⟩
  obtain ⟨m, hm⟩ : ∃ m, m = (makeP c inn k tk).2 := ⟨_, rfl⟩
  rw [← hp, ← hm] at cM cR
  clear hp hm hn hnI
  go_upto_region 6 with fail
  go_cut [10, 11] from 30 to 40 (fun v10 v11 wx => ∃ gP, v10 = .pointer (some ⟨gP, 0, none⟩) ∧ v11 = .int .i64 m ∧ wx.heap[gP]? = some (.cells (PA p) 38 (0, 0)) ∧ Below w10.heap.size w10 wx)
  case first =>
    refine wp_region_held_drew (S := fun W1 : World => W1.heap[gc]? = some (.cells (cfc c) 30 (0, 0)) ∧ W1.heap[gk]? = some (.cells (KA k) 35 (0, 0))) (by kernel_rfl) ⟨HC10.out, HK10.out⟩ (fun hS0 => ?_)
    have b0 : Below w10.heap.size w10 w10.drew := bel_dr (Below.refl _ _)
    obtain ⟨wd0, hwd⟩ : ∃ x, x = w10.drew := ⟨_, rfl⟩
    rw [← hwd] at hS0 b0 ⊢
    clear hwd
    refine wpAnyH_take (i := 0) (oi := ⟨some 31, _, _, _, _, _⟩) (v := .agg (cfc c)) rfl (by kernel_rfl) (by kernel_rfl) (by kernel_rfl) (fun _ _ _ h => h) (yields_cells (by rfl) 30 _ rfl ⟨gc, 0, none⟩ rfl (cfc c) _ (fun W hW => blk_all hW.1) Try.underlying30 rfl (c_inf _)) hS0 ?_
    try simp only [Act.put, List.setIfInBounds_toArray, List.set_cons_zero, List.set_cons_succ]
    refine wpAnyH_take (i := 1) (oi := ⟨some 32, _, _, _, _, _⟩) (v := .int .i64 inn) rfl (by kernel_rfl) (by kernel_rfl) (by kernel_rfl) (fun _ _ _ h => h) (.inl ⟨by rfl, fun W hW => by go_simp⟩) hS0 ?_
    try simp only [Act.put, List.setIfInBounds_toArray, List.set_cons_zero, List.set_cons_succ]
    refine wpAnyH_take (i := 2) (oi := ⟨some 33, _, _, _, _, _⟩) (v := .agg (KA k)) rfl (by kernel_rfl) (by kernel_rfl) (by kernel_rfl) (fun _ _ _ h => h) (yields_cells (by rfl) 35 _ rfl ⟨gk, 0, none⟩ rfl (KA k) _ (fun W hW => blk_all hW.2) Try.underlying35 rfl (k_inf _)) hS0 ?_
    try simp only [Act.put, List.setIfInBounds_toArray, List.set_cons_zero, List.set_cons_succ]
    refine wpAnyH_take (i := 3) (oi := ⟨some 34, _, _, _, _, _⟩) (v := .slice (some ⟨g, off, none⟩) (n + 1) c2) rfl (by kernel_rfl) (by kernel_rfl) (by kernel_rfl) (fun _ _ _ h => h) (.inl ⟨by rfl, fun W hW => by go_simp⟩) hS0 ?_
    try simp only [Act.put, List.setIfInBounds_toArray, List.set_cons_zero, List.set_cons_succ]
    refine wpAnyH_take (i := 4) (oi := ⟨some 35, _, _, _, _, _⟩) (v := .slice A n cap) rfl (by kernel_rfl) (by kernel_rfl) (by kernel_rfl) (fun _ _ _ h => h) (.inl ⟨by rfl, fun W hW => by go_simp⟩) hS0 ?_
    try simp only [Act.put, List.setIfInBounds_toArray, List.set_cons_zero, List.set_cons_succ]
    refine wpAnyH_take (i := 5) (oi := ⟨some 36, _, _, _, _, _⟩) (v := .int .i64 n) rfl (by kernel_rfl) (by kernel_rfl) (by kernel_rfl) (fun _ _ _ h => h) (.inl ⟨by rfl, fun W hW => by go_simp⟩) hS0 ?_
    try simp only [Act.put, List.setIfInBounds_toArray, List.set_cons_zero, List.set_cons_succ]
    refine wpAnyH_take (i := 6) (oi := ⟨some 37, _, _, _, _, _⟩) (v := .slice (some ⟨g, off, none⟩) n c2) rfl (by kernel_rfl) (by kernel_rfl) (by kernel_rfl) (fun _ _ _ h => h) (.inl ⟨by rfl, fun W hW => by go_simp⟩) hS0 ?_
    try simp only [Act.put, List.setIfInBounds_toArray, List.set_cons_zero, List.set_cons_succ]
    refine wpAnyH_ready (rs := [7, 11]) (by kernel_rfl) (by simp) ?_
    refine AllReadyH.cons (o := ⟨some 38, _, _, _, _, _⟩) rfl (fun K hK => ?_) (AllReadyH.cons (o := ⟨some 10, _, _, _, _, _⟩) rfl (fun K hK => ?_) AllReadyH.nil)
    · go_simp
      go_at_call 11
      ((with_reducible refine (cM _ b0).mono ?_); rintro e wd1 ⟨rfl, bT⟩)
      have hS1 := And.intro (kb bT hS0.1) (kb bT hS0.2)
      have b1 := bel_via b0 bT
      refine hK.out _ _ hS1 (fun _ => ?_)
      clear hK K
      try simp only [Act.put, List.setIfInBounds_toArray, List.set_cons_zero, List.set_cons_succ]
      refine wpAnyH_take (i := 8) (oi := ⟨some 30, _, _, _, _, _⟩) (v := .tuple #[.agg (PA p), .int .i64 m]) rfl (by kernel_rfl) (by kernel_rfl) (by kernel_rfl) (fun _ _ _ h => h) (.inl ⟨by rfl, fun W hW => by go_simp⟩) hS1 ?_
      try simp only [Act.put, List.setIfInBounds_toArray, List.set_cons_zero, List.set_cons_succ]
      refine wpAnyH_take (i := 9) (oi := ⟨some 39, _, _, _, _, _⟩) (v := .agg (PA p)) rfl (by kernel_rfl) (by kernel_rfl) (by kernel_rfl) (fun _ _ _ h => h) (.inl ⟨by rfl, fun W hW => by go_simp⟩) hS1 ?_
      try simp only [Act.put, List.setIfInBounds_toArray, List.set_cons_zero, List.set_cons_succ]
      refine wpAnyH_take (i := 10) (oi := ⟨some 40, _, _, _, _, _⟩) (v := .int .i64 m) rfl (by kernel_rfl) (by kernel_rfl) (by kernel_rfl) (fun _ _ _ h => h) (.inl ⟨by rfl, fun W hW => by go_simp⟩) hS1 ?_
      try simp only [Act.put, List.setIfInBounds_toArray, List.set_cons_zero, List.set_cons_succ]
      refine wpAnyH_ready (rs := [11]) (by kernel_rfl) (by simp) ?_
      refine AllReadyH.cons (o := ⟨some 10, _, _, _, _, _⟩) rfl (fun K hK => ?_) AllReadyH.nil
      refine step_alloc rfl 38 rfl (PA zP) zeroPlan (fun wd2 gP hV bA hgA => ?_)
      have hS2 := And.intro (kb bA hS1.1) (kb bA hS1.2)
      have hgP1 : w10.heap.size ≤ gP := Nat.le_trans b1.size hgA
      have b2 := bel_via b1 bA
      refine hK.out _ _ hS2 (fun _ => ?_)
      clear hK K
      try simp only [Act.put, List.setIfInBounds_toArray, List.set_cons_zero, List.set_cons_succ]
      refine wpAnyH_ready (rs := [12]) (by kernel_rfl) (by simp) ?_
      refine AllReadyH.cons (o := ⟨none, _, _, _, _, _⟩) rfl (fun K hK => ?_) AllReadyH.nil
      refine step_store_mid rfl 38 (.tmp 10) (.tmp 39) rfl gP 0 (PA p) rfl rfl (there_of hV (o := 0) (n := 37) (by simp [PA])) (p_inf _) (p_one _) ?_
      have hqw := setCells_heap (PA p).toList 0 hV
      have hqe : (List.foldl (fun (a : Array Value × Nat) v => (a.1.setIfInBounds a.2 v, a.2 + 1)) (PA zP, 0) (PA p).toList).1 = PA p := by kernel_rfl
      rw [hqe] at hqw
      have ho := (setCells_off (PA p).toList 0 wd2 gP)
      have bz := b2.trans (ho.toBelow hgP1 b2.size)
      obtain ⟨wz, hwz⟩ : ∃ x, x = wd2.setCells gP 0 (PA p).toList := ⟨_, rfl⟩
      have hSz : (wd2.setCells gP 0 (PA p).toList).heap[gc]? = some (.cells (cfc c) 30 (0, 0)) ∧ (wd2.setCells gP 0 (PA p).toList).heap[gk]? = some (.cells (KA k) 35 (0, 0)) := ⟨(ho.block _ (blk_lt hS2.1) (fun e => by have := blk_lt HC10.out; omega)).trans hS2.1, (ho.block _ (blk_lt hS2.2) (fun e => by have := blk_lt HK10.out; omega)).trans hS2.2⟩
      rw [← hwz] at hqw bz hSz ⊢
      clear hwz
      refine hK.out _ _ hSz (fun _ => ?_)
      clear hK K
      try simp only [Act.put, List.setIfInBounds_toArray, List.set_cons_zero, List.set_cons_succ]
      refine wpAnyH_take (i := 13) (oi := ⟨some 11, _, _, _, _, _⟩) (v := .int .i64 m) rfl (by kernel_rfl) (by kernel_rfl) (by kernel_rfl) (fun _ _ _ h => h) (.inl ⟨by rfl, fun W hW => by go_simp⟩) hSz ?_
      try simp only [Act.put, List.setIfInBounds_toArray, List.set_cons_zero, List.set_cons_succ]
      refine wpAnyH_done (by kernel_rfl) ?_ _
      try simp only [Act.put, List.setIfInBounds_toArray, List.set_cons_zero, List.set_cons_succ]
      go_wp2_with fail
      go_meet
      exact ⟨gP, rfl, rfl, hqw, bz⟩
    · refine step_alloc rfl 38 rfl (PA zP) zeroPlan (fun wd1 gP hV bA hgA => ?_)
      have hS1 := And.intro (kb bA hS0.1) (kb bA hS0.2)
      have hgP1 : w10.heap.size ≤ gP := Nat.le_trans b0.size hgA
      have b1 := bel_via b0 bA
      refine hK.out _ _ hS1 (fun _ => ?_)
      clear hK K
      try simp only [Act.put, List.setIfInBounds_toArray, List.set_cons_zero, List.set_cons_succ]
      refine wpAnyH_ready (rs := [7]) (by kernel_rfl) (by simp) ?_
      refine AllReadyH.cons (o := ⟨some 38, _, _, _, _, _⟩) rfl (fun K hK => ?_) AllReadyH.nil
      go_simp
      go_at_call 11
      ((with_reducible refine (cM _ b1).mono ?_); rintro e wd2 ⟨rfl, bT⟩)
      have hS2 := And.intro (kb bT hS1.1) (kb bT hS1.2)
      have b2 := bel_via b1 bT
      have hV := kb bT hV
      refine hK.out _ _ hS2 (fun _ => ?_)
      clear hK K
      try simp only [Act.put, List.setIfInBounds_toArray, List.set_cons_zero, List.set_cons_succ]
      refine wpAnyH_take (i := 8) (oi := ⟨some 30, _, _, _, _, _⟩) (v := .tuple #[.agg (PA p), .int .i64 m]) rfl (by kernel_rfl) (by kernel_rfl) (by kernel_rfl) (fun _ _ _ h => h) (.inl ⟨by rfl, fun W hW => by go_simp⟩) hS2 ?_
      try simp only [Act.put, List.setIfInBounds_toArray, List.set_cons_zero, List.set_cons_succ]
      refine wpAnyH_take (i := 9) (oi := ⟨some 39, _, _, _, _, _⟩) (v := .agg (PA p)) rfl (by kernel_rfl) (by kernel_rfl) (by kernel_rfl) (fun _ _ _ h => h) (.inl ⟨by rfl, fun W hW => by go_simp⟩) hS2 ?_
      try simp only [Act.put, List.setIfInBounds_toArray, List.set_cons_zero, List.set_cons_succ]
      refine wpAnyH_take (i := 10) (oi := ⟨some 40, _, _, _, _, _⟩) (v := .int .i64 m) rfl (by kernel_rfl) (by kernel_rfl) (by kernel_rfl) (fun _ _ _ h => h) (.inl ⟨by rfl, fun W hW => by go_simp⟩) hS2 ?_
      try simp only [Act.put, List.setIfInBounds_toArray, List.set_cons_zero, List.set_cons_succ]
      refine wpAnyH_ready (rs := [12]) (by kernel_rfl) (by simp) ?_
      refine AllReadyH.cons (o := ⟨none, _, _, _, _, _⟩) rfl (fun K hK => ?_) AllReadyH.nil
      refine step_store_mid rfl 38 (.tmp 10) (.tmp 39) rfl gP 0 (PA p) rfl rfl (there_of hV (o := 0) (n := 37) (by simp [PA])) (p_inf _) (p_one _) ?_
      have hqw := setCells_heap (PA p).toList 0 hV
      have hqe : (List.foldl (fun (a : Array Value × Nat) v => (a.1.setIfInBounds a.2 v, a.2 + 1)) (PA zP, 0) (PA p).toList).1 = PA p := by kernel_rfl
      rw [hqe] at hqw
      have ho := (setCells_off (PA p).toList 0 wd2 gP)
      have bz := b2.trans (ho.toBelow hgP1 b2.size)
      obtain ⟨wz, hwz⟩ : ∃ x, x = wd2.setCells gP 0 (PA p).toList := ⟨_, rfl⟩
      have hSz : (wd2.setCells gP 0 (PA p).toList).heap[gc]? = some (.cells (cfc c) 30 (0, 0)) ∧ (wd2.setCells gP 0 (PA p).toList).heap[gk]? = some (.cells (KA k) 35 (0, 0)) := ⟨(ho.block _ (blk_lt hS2.1) (fun e => by have := blk_lt HC10.out; omega)).trans hS2.1, (ho.block _ (blk_lt hS2.2) (fun e => by have := blk_lt HK10.out; omega)).trans hS2.2⟩
      rw [← hwz] at hqw bz hSz ⊢
      clear hwz
      refine hK.out _ _ hSz (fun _ => ?_)
      clear hK K
      try simp only [Act.put, List.setIfInBounds_toArray, List.set_cons_zero, List.set_cons_succ]
      refine wpAnyH_take (i := 13) (oi := ⟨some 11, _, _, _, _, _⟩) (v := .int .i64 m) rfl (by kernel_rfl) (by kernel_rfl) (by kernel_rfl) (fun _ _ _ h => h) (.inl ⟨by rfl, fun W hW => by go_simp⟩) hSz ?_
      try simp only [Act.put, List.setIfInBounds_toArray, List.set_cons_zero, List.set_cons_succ]
      refine wpAnyH_done (by kernel_rfl) ?_ _
      try simp only [Act.put, List.setIfInBounds_toArray, List.set_cons_zero, List.set_cons_succ]
      go_wp2_with fail
      go_meet
      exact ⟨gP, rfl, rfl, hqw, bz⟩

  case rest =>
  obtain ⟨gP, rfl, rfl, hP, bx⟩ := hcut
  have HBx := Lib.hid bx
  have HP4 := Lib.hid hP
  have HB4 := Lib.hid (bel_via HB10.out bx)
  have HC4 := Lib.hid (kb bx HC10.out)
  have HK4 := Lib.hid (kb bx HK10.out)
  clear bx hP cM hc2I
  go_upto_region 8 with (first | ((with_reducible refine stop_op (o := ⟨some 42, _, _, _, _, _⟩) ?_); refine Lib.hid ?_; refine wpList_load_cells rfl 30 (.tmp 4) rfl ⟨gc, 0, none⟩ rfl (cfc c) _ (blk_all HC4.out) Try.underlying30 rfl (c_inf _) ?_) | ((with_reducible refine stop_op (o := ⟨some 44, _, _, _, _, _⟩) ?_); refine Lib.hid ?_; refine wpList_load_cells rfl 35 (.tmp 6) rfl ⟨gk, 0, none⟩ rfl (KA k) _ (blk_all HK4.out) Try.underlying35 rfl (k_inf _) ?_) | (go_at_call 14; ((with_reducible refine (cR _ HB4.out).mono ?_); rintro e w5 ⟨rfl, b5⟩; have HZZ := Lib.hid (al_new (w := w5) (k := w5.heap.size) rfl (.cells (PA zP) 54)))) | ((with_reducible refine stop_op (o := ⟨none, .store 54 (.tmp 12) (.tmp 47), _, _, _, _⟩) ?_); refine Lib.hid ?_; refine wpList_store_row rfl 54 (.tmp 12) (.tmp 47) rfl w5.heap.size (PA p) rfl rfl 54 (PA zP) HZZ.out (rp_inf _) rfl (p_one _) ?_))
  rw [World.setRow_alloc_new]
  try simp only [Act.put]
  obtain ⟨w6, hw6⟩ : ∃ x, x = w5.alloc (.cells (PA p) 54) := ⟨_, rfl⟩
  obtain ⟨gR, hgR⟩ : ∃ g, g = w5.heap.size := ⟨_, rfl⟩
  have HR6 : Hid (w6.heap[gR]? = some (.cells (PA p) 54 (0, 0))) := Lib.hid (by rw [hw6, hgR]; exact al_new rfl _)
  have b6 : Below wc.heap.size wc w6 := by rw [hw6]; exact bel_via b5 (bel_al _ _)
  have HB6 := Lib.hid (bel_via HB4.out b6)
  have HP6 := Lib.hid (kb b6 HP4.out)
  have HBX := Lib.hid (bel_via HBx.out b6)
  rw [← hw6, ← hgR]
  clear hw6 hgR b6 b5 HZZ HB4 HK4 HC4 HP4 cR HBx
  have m77 : w6.cell? ⟨g, off + n * 7, none⟩ = some (.int .i64 77) := by
    have := keepc HBX.out (HROW.out n k77 (by rw [← HLN.out]; simp) 0 _ rfl)
    rwa [Nat.add_zero] at this
  have hlw : g < w6.heap.size := Nat.lt_of_lt_of_le hlg HBX.out.size
  have hnq := fun W => neq_pl p W
  have hi0 : (n : Int) < (n : Int) + 1 := by omega
  go_upto_region 10 with (first | ((with_reducible refine stop_op (o := ⟨some 53, _, _, _, _, _⟩) ?_); refine Lib.hid ?_; refine wpList_load_cells_on (by rfl) 38 (.tmp 10) rfl ⟨gP, 0, none⟩ rfl (PA p) _ (blk_all HP6.out) Try.underlying38 rfl (p_inf _) ?_) | ((with_reducible refine stop_op (o := ⟨some 54, _, _, _, _, _⟩) ?_); refine Lib.hid ?_; refine wpList_load_cells_on (by rfl) 54 (.tmp 12) rfl ⟨gR, 0, none⟩ rfl (PA p) _ (blk_all HR6.out) Try.underlying54 rfl (rp_inf _) ?_))
  clear m77
  go_wp2_with fail
  go_loopw [14] (fun v14 wr => ∃ i : Nat, v14 = .int .i64 i ∧ i ≤ n ∧ Below w6.heap.size w6 wr) (fun v14 _ => n - (intOf v14).toNat)
  case atStart => exact ⟨0, rfl, by omega, Below.refl _ _⟩
  case round =>
    obtain ⟨i, rfl, hi, hbr⟩ := hrel
    have HBR := Lib.hid hbr
    clear hbr
    by_cases hlt : i < n
    · have hlti : (i : Int) < (n : Int) := by omega
      have hlti2 : (i : Int) < (n : Int) + 1 := by omega
      obtain ⟨bb, off2, hA, hbl, hrow⟩ := HSS.out.row (by omega)
      obtain ⟨x, hx⟩ : ∃ x, tk[i]? = some x := ⟨_, List.getElem?_eq_getElem (by rw [HLN.out]; exact hlt)⟩
      have hx2 : (tk ++ [k77])[i]? = some x := by rw [List.getElem?_append_left (by rw [HLN.out]; exact hlt)]; exact hx
      subst hA
      have HS : Hid ((∀ j v, (KA x).toList[j]? = some v → wr.drew.cell? ((⟨g, off + i * 7, none⟩ : Addr).add j) = some v) ∧ (∀ j v, (KA x).toList[j]? = some v → wr.drew.cell? ((⟨bb, off2 + i * 7, none⟩ : Addr).add j) = some v)) := Lib.hid ⟨fun j v hj => by
        rw [addr_add]
        exact keepc (bel_dr (bel_via HBX.out HBR.out)) (HROW.out i x hx2 j v hj), fun j v hj => by
        rw [addr_add]
        exact keepc (bel_dr (bel_via HB6.out HBR.out)) (hrow i x hx j v hj)⟩
      have hbw : bb < wr.heap.size := Nat.lt_of_lt_of_le hbl (bel_via HB6.out HBR.out).size
      have hgw : g < wr.heap.size := Nat.lt_of_lt_of_le hlw HBR.out.size
      have heq := fun W => neq_ky x x W
      rw [show (!(x == x)) = false by simp] at heq
      have hnb : n ≤ 9223372036854775807 := by omega
      clear hrow hx hx2
      go_upto_region 13 with fail
      refine wp_region_held_drew (S := fun W1 : World => (∀ j v, (KA x).toList[j]? = some v → W1.cell? ((⟨g, off + i * 7, none⟩ : Addr).add j) = some v) ∧ (∀ j v, (KA x).toList[j]? = some v → W1.cell? ((⟨bb, off2 + i * 7, none⟩ : Addr).add j) = some v)) (by kernel_rfl) HS.out (fun hS0 => ?_)
      refine wpAnyH_take (i := 0) (oi := ⟨some 72, _, _, _, _, _⟩) (v := .slice (some ⟨g, off, none⟩) (n + 1) c2) rfl (by kernel_rfl) (by kernel_rfl) (by kernel_rfl) (fun _ _ _ h => h) (.inl ⟨by rfl, fun W hW => by go_simp⟩) hS0 ?_
      try simp only [Act.put, List.setIfInBounds_toArray, List.set_cons_zero, List.set_cons_succ]
      refine wpAnyH_take (i := 1) (oi := ⟨some 73, _, _, _, _, _⟩) (v := .int .i64 i) rfl (by kernel_rfl) (by kernel_rfl) (by kernel_rfl) (fun _ _ _ h => h) (.inl ⟨by rfl, fun W hW => by go_simp⟩) hS0 ?_
      try simp only [Act.put, List.setIfInBounds_toArray, List.set_cons_zero, List.set_cons_succ]
      refine wpAnyH_take (i := 2) (oi := ⟨some 74, _, _, _, _, _⟩) (v := .pointer (some ⟨g, off + i * 7, none⟩)) rfl (by kernel_rfl) (by kernel_rfl) (by kernel_rfl) (fun _ _ _ h => h) (.inl ⟨by rfl, fun W hW => by go_simp⟩) hS0 ?_
      try simp only [Act.put, List.setIfInBounds_toArray, List.set_cons_zero, List.set_cons_succ]
      refine wpAnyH_take (i := 3) (oi := ⟨some 75, _, _, _, _, _⟩) (v := .agg (KA x)) rfl (by kernel_rfl) (by kernel_rfl) (by kernel_rfl) (fun _ _ _ h => h) (yields_cells (by rfl) 35 _ rfl ⟨g, off + i * 7, none⟩ rfl (KA x) _ (fun W hW => hW.1) Try.underlying35 rfl (k_inf _)) hS0 ?_
      try simp only [Act.put, List.setIfInBounds_toArray, List.set_cons_zero, List.set_cons_succ]
      refine wpAnyH_take (i := 4) (oi := ⟨some 76, _, _, _, _, _⟩) (v := .slice (some ⟨bb, off2, none⟩) n cap) rfl (by kernel_rfl) (by kernel_rfl) (by kernel_rfl) (fun _ _ _ h => h) (.inl ⟨by rfl, fun W hW => by go_simp⟩) hS0 ?_
      try simp only [Act.put, List.setIfInBounds_toArray, List.set_cons_zero, List.set_cons_succ]
      refine wpAnyH_take (i := 5) (oi := ⟨some 77, _, _, _, _, _⟩) (v := .int .i64 i) rfl (by kernel_rfl) (by kernel_rfl) (by kernel_rfl) (fun _ _ _ h => h) (.inl ⟨by rfl, fun W hW => by go_simp⟩) hS0 ?_
      try simp only [Act.put, List.setIfInBounds_toArray, List.set_cons_zero, List.set_cons_succ]
      refine wpAnyH_take (i := 6) (oi := ⟨some 78, _, _, _, _, _⟩) (v := .pointer (some ⟨bb, off2 + i * 7, none⟩)) rfl (by kernel_rfl) (by kernel_rfl) (by kernel_rfl) (fun _ _ _ h => h) (.inl ⟨by rfl, fun W hW => by go_simp⟩) hS0 ?_
      try simp only [Act.put, List.setIfInBounds_toArray, List.set_cons_zero, List.set_cons_succ]
      refine wpAnyH_take (i := 7) (oi := ⟨some 79, _, _, _, _, _⟩) (v := .agg (KA x)) rfl (by kernel_rfl) (by kernel_rfl) (by kernel_rfl) (fun _ _ _ h => h) (yields_cells (by rfl) 35 _ rfl ⟨bb, off2 + i * 7, none⟩ rfl (KA x) _ (fun W hW => hW.2) Try.underlying35 rfl (k_inf _)) hS0 ?_
      try simp only [Act.put, List.setIfInBounds_toArray, List.set_cons_zero, List.set_cons_succ]
      refine wpAnyH_take (i := 8) (oi := ⟨some 80, _, _, _, _, _⟩) (v := .bool false) rfl (by kernel_rfl) (by kernel_rfl) (by kernel_rfl) (fun _ _ _ h => h) (.inl ⟨by rfl, fun W hW => by have := heq W; unfold execOp; simp only []; go_simp⟩) hS0 ?_
      try simp only [Act.put, List.setIfInBounds_toArray, List.set_cons_zero, List.set_cons_succ]
      refine wpAnyH_done (by kernel_rfl) ?_ _
      try simp only [Act.put, List.setIfInBounds_toArray, List.set_cons_zero, List.set_cons_succ]
      go_wp2_with fail
      exact ⟨⟨i + 1, by first | rfl | go_num, by omega, bel_dr HBR.out⟩, by simp [intOf]; omega⟩
    · have hlti : ¬ (i : Int) < (n : Int) := by omega
      go_wp2
      go_ret
      exact ⟨rfl, bel_via HB6.out HBR.out⟩
end Go.Proofs.Ytokbmahnjmmcaaa
