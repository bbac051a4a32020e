/- The document's add: a number laid into a rising list; by-name template (gen_cradd2.py). -/
import Derived.Test.YtomennaekjklbaaCPtP
namespace Go.Proofs.Ytomennaekjklbaa
open Go.RowKit Go.Lib Go.Sort
set_option linter.unusedVariables false
set_option linter.unusedSimpArgs false


theorem addr_info : (Try.prog.info? 25).map (fun i => (i.zero, i.size, i.bytes)) = some (some (.agg #[.int .u64 0, .int .u64 0]), 2, 16) := by kernel_rfl
theorem own_bel {w w' : World} {b size n : Nat} {e : TypeId} {v : Value} {xs : List Value} (h : w.ownsRow b e size v n xs) (hb : Below w.heap.size w w') : w'.ownsRow b e size v n xs := by
  obtain ⟨h0, h | ⟨g, cap, cur, hv, hg1, hg, r⟩⟩ := h
  · exact ⟨h0, .inl h⟩
  · exact ⟨h0, .inr ⟨g, cap, cur, hv, hg1, blkB hb hg, r⟩⟩
theorem own_gt {w : World} {b size n : Nat} {e : TypeId} {v : Value} {xs : List Value} (h : w.ownsRow b e size v n xs) : ∀ q, v.ownBlock = some q → b ≤ q := fun q hq => by
  obtain ⟨h0, ⟨rfl, _⟩ | ⟨g, cap, cur, rfl, hg1, _⟩⟩ := h
  · simp [Value.ownBlock] at hq
  · simp [Value.ownBlock] at hq; omega
theorem lessP_any (p q : P2) (w : World) : Calls Try.prog 36 #[.agg #[.int .u64 p.h, .int .u64 p.l], .agg #[.int .u64 q.h, .int .u64 q.l]] w fun e w' => e = .returned (.bool (ltP p q)) ∧ Below w.heap.size w w' := rless_any p.h p.l q.h q.l w
theorem eql_addr (p q : P2) (w : World) : (binOp .eql 25 (.agg #[.int .u64 p.h, .int .u64 p.l]) (.agg #[.int .u64 q.h, .int .u64 q.l])).run Try.prog w = .ok (.bool (decide (p = q))) w := by
  rw [run_eql_struct, show (10000 : Nat) = 9998 + 2 from rfl, eq_addr 9998 p.h p.l q.h q.l w]
  have : (p.h == q.h && p.l == q.l) = decide (p = q) := by
    rw [Bool.eq_iff_iff]; simp only [Bool.and_eq_true, beq_iff_eq, decide_eq_true_eq]
    exact ⟨fun h => P2_ext h.1 h.2, fun h => by rw [h]; exact ⟨rfl, rfl⟩⟩
  rw [this]; rfl
def AddPost (w : World) (l : List P2) (a : P2) (e : Ending) (w' : World) : Prop := ∃ A c, e = .returned (.slice A (addP l a).length c) ∧ (addP l a).length ≤ c ∧ Sl w' 2 p2c A (addP l a).length (addP l a) ∧ Below w.heap.size w w'
theorem add_same {l : List P2} {a : P2} {i : Nat} (hi : i < l.length) (h : ∀ j x, j < i → l[j]? = some x → ltP x a = true) (he : l[i]? = some a) : addP l a = l := by
  obtain ⟨_, e2⟩ := tw_of (p := fun x => ltP x a) l i (by omega) h (fun x hx => by rw [he] at hx; cases hx; exact lt_irrefl a)
  unfold addP
  rw [e2, if_pos (by rw [List.head?_drop]; exact he)]
theorem add_new {l : List P2} {a : P2} {i : Nat} (hi : i ≤ l.length) (h : ∀ j x, j < i → l[j]? = some x → ltP x a = true) (h0 : ∀ x, l[i]? = some x → ltP x a = false) (hne : l[i]? ≠ some a) : addP l a = l.take i ++ a :: l.drop i := by
  obtain ⟨e1, e2⟩ := tw_of (p := fun x => ltP x a) l i hi h h0
  unfold addP
  rw [e1, e2, if_neg (by rw [List.head?_drop]; exact hne)]
theorem own_cap {w : World} {b size n cap : Nat} {e : TypeId} {A : Option Addr} {xs : List Value} (h : w.ownsRow b e size (.slice A n cap) n xs) : n ≤ cap := by
  obtain ⟨h0, ⟨hv, rfl⟩ | ⟨g, cap', cur, hv, _, _, hc, _⟩⟩ := h
  · omega
  · cases hv; exact hc
theorem p2_news (w : World) (p : P2) (t : TypeId) : ∀ j u, (p2c p)[j]? = some u → (w.alloc (.cells #[.int .u64 p.h, .int .u64 p.l] t)).cell? ((⟨w.heap.size, 0, none⟩ : Addr).add j) = some u := by
  intro j u hj
  have h := heap_alloc_new w (.cells #[.int .u64 p.h, .int .u64 p.l] t)
  generalize w.alloc (.cells #[.int .u64 p.h, .int .u64 p.l] t) = w1 at *
  have hj2 : j < 2 := (List.getElem?_eq_some_iff.1 hj).1
  match j, hj2, hj with
  | 0, _, hj => simp [p2c] at hj; subst hj; simp [Addr.add, World.cell?, h]
  | 1, _, hj => simp [p2c] at hj; subst hj; simp [Addr.add, World.cell?, h]
theorem p2_one (p : P2) : ∀ u ∈ p2c p, u.oneCell' = true := by intro u hu; simp [p2c] at hu; rcases hu with rfl | rfl <;> rfl
theorem p2s_one (l : List P2) : ∀ u ∈ l.flatMap p2c, u.oneCell' = true := by
  intro u hu; obtain ⟨p, _, hp⟩ := List.mem_flatMap.1 hu; exact p2_one p u hp
theorem Sl.drop {w : World} {b off n i : Nat} {l : List P2} (h : Sl w 2 p2c (some ⟨b, off, none⟩) n l) (hi : i ≤ n) : Sl w 2 p2c (some ⟨b, off + i * 2, none⟩) (n - i) (l.drop i) :=
  ⟨by rw [List.length_drop, h.len], by have := h.big; omega, fun hn => by
    obtain ⟨b', off', hA, hlt, hc⟩ := h.row (by omega)
    cases hA
    refine ⟨b, off + i * 2, rfl, hlt, fun j x hj t v hv => ?_⟩
    rw [List.getElem?_drop] at hj
    rw [← hc (i + j) x hj t v hv, Nat.add_mul]
    congr 2; omega⟩
theorem p2s_len (l : List P2) : (l.flatMap p2c).length = l.length * 2 := flat_len (k := 2) (enc := p2c) (fun _ => rfl) l

set_option maxRecDepth 100000 in
set_option maxHeartbeats 4000000 in
theorem radd_any (A : Option Addr) (n c : Nat) (l : List P2) (a : P2) (hn : n ≤ 65536) (hc : n ≤ c) (hAc : A = none → c = 0) (w : World) (hS : Sl w 2 p2c A n l) : Calls Try.prog 37 #[.slice A n c, .agg #[.int .u64 a.h, .int .u64 a.l]] w (AddPost w l a) := by
  have hlen := hS.len
  obtain ⟨iu, hiu, hu0, hu1, hu2⟩ := info_parts addr_info
  obtain ⟨M, hM⟩ : ∃ M, M = AddPost w l a := ⟨_, rfl⟩
  rw [← hM]
  have HM := Lib.hid hM; clear hM
  obtain ⟨w0, hw0⟩ : ∃ w0, w0 = w.alloc (.cells #[.int .u64 a.h, .int .u64 a.l] 25) := ⟨_, rfl⟩
  have hz0 : w0.heap.size = w.heap.size + 1 := by rw [hw0]; exact al_size _ _
  have b0 : Below w.heap.size w w0 := by rw [hw0]; exact Below.al (Below.refl _ _) _
  have hA0 : w0.heap[w.heap.size]? = some (.cells #[.int .u64 a.h, .int .u64 a.l] 25) := by rw [hw0]; exact heap_alloc_new w _
  have hS0 := hS.keep b0
  have hown0 : (w0.alloc (.cells #[] 25)).ownsRow w0.heap.size 25 2 (.slice (some ⟨w0.heap.size, 0, none⟩) 0 0) 0 (([] : List P2).flatMap p2c) := World.ownsRow_made w0 #[] 0 (Nat.le_refl _) (by unfold maxLen; omega) rfl
  have Hw0 := Lib.hid hw0; clear hw0
  have HLEN := Lib.hid hlen; clear hlen
  have Hz0 := Lib.hid hz0
  go_enter Try.func37, Try.ntmps37
  go_wp2
  rw [← Hw0.out, ← Hz0.out]
  clear Hw0 hz0
  go_loopw [5, 6] (fun v5 v6 wr => ∃ i : Nat, v6 = .int .i64 i ∧ i ≤ n ∧ Hid (∀ j x, j < i → l[j]? = some x → ltP x a = true) ∧ wr.ownsRow w0.heap.size 25 2 v5 i ((l.take i).flatMap p2c) ∧ Below w0.heap.size w0 wr) (fun _ v6 _ => n - (intOf v6).toNat)
  case atStart => exact ⟨0, rfl, by omega, Lib.hid (fun j x hj => absurd hj (Nat.not_lt_zero _)), by simpa using hown0, Below.al (Below.refl _ _) _⟩
  case round =>
    obtain ⟨i, rfl, hi, hF, hown, bw⟩ := hrel
    clear hown0
    have a0 := blkB bw hA0
    obtain ⟨z0, z1, _, _⟩ := cells2 a0
    obtain ⟨xs, hxs⟩ : ∃ xs, xs = (l.take i).flatMap p2c := ⟨_, rfl⟩
    by_cases hlt : i < n
    · have hml : i < l.length := by rw [HLEN.out]; exact hlt
      obtain ⟨x, hx⟩ : ∃ x, l[i]? = some x := ⟨_, List.getElem?_eq_getElem hml⟩
      obtain ⟨b, off, hA, hbl, hrow⟩ := hS0.row (by omega)
      have r0 : wr.cell? ⟨b, off + i * 2, none⟩ = some (.int .u64 x.h) := keepc bw (hrow i x hx 0 _ rfl)
      have r1 : wr.cell? ⟨b, off + i * 2 + 1, none⟩ = some (.int .u64 x.l) := keepc bw (hrow i x hx 1 _ rfl)
      have cl := lessP_any x a
      have hlti : (i : Int) < (n : Int) := by omega
      have hd : decide (i < n) = true := by simp [hlt]
      generalize hX : ltP x a = X at cl
      have HX := Lib.hid hX; clear hX
      have HXS := Lib.hid hx; clear hx
      have HA := Lib.hid hA
      subst hA
      clear hrow hS
      go_wp2_with fail
      have k_r0 := cell_regrown r0
      have k_r1 := cell_regrown r1
      have k_z0 := cell_regrown z0
      have k_z1 := cell_regrown z1
      have q := fun d os => Calls.regrown_of (cl (grow (redrawn wr d) os))
      clear r0 r1 z0 z1
      refine wp_region_quiet_below (by kernel_rfl) (by kernel_rfl) ?_
      repeat (first | go_big_quiet_skip | quiet_step (first | (go_at_call 36; with_reducible exact q _ _)))
      refine wpQuiet_nil ?_
      intro _ hw'
      obtain ⟨⟨dq, osq⟩, hw''⟩ := hw'
      subst hw''
      have s0 := k_r0 dq osq
      have s1 := k_r1 dq osq
      have u0 := k_z0 dq osq
      have u1 := k_z1 dq osq
      have hownq := own_bel hown (below_regrown wr dq osq)
      have bq : Below w0.heap.size w0 (grow (redrawn wr dq) osq) := bel_via bw (below_regrown wr dq osq)
      obtain ⟨wq, hwq⟩ : ∃ x, x = grow (redrawn wr dq) osq := ⟨_, rfl⟩
      rw [← hwq] at s0 s1 u0 u1 hownq bq ⊢
      clear hwq k_r0 k_r1 k_z0 k_z1 q a0 hown cl bw
      cases X with
      | true =>
        have hby : (i + 1) * 16 ≤ 140737488355328 := by omega
        have h63 : i + 1 ≤ maxLen := by unfold maxLen; omega
        have hbs : w0.heap.size ≤ (wq.alloc (.cells #[.int .u64 x.h, .int .u64 x.l] 25)).heap.size := by rw [al_size]; have := bq.size; omega
        have hownA := own_bel hownq (Below.al (Below.refl _ wq) (.cells #[.int .u64 x.h, .int .u64 x.l] 25))
        have h1 := p2_news wq x 25
        have h2 := p2_one x
        have h1 := Lib.hid h1
        have h2 := Lib.hid h2
        go_wp2_with (at_builtin; go_loud (refine wpList_append_own _ rfl _ _ 74 rfl w0.heap.size 25 iu (.agg #[.int .u64 0, .int .u64 0]) 2 16 Try.underlying74 hiu hu0 hu1 hu2 rfl (by decide) _ _ _ rfl hownA ⟨wq.heap.size, 0, none⟩ 1 1 (p2c x) rfl rfl h1.out h2.out h63 hby hbs ?_))
        intro v' w' hown' hg' _
        go_wp2
        have bq' : Below w0.heap.size w0 w' := (bel_via bq (Below.al (Below.refl _ wq) _)).grown hg' hbs (own_gt hownA)
        have hF' : ∀ j y, j < i + 1 → l[j]? = some y → ltP y a = true := fun j y hj hy => by
          by_cases e : j = i
          · subst e; rw [HXS.out] at hy; cases hy; exact HX.out
          · exact hF.out j y (by omega) hy
        exact ⟨⟨i + 1, by simp, by omega, Lib.hid hF', by rw [List.take_add_one, HXS.out]; simpa using hown', bq'⟩, by simp [intOf]; omega⟩
      | false =>
        have eqa := eql_addr x a
        by_cases hE : x = a
        · subst hE
          have eqa := fun W : World => (eqa W).trans (by rw [show decide (x = x) = true by simp] : Result.ok (Value.bool (decide (x = x))) W = Result.ok (Value.bool true) W)
          have hadd := add_same (a := x) hml hF.out HXS.out
          have HADD := Lib.hid hadd; clear hadd
          go_wp2_with fail
          have k_s0 := cell_regrown s0
          have k_s1 := cell_regrown s1
          have k_u0 := cell_regrown u0
          have k_u1 := cell_regrown u1
          clear s0 s1 u0 u1
          refine wp_region_quiet_below (by kernel_rfl) (by kernel_rfl) ?_
          repeat (first | go_big_quiet_skip | quiet_step (fail))
          refine wpQuiet_nil ?_
          intro _ hw'
          obtain ⟨⟨dq, osq⟩, hw''⟩ := hw'
          subst hw''
          go_wp2
          rw [HM.out]
          exact ⟨_, c, by rw [HADD.out, HLEN.out] <;> rfl, by rw [HADD.out, HLEN.out]; exact hc, by rw [HADD.out, HLEN.out]; exact (hS0.keep bq).keep (below_regrown wq dq osq), bel_via (bel_via b0 bq) (below_regrown wq dq osq)⟩
        · have eqb := fun W : World => (eqa W).trans (by rw [show decide (x = a) = false by simp [hE]] : Result.ok (Value.bool (decide (x = a))) W = Result.ok (Value.bool false) W)
          have HNE := Lib.hid hE
          clear eqa hE
          go_wp2_with fail
          have k_s0 := cell_regrown s0
          have k_s1 := cell_regrown s1
          have k_u0 := cell_regrown u0
          have k_u1 := cell_regrown u1
          clear s0 s1 u0 u1
          refine wp_region_quiet_below (by kernel_rfl) (by kernel_rfl) ?_
          repeat (first | go_big_quiet_skip | quiet_step (fail))
          refine wpQuiet_nil ?_
          intro _ hw'
          obtain ⟨⟨dq, osq⟩, hw''⟩ := hw'
          subst hw''
          have s0 := k_s0 dq osq
          have s1 := k_s1 dq osq
          have u0 := k_u0 dq osq
          have u1 := k_u1 dq osq
          have hownt := own_bel hownq (below_regrown wq dq osq)
          have bt : Below w0.heap.size w0 (grow (redrawn wq dq) osq) := bel_via bq (below_regrown wq dq osq)
          obtain ⟨wt, hwt⟩ : ∃ x, x = grow (redrawn wq dq) osq := ⟨_, rfl⟩
          rw [← hwt] at s0 s1 u0 u1 hownt bt ⊢
          clear hwt k_s0 k_s1 k_u0 k_u1 hownq bq eqb
          have hby : (i + 1) * 16 ≤ 140737488355328 := by omega
          have h63 : i + 1 ≤ maxLen := by unfold maxLen; omega
          have hbs : w0.heap.size ≤ (wt.alloc (.cells #[.int .u64 a.h, .int .u64 a.l] 25)).heap.size := by rw [al_size]; have := bt.size; omega
          have hownA := own_bel hownt (Below.al (Below.refl _ wt) (.cells #[.int .u64 a.h, .int .u64 a.l] 25))
          have h1 := p2_news wt a 25
          have h2 := p2_one a
          have h1 := Lib.hid h1
          have h2 := Lib.hid h2
          go_wp2_with (at_builtin; go_loud (refine wpList_append_own _ rfl _ _ 74 rfl w0.heap.size 25 iu (.agg #[.int .u64 0, .int .u64 0]) 2 16 Try.underlying74 hiu hu0 hu1 hu2 rfl (by decide) _ _ _ rfl hownA ⟨wt.heap.size, 0, none⟩ 1 1 (p2c a) rfl rfl h1.out h2.out h63 hby hbs ?_))
          intro v2 w2 hown2 hg2 _
          have bt2 : Below w0.heap.size w0 w2 := (bel_via bt (Below.al (Below.refl _ wt) _)).grown hg2 hbs (own_gt hownA)
          have hSd := (hS0.keep bt2).drop (i := i) (by omega)
          clear hg2 hownA h1 h2 hbs bt
          have hci : ¬ c = i := by omega
          have hcid : decide (c = i) = false := by simp; omega
          have hl3 : ((l.drop i).flatMap p2c).length = (n - i) * 2 := by rw [p2s_len, List.length_drop, HLEN.out]
          have h3 := hSd.news (k := 2) (fun _ => rfl) rfl
          have h4 := p2s_one (l.drop i)
          have hby3 : (i + 1 + (n - i)) * 16 ≤ 140737488355328 := by omega
          have h633 : i + 1 + (n - i) ≤ maxLen := by unfold maxLen; omega
          have hbs3 : w0.heap.size ≤ w2.heap.size := bt2.size
          have h3 := Lib.hid h3
          have h4 := Lib.hid h4
          have hl3 := Lib.hid hl3
          go_wp2_with (at_builtin; go_loud (refine wpList_append_own _ rfl _ _ 74 rfl w0.heap.size 25 iu (.agg #[.int .u64 0, .int .u64 0]) 2 16 Try.underlying74 hiu hu0 hu1 hu2 rfl (by decide) _ _ _ rfl hown2 ⟨b, off + i * 2, none⟩ (n - i) _ ((l.drop i).flatMap p2c) rfl hl3.out h3.out h4.out h633 hby3 hbs3 ?_))
          intro v3 w3 hown3 hg3 _
          have hadd := add_new (a := a) (i := i) (by omega) hF.out (fun y hy => by rw [HXS.out] at hy; cases hy; exact HX.out) (by rw [HXS.out]; intro e; cases e; exact HNE.out rfl)
          have hla : (addP l a).length = i + 1 + (n - i) := by rw [hadd]; simp [HLEN.out]; omega
          have hfl : (l.take i).flatMap p2c ++ (p2c a ++ (l.drop i).flatMap p2c) = (addP l a).flatMap p2c := by rw [hadd]; simp
          rw [hfl] at hown3
          obtain ⟨A3, c3, rfl, hS3, _⟩ := sl_of_own (k := 2) (enc := p2c) (fun _ => rfl) hown3 hla
          have hcap := own_cap hown3
          have bt3 : Below w0.heap.size w0 w3 := bt2.grown hg3 hbs3 (own_gt hown2)
          have FIN : M (.returned (.slice A3 (i + 1 + (n - i)) c3)) w3 := by
            rw [HM.out]
            exact ⟨A3, c3, by rw [hla], by rw [hla]; exact hcap, by rw [hla]; exact hS3, bel_via b0 bt3⟩
          have FIN := Lib.hid FIN
          clear hadd hla hfl hown3 hg3
          go_wp2
          exact FIN.out
    · obtain rfl : i = n := by omega
      have hd : decide (i < i) = false := by simp
      have hdi : decide ((i : Int) < (i : Int)) = false := by simp
      have htk : l.take i = l := by rw [← HLEN.out]; exact List.take_length
      rw [htk] at hown
      have HTK := Lib.hid htk
      clear hxs htk
      have hadd := add_new (a := a) (i := i) (by rw [HLEN.out]; exact Nat.le_refl _) hF.out (fun y hy => by rw [List.getElem?_eq_none (by rw [HLEN.out]; exact Nat.le_refl _)] at hy; cases hy) (by rw [List.getElem?_eq_none (by rw [HLEN.out]; exact Nat.le_refl _)]; intro e; cases e)
      rw [HTK.out, List.drop_of_length_le (by rw [HLEN.out]; exact Nat.le_refl _)] at hadd
      have HADD := Lib.hid hadd
      clear hadd
      go_wp2_with fail
      have k_z0 := cell_regrown z0
      have k_z1 := cell_regrown z1
      clear z0 z1
      refine wp_region_quiet_below (by kernel_rfl) (by kernel_rfl) ?_
      repeat (first | go_big_quiet_skip | quiet_step (fail))
      refine wpQuiet_nil ?_
      intro _ hw'
      obtain ⟨⟨dq, osq⟩, hw''⟩ := hw'
      subst hw''
      have u0 := k_z0 dq osq
      have u1 := k_z1 dq osq
      have hownq := own_bel hown (below_regrown wr dq osq)
      have bq : Below w0.heap.size w0 (grow (redrawn wr dq) osq) := bel_via bw (below_regrown wr dq osq)
      obtain ⟨wq, hwq⟩ : ∃ x, x = grow (redrawn wr dq) osq := ⟨_, rfl⟩
      rw [← hwq] at u0 u1 hownq bq ⊢
      clear hwq k_z0 k_z1 a0 hown bw
      go_wp2_with fail
      have k_u0 := cell_regrown u0
      have k_u1 := cell_regrown u1
      clear u0 u1
      refine wp_region_quiet_below (by kernel_rfl) (by kernel_rfl) ?_
      repeat (first | go_big_quiet_skip | quiet_step (fail))
      refine wpQuiet_nil ?_
      intro _ hw'
      obtain ⟨⟨dq, osq⟩, hw''⟩ := hw'
      subst hw''
      have u0 := k_u0 dq osq
      have u1 := k_u1 dq osq
      have hownt := own_bel hownq (below_regrown wq dq osq)
      have bt : Below w0.heap.size w0 (grow (redrawn wq dq) osq) := bel_via bq (below_regrown wq dq osq)
      obtain ⟨wt, hwt⟩ : ∃ x, x = grow (redrawn wq dq) osq := ⟨_, rfl⟩
      rw [← hwt] at u0 u1 hownt bt ⊢
      clear hwt k_u0 k_u1 hownq bq
      have hby : (i + 1) * 16 ≤ 140737488355328 := by omega
      have h63 : i + 1 ≤ maxLen := by unfold maxLen; omega
      have hbs : w0.heap.size ≤ (wt.alloc (.cells #[.int .u64 a.h, .int .u64 a.l] 25)).heap.size := by rw [al_size]; have := bt.size; omega
      have hownA := own_bel hownt (Below.al (Below.refl _ wt) (.cells #[.int .u64 a.h, .int .u64 a.l] 25))
      have h1 := p2_news wt a 25
      have h2 := p2_one a
      have h1 := Lib.hid h1
      have h2 := Lib.hid h2
      go_wp2_with (at_builtin; go_loud (refine wpList_append_own _ rfl _ _ 74 rfl w0.heap.size 25 iu (.agg #[.int .u64 0, .int .u64 0]) 2 16 Try.underlying74 hiu hu0 hu1 hu2 rfl (by decide) _ _ _ rfl hownA ⟨wt.heap.size, 0, none⟩ 1 1 (p2c a) rfl rfl h1.out h2.out h63 hby hbs ?_))
      intro v2 w2 hown2 hg2 _
      have bt2 : Below w0.heap.size w0 w2 := (bel_via bt (Below.al (Below.refl _ wt) _)).grown hg2 hbs (own_gt hownA)
      have hla : (addP l a).length = i + 1 := by rw [HADD.out]; simp [HLEN.out]
      have hfl : l.flatMap p2c ++ p2c a = (addP l a).flatMap p2c := by rw [HADD.out]; simp
      rw [hfl] at hown2
      clear hg2 hownA h1 h2 hbs bt
      have FIN : ∀ v3 w3, w3.ownsRow w0.heap.size 25 2 v3 (i + 1) ((addP l a).flatMap p2c) → Below w0.heap.size w0 w3 → M (.returned v3) w3 := by
        intro v3 w3 hown3 bt3
        obtain ⟨A3, c3, rfl, hS3, _⟩ := sl_of_own (k := 2) (enc := p2c) (fun _ => rfl) hown3 hla
        have hcap := own_cap hown3
        rw [HM.out]
        exact ⟨A3, c3, by rw [hla], by rw [hla]; exact hcap, by rw [hla]; exact hS3, bel_via b0 bt3⟩
      have FIN := Lib.hid FIN
      have hgl : ∀ w3, w2.grownBy w3 v2.ownBlock → Below w0.heap.size w0 w3 := fun w3 hg3 => bt2.grown hg3 bt2.size (own_gt hown2)
      have hgl := Lib.hid hgl
      clear hfl hla
      have hby0 : (i + 1 + 0) * 16 ≤ 140737488355328 := by omega
      have h630 : i + 1 + 0 ≤ maxLen := by unfold maxLen; omega
      have hbs0 : w0.heap.size ≤ w2.heap.size := bt2.size
      cases A with
      | none =>
        have e0 : c = 0 := hAc rfl
        subst e0
        obtain rfl : i = 0 := by omega
        have F := FIN.out v2 w2 hown2 bt2
        have F := Lib.hid F
        go_wp2_with (at_builtin; go_loud (refine wpList_append_own_none rfl _ _ 74 rfl w0.heap.size 25 iu 2 Try.underlying74 hiu _ _ _ rfl hown2 rfl ?_))
        exact F.out
      | some ad =>
        by_cases hci : c = i
        · subst hci
          go_wp2_with (at_builtin; go_loud (refine wpList_append_own _ rfl _ _ 74 rfl w0.heap.size 25 iu (.agg #[.int .u64 0, .int .u64 0]) 2 16 Try.underlying74 hiu hu0 hu1 hu2 rfl (by decide) _ _ _ rfl hown2 ad 0 _ [] rfl rfl (fun j u hj => by simp at hj) (fun u hu => by simp at hu) h630 hby0 hbs0 ?_))
          intro v3 w3 hown3 hg3 _
          have F := FIN.out v3 w3 (by simpa using hown3) (hgl.out w3 hg3)
          have F := Lib.hid F
          clear hown3 hg3
          go_wp2
          exact F.out
        · have hcid : decide (c = i) = false := by simp [hci]
          go_wp2_with (at_builtin; go_loud (refine wpList_append_own _ rfl _ _ 74 rfl w0.heap.size 25 iu (.agg #[.int .u64 0, .int .u64 0]) 2 16 Try.underlying74 hiu hu0 hu1 hu2 rfl (by decide) _ _ _ rfl hown2 _ 0 _ [] rfl rfl (fun j u hj => by simp at hj) (fun u hu => by simp at hu) h630 hby0 hbs0 ?_))
          intro v3 w3 hown3 hg3 _
          have F := FIN.out v3 w3 (by simpa using hown3) (hgl.out w3 hg3)
          have F := Lib.hid F
          clear hown3 hg3
          go_wp2
          exact F.out
end Go.Proofs.Ytomennaekjklbaa
