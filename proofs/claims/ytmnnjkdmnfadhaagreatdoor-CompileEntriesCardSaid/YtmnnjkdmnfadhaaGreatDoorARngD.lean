/- A range is printed: the document's own way; by-name template. -/
import Derived.Test.YtmnnjkdmnfadhaaGreatDoorARngC
import Derived.Test.YtmnnjkdmnfadhaaGreatDoorARPrint
namespace Go.Proofs.YtmnnjkdmnfadhaaGreatDoor
open Go.RowKit Go.Sort
set_option linter.unusedVariables false
set_option linter.unusedSimpArgs false

theorem cmp_flip (ah al bh bl : Int) : decide (cmpA bh bl ah al < 0) = decide (0 < cmpA ah al bh bl) := by
  rw [cmpA_cases, cmpA_cases]
  apply decide_eq_decide.2
  split <;> split <;> (try split) <;> (try split) <;> omega

theorem rless_any (ah al bh bl : Int) (w : World) : Calls Tryz.prog 125 #[.agg #[.int .u64 ah, .int .u64 al], .agg #[.int .u64 bh, .int .u64 bl]] w fun e w' => e = .returned (.bool (decide (cmpA ah al bh bl < 0))) ∧ Below w.heap.size w w' := by
  have cc := rcmp_any ah al bh bl
  generalize cmpA ah al bh bl = c at cc
  by_cases h : c < 0
  · have e : decide (c < 0) = true := by simp [h]
    rw [e]
    go_enter Tryz.func125, Tryz.ntmps125
    go_wp2_with (go_at_call 155; refine (cc _).mono ?_; rintro e w2 ⟨rfl, hb2⟩)
    go_ret
    exact ⟨by simp [h], bel_via (Below.al (Below.al (Below.refl _ _) _) _) hb2⟩
  · have e : decide (c < 0) = false := by simp [h]
    rw [e]
    go_enter Tryz.func125, Tryz.ntmps125
    go_wp2_with (go_at_call 155; refine (cc _).mono ?_; rintro e w2 ⟨rfl, hb2⟩)
    go_ret
    exact ⟨by simp [h], bel_via (Below.al (Below.al (Below.refl _ _) _) _) hb2⟩

set_option maxHeartbeats 400000 in
set_option maxRecDepth 100000 in
theorem rprange_bad (fh fl th tl : Nat) (h0 : fh < 18446744073709551616) (h1 : fl < 18446744073709551616) (h2 : th < 18446744073709551616) (h3 : tl < 18446744073709551616) (hc : 0 < cmpA (fh : Int) fl th tl ∨ is4I (fh : Int) fl ≠ is4I (th : Int) tl) (w : World) : Calls Tryz.prog 83 #[.agg #[.int .u64 (fh : Nat), .int .u64 (fl : Nat), .int .u64 (th : Nat), .int .u64 (tl : Nat)]] w fun e w' => e = .returned (.tuple #[.string ByteArray.empty, .int .i64 31]) ∧ Below w.heap.size w w' := by
  have ccm := rless_any (th : Int) (tl : Int) (fh : Int) (fl : Int)
  have ci1 := ris4_any (fh : Int) (fl : Int) ⟨by omega, by omega⟩ ⟨by omega, by omega⟩
  have ci2 := ris4_any (th : Int) (tl : Int) ⟨by omega, by omega⟩ ⟨by omega, by omega⟩
  rw [cmp_flip] at ccm
  obtain ⟨lv, hle⟩ : ∃ l, l = decide (0 < cmpA (fh : Int) fl th tl) := ⟨_, rfl⟩
  have hc : lv = true ∨ is4I (fh : Int) fl ≠ is4I (th : Int) tl := by rcases hc with h | h; left; rw [hle]; simp [h]; exact .inr h
  rw [← hle] at ccm
  obtain ⟨i1, hie⟩ : ∃ i, i = is4I (fh : Int) fl := ⟨_, rfl⟩
  obtain ⟨i2, hie2⟩ : ∃ i, i = is4I (th : Int) tl := ⟨_, rfl⟩
  rw [← hie] at ci1 hc
  rw [← hie2] at ci2 hc
  clear hle hie hie2
  have f0 : (fh : Int) < 18446744073709551616 := by omega
  have f1 : (fl : Int) < 18446744073709551616 := by omega
  have f2 : (th : Int) < 18446744073709551616 := by omega
  have f3 : (tl : Int) < 18446744073709551616 := by omega
  go_enter Tryz.func83, Tryz.ntmps83
  go_wp2
  obtain ⟨w1, hw1⟩ : ∃ v, v = w.alloc (.cells #[.int .u64 (fh : Nat), .int .u64 (fl : Nat), .int .u64 (th : Nat), .int .u64 (tl : Nat)] 45) := ⟨_, rfl⟩
  have bw1 : Below w.heap.size w w1 := by rw [hw1]; exact Below.al (Below.refl _ _) _
  have hR1 : w1.heap[w.heap.size]? = some (.cells #[.int .u64 (fh : Nat), .int .u64 (fl : Nat), .int .u64 (th : Nat), .int .u64 (tl : Nat)] 45 (0, 0)) := by rw [hw1]; exact al_new rfl _
  obtain ⟨BR, hBR⟩ : ∃ b, b = w.heap.size := ⟨_, rfl⟩
  rw [← hw1, ← hBR]
  rw [← hBR] at hR1
  have hlt1 : BR < w1.heap.size := (Array.getElem?_eq_some_iff.1 hR1).1
  obtain ⟨c0, c1, c2, c3⟩ := rcells_of hR1
  have k0 := cell_regrown c0
  have k1 := cell_regrown c1
  have k2 := cell_regrown c2
  have k3 := cell_regrown c3
  have qm := fun d os => Calls.regrown_of (ccm (grow (redrawn w1 d) os))
  have q1 := fun d os => Calls.regrown_of (ci1 (grow (redrawn w1 d) os))
  have q2 := fun d os => Calls.regrown_of (ci2 (grow (redrawn w1 d) os))
  clear hw1 hBR c0 c1 c2 c3 ccm ci1 ci2
  cases lv with
  | true =>
    clear hc
    refine wp_region_quiet_below (by kernel_rfl) (by kernel_rfl) ?_
    repeat (first | go_big_quiet_skip | quiet_step (first | (go_at_call 125; with_reducible exact qm _ _) | (go_at_call_of 88 (Value.agg #[Value.int IntKind.u64 (fh : Int), Value.int IntKind.u64 (fl : Int)]); with_reducible exact q1 _ _) | (go_at_call 88; with_reducible exact q2 _ _)))
    refine wpQuiet_nil ?_
    intro _ hw'
    obtain ⟨⟨dq, osq⟩, hw''⟩ := hw'
    subst hw''
    go_wp2
    go_ret2
    exact ⟨rfl, bel_via bw1 (below_regrown w1 dq osq)⟩
  | false =>
    have hne : i1 ≠ i2 := by rcases hc with h | h; cases h; exact h
    clear hc
    cases i1 with
    | false =>
      cases i2 with
      | false => exact absurd rfl hne
      | true =>
        clear hne
        refine wp_region_quiet_below (by kernel_rfl) (by kernel_rfl) ?_
        repeat (first | go_big_quiet_skip | quiet_step (first | (go_at_call 125; with_reducible exact qm _ _) | (go_at_call_of 88 (Value.agg #[Value.int IntKind.u64 (fh : Int), Value.int IntKind.u64 (fl : Int)]); with_reducible exact q1 _ _) | (go_at_call 88; with_reducible exact q2 _ _)))
        refine wpQuiet_nil ?_
        intro _ hw'
        obtain ⟨⟨dq, osq⟩, hw''⟩ := hw'
        subst hw''
        go_wp2
        go_ret2
        exact ⟨rfl, bel_via bw1 (below_regrown w1 dq osq)⟩
    | true =>
      cases i2 with
      | true => exact absurd rfl hne
      | false =>
        clear hne
        refine wp_region_quiet_below (by kernel_rfl) (by kernel_rfl) ?_
        repeat (first | go_big_quiet_skip | quiet_step (first | (go_at_call 125; with_reducible exact qm _ _) | (go_at_call_of 88 (Value.agg #[Value.int IntKind.u64 (fh : Int), Value.int IntKind.u64 (fl : Int)]); with_reducible exact q1 _ _) | (go_at_call 88; with_reducible exact q2 _ _)))
        refine wpQuiet_nil ?_
        intro _ hw'
        obtain ⟨⟨dq, osq⟩, hw''⟩ := hw'
        subst hw''
        go_wp2
        go_ret2
        exact ⟨rfl, bel_via bw1 (below_regrown w1 dq osq)⟩

theorem next_no {k : Nat} {P : Nat → Prop} (h : ∀ m, m < k → P m) (hk : P k) : ∀ m, m < k + 1 → P m := fun m hm => by
  by_cases e : m = k
  · subst e; exact hk
  · exact h m (by omega)
theorem all_no {fh fl : Int} {t : Int × Int} (h : ∀ m : Nat, m < 129 → preV fh fl (m : Int) ≠ some t) (m : Int) : preV fh fl m ≠ some t := fun hm => by
  obtain ⟨h0, h1⟩ := preV_bd hm
  have := h m.toNat (by omega)
  rw [show ((m.toNat : Nat) : Int) = m by omega] at this
  exact this hm

set_option maxHeartbeats 1000000 in
set_option maxRecDepth 100000 in
theorem rprange_ok (fh fl th tl : Nat) (h0 : fh < 18446744073709551616) (h1 : fl < 18446744073709551616) (h2 : th < 18446744073709551616) (h3 : tl < 18446744073709551616) (hc : cmpA (fh : Int) fl th tl ≤ 0) (hi : is4I (fh : Int) fl = is4I (th : Int) tl) (w : World) : Calls Tryz.prog 83 #[.agg #[.int .u64 (fh : Nat), .int .u64 (fl : Nat), .int .u64 (th : Nat), .int .u64 (tl : Nat)]] w (RtxtPost fh fl th tl w) := by
  have ccm := rless_any (th : Int) (tl : Int) (fh : Int) (fl : Int)
  have ci1 := ris4_any (fh : Int) (fl : Int) ⟨by omega, by omega⟩ ⟨by omega, by omega⟩
  have ci2 := ris4_any (th : Int) (tl : Int) ⟨by omega, by omega⟩ ⟨by omega, by omega⟩
  rw [cmp_flip, show decide (0 < cmpA (fh : Int) fl th tl) = false by simp; omega] at ccm
  rw [← hi] at ci2
  obtain ⟨i1, hie⟩ : ∃ i, i = is4I (fh : Int) fl := ⟨_, rfl⟩
  rw [← hie] at ci1 ci2
  clear hie hi hc
  have cp1 := fun (W : World) => rprint_any fh fl h0 h1 (w := W)
  have cp2 := fun (W : World) => rprint_any th tl h2 h3 (w := W)
  have cpf := fun (n : Int) (ha : 0 ≤ n) (hb : n ≤ 128) (W : World) => rpre_any (fh : Int) (fl : Int) n ⟨by omega, by omega⟩ ⟨by omega, by omega⟩ (by omega) (by omega) W
  have l1 := len_print (a := fh) (b := fl)
  have l2 := len_print (a := th) (b := tl)
  obtain ⟨P1, hP1⟩ : ∃ P, P = printA fh fl := ⟨_, rfl⟩
  obtain ⟨P2, hP2⟩ : ∃ P, P = printA th tl := ⟨_, rfl⟩
  rw [← hP1] at cp1 l1
  rw [← hP2] at cp2 l2
  have HP := Lib.hid (show P1 = printA fh fl ∧ P2 = printA th tl from ⟨hP1, hP2⟩)
  clear hP1 hP2
  have f0 : (fh : Int) < 18446744073709551616 := by omega
  have f1 : (fl : Int) < 18446744073709551616 := by omega
  have f2 : (th : Int) < 18446744073709551616 := by omega
  have f3 : (tl : Int) < 18446744073709551616 := by omega
  go_enter Tryz.func83, Tryz.ntmps83
  go_wp2
  obtain ⟨w1, hw1⟩ : ∃ v, v = w.alloc (.cells #[.int .u64 (fh : Nat), .int .u64 (fl : Nat), .int .u64 (th : Nat), .int .u64 (tl : Nat)] 45) := ⟨_, rfl⟩
  have bw1 : Below w.heap.size w w1 := by rw [hw1]; exact Below.al (Below.refl _ _) _
  have hR1 : w1.heap[w.heap.size]? = some (.cells #[.int .u64 (fh : Nat), .int .u64 (fl : Nat), .int .u64 (th : Nat), .int .u64 (tl : Nat)] 45 (0, 0)) := by rw [hw1]; exact al_new rfl _
  obtain ⟨BR, hBR⟩ : ∃ b, b = w.heap.size := ⟨_, rfl⟩
  rw [← hw1, ← hBR]
  rw [← hBR] at hR1
  have hlt1 : BR < w1.heap.size := (Array.getElem?_eq_some_iff.1 hR1).1
  obtain ⟨c0, c1, c2, c3⟩ := rcells_of hR1
  have k0 := cell_regrown c0
  have k1 := cell_regrown c1
  have k2 := cell_regrown c2
  have k3 := cell_regrown c3
  have qm := fun d os => Calls.regrown_of (ccm (grow (redrawn w1 d) os))
  have q1 := fun d os => Calls.regrown_of (ci1 (grow (redrawn w1 d) os))
  have q2 := fun d os => Calls.regrown_of (ci2 (grow (redrawn w1 d) os))
  clear hw1 hBR c0 c1 c2 c3 ccm ci1 ci2
  cases i1 with
  | false =>
    have h45 : ∀ W, (Op.stringOp .add ⟨P1.toArray⟩ ⟨#[45]⟩).run Tryz.prog W = .ok (.string ⟨(P1 ++ [45]).toArray⟩) W := fun W => run_string_add_lists W P1 [45] (by omega) (by simp)
    have hcat : ∀ W, (Op.stringOp .add ⟨(P1 ++ [45]).toArray⟩ ⟨P2.toArray⟩).run Tryz.prog W = .ok (.string ⟨(P1 ++ [45] ++ P2).toArray⟩) W := fun W => run_string_add_lists W (P1 ++ [45]) P2 (by simp; omega) (by omega)
    refine wp_region_quiet_below (by kernel_rfl) (by kernel_rfl) ?_
    repeat (first | go_big_quiet_skip | quiet_step (first | (go_at_call 125; with_reducible exact qm _ _) | (go_at_call_of 88 (Value.agg #[Value.int IntKind.u64 (fh : Int), Value.int IntKind.u64 (fl : Int)]); with_reducible exact q1 _ _) | (go_at_call 88; with_reducible exact q2 _ _)))
    refine wpQuiet_nil ?_
    intro _ hw'
    obtain ⟨⟨dq, osq⟩, hw''⟩ := hw'
    subst hw''
    obtain ⟨w2, hw2⟩ : ∃ v, v = grow (redrawn w1 dq) osq := ⟨_, rfl⟩
    have b12 : Below w1.heap.size w1 w2 := by rw [hw2]; exact below_regrown w1 dq osq
    have hR2 : w2.heap[BR]? = some (.cells #[.int .u64 (fh : Nat), .int .u64 (fl : Nat), .int .u64 (th : Nat), .int .u64 (tl : Nat)] 45 (0, 0)) := by rw [b12.block _ hlt1]; exact hR1
    have bw2 := bel_via bw1 b12
    rw [← hw2]
    clear hw2 b12 hR1 k0 k1 k2 k3 qm q1 q2 bw1 hlt1
    obtain ⟨c0, c1, c2, c3⟩ := rcells_of hR2
    by_cases e12 : fh = th ∧ fl = tl
    · obtain ⟨e1, e2⟩ := e12
      subst e1; subst e2
      clear cp2 cpf
      go_wp2_with (go_at_call 126; refine (cp1 _).mono ?_; rintro e w3 ⟨rfl, hb3⟩)
      go_ret2
      exact ⟨⟨P1.toArray⟩, rfl, bel_via bw2 hb3, .inl ⟨rfl, rfl, by rw [← HP.out.1]⟩⟩
    · have hA : ((fh : Int) == (th : Int)) = false ∨ ((fh : Int) = (th : Int) ∧ ((fl : Int) == (tl : Int)) = false) := by
        by_cases e : fh = th
        · right; exact ⟨by omega, by rw [beq_eq_false_iff_ne]; intro e2; exact e12 ⟨e, by omega⟩⟩
        · left; rw [beq_eq_false_iff_ne]; omega
      have key : (Value.agg #[Value.int .u64 (fh : Int), Value.int .u64 (fl : Int)] = Value.agg #[Value.int .u64 (th : Int), Value.int .u64 (tl : Int)]) = False := by
        simp only [eq_iff_iff, iff_false]
        intro h
        simp at h
        exact e12 ⟨by omega, by omega⟩
      have hb1 : ((fh == th) && (fl == tl)) = false := by
        cases h : ((fh == th) && (fl == tl)) with
        | false => rfl
        | true => simp at h; exact absurd h e12
      clear hA key
      by_cases e1 : fh = th
      · have e2 : fl ≠ tl := fun e => e12 ⟨e1, e⟩
        have hA1 : ((fl : Int) == (tl : Int)) = false := by rw [beq_eq_false_iff_ne]; omega
        have hA2 : (fl == tl) = false := by rw [beq_eq_false_iff_ne]; exact e2
        subst e1
        clear e12 hb1 e2
        go_wp2
        go_loopw [4] (fun v4 wr => ∃ k : Nat, v4 = .int .i64 k ∧ k ≤ 129 ∧ Below w.heap.size w wr ∧ wr.heap[BR]? = some (.cells #[.int .u64 (fh : Nat), .int .u64 (fl : Nat), .int .u64 (fh : Nat), .int .u64 (tl : Nat)] 45 (0, 0)) ∧ Aside (∀ m : Nat, m < k → preV (fh : Int) (fl : Int) (m : Int) ≠ some ((fh : Int), (tl : Int)))) (fun v4 _ => 129 - (intOf v4).toNat)
        case atStart => exact ⟨0, rfl, by omega, bw2, hR2, fun m hm => absurd hm (Nat.not_lt_zero _)⟩
        case round =>
          obtain ⟨k, rfl, hk, hbr, hRr, N⟩ := hrel
          obtain ⟨d0, d1, d2, d3⟩ := rcells_of hRr
          have hltr : BR < wr.heap.size := (Array.getElem?_eq_some_iff.1 hRr).1
          clear c0 c1 c2 c3
          by_cases hk8 : k ≤ 128
          · have hki : (k : Int) ≤ 128 := by omega
            have cpk := cpf (k : Int) (by omega) hki
            cases hp : preV (fh : Int) (fl : Int) (k : Int) with
            | none =>
              have e : preT (fh : Int) (fl : Int) (k : Int) = .tuple #[.agg #[.int .u64 0, .int .u64 0, .int .u64 0, .int .u64 0], .int .i64 31] := by unfold preT; rw [hp]
              rw [e] at cpk
              have HPk := Lib.hid hp
              clear hp e cpf
              go_wp2_with (go_at_call 87; refine (cpk _).mono ?_; rintro e w3 ⟨rfl, hb3⟩)
              refine ⟨⟨k + 1, by simp, by omega, Below.al (bel_via hbr hb3) _, ?_, next_no N.out (by rw [HPk.out]; simp)⟩, by simp [intOf]; omega⟩
              have hs := hb3.size
              rw [al_old (by omega), hb3.block _ hltr]; exact hRr
            | some x =>
              have e : preT (fh : Int) (fl : Int) (k : Int) = .tuple #[.agg #[.int .u64 (fh : Int), .int .u64 (fl : Int), .int .u64 x.1, .int .u64 x.2], .int .i64 0] := by unfold preT; rw [hp]
              rw [e] at cpk
              have HPk := Lib.hid hp
              clear hp e cpf
              obtain ⟨x1, x2⟩ := x
              simp only at cpk
              by_cases ex : x1 = (fh : Int) ∧ x2 = (tl : Int)
              · obtain ⟨ex1, ex2⟩ := ex
                subst ex1; subst ex2
                have cd := fun W => rdigs10 k (by omega) W
                have ld := digs10_len (n := k) 2 (by omega)
                obtain ⟨D, hD⟩ : ∃ D, D = digs 10 k := ⟨_, rfl⟩
                rw [← hD] at cd ld
                have HDk := Lib.hid hD
                clear hD
                have h47 : ∀ W, (Op.stringOp .add ⟨P1.toArray⟩ ⟨#[47]⟩).run Tryz.prog W = .ok (.string ⟨(P1 ++ [47]).toArray⟩) W := fun W => run_string_add_lists W P1 [47] (by omega) (by simp)
                have hcat : ∀ W, (Op.stringOp .add ⟨(P1 ++ [47]).toArray⟩ ⟨D.toArray⟩).run Tryz.prog W = .ok (.string ⟨(P1 ++ [47] ++ D).toArray⟩) W := fun W => run_string_add_lists W (P1 ++ [47]) D (by simp; omega) (by omega)
                clear cp2
                go_wp2_with (go_at_call 87; refine (cpk _).mono ?_; rintro e w3 ⟨rfl, hb3⟩; refine Hid.out ?_)
                have bw3 := bel_via hbr hb3
                have g0 := fun o => keepc (Below.al (Below.refl _ w3) o) (keepc hb3 d0)
                have g1 := fun o => keepc (Below.al (Below.refl _ w3) o) (keepc hb3 d1)
                have g2 := fun o => keepc (Below.al (Below.refl _ w3) o) (keepc hb3 d2)
                have g3 := fun o => keepc (Below.al (Below.refl _ w3) o) (keepc hb3 d3)
                clear d0 d1 d2 d3 hb3 cpk
                refine Lib.hid ?_
                go_wp2_with (first
                  | (go_at_call 126; refine (cp1 _).mono ?_; rintro e w4 ⟨rfl, hb4⟩)
                  | (go_at_call 127; refine (cd _).mono ?_; rintro e w5 ⟨rfl, m5, rfl⟩))
                go_ret2
                exact ⟨⟨(P1 ++ 47 :: D).toArray⟩, rfl, Below.drN (bel_via (Below.al bw3 _) hb4) _, .inr (.inl ⟨k, by omega, HPk.out, by rw [← HP.out.1, ← HDk.out], fun h => by first | (simp [h.1] at hA2; done) | (simp [h.2] at hA2; done)⟩)⟩
              · have hcase : (x1 == (fh : Int)) = false ∨ (x1 = (fh : Int) ∧ (x2 == (tl : Int)) = false) := by
                  by_cases e : x1 = (fh : Int)
                  · right; exact ⟨e, by rw [beq_eq_false_iff_ne]; intro e2; exact ex ⟨e, e2⟩⟩
                  · left; rw [beq_eq_false_iff_ne]; exact e
                clear ex
                rcases hcase with hx1 | ⟨hx0, hx2⟩
                · go_wp2_with (go_at_call 87; refine (cpk _).mono ?_; rintro e w3 ⟨rfl, hb3⟩; refine Hid.out ?_)
                  have bw3 := bel_via hbr hb3
                  have hRr3 : w3.heap[BR]? = some (.cells #[.int .u64 (fh : Nat), .int .u64 (fl : Nat), .int .u64 (fh : Nat), .int .u64 (tl : Nat)] 45 (0, 0)) := by rw [hb3.block _ hltr]; exact hRr
                  have hs3 : BR < w3.heap.size := (Array.getElem?_eq_some_iff.1 hRr3).1
                  have g0 := fun o => keepc (Below.al (Below.refl _ w3) o) (keepc hb3 d0)
                  have g1 := fun o => keepc (Below.al (Below.refl _ w3) o) (keepc hb3 d1)
                  have g2 := fun o => keepc (Below.al (Below.refl _ w3) o) (keepc hb3 d2)
                  have g3 := fun o => keepc (Below.al (Below.refl _ w3) o) (keepc hb3 d3)
                  clear d0 d1 d2 d3 hb3 cpk hRr hbr
                  refine Lib.hid ?_
                  go_wp2
                  refine ⟨⟨k + 1, by simp, by omega, Below.al bw3 _, ?_, next_no N.out (by rw [HPk.out]; intro hq; simp at hq; simp [hq] at hx1)⟩, by simp [intOf]; omega⟩
                  rw [al_old hs3]; exact hRr3
                · subst hx0
                  go_wp2_with (go_at_call 87; refine (cpk _).mono ?_; rintro e w3 ⟨rfl, hb3⟩; refine Hid.out ?_)
                  have bw3 := bel_via hbr hb3
                  have hRr3 : w3.heap[BR]? = some (.cells #[.int .u64 (fh : Nat), .int .u64 (fl : Nat), .int .u64 (fh : Nat), .int .u64 (tl : Nat)] 45 (0, 0)) := by rw [hb3.block _ hltr]; exact hRr
                  have hs3 : BR < w3.heap.size := (Array.getElem?_eq_some_iff.1 hRr3).1
                  have g0 := fun o => keepc (Below.al (Below.refl _ w3) o) (keepc hb3 d0)
                  have g1 := fun o => keepc (Below.al (Below.refl _ w3) o) (keepc hb3 d1)
                  have g2 := fun o => keepc (Below.al (Below.refl _ w3) o) (keepc hb3 d2)
                  have g3 := fun o => keepc (Below.al (Below.refl _ w3) o) (keepc hb3 d3)
                  clear d0 d1 d2 d3 hb3 cpk hRr hbr
                  refine Lib.hid ?_
                  go_wp2
                  refine ⟨⟨k + 1, by simp, by omega, Below.al bw3 _, ?_, next_no N.out (by rw [HPk.out]; intro hq; simp at hq; simp [hq] at hx2)⟩, by simp [intOf]; omega⟩
                  rw [al_old hs3]; exact hRr3
          · obtain rfl : k = 129 := by omega
            have hki : decide (((129 : Nat) : Int) ≤ 128) = false := by decide
            have g0 := cell_regrown d0
            have g1 := cell_regrown d1
            have g2 := cell_regrown d2
            have g3 := cell_regrown d3
            have q1 := fun d os => Calls.regrown_of (cp1 (grow (redrawn wr d) os))
            have q2 := fun d os => Calls.regrown_of (cp2 (grow (redrawn wr d) os))
            clear d0 d1 d2 d3 cpf cp1 cp2
            go_wp2
            refine wp_region_quiet_below (by kernel_rfl) (by kernel_rfl) ?_
            repeat (first | go_big_quiet_skip | quiet_step (first | (go_at_call_of 126 (Value.agg #[Value.int IntKind.u64 (fh : Int), Value.int IntKind.u64 (fl : Int)]); with_reducible exact q1 _ _) | (go_at_call 126; with_reducible exact q2 _ _)))
            refine wpQuiet_nil ?_
            intro _ hw'
            obtain ⟨⟨dr, osr⟩, hw''⟩ := hw'
            subst hw''
            go_wp2
            go_ret2
            exact ⟨⟨(P1 ++ 45 :: P2).toArray⟩, rfl, bel_via hbr (below_regrown wr dr osr), .inr (.inr ⟨by rw [← HP.out.1, ← HP.out.2], all_no N.out⟩)⟩
      · have hA1 : ((fh : Int) == (th : Int)) = false := by rw [beq_eq_false_iff_ne]; omega
        have hA2 : (fh == th) = false := by rw [beq_eq_false_iff_ne]; exact e1
        clear e12 hb1 e1
        go_wp2
        go_loopw [4] (fun v4 wr => ∃ k : Nat, v4 = .int .i64 k ∧ k ≤ 129 ∧ Below w.heap.size w wr ∧ wr.heap[BR]? = some (.cells #[.int .u64 (fh : Nat), .int .u64 (fl : Nat), .int .u64 (th : Nat), .int .u64 (tl : Nat)] 45 (0, 0)) ∧ Aside (∀ m : Nat, m < k → preV (fh : Int) (fl : Int) (m : Int) ≠ some ((th : Int), (tl : Int)))) (fun v4 _ => 129 - (intOf v4).toNat)
        case atStart => exact ⟨0, rfl, by omega, bw2, hR2, fun m hm => absurd hm (Nat.not_lt_zero _)⟩
        case round =>
          obtain ⟨k, rfl, hk, hbr, hRr, N⟩ := hrel
          obtain ⟨d0, d1, d2, d3⟩ := rcells_of hRr
          have hltr : BR < wr.heap.size := (Array.getElem?_eq_some_iff.1 hRr).1
          clear c0 c1 c2 c3
          by_cases hk8 : k ≤ 128
          · have hki : (k : Int) ≤ 128 := by omega
            have cpk := cpf (k : Int) (by omega) hki
            cases hp : preV (fh : Int) (fl : Int) (k : Int) with
            | none =>
              have e : preT (fh : Int) (fl : Int) (k : Int) = .tuple #[.agg #[.int .u64 0, .int .u64 0, .int .u64 0, .int .u64 0], .int .i64 31] := by unfold preT; rw [hp]
              rw [e] at cpk
              have HPk := Lib.hid hp
              clear hp e cpf
              go_wp2_with (go_at_call 87; refine (cpk _).mono ?_; rintro e w3 ⟨rfl, hb3⟩)
              refine ⟨⟨k + 1, by simp, by omega, Below.al (bel_via hbr hb3) _, ?_, next_no N.out (by rw [HPk.out]; simp)⟩, by simp [intOf]; omega⟩
              have hs := hb3.size
              rw [al_old (by omega), hb3.block _ hltr]; exact hRr
            | some x =>
              have e : preT (fh : Int) (fl : Int) (k : Int) = .tuple #[.agg #[.int .u64 (fh : Int), .int .u64 (fl : Int), .int .u64 x.1, .int .u64 x.2], .int .i64 0] := by unfold preT; rw [hp]
              rw [e] at cpk
              have HPk := Lib.hid hp
              clear hp e cpf
              obtain ⟨x1, x2⟩ := x
              simp only at cpk
              by_cases ex : x1 = (th : Int) ∧ x2 = (tl : Int)
              · obtain ⟨ex1, ex2⟩ := ex
                subst ex1; subst ex2
                have cd := fun W => rdigs10 k (by omega) W
                have ld := digs10_len (n := k) 2 (by omega)
                obtain ⟨D, hD⟩ : ∃ D, D = digs 10 k := ⟨_, rfl⟩
                rw [← hD] at cd ld
                have HDk := Lib.hid hD
                clear hD
                have h47 : ∀ W, (Op.stringOp .add ⟨P1.toArray⟩ ⟨#[47]⟩).run Tryz.prog W = .ok (.string ⟨(P1 ++ [47]).toArray⟩) W := fun W => run_string_add_lists W P1 [47] (by omega) (by simp)
                have hcat : ∀ W, (Op.stringOp .add ⟨(P1 ++ [47]).toArray⟩ ⟨D.toArray⟩).run Tryz.prog W = .ok (.string ⟨(P1 ++ [47] ++ D).toArray⟩) W := fun W => run_string_add_lists W (P1 ++ [47]) D (by simp; omega) (by omega)
                clear cp2
                go_wp2_with (go_at_call 87; refine (cpk _).mono ?_; rintro e w3 ⟨rfl, hb3⟩; refine Hid.out ?_)
                have bw3 := bel_via hbr hb3
                have g0 := fun o => keepc (Below.al (Below.refl _ w3) o) (keepc hb3 d0)
                have g1 := fun o => keepc (Below.al (Below.refl _ w3) o) (keepc hb3 d1)
                have g2 := fun o => keepc (Below.al (Below.refl _ w3) o) (keepc hb3 d2)
                have g3 := fun o => keepc (Below.al (Below.refl _ w3) o) (keepc hb3 d3)
                clear d0 d1 d2 d3 hb3 cpk
                refine Lib.hid ?_
                go_wp2_with (first
                  | (go_at_call 126; refine (cp1 _).mono ?_; rintro e w4 ⟨rfl, hb4⟩)
                  | (go_at_call 127; refine (cd _).mono ?_; rintro e w5 ⟨rfl, m5, rfl⟩))
                go_ret2
                exact ⟨⟨(P1 ++ 47 :: D).toArray⟩, rfl, Below.drN (bel_via (Below.al bw3 _) hb4) _, .inr (.inl ⟨k, by omega, HPk.out, by rw [← HP.out.1, ← HDk.out], fun h => by first | (simp [h.1] at hA2; done) | (simp [h.2] at hA2; done)⟩)⟩
              · have hcase : (x1 == (th : Int)) = false ∨ (x1 = (th : Int) ∧ (x2 == (tl : Int)) = false) := by
                  by_cases e : x1 = (th : Int)
                  · right; exact ⟨e, by rw [beq_eq_false_iff_ne]; intro e2; exact ex ⟨e, e2⟩⟩
                  · left; rw [beq_eq_false_iff_ne]; exact e
                clear ex
                rcases hcase with hx1 | ⟨hx0, hx2⟩
                · go_wp2_with (go_at_call 87; refine (cpk _).mono ?_; rintro e w3 ⟨rfl, hb3⟩; refine Hid.out ?_)
                  have bw3 := bel_via hbr hb3
                  have hRr3 : w3.heap[BR]? = some (.cells #[.int .u64 (fh : Nat), .int .u64 (fl : Nat), .int .u64 (th : Nat), .int .u64 (tl : Nat)] 45 (0, 0)) := by rw [hb3.block _ hltr]; exact hRr
                  have hs3 : BR < w3.heap.size := (Array.getElem?_eq_some_iff.1 hRr3).1
                  have g0 := fun o => keepc (Below.al (Below.refl _ w3) o) (keepc hb3 d0)
                  have g1 := fun o => keepc (Below.al (Below.refl _ w3) o) (keepc hb3 d1)
                  have g2 := fun o => keepc (Below.al (Below.refl _ w3) o) (keepc hb3 d2)
                  have g3 := fun o => keepc (Below.al (Below.refl _ w3) o) (keepc hb3 d3)
                  clear d0 d1 d2 d3 hb3 cpk hRr hbr
                  refine Lib.hid ?_
                  go_wp2
                  refine ⟨⟨k + 1, by simp, by omega, Below.al bw3 _, ?_, next_no N.out (by rw [HPk.out]; intro hq; simp at hq; simp [hq] at hx1)⟩, by simp [intOf]; omega⟩
                  rw [al_old hs3]; exact hRr3
                · subst hx0
                  go_wp2_with (go_at_call 87; refine (cpk _).mono ?_; rintro e w3 ⟨rfl, hb3⟩; refine Hid.out ?_)
                  have bw3 := bel_via hbr hb3
                  have hRr3 : w3.heap[BR]? = some (.cells #[.int .u64 (fh : Nat), .int .u64 (fl : Nat), .int .u64 (th : Nat), .int .u64 (tl : Nat)] 45 (0, 0)) := by rw [hb3.block _ hltr]; exact hRr
                  have hs3 : BR < w3.heap.size := (Array.getElem?_eq_some_iff.1 hRr3).1
                  have g0 := fun o => keepc (Below.al (Below.refl _ w3) o) (keepc hb3 d0)
                  have g1 := fun o => keepc (Below.al (Below.refl _ w3) o) (keepc hb3 d1)
                  have g2 := fun o => keepc (Below.al (Below.refl _ w3) o) (keepc hb3 d2)
                  have g3 := fun o => keepc (Below.al (Below.refl _ w3) o) (keepc hb3 d3)
                  clear d0 d1 d2 d3 hb3 cpk hRr hbr
                  refine Lib.hid ?_
                  go_wp2
                  refine ⟨⟨k + 1, by simp, by omega, Below.al bw3 _, ?_, next_no N.out (by rw [HPk.out]; intro hq; simp at hq; simp [hq] at hx2)⟩, by simp [intOf]; omega⟩
                  rw [al_old hs3]; exact hRr3
          · obtain rfl : k = 129 := by omega
            have hki : decide (((129 : Nat) : Int) ≤ 128) = false := by decide
            have g0 := cell_regrown d0
            have g1 := cell_regrown d1
            have g2 := cell_regrown d2
            have g3 := cell_regrown d3
            have q1 := fun d os => Calls.regrown_of (cp1 (grow (redrawn wr d) os))
            have q2 := fun d os => Calls.regrown_of (cp2 (grow (redrawn wr d) os))
            clear d0 d1 d2 d3 cpf cp1 cp2
            go_wp2
            refine wp_region_quiet_below (by kernel_rfl) (by kernel_rfl) ?_
            repeat (first | go_big_quiet_skip | quiet_step (first | (go_at_call_of 126 (Value.agg #[Value.int IntKind.u64 (fh : Int), Value.int IntKind.u64 (fl : Int)]); with_reducible exact q1 _ _) | (go_at_call 126; with_reducible exact q2 _ _)))
            refine wpQuiet_nil ?_
            intro _ hw'
            obtain ⟨⟨dr, osr⟩, hw''⟩ := hw'
            subst hw''
            go_wp2
            go_ret2
            exact ⟨⟨(P1 ++ 45 :: P2).toArray⟩, rfl, bel_via hbr (below_regrown wr dr osr), .inr (.inr ⟨by rw [← HP.out.1, ← HP.out.2], all_no N.out⟩)⟩
  | true =>
    have h45 : ∀ W, (Op.stringOp .add ⟨P1.toArray⟩ ⟨#[45]⟩).run Tryz.prog W = .ok (.string ⟨(P1 ++ [45]).toArray⟩) W := fun W => run_string_add_lists W P1 [45] (by omega) (by simp)
    have hcat : ∀ W, (Op.stringOp .add ⟨(P1 ++ [45]).toArray⟩ ⟨P2.toArray⟩).run Tryz.prog W = .ok (.string ⟨(P1 ++ [45] ++ P2).toArray⟩) W := fun W => run_string_add_lists W (P1 ++ [45]) P2 (by simp; omega) (by omega)
    refine wp_region_quiet_below (by kernel_rfl) (by kernel_rfl) ?_
    repeat (first | go_big_quiet_skip | quiet_step (first | (go_at_call 125; with_reducible exact qm _ _) | (go_at_call_of 88 (Value.agg #[Value.int IntKind.u64 (fh : Int), Value.int IntKind.u64 (fl : Int)]); with_reducible exact q1 _ _) | (go_at_call 88; with_reducible exact q2 _ _)))
    refine wpQuiet_nil ?_
    intro _ hw'
    obtain ⟨⟨dq, osq⟩, hw''⟩ := hw'
    subst hw''
    obtain ⟨w2, hw2⟩ : ∃ v, v = grow (redrawn w1 dq) osq := ⟨_, rfl⟩
    have b12 : Below w1.heap.size w1 w2 := by rw [hw2]; exact below_regrown w1 dq osq
    have hR2 : w2.heap[BR]? = some (.cells #[.int .u64 (fh : Nat), .int .u64 (fl : Nat), .int .u64 (th : Nat), .int .u64 (tl : Nat)] 45 (0, 0)) := by rw [b12.block _ hlt1]; exact hR1
    have bw2 := bel_via bw1 b12
    rw [← hw2]
    clear hw2 b12 hR1 k0 k1 k2 k3 qm q1 q2 bw1 hlt1
    obtain ⟨c0, c1, c2, c3⟩ := rcells_of hR2
    by_cases e12 : fh = th ∧ fl = tl
    · obtain ⟨e1, e2⟩ := e12
      subst e1; subst e2
      clear cp2 cpf
      go_wp2_with (go_at_call 126; refine (cp1 _).mono ?_; rintro e w3 ⟨rfl, hb3⟩)
      go_ret2
      exact ⟨⟨P1.toArray⟩, rfl, bel_via bw2 hb3, .inl ⟨rfl, rfl, by rw [← HP.out.1]⟩⟩
    · have hA : ((fh : Int) == (th : Int)) = false ∨ ((fh : Int) = (th : Int) ∧ ((fl : Int) == (tl : Int)) = false) := by
        by_cases e : fh = th
        · right; exact ⟨by omega, by rw [beq_eq_false_iff_ne]; intro e2; exact e12 ⟨e, by omega⟩⟩
        · left; rw [beq_eq_false_iff_ne]; omega
      have key : (Value.agg #[Value.int .u64 (fh : Int), Value.int .u64 (fl : Int)] = Value.agg #[Value.int .u64 (th : Int), Value.int .u64 (tl : Int)]) = False := by
        simp only [eq_iff_iff, iff_false]
        intro h
        simp at h
        exact e12 ⟨by omega, by omega⟩
      have hb1 : ((fh == th) && (fl == tl)) = false := by
        cases h : ((fh == th) && (fl == tl)) with
        | false => rfl
        | true => simp at h; exact absurd h e12
      clear hA key
      by_cases e1 : fh = th
      · have e2 : fl ≠ tl := fun e => e12 ⟨e1, e⟩
        have hA1 : ((fl : Int) == (tl : Int)) = false := by rw [beq_eq_false_iff_ne]; omega
        have hA2 : (fl == tl) = false := by rw [beq_eq_false_iff_ne]; exact e2
        subst e1
        clear e12 hb1 e2
        go_wp2
        go_loopw [4] (fun v4 wr => ∃ k : Nat, v4 = .int .i64 k ∧ k ≤ 129 ∧ Below w.heap.size w wr ∧ wr.heap[BR]? = some (.cells #[.int .u64 (fh : Nat), .int .u64 (fl : Nat), .int .u64 (fh : Nat), .int .u64 (tl : Nat)] 45 (0, 0)) ∧ Aside (∀ m : Nat, m < k → preV (fh : Int) (fl : Int) (m : Int) ≠ some ((fh : Int), (tl : Int)))) (fun v4 _ => 129 - (intOf v4).toNat)
        case atStart => exact ⟨0, rfl, by omega, bw2, hR2, fun m hm => absurd hm (Nat.not_lt_zero _)⟩
        case round =>
          obtain ⟨k, rfl, hk, hbr, hRr, N⟩ := hrel
          obtain ⟨d0, d1, d2, d3⟩ := rcells_of hRr
          have hltr : BR < wr.heap.size := (Array.getElem?_eq_some_iff.1 hRr).1
          clear c0 c1 c2 c3
          by_cases hk8 : k ≤ 128
          · have hki : (k : Int) ≤ 128 := by omega
            have cpk := cpf (k : Int) (by omega) hki
            cases hp : preV (fh : Int) (fl : Int) (k : Int) with
            | none =>
              have e : preT (fh : Int) (fl : Int) (k : Int) = .tuple #[.agg #[.int .u64 0, .int .u64 0, .int .u64 0, .int .u64 0], .int .i64 31] := by unfold preT; rw [hp]
              rw [e] at cpk
              have HPk := Lib.hid hp
              clear hp e cpf
              go_wp2_with (go_at_call 87; refine (cpk _).mono ?_; rintro e w3 ⟨rfl, hb3⟩)
              refine ⟨⟨k + 1, by simp, by omega, Below.al (bel_via hbr hb3) _, ?_, next_no N.out (by rw [HPk.out]; simp)⟩, by simp [intOf]; omega⟩
              have hs := hb3.size
              rw [al_old (by omega), hb3.block _ hltr]; exact hRr
            | some x =>
              have e : preT (fh : Int) (fl : Int) (k : Int) = .tuple #[.agg #[.int .u64 (fh : Int), .int .u64 (fl : Int), .int .u64 x.1, .int .u64 x.2], .int .i64 0] := by unfold preT; rw [hp]
              rw [e] at cpk
              have HPk := Lib.hid hp
              clear hp e cpf
              obtain ⟨x1, x2⟩ := x
              simp only at cpk
              by_cases ex : x1 = (fh : Int) ∧ x2 = (tl : Int)
              · obtain ⟨ex1, ex2⟩ := ex
                subst ex1; subst ex2
                have cd := fun W => rdigs10 k (by omega) W
                have ld := digs10_len (n := k) 2 (by omega)
                obtain ⟨D, hD⟩ : ∃ D, D = digs 10 k := ⟨_, rfl⟩
                rw [← hD] at cd ld
                have HDk := Lib.hid hD
                clear hD
                have h47 : ∀ W, (Op.stringOp .add ⟨P1.toArray⟩ ⟨#[47]⟩).run Tryz.prog W = .ok (.string ⟨(P1 ++ [47]).toArray⟩) W := fun W => run_string_add_lists W P1 [47] (by omega) (by simp)
                have hcat : ∀ W, (Op.stringOp .add ⟨(P1 ++ [47]).toArray⟩ ⟨D.toArray⟩).run Tryz.prog W = .ok (.string ⟨(P1 ++ [47] ++ D).toArray⟩) W := fun W => run_string_add_lists W (P1 ++ [47]) D (by simp; omega) (by omega)
                clear cp2
                go_wp2_with (go_at_call 87; refine (cpk _).mono ?_; rintro e w3 ⟨rfl, hb3⟩; refine Hid.out ?_)
                have bw3 := bel_via hbr hb3
                have g0 := fun o => keepc (Below.al (Below.refl _ w3) o) (keepc hb3 d0)
                have g1 := fun o => keepc (Below.al (Below.refl _ w3) o) (keepc hb3 d1)
                have g2 := fun o => keepc (Below.al (Below.refl _ w3) o) (keepc hb3 d2)
                have g3 := fun o => keepc (Below.al (Below.refl _ w3) o) (keepc hb3 d3)
                clear d0 d1 d2 d3 hb3 cpk
                refine Lib.hid ?_
                go_wp2_with (first
                  | (go_at_call 126; refine (cp1 _).mono ?_; rintro e w4 ⟨rfl, hb4⟩)
                  | (go_at_call 127; refine (cd _).mono ?_; rintro e w5 ⟨rfl, m5, rfl⟩))
                go_ret2
                exact ⟨⟨(P1 ++ 47 :: D).toArray⟩, rfl, Below.drN (bel_via (Below.al bw3 _) hb4) _, .inr (.inl ⟨k, by omega, HPk.out, by rw [← HP.out.1, ← HDk.out], fun h => by first | (simp [h.1] at hA2; done) | (simp [h.2] at hA2; done)⟩)⟩
              · have hcase : (x1 == (fh : Int)) = false ∨ (x1 = (fh : Int) ∧ (x2 == (tl : Int)) = false) := by
                  by_cases e : x1 = (fh : Int)
                  · right; exact ⟨e, by rw [beq_eq_false_iff_ne]; intro e2; exact ex ⟨e, e2⟩⟩
                  · left; rw [beq_eq_false_iff_ne]; exact e
                clear ex
                rcases hcase with hx1 | ⟨hx0, hx2⟩
                · go_wp2_with (go_at_call 87; refine (cpk _).mono ?_; rintro e w3 ⟨rfl, hb3⟩; refine Hid.out ?_)
                  have bw3 := bel_via hbr hb3
                  have hRr3 : w3.heap[BR]? = some (.cells #[.int .u64 (fh : Nat), .int .u64 (fl : Nat), .int .u64 (fh : Nat), .int .u64 (tl : Nat)] 45 (0, 0)) := by rw [hb3.block _ hltr]; exact hRr
                  have hs3 : BR < w3.heap.size := (Array.getElem?_eq_some_iff.1 hRr3).1
                  have g0 := fun o => keepc (Below.al (Below.refl _ w3) o) (keepc hb3 d0)
                  have g1 := fun o => keepc (Below.al (Below.refl _ w3) o) (keepc hb3 d1)
                  have g2 := fun o => keepc (Below.al (Below.refl _ w3) o) (keepc hb3 d2)
                  have g3 := fun o => keepc (Below.al (Below.refl _ w3) o) (keepc hb3 d3)
                  clear d0 d1 d2 d3 hb3 cpk hRr hbr
                  refine Lib.hid ?_
                  go_wp2
                  refine ⟨⟨k + 1, by simp, by omega, Below.al bw3 _, ?_, next_no N.out (by rw [HPk.out]; intro hq; simp at hq; simp [hq] at hx1)⟩, by simp [intOf]; omega⟩
                  rw [al_old hs3]; exact hRr3
                · subst hx0
                  go_wp2_with (go_at_call 87; refine (cpk _).mono ?_; rintro e w3 ⟨rfl, hb3⟩; refine Hid.out ?_)
                  have bw3 := bel_via hbr hb3
                  have hRr3 : w3.heap[BR]? = some (.cells #[.int .u64 (fh : Nat), .int .u64 (fl : Nat), .int .u64 (fh : Nat), .int .u64 (tl : Nat)] 45 (0, 0)) := by rw [hb3.block _ hltr]; exact hRr
                  have hs3 : BR < w3.heap.size := (Array.getElem?_eq_some_iff.1 hRr3).1
                  have g0 := fun o => keepc (Below.al (Below.refl _ w3) o) (keepc hb3 d0)
                  have g1 := fun o => keepc (Below.al (Below.refl _ w3) o) (keepc hb3 d1)
                  have g2 := fun o => keepc (Below.al (Below.refl _ w3) o) (keepc hb3 d2)
                  have g3 := fun o => keepc (Below.al (Below.refl _ w3) o) (keepc hb3 d3)
                  clear d0 d1 d2 d3 hb3 cpk hRr hbr
                  refine Lib.hid ?_
                  go_wp2
                  refine ⟨⟨k + 1, by simp, by omega, Below.al bw3 _, ?_, next_no N.out (by rw [HPk.out]; intro hq; simp at hq; simp [hq] at hx2)⟩, by simp [intOf]; omega⟩
                  rw [al_old hs3]; exact hRr3
          · obtain rfl : k = 129 := by omega
            have hki : decide (((129 : Nat) : Int) ≤ 128) = false := by decide
            have g0 := cell_regrown d0
            have g1 := cell_regrown d1
            have g2 := cell_regrown d2
            have g3 := cell_regrown d3
            have q1 := fun d os => Calls.regrown_of (cp1 (grow (redrawn wr d) os))
            have q2 := fun d os => Calls.regrown_of (cp2 (grow (redrawn wr d) os))
            clear d0 d1 d2 d3 cpf cp1 cp2
            go_wp2
            refine wp_region_quiet_below (by kernel_rfl) (by kernel_rfl) ?_
            repeat (first | go_big_quiet_skip | quiet_step (first | (go_at_call_of 126 (Value.agg #[Value.int IntKind.u64 (fh : Int), Value.int IntKind.u64 (fl : Int)]); with_reducible exact q1 _ _) | (go_at_call 126; with_reducible exact q2 _ _)))
            refine wpQuiet_nil ?_
            intro _ hw'
            obtain ⟨⟨dr, osr⟩, hw''⟩ := hw'
            subst hw''
            go_wp2
            go_ret2
            exact ⟨⟨(P1 ++ 45 :: P2).toArray⟩, rfl, bel_via hbr (below_regrown wr dr osr), .inr (.inr ⟨by rw [← HP.out.1, ← HP.out.2], all_no N.out⟩)⟩
      · have hA1 : ((fh : Int) == (th : Int)) = false := by rw [beq_eq_false_iff_ne]; omega
        have hA2 : (fh == th) = false := by rw [beq_eq_false_iff_ne]; exact e1
        clear e12 hb1 e1
        go_wp2
        go_loopw [4] (fun v4 wr => ∃ k : Nat, v4 = .int .i64 k ∧ k ≤ 129 ∧ Below w.heap.size w wr ∧ wr.heap[BR]? = some (.cells #[.int .u64 (fh : Nat), .int .u64 (fl : Nat), .int .u64 (th : Nat), .int .u64 (tl : Nat)] 45 (0, 0)) ∧ Aside (∀ m : Nat, m < k → preV (fh : Int) (fl : Int) (m : Int) ≠ some ((th : Int), (tl : Int)))) (fun v4 _ => 129 - (intOf v4).toNat)
        case atStart => exact ⟨0, rfl, by omega, bw2, hR2, fun m hm => absurd hm (Nat.not_lt_zero _)⟩
        case round =>
          obtain ⟨k, rfl, hk, hbr, hRr, N⟩ := hrel
          obtain ⟨d0, d1, d2, d3⟩ := rcells_of hRr
          have hltr : BR < wr.heap.size := (Array.getElem?_eq_some_iff.1 hRr).1
          clear c0 c1 c2 c3
          by_cases hk8 : k ≤ 128
          · have hki : (k : Int) ≤ 128 := by omega
            have cpk := cpf (k : Int) (by omega) hki
            cases hp : preV (fh : Int) (fl : Int) (k : Int) with
            | none =>
              have e : preT (fh : Int) (fl : Int) (k : Int) = .tuple #[.agg #[.int .u64 0, .int .u64 0, .int .u64 0, .int .u64 0], .int .i64 31] := by unfold preT; rw [hp]
              rw [e] at cpk
              have HPk := Lib.hid hp
              clear hp e cpf
              go_wp2_with (go_at_call 87; refine (cpk _).mono ?_; rintro e w3 ⟨rfl, hb3⟩)
              refine ⟨⟨k + 1, by simp, by omega, Below.al (bel_via hbr hb3) _, ?_, next_no N.out (by rw [HPk.out]; simp)⟩, by simp [intOf]; omega⟩
              have hs := hb3.size
              rw [al_old (by omega), hb3.block _ hltr]; exact hRr
            | some x =>
              have e : preT (fh : Int) (fl : Int) (k : Int) = .tuple #[.agg #[.int .u64 (fh : Int), .int .u64 (fl : Int), .int .u64 x.1, .int .u64 x.2], .int .i64 0] := by unfold preT; rw [hp]
              rw [e] at cpk
              have HPk := Lib.hid hp
              clear hp e cpf
              obtain ⟨x1, x2⟩ := x
              simp only at cpk
              by_cases ex : x1 = (th : Int) ∧ x2 = (tl : Int)
              · obtain ⟨ex1, ex2⟩ := ex
                subst ex1; subst ex2
                have cd := fun W => rdigs10 k (by omega) W
                have ld := digs10_len (n := k) 2 (by omega)
                obtain ⟨D, hD⟩ : ∃ D, D = digs 10 k := ⟨_, rfl⟩
                rw [← hD] at cd ld
                have HDk := Lib.hid hD
                clear hD
                have h47 : ∀ W, (Op.stringOp .add ⟨P1.toArray⟩ ⟨#[47]⟩).run Tryz.prog W = .ok (.string ⟨(P1 ++ [47]).toArray⟩) W := fun W => run_string_add_lists W P1 [47] (by omega) (by simp)
                have hcat : ∀ W, (Op.stringOp .add ⟨(P1 ++ [47]).toArray⟩ ⟨D.toArray⟩).run Tryz.prog W = .ok (.string ⟨(P1 ++ [47] ++ D).toArray⟩) W := fun W => run_string_add_lists W (P1 ++ [47]) D (by simp; omega) (by omega)
                clear cp2
                go_wp2_with (go_at_call 87; refine (cpk _).mono ?_; rintro e w3 ⟨rfl, hb3⟩; refine Hid.out ?_)
                have bw3 := bel_via hbr hb3
                have g0 := fun o => keepc (Below.al (Below.refl _ w3) o) (keepc hb3 d0)
                have g1 := fun o => keepc (Below.al (Below.refl _ w3) o) (keepc hb3 d1)
                have g2 := fun o => keepc (Below.al (Below.refl _ w3) o) (keepc hb3 d2)
                have g3 := fun o => keepc (Below.al (Below.refl _ w3) o) (keepc hb3 d3)
                clear d0 d1 d2 d3 hb3 cpk
                refine Lib.hid ?_
                go_wp2_with (first
                  | (go_at_call 126; refine (cp1 _).mono ?_; rintro e w4 ⟨rfl, hb4⟩)
                  | (go_at_call 127; refine (cd _).mono ?_; rintro e w5 ⟨rfl, m5, rfl⟩))
                go_ret2
                exact ⟨⟨(P1 ++ 47 :: D).toArray⟩, rfl, Below.drN (bel_via (Below.al bw3 _) hb4) _, .inr (.inl ⟨k, by omega, HPk.out, by rw [← HP.out.1, ← HDk.out], fun h => by first | (simp [h.1] at hA2; done) | (simp [h.2] at hA2; done)⟩)⟩
              · have hcase : (x1 == (th : Int)) = false ∨ (x1 = (th : Int) ∧ (x2 == (tl : Int)) = false) := by
                  by_cases e : x1 = (th : Int)
                  · right; exact ⟨e, by rw [beq_eq_false_iff_ne]; intro e2; exact ex ⟨e, e2⟩⟩
                  · left; rw [beq_eq_false_iff_ne]; exact e
                clear ex
                rcases hcase with hx1 | ⟨hx0, hx2⟩
                · go_wp2_with (go_at_call 87; refine (cpk _).mono ?_; rintro e w3 ⟨rfl, hb3⟩; refine Hid.out ?_)
                  have bw3 := bel_via hbr hb3
                  have hRr3 : w3.heap[BR]? = some (.cells #[.int .u64 (fh : Nat), .int .u64 (fl : Nat), .int .u64 (th : Nat), .int .u64 (tl : Nat)] 45 (0, 0)) := by rw [hb3.block _ hltr]; exact hRr
                  have hs3 : BR < w3.heap.size := (Array.getElem?_eq_some_iff.1 hRr3).1
                  have g0 := fun o => keepc (Below.al (Below.refl _ w3) o) (keepc hb3 d0)
                  have g1 := fun o => keepc (Below.al (Below.refl _ w3) o) (keepc hb3 d1)
                  have g2 := fun o => keepc (Below.al (Below.refl _ w3) o) (keepc hb3 d2)
                  have g3 := fun o => keepc (Below.al (Below.refl _ w3) o) (keepc hb3 d3)
                  clear d0 d1 d2 d3 hb3 cpk hRr hbr
                  refine Lib.hid ?_
                  go_wp2
                  refine ⟨⟨k + 1, by simp, by omega, Below.al bw3 _, ?_, next_no N.out (by rw [HPk.out]; intro hq; simp at hq; simp [hq] at hx1)⟩, by simp [intOf]; omega⟩
                  rw [al_old hs3]; exact hRr3
                · subst hx0
                  go_wp2_with (go_at_call 87; refine (cpk _).mono ?_; rintro e w3 ⟨rfl, hb3⟩; refine Hid.out ?_)
                  have bw3 := bel_via hbr hb3
                  have hRr3 : w3.heap[BR]? = some (.cells #[.int .u64 (fh : Nat), .int .u64 (fl : Nat), .int .u64 (th : Nat), .int .u64 (tl : Nat)] 45 (0, 0)) := by rw [hb3.block _ hltr]; exact hRr
                  have hs3 : BR < w3.heap.size := (Array.getElem?_eq_some_iff.1 hRr3).1
                  have g0 := fun o => keepc (Below.al (Below.refl _ w3) o) (keepc hb3 d0)
                  have g1 := fun o => keepc (Below.al (Below.refl _ w3) o) (keepc hb3 d1)
                  have g2 := fun o => keepc (Below.al (Below.refl _ w3) o) (keepc hb3 d2)
                  have g3 := fun o => keepc (Below.al (Below.refl _ w3) o) (keepc hb3 d3)
                  clear d0 d1 d2 d3 hb3 cpk hRr hbr
                  refine Lib.hid ?_
                  go_wp2
                  refine ⟨⟨k + 1, by simp, by omega, Below.al bw3 _, ?_, next_no N.out (by rw [HPk.out]; intro hq; simp at hq; simp [hq] at hx2)⟩, by simp [intOf]; omega⟩
                  rw [al_old hs3]; exact hRr3
          · obtain rfl : k = 129 := by omega
            have hki : decide (((129 : Nat) : Int) ≤ 128) = false := by decide
            have g0 := cell_regrown d0
            have g1 := cell_regrown d1
            have g2 := cell_regrown d2
            have g3 := cell_regrown d3
            have q1 := fun d os => Calls.regrown_of (cp1 (grow (redrawn wr d) os))
            have q2 := fun d os => Calls.regrown_of (cp2 (grow (redrawn wr d) os))
            clear d0 d1 d2 d3 cpf cp1 cp2
            go_wp2
            refine wp_region_quiet_below (by kernel_rfl) (by kernel_rfl) ?_
            repeat (first | go_big_quiet_skip | quiet_step (first | (go_at_call_of 126 (Value.agg #[Value.int IntKind.u64 (fh : Int), Value.int IntKind.u64 (fl : Int)]); with_reducible exact q1 _ _) | (go_at_call 126; with_reducible exact q2 _ _)))
            refine wpQuiet_nil ?_
            intro _ hw'
            obtain ⟨⟨dr, osr⟩, hw''⟩ := hw'
            subst hw''
            go_wp2
            go_ret2
            exact ⟨⟨(P1 ++ 45 :: P2).toArray⟩, rfl, bel_via hbr (below_regrown wr dr osr), .inr (.inr ⟨by rw [← HP.out.1, ← HP.out.2], all_no N.out⟩)⟩
end Go.Proofs.YtmnnjkdmnfadhaaGreatDoor
