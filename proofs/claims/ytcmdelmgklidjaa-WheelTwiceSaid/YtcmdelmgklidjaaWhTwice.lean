/- WheelTwice's walk; by-name template (gen_whtwice.py). -/
import Derived.Test.YtcmdelmgklidjaaWhTri
namespace Go.Proofs.Ytcmdelmgklidjaa
open Go.RowKit Go.Lib Go.Maps
set_option linter.unusedVariables false
set_option linter.unusedSimpArgs false

set_option maxHeartbeats 8000000 in
set_option maxRecDepth 100000 in
theorem twice_walk {a1 a2 : Option Addr} {Z Y : List Int} (cap1 cap2 : Nat) (now later : Int) {w : World} (h : IntsAt w a1 Z) (h' : IntsAt w a2 Y) :
    Calls Try.prog 6 #[.slice a1 Z.length cap1, .slice a2 Y.length cap2, .int .i64 now, .int .i64 later] w fun e w' => e = .returned (.bool true) ∧ Below w.heap.size w w' := by
  have hl := h.1
  have hl' := h'.1
  have HS := Lib.hid h
  have HS' := Lib.hid h'
  clear h h'
  obtain ⟨m, hm⟩ : ∃ m, m = min Z.length Y.length := ⟨_, rfl⟩
  have hmn : m ≤ Z.length := by omega
  have hmy : m ≤ Y.length := by omega
  have hmm : m = Z.length ∨ m = Y.length := by omega
  clear hm
  generalize hlen : Z.length = n at *
  generalize hlen' : Y.length = n' at *
  have HL := Lib.hid (And.intro hlen hlen')
  clear hlen hlen'
  by_cases hbig : 4096 < n
  · go_enter Try.func6, Try.ntmps6
    go_wp2
    go_ret
    exact ⟨rfl, Below.refl _ _⟩
  by_cases hnl : later < now
  · go_enter Try.func6, Try.ntmps6
    go_wp2
    go_ret
    exact ⟨rfl, Below.refl _ _⟩
  · have hnl' : now ≤ later := by omega
    have hnew := fun w => new_wheel w
    obtain ⟨iu, hiu, hu0, hu1, hu2⟩ := info_parts infoI
    go_enter Try.func6, Try.ntmps6
    go_upto_region 4 with (go_at_call 8; refine (hnew _).mono ?_; rintro e w1 ⟨Ba, rfl, hp1, b1⟩)
    go_upto_region 5 with (go_at_call 8; refine (hnew _).mono ?_; rintro e w2 ⟨Bb, rfl, hp2, b2⟩)
    go_upto_region 6 with fail
    have hboth := tri_new hp1 b1 hp2 b2
    clear hnew hp1 b1 hp2 b2
    generalize w2.heap.size = Br at *
    go_wp2_with fail
    go_loopw [12] (fun c wr => ∃ (k : Nat) (L : List K2), k ≤ m ∧ c = .int .i64 (k : Int) ∧ Tri w wr Ba Bb Br L L L) (fun c _ => m - (intOf c).toNat)
    case atStart => exact ⟨0, [], by omega, rfl, hboth⟩
    case round =>
      clear hboth
      obtain ⟨k, L, hk, rfl, hB⟩ := hrel
      by_cases hlt : k < m
      · obtain ⟨gb, off, ha, c0, hzo⟩ := getD_at HS.out hB.bl (k := k) (by rw [HL.out.1]; omega)
        obtain ⟨gb', off', ha', c1, hyo⟩ := getD_at HS'.out hB.bl (k := k) (by rw [HL.out.2]; omega)
        subst ha
        subst ha'
        have hS := fun w' (b : Below wr.heap.size wr w') => tri_set_a (hB.below b) hzo (t := Y.getD k 0)
        have hSb := fun w' (h : Tri w w' Ba Bb Br (setP L (Z.getD k 0) (Y.getD k 0)) L L) => tri_set_b h hzo (t := Y.getD k 0)
        have hUM := hB.uidL
        have hSR := fun w' (h : Tri w w' Ba Bb Br (setP L (Z.getD k 0) (Y.getD k 0)) (setP L (Z.getD k 0) (Y.getD k 0)) L) => tri_set_r h hUM (id := Z.getD k 0) (t := Y.getD k 0)
        have HSA := Lib.hid hS
        have HSB := Lib.hid hSb
        have HSR := Lib.hid hSR
        have ltI : (k : Int) < (n : Int) := by omega
        have ltI' : (k : Int) < (n' : Int) := by omega
        have dI : decide (k < n) = true := by simp; omega
        have dI' : decide (k < n') = true := by simp; omega
        have hbd := bel_dr (Below.refl wr.heap.size wr)
        have HC := Lib.hid (fun w' (b : Below w.heap.size w w') => And.intro (getD_at HS.out b (k := k) (by rw [HL.out.1]; omega)) (getD_at HS'.out b (k := k) (by rw [HL.out.2]; omega)))
        clear hB hS hSb hSR hUM
        generalize setP L (Z.getD k 0) (Y.getD k 0) = L' at *
        generalize hz : Z.getD k 0 = z at *
        generalize hy : Y.getD k 0 = y at *
        clear hz hy
        generalize setR L z = vr at *
        go_wp2_with fail
        go_still_tail 9, (by kernel_rfl)
        change wpList _ _ _ _ _ wr.drew
        go_upto_region 10 with (go_at_call 9; refine (HSA.out _ hbd).mono ?_; rintro e w5 ⟨rfl, hB5⟩; obtain ⟨⟨g2, o2, e2, c0', _⟩, g3, o3, e3, c1', _⟩ := HC.out _ hB5.bl; cases e2; cases e3)
        have hB5d := hB5.dr
        clear c0 c1
        go_still_tail 9, (by kernel_rfl)
        change wpList _ _ _ _ _ w5.drew
        go_upto_region 11 with (go_at_call 9; refine (HSB.out _ hB5d).mono ?_; rintro e w6 ⟨rfl, hB6⟩; obtain ⟨⟨g4, o4, e4, c0x, _⟩, g5, o5, e5, c1x, _⟩ := HC.out _ hB6.bl; cases e4; cases e5)
        have hB6d := hB6.dr
        clear c0' c1'
        go_still_tail 9, (by kernel_rfl)
        change wpList _ _ _ _ _ w6.drew
        go_wp2_with (go_at_call 13; refine (HSR.out _ hB6d).mono ?_; rintro e w7 ⟨rfl, hB7⟩)
        go_roundw
        case rel => exact ⟨k + 1, _, by omega, by go_num, hB7⟩
        case measure => first | (simp [intOf]; omega) | simp [intOf]
      · have ek : k = m := by omega
        subst ek
        have HB := Lib.hid hB
        clear hB
        rcases hmm with hmm | hmm
        · have dI : decide (k < n) = false := by simp; omega
          have ltI : ¬ (k : Int) < (n : Int) := by omega
          go_upto_region 13 with fail
          clear dI ltI
          obtain ⟨Ta, Tb, R, hF⟩ := HB.out.fi
          obtain ⟨G, hG⟩ : ∃ G, G = wr.heap.size := ⟨_, rfl⟩
          have hlen := HB.out.lenL
          have hown0 : (wr.alloc (.cells #[] 3)).ownsRow wr.heap.size 3 1 (.slice (some ⟨wr.heap.size, 0, none⟩) 0 0) 0 ([] : List Value) := World.ownsRow_made wr #[] 0 (Nat.le_refl _) (by unfold maxLen; omega) rfl
          have hF0 := hF.below ((Below.refl wr.heap.size wr).alloc (Nat.le_refl _) (.cells #[] 3))
          obtain ⟨D1, hD1⟩ : ∃ D1, D1 = dueP L now := ⟨_, rfl⟩
          obtain ⟨L1, hL1⟩ : ∃ L1, L1 = lefP L now := ⟨_, rfl⟩
          obtain ⟨D2, hD2⟩ : ∃ D2, D2 = dueP L1 later := ⟨_, rfl⟩
          obtain ⟨L2, hL2⟩ : ∃ L2, L2 = lefP L1 later := ⟨_, rfl⟩
          have hDD : dueP L later = D1 ++ D2 := by rw [hD1, hD2, hL1]; exact (due_twice L hnl').1
          have hLL : lefP L later = L2 := by rw [hL2, hL1]; exact (due_twice L hnl').2.symm
          have hsz : (D1 ++ D2).length ≤ L.length := by rw [← hDD]; unfold dueP; rw [List.length_map]; exact (List.takeWhile_sublist _).length_le
          rw [List.length_append] at hsz
          have hsz1 : D1.length + D2.length ≤ 256 := Nat.le_trans hsz hlen
          have h1 := fun w' (h : Fi Ta Tb R w wr.heap.size w' Ba Bb Br L L L) => fi_due_a h (now := now)
          have h2 := fun w' (h : Fi Ta Tb R w wr.heap.size w' Ba Bb Br L1 L L) => fi_due_a h (now := later)
          have h3 := fun w' (h : Fi Ta Tb R w wr.heap.size w' Ba Bb Br L2 L L) => fi_due_b h (now := later)
          have h4 := fun w' (h : Fi Ta Tb R w wr.heap.size w' Ba Bb Br L2 L2 L) => fi_due_r h (now := later)
          rw [← hD1, ← hL1] at h1
          rw [← hD2, ← hL2] at h2
          rw [hDD, hLL] at h3 h4
          have H1 := Lib.hid h1
          have H2 := Lib.hid h2
          have H3 := Lib.hid h3
          have H4 := Lib.hid h4
          have HSM := Lib.hid (fun (w' : World) (A B : Option Addr) (c d : Nat) (s1 : Sl w' 1 e1 A (D1 ++ D2).length (D1 ++ D2)) (s2 : Sl w' 1 e1 B (D1 ++ D2).length (D1 ++ D2)) => (same_ints (by rw [List.length_append]; omega) s1 s2 (c := c) (d := d)).mono (fun e w'' h => And.intro (h.1.trans (by simp : _ = Ending.returned (.bool true))) h.2))
          have HI := Lib.hid (And.intro hD1 (And.intro hL1 (And.intro hD2 hL2)))
          clear h1 h2 h3 h4 hD1 hL1 hD2 hL2 hDD hLL hF HB hsz
          rw [← hG] at hown0 hF0 H1 H2 H3 H4 ⊢
          obtain ⟨w0', hw0⟩ : ∃ x, x = wr.alloc (.cells #[] 3) := ⟨_, rfl⟩
          rw [← hw0] at hown0 hF0 ⊢
          have HG := Lib.hid (And.intro hG hw0)
          clear hG hw0
          have hl1 : 0 + D1.length ≤ maxLen := by unfold maxLen; omega
          have hl1b : (0 + D1.length) * 8 ≤ 140737488355328 := by omega
          have hl2 : D1.length + D2.length ≤ maxLen := by unfold maxLen; omega
          have hl2b : (D1.length + D2.length) * 8 ≤ 140737488355328 := by omega
          go_upto_region 14 with (first
            | (go_at_call 12; refine (H1.out _ hF0).mono ?_; rintro e w1 ⟨v1, rfl, hr1, hF1, hk1⟩; have hown1 := own_hi hown0 hk1; obtain ⟨A1, c1, rfl, hs1, hn1⟩ := ints_sl2 hr1 rfl; have hg1 := hF1.gz)
            | (at_builtin; go_loud (refine app_sl rfl _ _ 22 rfl G 3 iu (.int .i64 0) 1 8 Try.underlying22 hiu hu0 hu1 hu2 rfl (by decide) _ 0 [] rfl hown1 e1 e1_len A1 D1.length c1 D1 hs1 hn1 rfl e1_one hl1 hl1b hg1 ?_)))
          intro v2 w2 hown2 hg2
          have hF2 := hF1.grown (V := v2) hown1 hg2
          replace hown2 : w2.ownsRow G 3 1 v2 D1.length (D1.map vI) := by rw [map_flat]; simpa using hown2
          obtain ⟨A2, c2, hv2⟩ : ∃ A2 c2, v2 = .slice A2 D1.length c2 := by
            obtain ⟨_, ⟨q1, q2⟩ | ⟨g, c, cur, hv, _⟩⟩ := hown2
            · exact ⟨none, 0, by rw [q1, q2]⟩
            · exact ⟨_, _, hv⟩
          subst hv2
          clear hown1 hg2 hs1 hn1 hr1 hF1 hk1 hown0 hF0 hg1 hl1 hl1b
          go_upto_region 15 with (first
            | (go_at_call 12; refine (H2.out _ hF2).mono ?_; rintro e w3 ⟨v3, rfl, hr3, hF3, hk3⟩; have hown3 := own_hi hown2 hk3; obtain ⟨A3, c3, rfl, hs3, hn3⟩ := ints_sl2 hr3 rfl; have hg3 := hF3.gz)
            | (at_builtin; go_loud (refine app_sl rfl _ _ 22 rfl G 3 iu (.int .i64 0) 1 8 Try.underlying22 hiu hu0 hu1 hu2 rfl (by decide) _ D1.length (D1.map vI) rfl hown3 e1 e1_len A3 D2.length c3 D2 hs3 hn3 rfl e1_one hl2 hl2b hg3 ?_)))
          intro v4 w4 hown4 hg4
          have hF4 := hF3.grown (V := v4) hown3 hg4
          replace hown4 : w4.ownsRow G 3 1 v4 (D1 ++ D2).length ((D1 ++ D2).map vI) := by rw [List.length_append, List.map_append, map_flat D2]; exact hown4
          clear hown3 hg4 hs3 hn3 hr3 hF3 hk3 hown2 hF2 hg3 hl2 hl2b hsz1
          generalize D1 ++ D2 = DD at *
          obtain ⟨A4, c4, rfl, hs4, hn4⟩ := ints_sl2 hown4 rfl
          clear hs4 hn4
          go_upto_region 16 with (go_at_call 12; refine (H3.out _ hF4).mono ?_; rintro e w5 ⟨v5, rfl, hr5, hF5, hk5⟩; have hown5 := own_hi hown4 hk5; obtain ⟨A5, c5, rfl, hs5, hn5⟩ := ints_sl2 hr5 rfl)
          have hS4 : Sl w5 1 e1 A4 DD.length DD := by
            obtain ⟨A, c, e, hs, _⟩ := ints_sl2 hown5 rfl
            cases e; exact hs
          clear hn5 hown5 hk5 hown4 hF4 H1 H2 H3 HI HG
          have TS := HSM.out _ _ _ c4 c5 (hS4.keep (bel_dr (Below.refl _ _))) (hs5.keep (bel_dr (Below.refl _ _)))
          have hF5d := hF5.below (bel_dr (Below.refl _ _))
          have hr5d : w5.drew.ownsRow G 3 1 (.slice A5 DD.length c5) DD.length (DD.map vI) := own_hi hr5 (hi_below (bel_dr (Below.refl _ _)))
          clear hS4 hs5 hF5 hr5
          go_region_with (first
            | (go_at_call 14; first
                | ((with_reducible refine TS.mono ?_); rintro e w6 ⟨rfl, b6⟩; have hF6 := hF5d.below b6; have hr6 := own_hi hr5d (hi_below b6); have TD := H4.out _ hF6)
                | ((with_reducible refine TS2.mono ?_); rintro e w8 ⟨rfl, b8⟩; have hF8 := hF7.below b8; have TA := fi_len_a hF8; have TB := fi_len_b hF8; obtain ⟨Az, cz, ccz⟩ := hF8.cr))
            | (go_at_call 15; refine TD.mono ?_; rintro e w7 ⟨v7, rfl, hr7, hF7, hk7⟩; have hr67 := own_hi hr6 hk7; obtain ⟨A7, c7, rfl, hs7, _⟩ := ints_sl2 hr7 rfl; have hs57 : Sl w7 1 e1 A5 DD.length DD := (by obtain ⟨A, c, e, hs, _⟩ := ints_sl2 hr67 rfl; cases e; exact hs); have TS2 := HSM.out _ _ _ c5 c7 hs57 hs7)
            | (go_at_call 11; first
                | ((with_reducible refine TA.mono ?_); rintro e w9 ⟨rfl, rfl⟩)
                | ((with_reducible refine TB.mono ?_); rintro e w9 ⟨rfl, rfl⟩)))
          all_goals
            go_wp2
            first | exact ⟨rfl, hF8.bl⟩ | (go_ret; exact ⟨rfl, hF8.bl⟩)
        · by_cases hnn : k < n
          · have dI : decide (k < n) = true := by simp; omega
            have ltI : (k : Int) < (n : Int) := by omega
            have dI' : decide (k < n') = false := by simp; omega
            have ltI' : ¬ (k : Int) < (n' : Int) := by omega
            go_upto_region 13 with fail
            clear dI ltI
            obtain ⟨Ta, Tb, R, hF⟩ := HB.out.fi
            obtain ⟨G, hG⟩ : ∃ G, G = wr.heap.size := ⟨_, rfl⟩
            have hlen := HB.out.lenL
            have hown0 : (wr.alloc (.cells #[] 3)).ownsRow wr.heap.size 3 1 (.slice (some ⟨wr.heap.size, 0, none⟩) 0 0) 0 ([] : List Value) := World.ownsRow_made wr #[] 0 (Nat.le_refl _) (by unfold maxLen; omega) rfl
            have hF0 := hF.below ((Below.refl wr.heap.size wr).alloc (Nat.le_refl _) (.cells #[] 3))
            obtain ⟨D1, hD1⟩ : ∃ D1, D1 = dueP L now := ⟨_, rfl⟩
            obtain ⟨L1, hL1⟩ : ∃ L1, L1 = lefP L now := ⟨_, rfl⟩
            obtain ⟨D2, hD2⟩ : ∃ D2, D2 = dueP L1 later := ⟨_, rfl⟩
            obtain ⟨L2, hL2⟩ : ∃ L2, L2 = lefP L1 later := ⟨_, rfl⟩
            have hDD : dueP L later = D1 ++ D2 := by rw [hD1, hD2, hL1]; exact (due_twice L hnl').1
            have hLL : lefP L later = L2 := by rw [hL2, hL1]; exact (due_twice L hnl').2.symm
            have hsz : (D1 ++ D2).length ≤ L.length := by rw [← hDD]; unfold dueP; rw [List.length_map]; exact (List.takeWhile_sublist _).length_le
            rw [List.length_append] at hsz
            have hsz1 : D1.length + D2.length ≤ 256 := Nat.le_trans hsz hlen
            have h1 := fun w' (h : Fi Ta Tb R w wr.heap.size w' Ba Bb Br L L L) => fi_due_a h (now := now)
            have h2 := fun w' (h : Fi Ta Tb R w wr.heap.size w' Ba Bb Br L1 L L) => fi_due_a h (now := later)
            have h3 := fun w' (h : Fi Ta Tb R w wr.heap.size w' Ba Bb Br L2 L L) => fi_due_b h (now := later)
            have h4 := fun w' (h : Fi Ta Tb R w wr.heap.size w' Ba Bb Br L2 L2 L) => fi_due_r h (now := later)
            rw [← hD1, ← hL1] at h1
            rw [← hD2, ← hL2] at h2
            rw [hDD, hLL] at h3 h4
            have H1 := Lib.hid h1
            have H2 := Lib.hid h2
            have H3 := Lib.hid h3
            have H4 := Lib.hid h4
            have HSM := Lib.hid (fun (w' : World) (A B : Option Addr) (c d : Nat) (s1 : Sl w' 1 e1 A (D1 ++ D2).length (D1 ++ D2)) (s2 : Sl w' 1 e1 B (D1 ++ D2).length (D1 ++ D2)) => (same_ints (by rw [List.length_append]; omega) s1 s2 (c := c) (d := d)).mono (fun e w'' h => And.intro (h.1.trans (by simp : _ = Ending.returned (.bool true))) h.2))
            have HI := Lib.hid (And.intro hD1 (And.intro hL1 (And.intro hD2 hL2)))
            clear h1 h2 h3 h4 hD1 hL1 hD2 hL2 hDD hLL hF HB hsz
            rw [← hG] at hown0 hF0 H1 H2 H3 H4 ⊢
            obtain ⟨w0', hw0⟩ : ∃ x, x = wr.alloc (.cells #[] 3) := ⟨_, rfl⟩
            rw [← hw0] at hown0 hF0 ⊢
            have HG := Lib.hid (And.intro hG hw0)
            clear hG hw0
            have hl1 : 0 + D1.length ≤ maxLen := by unfold maxLen; omega
            have hl1b : (0 + D1.length) * 8 ≤ 140737488355328 := by omega
            have hl2 : D1.length + D2.length ≤ maxLen := by unfold maxLen; omega
            have hl2b : (D1.length + D2.length) * 8 ≤ 140737488355328 := by omega
            go_upto_region 14 with (first
              | (go_at_call 12; refine (H1.out _ hF0).mono ?_; rintro e w1 ⟨v1, rfl, hr1, hF1, hk1⟩; have hown1 := own_hi hown0 hk1; obtain ⟨A1, c1, rfl, hs1, hn1⟩ := ints_sl2 hr1 rfl; have hg1 := hF1.gz)
              | (at_builtin; go_loud (refine app_sl rfl _ _ 22 rfl G 3 iu (.int .i64 0) 1 8 Try.underlying22 hiu hu0 hu1 hu2 rfl (by decide) _ 0 [] rfl hown1 e1 e1_len A1 D1.length c1 D1 hs1 hn1 rfl e1_one hl1 hl1b hg1 ?_)))
            intro v2 w2 hown2 hg2
            have hF2 := hF1.grown (V := v2) hown1 hg2
            replace hown2 : w2.ownsRow G 3 1 v2 D1.length (D1.map vI) := by rw [map_flat]; simpa using hown2
            obtain ⟨A2, c2, hv2⟩ : ∃ A2 c2, v2 = .slice A2 D1.length c2 := by
              obtain ⟨_, ⟨q1, q2⟩ | ⟨g, c, cur, hv, _⟩⟩ := hown2
              · exact ⟨none, 0, by rw [q1, q2]⟩
              · exact ⟨_, _, hv⟩
            subst hv2
            clear hown1 hg2 hs1 hn1 hr1 hF1 hk1 hown0 hF0 hg1 hl1 hl1b
            go_upto_region 15 with (first
              | (go_at_call 12; refine (H2.out _ hF2).mono ?_; rintro e w3 ⟨v3, rfl, hr3, hF3, hk3⟩; have hown3 := own_hi hown2 hk3; obtain ⟨A3, c3, rfl, hs3, hn3⟩ := ints_sl2 hr3 rfl; have hg3 := hF3.gz)
              | (at_builtin; go_loud (refine app_sl rfl _ _ 22 rfl G 3 iu (.int .i64 0) 1 8 Try.underlying22 hiu hu0 hu1 hu2 rfl (by decide) _ D1.length (D1.map vI) rfl hown3 e1 e1_len A3 D2.length c3 D2 hs3 hn3 rfl e1_one hl2 hl2b hg3 ?_)))
            intro v4 w4 hown4 hg4
            have hF4 := hF3.grown (V := v4) hown3 hg4
            replace hown4 : w4.ownsRow G 3 1 v4 (D1 ++ D2).length ((D1 ++ D2).map vI) := by rw [List.length_append, List.map_append, map_flat D2]; exact hown4
            clear hown3 hg4 hs3 hn3 hr3 hF3 hk3 hown2 hF2 hg3 hl2 hl2b hsz1
            generalize D1 ++ D2 = DD at *
            obtain ⟨A4, c4, rfl, hs4, hn4⟩ := ints_sl2 hown4 rfl
            clear hs4 hn4
            go_upto_region 16 with (go_at_call 12; refine (H3.out _ hF4).mono ?_; rintro e w5 ⟨v5, rfl, hr5, hF5, hk5⟩; have hown5 := own_hi hown4 hk5; obtain ⟨A5, c5, rfl, hs5, hn5⟩ := ints_sl2 hr5 rfl)
            have hS4 : Sl w5 1 e1 A4 DD.length DD := by
              obtain ⟨A, c, e, hs, _⟩ := ints_sl2 hown5 rfl
              cases e; exact hs
            clear hn5 hown5 hk5 hown4 hF4 H1 H2 H3 HI HG
            have TS := HSM.out _ _ _ c4 c5 (hS4.keep (bel_dr (Below.refl _ _))) (hs5.keep (bel_dr (Below.refl _ _)))
            have hF5d := hF5.below (bel_dr (Below.refl _ _))
            have hr5d : w5.drew.ownsRow G 3 1 (.slice A5 DD.length c5) DD.length (DD.map vI) := own_hi hr5 (hi_below (bel_dr (Below.refl _ _)))
            clear hS4 hs5 hF5 hr5
            go_region_with (first
              | (go_at_call 14; first
                  | ((with_reducible refine TS.mono ?_); rintro e w6 ⟨rfl, b6⟩; have hF6 := hF5d.below b6; have hr6 := own_hi hr5d (hi_below b6); have TD := H4.out _ hF6)
                  | ((with_reducible refine TS2.mono ?_); rintro e w8 ⟨rfl, b8⟩; have hF8 := hF7.below b8; have TA := fi_len_a hF8; have TB := fi_len_b hF8; obtain ⟨Az, cz, ccz⟩ := hF8.cr))
              | (go_at_call 15; refine TD.mono ?_; rintro e w7 ⟨v7, rfl, hr7, hF7, hk7⟩; have hr67 := own_hi hr6 hk7; obtain ⟨A7, c7, rfl, hs7, _⟩ := ints_sl2 hr7 rfl; have hs57 : Sl w7 1 e1 A5 DD.length DD := (by obtain ⟨A, c, e, hs, _⟩ := ints_sl2 hr67 rfl; cases e; exact hs); have TS2 := HSM.out _ _ _ c5 c7 hs57 hs7)
              | (go_at_call 11; first
                  | ((with_reducible refine TA.mono ?_); rintro e w9 ⟨rfl, rfl⟩)
                  | ((with_reducible refine TB.mono ?_); rintro e w9 ⟨rfl, rfl⟩)))
            all_goals
              go_wp2
              first | exact ⟨rfl, hF8.bl⟩ | (go_ret; exact ⟨rfl, hF8.bl⟩)
          · have dI : decide (k < n) = false := by simp; omega
            have ltI : ¬ (k : Int) < (n : Int) := by omega
            go_upto_region 13 with fail
            clear dI ltI
            obtain ⟨Ta, Tb, R, hF⟩ := HB.out.fi
            obtain ⟨G, hG⟩ : ∃ G, G = wr.heap.size := ⟨_, rfl⟩
            have hlen := HB.out.lenL
            have hown0 : (wr.alloc (.cells #[] 3)).ownsRow wr.heap.size 3 1 (.slice (some ⟨wr.heap.size, 0, none⟩) 0 0) 0 ([] : List Value) := World.ownsRow_made wr #[] 0 (Nat.le_refl _) (by unfold maxLen; omega) rfl
            have hF0 := hF.below ((Below.refl wr.heap.size wr).alloc (Nat.le_refl _) (.cells #[] 3))
            obtain ⟨D1, hD1⟩ : ∃ D1, D1 = dueP L now := ⟨_, rfl⟩
            obtain ⟨L1, hL1⟩ : ∃ L1, L1 = lefP L now := ⟨_, rfl⟩
            obtain ⟨D2, hD2⟩ : ∃ D2, D2 = dueP L1 later := ⟨_, rfl⟩
            obtain ⟨L2, hL2⟩ : ∃ L2, L2 = lefP L1 later := ⟨_, rfl⟩
            have hDD : dueP L later = D1 ++ D2 := by rw [hD1, hD2, hL1]; exact (due_twice L hnl').1
            have hLL : lefP L later = L2 := by rw [hL2, hL1]; exact (due_twice L hnl').2.symm
            have hsz : (D1 ++ D2).length ≤ L.length := by rw [← hDD]; unfold dueP; rw [List.length_map]; exact (List.takeWhile_sublist _).length_le
            rw [List.length_append] at hsz
            have hsz1 : D1.length + D2.length ≤ 256 := Nat.le_trans hsz hlen
            have h1 := fun w' (h : Fi Ta Tb R w wr.heap.size w' Ba Bb Br L L L) => fi_due_a h (now := now)
            have h2 := fun w' (h : Fi Ta Tb R w wr.heap.size w' Ba Bb Br L1 L L) => fi_due_a h (now := later)
            have h3 := fun w' (h : Fi Ta Tb R w wr.heap.size w' Ba Bb Br L2 L L) => fi_due_b h (now := later)
            have h4 := fun w' (h : Fi Ta Tb R w wr.heap.size w' Ba Bb Br L2 L2 L) => fi_due_r h (now := later)
            rw [← hD1, ← hL1] at h1
            rw [← hD2, ← hL2] at h2
            rw [hDD, hLL] at h3 h4
            have H1 := Lib.hid h1
            have H2 := Lib.hid h2
            have H3 := Lib.hid h3
            have H4 := Lib.hid h4
            have HSM := Lib.hid (fun (w' : World) (A B : Option Addr) (c d : Nat) (s1 : Sl w' 1 e1 A (D1 ++ D2).length (D1 ++ D2)) (s2 : Sl w' 1 e1 B (D1 ++ D2).length (D1 ++ D2)) => (same_ints (by rw [List.length_append]; omega) s1 s2 (c := c) (d := d)).mono (fun e w'' h => And.intro (h.1.trans (by simp : _ = Ending.returned (.bool true))) h.2))
            have HI := Lib.hid (And.intro hD1 (And.intro hL1 (And.intro hD2 hL2)))
            clear h1 h2 h3 h4 hD1 hL1 hD2 hL2 hDD hLL hF HB hsz
            rw [← hG] at hown0 hF0 H1 H2 H3 H4 ⊢
            obtain ⟨w0', hw0⟩ : ∃ x, x = wr.alloc (.cells #[] 3) := ⟨_, rfl⟩
            rw [← hw0] at hown0 hF0 ⊢
            have HG := Lib.hid (And.intro hG hw0)
            clear hG hw0
            have hl1 : 0 + D1.length ≤ maxLen := by unfold maxLen; omega
            have hl1b : (0 + D1.length) * 8 ≤ 140737488355328 := by omega
            have hl2 : D1.length + D2.length ≤ maxLen := by unfold maxLen; omega
            have hl2b : (D1.length + D2.length) * 8 ≤ 140737488355328 := by omega
            go_upto_region 14 with (first
              | (go_at_call 12; refine (H1.out _ hF0).mono ?_; rintro e w1 ⟨v1, rfl, hr1, hF1, hk1⟩; have hown1 := own_hi hown0 hk1; obtain ⟨A1, c1, rfl, hs1, hn1⟩ := ints_sl2 hr1 rfl; have hg1 := hF1.gz)
              | (at_builtin; go_loud (refine app_sl rfl _ _ 22 rfl G 3 iu (.int .i64 0) 1 8 Try.underlying22 hiu hu0 hu1 hu2 rfl (by decide) _ 0 [] rfl hown1 e1 e1_len A1 D1.length c1 D1 hs1 hn1 rfl e1_one hl1 hl1b hg1 ?_)))
            intro v2 w2 hown2 hg2
            have hF2 := hF1.grown (V := v2) hown1 hg2
            replace hown2 : w2.ownsRow G 3 1 v2 D1.length (D1.map vI) := by rw [map_flat]; simpa using hown2
            obtain ⟨A2, c2, hv2⟩ : ∃ A2 c2, v2 = .slice A2 D1.length c2 := by
              obtain ⟨_, ⟨q1, q2⟩ | ⟨g, c, cur, hv, _⟩⟩ := hown2
              · exact ⟨none, 0, by rw [q1, q2]⟩
              · exact ⟨_, _, hv⟩
            subst hv2
            clear hown1 hg2 hs1 hn1 hr1 hF1 hk1 hown0 hF0 hg1 hl1 hl1b
            go_upto_region 15 with (first
              | (go_at_call 12; refine (H2.out _ hF2).mono ?_; rintro e w3 ⟨v3, rfl, hr3, hF3, hk3⟩; have hown3 := own_hi hown2 hk3; obtain ⟨A3, c3, rfl, hs3, hn3⟩ := ints_sl2 hr3 rfl; have hg3 := hF3.gz)
              | (at_builtin; go_loud (refine app_sl rfl _ _ 22 rfl G 3 iu (.int .i64 0) 1 8 Try.underlying22 hiu hu0 hu1 hu2 rfl (by decide) _ D1.length (D1.map vI) rfl hown3 e1 e1_len A3 D2.length c3 D2 hs3 hn3 rfl e1_one hl2 hl2b hg3 ?_)))
            intro v4 w4 hown4 hg4
            have hF4 := hF3.grown (V := v4) hown3 hg4
            replace hown4 : w4.ownsRow G 3 1 v4 (D1 ++ D2).length ((D1 ++ D2).map vI) := by rw [List.length_append, List.map_append, map_flat D2]; exact hown4
            clear hown3 hg4 hs3 hn3 hr3 hF3 hk3 hown2 hF2 hg3 hl2 hl2b hsz1
            generalize D1 ++ D2 = DD at *
            obtain ⟨A4, c4, rfl, hs4, hn4⟩ := ints_sl2 hown4 rfl
            clear hs4 hn4
            go_upto_region 16 with (go_at_call 12; refine (H3.out _ hF4).mono ?_; rintro e w5 ⟨v5, rfl, hr5, hF5, hk5⟩; have hown5 := own_hi hown4 hk5; obtain ⟨A5, c5, rfl, hs5, hn5⟩ := ints_sl2 hr5 rfl)
            have hS4 : Sl w5 1 e1 A4 DD.length DD := by
              obtain ⟨A, c, e, hs, _⟩ := ints_sl2 hown5 rfl
              cases e; exact hs
            clear hn5 hown5 hk5 hown4 hF4 H1 H2 H3 HI HG
            have TS := HSM.out _ _ _ c4 c5 (hS4.keep (bel_dr (Below.refl _ _))) (hs5.keep (bel_dr (Below.refl _ _)))
            have hF5d := hF5.below (bel_dr (Below.refl _ _))
            have hr5d : w5.drew.ownsRow G 3 1 (.slice A5 DD.length c5) DD.length (DD.map vI) := own_hi hr5 (hi_below (bel_dr (Below.refl _ _)))
            clear hS4 hs5 hF5 hr5
            go_region_with (first
              | (go_at_call 14; first
                  | ((with_reducible refine TS.mono ?_); rintro e w6 ⟨rfl, b6⟩; have hF6 := hF5d.below b6; have hr6 := own_hi hr5d (hi_below b6); have TD := H4.out _ hF6)
                  | ((with_reducible refine TS2.mono ?_); rintro e w8 ⟨rfl, b8⟩; have hF8 := hF7.below b8; have TA := fi_len_a hF8; have TB := fi_len_b hF8; obtain ⟨Az, cz, ccz⟩ := hF8.cr))
              | (go_at_call 15; refine TD.mono ?_; rintro e w7 ⟨v7, rfl, hr7, hF7, hk7⟩; have hr67 := own_hi hr6 hk7; obtain ⟨A7, c7, rfl, hs7, _⟩ := ints_sl2 hr7 rfl; have hs57 : Sl w7 1 e1 A5 DD.length DD := (by obtain ⟨A, c, e, hs, _⟩ := ints_sl2 hr67 rfl; cases e; exact hs); have TS2 := HSM.out _ _ _ c5 c7 hs57 hs7)
              | (go_at_call 11; first
                  | ((with_reducible refine TA.mono ?_); rintro e w9 ⟨rfl, rfl⟩)
                  | ((with_reducible refine TB.mono ?_); rintro e w9 ⟨rfl, rfl⟩)))
            all_goals
              go_wp2
              first | exact ⟨rfl, hF8.bl⟩ | (go_ret; exact ⟨rfl, hF8.bl⟩)
end Go.Proofs.Ytcmdelmgklidjaa
