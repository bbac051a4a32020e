/- The document's Set; by-name template. -/
import Derived.Test.YtcmdelmgklidjaaWhRDrop
namespace Go.Proofs.Ytcmdelmgklidjaa
open Go.RowKit Go.Lib Go.Sort
set_option linter.unusedVariables false
set_option linter.unusedSimpArgs false

section
variable {w : World} {R : Nat → Prop} {Br : Nat} {A : Option Addr} {c : Nat} {L : List K2}
set_option maxRecDepth 100000 in
set_option maxHeartbeats 4000000 in
theorem rset_full (h : RAt w R Br L) (hu : UId L) {id t : Int} (hn : hasP L id = false) (h256 : L.length = 256) :
    Calls Try.prog 13 #[.pointer (some ⟨Br, 0, none⟩), .int .i64 id, .int .i64 t] w fun e w' => e = .returned (.int .i64 120) ∧ RPost w R Br L w' := by
  have hD := rdrop_any h hu (id := id)
  rw [hn, rem_id (has_false.1 hn)] at hD
  have HR : ∀ w', RPost w R Br L w' → ∃ A c, w'.cell? ⟨Br, 0, none⟩ = some (.slice A 256 c) := fun w' ⟨R', ⟨_, A, c, hi⟩, _⟩ => ⟨A, c, by rw [← h256]; exact hi.c0⟩
  have HR := Lib.hid HR
  clear h hu hn
  generalize RPost w R Br L = M at *
  go_enter Try.func13, Try.ntmps13
  go_wp2_with (go_at_call 16; refine hD.mono ?_; rintro e w1 ⟨rfl, h1⟩; obtain ⟨A1, c1, hc1⟩ := HR.out _ h1)
  go_ret
  exact ⟨rfl, h1⟩

theorem tw_of {L : List K2} {x : K2} {i : Nat} (hi : i ≤ L.length) (h : ∀ j y, j < i → L[j]? = some y → LtK y x) (h0 : ∀ y, L[i]? = some y → ¬ LtK y x) : insP L x = L.take i ++ x :: L.drop i := by
  obtain ⟨D, t1, t2, t3, t4, t5⟩ := tw_spec (fun y : K2 => decide (LtK y x)) L
  have : i = D := by
    rcases Nat.lt_trichotomy i D with q | q | q
    · have hl : i < L.length := by omega
      have e := List.getElem?_eq_getElem hl
      exact absurd (of_decide_eq_true (t4 i _ q e)) (h0 _ e)
    · exact q
    · have hl : D < L.length := by omega
      have e := List.getElem?_eq_getElem hl
      exact absurd (h D _ q e) (of_decide_eq_false (t5 _ e))
  subst this
  unfold insP
  rw [t1, t2]

theorem k2_news (w : World) (p : K2) (t : TypeId) : ∀ j u, (k2c p)[j]? = some u → (w.alloc (.cells #[.int .i64 p.1, .int .i64 p.2] t)).cell? ((⟨w.heap.size, 0, none⟩ : Addr).add j) = some u := by
  intro j u hj
  have h := heap_alloc_new w (.cells #[.int .i64 p.1, .int .i64 p.2] t)
  generalize w.alloc (.cells #[.int .i64 p.1, .int .i64 p.2] t) = w1 at *
  have hj2 : j < 2 := (List.getElem?_eq_some_iff.1 hj).1
  match j, hj2, hj with
  | 0, _, hj => simp [k2c] at hj; subst hj; simp [Addr.add, World.cell?, h]
  | 1, _, hj => simp [k2c] at hj; subst hj; simp [Addr.add, World.cell?, h]

set_option maxRecDepth 100000 in
set_option maxHeartbeats 8000000 in
theorem rset_go (had : Bool) {L1 : List K2} {id t : Int} (hl1 : L1.length < 256) 
    (hD : Calls Try.prog 16 #[.pointer (some ⟨Br, 0, none⟩), .int .i64 id] w fun e w' => e = .returned (.bool had) ∧ RPost w R Br L1 w') :
    Calls Try.prog 13 #[.pointer (some ⟨Br, 0, none⟩), .int .i64 id, .int .i64 t] w fun e w' => e = .returned (.int .i64 0) ∧ RPost w R Br (insP L1 (id, t)) w' := by
  obtain ⟨iu, hiu, hu0, hu1, hu2⟩ := info_parts one_info
  obtain ⟨M, hM⟩ : ∃ M : World → Prop, M = RPost w R Br (insP L1 (id, t)) := ⟨_, rfl⟩
  rw [← hM]
  have HM := Lib.hid hM
  clear hM
  have HC : ∀ w', RPost w R Br L1 w' → ∃ A c R', RIn w' R' Br A c L1 ∧ w'.cell? ⟨Br, 0, none⟩ = some (.slice A L1.length c) ∧ (∀ w'', RPost w' R' Br (insP L1 (id, t)) w'' → M w'') := fun w' ⟨R', ⟨_, A, c, hi⟩, o, hR⟩ => ⟨A, c, R', hi, hi.c0, fun w'' ⟨R2, h2, o2, hR2⟩ => by
    rw [HM.out]
    refine ⟨R2, h2, o.trans o2, fun k hk => ?_⟩
    rcases hR2 k hk with q | q | q
    · exact .inl q
    · exact hR k q
    · exact .inr (.inr (Nat.le_trans o.size q))⟩
  have HCC := Lib.hid HC
  clear HC
  have hnI : ¬ (L1.length : Int) = 256 := by omega
  have hnB : ((L1.length : Int) == 256) = false := by simpa using hnI
  generalize hnl : L1.length = n at *
  have HN := Lib.hid hnl
  clear hnl
  cases had
  · go_enter Try.func13, Try.ntmps13
    go_upto_region 5 with (go_at_call 16; refine hD.mono ?_; rintro e w1 ⟨rfl, h1⟩; obtain ⟨A1, c1, R1, hi1, hc1, hF1⟩ := HCC.out _ h1)
    have b2 : Below w1.heap.size w1 (w1.alloc (.cells #[.int .i64 id, .int .i64 t] 59)) := (Below.refl _ _).alloc (Nat.le_refl _) _
    have hX := heap_alloc_new w1 (.cells #[.int .i64 id, .int .i64 t] 59)
    have hB1 := hi1.lt _ hi1.rB
    have FIN : ∀ i, i ≤ n → insP L1 (id, t) = L1.take i ++ (id, t) :: L1.drop i → ∀ v3 w3 G, w1.heap.size ≤ G → Below (w1.alloc (.cells #[.int .i64 id, .int .i64 t] 59)).heap.size (w1.alloc (.cells #[.int .i64 id, .int .i64 t] 59)) w3 → w3.ownsRow G 59 2 v3 (i + 1 + (n - i)) ((L1.take i).flatMap k2c ++ k2c (id, t) ++ (L1.drop i).flatMap k2c) →
        M (w3.setCell ⟨Br, 0, none⟩ v3) ∧ w3.cell? ⟨Br, 0, none⟩ = some (.slice A1 n c1) ∧ w3.frozen? ⟨Br, 0, none⟩ = false ∧ ∃ A3 n3 c3, v3 = .slice A3 n3 c3 := fun i hin hins v3 w3 G hG b3 hown => by
      have hb3 := bel_via b2 b3
      have hlen : (insP L1 (id, t)).length = i + 1 + (n - i) := by rw [ins_len, HN.out]; omega
      have hfl : (insP L1 (id, t)).flatMap k2c = (L1.take i).flatMap k2c ++ k2c (id, t) ++ (L1.drop i).flatMap k2c := by rw [hins]; simp
      rw [← hfl, ← hlen] at hown
      obtain ⟨A3, c3, rfl, hp⟩ := hi1.store (L' := insP L1 (id, t)) (by rw [hlen]; omega) hG hb3 hown
      exact ⟨hF1 _ hp, keepc hb3 hc1, free_of ((hb3.block Br hB1).trans hi1.hm) 0, _, _, _, rfl⟩
    have HFIN := Lib.hid FIN
    have hS1 : Sl w1 2 k2c A1 n L1 := by have := hi1.sl; rw [HN.out] at this; exact this
    have hS2 := Lib.hid (hS1.keep b2)
    have hc2 := keepc b2 hc1
    have hcap : n ≤ c1 := by have := hi1.cap; rw [HN.out] at this; exact this
    have hnil := Lib.hid hi1.nil
    have HSP := Lib.hid (fun b off sp (e : A1 = some ⟨b, off, sp⟩) => (hi1.rA b off sp e).2.2)
    obtain ⟨w2, hw2⟩ : ∃ w2, w2 = w1.alloc (.cells #[.int .i64 id, .int .i64 t] 59) := ⟨_, rfl⟩
    rw [← hw2] at HFIN hS2 hX hc2 ⊢
    obtain ⟨X, hX0⟩ : ∃ X, X = w1.heap.size := ⟨_, rfl⟩
    rw [← hX0] at hX ⊢
    have x0 : w2.cell? ⟨X, 0, none⟩ = some (.int .i64 id) := cell_of_row _ _ 0 _ _ _ hX
    have x1 : w2.cell? ⟨X, 1, none⟩ = some (.int .i64 t) := cell_of_row _ _ 1 _ _ _ hX
    have HW1 := Lib.hid (And.intro hw2 hX0)
    have hwX : w1.heap.size ≤ w2.heap.size := by rw [hw2, al_size]; omega
    clear FIN hw2 hX0 hX hi1 h1 hF1 hS1 hB1 b2 hc1 hD HCC
    go_wp2
    go_loopw [9] (fun v wr => ∃ i : Nat, v = .int .i64 (i : Int) ∧ i ≤ n ∧ Hid (∀ j y, j < i → L1[j]? = some y → LtK y (id, t)) ∧ Below w2.heap.size w2 wr) (fun v _ => n - (intOf v).toNat)
    case atStart => exact ⟨0, rfl, Nat.zero_le _, Lib.hid (fun j y h => absurd h (Nat.not_lt_zero _)), Below.refl _ _⟩
    case round =>
      obtain ⟨i, rfl, hin, HF, bq⟩ := hrel
      have hcq := keepc bq hc2
      have z0 := keepc bq x0
      have z1 := keepc bq x1
      clear hc2 x0 x1
      by_cases hlt : i < n
      · have hkL : i < L1.length := by rw [HN.out]; exact hlt
        obtain ⟨x, hx⟩ : ∃ x, L1[i]? = some x := ⟨_, List.getElem?_eq_getElem hkL⟩
        obtain ⟨b, off, hA, hbl, hrow⟩ := hS2.out.row (by omega)
        have r0 := keepc bq (hrow i x hx 0 _ rfl)
        have r1 := keepc bq (hrow i x hx 1 _ rfl)
        simp only [Nat.add_zero] at r0
        have hltI : (i : Int) < (n : Int) := by omega
        have hd : decide (i < n) = true := by simp [hlt]
        have cl := less_any x (id, t)
        simp only at cl
        generalize hX : decide (LtK x (id, t)) = X0 at cl
        have HX := Lib.hid hX
        have HXS := Lib.hid hx
        subst hA
        clear hrow hx hX
        go_wp2_with fail
        have k_r0 := cell_regrown r0
        have k_r1 := cell_regrown r1
        have k_z0 := cell_regrown z0
        have k_z1 := cell_regrown z1
        have k_c := cell_regrown hcq
        have q := fun d os => Calls.regrown_of (cl (grow (redrawn wr d) os))
        clear r0 r1 z0 z1 hcq
        refine wp_region_quiet_below (by kernel_rfl) (by kernel_rfl) ?_
        repeat (first | go_big_quiet_skip | quiet_step (first | (go_at_call 22; with_reducible exact q _ _)))
        refine wpQuiet_nil ?_
        intro _ hw'
        obtain ⟨⟨dq, osq⟩, hw''⟩ := hw'
        subst hw''
        have z0 := k_z0 dq osq
        have z1 := k_z1 dq osq
        have hcq := k_c dq osq
        replace bq : Below w2.heap.size w2 (grow (redrawn wr dq) osq) := bel_via bq (below_regrown wr dq osq)
        obtain ⟨wq, hwq⟩ : ∃ x, x = grow (redrawn wr dq) osq := ⟨_, rfl⟩
        rw [← hwq] at z0 z1 hcq bq ⊢
        clear hwq k_r0 k_r1 k_z0 k_z1 k_c q cl
        cases X0 with
        | true =>
          have hF' : ∀ j y, j < i + 1 → L1[j]? = some y → LtK y (id, t) := fun j y hj hy => by
            by_cases e : j = i
            · subst e; rw [HXS.out] at hy; cases hy; exact of_decide_eq_true HX.out
            · exact HF.out j y (by omega) hy
          have HF' := Lib.hid hF'
          clear hF' HF HFIN
          go_wp2
          refine ⟨?_, by simp [intOf]; omega⟩
          first | exact ⟨i + 1, by simp, by omega, HF', bq⟩ | ((repeat apply Exists.intro); refine ⟨⟨i + 1, ?_, by omega, HF', bq⟩, rfl⟩; simp)
        | false =>
          have HINS := Lib.hid (tw_of (i := i) (by omega) HF.out (fun y hy => by rw [HXS.out] at hy; cases hy; exact of_decide_eq_false HX.out))
          clear HF HX HXS
          go_upto_region 8 with fail
          have hsq := hS2.out.keep bq
          have hown8 : (wq.alloc (.cells #[] 59)).ownsRow wq.heap.size 59 2 (.slice (some ⟨wq.heap.size, 0, none⟩) 0 0) 0 ([] : List Value) := World.ownsRow_made wq #[] 0 (Nat.le_refl _) (by unfold maxLen; omega) rfl
          have hz8 := (Below.refl wq.heap.size wq).alloc (Nat.le_refl _) (.cells #[] 59)
          have hbw8 : wq.heap.size ≤ (wq.alloc (.cells #[] 59)).heap.size := hz8.size
          have hs8 := Lib.hid ((hsq.cut (m := i) (by omega)).keep hz8)
          have hb81 : (0 + i) * 16 ≤ 140737488355328 := by omega
          have h863 : 0 + i ≤ maxLen := by unfold maxLen; omega
          have hc8 := keepc hz8 hcq
          have y0 := keepc hz8 z0
          have y1 := keepc hz8 z1
          have bz8 := bel_via bq hz8
          have HCQ := Lib.hid (And.intro hcq (And.intro z0 z1))
          have HSQ := Lib.hid hsq
          have b4 : i ≤ c1 := by omega
          have b5 : (i : Int) ≤ (c1 : Int) := by omega
          have b6 : (i : Int) ≤ (n : Int) := by omega
          clear hcq z0 z1 hsq
          go_upto_region 9 with fail
          obtain ⟨w8, hw8⟩ : ∃ x, x = wq.alloc (.cells #[] 59) := ⟨_, rfl⟩
          obtain ⟨G, hG⟩ : ∃ G, G = wq.heap.size := ⟨_, rfl⟩
          rw [← hw8] at hown8 hz8 hbw8 hs8 hc8 y0 y1 bz8 ⊢
          rw [← hG] at hown8 hbw8 ⊢
          have HG := Lib.hid hG
          clear hw8 hG
          go_upto_region 10 with (at_builtin; go_loud (refine app_sl rfl _ _ 32 rfl G 59 iu (.agg #[.int .i64 0, .int .i64 0]) 2 16 Try.underlying32 hiu hu0 hu1 hu2 rfl (by decide) _ 0 [] rfl hown8 k2c k2_len (some ⟨b, off, none⟩) i c1 (L1.take i) hs8.out (fun h => by cases h) rfl k2_one h863 hb81 hbw8 ?_))
          intro v9 w9 hown9 hg9
          have hz9 : Below wq.heap.size wq w9 := hz8.grown hg9 (by have := HG.out; omega) (fun q hq => by have := own_gt hown8 q hq; have := HG.out; omega)
          have hbw9 : G ≤ w9.heap.size := Nat.le_trans hbw8 hg9.size
          replace hown9 : w9.ownsRow G 59 2 v9 i ((L1.take i).flatMap k2c) := by simpa using hown9
          have hc9 := keepc hz9 HCQ.out.1
          have x0 := keepc hz9 HCQ.out.2.1
          have x1 := keepc hz9 HCQ.out.2.2
          obtain ⟨A9, c9, hv9⟩ : ∃ A9 c9, v9 = .slice A9 i c9 := by
            obtain ⟨_, ⟨q1, q2⟩ | ⟨g, c, cur, hv, _⟩⟩ := hown9
            · exact ⟨none, 0, by rw [q1, q2]⟩
            · exact ⟨_, _, hv⟩
          subst hv9
          clear hown8 hg9 hs8 hc8 y0 y1 bz8 h863 hb81 hbw8 hz8
          have hownA := own_below hown9 ((Below.refl w9.heap.size w9).alloc (Nat.le_refl _) (.cells #[.int .i64 id, .int .i64 t] 59))
          have hbA : G ≤ (w9.alloc (.cells #[.int .i64 id, .int .i64 t] 59)).heap.size := by rw [al_size]; omega
          have h1 := Lib.hid (k2_news w9 (id, t) 59)
          have h2 := Lib.hid (k2_one (id, t))
          have h63 : i + 1 ≤ maxLen := by unfold maxLen; omega
          have hby : (i + 1) * 16 ≤ 140737488355328 := by omega
          have ho9 : ∀ q, (Value.slice A9 i c9).ownBlock = some q → G ≤ q := own_gt hown9
          have HO9 := Lib.hid ho9
          clear ho9 hown9
          go_upto_region 11 with (at_builtin; go_loud (refine wpList_append_own _ rfl _ _ 32 rfl G 59 iu (.agg #[.int .i64 0, .int .i64 0]) 2 16 Try.underlying32 hiu hu0 hu1 hu2 rfl (by decide) _ _ _ rfl hownA ⟨w9.heap.size, 0, none⟩ 1 1 (k2c (id, t)) rfl rfl h1.out h2.out h63 hby hbA ?_))
          intro v10 w10 hown10 hg10 _
          have hz10 : Below wq.heap.size wq w10 := (hz9.alloc hz9.size _).grown hg10 (by rw [al_size]; have := hz9.size; omega) (fun q hq => by have := HO9.out q hq; have := HG.out; omega)
          have hbw10 : G ≤ w10.heap.size := Nat.le_trans hbA hg10.size
          have hc10 := keepc hz10 HCQ.out.1
          obtain ⟨A10, c10, hv10⟩ : ∃ A10 c10, v10 = .slice A10 (i + 1) c10 := by
            obtain ⟨_, ⟨q1, q2⟩ | ⟨g, c, cur, hv, _⟩⟩ := hown10
            · omega
            · exact ⟨_, _, hv⟩
          subst hv10
          have DONE : ∀ v3 w3, w3.ownsRow G 59 2 v3 (i + 1 + (n - i)) ((L1.take i).flatMap k2c ++ k2c (id, t) ++ (L1.drop i).flatMap k2c) → w10.grownBy w3 (Value.slice A10 (i + 1) c10).ownBlock → M (w3.setCell ⟨Br, 0, none⟩ v3) ∧ w3.cell? ⟨Br, 0, none⟩ = some (.slice (some ⟨b, off, none⟩) n c1) ∧ w3.frozen? ⟨Br, 0, none⟩ = false ∧ ∃ A3 n3 c3, v3 = .slice A3 n3 c3 := fun v3 w3 h3 g3 =>
            HFIN.out i hin HINS.out v3 w3 G (by have := HG.out; have := bq.size; omega) (bel_via bq (hz10.grown g3 (by have := HG.out; omega) (fun q hq => by have := own_gt hown10 q hq; have := HG.out; omega))) h3
          have HD := Lib.hid DONE
          have HSR := Lib.hid (HSQ.out.keep hz10)
          clear DONE hg10 hownA hz9 hc9 x0 x1 hbA h1 h2 h63 hby HO9 hz10 HFIN
          have hs11 := Lib.hid (HSR.out.dropG (i := i) (by omega))
          have h1163 : i + 1 + (n - i) ≤ maxLen := by unfold maxLen; omega
          have hb111 : (i + 1 + (n - i)) * 16 ≤ 140737488355328 := by omega
          have hce' : ¬ c1 = i := by omega
          go_wp2_with (at_builtin; go_loud (refine app_sl rfl _ _ 32 rfl G 59 iu (.agg #[.int .i64 0, .int .i64 0]) 2 16 Try.underlying32 hiu hu0 hu1 hu2 rfl (by decide) _ (i + 1) ((L1.take i).flatMap k2c ++ k2c (id, t)) rfl hown10 k2c k2_len (some ⟨b, off + i * 2, none⟩) (n - i) (c1 - i) (L1.drop i) hs11.out (fun h => by cases h) rfl k2_one h1163 hb111 hbw10 ?_))
          intro v3 w3 h3 g3
          obtain ⟨k1, k2, k3, A3, n3, c3, rfl⟩ := HD.out v3 w3 (by first | exact h3 | (rw [List.append_assoc]; exact h3) | simpa using h3) g3
          have HK := Lib.hid k1
          clear k1 h3 g3 HD
          go_wp2
          first | exact ⟨rfl, HK.out⟩ | (go_ret; exact ⟨rfl, HK.out⟩)
      · have hie : i = n := by omega
        have HINS := Lib.hid (tw_of (i := i) (by have := HN.out; omega) HF.out (fun y hy => by have := (List.getElem?_eq_some_iff.1 hy).1; have := HN.out; omega))
        have hd : decide (i < n) = false := by simp [hlt]
        have hltI : ¬ (i : Int) < (n : Int) := by omega
        clear HF
        cases A1 with
        | none =>
          have hn0 : n = 0 := by
            apply Classical.byContradiction; intro hh
            obtain ⟨b, off, hA, _⟩ := hS2.out.row (by omega)
            cases hA
          have hi0 : i = 0 := by omega
          have hc0 := hnil.out rfl
          subst hc0
          clear hie
          subst hi0
          subst hn0
          go_wp2_with fail
          have k_z0 := cell_regrown z0
          have k_z1 := cell_regrown z1
          have k_c := cell_regrown hcq
          clear z0 z1 hcq
          refine wp_region_quiet_below (by kernel_rfl) (by kernel_rfl) ?_
          repeat (first | go_big_quiet_skip | quiet_step (fail))
          refine wpQuiet_nil ?_
          intro _ hw'
          obtain ⟨⟨dq, osq⟩, hw''⟩ := hw'
          subst hw''
          have z0 := k_z0 dq osq
          have z1 := k_z1 dq osq
          have hcq := k_c dq osq
          replace bq : Below w2.heap.size w2 (grow (redrawn wr dq) osq) := bel_via bq (below_regrown wr dq osq)
          obtain ⟨wq, hwq⟩ : ∃ x, x = grow (redrawn wr dq) osq := ⟨_, rfl⟩
          rw [← hwq] at z0 z1 hcq bq ⊢
          clear hwq k_z0 k_z1 k_c
          go_upto_region 8 with fail
          clear hlt hltI hd
          have hsq := hS2.out.keep bq
          have hown8 : (wq.alloc (.cells #[] 59)).ownsRow wq.heap.size 59 2 (.slice (some ⟨wq.heap.size, 0, none⟩) 0 0) 0 ([] : List Value) := World.ownsRow_made wq #[] 0 (Nat.le_refl _) (by unfold maxLen; omega) rfl
          have hz8 := (Below.refl wq.heap.size wq).alloc (Nat.le_refl _) (.cells #[] 59)
          have hbw8 : wq.heap.size ≤ (wq.alloc (.cells #[] 59)).heap.size := hz8.size
          have hs8 := Lib.hid (Sl.none (w := wq.alloc (.cells #[] 59)) (enc := k2c) (k := 2) none)
          have hb81 : (0 + 0) * 16 ≤ 140737488355328 := by omega
          have h863 : 0 + 0 ≤ maxLen := by unfold maxLen; omega
          have hc8 := keepc hz8 hcq
          have y0 := keepc hz8 z0
          have y1 := keepc hz8 z1
          have bz8 := bel_via bq hz8
          have HCQ := Lib.hid (And.intro hcq (And.intro z0 z1))
          have HSQ := Lib.hid hsq
          have b4 : 0 ≤ 0 := by omega
          have b5 : (0 : Int) ≤ (0 : Int) := by omega
          have b6 : (0 : Int) ≤ (0 : Int) := by omega
          clear hcq z0 z1 hsq
          go_upto_region 9 with fail
          obtain ⟨w8, hw8⟩ : ∃ x, x = wq.alloc (.cells #[] 59) := ⟨_, rfl⟩
          obtain ⟨G, hG⟩ : ∃ G, G = wq.heap.size := ⟨_, rfl⟩
          rw [← hw8] at hown8 hz8 hbw8 hs8 hc8 y0 y1 bz8 ⊢
          rw [← hG] at hown8 hbw8 ⊢
          have HG := Lib.hid hG
          clear hw8 hG
          go_upto_region 10 with (at_builtin; go_loud (refine app_sl rfl _ _ 32 rfl G 59 iu (.agg #[.int .i64 0, .int .i64 0]) 2 16 Try.underlying32 hiu hu0 hu1 hu2 rfl (by decide) _ 0 [] rfl hown8 k2c k2_len none 0 0 [] hs8.out (fun _ => rfl) rfl k2_one h863 hb81 hbw8 ?_))
          intro v9 w9 hown9 hg9
          have hz9 : Below wq.heap.size wq w9 := hz8.grown hg9 (by have := HG.out; omega) (fun q hq => by have := own_gt hown8 q hq; have := HG.out; omega)
          have hbw9 : G ≤ w9.heap.size := Nat.le_trans hbw8 hg9.size
          replace hown9 : w9.ownsRow G 59 2 v9 0 ((L1.take 0).flatMap k2c) := by simpa using hown9
          have hc9 := keepc hz9 HCQ.out.1
          have x0 := keepc hz9 HCQ.out.2.1
          have x1 := keepc hz9 HCQ.out.2.2
          obtain ⟨A9, c9, hv9⟩ : ∃ A9 c9, v9 = .slice A9 0 c9 := by
            obtain ⟨_, ⟨q1, q2⟩ | ⟨g, c, cur, hv, _⟩⟩ := hown9
            · exact ⟨none, 0, by rw [q1, q2]⟩
            · exact ⟨_, _, hv⟩
          subst hv9
          clear hown8 hg9 hs8 hc8 y0 y1 bz8 h863 hb81 hbw8 hz8
          have hownA := own_below hown9 ((Below.refl w9.heap.size w9).alloc (Nat.le_refl _) (.cells #[.int .i64 id, .int .i64 t] 59))
          have hbA : G ≤ (w9.alloc (.cells #[.int .i64 id, .int .i64 t] 59)).heap.size := by rw [al_size]; omega
          have h1 := Lib.hid (k2_news w9 (id, t) 59)
          have h2 := Lib.hid (k2_one (id, t))
          have h63 : 0 + 1 ≤ maxLen := by unfold maxLen; omega
          have hby : (0 + 1) * 16 ≤ 140737488355328 := by omega
          have ho9 : ∀ q, (Value.slice A9 0 c9).ownBlock = some q → G ≤ q := own_gt hown9
          have HO9 := Lib.hid ho9
          clear ho9 hown9
          go_upto_region 11 with (at_builtin; go_loud (refine wpList_append_own _ rfl _ _ 32 rfl G 59 iu (.agg #[.int .i64 0, .int .i64 0]) 2 16 Try.underlying32 hiu hu0 hu1 hu2 rfl (by decide) _ _ _ rfl hownA ⟨w9.heap.size, 0, none⟩ 1 1 (k2c (id, t)) rfl rfl h1.out h2.out h63 hby hbA ?_))
          intro v10 w10 hown10 hg10 _
          have hz10 : Below wq.heap.size wq w10 := (hz9.alloc hz9.size _).grown hg10 (by rw [al_size]; have := hz9.size; omega) (fun q hq => by have := HO9.out q hq; have := HG.out; omega)
          have hbw10 : G ≤ w10.heap.size := Nat.le_trans hbA hg10.size
          have hc10 := keepc hz10 HCQ.out.1
          obtain ⟨A10, c10, hv10⟩ : ∃ A10 c10, v10 = .slice A10 (0 + 1) c10 := by
            obtain ⟨_, ⟨q1, q2⟩ | ⟨g, c, cur, hv, _⟩⟩ := hown10
            · omega
            · exact ⟨_, _, hv⟩
          subst hv10
          have DONE : ∀ v3 w3, w3.ownsRow G 59 2 v3 (0 + 1 + (0 - 0)) ((L1.take 0).flatMap k2c ++ k2c (id, t) ++ (L1.drop 0).flatMap k2c) → w10.grownBy w3 (Value.slice A10 (0 + 1) c10).ownBlock → M (w3.setCell ⟨Br, 0, none⟩ v3) ∧ w3.cell? ⟨Br, 0, none⟩ = some (.slice none 0 0) ∧ w3.frozen? ⟨Br, 0, none⟩ = false ∧ ∃ A3 n3 c3, v3 = .slice A3 n3 c3 := fun v3 w3 h3 g3 =>
            HFIN.out 0 hin HINS.out v3 w3 G (by have := HG.out; have := bq.size; omega) (bel_via bq (hz10.grown g3 (by have := HG.out; omega) (fun q hq => by have := own_gt hown10 q hq; have := HG.out; omega))) h3
          have HD := Lib.hid DONE
          have HSR := Lib.hid (HSQ.out.keep hz10)
          clear DONE hg10 hownA hz9 hc9 x0 x1 hbA h1 h2 h63 hby HO9 hz10 HFIN
          have hs11 := Lib.hid (Sl.none (w := w10) (enc := k2c) (k := 2) none)
          have h1163 : 0 + 1 + 0 ≤ maxLen := by unfold maxLen; omega
          have hb111 : (0 + 1 + 0) * 16 ≤ 140737488355328 := by omega
          have hdr : L1.drop 0 = [] := List.drop_eq_nil_of_le (by have := HN.out; omega)
          rw [hdr] at HD
          simp only [Nat.sub_self, Nat.add_zero, List.flatMap_nil, List.append_nil] at HD
          go_wp2_with (at_builtin; go_loud (refine app_sl rfl _ _ 32 rfl G 59 iu (.agg #[.int .i64 0, .int .i64 0]) 2 16 Try.underlying32 hiu hu0 hu1 hu2 rfl (by decide) _ (0 + 1) ((L1.take 0).flatMap k2c ++ k2c (id, t)) rfl hown10 k2c k2_len none 0 0 [] hs11.out (fun _ => rfl) rfl k2_one h1163 hb111 hbw10 ?_))
          intro v3 w3 h3 g3
          obtain ⟨k1, k2, k3, A3, n3, c3, rfl⟩ := HD.out v3 w3 (by first | exact h3 | (rw [List.append_assoc]; exact h3) | simpa using h3) g3
          have HK := Lib.hid k1
          clear k1 h3 g3 HD
          go_wp2
          first | exact ⟨rfl, HK.out⟩ | (go_ret; exact ⟨rfl, HK.out⟩)
        | some ad =>
          obtain ⟨b, off, sp⟩ := ad
          have hsp : sp = none := (HSP.out b off sp rfl)
          subst hsp
          subst hie
          go_wp2_with fail
          have k_z0 := cell_regrown z0
          have k_z1 := cell_regrown z1
          have k_c := cell_regrown hcq
          clear z0 z1 hcq
          refine wp_region_quiet_below (by kernel_rfl) (by kernel_rfl) ?_
          repeat (first | go_big_quiet_skip | quiet_step (fail))
          refine wpQuiet_nil ?_
          intro _ hw'
          obtain ⟨⟨dq, osq⟩, hw''⟩ := hw'
          subst hw''
          have z0 := k_z0 dq osq
          have z1 := k_z1 dq osq
          have hcq := k_c dq osq
          replace bq : Below w2.heap.size w2 (grow (redrawn wr dq) osq) := bel_via bq (below_regrown wr dq osq)
          obtain ⟨wq, hwq⟩ : ∃ x, x = grow (redrawn wr dq) osq := ⟨_, rfl⟩
          rw [← hwq] at z0 z1 hcq bq ⊢
          clear hwq k_z0 k_z1 k_c
          go_upto_region 8 with fail
          clear hlt hltI hd
          have hsq := hS2.out.keep bq
          have hown8 : (wq.alloc (.cells #[] 59)).ownsRow wq.heap.size 59 2 (.slice (some ⟨wq.heap.size, 0, none⟩) 0 0) 0 ([] : List Value) := World.ownsRow_made wq #[] 0 (Nat.le_refl _) (by unfold maxLen; omega) rfl
          have hz8 := (Below.refl wq.heap.size wq).alloc (Nat.le_refl _) (.cells #[] 59)
          have hbw8 : wq.heap.size ≤ (wq.alloc (.cells #[] 59)).heap.size := hz8.size
          have hs8 := Lib.hid ((hsq.cut (m := i) (by omega)).keep hz8)
          have hb81 : (0 + i) * 16 ≤ 140737488355328 := by omega
          have h863 : 0 + i ≤ maxLen := by unfold maxLen; omega
          have hc8 := keepc hz8 hcq
          have y0 := keepc hz8 z0
          have y1 := keepc hz8 z1
          have bz8 := bel_via bq hz8
          have HCQ := Lib.hid (And.intro hcq (And.intro z0 z1))
          have HSQ := Lib.hid hsq
          have b4 : i ≤ c1 := by omega
          have b5 : (i : Int) ≤ (c1 : Int) := by omega
          have b6 : (i : Int) ≤ (i : Int) := by omega
          clear hcq z0 z1 hsq
          go_upto_region 9 with fail
          obtain ⟨w8, hw8⟩ : ∃ x, x = wq.alloc (.cells #[] 59) := ⟨_, rfl⟩
          obtain ⟨G, hG⟩ : ∃ G, G = wq.heap.size := ⟨_, rfl⟩
          rw [← hw8] at hown8 hz8 hbw8 hs8 hc8 y0 y1 bz8 ⊢
          rw [← hG] at hown8 hbw8 ⊢
          have HG := Lib.hid hG
          clear hw8 hG
          go_upto_region 10 with (at_builtin; go_loud (refine app_sl rfl _ _ 32 rfl G 59 iu (.agg #[.int .i64 0, .int .i64 0]) 2 16 Try.underlying32 hiu hu0 hu1 hu2 rfl (by decide) _ 0 [] rfl hown8 k2c k2_len (some ⟨b, off, none⟩) i c1 (L1.take i) hs8.out (fun h => by cases h) rfl k2_one h863 hb81 hbw8 ?_))
          intro v9 w9 hown9 hg9
          have hz9 : Below wq.heap.size wq w9 := hz8.grown hg9 (by have := HG.out; omega) (fun q hq => by have := own_gt hown8 q hq; have := HG.out; omega)
          have hbw9 : G ≤ w9.heap.size := Nat.le_trans hbw8 hg9.size
          replace hown9 : w9.ownsRow G 59 2 v9 i ((L1.take i).flatMap k2c) := by simpa using hown9
          have hc9 := keepc hz9 HCQ.out.1
          have x0 := keepc hz9 HCQ.out.2.1
          have x1 := keepc hz9 HCQ.out.2.2
          obtain ⟨A9, c9, hv9⟩ : ∃ A9 c9, v9 = .slice A9 i c9 := by
            obtain ⟨_, ⟨q1, q2⟩ | ⟨g, c, cur, hv, _⟩⟩ := hown9
            · exact ⟨none, 0, by rw [q1, q2]⟩
            · exact ⟨_, _, hv⟩
          subst hv9
          clear hown8 hg9 hs8 hc8 y0 y1 bz8 h863 hb81 hbw8 hz8
          have hownA := own_below hown9 ((Below.refl w9.heap.size w9).alloc (Nat.le_refl _) (.cells #[.int .i64 id, .int .i64 t] 59))
          have hbA : G ≤ (w9.alloc (.cells #[.int .i64 id, .int .i64 t] 59)).heap.size := by rw [al_size]; omega
          have h1 := Lib.hid (k2_news w9 (id, t) 59)
          have h2 := Lib.hid (k2_one (id, t))
          have h63 : i + 1 ≤ maxLen := by unfold maxLen; omega
          have hby : (i + 1) * 16 ≤ 140737488355328 := by omega
          have ho9 : ∀ q, (Value.slice A9 i c9).ownBlock = some q → G ≤ q := own_gt hown9
          have HO9 := Lib.hid ho9
          clear ho9 hown9
          go_upto_region 11 with (at_builtin; go_loud (refine wpList_append_own _ rfl _ _ 32 rfl G 59 iu (.agg #[.int .i64 0, .int .i64 0]) 2 16 Try.underlying32 hiu hu0 hu1 hu2 rfl (by decide) _ _ _ rfl hownA ⟨w9.heap.size, 0, none⟩ 1 1 (k2c (id, t)) rfl rfl h1.out h2.out h63 hby hbA ?_))
          intro v10 w10 hown10 hg10 _
          have hz10 : Below wq.heap.size wq w10 := (hz9.alloc hz9.size _).grown hg10 (by rw [al_size]; have := hz9.size; omega) (fun q hq => by have := HO9.out q hq; have := HG.out; omega)
          have hbw10 : G ≤ w10.heap.size := Nat.le_trans hbA hg10.size
          have hc10 := keepc hz10 HCQ.out.1
          obtain ⟨A10, c10, hv10⟩ : ∃ A10 c10, v10 = .slice A10 (i + 1) c10 := by
            obtain ⟨_, ⟨q1, q2⟩ | ⟨g, c, cur, hv, _⟩⟩ := hown10
            · omega
            · exact ⟨_, _, hv⟩
          subst hv10
          have DONE : ∀ v3 w3, w3.ownsRow G 59 2 v3 (i + 1 + (i - i)) ((L1.take i).flatMap k2c ++ k2c (id, t) ++ (L1.drop i).flatMap k2c) → w10.grownBy w3 (Value.slice A10 (i + 1) c10).ownBlock → M (w3.setCell ⟨Br, 0, none⟩ v3) ∧ w3.cell? ⟨Br, 0, none⟩ = some (.slice (some ⟨b, off, none⟩) i c1) ∧ w3.frozen? ⟨Br, 0, none⟩ = false ∧ ∃ A3 n3 c3, v3 = .slice A3 n3 c3 := fun v3 w3 h3 g3 =>
            HFIN.out i hin HINS.out v3 w3 G (by have := HG.out; have := bq.size; omega) (bel_via bq (hz10.grown g3 (by have := HG.out; omega) (fun q hq => by have := own_gt hown10 q hq; have := HG.out; omega))) h3
          have HD := Lib.hid DONE
          have HSR := Lib.hid (HSQ.out.keep hz10)
          clear DONE hg10 hownA hz9 hc9 x0 x1 hbA h1 h2 h63 hby HO9 hz10 HFIN
          have hdr : L1.drop i = [] := List.drop_eq_nil_of_le (by have := HN.out; omega)
          have h1163 : i + 1 + 0 ≤ maxLen := by unfold maxLen; omega
          have hb111 : (i + 1 + 0) * 16 ≤ 140737488355328 := by omega
          rw [hdr] at HD
          simp only [Nat.sub_self, Nat.add_zero, List.flatMap_nil, List.append_nil] at HD
          by_cases hce : c1 = i
          · have hs11 := Lib.hid (Sl.none (w := w10) (enc := k2c) (k := 2) (some ⟨b, off, none⟩))
            subst hce
            go_wp2_with (at_builtin; go_loud (refine app_sl rfl _ _ 32 rfl G 59 iu (.agg #[.int .i64 0, .int .i64 0]) 2 16 Try.underlying32 hiu hu0 hu1 hu2 rfl (by decide) _ (c1 + 1) ((L1.take c1).flatMap k2c ++ k2c (id, t)) rfl hown10 k2c k2_len (some ⟨b, off, none⟩) 0 0 [] hs11.out (fun h => by cases h) rfl k2_one h1163 hb111 hbw10 ?_))
            intro v3 w3 h3 g3
            obtain ⟨k1, k2, k3, A3, n3, c3, rfl⟩ := HD.out v3 w3 (by first | exact h3 | (rw [List.append_assoc]; exact h3) | simpa using h3) g3
            have HK := Lib.hid k1
            clear k1 h3 g3 HD
            go_wp2
            first | exact ⟨rfl, HK.out⟩ | (go_ret; exact ⟨rfl, HK.out⟩)
          · have hs11 := Lib.hid (Sl.none (w := w10) (enc := k2c) (k := 2) (some ⟨b, off + i * 2, none⟩))
            have hce' : ¬ c1 = i := hce
            go_wp2_with (at_builtin; go_loud (refine app_sl rfl _ _ 32 rfl G 59 iu (.agg #[.int .i64 0, .int .i64 0]) 2 16 Try.underlying32 hiu hu0 hu1 hu2 rfl (by decide) _ (i + 1) ((L1.take i).flatMap k2c ++ k2c (id, t)) rfl hown10 k2c k2_len (some ⟨b, off + i * 2, none⟩) 0 (c1 - i) [] hs11.out (fun h => by cases h) rfl k2_one h1163 hb111 hbw10 ?_))
            intro v3 w3 h3 g3
            obtain ⟨k1, k2, k3, A3, n3, c3, rfl⟩ := HD.out v3 w3 (by first | exact h3 | (rw [List.append_assoc]; exact h3) | simpa using h3) g3
            have HK := Lib.hid k1
            clear k1 h3 g3 HD
            go_wp2
            first | exact ⟨rfl, HK.out⟩ | (go_ret; exact ⟨rfl, HK.out⟩)
  · go_enter Try.func13, Try.ntmps13
    go_upto_region 5 with (go_at_call 16; refine hD.mono ?_; rintro e w1 ⟨rfl, h1⟩; obtain ⟨A1, c1, R1, hi1, hc1, hF1⟩ := HCC.out _ h1)
    have b2 : Below w1.heap.size w1 (w1.alloc (.cells #[.int .i64 id, .int .i64 t] 59)) := (Below.refl _ _).alloc (Nat.le_refl _) _
    have hX := heap_alloc_new w1 (.cells #[.int .i64 id, .int .i64 t] 59)
    have hB1 := hi1.lt _ hi1.rB
    have FIN : ∀ i, i ≤ n → insP L1 (id, t) = L1.take i ++ (id, t) :: L1.drop i → ∀ v3 w3 G, w1.heap.size ≤ G → Below (w1.alloc (.cells #[.int .i64 id, .int .i64 t] 59)).heap.size (w1.alloc (.cells #[.int .i64 id, .int .i64 t] 59)) w3 → w3.ownsRow G 59 2 v3 (i + 1 + (n - i)) ((L1.take i).flatMap k2c ++ k2c (id, t) ++ (L1.drop i).flatMap k2c) →
        M (w3.setCell ⟨Br, 0, none⟩ v3) ∧ w3.cell? ⟨Br, 0, none⟩ = some (.slice A1 n c1) ∧ w3.frozen? ⟨Br, 0, none⟩ = false ∧ ∃ A3 n3 c3, v3 = .slice A3 n3 c3 := fun i hin hins v3 w3 G hG b3 hown => by
      have hb3 := bel_via b2 b3
      have hlen : (insP L1 (id, t)).length = i + 1 + (n - i) := by rw [ins_len, HN.out]; omega
      have hfl : (insP L1 (id, t)).flatMap k2c = (L1.take i).flatMap k2c ++ k2c (id, t) ++ (L1.drop i).flatMap k2c := by rw [hins]; simp
      rw [← hfl, ← hlen] at hown
      obtain ⟨A3, c3, rfl, hp⟩ := hi1.store (L' := insP L1 (id, t)) (by rw [hlen]; omega) hG hb3 hown
      exact ⟨hF1 _ hp, keepc hb3 hc1, free_of ((hb3.block Br hB1).trans hi1.hm) 0, _, _, _, rfl⟩
    have HFIN := Lib.hid FIN
    have hS1 : Sl w1 2 k2c A1 n L1 := by have := hi1.sl; rw [HN.out] at this; exact this
    have hS2 := Lib.hid (hS1.keep b2)
    have hc2 := keepc b2 hc1
    have hcap : n ≤ c1 := by have := hi1.cap; rw [HN.out] at this; exact this
    have hnil := Lib.hid hi1.nil
    have HSP := Lib.hid (fun b off sp (e : A1 = some ⟨b, off, sp⟩) => (hi1.rA b off sp e).2.2)
    obtain ⟨w2, hw2⟩ : ∃ w2, w2 = w1.alloc (.cells #[.int .i64 id, .int .i64 t] 59) := ⟨_, rfl⟩
    rw [← hw2] at HFIN hS2 hX hc2 ⊢
    obtain ⟨X, hX0⟩ : ∃ X, X = w1.heap.size := ⟨_, rfl⟩
    rw [← hX0] at hX ⊢
    have x0 : w2.cell? ⟨X, 0, none⟩ = some (.int .i64 id) := cell_of_row _ _ 0 _ _ _ hX
    have x1 : w2.cell? ⟨X, 1, none⟩ = some (.int .i64 t) := cell_of_row _ _ 1 _ _ _ hX
    have HW1 := Lib.hid (And.intro hw2 hX0)
    have hwX : w1.heap.size ≤ w2.heap.size := by rw [hw2, al_size]; omega
    clear FIN hw2 hX0 hX hi1 h1 hF1 hS1 hB1 b2 hc1 hD HCC
    go_wp2
    go_loopw [9] (fun v wr => ∃ i : Nat, v = .int .i64 (i : Int) ∧ i ≤ n ∧ Hid (∀ j y, j < i → L1[j]? = some y → LtK y (id, t)) ∧ Below w2.heap.size w2 wr) (fun v _ => n - (intOf v).toNat)
    case atStart => exact ⟨0, rfl, Nat.zero_le _, Lib.hid (fun j y h => absurd h (Nat.not_lt_zero _)), Below.refl _ _⟩
    case round =>
      obtain ⟨i, rfl, hin, HF, bq⟩ := hrel
      have hcq := keepc bq hc2
      have z0 := keepc bq x0
      have z1 := keepc bq x1
      clear hc2 x0 x1
      by_cases hlt : i < n
      · have hkL : i < L1.length := by rw [HN.out]; exact hlt
        obtain ⟨x, hx⟩ : ∃ x, L1[i]? = some x := ⟨_, List.getElem?_eq_getElem hkL⟩
        obtain ⟨b, off, hA, hbl, hrow⟩ := hS2.out.row (by omega)
        have r0 := keepc bq (hrow i x hx 0 _ rfl)
        have r1 := keepc bq (hrow i x hx 1 _ rfl)
        simp only [Nat.add_zero] at r0
        have hltI : (i : Int) < (n : Int) := by omega
        have hd : decide (i < n) = true := by simp [hlt]
        have cl := less_any x (id, t)
        simp only at cl
        generalize hX : decide (LtK x (id, t)) = X0 at cl
        have HX := Lib.hid hX
        have HXS := Lib.hid hx
        subst hA
        clear hrow hx hX
        go_wp2_with fail
        have k_r0 := cell_regrown r0
        have k_r1 := cell_regrown r1
        have k_z0 := cell_regrown z0
        have k_z1 := cell_regrown z1
        have k_c := cell_regrown hcq
        have q := fun d os => Calls.regrown_of (cl (grow (redrawn wr d) os))
        clear r0 r1 z0 z1 hcq
        refine wp_region_quiet_below (by kernel_rfl) (by kernel_rfl) ?_
        repeat (first | go_big_quiet_skip | quiet_step (first | (go_at_call 22; with_reducible exact q _ _)))
        refine wpQuiet_nil ?_
        intro _ hw'
        obtain ⟨⟨dq, osq⟩, hw''⟩ := hw'
        subst hw''
        have z0 := k_z0 dq osq
        have z1 := k_z1 dq osq
        have hcq := k_c dq osq
        replace bq : Below w2.heap.size w2 (grow (redrawn wr dq) osq) := bel_via bq (below_regrown wr dq osq)
        obtain ⟨wq, hwq⟩ : ∃ x, x = grow (redrawn wr dq) osq := ⟨_, rfl⟩
        rw [← hwq] at z0 z1 hcq bq ⊢
        clear hwq k_r0 k_r1 k_z0 k_z1 k_c q cl
        cases X0 with
        | true =>
          have hF' : ∀ j y, j < i + 1 → L1[j]? = some y → LtK y (id, t) := fun j y hj hy => by
            by_cases e : j = i
            · subst e; rw [HXS.out] at hy; cases hy; exact of_decide_eq_true HX.out
            · exact HF.out j y (by omega) hy
          have HF' := Lib.hid hF'
          clear hF' HF HFIN
          go_wp2
          refine ⟨?_, by simp [intOf]; omega⟩
          first | exact ⟨i + 1, by simp, by omega, HF', bq⟩ | ((repeat apply Exists.intro); refine ⟨⟨i + 1, ?_, by omega, HF', bq⟩, rfl⟩; simp)
        | false =>
          have HINS := Lib.hid (tw_of (i := i) (by omega) HF.out (fun y hy => by rw [HXS.out] at hy; cases hy; exact of_decide_eq_false HX.out))
          clear HF HX HXS
          go_upto_region 8 with fail
          have hsq := hS2.out.keep bq
          have hown8 : (wq.alloc (.cells #[] 59)).ownsRow wq.heap.size 59 2 (.slice (some ⟨wq.heap.size, 0, none⟩) 0 0) 0 ([] : List Value) := World.ownsRow_made wq #[] 0 (Nat.le_refl _) (by unfold maxLen; omega) rfl
          have hz8 := (Below.refl wq.heap.size wq).alloc (Nat.le_refl _) (.cells #[] 59)
          have hbw8 : wq.heap.size ≤ (wq.alloc (.cells #[] 59)).heap.size := hz8.size
          have hs8 := Lib.hid ((hsq.cut (m := i) (by omega)).keep hz8)
          have hb81 : (0 + i) * 16 ≤ 140737488355328 := by omega
          have h863 : 0 + i ≤ maxLen := by unfold maxLen; omega
          have hc8 := keepc hz8 hcq
          have y0 := keepc hz8 z0
          have y1 := keepc hz8 z1
          have bz8 := bel_via bq hz8
          have HCQ := Lib.hid (And.intro hcq (And.intro z0 z1))
          have HSQ := Lib.hid hsq
          have b4 : i ≤ c1 := by omega
          have b5 : (i : Int) ≤ (c1 : Int) := by omega
          have b6 : (i : Int) ≤ (n : Int) := by omega
          clear hcq z0 z1 hsq
          go_upto_region 9 with fail
          obtain ⟨w8, hw8⟩ : ∃ x, x = wq.alloc (.cells #[] 59) := ⟨_, rfl⟩
          obtain ⟨G, hG⟩ : ∃ G, G = wq.heap.size := ⟨_, rfl⟩
          rw [← hw8] at hown8 hz8 hbw8 hs8 hc8 y0 y1 bz8 ⊢
          rw [← hG] at hown8 hbw8 ⊢
          have HG := Lib.hid hG
          clear hw8 hG
          go_upto_region 10 with (at_builtin; go_loud (refine app_sl rfl _ _ 32 rfl G 59 iu (.agg #[.int .i64 0, .int .i64 0]) 2 16 Try.underlying32 hiu hu0 hu1 hu2 rfl (by decide) _ 0 [] rfl hown8 k2c k2_len (some ⟨b, off, none⟩) i c1 (L1.take i) hs8.out (fun h => by cases h) rfl k2_one h863 hb81 hbw8 ?_))
          intro v9 w9 hown9 hg9
          have hz9 : Below wq.heap.size wq w9 := hz8.grown hg9 (by have := HG.out; omega) (fun q hq => by have := own_gt hown8 q hq; have := HG.out; omega)
          have hbw9 : G ≤ w9.heap.size := Nat.le_trans hbw8 hg9.size
          replace hown9 : w9.ownsRow G 59 2 v9 i ((L1.take i).flatMap k2c) := by simpa using hown9
          have hc9 := keepc hz9 HCQ.out.1
          have x0 := keepc hz9 HCQ.out.2.1
          have x1 := keepc hz9 HCQ.out.2.2
          obtain ⟨A9, c9, hv9⟩ : ∃ A9 c9, v9 = .slice A9 i c9 := by
            obtain ⟨_, ⟨q1, q2⟩ | ⟨g, c, cur, hv, _⟩⟩ := hown9
            · exact ⟨none, 0, by rw [q1, q2]⟩
            · exact ⟨_, _, hv⟩
          subst hv9
          clear hown8 hg9 hs8 hc8 y0 y1 bz8 h863 hb81 hbw8 hz8
          have hownA := own_below hown9 ((Below.refl w9.heap.size w9).alloc (Nat.le_refl _) (.cells #[.int .i64 id, .int .i64 t] 59))
          have hbA : G ≤ (w9.alloc (.cells #[.int .i64 id, .int .i64 t] 59)).heap.size := by rw [al_size]; omega
          have h1 := Lib.hid (k2_news w9 (id, t) 59)
          have h2 := Lib.hid (k2_one (id, t))
          have h63 : i + 1 ≤ maxLen := by unfold maxLen; omega
          have hby : (i + 1) * 16 ≤ 140737488355328 := by omega
          have ho9 : ∀ q, (Value.slice A9 i c9).ownBlock = some q → G ≤ q := own_gt hown9
          have HO9 := Lib.hid ho9
          clear ho9 hown9
          go_upto_region 11 with (at_builtin; go_loud (refine wpList_append_own _ rfl _ _ 32 rfl G 59 iu (.agg #[.int .i64 0, .int .i64 0]) 2 16 Try.underlying32 hiu hu0 hu1 hu2 rfl (by decide) _ _ _ rfl hownA ⟨w9.heap.size, 0, none⟩ 1 1 (k2c (id, t)) rfl rfl h1.out h2.out h63 hby hbA ?_))
          intro v10 w10 hown10 hg10 _
          have hz10 : Below wq.heap.size wq w10 := (hz9.alloc hz9.size _).grown hg10 (by rw [al_size]; have := hz9.size; omega) (fun q hq => by have := HO9.out q hq; have := HG.out; omega)
          have hbw10 : G ≤ w10.heap.size := Nat.le_trans hbA hg10.size
          have hc10 := keepc hz10 HCQ.out.1
          obtain ⟨A10, c10, hv10⟩ : ∃ A10 c10, v10 = .slice A10 (i + 1) c10 := by
            obtain ⟨_, ⟨q1, q2⟩ | ⟨g, c, cur, hv, _⟩⟩ := hown10
            · omega
            · exact ⟨_, _, hv⟩
          subst hv10
          have DONE : ∀ v3 w3, w3.ownsRow G 59 2 v3 (i + 1 + (n - i)) ((L1.take i).flatMap k2c ++ k2c (id, t) ++ (L1.drop i).flatMap k2c) → w10.grownBy w3 (Value.slice A10 (i + 1) c10).ownBlock → M (w3.setCell ⟨Br, 0, none⟩ v3) ∧ w3.cell? ⟨Br, 0, none⟩ = some (.slice (some ⟨b, off, none⟩) n c1) ∧ w3.frozen? ⟨Br, 0, none⟩ = false ∧ ∃ A3 n3 c3, v3 = .slice A3 n3 c3 := fun v3 w3 h3 g3 =>
            HFIN.out i hin HINS.out v3 w3 G (by have := HG.out; have := bq.size; omega) (bel_via bq (hz10.grown g3 (by have := HG.out; omega) (fun q hq => by have := own_gt hown10 q hq; have := HG.out; omega))) h3
          have HD := Lib.hid DONE
          have HSR := Lib.hid (HSQ.out.keep hz10)
          clear DONE hg10 hownA hz9 hc9 x0 x1 hbA h1 h2 h63 hby HO9 hz10 HFIN
          have hs11 := Lib.hid (HSR.out.dropG (i := i) (by omega))
          have h1163 : i + 1 + (n - i) ≤ maxLen := by unfold maxLen; omega
          have hb111 : (i + 1 + (n - i)) * 16 ≤ 140737488355328 := by omega
          have hce' : ¬ c1 = i := by omega
          go_wp2_with (at_builtin; go_loud (refine app_sl rfl _ _ 32 rfl G 59 iu (.agg #[.int .i64 0, .int .i64 0]) 2 16 Try.underlying32 hiu hu0 hu1 hu2 rfl (by decide) _ (i + 1) ((L1.take i).flatMap k2c ++ k2c (id, t)) rfl hown10 k2c k2_len (some ⟨b, off + i * 2, none⟩) (n - i) (c1 - i) (L1.drop i) hs11.out (fun h => by cases h) rfl k2_one h1163 hb111 hbw10 ?_))
          intro v3 w3 h3 g3
          obtain ⟨k1, k2, k3, A3, n3, c3, rfl⟩ := HD.out v3 w3 (by first | exact h3 | (rw [List.append_assoc]; exact h3) | simpa using h3) g3
          have HK := Lib.hid k1
          clear k1 h3 g3 HD
          go_wp2
          first | exact ⟨rfl, HK.out⟩ | (go_ret; exact ⟨rfl, HK.out⟩)
      · have hie : i = n := by omega
        have HINS := Lib.hid (tw_of (i := i) (by have := HN.out; omega) HF.out (fun y hy => by have := (List.getElem?_eq_some_iff.1 hy).1; have := HN.out; omega))
        have hd : decide (i < n) = false := by simp [hlt]
        have hltI : ¬ (i : Int) < (n : Int) := by omega
        clear HF
        cases A1 with
        | none =>
          have hn0 : n = 0 := by
            apply Classical.byContradiction; intro hh
            obtain ⟨b, off, hA, _⟩ := hS2.out.row (by omega)
            cases hA
          have hi0 : i = 0 := by omega
          have hc0 := hnil.out rfl
          subst hc0
          clear hie
          subst hi0
          subst hn0
          go_wp2_with fail
          have k_z0 := cell_regrown z0
          have k_z1 := cell_regrown z1
          have k_c := cell_regrown hcq
          clear z0 z1 hcq
          refine wp_region_quiet_below (by kernel_rfl) (by kernel_rfl) ?_
          repeat (first | go_big_quiet_skip | quiet_step (fail))
          refine wpQuiet_nil ?_
          intro _ hw'
          obtain ⟨⟨dq, osq⟩, hw''⟩ := hw'
          subst hw''
          have z0 := k_z0 dq osq
          have z1 := k_z1 dq osq
          have hcq := k_c dq osq
          replace bq : Below w2.heap.size w2 (grow (redrawn wr dq) osq) := bel_via bq (below_regrown wr dq osq)
          obtain ⟨wq, hwq⟩ : ∃ x, x = grow (redrawn wr dq) osq := ⟨_, rfl⟩
          rw [← hwq] at z0 z1 hcq bq ⊢
          clear hwq k_z0 k_z1 k_c
          go_upto_region 8 with fail
          clear hlt hltI hd
          have hsq := hS2.out.keep bq
          have hown8 : (wq.alloc (.cells #[] 59)).ownsRow wq.heap.size 59 2 (.slice (some ⟨wq.heap.size, 0, none⟩) 0 0) 0 ([] : List Value) := World.ownsRow_made wq #[] 0 (Nat.le_refl _) (by unfold maxLen; omega) rfl
          have hz8 := (Below.refl wq.heap.size wq).alloc (Nat.le_refl _) (.cells #[] 59)
          have hbw8 : wq.heap.size ≤ (wq.alloc (.cells #[] 59)).heap.size := hz8.size
          have hs8 := Lib.hid (Sl.none (w := wq.alloc (.cells #[] 59)) (enc := k2c) (k := 2) none)
          have hb81 : (0 + 0) * 16 ≤ 140737488355328 := by omega
          have h863 : 0 + 0 ≤ maxLen := by unfold maxLen; omega
          have hc8 := keepc hz8 hcq
          have y0 := keepc hz8 z0
          have y1 := keepc hz8 z1
          have bz8 := bel_via bq hz8
          have HCQ := Lib.hid (And.intro hcq (And.intro z0 z1))
          have HSQ := Lib.hid hsq
          have b4 : 0 ≤ 0 := by omega
          have b5 : (0 : Int) ≤ (0 : Int) := by omega
          have b6 : (0 : Int) ≤ (0 : Int) := by omega
          clear hcq z0 z1 hsq
          go_upto_region 9 with fail
          obtain ⟨w8, hw8⟩ : ∃ x, x = wq.alloc (.cells #[] 59) := ⟨_, rfl⟩
          obtain ⟨G, hG⟩ : ∃ G, G = wq.heap.size := ⟨_, rfl⟩
          rw [← hw8] at hown8 hz8 hbw8 hs8 hc8 y0 y1 bz8 ⊢
          rw [← hG] at hown8 hbw8 ⊢
          have HG := Lib.hid hG
          clear hw8 hG
          go_upto_region 10 with (at_builtin; go_loud (refine app_sl rfl _ _ 32 rfl G 59 iu (.agg #[.int .i64 0, .int .i64 0]) 2 16 Try.underlying32 hiu hu0 hu1 hu2 rfl (by decide) _ 0 [] rfl hown8 k2c k2_len none 0 0 [] hs8.out (fun _ => rfl) rfl k2_one h863 hb81 hbw8 ?_))
          intro v9 w9 hown9 hg9
          have hz9 : Below wq.heap.size wq w9 := hz8.grown hg9 (by have := HG.out; omega) (fun q hq => by have := own_gt hown8 q hq; have := HG.out; omega)
          have hbw9 : G ≤ w9.heap.size := Nat.le_trans hbw8 hg9.size
          replace hown9 : w9.ownsRow G 59 2 v9 0 ((L1.take 0).flatMap k2c) := by simpa using hown9
          have hc9 := keepc hz9 HCQ.out.1
          have x0 := keepc hz9 HCQ.out.2.1
          have x1 := keepc hz9 HCQ.out.2.2
          obtain ⟨A9, c9, hv9⟩ : ∃ A9 c9, v9 = .slice A9 0 c9 := by
            obtain ⟨_, ⟨q1, q2⟩ | ⟨g, c, cur, hv, _⟩⟩ := hown9
            · exact ⟨none, 0, by rw [q1, q2]⟩
            · exact ⟨_, _, hv⟩
          subst hv9
          clear hown8 hg9 hs8 hc8 y0 y1 bz8 h863 hb81 hbw8 hz8
          have hownA := own_below hown9 ((Below.refl w9.heap.size w9).alloc (Nat.le_refl _) (.cells #[.int .i64 id, .int .i64 t] 59))
          have hbA : G ≤ (w9.alloc (.cells #[.int .i64 id, .int .i64 t] 59)).heap.size := by rw [al_size]; omega
          have h1 := Lib.hid (k2_news w9 (id, t) 59)
          have h2 := Lib.hid (k2_one (id, t))
          have h63 : 0 + 1 ≤ maxLen := by unfold maxLen; omega
          have hby : (0 + 1) * 16 ≤ 140737488355328 := by omega
          have ho9 : ∀ q, (Value.slice A9 0 c9).ownBlock = some q → G ≤ q := own_gt hown9
          have HO9 := Lib.hid ho9
          clear ho9 hown9
          go_upto_region 11 with (at_builtin; go_loud (refine wpList_append_own _ rfl _ _ 32 rfl G 59 iu (.agg #[.int .i64 0, .int .i64 0]) 2 16 Try.underlying32 hiu hu0 hu1 hu2 rfl (by decide) _ _ _ rfl hownA ⟨w9.heap.size, 0, none⟩ 1 1 (k2c (id, t)) rfl rfl h1.out h2.out h63 hby hbA ?_))
          intro v10 w10 hown10 hg10 _
          have hz10 : Below wq.heap.size wq w10 := (hz9.alloc hz9.size _).grown hg10 (by rw [al_size]; have := hz9.size; omega) (fun q hq => by have := HO9.out q hq; have := HG.out; omega)
          have hbw10 : G ≤ w10.heap.size := Nat.le_trans hbA hg10.size
          have hc10 := keepc hz10 HCQ.out.1
          obtain ⟨A10, c10, hv10⟩ : ∃ A10 c10, v10 = .slice A10 (0 + 1) c10 := by
            obtain ⟨_, ⟨q1, q2⟩ | ⟨g, c, cur, hv, _⟩⟩ := hown10
            · omega
            · exact ⟨_, _, hv⟩
          subst hv10
          have DONE : ∀ v3 w3, w3.ownsRow G 59 2 v3 (0 + 1 + (0 - 0)) ((L1.take 0).flatMap k2c ++ k2c (id, t) ++ (L1.drop 0).flatMap k2c) → w10.grownBy w3 (Value.slice A10 (0 + 1) c10).ownBlock → M (w3.setCell ⟨Br, 0, none⟩ v3) ∧ w3.cell? ⟨Br, 0, none⟩ = some (.slice none 0 0) ∧ w3.frozen? ⟨Br, 0, none⟩ = false ∧ ∃ A3 n3 c3, v3 = .slice A3 n3 c3 := fun v3 w3 h3 g3 =>
            HFIN.out 0 hin HINS.out v3 w3 G (by have := HG.out; have := bq.size; omega) (bel_via bq (hz10.grown g3 (by have := HG.out; omega) (fun q hq => by have := own_gt hown10 q hq; have := HG.out; omega))) h3
          have HD := Lib.hid DONE
          have HSR := Lib.hid (HSQ.out.keep hz10)
          clear DONE hg10 hownA hz9 hc9 x0 x1 hbA h1 h2 h63 hby HO9 hz10 HFIN
          have hs11 := Lib.hid (Sl.none (w := w10) (enc := k2c) (k := 2) none)
          have h1163 : 0 + 1 + 0 ≤ maxLen := by unfold maxLen; omega
          have hb111 : (0 + 1 + 0) * 16 ≤ 140737488355328 := by omega
          have hdr : L1.drop 0 = [] := List.drop_eq_nil_of_le (by have := HN.out; omega)
          rw [hdr] at HD
          simp only [Nat.sub_self, Nat.add_zero, List.flatMap_nil, List.append_nil] at HD
          go_wp2_with (at_builtin; go_loud (refine app_sl rfl _ _ 32 rfl G 59 iu (.agg #[.int .i64 0, .int .i64 0]) 2 16 Try.underlying32 hiu hu0 hu1 hu2 rfl (by decide) _ (0 + 1) ((L1.take 0).flatMap k2c ++ k2c (id, t)) rfl hown10 k2c k2_len none 0 0 [] hs11.out (fun _ => rfl) rfl k2_one h1163 hb111 hbw10 ?_))
          intro v3 w3 h3 g3
          obtain ⟨k1, k2, k3, A3, n3, c3, rfl⟩ := HD.out v3 w3 (by first | exact h3 | (rw [List.append_assoc]; exact h3) | simpa using h3) g3
          have HK := Lib.hid k1
          clear k1 h3 g3 HD
          go_wp2
          first | exact ⟨rfl, HK.out⟩ | (go_ret; exact ⟨rfl, HK.out⟩)
        | some ad =>
          obtain ⟨b, off, sp⟩ := ad
          have hsp : sp = none := (HSP.out b off sp rfl)
          subst hsp
          subst hie
          go_wp2_with fail
          have k_z0 := cell_regrown z0
          have k_z1 := cell_regrown z1
          have k_c := cell_regrown hcq
          clear z0 z1 hcq
          refine wp_region_quiet_below (by kernel_rfl) (by kernel_rfl) ?_
          repeat (first | go_big_quiet_skip | quiet_step (fail))
          refine wpQuiet_nil ?_
          intro _ hw'
          obtain ⟨⟨dq, osq⟩, hw''⟩ := hw'
          subst hw''
          have z0 := k_z0 dq osq
          have z1 := k_z1 dq osq
          have hcq := k_c dq osq
          replace bq : Below w2.heap.size w2 (grow (redrawn wr dq) osq) := bel_via bq (below_regrown wr dq osq)
          obtain ⟨wq, hwq⟩ : ∃ x, x = grow (redrawn wr dq) osq := ⟨_, rfl⟩
          rw [← hwq] at z0 z1 hcq bq ⊢
          clear hwq k_z0 k_z1 k_c
          go_upto_region 8 with fail
          clear hlt hltI hd
          have hsq := hS2.out.keep bq
          have hown8 : (wq.alloc (.cells #[] 59)).ownsRow wq.heap.size 59 2 (.slice (some ⟨wq.heap.size, 0, none⟩) 0 0) 0 ([] : List Value) := World.ownsRow_made wq #[] 0 (Nat.le_refl _) (by unfold maxLen; omega) rfl
          have hz8 := (Below.refl wq.heap.size wq).alloc (Nat.le_refl _) (.cells #[] 59)
          have hbw8 : wq.heap.size ≤ (wq.alloc (.cells #[] 59)).heap.size := hz8.size
          have hs8 := Lib.hid ((hsq.cut (m := i) (by omega)).keep hz8)
          have hb81 : (0 + i) * 16 ≤ 140737488355328 := by omega
          have h863 : 0 + i ≤ maxLen := by unfold maxLen; omega
          have hc8 := keepc hz8 hcq
          have y0 := keepc hz8 z0
          have y1 := keepc hz8 z1
          have bz8 := bel_via bq hz8
          have HCQ := Lib.hid (And.intro hcq (And.intro z0 z1))
          have HSQ := Lib.hid hsq
          have b4 : i ≤ c1 := by omega
          have b5 : (i : Int) ≤ (c1 : Int) := by omega
          have b6 : (i : Int) ≤ (i : Int) := by omega
          clear hcq z0 z1 hsq
          go_upto_region 9 with fail
          obtain ⟨w8, hw8⟩ : ∃ x, x = wq.alloc (.cells #[] 59) := ⟨_, rfl⟩
          obtain ⟨G, hG⟩ : ∃ G, G = wq.heap.size := ⟨_, rfl⟩
          rw [← hw8] at hown8 hz8 hbw8 hs8 hc8 y0 y1 bz8 ⊢
          rw [← hG] at hown8 hbw8 ⊢
          have HG := Lib.hid hG
          clear hw8 hG
          go_upto_region 10 with (at_builtin; go_loud (refine app_sl rfl _ _ 32 rfl G 59 iu (.agg #[.int .i64 0, .int .i64 0]) 2 16 Try.underlying32 hiu hu0 hu1 hu2 rfl (by decide) _ 0 [] rfl hown8 k2c k2_len (some ⟨b, off, none⟩) i c1 (L1.take i) hs8.out (fun h => by cases h) rfl k2_one h863 hb81 hbw8 ?_))
          intro v9 w9 hown9 hg9
          have hz9 : Below wq.heap.size wq w9 := hz8.grown hg9 (by have := HG.out; omega) (fun q hq => by have := own_gt hown8 q hq; have := HG.out; omega)
          have hbw9 : G ≤ w9.heap.size := Nat.le_trans hbw8 hg9.size
          replace hown9 : w9.ownsRow G 59 2 v9 i ((L1.take i).flatMap k2c) := by simpa using hown9
          have hc9 := keepc hz9 HCQ.out.1
          have x0 := keepc hz9 HCQ.out.2.1
          have x1 := keepc hz9 HCQ.out.2.2
          obtain ⟨A9, c9, hv9⟩ : ∃ A9 c9, v9 = .slice A9 i c9 := by
            obtain ⟨_, ⟨q1, q2⟩ | ⟨g, c, cur, hv, _⟩⟩ := hown9
            · exact ⟨none, 0, by rw [q1, q2]⟩
            · exact ⟨_, _, hv⟩
          subst hv9
          clear hown8 hg9 hs8 hc8 y0 y1 bz8 h863 hb81 hbw8 hz8
          have hownA := own_below hown9 ((Below.refl w9.heap.size w9).alloc (Nat.le_refl _) (.cells #[.int .i64 id, .int .i64 t] 59))
          have hbA : G ≤ (w9.alloc (.cells #[.int .i64 id, .int .i64 t] 59)).heap.size := by rw [al_size]; omega
          have h1 := Lib.hid (k2_news w9 (id, t) 59)
          have h2 := Lib.hid (k2_one (id, t))
          have h63 : i + 1 ≤ maxLen := by unfold maxLen; omega
          have hby : (i + 1) * 16 ≤ 140737488355328 := by omega
          have ho9 : ∀ q, (Value.slice A9 i c9).ownBlock = some q → G ≤ q := own_gt hown9
          have HO9 := Lib.hid ho9
          clear ho9 hown9
          go_upto_region 11 with (at_builtin; go_loud (refine wpList_append_own _ rfl _ _ 32 rfl G 59 iu (.agg #[.int .i64 0, .int .i64 0]) 2 16 Try.underlying32 hiu hu0 hu1 hu2 rfl (by decide) _ _ _ rfl hownA ⟨w9.heap.size, 0, none⟩ 1 1 (k2c (id, t)) rfl rfl h1.out h2.out h63 hby hbA ?_))
          intro v10 w10 hown10 hg10 _
          have hz10 : Below wq.heap.size wq w10 := (hz9.alloc hz9.size _).grown hg10 (by rw [al_size]; have := hz9.size; omega) (fun q hq => by have := HO9.out q hq; have := HG.out; omega)
          have hbw10 : G ≤ w10.heap.size := Nat.le_trans hbA hg10.size
          have hc10 := keepc hz10 HCQ.out.1
          obtain ⟨A10, c10, hv10⟩ : ∃ A10 c10, v10 = .slice A10 (i + 1) c10 := by
            obtain ⟨_, ⟨q1, q2⟩ | ⟨g, c, cur, hv, _⟩⟩ := hown10
            · omega
            · exact ⟨_, _, hv⟩
          subst hv10
          have DONE : ∀ v3 w3, w3.ownsRow G 59 2 v3 (i + 1 + (i - i)) ((L1.take i).flatMap k2c ++ k2c (id, t) ++ (L1.drop i).flatMap k2c) → w10.grownBy w3 (Value.slice A10 (i + 1) c10).ownBlock → M (w3.setCell ⟨Br, 0, none⟩ v3) ∧ w3.cell? ⟨Br, 0, none⟩ = some (.slice (some ⟨b, off, none⟩) i c1) ∧ w3.frozen? ⟨Br, 0, none⟩ = false ∧ ∃ A3 n3 c3, v3 = .slice A3 n3 c3 := fun v3 w3 h3 g3 =>
            HFIN.out i hin HINS.out v3 w3 G (by have := HG.out; have := bq.size; omega) (bel_via bq (hz10.grown g3 (by have := HG.out; omega) (fun q hq => by have := own_gt hown10 q hq; have := HG.out; omega))) h3
          have HD := Lib.hid DONE
          have HSR := Lib.hid (HSQ.out.keep hz10)
          clear DONE hg10 hownA hz9 hc9 x0 x1 hbA h1 h2 h63 hby HO9 hz10 HFIN
          have hdr : L1.drop i = [] := List.drop_eq_nil_of_le (by have := HN.out; omega)
          have h1163 : i + 1 + 0 ≤ maxLen := by unfold maxLen; omega
          have hb111 : (i + 1 + 0) * 16 ≤ 140737488355328 := by omega
          rw [hdr] at HD
          simp only [Nat.sub_self, Nat.add_zero, List.flatMap_nil, List.append_nil] at HD
          by_cases hce : c1 = i
          · have hs11 := Lib.hid (Sl.none (w := w10) (enc := k2c) (k := 2) (some ⟨b, off, none⟩))
            subst hce
            go_wp2_with (at_builtin; go_loud (refine app_sl rfl _ _ 32 rfl G 59 iu (.agg #[.int .i64 0, .int .i64 0]) 2 16 Try.underlying32 hiu hu0 hu1 hu2 rfl (by decide) _ (c1 + 1) ((L1.take c1).flatMap k2c ++ k2c (id, t)) rfl hown10 k2c k2_len (some ⟨b, off, none⟩) 0 0 [] hs11.out (fun h => by cases h) rfl k2_one h1163 hb111 hbw10 ?_))
            intro v3 w3 h3 g3
            obtain ⟨k1, k2, k3, A3, n3, c3, rfl⟩ := HD.out v3 w3 (by first | exact h3 | (rw [List.append_assoc]; exact h3) | simpa using h3) g3
            have HK := Lib.hid k1
            clear k1 h3 g3 HD
            go_wp2
            first | exact ⟨rfl, HK.out⟩ | (go_ret; exact ⟨rfl, HK.out⟩)
          · have hs11 := Lib.hid (Sl.none (w := w10) (enc := k2c) (k := 2) (some ⟨b, off + i * 2, none⟩))
            have hce' : ¬ c1 = i := hce
            go_wp2_with (at_builtin; go_loud (refine app_sl rfl _ _ 32 rfl G 59 iu (.agg #[.int .i64 0, .int .i64 0]) 2 16 Try.underlying32 hiu hu0 hu1 hu2 rfl (by decide) _ (i + 1) ((L1.take i).flatMap k2c ++ k2c (id, t)) rfl hown10 k2c k2_len (some ⟨b, off + i * 2, none⟩) 0 (c1 - i) [] hs11.out (fun h => by cases h) rfl k2_one h1163 hb111 hbw10 ?_))
            intro v3 w3 h3 g3
            obtain ⟨k1, k2, k3, A3, n3, c3, rfl⟩ := HD.out v3 w3 (by first | exact h3 | (rw [List.append_assoc]; exact h3) | simpa using h3) g3
            have HK := Lib.hid k1
            clear k1 h3 g3 HD
            go_wp2
            first | exact ⟨rfl, HK.out⟩ | (go_ret; exact ⟨rfl, HK.out⟩)
end
end Go.Proofs.Ytcmdelmgklidjaa
