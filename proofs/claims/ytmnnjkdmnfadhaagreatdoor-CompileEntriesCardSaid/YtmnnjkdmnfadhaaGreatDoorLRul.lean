/- A rule: what may be; by-name template (gen_lrule.py). -/
import Derived.Test.YtmnnjkdmnfadhaaGreatDoorLRule
import Derived.OrdersHeld
import Derived.Deep.RegionHeld
namespace Go.Proofs.YtmnnjkdmnfadhaaGreatDoor
open Go.Shelf Go.RowKit Go.Lib Go.Sort
set_option linter.unusedVariables false
set_option linter.unusedSimpArgs false

def rulChk (c : CF) (u : UR) (_ : List UR) : Int :=
  if rnB c u = true then (if actB u.act = true then (if u.act = 1 then (if u.proxy = true then (if (fnd_srv u.svc c.ss).proto = 6 then 0 else 1) else 0) else (if u.lim.toList.isEmpty = true then (if u.proxy = true then 1 else 0) else 1)) else 1) else 62
theorem hasact_any (d : Int) {W : World} {g n cc : Nat} (h : Sl W 2 mrc (some ⟨g, 0, none⟩) n [⟨accS, 1⟩, ⟨drpS, 2⟩, ⟨rejS, 3⟩]) :
    Calls Tryz.prog 74 #[.slice (some ⟨g, 0, none⟩) n cc, .func (.func 76) #[] #[], .int .i64 d] W fun e w' => e = .returned (.bool (actB d)) ∧ Below W.heap.size W w' :=
  has_mea d (some ⟨g, 0, none⟩) n cc [⟨accS, 1⟩, ⟨drpS, 2⟩, ⟨rejS, 3⟩] h

set_option maxHeartbeats 8000000 in
set_option maxRecDepth 100000 in
theorem rul1_any (c : CF) (B : Nat) (u : UR) (A : Option Addr) (j cp : Nat) (l : List UR) {W : World} (hc : c.Ok W) (hB : CfB W B c) :
    Calls Tryz.prog 71 #[.agg (urc u).toArray, .slice A j cp, .pointer (some ⟨B, 0, none⟩)] W fun e w' => e = .returned (.int .i64 (rulChk c u l)) ∧ Below W.heap.size W w' := by
  obtain ⟨w0, hw0⟩ : ∃ w0, w0 = W.alloc (.cells (urc u).toArray 70) := ⟨_, rfl⟩
  have hb0 : Below W.heap.size W w0 := by rw [hw0]; exact Below.al (Below.refl _ _) _
  have hC : ∀ w', Below w0.heap.size w0 w' → CfB w' B c ∧ UrB w' W.heap.size u := by
    intro w' h
    refine ⟨(hB.keep hb0).keep h, UrB.keep ?_ h⟩
    rw [hw0]; exact UrB.made W u
  have hok := fun (W' : World) (hW : Below w0.heap.size w0 W') => (hc.keep hb0).keep hW
  have q1 := rn_any c u (hok w0 (Below.refl _ _))
  have q2 := fun W' hW => find_srv u.svc c.sA c.sn c.sc c.ss (hok W' hW).s
  have qh := fun (W : World) (g n cc : Nat) h => hasact_any u.act (W := W) (g := g) (n := n) (cc := cc) h
  have hai := actB_iff u.act
  have hr : rulChk c u l = if rnB c u = true then (if actB u.act = true then (if u.act = 1 then (if u.proxy = true then (if (fnd_srv u.svc c.ss).proto = 6 then 0 else 1) else 0) else (if u.lim.toList.isEmpty = true then (if u.proxy = true then 1 else 0) else 1)) else 1) else 62 := rfl
  generalize rulChk c u l = Q at *
  generalize rnB c u = r1 at *
  generalize actB u.act = r2 at *
  generalize fnd_srv u.svc c.ss = sv at *
  generalize (c.ss.any fun x => eqs x.nm u.svc) = r3 at *
  have HQ := Lib.hid hr
  have HA := Lib.hid hai
  clear hr hai hok hc hB
  have hbc : Below w0.heap.size w0 w0 := Below.refl _ _
  obtain ⟨⟨c0, c1, c2, c3, c4, c5, c6, c7⟩, ⟨u0, u1, u2, u3, u4, u5, u6, u7⟩⟩ := hC w0 hbc
  obtain ⟨n0, n1, n2, n3, n4, n5, n6, n7⟩ := u
  obtain ⟨snm, spr, sfr, sti⟩ := sv
  simp only [cfc, urc, src] at *
  have hltB : B < w0.heap.size := World.block_lt_of_cell? _ _ c0
  subst hw0
  cases r1 with
  | false =>
    go_enter Tryz.func71, Tryz.ntmps71
    go_wp2_with (go_at_call 72; with_reducible refine q1.mono ?_; rintro e w1 ⟨rfl, hb1⟩)
    go_ret
    exact ⟨by rw [HQ.out]; rfl, bel_via hb0 hb1⟩
  | true =>
    go_enter Tryz.func71, Tryz.ntmps71
    go_wp2_with (go_at_call 72; with_reducible refine q1.mono ?_; rintro e w1 ⟨rfl, hb1⟩; refine Hid.out ?_)
    clear c0 c1 c2 c3 c4 c5 c6 c7 u0 u1 u2 u3 u4 u5 u6 u7 hbc q1
    obtain ⟨⟨c0, c1, c2, c3, c4, c5, c6, c7⟩, ⟨u0, u1, u2, u3, u4, u5, u6, u7⟩⟩ := hC _ hb1
    have q22 := q2 _ hb1
    refine Lib.hid ?_
    go_wp2_with (go_at_call 73; with_reducible refine q22.mono ?_; rintro e w2 ⟨rfl, hb2⟩; refine Hid.out ?_)
    have hb12 := bel_via hb1 hb2
    clear c0 c1 c2 c3 c4 c5 c6 c7 u0 u1 u2 u3 u4 u5 u6 u7 q2 q22 hb1
    obtain ⟨-, ⟨-, -, -, -, -, u5, u6, u7⟩⟩ := hC _ hb12
    clear hC hb2
    refine Lib.hid ?_
    go_wp2
    have hbw : Below w2.heap.size w2 (w2.alloc (.cells #[.string snm, .int .i64 spr, .int .i64 sfr, .int .i64 sti] 64)) := Below.al (Below.refl _ _) _
    have hlu : W.heap.size < w2.heap.size := World.block_lt_of_cell? _ _ u5
    have hsp : (w2.alloc (.cells #[.string snm, .int .i64 spr, .int .i64 sfr, .int .i64 sti] 64)).cell? ⟨w2.heap.size, 1, none⟩ = some (.int .i64 spr) := by simp [go_sem]
    replace u5 := keepc hbw u5
    replace u6 := keepc hbw u6
    replace u7 := keepc hbw u7
    have hbz := bel_via hb0 (bel_via hb12 hbw)
    generalize w2.alloc (.cells #[.string snm, .int .i64 spr, .int .i64 sfr, .int .i64 sti] 64) = W4 at *
    generalize w2.heap.size = SB at *
    have hl4 : W.heap.size < W4.heap.size := World.block_lt_of_cell? _ _ u5
    have hs4 : SB < W4.heap.size := World.block_lt_of_cell? _ _ hsp
    clear hb0 hb12 hbw hlu hltB
    cases r2 with
    | false =>
      refine wp_region_held (S := (fun w' => Below W4.heap.size W4 w' ∧ w'.cell? ⟨W.heap.size, 5, none⟩ = some (.int .i64 n5) ∧ w'.cell? ⟨W.heap.size, 6, none⟩ = some (.string n6) ∧ w'.cell? ⟨W.heap.size, 7, none⟩ = some (.bool n7) ∧ w'.cell? ⟨SB, 1, none⟩ = some (.int .i64 spr))) (by kernel_rfl) ?_
      change wpAnyH _ _ _ _ _ _ _ _ (World.drew _)
      have hbd : Below W4.heap.size W4 W4.drew := Below.dr (Below.refl _ _)
      have hS0 : (Below W4.heap.size W4 W4.drew ∧ W4.drew.cell? ⟨W.heap.size, 5, none⟩ = some (.int .i64 n5) ∧ W4.drew.cell? ⟨W.heap.size, 6, none⟩ = some (.string n6) ∧ W4.drew.cell? ⟨W.heap.size, 7, none⟩ = some (.bool n7) ∧ W4.drew.cell? ⟨SB, 1, none⟩ = some (.int .i64 spr)) := ⟨hbd, keepc hbd u5, keepc hbd u6, keepc hbd u7, keepc hbd hsp⟩
      generalize W4.drew = wd at hS0 hbd ⊢
      refine wpAnyH_take (i := 1) (oi := ⟨some 21, _, _, _, _, _⟩) (v := ?_) rfl (by kernel_rfl) (by kernel_rfl) (by kernel_rfl) (fun _ _ _ h => h) (Or.inl ⟨by kernel_rfl, ?_⟩) hS0 ?_
      rotate_left 1
      · intro W hW
        obtain ⟨hW0, hW1, hW2, hW3, hW4⟩ := hW
        go_simp
        with_reducible rfl
      refine wpAnyH_take (i := 2) (oi := ⟨some 22, _, _, _, _, _⟩) (v := ?_) rfl (by kernel_rfl) (by kernel_rfl) (by kernel_rfl) (fun _ _ _ h => h) (Or.inl ⟨by kernel_rfl, ?_⟩) hS0 ?_
      rotate_left 1
      · intro W hW
        obtain ⟨hW0, hW1, hW2, hW3, hW4⟩ := hW
        go_simp
        with_reducible rfl
      refine wpAnyH_ready (rs := [0]) (by kernel_rfl) (by simp) ?_
      refine AllReadyH.cons rfl (fun K hK => ?_) AllReadyH.nil
      go_simp
      go_at_call 75
      refine (act_any _).mono ?_
      rintro e wa ⟨g, gn, gc, rfl, hSa, hba⟩
      have hbe := bel_via hbd hba
      have hS1 : (Below W4.heap.size W4 wa ∧ wa.cell? ⟨W.heap.size, 5, none⟩ = some (.int .i64 n5) ∧ wa.cell? ⟨W.heap.size, 6, none⟩ = some (.string n6) ∧ wa.cell? ⟨W.heap.size, 7, none⟩ = some (.bool n7) ∧ wa.cell? ⟨SB, 1, none⟩ = some (.int .i64 spr)) := ⟨hbe, keepc hbe u5, keepc hbe u6, keepc hbe u7, keepc hbe hsp⟩
      refine hK.out _ _ hS1 (fun _ => ?_)
      clear hK K
      refine wpAnyH_ready (rs := [3]) (by kernel_rfl) (by simp) ?_
      refine AllReadyH.cons rfl (fun K hK => ?_) AllReadyH.nil
      go_simp
      go_at_call 74
      refine (qh _ _ _ _ hSa).mono ?_
      rintro e wb ⟨rfl, hbb⟩
      have hbf := bel_via hbe hbb
      have hS2 : (Below W4.heap.size W4 wb ∧ wb.cell? ⟨W.heap.size, 5, none⟩ = some (.int .i64 n5) ∧ wb.cell? ⟨W.heap.size, 6, none⟩ = some (.string n6) ∧ wb.cell? ⟨W.heap.size, 7, none⟩ = some (.bool n7) ∧ wb.cell? ⟨SB, 1, none⟩ = some (.int .i64 spr)) := ⟨hbf, keepc hbf u5, keepc hbf u6, keepc hbf u7, keepc hbf hsp⟩
      refine hK.out _ _ hS2 (fun _ => ?_)
      clear hK K
      refine wpAnyH_take (i := 4) (oi := ⟨some 24, _, _, _, _, _⟩) (v := ?_) rfl (by kernel_rfl) (by kernel_rfl) (by kernel_rfl) (fun _ _ _ h => h) (Or.inl ⟨by kernel_rfl, ?_⟩) hS2 ?_
      rotate_left 1
      · intro W hW
        obtain ⟨hW0, hW1, hW2, hW3, hW4⟩ := hW
        go_simp
        with_reducible rfl
      refine wpAnyH_take (i := 5) (oi := ⟨some 25, _, _, _, _, _⟩) (v := ?_) rfl (by kernel_rfl) (by kernel_rfl) (by kernel_rfl) (fun _ _ _ h => h) (Or.inl ⟨by kernel_rfl, ?_⟩) hS2 ?_
      rotate_left 1
      · intro W hW
        obtain ⟨hW0, hW1, hW2, hW3, hW4⟩ := hW
        go_simp
        with_reducible rfl
      refine wpAnyH_take (i := 6) (oi := ⟨some 26, _, _, _, _, _⟩) (v := undef) rfl (by kernel_rfl) (by kernel_rfl) (by kernel_rfl) (fun _ _ _ h => h) (Or.inr ⟨by kernel_rfl, rfl⟩) hS2 ?_
      refine wpAnyH_take (i := 7) (oi := ⟨some 27, _, _, _, _, _⟩) (v := undef) rfl (by kernel_rfl) (by kernel_rfl) (by kernel_rfl) (fun _ _ _ h => h) (Or.inr ⟨by kernel_rfl, rfl⟩) hS2 ?_
      refine wpAnyH_take (i := 8) (oi := ⟨some 28, _, _, _, _, _⟩) (v := undef) rfl (by kernel_rfl) (by kernel_rfl) (by kernel_rfl) (fun _ _ _ h => h) (Or.inr ⟨by kernel_rfl, rfl⟩) hS2 ?_
      refine wpAnyH_take (i := 9) (oi := ⟨some 29, _, _, _, _, _⟩) (v := undef) rfl (by kernel_rfl) (by kernel_rfl) (by kernel_rfl) (fun _ _ _ h => h) (Or.inr ⟨by kernel_rfl, rfl⟩) hS2 ?_
      refine wpAnyH_take (i := 10) (oi := ⟨some 30, _, _, _, _, _⟩) (v := undef) rfl (by kernel_rfl) (by kernel_rfl) (by kernel_rfl) (fun _ _ _ h => h) (Or.inr ⟨by kernel_rfl, rfl⟩) hS2 ?_
      refine wpAnyH_take (i := 11) (oi := ⟨some 31, _, _, _, _, _⟩) (v := undef) rfl (by kernel_rfl) (by kernel_rfl) (by kernel_rfl) (fun _ _ _ h => h) (Or.inr ⟨by kernel_rfl, rfl⟩) hS2 ?_
      refine wpAnyH_take (i := 12) (oi := ⟨some 32, _, _, _, _, _⟩) (v := undef) rfl (by kernel_rfl) (by kernel_rfl) (by kernel_rfl) (fun _ _ _ h => h) (Or.inr ⟨by kernel_rfl, rfl⟩) hS2 ?_
      refine wpAnyH_take (i := 13) (oi := ⟨some 33, _, _, _, _, _⟩) (v := undef) rfl (by kernel_rfl) (by kernel_rfl) (by kernel_rfl) (fun _ _ _ h => h) (Or.inr ⟨by kernel_rfl, rfl⟩) hS2 ?_
      refine wpAnyH_take (i := 14) (oi := ⟨some 34, _, _, _, _, _⟩) (v := undef) rfl (by kernel_rfl) (by kernel_rfl) (by kernel_rfl) (fun _ _ _ h => h) (Or.inr ⟨by kernel_rfl, rfl⟩) hS2 ?_
      refine wpAnyH_take (i := 15) (oi := ⟨some 35, _, _, _, _, _⟩) (v := undef) rfl (by kernel_rfl) (by kernel_rfl) (by kernel_rfl) (fun _ _ _ h => h) (Or.inr ⟨by kernel_rfl, rfl⟩) hS2 ?_
      refine wpAnyH_take (i := 16) (oi := ⟨some 36, _, _, _, _, _⟩) (v := undef) rfl (by kernel_rfl) (by kernel_rfl) (by kernel_rfl) (fun _ _ _ h => h) (Or.inr ⟨by kernel_rfl, rfl⟩) hS2 ?_
      refine wpAnyH_take (i := 17) (oi := ⟨some 37, _, _, _, _, _⟩) (v := undef) rfl (by kernel_rfl) (by kernel_rfl) (by kernel_rfl) (fun _ _ _ h => h) (Or.inr ⟨by kernel_rfl, rfl⟩) hS2 ?_
      refine wpAnyH_take (i := 18) (oi := ⟨some 38, _, _, _, _, _⟩) (v := ?_) rfl (by kernel_rfl) (by kernel_rfl) (by kernel_rfl) (fun _ _ _ h => h) (Or.inl ⟨by kernel_rfl, ?_⟩) hS2 ?_
      rotate_left 1
      · intro W hW
        obtain ⟨hW0, hW1, hW2, hW3, hW4⟩ := hW
        go_simp
        with_reducible rfl
      refine wpAnyH_take (i := 19) (oi := ⟨some 39, _, _, _, _, _⟩) (v := ?_) rfl (by kernel_rfl) (by kernel_rfl) (by kernel_rfl) (fun _ _ _ h => h) (Or.inl ⟨by kernel_rfl, ?_⟩) hS2 ?_
      rotate_left 1
      · intro W hW
        obtain ⟨hW0, hW1, hW2, hW3, hW4⟩ := hW
        go_simp
        with_reducible rfl
      refine wpAnyH_take (i := 20) (oi := ⟨some 40, _, _, _, _, _⟩) (v := undef) rfl (by kernel_rfl) (by kernel_rfl) (by kernel_rfl) (fun _ _ _ h => h) (Or.inr ⟨by kernel_rfl, rfl⟩) hS2 ?_
      refine wpAnyH_take (i := 21) (oi := ⟨some 41, _, _, _, _, _⟩) (v := undef) rfl (by kernel_rfl) (by kernel_rfl) (by kernel_rfl) (fun _ _ _ h => h) (Or.inr ⟨by kernel_rfl, rfl⟩) hS2 ?_
      refine wpAnyH_take (i := 22) (oi := ⟨some 42, _, _, _, _, _⟩) (v := undef) rfl (by kernel_rfl) (by kernel_rfl) (by kernel_rfl) (fun _ _ _ h => h) (Or.inr ⟨by kernel_rfl, rfl⟩) hS2 ?_
      refine wpAnyH_take (i := 23) (oi := ⟨some 43, _, _, _, _, _⟩) (v := undef) rfl (by kernel_rfl) (by kernel_rfl) (by kernel_rfl) (fun _ _ _ h => h) (Or.inr ⟨by kernel_rfl, rfl⟩) hS2 ?_
      refine wpAnyH_take (i := 24) (oi := ⟨some 44, _, _, _, _, _⟩) (v := undef) rfl (by kernel_rfl) (by kernel_rfl) (by kernel_rfl) (fun _ _ _ h => h) (Or.inr ⟨by kernel_rfl, rfl⟩) hS2 ?_
      refine wpAnyH_take (i := 25) (oi := ⟨some 45, _, _, _, _, _⟩) (v := undef) rfl (by kernel_rfl) (by kernel_rfl) (by kernel_rfl) (fun _ _ _ h => h) (Or.inr ⟨by kernel_rfl, rfl⟩) hS2 ?_
      refine wpAnyH_take (i := 26) (oi := ⟨some 46, _, _, _, _, _⟩) (v := undef) rfl (by kernel_rfl) (by kernel_rfl) (by kernel_rfl) (fun _ _ _ h => h) (Or.inr ⟨by kernel_rfl, rfl⟩) hS2 ?_
      refine wpAnyH_take (i := 27) (oi := ⟨some 47, _, _, _, _, _⟩) (v := ?_) rfl (by kernel_rfl) (by kernel_rfl) (by kernel_rfl) (fun _ _ _ h => h) (Or.inl ⟨by kernel_rfl, ?_⟩) hS2 ?_
      rotate_left 1
      · intro W hW
        obtain ⟨hW0, hW1, hW2, hW3, hW4⟩ := hW
        go_simp
        with_reducible rfl
      refine wpAnyH_done (by kernel_rfl) ?_ _
      have hbx := bel_via hbz hbf
      clear hS0 hS1 hS2 hSa hba hbb hbd hbe hbf qh hbz
      simp only [Act.put, List.setIfInBounds_toArray, List.set_cons_succ, List.set_cons_zero]
      go_wp2_with fail
      go_ret
      exact ⟨by rw [HQ.out]; simp, hbx⟩
    | true =>
      by_cases h1 : n5 = 1
      · subst h1
        cases n7 with
        | false =>
          refine wp_region_held (S := (fun w' => Below W4.heap.size W4 w' ∧ w'.cell? ⟨W.heap.size, 5, none⟩ = some (.int .i64 1) ∧ w'.cell? ⟨W.heap.size, 6, none⟩ = some (.string n6) ∧ w'.cell? ⟨W.heap.size, 7, none⟩ = some (.bool false) ∧ w'.cell? ⟨SB, 1, none⟩ = some (.int .i64 spr))) (by kernel_rfl) ?_
          change wpAnyH _ _ _ _ _ _ _ _ (World.drew _)
          have hbd : Below W4.heap.size W4 W4.drew := Below.dr (Below.refl _ _)
          have hS0 : (Below W4.heap.size W4 W4.drew ∧ W4.drew.cell? ⟨W.heap.size, 5, none⟩ = some (.int .i64 1) ∧ W4.drew.cell? ⟨W.heap.size, 6, none⟩ = some (.string n6) ∧ W4.drew.cell? ⟨W.heap.size, 7, none⟩ = some (.bool false) ∧ W4.drew.cell? ⟨SB, 1, none⟩ = some (.int .i64 spr)) := ⟨hbd, keepc hbd u5, keepc hbd u6, keepc hbd u7, keepc hbd hsp⟩
          generalize W4.drew = wd at hS0 hbd ⊢
          refine wpAnyH_take (i := 1) (oi := ⟨some 21, _, _, _, _, _⟩) (v := ?_) rfl (by kernel_rfl) (by kernel_rfl) (by kernel_rfl) (fun _ _ _ h => h) (Or.inl ⟨by kernel_rfl, ?_⟩) hS0 ?_
          rotate_left 1
          · intro W hW
            obtain ⟨hW0, hW1, hW2, hW3, hW4⟩ := hW
            go_simp
            with_reducible rfl
          refine wpAnyH_take (i := 2) (oi := ⟨some 22, _, _, _, _, _⟩) (v := ?_) rfl (by kernel_rfl) (by kernel_rfl) (by kernel_rfl) (fun _ _ _ h => h) (Or.inl ⟨by kernel_rfl, ?_⟩) hS0 ?_
          rotate_left 1
          · intro W hW
            obtain ⟨hW0, hW1, hW2, hW3, hW4⟩ := hW
            go_simp
            with_reducible rfl
          refine wpAnyH_ready (rs := [0]) (by kernel_rfl) (by simp) ?_
          refine AllReadyH.cons rfl (fun K hK => ?_) AllReadyH.nil
          go_simp
          go_at_call 75
          refine (act_any _).mono ?_
          rintro e wa ⟨g, gn, gc, rfl, hSa, hba⟩
          have hbe := bel_via hbd hba
          have hS1 : (Below W4.heap.size W4 wa ∧ wa.cell? ⟨W.heap.size, 5, none⟩ = some (.int .i64 1) ∧ wa.cell? ⟨W.heap.size, 6, none⟩ = some (.string n6) ∧ wa.cell? ⟨W.heap.size, 7, none⟩ = some (.bool false) ∧ wa.cell? ⟨SB, 1, none⟩ = some (.int .i64 spr)) := ⟨hbe, keepc hbe u5, keepc hbe u6, keepc hbe u7, keepc hbe hsp⟩
          refine hK.out _ _ hS1 (fun _ => ?_)
          clear hK K
          refine wpAnyH_ready (rs := [3]) (by kernel_rfl) (by simp) ?_
          refine AllReadyH.cons rfl (fun K hK => ?_) AllReadyH.nil
          go_simp
          go_at_call 74
          refine (qh _ _ _ _ hSa).mono ?_
          rintro e wb ⟨rfl, hbb⟩
          have hbf := bel_via hbe hbb
          have hS2 : (Below W4.heap.size W4 wb ∧ wb.cell? ⟨W.heap.size, 5, none⟩ = some (.int .i64 1) ∧ wb.cell? ⟨W.heap.size, 6, none⟩ = some (.string n6) ∧ wb.cell? ⟨W.heap.size, 7, none⟩ = some (.bool false) ∧ wb.cell? ⟨SB, 1, none⟩ = some (.int .i64 spr)) := ⟨hbf, keepc hbf u5, keepc hbf u6, keepc hbf u7, keepc hbf hsp⟩
          refine hK.out _ _ hS2 (fun _ => ?_)
          clear hK K
          refine wpAnyH_take (i := 4) (oi := ⟨some 24, _, _, _, _, _⟩) (v := ?_) rfl (by kernel_rfl) (by kernel_rfl) (by kernel_rfl) (fun _ _ _ h => h) (Or.inl ⟨by kernel_rfl, ?_⟩) hS2 ?_
          rotate_left 1
          · intro W hW
            obtain ⟨hW0, hW1, hW2, hW3, hW4⟩ := hW
            go_simp
            with_reducible rfl
          refine wpAnyH_take (i := 5) (oi := ⟨some 25, _, _, _, _, _⟩) (v := ?_) rfl (by kernel_rfl) (by kernel_rfl) (by kernel_rfl) (fun _ _ _ h => h) (Or.inl ⟨by kernel_rfl, ?_⟩) hS2 ?_
          rotate_left 1
          · intro W hW
            obtain ⟨hW0, hW1, hW2, hW3, hW4⟩ := hW
            go_simp
            with_reducible rfl
          refine wpAnyH_take (i := 6) (oi := ⟨some 26, _, _, _, _, _⟩) (v := ?_) rfl (by kernel_rfl) (by kernel_rfl) (by kernel_rfl) (fun _ _ _ h => h) (Or.inl ⟨by kernel_rfl, ?_⟩) hS2 ?_
          rotate_left 1
          · intro W hW
            obtain ⟨hW0, hW1, hW2, hW3, hW4⟩ := hW
            go_simp
            with_reducible rfl
          refine wpAnyH_take (i := 7) (oi := ⟨some 27, _, _, _, _, _⟩) (v := ?_) rfl (by kernel_rfl) (by kernel_rfl) (by kernel_rfl) (fun _ _ _ h => h) (Or.inl ⟨by kernel_rfl, ?_⟩) hS2 ?_
          rotate_left 1
          · intro W hW
            obtain ⟨hW0, hW1, hW2, hW3, hW4⟩ := hW
            go_simp
            with_reducible rfl
          refine wpAnyH_take (i := 8) (oi := ⟨some 28, _, _, _, _, _⟩) (v := ?_) rfl (by kernel_rfl) (by kernel_rfl) (by kernel_rfl) (fun _ _ _ h => h) (Or.inl ⟨by kernel_rfl, ?_⟩) hS2 ?_
          rotate_left 1
          · intro W hW
            obtain ⟨hW0, hW1, hW2, hW3, hW4⟩ := hW
            go_simp
            with_reducible rfl
          refine wpAnyH_take (i := 9) (oi := ⟨some 29, _, _, _, _, _⟩) (v := ?_) rfl (by kernel_rfl) (by kernel_rfl) (by kernel_rfl) (fun _ _ _ h => h) (Or.inl ⟨by kernel_rfl, ?_⟩) hS2 ?_
          rotate_left 1
          · intro W hW
            obtain ⟨hW0, hW1, hW2, hW3, hW4⟩ := hW
            go_simp
            with_reducible rfl
          refine wpAnyH_take (i := 10) (oi := ⟨some 30, _, _, _, _, _⟩) (v := undef) rfl (by kernel_rfl) (by kernel_rfl) (by kernel_rfl) (fun _ _ _ h => h) (Or.inr ⟨by kernel_rfl, rfl⟩) hS2 ?_
          refine wpAnyH_take (i := 11) (oi := ⟨some 31, _, _, _, _, _⟩) (v := undef) rfl (by kernel_rfl) (by kernel_rfl) (by kernel_rfl) (fun _ _ _ h => h) (Or.inr ⟨by kernel_rfl, rfl⟩) hS2 ?_
          refine wpAnyH_take (i := 12) (oi := ⟨some 32, _, _, _, _, _⟩) (v := undef) rfl (by kernel_rfl) (by kernel_rfl) (by kernel_rfl) (fun _ _ _ h => h) (Or.inr ⟨by kernel_rfl, rfl⟩) hS2 ?_
          refine wpAnyH_take (i := 13) (oi := ⟨some 33, _, _, _, _, _⟩) (v := undef) rfl (by kernel_rfl) (by kernel_rfl) (by kernel_rfl) (fun _ _ _ h => h) (Or.inr ⟨by kernel_rfl, rfl⟩) hS2 ?_
          refine wpAnyH_take (i := 14) (oi := ⟨some 34, _, _, _, _, _⟩) (v := undef) rfl (by kernel_rfl) (by kernel_rfl) (by kernel_rfl) (fun _ _ _ h => h) (Or.inr ⟨by kernel_rfl, rfl⟩) hS2 ?_
          refine wpAnyH_take (i := 15) (oi := ⟨some 35, _, _, _, _, _⟩) (v := undef) rfl (by kernel_rfl) (by kernel_rfl) (by kernel_rfl) (fun _ _ _ h => h) (Or.inr ⟨by kernel_rfl, rfl⟩) hS2 ?_
          refine wpAnyH_take (i := 16) (oi := ⟨some 36, _, _, _, _, _⟩) (v := undef) rfl (by kernel_rfl) (by kernel_rfl) (by kernel_rfl) (fun _ _ _ h => h) (Or.inr ⟨by kernel_rfl, rfl⟩) hS2 ?_
          refine wpAnyH_take (i := 17) (oi := ⟨some 37, _, _, _, _, _⟩) (v := ?_) rfl (by kernel_rfl) (by kernel_rfl) (by kernel_rfl) (fun _ _ _ h => h) (Or.inl ⟨by kernel_rfl, ?_⟩) hS2 ?_
          rotate_left 1
          · intro W hW
            obtain ⟨hW0, hW1, hW2, hW3, hW4⟩ := hW
            go_simp
            with_reducible rfl
          refine wpAnyH_take (i := 18) (oi := ⟨some 38, _, _, _, _, _⟩) (v := ?_) rfl (by kernel_rfl) (by kernel_rfl) (by kernel_rfl) (fun _ _ _ h => h) (Or.inl ⟨by kernel_rfl, ?_⟩) hS2 ?_
          rotate_left 1
          · intro W hW
            obtain ⟨hW0, hW1, hW2, hW3, hW4⟩ := hW
            go_simp
            with_reducible rfl
          refine wpAnyH_take (i := 19) (oi := ⟨some 39, _, _, _, _, _⟩) (v := ?_) rfl (by kernel_rfl) (by kernel_rfl) (by kernel_rfl) (fun _ _ _ h => h) (Or.inl ⟨by kernel_rfl, ?_⟩) hS2 ?_
          rotate_left 1
          · intro W hW
            obtain ⟨hW0, hW1, hW2, hW3, hW4⟩ := hW
            go_simp
            with_reducible rfl
          refine wpAnyH_take (i := 20) (oi := ⟨some 40, _, _, _, _, _⟩) (v := ?_) rfl (by kernel_rfl) (by kernel_rfl) (by kernel_rfl) (fun _ _ _ h => h) (Or.inl ⟨by kernel_rfl, ?_⟩) hS2 ?_
          rotate_left 1
          · intro W hW
            obtain ⟨hW0, hW1, hW2, hW3, hW4⟩ := hW
            go_simp
            with_reducible rfl
          refine wpAnyH_take (i := 21) (oi := ⟨some 41, _, _, _, _, _⟩) (v := ?_) rfl (by kernel_rfl) (by kernel_rfl) (by kernel_rfl) (fun _ _ _ h => h) (Or.inl ⟨by kernel_rfl, ?_⟩) hS2 ?_
          rotate_left 1
          · intro W hW
            obtain ⟨hW0, hW1, hW2, hW3, hW4⟩ := hW
            go_simp
            with_reducible rfl
          refine wpAnyH_take (i := 22) (oi := ⟨some 42, _, _, _, _, _⟩) (v := ?_) rfl (by kernel_rfl) (by kernel_rfl) (by kernel_rfl) (fun _ _ _ h => h) (Or.inl ⟨by kernel_rfl, ?_⟩) hS2 ?_
          rotate_left 1
          · intro W hW
            obtain ⟨hW0, hW1, hW2, hW3, hW4⟩ := hW
            go_simp
            with_reducible rfl
          refine wpAnyH_take (i := 23) (oi := ⟨some 43, _, _, _, _, _⟩) (v := undef) rfl (by kernel_rfl) (by kernel_rfl) (by kernel_rfl) (fun _ _ _ h => h) (Or.inr ⟨by kernel_rfl, rfl⟩) hS2 ?_
          refine wpAnyH_take (i := 24) (oi := ⟨some 44, _, _, _, _, _⟩) (v := undef) rfl (by kernel_rfl) (by kernel_rfl) (by kernel_rfl) (fun _ _ _ h => h) (Or.inr ⟨by kernel_rfl, rfl⟩) hS2 ?_
          refine wpAnyH_take (i := 25) (oi := ⟨some 45, _, _, _, _, _⟩) (v := undef) rfl (by kernel_rfl) (by kernel_rfl) (by kernel_rfl) (fun _ _ _ h => h) (Or.inr ⟨by kernel_rfl, rfl⟩) hS2 ?_
          refine wpAnyH_take (i := 26) (oi := ⟨some 46, _, _, _, _, _⟩) (v := ?_) rfl (by kernel_rfl) (by kernel_rfl) (by kernel_rfl) (fun _ _ _ h => h) (Or.inl ⟨by kernel_rfl, ?_⟩) hS2 ?_
          rotate_left 1
          · intro W hW
            obtain ⟨hW0, hW1, hW2, hW3, hW4⟩ := hW
            go_simp
            with_reducible rfl
          refine wpAnyH_take (i := 27) (oi := ⟨some 47, _, _, _, _, _⟩) (v := ?_) rfl (by kernel_rfl) (by kernel_rfl) (by kernel_rfl) (fun _ _ _ h => h) (Or.inl ⟨by kernel_rfl, ?_⟩) hS2 ?_
          rotate_left 1
          · intro W hW
            obtain ⟨hW0, hW1, hW2, hW3, hW4⟩ := hW
            go_simp
            with_reducible rfl
          refine wpAnyH_done (by kernel_rfl) ?_ _
          have hbx := bel_via hbz hbf
          clear hS0 hS1 hS2 hSa hba hbb hbd hbe hbf qh hbz
          simp only [Act.put, List.setIfInBounds_toArray, List.set_cons_succ, List.set_cons_zero]
          go_wp2_with fail
          go_ret
          exact ⟨by rw [HQ.out]; simp, hbx⟩
        | true =>
          by_cases h6 : spr = 6
          · subst h6
            refine wp_region_held (S := (fun w' => Below W4.heap.size W4 w' ∧ w'.cell? ⟨W.heap.size, 5, none⟩ = some (.int .i64 1) ∧ w'.cell? ⟨W.heap.size, 6, none⟩ = some (.string n6) ∧ w'.cell? ⟨W.heap.size, 7, none⟩ = some (.bool true) ∧ w'.cell? ⟨SB, 1, none⟩ = some (.int .i64 6))) (by kernel_rfl) ?_
            change wpAnyH _ _ _ _ _ _ _ _ (World.drew _)
            have hbd : Below W4.heap.size W4 W4.drew := Below.dr (Below.refl _ _)
            have hS0 : (Below W4.heap.size W4 W4.drew ∧ W4.drew.cell? ⟨W.heap.size, 5, none⟩ = some (.int .i64 1) ∧ W4.drew.cell? ⟨W.heap.size, 6, none⟩ = some (.string n6) ∧ W4.drew.cell? ⟨W.heap.size, 7, none⟩ = some (.bool true) ∧ W4.drew.cell? ⟨SB, 1, none⟩ = some (.int .i64 6)) := ⟨hbd, keepc hbd u5, keepc hbd u6, keepc hbd u7, keepc hbd hsp⟩
            generalize W4.drew = wd at hS0 hbd ⊢
            refine wpAnyH_take (i := 1) (oi := ⟨some 21, _, _, _, _, _⟩) (v := ?_) rfl (by kernel_rfl) (by kernel_rfl) (by kernel_rfl) (fun _ _ _ h => h) (Or.inl ⟨by kernel_rfl, ?_⟩) hS0 ?_
            rotate_left 1
            · intro W hW
              obtain ⟨hW0, hW1, hW2, hW3, hW4⟩ := hW
              go_simp
              with_reducible rfl
            refine wpAnyH_take (i := 2) (oi := ⟨some 22, _, _, _, _, _⟩) (v := ?_) rfl (by kernel_rfl) (by kernel_rfl) (by kernel_rfl) (fun _ _ _ h => h) (Or.inl ⟨by kernel_rfl, ?_⟩) hS0 ?_
            rotate_left 1
            · intro W hW
              obtain ⟨hW0, hW1, hW2, hW3, hW4⟩ := hW
              go_simp
              with_reducible rfl
            refine wpAnyH_ready (rs := [0]) (by kernel_rfl) (by simp) ?_
            refine AllReadyH.cons rfl (fun K hK => ?_) AllReadyH.nil
            go_simp
            go_at_call 75
            refine (act_any _).mono ?_
            rintro e wa ⟨g, gn, gc, rfl, hSa, hba⟩
            have hbe := bel_via hbd hba
            have hS1 : (Below W4.heap.size W4 wa ∧ wa.cell? ⟨W.heap.size, 5, none⟩ = some (.int .i64 1) ∧ wa.cell? ⟨W.heap.size, 6, none⟩ = some (.string n6) ∧ wa.cell? ⟨W.heap.size, 7, none⟩ = some (.bool true) ∧ wa.cell? ⟨SB, 1, none⟩ = some (.int .i64 6)) := ⟨hbe, keepc hbe u5, keepc hbe u6, keepc hbe u7, keepc hbe hsp⟩
            refine hK.out _ _ hS1 (fun _ => ?_)
            clear hK K
            refine wpAnyH_ready (rs := [3]) (by kernel_rfl) (by simp) ?_
            refine AllReadyH.cons rfl (fun K hK => ?_) AllReadyH.nil
            go_simp
            go_at_call 74
            refine (qh _ _ _ _ hSa).mono ?_
            rintro e wb ⟨rfl, hbb⟩
            have hbf := bel_via hbe hbb
            have hS2 : (Below W4.heap.size W4 wb ∧ wb.cell? ⟨W.heap.size, 5, none⟩ = some (.int .i64 1) ∧ wb.cell? ⟨W.heap.size, 6, none⟩ = some (.string n6) ∧ wb.cell? ⟨W.heap.size, 7, none⟩ = some (.bool true) ∧ wb.cell? ⟨SB, 1, none⟩ = some (.int .i64 6)) := ⟨hbf, keepc hbf u5, keepc hbf u6, keepc hbf u7, keepc hbf hsp⟩
            refine hK.out _ _ hS2 (fun _ => ?_)
            clear hK K
            refine wpAnyH_take (i := 4) (oi := ⟨some 24, _, _, _, _, _⟩) (v := ?_) rfl (by kernel_rfl) (by kernel_rfl) (by kernel_rfl) (fun _ _ _ h => h) (Or.inl ⟨by kernel_rfl, ?_⟩) hS2 ?_
            rotate_left 1
            · intro W hW
              obtain ⟨hW0, hW1, hW2, hW3, hW4⟩ := hW
              go_simp
              with_reducible rfl
            refine wpAnyH_take (i := 5) (oi := ⟨some 25, _, _, _, _, _⟩) (v := ?_) rfl (by kernel_rfl) (by kernel_rfl) (by kernel_rfl) (fun _ _ _ h => h) (Or.inl ⟨by kernel_rfl, ?_⟩) hS2 ?_
            rotate_left 1
            · intro W hW
              obtain ⟨hW0, hW1, hW2, hW3, hW4⟩ := hW
              go_simp
              with_reducible rfl
            refine wpAnyH_take (i := 6) (oi := ⟨some 26, _, _, _, _, _⟩) (v := ?_) rfl (by kernel_rfl) (by kernel_rfl) (by kernel_rfl) (fun _ _ _ h => h) (Or.inl ⟨by kernel_rfl, ?_⟩) hS2 ?_
            rotate_left 1
            · intro W hW
              obtain ⟨hW0, hW1, hW2, hW3, hW4⟩ := hW
              go_simp
              with_reducible rfl
            refine wpAnyH_take (i := 7) (oi := ⟨some 27, _, _, _, _, _⟩) (v := ?_) rfl (by kernel_rfl) (by kernel_rfl) (by kernel_rfl) (fun _ _ _ h => h) (Or.inl ⟨by kernel_rfl, ?_⟩) hS2 ?_
            rotate_left 1
            · intro W hW
              obtain ⟨hW0, hW1, hW2, hW3, hW4⟩ := hW
              go_simp
              with_reducible rfl
            refine wpAnyH_take (i := 8) (oi := ⟨some 28, _, _, _, _, _⟩) (v := ?_) rfl (by kernel_rfl) (by kernel_rfl) (by kernel_rfl) (fun _ _ _ h => h) (Or.inl ⟨by kernel_rfl, ?_⟩) hS2 ?_
            rotate_left 1
            · intro W hW
              obtain ⟨hW0, hW1, hW2, hW3, hW4⟩ := hW
              go_simp
              with_reducible rfl
            refine wpAnyH_take (i := 9) (oi := ⟨some 29, _, _, _, _, _⟩) (v := ?_) rfl (by kernel_rfl) (by kernel_rfl) (by kernel_rfl) (fun _ _ _ h => h) (Or.inl ⟨by kernel_rfl, ?_⟩) hS2 ?_
            rotate_left 1
            · intro W hW
              obtain ⟨hW0, hW1, hW2, hW3, hW4⟩ := hW
              go_simp
              with_reducible rfl
            refine wpAnyH_take (i := 10) (oi := ⟨some 30, _, _, _, _, _⟩) (v := undef) rfl (by kernel_rfl) (by kernel_rfl) (by kernel_rfl) (fun _ _ _ h => h) (Or.inr ⟨by kernel_rfl, rfl⟩) hS2 ?_
            refine wpAnyH_take (i := 11) (oi := ⟨some 31, _, _, _, _, _⟩) (v := undef) rfl (by kernel_rfl) (by kernel_rfl) (by kernel_rfl) (fun _ _ _ h => h) (Or.inr ⟨by kernel_rfl, rfl⟩) hS2 ?_
            refine wpAnyH_take (i := 12) (oi := ⟨some 32, _, _, _, _, _⟩) (v := undef) rfl (by kernel_rfl) (by kernel_rfl) (by kernel_rfl) (fun _ _ _ h => h) (Or.inr ⟨by kernel_rfl, rfl⟩) hS2 ?_
            refine wpAnyH_take (i := 13) (oi := ⟨some 33, _, _, _, _, _⟩) (v := undef) rfl (by kernel_rfl) (by kernel_rfl) (by kernel_rfl) (fun _ _ _ h => h) (Or.inr ⟨by kernel_rfl, rfl⟩) hS2 ?_
            refine wpAnyH_take (i := 14) (oi := ⟨some 34, _, _, _, _, _⟩) (v := undef) rfl (by kernel_rfl) (by kernel_rfl) (by kernel_rfl) (fun _ _ _ h => h) (Or.inr ⟨by kernel_rfl, rfl⟩) hS2 ?_
            refine wpAnyH_take (i := 15) (oi := ⟨some 35, _, _, _, _, _⟩) (v := undef) rfl (by kernel_rfl) (by kernel_rfl) (by kernel_rfl) (fun _ _ _ h => h) (Or.inr ⟨by kernel_rfl, rfl⟩) hS2 ?_
            refine wpAnyH_take (i := 16) (oi := ⟨some 36, _, _, _, _, _⟩) (v := undef) rfl (by kernel_rfl) (by kernel_rfl) (by kernel_rfl) (fun _ _ _ h => h) (Or.inr ⟨by kernel_rfl, rfl⟩) hS2 ?_
            refine wpAnyH_take (i := 17) (oi := ⟨some 37, _, _, _, _, _⟩) (v := ?_) rfl (by kernel_rfl) (by kernel_rfl) (by kernel_rfl) (fun _ _ _ h => h) (Or.inl ⟨by kernel_rfl, ?_⟩) hS2 ?_
            rotate_left 1
            · intro W hW
              obtain ⟨hW0, hW1, hW2, hW3, hW4⟩ := hW
              go_simp
              with_reducible rfl
            refine wpAnyH_take (i := 18) (oi := ⟨some 38, _, _, _, _, _⟩) (v := ?_) rfl (by kernel_rfl) (by kernel_rfl) (by kernel_rfl) (fun _ _ _ h => h) (Or.inl ⟨by kernel_rfl, ?_⟩) hS2 ?_
            rotate_left 1
            · intro W hW
              obtain ⟨hW0, hW1, hW2, hW3, hW4⟩ := hW
              go_simp
              with_reducible rfl
            refine wpAnyH_take (i := 19) (oi := ⟨some 39, _, _, _, _, _⟩) (v := ?_) rfl (by kernel_rfl) (by kernel_rfl) (by kernel_rfl) (fun _ _ _ h => h) (Or.inl ⟨by kernel_rfl, ?_⟩) hS2 ?_
            rotate_left 1
            · intro W hW
              obtain ⟨hW0, hW1, hW2, hW3, hW4⟩ := hW
              go_simp
              with_reducible rfl
            refine wpAnyH_take (i := 20) (oi := ⟨some 40, _, _, _, _, _⟩) (v := ?_) rfl (by kernel_rfl) (by kernel_rfl) (by kernel_rfl) (fun _ _ _ h => h) (Or.inl ⟨by kernel_rfl, ?_⟩) hS2 ?_
            rotate_left 1
            · intro W hW
              obtain ⟨hW0, hW1, hW2, hW3, hW4⟩ := hW
              go_simp
              with_reducible rfl
            refine wpAnyH_take (i := 21) (oi := ⟨some 41, _, _, _, _, _⟩) (v := ?_) rfl (by kernel_rfl) (by kernel_rfl) (by kernel_rfl) (fun _ _ _ h => h) (Or.inl ⟨by kernel_rfl, ?_⟩) hS2 ?_
            rotate_left 1
            · intro W hW
              obtain ⟨hW0, hW1, hW2, hW3, hW4⟩ := hW
              go_simp
              with_reducible rfl
            refine wpAnyH_take (i := 22) (oi := ⟨some 42, _, _, _, _, _⟩) (v := ?_) rfl (by kernel_rfl) (by kernel_rfl) (by kernel_rfl) (fun _ _ _ h => h) (Or.inl ⟨by kernel_rfl, ?_⟩) hS2 ?_
            rotate_left 1
            · intro W hW
              obtain ⟨hW0, hW1, hW2, hW3, hW4⟩ := hW
              go_simp
              with_reducible rfl
            refine wpAnyH_take (i := 23) (oi := ⟨some 43, _, _, _, _, _⟩) (v := ?_) rfl (by kernel_rfl) (by kernel_rfl) (by kernel_rfl) (fun _ _ _ h => h) (Or.inl ⟨by kernel_rfl, ?_⟩) hS2 ?_
            rotate_left 1
            · intro W hW
              obtain ⟨hW0, hW1, hW2, hW3, hW4⟩ := hW
              go_simp
              with_reducible rfl
            refine wpAnyH_take (i := 24) (oi := ⟨some 44, _, _, _, _, _⟩) (v := ?_) rfl (by kernel_rfl) (by kernel_rfl) (by kernel_rfl) (fun _ _ _ h => h) (Or.inl ⟨by kernel_rfl, ?_⟩) hS2 ?_
            rotate_left 1
            · intro W hW
              obtain ⟨hW0, hW1, hW2, hW3, hW4⟩ := hW
              go_simp
              with_reducible rfl
            refine wpAnyH_take (i := 25) (oi := ⟨some 45, _, _, _, _, _⟩) (v := ?_) rfl (by kernel_rfl) (by kernel_rfl) (by kernel_rfl) (fun _ _ _ h => h) (Or.inl ⟨by kernel_rfl, ?_⟩) hS2 ?_
            rotate_left 1
            · intro W hW
              obtain ⟨hW0, hW1, hW2, hW3, hW4⟩ := hW
              go_simp
              with_reducible rfl
            refine wpAnyH_take (i := 26) (oi := ⟨some 46, _, _, _, _, _⟩) (v := ?_) rfl (by kernel_rfl) (by kernel_rfl) (by kernel_rfl) (fun _ _ _ h => h) (Or.inl ⟨by kernel_rfl, ?_⟩) hS2 ?_
            rotate_left 1
            · intro W hW
              obtain ⟨hW0, hW1, hW2, hW3, hW4⟩ := hW
              go_simp
              with_reducible rfl
            refine wpAnyH_take (i := 27) (oi := ⟨some 47, _, _, _, _, _⟩) (v := ?_) rfl (by kernel_rfl) (by kernel_rfl) (by kernel_rfl) (fun _ _ _ h => h) (Or.inl ⟨by kernel_rfl, ?_⟩) hS2 ?_
            rotate_left 1
            · intro W hW
              obtain ⟨hW0, hW1, hW2, hW3, hW4⟩ := hW
              go_simp
              with_reducible rfl
            refine wpAnyH_done (by kernel_rfl) ?_ _
            have hbx := bel_via hbz hbf
            clear hS0 hS1 hS2 hSa hba hbb hbd hbe hbf qh hbz
            simp only [Act.put, List.setIfInBounds_toArray, List.set_cons_succ, List.set_cons_zero]
            go_wp2_with fail
            go_ret
            exact ⟨by rw [HQ.out]; simp, hbx⟩
          · have h6b : (spr != 6) = true := by simp [h6]
            have HK := Lib.hid h6
            clear h6
            refine wp_region_held (S := (fun w' => Below W4.heap.size W4 w' ∧ w'.cell? ⟨W.heap.size, 5, none⟩ = some (.int .i64 1) ∧ w'.cell? ⟨W.heap.size, 6, none⟩ = some (.string n6) ∧ w'.cell? ⟨W.heap.size, 7, none⟩ = some (.bool true) ∧ w'.cell? ⟨SB, 1, none⟩ = some (.int .i64 spr))) (by kernel_rfl) ?_
            change wpAnyH _ _ _ _ _ _ _ _ (World.drew _)
            have hbd : Below W4.heap.size W4 W4.drew := Below.dr (Below.refl _ _)
            have hS0 : (Below W4.heap.size W4 W4.drew ∧ W4.drew.cell? ⟨W.heap.size, 5, none⟩ = some (.int .i64 1) ∧ W4.drew.cell? ⟨W.heap.size, 6, none⟩ = some (.string n6) ∧ W4.drew.cell? ⟨W.heap.size, 7, none⟩ = some (.bool true) ∧ W4.drew.cell? ⟨SB, 1, none⟩ = some (.int .i64 spr)) := ⟨hbd, keepc hbd u5, keepc hbd u6, keepc hbd u7, keepc hbd hsp⟩
            generalize W4.drew = wd at hS0 hbd ⊢
            refine wpAnyH_take (i := 1) (oi := ⟨some 21, _, _, _, _, _⟩) (v := ?_) rfl (by kernel_rfl) (by kernel_rfl) (by kernel_rfl) (fun _ _ _ h => h) (Or.inl ⟨by kernel_rfl, ?_⟩) hS0 ?_
            rotate_left 1
            · intro W hW
              obtain ⟨hW0, hW1, hW2, hW3, hW4⟩ := hW
              go_simp
              with_reducible rfl
            refine wpAnyH_take (i := 2) (oi := ⟨some 22, _, _, _, _, _⟩) (v := ?_) rfl (by kernel_rfl) (by kernel_rfl) (by kernel_rfl) (fun _ _ _ h => h) (Or.inl ⟨by kernel_rfl, ?_⟩) hS0 ?_
            rotate_left 1
            · intro W hW
              obtain ⟨hW0, hW1, hW2, hW3, hW4⟩ := hW
              go_simp
              with_reducible rfl
            refine wpAnyH_ready (rs := [0]) (by kernel_rfl) (by simp) ?_
            refine AllReadyH.cons rfl (fun K hK => ?_) AllReadyH.nil
            go_simp
            go_at_call 75
            refine (act_any _).mono ?_
            rintro e wa ⟨g, gn, gc, rfl, hSa, hba⟩
            have hbe := bel_via hbd hba
            have hS1 : (Below W4.heap.size W4 wa ∧ wa.cell? ⟨W.heap.size, 5, none⟩ = some (.int .i64 1) ∧ wa.cell? ⟨W.heap.size, 6, none⟩ = some (.string n6) ∧ wa.cell? ⟨W.heap.size, 7, none⟩ = some (.bool true) ∧ wa.cell? ⟨SB, 1, none⟩ = some (.int .i64 spr)) := ⟨hbe, keepc hbe u5, keepc hbe u6, keepc hbe u7, keepc hbe hsp⟩
            refine hK.out _ _ hS1 (fun _ => ?_)
            clear hK K
            refine wpAnyH_ready (rs := [3]) (by kernel_rfl) (by simp) ?_
            refine AllReadyH.cons rfl (fun K hK => ?_) AllReadyH.nil
            go_simp
            go_at_call 74
            refine (qh _ _ _ _ hSa).mono ?_
            rintro e wb ⟨rfl, hbb⟩
            have hbf := bel_via hbe hbb
            have hS2 : (Below W4.heap.size W4 wb ∧ wb.cell? ⟨W.heap.size, 5, none⟩ = some (.int .i64 1) ∧ wb.cell? ⟨W.heap.size, 6, none⟩ = some (.string n6) ∧ wb.cell? ⟨W.heap.size, 7, none⟩ = some (.bool true) ∧ wb.cell? ⟨SB, 1, none⟩ = some (.int .i64 spr)) := ⟨hbf, keepc hbf u5, keepc hbf u6, keepc hbf u7, keepc hbf hsp⟩
            refine hK.out _ _ hS2 (fun _ => ?_)
            clear hK K
            refine wpAnyH_take (i := 4) (oi := ⟨some 24, _, _, _, _, _⟩) (v := ?_) rfl (by kernel_rfl) (by kernel_rfl) (by kernel_rfl) (fun _ _ _ h => h) (Or.inl ⟨by kernel_rfl, ?_⟩) hS2 ?_
            rotate_left 1
            · intro W hW
              obtain ⟨hW0, hW1, hW2, hW3, hW4⟩ := hW
              go_simp
              with_reducible rfl
            refine wpAnyH_take (i := 5) (oi := ⟨some 25, _, _, _, _, _⟩) (v := ?_) rfl (by kernel_rfl) (by kernel_rfl) (by kernel_rfl) (fun _ _ _ h => h) (Or.inl ⟨by kernel_rfl, ?_⟩) hS2 ?_
            rotate_left 1
            · intro W hW
              obtain ⟨hW0, hW1, hW2, hW3, hW4⟩ := hW
              go_simp
              with_reducible rfl
            refine wpAnyH_take (i := 6) (oi := ⟨some 26, _, _, _, _, _⟩) (v := ?_) rfl (by kernel_rfl) (by kernel_rfl) (by kernel_rfl) (fun _ _ _ h => h) (Or.inl ⟨by kernel_rfl, ?_⟩) hS2 ?_
            rotate_left 1
            · intro W hW
              obtain ⟨hW0, hW1, hW2, hW3, hW4⟩ := hW
              go_simp
              with_reducible rfl
            refine wpAnyH_take (i := 7) (oi := ⟨some 27, _, _, _, _, _⟩) (v := ?_) rfl (by kernel_rfl) (by kernel_rfl) (by kernel_rfl) (fun _ _ _ h => h) (Or.inl ⟨by kernel_rfl, ?_⟩) hS2 ?_
            rotate_left 1
            · intro W hW
              obtain ⟨hW0, hW1, hW2, hW3, hW4⟩ := hW
              go_simp
              with_reducible rfl
            refine wpAnyH_take (i := 8) (oi := ⟨some 28, _, _, _, _, _⟩) (v := ?_) rfl (by kernel_rfl) (by kernel_rfl) (by kernel_rfl) (fun _ _ _ h => h) (Or.inl ⟨by kernel_rfl, ?_⟩) hS2 ?_
            rotate_left 1
            · intro W hW
              obtain ⟨hW0, hW1, hW2, hW3, hW4⟩ := hW
              go_simp
              with_reducible rfl
            refine wpAnyH_take (i := 9) (oi := ⟨some 29, _, _, _, _, _⟩) (v := ?_) rfl (by kernel_rfl) (by kernel_rfl) (by kernel_rfl) (fun _ _ _ h => h) (Or.inl ⟨by kernel_rfl, ?_⟩) hS2 ?_
            rotate_left 1
            · intro W hW
              obtain ⟨hW0, hW1, hW2, hW3, hW4⟩ := hW
              go_simp
              with_reducible rfl
            refine wpAnyH_take (i := 10) (oi := ⟨some 30, _, _, _, _, _⟩) (v := undef) rfl (by kernel_rfl) (by kernel_rfl) (by kernel_rfl) (fun _ _ _ h => h) (Or.inr ⟨by kernel_rfl, rfl⟩) hS2 ?_
            refine wpAnyH_take (i := 11) (oi := ⟨some 31, _, _, _, _, _⟩) (v := undef) rfl (by kernel_rfl) (by kernel_rfl) (by kernel_rfl) (fun _ _ _ h => h) (Or.inr ⟨by kernel_rfl, rfl⟩) hS2 ?_
            refine wpAnyH_take (i := 12) (oi := ⟨some 32, _, _, _, _, _⟩) (v := undef) rfl (by kernel_rfl) (by kernel_rfl) (by kernel_rfl) (fun _ _ _ h => h) (Or.inr ⟨by kernel_rfl, rfl⟩) hS2 ?_
            refine wpAnyH_take (i := 13) (oi := ⟨some 33, _, _, _, _, _⟩) (v := undef) rfl (by kernel_rfl) (by kernel_rfl) (by kernel_rfl) (fun _ _ _ h => h) (Or.inr ⟨by kernel_rfl, rfl⟩) hS2 ?_
            refine wpAnyH_take (i := 14) (oi := ⟨some 34, _, _, _, _, _⟩) (v := undef) rfl (by kernel_rfl) (by kernel_rfl) (by kernel_rfl) (fun _ _ _ h => h) (Or.inr ⟨by kernel_rfl, rfl⟩) hS2 ?_
            refine wpAnyH_take (i := 15) (oi := ⟨some 35, _, _, _, _, _⟩) (v := undef) rfl (by kernel_rfl) (by kernel_rfl) (by kernel_rfl) (fun _ _ _ h => h) (Or.inr ⟨by kernel_rfl, rfl⟩) hS2 ?_
            refine wpAnyH_take (i := 16) (oi := ⟨some 36, _, _, _, _, _⟩) (v := undef) rfl (by kernel_rfl) (by kernel_rfl) (by kernel_rfl) (fun _ _ _ h => h) (Or.inr ⟨by kernel_rfl, rfl⟩) hS2 ?_
            refine wpAnyH_take (i := 17) (oi := ⟨some 37, _, _, _, _, _⟩) (v := ?_) rfl (by kernel_rfl) (by kernel_rfl) (by kernel_rfl) (fun _ _ _ h => h) (Or.inl ⟨by kernel_rfl, ?_⟩) hS2 ?_
            rotate_left 1
            · intro W hW
              obtain ⟨hW0, hW1, hW2, hW3, hW4⟩ := hW
              go_simp
              with_reducible rfl
            refine wpAnyH_take (i := 18) (oi := ⟨some 38, _, _, _, _, _⟩) (v := ?_) rfl (by kernel_rfl) (by kernel_rfl) (by kernel_rfl) (fun _ _ _ h => h) (Or.inl ⟨by kernel_rfl, ?_⟩) hS2 ?_
            rotate_left 1
            · intro W hW
              obtain ⟨hW0, hW1, hW2, hW3, hW4⟩ := hW
              go_simp
              with_reducible rfl
            refine wpAnyH_take (i := 19) (oi := ⟨some 39, _, _, _, _, _⟩) (v := ?_) rfl (by kernel_rfl) (by kernel_rfl) (by kernel_rfl) (fun _ _ _ h => h) (Or.inl ⟨by kernel_rfl, ?_⟩) hS2 ?_
            rotate_left 1
            · intro W hW
              obtain ⟨hW0, hW1, hW2, hW3, hW4⟩ := hW
              go_simp
              with_reducible rfl
            refine wpAnyH_take (i := 20) (oi := ⟨some 40, _, _, _, _, _⟩) (v := ?_) rfl (by kernel_rfl) (by kernel_rfl) (by kernel_rfl) (fun _ _ _ h => h) (Or.inl ⟨by kernel_rfl, ?_⟩) hS2 ?_
            rotate_left 1
            · intro W hW
              obtain ⟨hW0, hW1, hW2, hW3, hW4⟩ := hW
              go_simp
              with_reducible rfl
            refine wpAnyH_take (i := 21) (oi := ⟨some 41, _, _, _, _, _⟩) (v := ?_) rfl (by kernel_rfl) (by kernel_rfl) (by kernel_rfl) (fun _ _ _ h => h) (Or.inl ⟨by kernel_rfl, ?_⟩) hS2 ?_
            rotate_left 1
            · intro W hW
              obtain ⟨hW0, hW1, hW2, hW3, hW4⟩ := hW
              go_simp
              with_reducible rfl
            refine wpAnyH_take (i := 22) (oi := ⟨some 42, _, _, _, _, _⟩) (v := ?_) rfl (by kernel_rfl) (by kernel_rfl) (by kernel_rfl) (fun _ _ _ h => h) (Or.inl ⟨by kernel_rfl, ?_⟩) hS2 ?_
            rotate_left 1
            · intro W hW
              obtain ⟨hW0, hW1, hW2, hW3, hW4⟩ := hW
              go_simp
              with_reducible rfl
            refine wpAnyH_take (i := 23) (oi := ⟨some 43, _, _, _, _, _⟩) (v := ?_) rfl (by kernel_rfl) (by kernel_rfl) (by kernel_rfl) (fun _ _ _ h => h) (Or.inl ⟨by kernel_rfl, ?_⟩) hS2 ?_
            rotate_left 1
            · intro W hW
              obtain ⟨hW0, hW1, hW2, hW3, hW4⟩ := hW
              go_simp
              with_reducible rfl
            refine wpAnyH_take (i := 24) (oi := ⟨some 44, _, _, _, _, _⟩) (v := ?_) rfl (by kernel_rfl) (by kernel_rfl) (by kernel_rfl) (fun _ _ _ h => h) (Or.inl ⟨by kernel_rfl, ?_⟩) hS2 ?_
            rotate_left 1
            · intro W hW
              obtain ⟨hW0, hW1, hW2, hW3, hW4⟩ := hW
              go_simp
              with_reducible rfl
            refine wpAnyH_take (i := 25) (oi := ⟨some 45, _, _, _, _, _⟩) (v := ?_) rfl (by kernel_rfl) (by kernel_rfl) (by kernel_rfl) (fun _ _ _ h => h) (Or.inl ⟨by kernel_rfl, ?_⟩) hS2 ?_
            rotate_left 1
            · intro W hW
              obtain ⟨hW0, hW1, hW2, hW3, hW4⟩ := hW
              go_simp
              with_reducible rfl
            refine wpAnyH_take (i := 26) (oi := ⟨some 46, _, _, _, _, _⟩) (v := ?_) rfl (by kernel_rfl) (by kernel_rfl) (by kernel_rfl) (fun _ _ _ h => h) (Or.inl ⟨by kernel_rfl, ?_⟩) hS2 ?_
            rotate_left 1
            · intro W hW
              obtain ⟨hW0, hW1, hW2, hW3, hW4⟩ := hW
              go_simp
              with_reducible rfl
            refine wpAnyH_take (i := 27) (oi := ⟨some 47, _, _, _, _, _⟩) (v := ?_) rfl (by kernel_rfl) (by kernel_rfl) (by kernel_rfl) (fun _ _ _ h => h) (Or.inl ⟨by kernel_rfl, ?_⟩) hS2 ?_
            rotate_left 1
            · intro W hW
              obtain ⟨hW0, hW1, hW2, hW3, hW4⟩ := hW
              go_simp
              with_reducible rfl
            refine wpAnyH_done (by kernel_rfl) ?_ _
            have hbx := bel_via hbz hbf
            clear hS0 hS1 hS2 hSa hba hbb hbd hbe hbf qh hbz
            simp only [Act.put, List.setIfInBounds_toArray, List.set_cons_succ, List.set_cons_zero]
            go_wp2_with fail
            go_ret
            exact ⟨by rw [HQ.out]; simp [HK.out], hbx⟩
      · have h1b : (n5 != 1) = true := by simp [h1]
        have HN := Lib.hid h1
        clear h1
        by_cases hE : n6.toList = []
        · have hE1 : n6.toList.isEmpty = true := by simp [hE]
          have hE2 : (n6.toList == []) = true := by simp [hE]
          have hE3 : (n6.toList != []) = false := by simp [hE]
          cases n7 with
          | false =>
            refine wp_region_held (S := (fun w' => Below W4.heap.size W4 w' ∧ w'.cell? ⟨W.heap.size, 5, none⟩ = some (.int .i64 n5) ∧ w'.cell? ⟨W.heap.size, 6, none⟩ = some (.string n6) ∧ w'.cell? ⟨W.heap.size, 7, none⟩ = some (.bool false) ∧ w'.cell? ⟨SB, 1, none⟩ = some (.int .i64 spr))) (by kernel_rfl) ?_
            change wpAnyH _ _ _ _ _ _ _ _ (World.drew _)
            have hbd : Below W4.heap.size W4 W4.drew := Below.dr (Below.refl _ _)
            have hS0 : (Below W4.heap.size W4 W4.drew ∧ W4.drew.cell? ⟨W.heap.size, 5, none⟩ = some (.int .i64 n5) ∧ W4.drew.cell? ⟨W.heap.size, 6, none⟩ = some (.string n6) ∧ W4.drew.cell? ⟨W.heap.size, 7, none⟩ = some (.bool false) ∧ W4.drew.cell? ⟨SB, 1, none⟩ = some (.int .i64 spr)) := ⟨hbd, keepc hbd u5, keepc hbd u6, keepc hbd u7, keepc hbd hsp⟩
            generalize W4.drew = wd at hS0 hbd ⊢
            refine wpAnyH_take (i := 1) (oi := ⟨some 21, _, _, _, _, _⟩) (v := ?_) rfl (by kernel_rfl) (by kernel_rfl) (by kernel_rfl) (fun _ _ _ h => h) (Or.inl ⟨by kernel_rfl, ?_⟩) hS0 ?_
            rotate_left 1
            · intro W hW
              obtain ⟨hW0, hW1, hW2, hW3, hW4⟩ := hW
              go_simp
              with_reducible rfl
            refine wpAnyH_take (i := 2) (oi := ⟨some 22, _, _, _, _, _⟩) (v := ?_) rfl (by kernel_rfl) (by kernel_rfl) (by kernel_rfl) (fun _ _ _ h => h) (Or.inl ⟨by kernel_rfl, ?_⟩) hS0 ?_
            rotate_left 1
            · intro W hW
              obtain ⟨hW0, hW1, hW2, hW3, hW4⟩ := hW
              go_simp
              with_reducible rfl
            refine wpAnyH_ready (rs := [0]) (by kernel_rfl) (by simp) ?_
            refine AllReadyH.cons rfl (fun K hK => ?_) AllReadyH.nil
            go_simp
            go_at_call 75
            refine (act_any _).mono ?_
            rintro e wa ⟨g, gn, gc, rfl, hSa, hba⟩
            have hbe := bel_via hbd hba
            have hS1 : (Below W4.heap.size W4 wa ∧ wa.cell? ⟨W.heap.size, 5, none⟩ = some (.int .i64 n5) ∧ wa.cell? ⟨W.heap.size, 6, none⟩ = some (.string n6) ∧ wa.cell? ⟨W.heap.size, 7, none⟩ = some (.bool false) ∧ wa.cell? ⟨SB, 1, none⟩ = some (.int .i64 spr)) := ⟨hbe, keepc hbe u5, keepc hbe u6, keepc hbe u7, keepc hbe hsp⟩
            refine hK.out _ _ hS1 (fun _ => ?_)
            clear hK K
            refine wpAnyH_ready (rs := [3]) (by kernel_rfl) (by simp) ?_
            refine AllReadyH.cons rfl (fun K hK => ?_) AllReadyH.nil
            go_simp
            go_at_call 74
            refine (qh _ _ _ _ hSa).mono ?_
            rintro e wb ⟨rfl, hbb⟩
            have hbf := bel_via hbe hbb
            have hS2 : (Below W4.heap.size W4 wb ∧ wb.cell? ⟨W.heap.size, 5, none⟩ = some (.int .i64 n5) ∧ wb.cell? ⟨W.heap.size, 6, none⟩ = some (.string n6) ∧ wb.cell? ⟨W.heap.size, 7, none⟩ = some (.bool false) ∧ wb.cell? ⟨SB, 1, none⟩ = some (.int .i64 spr)) := ⟨hbf, keepc hbf u5, keepc hbf u6, keepc hbf u7, keepc hbf hsp⟩
            refine hK.out _ _ hS2 (fun _ => ?_)
            clear hK K
            refine wpAnyH_take (i := 4) (oi := ⟨some 24, _, _, _, _, _⟩) (v := ?_) rfl (by kernel_rfl) (by kernel_rfl) (by kernel_rfl) (fun _ _ _ h => h) (Or.inl ⟨by kernel_rfl, ?_⟩) hS2 ?_
            rotate_left 1
            · intro W hW
              obtain ⟨hW0, hW1, hW2, hW3, hW4⟩ := hW
              go_simp
              with_reducible rfl
            refine wpAnyH_take (i := 5) (oi := ⟨some 25, _, _, _, _, _⟩) (v := ?_) rfl (by kernel_rfl) (by kernel_rfl) (by kernel_rfl) (fun _ _ _ h => h) (Or.inl ⟨by kernel_rfl, ?_⟩) hS2 ?_
            rotate_left 1
            · intro W hW
              obtain ⟨hW0, hW1, hW2, hW3, hW4⟩ := hW
              go_simp
              with_reducible rfl
            refine wpAnyH_take (i := 6) (oi := ⟨some 26, _, _, _, _, _⟩) (v := ?_) rfl (by kernel_rfl) (by kernel_rfl) (by kernel_rfl) (fun _ _ _ h => h) (Or.inl ⟨by kernel_rfl, ?_⟩) hS2 ?_
            rotate_left 1
            · intro W hW
              obtain ⟨hW0, hW1, hW2, hW3, hW4⟩ := hW
              go_simp
              with_reducible rfl
            refine wpAnyH_take (i := 7) (oi := ⟨some 27, _, _, _, _, _⟩) (v := ?_) rfl (by kernel_rfl) (by kernel_rfl) (by kernel_rfl) (fun _ _ _ h => h) (Or.inl ⟨by kernel_rfl, ?_⟩) hS2 ?_
            rotate_left 1
            · intro W hW
              obtain ⟨hW0, hW1, hW2, hW3, hW4⟩ := hW
              go_simp
              with_reducible rfl
            refine wpAnyH_take (i := 8) (oi := ⟨some 28, _, _, _, _, _⟩) (v := ?_) rfl (by kernel_rfl) (by kernel_rfl) (by kernel_rfl) (fun _ _ _ h => h) (Or.inl ⟨by kernel_rfl, ?_⟩) hS2 ?_
            rotate_left 1
            · intro W hW
              obtain ⟨hW0, hW1, hW2, hW3, hW4⟩ := hW
              go_simp
              with_reducible rfl
            refine wpAnyH_take (i := 9) (oi := ⟨some 29, _, _, _, _, _⟩) (v := ?_) rfl (by kernel_rfl) (by kernel_rfl) (by kernel_rfl) (fun _ _ _ h => h) (Or.inl ⟨by kernel_rfl, ?_⟩) hS2 ?_
            rotate_left 1
            · intro W hW
              obtain ⟨hW0, hW1, hW2, hW3, hW4⟩ := hW
              go_simp
              with_reducible rfl
            refine wpAnyH_take (i := 10) (oi := ⟨some 30, _, _, _, _, _⟩) (v := ?_) rfl (by kernel_rfl) (by kernel_rfl) (by kernel_rfl) (fun _ _ _ h => h) (Or.inl ⟨by kernel_rfl, ?_⟩) hS2 ?_
            rotate_left 1
            · intro W hW
              obtain ⟨hW0, hW1, hW2, hW3, hW4⟩ := hW
              go_simp
              with_reducible rfl
            refine wpAnyH_take (i := 11) (oi := ⟨some 31, _, _, _, _, _⟩) (v := ?_) rfl (by kernel_rfl) (by kernel_rfl) (by kernel_rfl) (fun _ _ _ h => h) (Or.inl ⟨by kernel_rfl, ?_⟩) hS2 ?_
            rotate_left 1
            · intro W hW
              obtain ⟨hW0, hW1, hW2, hW3, hW4⟩ := hW
              go_simp
              with_reducible rfl
            refine wpAnyH_take (i := 12) (oi := ⟨some 32, _, _, _, _, _⟩) (v := ?_) rfl (by kernel_rfl) (by kernel_rfl) (by kernel_rfl) (fun _ _ _ h => h) (Or.inl ⟨by kernel_rfl, ?_⟩) hS2 ?_
            rotate_left 1
            · intro W hW
              obtain ⟨hW0, hW1, hW2, hW3, hW4⟩ := hW
              go_simp
              with_reducible rfl
            refine wpAnyH_take (i := 13) (oi := ⟨some 33, _, _, _, _, _⟩) (v := ?_) rfl (by kernel_rfl) (by kernel_rfl) (by kernel_rfl) (fun _ _ _ h => h) (Or.inl ⟨by kernel_rfl, ?_⟩) hS2 ?_
            rotate_left 1
            · intro W hW
              obtain ⟨hW0, hW1, hW2, hW3, hW4⟩ := hW
              go_simp
              with_reducible rfl
            refine wpAnyH_take (i := 14) (oi := ⟨some 34, _, _, _, _, _⟩) (v := ?_) rfl (by kernel_rfl) (by kernel_rfl) (by kernel_rfl) (fun _ _ _ h => h) (Or.inl ⟨by kernel_rfl, ?_⟩) hS2 ?_
            rotate_left 1
            · intro W hW
              obtain ⟨hW0, hW1, hW2, hW3, hW4⟩ := hW
              go_simp
              with_reducible rfl
            refine wpAnyH_take (i := 15) (oi := ⟨some 35, _, _, _, _, _⟩) (v := ?_) rfl (by kernel_rfl) (by kernel_rfl) (by kernel_rfl) (fun _ _ _ h => h) (Or.inl ⟨by kernel_rfl, ?_⟩) hS2 ?_
            rotate_left 1
            · intro W hW
              obtain ⟨hW0, hW1, hW2, hW3, hW4⟩ := hW
              go_simp
              with_reducible rfl
            refine wpAnyH_take (i := 16) (oi := ⟨some 36, _, _, _, _, _⟩) (v := ?_) rfl (by kernel_rfl) (by kernel_rfl) (by kernel_rfl) (fun _ _ _ h => h) (Or.inl ⟨by kernel_rfl, ?_⟩) hS2 ?_
            rotate_left 1
            · intro W hW
              obtain ⟨hW0, hW1, hW2, hW3, hW4⟩ := hW
              go_simp
              with_reducible rfl
            refine wpAnyH_take (i := 17) (oi := ⟨some 37, _, _, _, _, _⟩) (v := ?_) rfl (by kernel_rfl) (by kernel_rfl) (by kernel_rfl) (fun _ _ _ h => h) (Or.inl ⟨by kernel_rfl, ?_⟩) hS2 ?_
            rotate_left 1
            · intro W hW
              obtain ⟨hW0, hW1, hW2, hW3, hW4⟩ := hW
              go_simp
              with_reducible rfl
            refine wpAnyH_take (i := 18) (oi := ⟨some 38, _, _, _, _, _⟩) (v := ?_) rfl (by kernel_rfl) (by kernel_rfl) (by kernel_rfl) (fun _ _ _ h => h) (Or.inl ⟨by kernel_rfl, ?_⟩) hS2 ?_
            rotate_left 1
            · intro W hW
              obtain ⟨hW0, hW1, hW2, hW3, hW4⟩ := hW
              go_simp
              with_reducible rfl
            refine wpAnyH_take (i := 19) (oi := ⟨some 39, _, _, _, _, _⟩) (v := ?_) rfl (by kernel_rfl) (by kernel_rfl) (by kernel_rfl) (fun _ _ _ h => h) (Or.inl ⟨by kernel_rfl, ?_⟩) hS2 ?_
            rotate_left 1
            · intro W hW
              obtain ⟨hW0, hW1, hW2, hW3, hW4⟩ := hW
              go_simp
              with_reducible rfl
            refine wpAnyH_take (i := 20) (oi := ⟨some 40, _, _, _, _, _⟩) (v := ?_) rfl (by kernel_rfl) (by kernel_rfl) (by kernel_rfl) (fun _ _ _ h => h) (Or.inl ⟨by kernel_rfl, ?_⟩) hS2 ?_
            rotate_left 1
            · intro W hW
              obtain ⟨hW0, hW1, hW2, hW3, hW4⟩ := hW
              go_simp
              with_reducible rfl
            refine wpAnyH_take (i := 21) (oi := ⟨some 41, _, _, _, _, _⟩) (v := ?_) rfl (by kernel_rfl) (by kernel_rfl) (by kernel_rfl) (fun _ _ _ h => h) (Or.inl ⟨by kernel_rfl, ?_⟩) hS2 ?_
            rotate_left 1
            · intro W hW
              obtain ⟨hW0, hW1, hW2, hW3, hW4⟩ := hW
              go_simp
              with_reducible rfl
            refine wpAnyH_take (i := 22) (oi := ⟨some 42, _, _, _, _, _⟩) (v := ?_) rfl (by kernel_rfl) (by kernel_rfl) (by kernel_rfl) (fun _ _ _ h => h) (Or.inl ⟨by kernel_rfl, ?_⟩) hS2 ?_
            rotate_left 1
            · intro W hW
              obtain ⟨hW0, hW1, hW2, hW3, hW4⟩ := hW
              go_simp
              with_reducible rfl
            refine wpAnyH_take (i := 23) (oi := ⟨some 43, _, _, _, _, _⟩) (v := undef) rfl (by kernel_rfl) (by kernel_rfl) (by kernel_rfl) (fun _ _ _ h => h) (Or.inr ⟨by kernel_rfl, rfl⟩) hS2 ?_
            refine wpAnyH_take (i := 24) (oi := ⟨some 44, _, _, _, _, _⟩) (v := undef) rfl (by kernel_rfl) (by kernel_rfl) (by kernel_rfl) (fun _ _ _ h => h) (Or.inr ⟨by kernel_rfl, rfl⟩) hS2 ?_
            refine wpAnyH_take (i := 25) (oi := ⟨some 45, _, _, _, _, _⟩) (v := undef) rfl (by kernel_rfl) (by kernel_rfl) (by kernel_rfl) (fun _ _ _ h => h) (Or.inr ⟨by kernel_rfl, rfl⟩) hS2 ?_
            refine wpAnyH_take (i := 26) (oi := ⟨some 46, _, _, _, _, _⟩) (v := ?_) rfl (by kernel_rfl) (by kernel_rfl) (by kernel_rfl) (fun _ _ _ h => h) (Or.inl ⟨by kernel_rfl, ?_⟩) hS2 ?_
            rotate_left 1
            · intro W hW
              obtain ⟨hW0, hW1, hW2, hW3, hW4⟩ := hW
              go_simp
              with_reducible rfl
            refine wpAnyH_take (i := 27) (oi := ⟨some 47, _, _, _, _, _⟩) (v := ?_) rfl (by kernel_rfl) (by kernel_rfl) (by kernel_rfl) (fun _ _ _ h => h) (Or.inl ⟨by kernel_rfl, ?_⟩) hS2 ?_
            rotate_left 1
            · intro W hW
              obtain ⟨hW0, hW1, hW2, hW3, hW4⟩ := hW
              go_simp
              with_reducible rfl
            refine wpAnyH_done (by kernel_rfl) ?_ _
            have hbx := bel_via hbz hbf
            clear hS0 hS1 hS2 hSa hba hbb hbd hbe hbf qh hbz
            simp only [Act.put, List.setIfInBounds_toArray, List.set_cons_succ, List.set_cons_zero]
            go_wp2_with fail
            go_ret
            exact ⟨by rw [HQ.out]; simp [HN.out, hE1], hbx⟩
          | true =>
            refine wp_region_held (S := (fun w' => Below W4.heap.size W4 w' ∧ w'.cell? ⟨W.heap.size, 5, none⟩ = some (.int .i64 n5) ∧ w'.cell? ⟨W.heap.size, 6, none⟩ = some (.string n6) ∧ w'.cell? ⟨W.heap.size, 7, none⟩ = some (.bool true) ∧ w'.cell? ⟨SB, 1, none⟩ = some (.int .i64 spr))) (by kernel_rfl) ?_
            change wpAnyH _ _ _ _ _ _ _ _ (World.drew _)
            have hbd : Below W4.heap.size W4 W4.drew := Below.dr (Below.refl _ _)
            have hS0 : (Below W4.heap.size W4 W4.drew ∧ W4.drew.cell? ⟨W.heap.size, 5, none⟩ = some (.int .i64 n5) ∧ W4.drew.cell? ⟨W.heap.size, 6, none⟩ = some (.string n6) ∧ W4.drew.cell? ⟨W.heap.size, 7, none⟩ = some (.bool true) ∧ W4.drew.cell? ⟨SB, 1, none⟩ = some (.int .i64 spr)) := ⟨hbd, keepc hbd u5, keepc hbd u6, keepc hbd u7, keepc hbd hsp⟩
            generalize W4.drew = wd at hS0 hbd ⊢
            refine wpAnyH_take (i := 1) (oi := ⟨some 21, _, _, _, _, _⟩) (v := ?_) rfl (by kernel_rfl) (by kernel_rfl) (by kernel_rfl) (fun _ _ _ h => h) (Or.inl ⟨by kernel_rfl, ?_⟩) hS0 ?_
            rotate_left 1
            · intro W hW
              obtain ⟨hW0, hW1, hW2, hW3, hW4⟩ := hW
              go_simp
              with_reducible rfl
            refine wpAnyH_take (i := 2) (oi := ⟨some 22, _, _, _, _, _⟩) (v := ?_) rfl (by kernel_rfl) (by kernel_rfl) (by kernel_rfl) (fun _ _ _ h => h) (Or.inl ⟨by kernel_rfl, ?_⟩) hS0 ?_
            rotate_left 1
            · intro W hW
              obtain ⟨hW0, hW1, hW2, hW3, hW4⟩ := hW
              go_simp
              with_reducible rfl
            refine wpAnyH_ready (rs := [0]) (by kernel_rfl) (by simp) ?_
            refine AllReadyH.cons rfl (fun K hK => ?_) AllReadyH.nil
            go_simp
            go_at_call 75
            refine (act_any _).mono ?_
            rintro e wa ⟨g, gn, gc, rfl, hSa, hba⟩
            have hbe := bel_via hbd hba
            have hS1 : (Below W4.heap.size W4 wa ∧ wa.cell? ⟨W.heap.size, 5, none⟩ = some (.int .i64 n5) ∧ wa.cell? ⟨W.heap.size, 6, none⟩ = some (.string n6) ∧ wa.cell? ⟨W.heap.size, 7, none⟩ = some (.bool true) ∧ wa.cell? ⟨SB, 1, none⟩ = some (.int .i64 spr)) := ⟨hbe, keepc hbe u5, keepc hbe u6, keepc hbe u7, keepc hbe hsp⟩
            refine hK.out _ _ hS1 (fun _ => ?_)
            clear hK K
            refine wpAnyH_ready (rs := [3]) (by kernel_rfl) (by simp) ?_
            refine AllReadyH.cons rfl (fun K hK => ?_) AllReadyH.nil
            go_simp
            go_at_call 74
            refine (qh _ _ _ _ hSa).mono ?_
            rintro e wb ⟨rfl, hbb⟩
            have hbf := bel_via hbe hbb
            have hS2 : (Below W4.heap.size W4 wb ∧ wb.cell? ⟨W.heap.size, 5, none⟩ = some (.int .i64 n5) ∧ wb.cell? ⟨W.heap.size, 6, none⟩ = some (.string n6) ∧ wb.cell? ⟨W.heap.size, 7, none⟩ = some (.bool true) ∧ wb.cell? ⟨SB, 1, none⟩ = some (.int .i64 spr)) := ⟨hbf, keepc hbf u5, keepc hbf u6, keepc hbf u7, keepc hbf hsp⟩
            refine hK.out _ _ hS2 (fun _ => ?_)
            clear hK K
            refine wpAnyH_take (i := 4) (oi := ⟨some 24, _, _, _, _, _⟩) (v := ?_) rfl (by kernel_rfl) (by kernel_rfl) (by kernel_rfl) (fun _ _ _ h => h) (Or.inl ⟨by kernel_rfl, ?_⟩) hS2 ?_
            rotate_left 1
            · intro W hW
              obtain ⟨hW0, hW1, hW2, hW3, hW4⟩ := hW
              go_simp
              with_reducible rfl
            refine wpAnyH_take (i := 5) (oi := ⟨some 25, _, _, _, _, _⟩) (v := ?_) rfl (by kernel_rfl) (by kernel_rfl) (by kernel_rfl) (fun _ _ _ h => h) (Or.inl ⟨by kernel_rfl, ?_⟩) hS2 ?_
            rotate_left 1
            · intro W hW
              obtain ⟨hW0, hW1, hW2, hW3, hW4⟩ := hW
              go_simp
              with_reducible rfl
            refine wpAnyH_take (i := 6) (oi := ⟨some 26, _, _, _, _, _⟩) (v := ?_) rfl (by kernel_rfl) (by kernel_rfl) (by kernel_rfl) (fun _ _ _ h => h) (Or.inl ⟨by kernel_rfl, ?_⟩) hS2 ?_
            rotate_left 1
            · intro W hW
              obtain ⟨hW0, hW1, hW2, hW3, hW4⟩ := hW
              go_simp
              with_reducible rfl
            refine wpAnyH_take (i := 7) (oi := ⟨some 27, _, _, _, _, _⟩) (v := ?_) rfl (by kernel_rfl) (by kernel_rfl) (by kernel_rfl) (fun _ _ _ h => h) (Or.inl ⟨by kernel_rfl, ?_⟩) hS2 ?_
            rotate_left 1
            · intro W hW
              obtain ⟨hW0, hW1, hW2, hW3, hW4⟩ := hW
              go_simp
              with_reducible rfl
            refine wpAnyH_take (i := 8) (oi := ⟨some 28, _, _, _, _, _⟩) (v := ?_) rfl (by kernel_rfl) (by kernel_rfl) (by kernel_rfl) (fun _ _ _ h => h) (Or.inl ⟨by kernel_rfl, ?_⟩) hS2 ?_
            rotate_left 1
            · intro W hW
              obtain ⟨hW0, hW1, hW2, hW3, hW4⟩ := hW
              go_simp
              with_reducible rfl
            refine wpAnyH_take (i := 9) (oi := ⟨some 29, _, _, _, _, _⟩) (v := ?_) rfl (by kernel_rfl) (by kernel_rfl) (by kernel_rfl) (fun _ _ _ h => h) (Or.inl ⟨by kernel_rfl, ?_⟩) hS2 ?_
            rotate_left 1
            · intro W hW
              obtain ⟨hW0, hW1, hW2, hW3, hW4⟩ := hW
              go_simp
              with_reducible rfl
            refine wpAnyH_take (i := 10) (oi := ⟨some 30, _, _, _, _, _⟩) (v := ?_) rfl (by kernel_rfl) (by kernel_rfl) (by kernel_rfl) (fun _ _ _ h => h) (Or.inl ⟨by kernel_rfl, ?_⟩) hS2 ?_
            rotate_left 1
            · intro W hW
              obtain ⟨hW0, hW1, hW2, hW3, hW4⟩ := hW
              go_simp
              with_reducible rfl
            refine wpAnyH_take (i := 11) (oi := ⟨some 31, _, _, _, _, _⟩) (v := ?_) rfl (by kernel_rfl) (by kernel_rfl) (by kernel_rfl) (fun _ _ _ h => h) (Or.inl ⟨by kernel_rfl, ?_⟩) hS2 ?_
            rotate_left 1
            · intro W hW
              obtain ⟨hW0, hW1, hW2, hW3, hW4⟩ := hW
              go_simp
              with_reducible rfl
            refine wpAnyH_take (i := 12) (oi := ⟨some 32, _, _, _, _, _⟩) (v := ?_) rfl (by kernel_rfl) (by kernel_rfl) (by kernel_rfl) (fun _ _ _ h => h) (Or.inl ⟨by kernel_rfl, ?_⟩) hS2 ?_
            rotate_left 1
            · intro W hW
              obtain ⟨hW0, hW1, hW2, hW3, hW4⟩ := hW
              go_simp
              with_reducible rfl
            refine wpAnyH_take (i := 13) (oi := ⟨some 33, _, _, _, _, _⟩) (v := ?_) rfl (by kernel_rfl) (by kernel_rfl) (by kernel_rfl) (fun _ _ _ h => h) (Or.inl ⟨by kernel_rfl, ?_⟩) hS2 ?_
            rotate_left 1
            · intro W hW
              obtain ⟨hW0, hW1, hW2, hW3, hW4⟩ := hW
              go_simp
              with_reducible rfl
            refine wpAnyH_take (i := 14) (oi := ⟨some 34, _, _, _, _, _⟩) (v := ?_) rfl (by kernel_rfl) (by kernel_rfl) (by kernel_rfl) (fun _ _ _ h => h) (Or.inl ⟨by kernel_rfl, ?_⟩) hS2 ?_
            rotate_left 1
            · intro W hW
              obtain ⟨hW0, hW1, hW2, hW3, hW4⟩ := hW
              go_simp
              with_reducible rfl
            refine wpAnyH_take (i := 15) (oi := ⟨some 35, _, _, _, _, _⟩) (v := ?_) rfl (by kernel_rfl) (by kernel_rfl) (by kernel_rfl) (fun _ _ _ h => h) (Or.inl ⟨by kernel_rfl, ?_⟩) hS2 ?_
            rotate_left 1
            · intro W hW
              obtain ⟨hW0, hW1, hW2, hW3, hW4⟩ := hW
              go_simp
              with_reducible rfl
            refine wpAnyH_take (i := 16) (oi := ⟨some 36, _, _, _, _, _⟩) (v := ?_) rfl (by kernel_rfl) (by kernel_rfl) (by kernel_rfl) (fun _ _ _ h => h) (Or.inl ⟨by kernel_rfl, ?_⟩) hS2 ?_
            rotate_left 1
            · intro W hW
              obtain ⟨hW0, hW1, hW2, hW3, hW4⟩ := hW
              go_simp
              with_reducible rfl
            refine wpAnyH_take (i := 17) (oi := ⟨some 37, _, _, _, _, _⟩) (v := ?_) rfl (by kernel_rfl) (by kernel_rfl) (by kernel_rfl) (fun _ _ _ h => h) (Or.inl ⟨by kernel_rfl, ?_⟩) hS2 ?_
            rotate_left 1
            · intro W hW
              obtain ⟨hW0, hW1, hW2, hW3, hW4⟩ := hW
              go_simp
              with_reducible rfl
            refine wpAnyH_take (i := 18) (oi := ⟨some 38, _, _, _, _, _⟩) (v := ?_) rfl (by kernel_rfl) (by kernel_rfl) (by kernel_rfl) (fun _ _ _ h => h) (Or.inl ⟨by kernel_rfl, ?_⟩) hS2 ?_
            rotate_left 1
            · intro W hW
              obtain ⟨hW0, hW1, hW2, hW3, hW4⟩ := hW
              go_simp
              with_reducible rfl
            refine wpAnyH_take (i := 19) (oi := ⟨some 39, _, _, _, _, _⟩) (v := ?_) rfl (by kernel_rfl) (by kernel_rfl) (by kernel_rfl) (fun _ _ _ h => h) (Or.inl ⟨by kernel_rfl, ?_⟩) hS2 ?_
            rotate_left 1
            · intro W hW
              obtain ⟨hW0, hW1, hW2, hW3, hW4⟩ := hW
              go_simp
              with_reducible rfl
            refine wpAnyH_take (i := 20) (oi := ⟨some 40, _, _, _, _, _⟩) (v := undef) rfl (by kernel_rfl) (by kernel_rfl) (by kernel_rfl) (fun _ _ _ h => h) (Or.inr ⟨by kernel_rfl, rfl⟩) hS2 ?_
            refine wpAnyH_take (i := 21) (oi := ⟨some 41, _, _, _, _, _⟩) (v := undef) rfl (by kernel_rfl) (by kernel_rfl) (by kernel_rfl) (fun _ _ _ h => h) (Or.inr ⟨by kernel_rfl, rfl⟩) hS2 ?_
            refine wpAnyH_take (i := 22) (oi := ⟨some 42, _, _, _, _, _⟩) (v := undef) rfl (by kernel_rfl) (by kernel_rfl) (by kernel_rfl) (fun _ _ _ h => h) (Or.inr ⟨by kernel_rfl, rfl⟩) hS2 ?_
            refine wpAnyH_take (i := 23) (oi := ⟨some 43, _, _, _, _, _⟩) (v := undef) rfl (by kernel_rfl) (by kernel_rfl) (by kernel_rfl) (fun _ _ _ h => h) (Or.inr ⟨by kernel_rfl, rfl⟩) hS2 ?_
            refine wpAnyH_take (i := 24) (oi := ⟨some 44, _, _, _, _, _⟩) (v := undef) rfl (by kernel_rfl) (by kernel_rfl) (by kernel_rfl) (fun _ _ _ h => h) (Or.inr ⟨by kernel_rfl, rfl⟩) hS2 ?_
            refine wpAnyH_take (i := 25) (oi := ⟨some 45, _, _, _, _, _⟩) (v := undef) rfl (by kernel_rfl) (by kernel_rfl) (by kernel_rfl) (fun _ _ _ h => h) (Or.inr ⟨by kernel_rfl, rfl⟩) hS2 ?_
            refine wpAnyH_take (i := 26) (oi := ⟨some 46, _, _, _, _, _⟩) (v := undef) rfl (by kernel_rfl) (by kernel_rfl) (by kernel_rfl) (fun _ _ _ h => h) (Or.inr ⟨by kernel_rfl, rfl⟩) hS2 ?_
            refine wpAnyH_take (i := 27) (oi := ⟨some 47, _, _, _, _, _⟩) (v := ?_) rfl (by kernel_rfl) (by kernel_rfl) (by kernel_rfl) (fun _ _ _ h => h) (Or.inl ⟨by kernel_rfl, ?_⟩) hS2 ?_
            rotate_left 1
            · intro W hW
              obtain ⟨hW0, hW1, hW2, hW3, hW4⟩ := hW
              go_simp
              with_reducible rfl
            refine wpAnyH_done (by kernel_rfl) ?_ _
            have hbx := bel_via hbz hbf
            clear hS0 hS1 hS2 hSa hba hbb hbd hbe hbf qh hbz
            simp only [Act.put, List.setIfInBounds_toArray, List.set_cons_succ, List.set_cons_zero]
            go_wp2_with fail
            go_ret
            exact ⟨by rw [HQ.out]; simp [HN.out, hE1], hbx⟩
        · have hE1 : n6.toList.isEmpty = false := by simpa using hE
          have hE2 : (n6.toList == []) = false := by simp [hE]
          have hE3 : (n6.toList != []) = true := by simp [hE]
          refine wp_region_held (S := (fun w' => Below W4.heap.size W4 w' ∧ w'.cell? ⟨W.heap.size, 5, none⟩ = some (.int .i64 n5) ∧ w'.cell? ⟨W.heap.size, 6, none⟩ = some (.string n6) ∧ w'.cell? ⟨W.heap.size, 7, none⟩ = some (.bool n7) ∧ w'.cell? ⟨SB, 1, none⟩ = some (.int .i64 spr))) (by kernel_rfl) ?_
          change wpAnyH _ _ _ _ _ _ _ _ (World.drew _)
          have hbd : Below W4.heap.size W4 W4.drew := Below.dr (Below.refl _ _)
          have hS0 : (Below W4.heap.size W4 W4.drew ∧ W4.drew.cell? ⟨W.heap.size, 5, none⟩ = some (.int .i64 n5) ∧ W4.drew.cell? ⟨W.heap.size, 6, none⟩ = some (.string n6) ∧ W4.drew.cell? ⟨W.heap.size, 7, none⟩ = some (.bool n7) ∧ W4.drew.cell? ⟨SB, 1, none⟩ = some (.int .i64 spr)) := ⟨hbd, keepc hbd u5, keepc hbd u6, keepc hbd u7, keepc hbd hsp⟩
          generalize W4.drew = wd at hS0 hbd ⊢
          refine wpAnyH_take (i := 1) (oi := ⟨some 21, _, _, _, _, _⟩) (v := ?_) rfl (by kernel_rfl) (by kernel_rfl) (by kernel_rfl) (fun _ _ _ h => h) (Or.inl ⟨by kernel_rfl, ?_⟩) hS0 ?_
          rotate_left 1
          · intro W hW
            obtain ⟨hW0, hW1, hW2, hW3, hW4⟩ := hW
            go_simp
            with_reducible rfl
          refine wpAnyH_take (i := 2) (oi := ⟨some 22, _, _, _, _, _⟩) (v := ?_) rfl (by kernel_rfl) (by kernel_rfl) (by kernel_rfl) (fun _ _ _ h => h) (Or.inl ⟨by kernel_rfl, ?_⟩) hS0 ?_
          rotate_left 1
          · intro W hW
            obtain ⟨hW0, hW1, hW2, hW3, hW4⟩ := hW
            go_simp
            with_reducible rfl
          refine wpAnyH_ready (rs := [0]) (by kernel_rfl) (by simp) ?_
          refine AllReadyH.cons rfl (fun K hK => ?_) AllReadyH.nil
          go_simp
          go_at_call 75
          refine (act_any _).mono ?_
          rintro e wa ⟨g, gn, gc, rfl, hSa, hba⟩
          have hbe := bel_via hbd hba
          have hS1 : (Below W4.heap.size W4 wa ∧ wa.cell? ⟨W.heap.size, 5, none⟩ = some (.int .i64 n5) ∧ wa.cell? ⟨W.heap.size, 6, none⟩ = some (.string n6) ∧ wa.cell? ⟨W.heap.size, 7, none⟩ = some (.bool n7) ∧ wa.cell? ⟨SB, 1, none⟩ = some (.int .i64 spr)) := ⟨hbe, keepc hbe u5, keepc hbe u6, keepc hbe u7, keepc hbe hsp⟩
          refine hK.out _ _ hS1 (fun _ => ?_)
          clear hK K
          refine wpAnyH_ready (rs := [3]) (by kernel_rfl) (by simp) ?_
          refine AllReadyH.cons rfl (fun K hK => ?_) AllReadyH.nil
          go_simp
          go_at_call 74
          refine (qh _ _ _ _ hSa).mono ?_
          rintro e wb ⟨rfl, hbb⟩
          have hbf := bel_via hbe hbb
          have hS2 : (Below W4.heap.size W4 wb ∧ wb.cell? ⟨W.heap.size, 5, none⟩ = some (.int .i64 n5) ∧ wb.cell? ⟨W.heap.size, 6, none⟩ = some (.string n6) ∧ wb.cell? ⟨W.heap.size, 7, none⟩ = some (.bool n7) ∧ wb.cell? ⟨SB, 1, none⟩ = some (.int .i64 spr)) := ⟨hbf, keepc hbf u5, keepc hbf u6, keepc hbf u7, keepc hbf hsp⟩
          refine hK.out _ _ hS2 (fun _ => ?_)
          clear hK K
          refine wpAnyH_take (i := 4) (oi := ⟨some 24, _, _, _, _, _⟩) (v := ?_) rfl (by kernel_rfl) (by kernel_rfl) (by kernel_rfl) (fun _ _ _ h => h) (Or.inl ⟨by kernel_rfl, ?_⟩) hS2 ?_
          rotate_left 1
          · intro W hW
            obtain ⟨hW0, hW1, hW2, hW3, hW4⟩ := hW
            go_simp
            with_reducible rfl
          refine wpAnyH_take (i := 5) (oi := ⟨some 25, _, _, _, _, _⟩) (v := ?_) rfl (by kernel_rfl) (by kernel_rfl) (by kernel_rfl) (fun _ _ _ h => h) (Or.inl ⟨by kernel_rfl, ?_⟩) hS2 ?_
          rotate_left 1
          · intro W hW
            obtain ⟨hW0, hW1, hW2, hW3, hW4⟩ := hW
            go_simp
            with_reducible rfl
          refine wpAnyH_take (i := 6) (oi := ⟨some 26, _, _, _, _, _⟩) (v := ?_) rfl (by kernel_rfl) (by kernel_rfl) (by kernel_rfl) (fun _ _ _ h => h) (Or.inl ⟨by kernel_rfl, ?_⟩) hS2 ?_
          rotate_left 1
          · intro W hW
            obtain ⟨hW0, hW1, hW2, hW3, hW4⟩ := hW
            go_simp
            with_reducible rfl
          refine wpAnyH_take (i := 7) (oi := ⟨some 27, _, _, _, _, _⟩) (v := ?_) rfl (by kernel_rfl) (by kernel_rfl) (by kernel_rfl) (fun _ _ _ h => h) (Or.inl ⟨by kernel_rfl, ?_⟩) hS2 ?_
          rotate_left 1
          · intro W hW
            obtain ⟨hW0, hW1, hW2, hW3, hW4⟩ := hW
            go_simp
            with_reducible rfl
          refine wpAnyH_take (i := 8) (oi := ⟨some 28, _, _, _, _, _⟩) (v := ?_) rfl (by kernel_rfl) (by kernel_rfl) (by kernel_rfl) (fun _ _ _ h => h) (Or.inl ⟨by kernel_rfl, ?_⟩) hS2 ?_
          rotate_left 1
          · intro W hW
            obtain ⟨hW0, hW1, hW2, hW3, hW4⟩ := hW
            go_simp
            with_reducible rfl
          refine wpAnyH_take (i := 9) (oi := ⟨some 29, _, _, _, _, _⟩) (v := ?_) rfl (by kernel_rfl) (by kernel_rfl) (by kernel_rfl) (fun _ _ _ h => h) (Or.inl ⟨by kernel_rfl, ?_⟩) hS2 ?_
          rotate_left 1
          · intro W hW
            obtain ⟨hW0, hW1, hW2, hW3, hW4⟩ := hW
            go_simp
            with_reducible rfl
          refine wpAnyH_take (i := 10) (oi := ⟨some 30, _, _, _, _, _⟩) (v := ?_) rfl (by kernel_rfl) (by kernel_rfl) (by kernel_rfl) (fun _ _ _ h => h) (Or.inl ⟨by kernel_rfl, ?_⟩) hS2 ?_
          rotate_left 1
          · intro W hW
            obtain ⟨hW0, hW1, hW2, hW3, hW4⟩ := hW
            go_simp
            with_reducible rfl
          refine wpAnyH_take (i := 11) (oi := ⟨some 31, _, _, _, _, _⟩) (v := ?_) rfl (by kernel_rfl) (by kernel_rfl) (by kernel_rfl) (fun _ _ _ h => h) (Or.inl ⟨by kernel_rfl, ?_⟩) hS2 ?_
          rotate_left 1
          · intro W hW
            obtain ⟨hW0, hW1, hW2, hW3, hW4⟩ := hW
            go_simp
            with_reducible rfl
          refine wpAnyH_take (i := 12) (oi := ⟨some 32, _, _, _, _, _⟩) (v := ?_) rfl (by kernel_rfl) (by kernel_rfl) (by kernel_rfl) (fun _ _ _ h => h) (Or.inl ⟨by kernel_rfl, ?_⟩) hS2 ?_
          rotate_left 1
          · intro W hW
            obtain ⟨hW0, hW1, hW2, hW3, hW4⟩ := hW
            go_simp
            with_reducible rfl
          refine wpAnyH_take (i := 13) (oi := ⟨some 33, _, _, _, _, _⟩) (v := ?_) rfl (by kernel_rfl) (by kernel_rfl) (by kernel_rfl) (fun _ _ _ h => h) (Or.inl ⟨by kernel_rfl, ?_⟩) hS2 ?_
          rotate_left 1
          · intro W hW
            obtain ⟨hW0, hW1, hW2, hW3, hW4⟩ := hW
            go_simp
            with_reducible rfl
          refine wpAnyH_take (i := 14) (oi := ⟨some 34, _, _, _, _, _⟩) (v := undef) rfl (by kernel_rfl) (by kernel_rfl) (by kernel_rfl) (fun _ _ _ h => h) (Or.inr ⟨by kernel_rfl, rfl⟩) hS2 ?_
          refine wpAnyH_take (i := 15) (oi := ⟨some 35, _, _, _, _, _⟩) (v := undef) rfl (by kernel_rfl) (by kernel_rfl) (by kernel_rfl) (fun _ _ _ h => h) (Or.inr ⟨by kernel_rfl, rfl⟩) hS2 ?_
          refine wpAnyH_take (i := 16) (oi := ⟨some 36, _, _, _, _, _⟩) (v := ?_) rfl (by kernel_rfl) (by kernel_rfl) (by kernel_rfl) (fun _ _ _ h => h) (Or.inl ⟨by kernel_rfl, ?_⟩) hS2 ?_
          rotate_left 1
          · intro W hW
            obtain ⟨hW0, hW1, hW2, hW3, hW4⟩ := hW
            go_simp
            with_reducible rfl
          refine wpAnyH_take (i := 17) (oi := ⟨some 37, _, _, _, _, _⟩) (v := ?_) rfl (by kernel_rfl) (by kernel_rfl) (by kernel_rfl) (fun _ _ _ h => h) (Or.inl ⟨by kernel_rfl, ?_⟩) hS2 ?_
          rotate_left 1
          · intro W hW
            obtain ⟨hW0, hW1, hW2, hW3, hW4⟩ := hW
            go_simp
            with_reducible rfl
          refine wpAnyH_take (i := 18) (oi := ⟨some 38, _, _, _, _, _⟩) (v := ?_) rfl (by kernel_rfl) (by kernel_rfl) (by kernel_rfl) (fun _ _ _ h => h) (Or.inl ⟨by kernel_rfl, ?_⟩) hS2 ?_
          rotate_left 1
          · intro W hW
            obtain ⟨hW0, hW1, hW2, hW3, hW4⟩ := hW
            go_simp
            with_reducible rfl
          refine wpAnyH_take (i := 19) (oi := ⟨some 39, _, _, _, _, _⟩) (v := ?_) rfl (by kernel_rfl) (by kernel_rfl) (by kernel_rfl) (fun _ _ _ h => h) (Or.inl ⟨by kernel_rfl, ?_⟩) hS2 ?_
          rotate_left 1
          · intro W hW
            obtain ⟨hW0, hW1, hW2, hW3, hW4⟩ := hW
            go_simp
            with_reducible rfl
          refine wpAnyH_take (i := 20) (oi := ⟨some 40, _, _, _, _, _⟩) (v := undef) rfl (by kernel_rfl) (by kernel_rfl) (by kernel_rfl) (fun _ _ _ h => h) (Or.inr ⟨by kernel_rfl, rfl⟩) hS2 ?_
          refine wpAnyH_take (i := 21) (oi := ⟨some 41, _, _, _, _, _⟩) (v := undef) rfl (by kernel_rfl) (by kernel_rfl) (by kernel_rfl) (fun _ _ _ h => h) (Or.inr ⟨by kernel_rfl, rfl⟩) hS2 ?_
          refine wpAnyH_take (i := 22) (oi := ⟨some 42, _, _, _, _, _⟩) (v := undef) rfl (by kernel_rfl) (by kernel_rfl) (by kernel_rfl) (fun _ _ _ h => h) (Or.inr ⟨by kernel_rfl, rfl⟩) hS2 ?_
          refine wpAnyH_take (i := 23) (oi := ⟨some 43, _, _, _, _, _⟩) (v := undef) rfl (by kernel_rfl) (by kernel_rfl) (by kernel_rfl) (fun _ _ _ h => h) (Or.inr ⟨by kernel_rfl, rfl⟩) hS2 ?_
          refine wpAnyH_take (i := 24) (oi := ⟨some 44, _, _, _, _, _⟩) (v := undef) rfl (by kernel_rfl) (by kernel_rfl) (by kernel_rfl) (fun _ _ _ h => h) (Or.inr ⟨by kernel_rfl, rfl⟩) hS2 ?_
          refine wpAnyH_take (i := 25) (oi := ⟨some 45, _, _, _, _, _⟩) (v := undef) rfl (by kernel_rfl) (by kernel_rfl) (by kernel_rfl) (fun _ _ _ h => h) (Or.inr ⟨by kernel_rfl, rfl⟩) hS2 ?_
          refine wpAnyH_take (i := 26) (oi := ⟨some 46, _, _, _, _, _⟩) (v := undef) rfl (by kernel_rfl) (by kernel_rfl) (by kernel_rfl) (fun _ _ _ h => h) (Or.inr ⟨by kernel_rfl, rfl⟩) hS2 ?_
          refine wpAnyH_take (i := 27) (oi := ⟨some 47, _, _, _, _, _⟩) (v := ?_) rfl (by kernel_rfl) (by kernel_rfl) (by kernel_rfl) (fun _ _ _ h => h) (Or.inl ⟨by kernel_rfl, ?_⟩) hS2 ?_
          rotate_left 1
          · intro W hW
            obtain ⟨hW0, hW1, hW2, hW3, hW4⟩ := hW
            go_simp
            with_reducible rfl
          refine wpAnyH_done (by kernel_rfl) ?_ _
          have hbx := bel_via hbz hbf
          clear hS0 hS1 hS2 hSa hba hbb hbd hbe hbf qh hbz
          simp only [Act.put, List.setIfInBounds_toArray, List.set_cons_succ, List.set_cons_zero]
          go_wp2_with fail
          go_ret
          exact ⟨by rw [HQ.out]; simp [HN.out, hE1], hbx⟩
end Go.Proofs.YtmnnjkdmnfadhaaGreatDoor
