/- The checks of a configuration, kind by kind, by what their closures answer; by-name template (gen_lcheck.py). -/
import Derived.Test.YtmnnjkdmnfadhaaGreatDoorLNames
namespace Go.Proofs.YtmnnjkdmnfadhaaGreatDoor
open Go.Shelf Go.RowKit Go.Lib Go.Sort
set_option linter.unusedVariables false
set_option linter.unusedSimpArgs false

/-- A configuration's block. -/
structure CfB (W : World) (B : Nat) (c : CF) : Prop where
  c0 : W.cell? ⟨B, 0, none⟩ = some (.slice c.zA c.zn c.zc)
  c1 : W.cell? ⟨B, 1, none⟩ = some (.slice c.oA c.on c.oc)
  c2 : W.cell? ⟨B, 2, none⟩ = some (.slice c.sA c.sn c.sc)
  c3 : W.cell? ⟨B, 3, none⟩ = some (.slice c.lA c.ln c.lc)
  c4 : W.cell? ⟨B, 4, none⟩ = some (.slice c.tA c.tn c.tc)
  c5 : W.cell? ⟨B, 5, none⟩ = some (.slice c.nA c.nn c.nc)
  c6 : W.cell? ⟨B, 6, none⟩ = some (.slice c.uA c.un c.uc)
  c7 : W.cell? ⟨B, 7, none⟩ = some (.int .i64 c.dflt)
theorem CfB.keep {W W' : World} {B : Nat} {c : CF} (h : CfB W B c) (hb : Below W.heap.size W W') : CfB W' B c :=
  ⟨keepc hb h.c0, keepc hb h.c1, keepc hb h.c2, keepc hb h.c3, keepc hb h.c4, keepc hb h.c5, keepc hb h.c6, keepc hb h.c7⟩
theorem CfB.made (w : World) (c : CF) : CfB (w.alloc (.cells (cfc c) 30)) w.heap.size c := by
  constructor <;> simp [cfc, go_sem]
/-- The lists end where they may. -/
structure CF.Cap (c : CF) : Prop where
  z : c.zn ≤ c.zc
  o : c.on ≤ c.oc
  s : c.sn ≤ c.sc
  l : c.ln ≤ c.lc
  t : c.tn ≤ c.tc
  n : c.nn ≤ c.nc
  u : c.un ≤ c.uc

theorem czon_any (c : CF) (chk : ZR → List ZR → Int) {w : World} (hc : c.Ok w) (hcap : c.Cap) (hn : ∀ x ∈ c.zs, x.nm.size ≤ 9223372036854775807)
    (hk : ∀ W j x, c.zs[j]? = some x → Below w.heap.size w W → Calls Tryz.prog 41 #[.agg (zrc x).toArray, .slice c.zA j c.zc] W fun e w' => e = .returned (.int .i64 (chk x (c.zs.take j))) ∧ Below W.heap.size W w') :
    Calls Tryz.prog 14 #[.agg (cfc c)] w fun e w' => e = .returned (.int .i64 (firstP (chkN (·.nm) chk) c.zs)) ∧ Below w.heap.size w w' := by
  have b1 : Below w.heap.size w (w.alloc (.cells (cfc c) 30)) := Below.al (Below.refl _ _) _
  have cc := named_zon chk c.zA c.zn c.zc c.zs hn (hc.z.keep b1) hcap.z (fun W j x hj hW => hk W j x hj (bel_via b1 hW))
  generalize firstP (chkN (·.nm) chk) c.zs = R at *
  clear hc hcap hn hk
  simp only [cfc] at *
  go_enter Tryz.func14, Tryz.ntmps14
  go_wp2_with (go_at_call 39; with_reducible refine cc.mono ?_; rintro e w' ⟨rfl, hb'⟩)
  go_ret
  exact ⟨rfl, bel_via b1 hb'⟩

theorem cobj_any (c : CF) (chk : OR → List OR → Int) {w : World} (hc : c.Ok w) (hcap : c.Cap) (hn : ∀ x ∈ c.os, x.nm.size ≤ 9223372036854775807)
    (hk : ∀ W j x, c.os[j]? = some x → Below w.heap.size w W → Calls Tryz.prog 49 #[.agg (orc x).toArray, .slice c.oA j c.oc] W fun e w' => e = .returned (.int .i64 (chk x (c.os.take j))) ∧ Below W.heap.size W w') :
    Calls Tryz.prog 15 #[.agg (cfc c)] w fun e w' => e = .returned (.int .i64 (firstP (chkN (·.nm) chk) c.os)) ∧ Below w.heap.size w w' := by
  have b1 : Below w.heap.size w (w.alloc (.cells (cfc c) 30)) := Below.al (Below.refl _ _) _
  have cc := named_obj chk c.oA c.on c.oc c.os hn (hc.o.keep b1) hcap.o (fun W j x hj hW => hk W j x hj (bel_via b1 hW))
  generalize firstP (chkN (·.nm) chk) c.os = R at *
  clear hc hcap hn hk
  simp only [cfc] at *
  go_enter Tryz.func15, Tryz.ntmps15
  go_wp2_with (go_at_call 47; with_reducible refine cc.mono ?_; rintro e w' ⟨rfl, hb'⟩)
  go_ret
  exact ⟨rfl, bel_via b1 hb'⟩

theorem csrv_any (c : CF) (chk : SR → List SR → Int) {w : World} (hc : c.Ok w) (hcap : c.Cap) (hn : ∀ x ∈ c.ss, x.nm.size ≤ 9223372036854775807)
    (hk : ∀ W j x, c.ss[j]? = some x → Below w.heap.size w W → Calls Tryz.prog 55 #[.agg (src x).toArray, .slice c.sA j c.sc] W fun e w' => e = .returned (.int .i64 (chk x (c.ss.take j))) ∧ Below W.heap.size W w') :
    Calls Tryz.prog 16 #[.agg (cfc c)] w fun e w' => e = .returned (.int .i64 (firstP (chkN (·.nm) chk) c.ss)) ∧ Below w.heap.size w w' := by
  have b1 : Below w.heap.size w (w.alloc (.cells (cfc c) 30)) := Below.al (Below.refl _ _) _
  have cc := named_srv chk c.sA c.sn c.sc c.ss hn (hc.s.keep b1) hcap.s (fun W j x hj hW => hk W j x hj (bel_via b1 hW))
  generalize firstP (chkN (·.nm) chk) c.ss = R at *
  clear hc hcap hn hk
  simp only [cfc] at *
  go_enter Tryz.func16, Tryz.ntmps16
  go_wp2_with (go_at_call 53; with_reducible refine cc.mono ?_; rintro e w' ⟨rfl, hb'⟩)
  go_ret
  exact ⟨rfl, bel_via b1 hb'⟩

theorem clim_any (c : CF) (chk : LR → List LR → Int) {w : World} (hc : c.Ok w) (hcap : c.Cap) (hn : ∀ x ∈ c.ls, x.nm.size ≤ 9223372036854775807)
    (hk : ∀ W j x, c.ls[j]? = some x → Below w.heap.size w W → Calls Tryz.prog 59 #[.agg (lrc x).toArray, .slice c.lA j c.lc] W fun e w' => e = .returned (.int .i64 (chk x (c.ls.take j))) ∧ Below W.heap.size W w') :
    Calls Tryz.prog 17 #[.agg (cfc c)] w fun e w' => e = .returned (.int .i64 (firstP (chkN (·.nm) chk) c.ls)) ∧ Below w.heap.size w w' := by
  have b1 : Below w.heap.size w (w.alloc (.cells (cfc c) 30)) := Below.al (Below.refl _ _) _
  have cc := named_lim chk c.lA c.ln c.lc c.ls hn (hc.l.keep b1) hcap.l (fun W j x hj hW => hk W j x hj (bel_via b1 hW))
  generalize firstP (chkN (·.nm) chk) c.ls = R at *
  clear hc hcap hn hk
  simp only [cfc] at *
  go_enter Tryz.func17, Tryz.ntmps17
  go_wp2_with (go_at_call 57; with_reducible refine cc.mono ?_; rintro e w' ⟨rfl, hb'⟩)
  go_ret
  exact ⟨rfl, bel_via b1 hb'⟩

theorem erte1 : ∀ args w, (callFunc 61 args).run Tryz.prog w = .ok (.enter 61 args) w := enters_of Tryz.func61 (by kernel_rfl) rfl
theorem crte_any (c : CF) (chk : TR → List TR → Int) {w : World} (hc : c.Ok w) (hcap : c.Cap)
    (hk : ∀ W j x, c.ts[j]? = some x → Below w.heap.size w W → CfB W w.heap.size c → Calls Tryz.prog 61 #[.agg (trc x).toArray, .slice c.tA j c.tc, .pointer (some ⟨w.heap.size, 0, none⟩)] W fun e w' => e = .returned (.int .i64 (chk x (c.ts.take j))) ∧ Below W.heap.size W w') :
    Calls Tryz.prog 18 #[.agg (cfc c)] w fun e w' => e = .returned (.int .i64 (firstP chk c.ts)) ∧ Below w.heap.size w w' := by
  have b1 : Below w.heap.size w (w.alloc (.cells (cfc c) 30)) := Below.al (Below.refl _ _) _
  have cc := first_rte chk 61 #[.pointer (some ⟨w.heap.size, 0, none⟩)] erte1 c.tA c.tn c.tc c.ts (hc.t.keep b1) hcap.t (fun W j x hj hW => hk W j x hj (bel_via b1 hW) ((CfB.made w c).keep hW))
  generalize firstP chk c.ts = R at *
  clear hc hcap hk
  simp only [cfc] at *
  go_enter Tryz.func18, Tryz.ntmps18
  go_wp2_with (go_at_call 60; with_reducible refine cc.mono ?_; rintro e w' ⟨rfl, hb'⟩)
  go_ret
  exact ⟨rfl, bel_via b1 hb'⟩

theorem enat1 : ∀ args w, (callFunc 66 args).run Tryz.prog w = .ok (.enter 66 args) w := enters_of Tryz.func66 (by kernel_rfl) rfl
theorem cnat_any (c : CF) (chk : NR → List NR → Int) {w : World} (hc : c.Ok w) (hcap : c.Cap)
    (hk : ∀ W j x, c.ns[j]? = some x → Below w.heap.size w W → CfB W w.heap.size c → Calls Tryz.prog 66 #[.agg (nrc x).toArray, .slice c.nA j c.nc, .pointer (some ⟨w.heap.size, 0, none⟩)] W fun e w' => e = .returned (.int .i64 (chk x (c.ns.take j))) ∧ Below W.heap.size W w') :
    Calls Tryz.prog 19 #[.agg (cfc c)] w fun e w' => e = .returned (.int .i64 (firstP chk c.ns)) ∧ Below w.heap.size w w' := by
  have b1 : Below w.heap.size w (w.alloc (.cells (cfc c) 30)) := Below.al (Below.refl _ _) _
  have cc := first_nat chk 66 #[.pointer (some ⟨w.heap.size, 0, none⟩)] enat1 c.nA c.nn c.nc c.ns (hc.n.keep b1) hcap.n (fun W j x hj hW => hk W j x hj (bel_via b1 hW) ((CfB.made w c).keep hW))
  generalize firstP chk c.ns = R at *
  clear hc hcap hk
  simp only [cfc] at *
  go_enter Tryz.func19, Tryz.ntmps19
  go_wp2_with (go_at_call 65; with_reducible refine cc.mono ?_; rintro e w' ⟨rfl, hb'⟩)
  go_ret
  exact ⟨rfl, bel_via b1 hb'⟩

theorem erul1 : ∀ args w, (callFunc 71 args).run Tryz.prog w = .ok (.enter 71 args) w := enters_of Tryz.func71 (by kernel_rfl) rfl
theorem crul_any (c : CF) (chk : UR → List UR → Int) {w : World} (hc : c.Ok w) (hcap : c.Cap)
    (hk : ∀ W j x, c.us[j]? = some x → Below w.heap.size w W → CfB W w.heap.size c → Calls Tryz.prog 71 #[.agg (urc x).toArray, .slice c.uA j c.uc, .pointer (some ⟨w.heap.size, 0, none⟩)] W fun e w' => e = .returned (.int .i64 (chk x (c.us.take j))) ∧ Below W.heap.size W w') :
    Calls Tryz.prog 20 #[.agg (cfc c)] w fun e w' => e = .returned (.int .i64 (firstP chk c.us)) ∧ Below w.heap.size w w' := by
  have b1 : Below w.heap.size w (w.alloc (.cells (cfc c) 30)) := Below.al (Below.refl _ _) _
  have cc := first_rul chk 71 #[.pointer (some ⟨w.heap.size, 0, none⟩)] erul1 c.uA c.un c.uc c.us (hc.u.keep b1) hcap.u (fun W j x hj hW => hk W j x hj (bel_via b1 hW) ((CfB.made w c).keep hW))
  generalize firstP chk c.us = R at *
  clear hc hcap hk
  simp only [cfc] at *
  go_enter Tryz.func20, Tryz.ntmps20
  go_wp2_with (go_at_call 70; with_reducible refine cc.mono ?_; rintro e w' ⟨rfl, hb'⟩)
  go_ret
  exact ⟨rfl, bel_via b1 hb'⟩

def countsP (c : CF) : Int := if 8 < c.zn ∨ 32 < c.on ∨ 32 < c.sn ∨ 16 < c.ln ∨ 16 < c.tn ∨ 16 < c.nn ∨ 48 < c.un then 64 else 0
set_option maxHeartbeats 1000000 in
theorem ccounts_any (c : CF) {w : World} : Calls Tryz.prog 13 #[.agg (cfc c)] w fun e w' => e = .returned (.int .i64 (countsP c)) ∧ Below w.heap.size w w' := by
  obtain ⟨zA, zn, zc, zs, oA, on, oc, os, sA, sn, sc, ss, lA, ln, lc, ls, tA, tn, tc, ts, nA, nn, nc, ns, uA, un, uc, us, df⟩ := c
  simp only [cfc]
  by_cases h0 : 8 < zn
  · have d0 : ((8 : Int) < (zn : Int)) := by omega
    have hr : countsP ⟨zA, zn, zc, zs, oA, on, oc, os, sA, sn, sc, ss, lA, ln, lc, ls, tA, tn, tc, ts, nA, nn, nc, ns, uA, un, uc, us, df⟩ = 64 := if_pos (by simp only []; omega)
    rw [hr]
    clear hr
    go_enter Tryz.func13, Tryz.ntmps13
    go_wp2
    go_ret
    exact ⟨rfl, Below.al (Below.refl _ _) _⟩
  · have d0 : ¬ ((8 : Int) < (zn : Int)) := by omega
    have e0 : decide (8 < zn) = false := by simp; omega
    by_cases h1 : 32 < on
    · have d1 : ((32 : Int) < (on : Int)) := by omega
      have hr : countsP ⟨zA, zn, zc, zs, oA, on, oc, os, sA, sn, sc, ss, lA, ln, lc, ls, tA, tn, tc, ts, nA, nn, nc, ns, uA, un, uc, us, df⟩ = 64 := if_pos (by simp only []; omega)
      rw [hr]
      clear hr
      go_enter Tryz.func13, Tryz.ntmps13
      go_wp2
      go_ret
      exact ⟨rfl, Below.al (Below.refl _ _) _⟩
    · have d1 : ¬ ((32 : Int) < (on : Int)) := by omega
      have e1 : decide (32 < on) = false := by simp; omega
      by_cases h2 : 32 < sn
      · have d2 : ((32 : Int) < (sn : Int)) := by omega
        have hr : countsP ⟨zA, zn, zc, zs, oA, on, oc, os, sA, sn, sc, ss, lA, ln, lc, ls, tA, tn, tc, ts, nA, nn, nc, ns, uA, un, uc, us, df⟩ = 64 := if_pos (by simp only []; omega)
        rw [hr]
        clear hr
        go_enter Tryz.func13, Tryz.ntmps13
        go_wp2
        go_ret
        exact ⟨rfl, Below.al (Below.refl _ _) _⟩
      · have d2 : ¬ ((32 : Int) < (sn : Int)) := by omega
        have e2 : decide (32 < sn) = false := by simp; omega
        by_cases h3 : 16 < ln
        · have d3 : ((16 : Int) < (ln : Int)) := by omega
          have hr : countsP ⟨zA, zn, zc, zs, oA, on, oc, os, sA, sn, sc, ss, lA, ln, lc, ls, tA, tn, tc, ts, nA, nn, nc, ns, uA, un, uc, us, df⟩ = 64 := if_pos (by simp only []; omega)
          rw [hr]
          clear hr
          go_enter Tryz.func13, Tryz.ntmps13
          go_wp2
          go_ret
          exact ⟨rfl, Below.al (Below.refl _ _) _⟩
        · have d3 : ¬ ((16 : Int) < (ln : Int)) := by omega
          have e3 : decide (16 < ln) = false := by simp; omega
          by_cases h4 : 16 < tn
          · have d4 : ((16 : Int) < (tn : Int)) := by omega
            have hr : countsP ⟨zA, zn, zc, zs, oA, on, oc, os, sA, sn, sc, ss, lA, ln, lc, ls, tA, tn, tc, ts, nA, nn, nc, ns, uA, un, uc, us, df⟩ = 64 := if_pos (by simp only []; omega)
            rw [hr]
            clear hr
            go_enter Tryz.func13, Tryz.ntmps13
            go_wp2
            go_ret
            exact ⟨rfl, Below.al (Below.refl _ _) _⟩
          · have d4 : ¬ ((16 : Int) < (tn : Int)) := by omega
            have e4 : decide (16 < tn) = false := by simp; omega
            by_cases h5 : 16 < nn
            · have d5 : ((16 : Int) < (nn : Int)) := by omega
              have hr : countsP ⟨zA, zn, zc, zs, oA, on, oc, os, sA, sn, sc, ss, lA, ln, lc, ls, tA, tn, tc, ts, nA, nn, nc, ns, uA, un, uc, us, df⟩ = 64 := if_pos (by simp only []; omega)
              rw [hr]
              clear hr
              go_enter Tryz.func13, Tryz.ntmps13
              go_wp2
              go_ret
              exact ⟨rfl, Below.al (Below.refl _ _) _⟩
            · have d5 : ¬ ((16 : Int) < (nn : Int)) := by omega
              have e5 : decide (16 < nn) = false := by simp; omega
              by_cases h6 : 48 < un
              · have d6 : ((48 : Int) < (un : Int)) := by omega
                have hr : countsP ⟨zA, zn, zc, zs, oA, on, oc, os, sA, sn, sc, ss, lA, ln, lc, ls, tA, tn, tc, ts, nA, nn, nc, ns, uA, un, uc, us, df⟩ = 64 := if_pos (by simp only []; omega)
                rw [hr]
                clear hr
                go_enter Tryz.func13, Tryz.ntmps13
                go_wp2
                go_ret
                exact ⟨rfl, Below.al (Below.refl _ _) _⟩
              · have d6 : ¬ ((48 : Int) < (un : Int)) := by omega
                have e6 : decide (48 < un) = false := by simp; omega
                have hr : countsP ⟨zA, zn, zc, zs, oA, on, oc, os, sA, sn, sc, ss, lA, ln, lc, ls, tA, tn, tc, ts, nA, nn, nc, ns, uA, un, uc, us, df⟩ = 0 := if_neg (by simp only []; omega)
                rw [hr]
                clear hr
                go_enter Tryz.func13, Tryz.ntmps13
                go_wp2
                go_ret
                exact ⟨rfl, Below.al (Below.refl _ _) _⟩
end Go.Proofs.YtmnnjkdmnfadhaaGreatDoor
