/- RulesRoutes: the walk of the law; by-name template (gen_rroutes.py). -/
import Derived.Test.YtplfmgcgniledaaRHeavy
import Derived.Test.YtplfmgcgniledaaRRoute
namespace Go.Proofs.Ytplfmgcgniledaa
open Go.Shelf Go.RowKit Go.Lib Go.Sort
set_option linter.unusedVariables false
set_option linter.unusedSimpArgs false

def FM (ah al : Int) (l : List TR) (i : Nat) (v9 v10 : Value) : Prop := (bst ah al l i = -1 ∧ v9 = .bool false ∧ v10 = .int .i64 0) ∨ (∃ (q : Nat) (u : TR), bst ah al l i = q ∧ l[q]? = some u ∧ v9 = .bool true ∧ v10 = .int .i64 u.bits)

theorem has_true {fh fl th tl ah al : Int} (h : hasI fh fl th tl ah al = true) : ¬ ah < fh ∧ ¬ (ah = fh ∧ al < fl) ∧ ¬ th < ah ∧ ¬ (ah = th ∧ tl < al) := by
  unfold hasI at h
  rw [cmpA_cases, cmpA_cases] at h
  simp only [Bool.and_eq_true, decide_eq_true_eq] at h
  obtain ⟨h1, h2⟩ := h
  refine ⟨fun g => ?_, fun g => ?_, fun g => ?_, fun g => ?_⟩
  · rw [if_neg (by omega), if_neg (by omega)] at h1; omega
  · rw [if_neg (by omega), if_neg (by omega)] at h1; omega
  · rw [if_neg (by omega), if_neg (by omega)] at h2; omega
  · rw [if_neg (by omega), if_neg (by omega)] at h2; omega
theorem has_false {fh fl th tl ah al : Int} (h : hasI fh fl th tl ah al = false) : ah < fh ∨ (ah = fh ∧ al < fl) ∨ th < ah ∨ (ah = th ∧ tl < al) := by
  unfold hasI at h
  rw [cmpA_cases, cmpA_cases] at h
  by_cases h1 : ah < fh
  · exact .inl h1
  · by_cases h2 : ah = fh ∧ al < fl
    · exact .inr (.inl h2)
    · by_cases h3 : th < ah
      · exact .inr (.inr (.inl h3))
      · by_cases h4 : ah = th ∧ tl < al
        · exact .inr (.inr (.inr h4))
        · exfalso
          have e1 : (if fh < ah ∨ fh = ah ∧ fl < al then (-1 : Int) else if fh = ah ∧ fl = al then 0 else 1) ≤ 0 := by
            split
            · omega
            · split <;> omega
          have e2 : (if ah < th ∨ ah = th ∧ al < tl then (-1 : Int) else if ah = th ∧ al = tl then 0 else 1) ≤ 0 := by
            split
            · omega
            · split <;> omega
          simp [e1, e2] at h

set_option maxHeartbeats 2000000 in
set_option maxRecDepth 100000 in
theorem routes_any (c : CF) (ah al : Int) {w : World} (hc : c.Ok w) (hf : c.Fit) :
    Calls Try.prog 4 #[.agg (cfc c), .agg #[.int .u64 ah, .int .u64 al]] w fun e w' => e = .returned (.bool true) ∧ Below w.heap.size w w' := by
  obtain ⟨w0, hw0⟩ : ∃ w0, w0 = (w.alloc (.cells (cfc c) 35)).alloc (.cells #[.int .u64 ah, .int .u64 al] 24) := ⟨_, rfl⟩
  have hb : Below w.heap.size w w0 := by rw [hw0]; exact Below.al (Below.al (Below.refl _ _) _) _
  have hC : ∀ w', Below w0.heap.size w0 w' → CfB w' w.heap.size c ∧ w'.cell? ⟨w.heap.size + 1, 0, none⟩ = some (.int .u64 ah) ∧ w'.cell? ⟨w.heap.size + 1, 1, none⟩ = some (.int .u64 al) := by
    intro w' h
    refine ⟨CfB.keep ?_ h, keepc h ?_, keepc h ?_⟩
    · rw [hw0]; exact (CfB.made w c).keep (Below.al (Below.refl _ _) _)
    · rw [hw0]; simp [go_sem, World.cell?_alloc_past]
    · rw [hw0]; simp [go_sem, World.cell?_alloc_past]
  have hok := fun (W : World) (hW : Below w0.heap.size w0 W) => (hc.keep hb).keep hW
  have ch := heavy_any c (hok w0 (Below.refl _ _)) hf
  have cd := fun W hW => route_any c ah al (hok W hW)
  have cr := fun W hW => rroute_any c ah al (hok W hW)
  have hS := hc.t.keep hb
  have hbig := hS.big
  have hlen := hS.len
  have Hlen := Lib.hid hlen
  unfold routeT at cd cr
  obtain ⟨p, hp⟩ : ∃ p, p = (routeP c ah al).1 := ⟨_, rfl⟩
  obtain ⟨z, hz⟩ : ∃ z, z = (routeP c ah al).2 := ⟨_, rfl⟩
  rw [← hp, ← hz] at cd cr
  have h1 : bst ah al c.ts c.tn = -1 → p = -1 ∧ z = -1 := fun h => by rw [hp, hz, routeP, if_pos h]; exact ⟨rfl, rfl⟩
  have h2 : ∀ (q : Nat) (u : TR), bst ah al c.ts c.tn = q → c.ts[q]? = some u → p = u.ifc ∧ z = zoneP c u.ifc := fun q u h hu => by
    rw [hp, hz, routeP, if_neg (by omega), h, show (q : Int).toNat = q from rfl, hu]; exact ⟨rfl, rfl⟩
  have H1 := Lib.hid h1
  have H2 := Lib.hid h2
  have cs := fun W hW => zone_any c p (hok W hW)
  clear hc hf hok hp hz h1 h2 hlen
  obtain ⟨⟨c0, c1, c2, c3, c4, c5, c6, c7⟩, a0, a1⟩ := hC w0 (Below.refl _ _)
  simp only [cfc] at *
  subst hw0
  go_enter Try.func4, Try.ntmps4
  go_wp2_with fail
  refine ch.mono ?_
  rintro e w1 ⟨hv, rfl, -, hb1⟩
  cases hv with
  | true =>
    go_wp2
    go_ret
    exact ⟨rfl, bel_via hb hb1⟩
  | false =>
    obtain ⟨⟨d0, d1, d2, d3, d4, d5, d6, d7⟩, e0, e1⟩ := hC w1 hb1
    have cd1 := cd w1 hb1
    clear c0 c1 c2 c3 c4 c5 c6 c7 a0 a1 cd ch
    go_wp2_with (go_at_call 12; with_reducible refine cd1.mono ?_; rintro e w2 ⟨rfl, hb2⟩; refine Hid.out ?_)
    have hb12 := bel_via hb1 hb2
    obtain ⟨⟨c0, c1, c2, c3, c4, c5, c6, c7⟩, a0, a1⟩ := hC _ hb12
    have cr1 := cr _ hb12
    clear d0 d1 d2 d3 d4 d5 d6 d7 e0 e1 cr hb2 cd1
    refine Lib.hid ?_
    go_wp2_with (go_at_call 13; with_reducible refine cr1.mono ?_; rintro e wz ⟨rfl, hb4⟩; refine Hid.out ?_)
    have hb6 := bel_via hb12 hb4
    obtain ⟨⟨d0, d1, d2, d3, d4, d5, d6, d7⟩, e0, e1⟩ := hC _ hb6
    clear c0 c1 c2 c3 c4 c5 c6 c7 a0 a1 hb1 hb4 hb12 cr1
    generalize (w.alloc (.cells #[.slice c.zA c.zn c.zc, .slice c.oA c.on c.oc, .slice c.sA c.sn c.sc, .slice c.lA c.ln c.lc, .slice c.tA c.tn c.tc, .slice c.nA c.nn c.nc, .slice c.uA c.un c.uc, .int .i64 c.dflt] 35)).alloc (.cells #[.int .u64 ah, .int .u64 al] 24) = w0 at hb hC hS cs hb6
    refine Lib.hid ?_
    go_wp2
    clear d0 d1 d2 d3 d4 d5 d6 d7 e0 e1
    go_loopg [9, 10, 11] c.tn (fun gg v9 v10 v11 wr => ∃ i : Nat, i ≤ c.tn ∧ c.tn - i ≤ gg ∧ v11 = .int .i64 i ∧ Below w0.heap.size w0 wr ∧ FM ah al c.ts i v9 v10)
    case atStart => exact ⟨0, by omega, by omega, rfl, hb6, .inl ⟨rfl, rfl, rfl⟩⟩
    case round =>
      obtain ⟨i, hi, hg, rfl, hbr, hfm⟩ := hrel
      obtain ⟨⟨c0, c1, c2, c3, c4, c5, c6, c7⟩, a0, a1⟩ := hC wr hbr
      have hm0 : w.heap.size < wr.heap.size := World.block_lt_of_cell? _ _ c0
      have hm1 : w.heap.size + 1 < wr.heap.size := World.block_lt_of_cell? _ _ a0
      by_cases hlt : i < c.tn
      · have hlti : (i : Int) < (c.tn : Int) := by omega
        obtain ⟨b, off, hA, hblt, hrow⟩ := hS.row (by omega)
        have hml : i < c.ts.length := by rw [Hlen.out]; omega
        obtain ⟨t, ht⟩ : ∃ s, c.ts[i]? = some s := ⟨_, List.getElem?_eq_getElem hml⟩
        have r0 : wr.cell? ⟨b, off + i * 6, none⟩ = some (.int .u64 t.r.fh) := keepc hbr (hrow i t ht 0 _ rfl)
        have r1 := keepc hbr (hrow i t ht 1 _ rfl)
        have r2 := keepc hbr (hrow i t ht 2 _ rfl)
        have r3 := keepc hbr (hrow i t ht 3 _ rfl)
        have r4 := keepc hbr (hrow i t ht 4 _ rfl)
        have r5 := keepc hbr (hrow i t ht 5 _ rfl)
        have hlt1 : b < wr.heap.size := Nat.lt_of_lt_of_le hblt hbr.size
        rw [hA] at c4
        have HT := Lib.hid ht
        clear ht
        obtain ⟨⟨fh, fl, th, tl⟩, tb, tif⟩ := t
        simp only at r0 r1 r2 r3 r4 r5
        clear hml hC cs hS hA hrow hblt c0 c1 c2 c3 c5 c6 c7 hb6 hb
        go_upto_region 13 with fail
        go_cut [13] from 49 to 101 (fun v13 wx => v13 = .bool (hasI fh fl th tl ah al) ∧ wx = wr.alloc (Obj.cells #[.int .u64 fh, .int .u64 fl, .int .u64 th, .int .u64 tl, .int .i64 tb, .int .i64 tif] 51))
        case first =>
          by_cases e1 : ah = fh
          · subst e1
            by_cases e2 : ah = th
            · subst e2
              go_wp2_with fail
              all_goals
                go_meet
                case rel =>
                  refine ⟨?_, rfl⟩
                  generalize hh : hasI _ _ _ _ _ _ = X
                  cases X with
                  | false =>
                    have hf := has_false hh
                    first | rfl | (exfalso; omega) | (simp; omega)
                  | true =>
                    obtain ⟨g1, g2, g3, g4⟩ := has_true hh
                    first | rfl | (exfalso; omega) | (simp; omega)
            · have e2b : (ah == th) = false := by simp [e2]
              go_wp2_with fail
              all_goals
                go_meet
                case rel =>
                  refine ⟨?_, rfl⟩
                  generalize hh : hasI _ _ _ _ _ _ = X
                  cases X with
                  | false =>
                    have hf := has_false hh
                    first | rfl | (exfalso; omega) | (simp; omega)
                  | true =>
                    obtain ⟨g1, g2, g3, g4⟩ := has_true hh
                    first | rfl | (exfalso; omega) | (simp; omega)
          · have e1b : (ah == fh) = false := by simp [e1]
            by_cases e2 : ah = th
            · subst e2
              go_wp2_with fail
              all_goals
                go_meet
                case rel =>
                  refine ⟨?_, rfl⟩
                  generalize hh : hasI _ _ _ _ _ _ = X
                  cases X with
                  | false =>
                    have hf := has_false hh
                    first | rfl | (exfalso; omega) | (simp; omega)
                  | true =>
                    obtain ⟨g1, g2, g3, g4⟩ := has_true hh
                    first | rfl | (exfalso; omega) | (simp; omega)
            · have e2b : (ah == th) = false := by simp [e2]
              go_wp2_with fail
              all_goals
                go_meet
                case rel =>
                  refine ⟨?_, rfl⟩
                  generalize hh : hasI _ _ _ _ _ _ = X
                  cases X with
                  | false =>
                    have hf := has_false hh
                    first | rfl | (exfalso; omega) | (simp; omega)
                  | true =>
                    obtain ⟨g1, g2, g3, g4⟩ := has_true hh
                    first | rfl | (exfalso; omega) | (simp; omega)
        case rest =>
          obtain ⟨rfl, rfl⟩ := hcut
          rcases hfm with ⟨hB, rfl, rfl⟩ | ⟨q, u, hB, hu, rfl, rfl⟩
          · have HB := Lib.hid hB
            clear hB
            cases hh : hasI fh fl th tl ah al with
            | false =>
              have HH := Lib.hid hh
              clear hh
              go_wp2
              go_roundg (c.tn - (i + 1))
              case measure => omega
              case rel => exact ⟨i + 1, by omega, by omega, by go_num, Below.al hbr _, .inl ⟨(bst_no HT.out HH.out).trans HB.out, rfl, rfl⟩⟩
            | true =>
              have HH := Lib.hid hh
              clear hh
              go_wp2
              go_roundg (c.tn - (i + 1))
              case measure => omega
              case rel => exact ⟨i + 1, by omega, by omega, by go_num, Below.al hbr _, .inr ⟨i, ⟨⟨fh, fl, th, tl⟩, tb, tif⟩, bst_first HT.out HH.out HB.out, HT.out, rfl, rfl⟩⟩

          · have HB := Lib.hid hB
            have HU := Lib.hid hu
            clear hB hu
            cases hh : hasI fh fl th tl ah al with
            | false =>
              have HH := Lib.hid hh
              clear hh
              go_wp2
              go_roundg (c.tn - (i + 1))
              case measure => omega
              case rel => exact ⟨i + 1, by omega, by omega, by go_num, Below.al hbr _, .inr ⟨q, u, (bst_no HT.out HH.out).trans HB.out, HU.out, rfl, rfl⟩⟩
            | true =>
              have HH := Lib.hid hh
              clear hh
              by_cases hbt : u.bits < tb
              · have HBT := Lib.hid hbt
                go_wp2
                go_roundg (c.tn - (i + 1))
                case measure => omega
                case rel => exact ⟨i + 1, by omega, by omega, by go_num, Below.al hbr _, .inr ⟨i, ⟨⟨fh, fl, th, tl⟩, tb, tif⟩, bst_up HT.out HH.out HB.out HU.out HBT.out, HT.out, rfl, rfl⟩⟩
              · have HBT := Lib.hid hbt
                have hbd : decide (u.bits < tb) = false := by simp [hbt]
                clear hbt
                go_wp2
                go_roundg (c.tn - (i + 1))
                case measure => omega
                case rel => exact ⟨i + 1, by omega, by omega, by go_num, Below.al hbr _, .inr ⟨q, u, bst_stay HT.out HH.out HB.out HU.out (by show ¬ u.bits < tb; have := HBT.out; omega), HU.out, rfl, rfl⟩⟩

      · obtain rfl : i = c.tn := by omega
        clear hlt
        rcases hfm with ⟨hB, rfl, rfl⟩ | ⟨q, u, hB, hu, rfl, rfl⟩
        · obtain ⟨rfl, rfl⟩ := H1.out hB
          clear hB hC cs hS
          go_wp2
          go_ret
          exact ⟨rfl, bel_via hb hbr⟩
        · obtain ⟨e1, e2⟩ := H2.out q u hB hu
          have hqn : q < c.tn := by have := getE hu; rw [Hlen.out] at this; exact this
          rw [e1] at cs
          subst e1
          rw [← e2] at cs
          have HU := Lib.hid hu
          clear hB hu e2 H1 H2
          have hbz := bel_via hb hbr
          go_wp2
          go_loop [14] (fun v14 => ∃ k : Nat, k ≤ q ∧ v14 = .int .i64 k) (fun v14 => c.tn - (intOf v14).toNat)
          case atStart => exact ⟨0, by omega, rfl⟩
          case round =>
            obtain ⟨k, hk, rfl⟩ := hrel
            have hkn : k < c.tn := by omega
            have hkni : (k : Int) < (c.tn : Int) := by omega
            obtain ⟨b, off, hA, hblt, hrow⟩ := hS.row (by omega)
            obtain ⟨t, ht⟩ : ∃ s, c.ts[k]? = some s := ⟨_, List.getElem?_eq_getElem (by rw [Hlen.out]; omega)⟩
            have r4 := keepc hbr (hrow k t ht 4 _ rfl)
            have r5 := keepc hbr (hrow k t ht 5 _ rfl)
            have hlt1 : b < wr.heap.size := Nat.lt_of_lt_of_le hblt hbr.size
            have cz := cs wr hbr
            rw [hA] at c4 cz
            have hkq : k = q → t = u := fun h => by subst h; have := HU.out; rw [ht] at this; exact Option.some.inj this
            have HK := Lib.hid hkq
            clear ht hrow hS hC cs hkq hA hblt hb6
            by_cases t1 : t.bits = u.bits
            · by_cases t2 : t.ifc = u.ifc
              · have t1b : (t.bits == u.bits) = true := by simp [t1]
                have t2b : (t.ifc == u.ifc) = true := by simp [t2]
                clear t1 t2
                go_wp2_with (go_at_call 14; with_reducible refine cz.mono ?_; rintro e w9 ⟨rfl, hb9⟩)
                go_ret
                exact ⟨by simp, bel_via hbz hb9⟩
              · have hne : k ≠ q := fun h => t2 (by rw [HK.out h])
                have t2b : (t.ifc == u.ifc) = false := by simp [t2]
                go_wp2
                go_round
                case rel => exact ⟨k + 1, by omega, by go_num⟩
                case measure => simp [intOf]; omega
            · have hne : k ≠ q := fun h => t1 (by rw [HK.out h])
              have t1b : (t.bits == u.bits) = false := by simp [t1]
              go_wp2
              go_round
              case rel => exact ⟨k + 1, by omega, by go_num⟩
              case measure => simp [intOf]; omega
end Go.Proofs.Ytplfmgcgniledaa
