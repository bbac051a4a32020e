/- RulesFirst: the walk of the law; by-name template (gen_rfirst.py). -/
import Derived.Test.YtplfmgcgniledaaRAny
import Derived.Test.YtplfmgcgniledaaRRChoose
import Derived.Deep.DeepCutAuto
namespace Go.Proofs.Ytplfmgcgniledaa
open Go.Shelf Go.RowKit Go.Lib Go.Sort
set_option linter.unusedVariables false
set_option linter.unusedSimpArgs false

/-- What is chosen, and what is chosen with more rules behind. -/
theorem first_choose (c : CF) (ml : List UR) (hi ho : Int) (k : KR) (hlen : c.us.length = c.un) : ∃ (x0 x1 x2 : Int) (x3 : Bool) (y0 y1 y2 : Int) (y3 : Bool), chooseT c hi ho k = .agg #[.int .i64 x0, .int .i64 x1, .int .i64 x2, .bool x3] ∧ (∀ A n cap, chooseT (c.wr A n cap (c.us ++ ml)) hi ho k = .agg #[.int .i64 y0, .int .i64 y1, .int .i64 y2, .bool y3]) ∧
    ((0 ≤ x1 ∧ y0 = x0 ∧ y1 = x1 ∧ y2 = x2 ∧ y3 = x3) ∨ (x1 < 0 ∧ y0 = x0 ∧ y1 = x1 ∧ y2 = x2 ∧ y3 = x3) ∨ (x1 < 0 ∧ 0 ≤ y1 ∧ (c.un : Int) ≤ y1)) := by
  have hw : ∀ A n cap, (fun u => matchP (c.wr A n cap (c.us ++ ml)) u hi ho k) = fun u => matchP c u hi ho k := fun A n cap => rfl
  rcases pl_cases (fun u => matchP c u hi ho k) c.us with ⟨hm, hf⟩ | ⟨j, u, hj, hp, hs, hf⟩
  · have h1 : chooseT c hi ho k = .agg #[.int .i64 c.dflt, .int .i64 (-1), .int .i64 (-1), .bool false] := by unfold chooseT; rw [find_miss hf]
    rcases pl_cases (fun u => matchP c u hi ho k) ml with ⟨hm2, hf2⟩ | ⟨j, u, hj, hp, hs, hf2⟩
    · refine ⟨_, _, _, _, c.dflt, -1, -1, false, h1, fun A n cap => ?_, .inr (.inl ⟨by omega, rfl, rfl, rfl, rfl⟩)⟩
      unfold chooseT
      rw [hw, show (c.wr A n cap (c.us ++ ml)).us = c.us ++ ml from rfl, find_miss (fun i x hx => ?_)]
      · rfl
      · by_cases hi : i < c.us.length
        · exact hf i x (by rw [← List.getElem?_append_left hi]; exact hx)
        · exact hf2 (i - c.us.length) x (by rw [← List.getElem?_append_right (Nat.le_of_not_lt hi)]; exact hx)
    · have hg : (c.us ++ ml)[c.us.length + j]? = some u := by rw [List.getElem?_append_right (by omega)]; simpa using hj
      have hn : ∀ (i : Nat) (x : UR), i < c.us.length + j → (c.us ++ ml)[i]? = some x → matchP c x hi ho k = false := fun i x hlt hx => by
        by_cases hi : i < c.us.length
        · exact hf i x (by rw [← List.getElem?_append_left hi]; exact hx)
        · exact hf2 (i - c.us.length) x (by omega) (by rw [← List.getElem?_append_right (Nat.le_of_not_lt hi)]; exact hx)
      refine ⟨_, _, _, _, u.act, ((c.us.length + j : Nat) : Int), limP c u.lim, u.proxy, h1, fun A n cap => ?_, .inr (.inr ⟨by omega, by omega, by omega⟩)⟩
      unfold chooseT
      rw [hw, show (c.wr A n cap (c.us ++ ml)).us = c.us ++ ml from rfl, find_hit hg hs hn, pl_hit hg hs hn]
      rfl
  · have h1 : chooseT c hi ho k = .agg #[.int .i64 u.act, .int .i64 (j : Nat), .int .i64 (limP c u.lim), .bool u.proxy] := by unfold chooseT; rw [find_hit hj hs hf, pl_hit hj hs hf]
    have hg : (c.us ++ ml)[j]? = some u := by rw [List.getElem?_append_left (getE hj)]; exact hj
    have hn : ∀ (i : Nat) (x : UR), i < j → (c.us ++ ml)[i]? = some x → matchP c x hi ho k = false := fun i x hlt hx =>
      hf i x hlt (by rw [← List.getElem?_append_left (Nat.lt_trans hlt (getE hj))]; exact hx)
    refine ⟨_, _, _, _, u.act, (j : Nat), limP c u.lim, u.proxy, h1, fun A n cap => ?_, .inl ⟨by omega, rfl, rfl, rfl, rfl⟩⟩
    unfold chooseT
    rw [hw, show (c.wr A n cap (c.us ++ ml)).us = c.us ++ ml from rfl, find_hit hg hs hn, pl_hit hg hs hn]
    rfl

set_option maxHeartbeats 16000000 in
set_option maxRecDepth 100000 in
theorem first_law (c : CF) (hi ho : Int) (k : KR) (mA : Option Addr) (mn mc : Nat) (ml : List UR) {w : World} (hc : c.Ok w) (hf : c.Fit) (hn : c.uA = none → c.uc = 0) (hM : Sl w 8 urc mA mn ml) (hmz : mA = none → mc = 0) :
    Calls Try.prog 7 #[.agg (cfc c), .agg (Value.int .i64 hi :: .int .i64 ho :: krc k).toArray, .slice mA mn mc] w fun e w' => e = .returned (.bool true) ∧ Below w.heap.size w w' := by
  obtain ⟨iu, hiu, hu0, hu1, hu2⟩ := info_parts rule_info
  obtain ⟨w0, hw0⟩ : ∃ w0, w0 = (w.alloc (.cells (cfc c) 35)).alloc (.cells (Value.int .i64 hi :: .int .i64 ho :: krc k).toArray 57) := ⟨_, rfl⟩
  have hb : Below w.heap.size w w0 := by rw [hw0]; exact Below.al (Below.al (Below.refl _ _) _) _
  have hC : ∀ w', Below w0.heap.size w0 w' → CfB w' w.heap.size c ∧ HdB w' (w.heap.size + 1) hi ho k := by
    intro w' h
    refine ⟨CfB.keep ?_ h, HdB.keep ?_ h⟩
    · rw [hw0]; exact (CfB.made w c).keep (Below.al (Below.refl _ _) _)
    · rw [hw0]; have := HdB.made (w.alloc (.cells (cfc c) 35)) hi ho k; simpa using this
  have ch := heavy_any c (hc.keep hb) hf
  have hsz0 : w0.heap.size = w.heap.size + 2 := by rw [hw0]; simp
  obtain ⟨x0, x1, x2, x3, y0, y1, y2, y3, hX, hY, hxy⟩ := first_choose c ml hi ho k hc.u.len
  have cx := fun (W : World) (hW : Below w0.heap.size w0 W) => choose_any c hi ho k ((hc.keep hb).keep hW)
  have cr := fun (W : World) (hW : Below w0.heap.size w0 W) => rchoose_any c hi ho k ((hc.keep hb).keep hW)
  rw [hX] at cx cr
  have HY := Lib.hid hY
  have HXY := Lib.hid hxy
  obtain ⟨⟨c0, c1, c2, c3, c4, c5, c6, c7⟩, h0, h1, k0, k1, k2, k3, k4, k5, k6⟩ := hC w0 (Below.refl _ _)
  have hlenU := hc.u.len
  have HlenU := Lib.hid hlenU
  have HlenM := Lib.hid hM.len
  have Hsz0 := Lib.hid hsz0
  clear hlenU hsz0 hX hY hxy
  have hunE : c.uA = none → c.un = 0 := fun h => by
    by_cases h0 : 0 < c.un
    · obtain ⟨b, off, hA, _⟩ := hc.u.row h0
      rw [h] at hA; cases hA
    · omega
  have hmnE : mA = none → mn = 0 := fun h => by
    by_cases h0 : 0 < mn
    · obtain ⟨b, off, hA, _⟩ := hM.row h0
      rw [h] at hA; cases hA
    · omega
  have HunE := Lib.hid hunE
  have HmnE := Lib.hid hmnE
  have Hn := Lib.hid hn
  have Hmz := Lib.hid hmz
  clear hunE hmnE hn hmz
  obtain ⟨kp, ksh, ksl, kdh, kdl, ksp, kdp⟩ := k
  simp only [krc, Nat.reduceAdd] at *
  simp only [cfc] at ch hw0 cx cr ⊢
  subst hw0
  go_enter Try.func7, Try.ntmps7
  go_wp2_with fail
  refine ch.mono ?_
  rintro e w1 ⟨hv, rfl, hun, hb1⟩
  cases hv with
  | true =>
    go_wp2
    go_ret
    exact ⟨rfl, bel_via hb hb1⟩
  | false =>
    have hun4 : c.un ≤ 4096 := hun rfl
    generalize (w.alloc (.cells #[.slice c.zA c.zn c.zc, .slice c.oA c.on c.oc, .slice c.sA c.sn c.sc, .slice c.lA c.ln c.lc, .slice c.tA c.tn c.tc, .slice c.nA c.nn c.nc, .slice c.uA c.un c.uc, .int .i64 c.dflt] 35)).alloc (.cells #[.int .i64 hi, .int .i64 ho, .int .i64 kp, .int .u64 ksh, .int .u64 ksl, .int .u64 kdh, .int .u64 kdl, .int .i64 ksp, .int .i64 kdp] 57) = w0 at *
    clear c0 c1 c2 c3 c4 c5 c6 c7 h0 h1 k0 k1 k2 k3 k4 k5 k6 ch hun
    by_cases hmn : mn ≤ 256
    · have hmd : decide (256 < mn) = false := by simp; omega
      have hmi : ¬ (256 : Int) < (mn : Int) := by omega
      have hmd2 : decide ((256 : Int) < (mn : Int)) = false := by simp [hmi]
      obtain ⟨⟨d0, d1, d2, d3, d4, d5, d6, d7⟩, i0, o0, e0, e1, e2, e3, e4, e5, e6⟩ := hC w1 hb1
      simp only [Nat.reduceAdd] at e0 e1 e2 e3 e4 e5 e6
      have cx1 := cx w1 hb1
      have hlt0 : w.heap.size + 2 ≤ w1.heap.size := by have := hb1.size; have := Hsz0.out; omega
      go_wp2_with (go_at_call 18; with_reducible refine cx1.mono ?_; rintro e w2 ⟨rfl, hb2⟩; refine Hid.out ?_)
      clear cx1 d0 d1 d2 d3 d4 d5 d6 d7 i0 o0 e0 e1 e2 e3 e4 e5 e6
      have hb12 := bel_via hb1 hb2
      have hb3 : Below w0.heap.size w0 (w2.alloc (.cells #[.int .i64 x0, .int .i64 x1, .int .i64 x2, .bool x3] 59)) := bel_via hb12 (Below.al (Below.refl _ _) _)
      have hXb : (w2.alloc (.cells #[.int .i64 x0, .int .i64 x1, .int .i64 x2, .bool x3] 59)).heap[w2.heap.size]? = some (.cells #[.int .i64 x0, .int .i64 x1, .int .i64 x2, .bool x3] 59 (0, 0)) := al_new rfl _
      have hlt2 : w.heap.size + 2 ≤ w2.heap.size := Nat.le_trans hlt0 hb2.size
      refine Lib.hid ?_
      go_upto_region 4 with fail
      generalize w2.alloc (.cells #[.int .i64 x0, .int .i64 x1, .int .i64 x2, .bool x3] 59) = w3 at *
      obtain ⟨⟨d0, d1, d2, d3, d4, d5, d6, d7⟩, i0, o0, e0, e1, e2, e3, e4, e5, e6⟩ := hC w3 hb3
      simp only [Nat.reduceAdd] at e0 e1 e2 e3 e4 e5 e6
      obtain ⟨X0, X1, X2, X3, _⟩ := cells4 hXb
      have g0 := cell_regrown d0
      have g1 := cell_regrown d1
      have g2 := cell_regrown d2
      have g3 := cell_regrown d3
      have g4 := cell_regrown d4
      have g5 := cell_regrown d5
      have g6 := cell_regrown d6
      have g7 := cell_regrown d7
      have g8 := cell_regrown i0
      have g9 := cell_regrown o0
      have g10 := cell_regrown e0
      have g11 := cell_regrown e1
      have g12 := cell_regrown e2
      have g13 := cell_regrown e3
      have g14 := cell_regrown e4
      have g15 := cell_regrown e5
      have g16 := cell_regrown e6
      have g17 := cell_regrown X0
      have g18 := cell_regrown X1
      have g19 := cell_regrown X2
      have g20 := cell_regrown X3
      have cq0 := fun d os => Calls.regrown_of (cr (grow (redrawn w3 d) os) (bel_via hb3 (below_regrown w3 d os)))
      clear d0 d1 d2 d3 d4 d5 d6 d7 i0 o0 e0 e1 e2 e3 e4 e5 e6 X0 X1 X2 X3 cr cx
      refine wp_region_quiet_below (by kernel_rfl) (by kernel_rfl) ?_
      repeat (first | go_big_quiet_skip | quiet_step (first | (go_at_call 19; with_reducible exact cq0 _ _)))
      refine wpQuiet_nil ?_
      intro _ hw'
      obtain ⟨⟨dq, osq⟩, hw''⟩ := hw'
      subst hw''
      have hbz : Below w0.heap.size w0 (grow (redrawn w3 dq) osq) := bel_via hb3 (below_regrown _ _ _)
      have hXz : (grow (redrawn w3 dq) osq).heap[w2.heap.size]? = _ := ((below_regrown w3 dq osq).block _ (Array.getElem?_eq_some_iff.1 hXb).1).trans hXb
      generalize grow (redrawn w3 dq) osq = wz at *
      clear cq0 g0 g1 g2 g3 g4 g5 g6 g7 g8 g9 g10 g11 g12 g13 g14 g15 g16 g17 g18 g19 g20 hXb hb3
      obtain ⟨⟨d0, d1, d2, d3, d4, d5, d6, d7⟩, -⟩ := hC wz hbz
      have hltz : w.heap.size + 2 ≤ wz.heap.size := by have := hbz.size; have := Hsz0.out; omega
      have hltX : w2.heap.size < wz.heap.size := (Array.getElem?_eq_some_iff.1 hXz).1
      go_upto_region 8 with fail
      have hD5 : (wz.alloc (.cells #[.slice c.zA c.zn c.zc, .slice c.oA c.on c.oc, .slice c.sA c.sn c.sc, .slice c.lA c.ln c.lc, .slice c.tA c.tn c.tc, .slice c.nA c.nn c.nc, .slice none 0 0, .int .i64 c.dflt] 35)).heap[wz.heap.size]? = some (.cells #[.slice c.zA c.zn c.zc, .slice c.oA c.on c.oc, .slice c.sA c.sn c.sc, .slice c.lA c.ln c.lc, .slice c.tA c.tn c.tc, .slice c.nA c.nn c.nc, .slice none 0 0, .int .i64 c.dflt] 35 (0, 0)) := al_new rfl _
      have hB5 : Below wz.heap.size wz (wz.alloc (.cells #[.slice c.zA c.zn c.zc, .slice c.oA c.on c.oc, .slice c.sA c.sn c.sc, .slice c.lA c.ln c.lc, .slice c.tA c.tn c.tc, .slice c.nA c.nn c.nc, .slice none 0 0, .int .i64 c.dflt] 35)) := Below.al (Below.refl _ _) _
      have hs5 : wz.heap.size + 1 ≤ (wz.alloc (.cells #[.slice c.zA c.zn c.zc, .slice c.oA c.on c.oc, .slice c.sA c.sn c.sc, .slice c.lA c.ln c.lc, .slice c.tA c.tn c.tc, .slice c.nA c.nn c.nc, .slice none 0 0, .int .i64 c.dflt] 35)).heap.size := by simp
      generalize wz.alloc (.cells #[.slice c.zA c.zn c.zc, .slice c.oA c.on c.oc, .slice c.sA c.sn c.sc, .slice c.lA c.ln c.lc, .slice c.tA c.tn c.tc, .slice c.nA c.nn c.nc, .slice none 0 0, .int .i64 c.dflt] 35) = w5 at *
      clear d0 d1 d2 d3 d4 d5 d6 d7
      go_cut [] (fun wx => ∃ A1 cap1, wx.heap[wz.heap.size]? = some (.cells #[.slice c.zA c.zn c.zc, .slice c.oA c.on c.oc, .slice c.sA c.sn c.sc, .slice c.lA c.ln c.lc, .slice c.tA c.tn c.tc, .slice c.nA c.nn c.nc, .slice A1 c.un cap1, .int .i64 c.dflt] 35 (0, 0)) ∧ wx.ownsRow (wz.heap.size + 1) 63 8 (.slice A1 c.un cap1) c.un (c.us.flatMap urc) ∧ Below wz.heap.size wz wx ∧ wz.heap.size + 1 ≤ wx.heap.size)
      case first =>
        obtain ⟨⟨d0, d1, d2, d3, d4, d5, d6, d7⟩, -⟩ := hC w5 (bel_via hbz hB5)
        have x0d : w5.cell? ⟨wz.heap.size, 0, none⟩ = some (.slice c.zA c.zn c.zc) := by simp [World.cell?, hD5]
        have x1d : w5.cell? ⟨wz.heap.size, 1, none⟩ = some (.slice c.oA c.on c.oc) := by simp [World.cell?, hD5]
        have x2d : w5.cell? ⟨wz.heap.size, 2, none⟩ = some (.slice c.sA c.sn c.sc) := by simp [World.cell?, hD5]
        have x3d : w5.cell? ⟨wz.heap.size, 3, none⟩ = some (.slice c.lA c.ln c.lc) := by simp [World.cell?, hD5]
        have x4d : w5.cell? ⟨wz.heap.size, 4, none⟩ = some (.slice c.tA c.tn c.tc) := by simp [World.cell?, hD5]
        have x5d : w5.cell? ⟨wz.heap.size, 5, none⟩ = some (.slice c.nA c.nn c.nc) := by simp [World.cell?, hD5]
        have x6d : w5.cell? ⟨wz.heap.size, 6, none⟩ = some (.slice none 0 0) := by simp [World.cell?, hD5]
        have x7d : w5.cell? ⟨wz.heap.size, 7, none⟩ = some (.int .i64 c.dflt) := by simp [World.cell?, hD5]
        have y6d : w5.frozen? ⟨wz.heap.size, 6, none⟩ = false := by simp [World.frozen?, hD5]
        have hrules := ((hc.u.keep hb).keep hbz).keep hB5
        by_cases huA : c.uA = none
        · have hz : c.un = 0 := HunE.out huA
          have hus : c.us = [] := List.eq_nil_of_length_eq_zero (by rw [HlenU.out]; exact hz)
          have d6' : w5.cell? ⟨w.heap.size, 6, none⟩ = some (.slice none 0 0) := by rw [d6, huA, hz, Hn.out huA]
          have hh : (w5.setCell ⟨wz.heap.size, 6, none⟩ (.slice none 0 0)).heap[wz.heap.size]? = some (.cells #[.slice c.zA c.zn c.zc, .slice c.oA c.on c.oc, .slice c.sA c.sn c.sc, .slice c.lA c.ln c.lc, .slice c.tA c.tn c.tc, .slice c.nA c.nn c.nc, .slice none 0 0, .int .i64 c.dflt] 35 (0, 0)) := by simp [World.setCell, Array.getElem?_modify, hD5]
          have hbs := below_set hB5 (Nat.le_refl _) 6 (.slice none 0 0)
          have HZ := Lib.hid hz
          have HUS := Lib.hid hus
          clear d6 huA hz hus hc
          go_wp2_with (at_builtin; go_loud (refine wpList_append_own_none rfl _ _ 33 rfl (wz.heap.size + 1) 63 iu 8 Try.underlying33 hiu _ _ _ rfl (World.ownsRow_nil _ _ _ _) rfl ?_))
          go_meet
          case rel => exact ⟨none, 0, by rw [HZ.out]; exact hh, by rw [HZ.out, HUS.out]; exact World.ownsRow_nil _ _ _ _, hbs, by have := hs5; simpa [World.setCell] using this⟩
        · obtain ⟨ad, had⟩ : ∃ ad, c.uA = some ad := Option.ne_none_iff_exists'.1 huA
          have d6' : w5.cell? ⟨w.heap.size, 6, none⟩ = some (.slice (some ad) c.un c.uc) := by rw [d6, had]
          have hfl : (c.us.flatMap urc).length = c.un * 8 := by rw [flat_len (k := 8) (fun _ => rfl), HlenU.out]
          have hml : 0 + c.un ≤ maxLen := by unfold maxLen; omega
          have hby : (0 + c.un) * 112 ≤ 140737488355328 := by omega
          have HAD := Lib.hid had
          clear d6 hc had huA
          go_wp2_with (at_builtin; go_loud (refine wpList_append_own _ rfl _ _ 33 rfl (wz.heap.size + 1) 63 iu (.agg #[.string ByteArray.empty, .string ByteArray.empty, .string ByteArray.empty, .string ByteArray.empty, .string ByteArray.empty, .int .i64 0, .string ByteArray.empty, .bool false]) 8 112 Try.underlying33 hiu hu0 hu1 hu2 rfl (by decide) _ _ _ rfl (World.ownsRow_nil _ _ _ _) ad c.un c.uc (c.us.flatMap urc) rfl hfl ?n1 ?n2 hml hby hs5 ?_))
          case n1 => exact hrules.news (k := 8) (fun _ => rfl) HAD.out
          case n2 =>
            intro u' hu'
            obtain ⟨y, _, hy⟩ := List.mem_flatMap.1 hu'
            simp [urc] at hy
            rcases hy with rfl | rfl | rfl | rfl | rfl | rfl | rfl | rfl <;> rfl
          intro v1 w6 hown hg _
          try simp only [Nat.zero_add, List.nil_append] at hown
          obtain ⟨A1, cap1, rfl, -, -⟩ := sl_of_own (k := 8) (enc := urc) (fun _ => rfl) (l := c.us) hown HlenU.out
          have hD6 : w6.heap[wz.heap.size]? = some (.cells #[.slice c.zA c.zn c.zc, .slice c.oA c.on c.oc, .slice c.sA c.sn c.sc, .slice c.lA c.ln c.lc, .slice c.tA c.tn c.tc, .slice c.nA c.nn c.nc, .slice none 0 0, .int .i64 c.dflt] 35 (0, 0)) := by rw [hg.block _ (by omega) (by simp [Value.ownBlock])]; exact hD5
          have hB6 : Below wz.heap.size wz w6 := hB5.grown hg (by omega) (fun q hq => by simp [Value.ownBlock] at hq)
          have hs6 : wz.heap.size + 1 ≤ w6.heap.size := Nat.le_trans hs5 hg.size
          clear x0d x1d x2d x3d x4d x5d x6d x7d y6d d0 d1 d2 d3 d4 d5 d6' d7 hg hfl hml hby
          have x6d : w6.cell? ⟨wz.heap.size, 6, none⟩ = some (.slice none 0 0) := by simp [World.cell?, hD6]
          have y6d : w6.frozen? ⟨wz.heap.size, 6, none⟩ = false := by simp [World.frozen?, hD6]
          go_wp2_with fail
          go_meet
          case rel => exact ⟨A1, cap1, by simp [World.setCell, Array.getElem?_modify, hD6], own_set hown (by omega) 6 _, below_set hB6 (Nat.le_refl _) 6 _, by simpa [World.setCell] using hs6⟩
      case rest =>
        obtain ⟨A1, cap1, hD6, hown6, hB6, hs6⟩ := hcut
        clear hD5 hB5 hs5
        go_upto_region 9 with fail
        go_cut [] (fun wx => ∃ A2 cap2, wx.heap[wz.heap.size]? = some (.cells #[.slice c.zA c.zn c.zc, .slice c.oA c.on c.oc, .slice c.sA c.sn c.sc, .slice c.lA c.ln c.lc, .slice c.tA c.tn c.tc, .slice c.nA c.nn c.nc, .slice A2 (c.un + mn) cap2, .int .i64 c.dflt] 35 (0, 0)) ∧ wx.ownsRow (wz.heap.size + 1) 63 8 (.slice A2 (c.un + mn) cap2) (c.un + mn) ((c.us ++ ml).flatMap urc) ∧ Below wz.heap.size wz wx ∧ wz.heap.size + 1 ≤ wx.heap.size)
        case first =>
          have x0d : wc.cell? ⟨wz.heap.size, 0, none⟩ = some (.slice c.zA c.zn c.zc) := by simp [World.cell?, hD6]
          have x1d : wc.cell? ⟨wz.heap.size, 1, none⟩ = some (.slice c.oA c.on c.oc) := by simp [World.cell?, hD6]
          have x2d : wc.cell? ⟨wz.heap.size, 2, none⟩ = some (.slice c.sA c.sn c.sc) := by simp [World.cell?, hD6]
          have x3d : wc.cell? ⟨wz.heap.size, 3, none⟩ = some (.slice c.lA c.ln c.lc) := by simp [World.cell?, hD6]
          have x4d : wc.cell? ⟨wz.heap.size, 4, none⟩ = some (.slice c.tA c.tn c.tc) := by simp [World.cell?, hD6]
          have x5d : wc.cell? ⟨wz.heap.size, 5, none⟩ = some (.slice c.nA c.nn c.nc) := by simp [World.cell?, hD6]
          have x6d : wc.cell? ⟨wz.heap.size, 6, none⟩ = some (.slice A1 c.un cap1) := by simp [World.cell?, hD6]
          have x7d : wc.cell? ⟨wz.heap.size, 7, none⟩ = some (.int .i64 c.dflt) := by simp [World.cell?, hD6]
          have y6d : wc.frozen? ⟨wz.heap.size, 6, none⟩ = false := by simp [World.frozen?, hD6]
          have hmore := (((hM.keep hb).keep hbz).keep hB6)
          rcases mA with _ | ad
          · have hz : mn = 0 := HmnE.out rfl
            have hmc : mc = 0 := Hmz.out rfl
            have hms : ml = [] := List.eq_nil_of_length_eq_zero (by rw [HlenM.out]; exact hz)
            subst hz hmc hms
            clear hmore hM hc
            go_wp2_with (at_builtin; go_loud (refine wpList_append_own_none rfl _ _ 33 rfl (wz.heap.size + 1) 63 iu 8 Try.underlying33 hiu _ _ _ rfl hown6 rfl ?_))
            go_meet
            case rel => exact ⟨A1, cap1, by simp [World.setCell, Array.getElem?_modify, hD6], by simpa using own_set hown6 (by omega) 6 _, below_set hB6 (Nat.le_refl _) 6 _, by simpa [World.setCell] using hs6⟩
          · have hfl : (ml.flatMap urc).length = mn * 8 := by rw [flat_len (k := 8) (fun _ => rfl), HlenM.out]
            have hml : c.un + mn ≤ maxLen := by unfold maxLen; omega
            have hby : (c.un + mn) * 112 ≤ 140737488355328 := by omega
            have hne : (Value.slice A1 c.un cap1).ownBlock ≠ some wz.heap.size := fun h => by have := (hown6.lt _ h).1; omega
            have hge : ∀ q, (Value.slice A1 c.un cap1).ownBlock = some q → wz.heap.size ≤ q := fun q hq => by have := (hown6.lt q hq).1; omega
            clear hM hc
            go_wp2_with (at_builtin; go_loud (refine wpList_append_own _ rfl _ _ 33 rfl (wz.heap.size + 1) 63 iu (.agg #[.string ByteArray.empty, .string ByteArray.empty, .string ByteArray.empty, .string ByteArray.empty, .string ByteArray.empty, .int .i64 0, .string ByteArray.empty, .bool false]) 8 112 Try.underlying33 hiu hu0 hu1 hu2 rfl (by decide) _ _ _ rfl hown6 ad mn mc (ml.flatMap urc) rfl hfl ?n1 ?n2 hml hby hs6 ?_))
            case n1 => exact hmore.news (k := 8) (fun _ => rfl) rfl
            case n2 =>
              intro u' hu'
              obtain ⟨y, _, hy⟩ := List.mem_flatMap.1 hu'
              simp [urc] at hy
              rcases hy with rfl | rfl | rfl | rfl | rfl | rfl | rfl | rfl <;> rfl
            intro v2 w7 hown hg _
            rw [← List.flatMap_append] at hown
            obtain ⟨A2, cap2, rfl, -, -⟩ := sl_of_own (k := 8) (enc := urc) (fun _ => rfl) (l := c.us ++ ml) hown (by rw [List.length_append, HlenU.out, HlenM.out])
            have hD7 : w7.heap[wz.heap.size]? = some (.cells #[.slice c.zA c.zn c.zc, .slice c.oA c.on c.oc, .slice c.sA c.sn c.sc, .slice c.lA c.ln c.lc, .slice c.tA c.tn c.tc, .slice c.nA c.nn c.nc, .slice A1 c.un cap1, .int .i64 c.dflt] 35 (0, 0)) := by rw [hg.block _ (by omega) (fun h => hne h.symm)]; exact hD6
            have hB7 : Below wz.heap.size wz w7 := hB6.grown hg (by omega) hge
            have hs7 : wz.heap.size + 1 ≤ w7.heap.size := Nat.le_trans hs6 hg.size
            clear x0d x1d x2d x3d x4d x5d x6d x7d y6d hg hfl hml hby hne hge hown6 hD6 hB6 hs6
            have x6d : w7.cell? ⟨wz.heap.size, 6, none⟩ = some (.slice A1 c.un cap1) := by simp [World.cell?, hD7]
            have y6d : w7.frozen? ⟨wz.heap.size, 6, none⟩ = false := by simp [World.frozen?, hD7]
            go_wp2_with fail
            go_meet
            case rel => exact ⟨A2, cap2, by simp [World.setCell, Array.getElem?_modify, hD7], own_set hown (by omega) 6 _, below_set hB7 (Nat.le_refl _) 6 _, by simpa [World.setCell] using hs7⟩
        case rest =>
          obtain ⟨A2, cap2, hD7, hown7, hB7, hs7⟩ := hcut
          clear hD6 hown6 hB6 hs6
          obtain ⟨A9, cap9, hv9, hS2, -⟩ := sl_of_own (k := 8) (enc := urc) (fun _ => rfl) (l := c.us ++ ml) hown7 (by rw [List.length_append, HlenU.out, HlenM.out])
          simp only [Value.slice.injEq, true_and] at hv9
          obtain ⟨rfl, rfl⟩ := hv9
          have hbw := bel_via hbz hB7
          have hbwc := bel_via hb hbw
          obtain ⟨⟨-, -, -, -, -, -, d6, -⟩, i0, o0, e0, e1, e2, e3, e4, e5, e6⟩ := hC wc hbw
          simp only [Nat.reduceAdd] at e0 e1 e2 e3 e4 e5 e6
          have hXc : wc.heap[w2.heap.size]? = _ := (hB7.block _ hltX).trans hXz
          have x0d : wc.cell? ⟨wz.heap.size, 0, none⟩ = some (.slice c.zA c.zn c.zc) := by simp [World.cell?, hD7]
          have x1d : wc.cell? ⟨wz.heap.size, 1, none⟩ = some (.slice c.oA c.on c.oc) := by simp [World.cell?, hD7]
          have x2d : wc.cell? ⟨wz.heap.size, 2, none⟩ = some (.slice c.sA c.sn c.sc) := by simp [World.cell?, hD7]
          have x3d : wc.cell? ⟨wz.heap.size, 3, none⟩ = some (.slice c.lA c.ln c.lc) := by simp [World.cell?, hD7]
          have x4d : wc.cell? ⟨wz.heap.size, 4, none⟩ = some (.slice c.tA c.tn c.tc) := by simp [World.cell?, hD7]
          have x5d : wc.cell? ⟨wz.heap.size, 5, none⟩ = some (.slice c.nA c.nn c.nc) := by simp [World.cell?, hD7]
          have x6d : wc.cell? ⟨wz.heap.size, 6, none⟩ = some (.slice A2 (c.un + mn) cap2) := by simp [World.cell?, hD7]
          have x7d : wc.cell? ⟨wz.heap.size, 7, none⟩ = some (.int .i64 c.dflt) := by simp [World.cell?, hD7]
          have y6d : wc.frozen? ⟨wz.heap.size, 6, none⟩ = false := by simp [World.frozen?, hD7]
          have cy := choose_any (c.wr A2 (c.un + mn) cap2 (c.us ++ ml)) hi ho ⟨kp, ksh, ksl, kdh, kdl, ksp, kdp⟩ ((hc.keep hbwc).wr hS2)
          rw [HY.out] at cy
          simp only [cfc, CF.wr, krc] at cy
          have hne : w.heap.size ≠ w2.heap.size := by omega
          clear hc hM hown7 hS2 hB7 hXz HY hf
          go_wp2_with (go_at_call 18; with_reducible refine cy.mono ?_; rintro e w8 ⟨rfl, hb8⟩; refine Hid.out ?_)
          have d68 := keepc hb8 d6
          have hX8 : w8.heap[w2.heap.size]? = _ := (hb8.block _ (Array.getElem?_eq_some_iff.1 hXc).1).trans hXc
          obtain ⟨X0, X1, X2, X3, _⟩ := cells4 hX8
          have hltX8 : w2.heap.size < w8.heap.size := (Array.getElem?_eq_some_iff.1 hX8).1
          have hlt68 : w.heap.size < w8.heap.size := World.block_lt_of_cell? _ _ d68
          have hbf := bel_via hbwc hb8
          clear cy d6 i0 o0 e0 e1 e2 e3 e4 e5 e6 x0d x1d x2d x3d x4d x5d x6d x7d y6d hb8 hX8 hXc hD7 hs7 hbw hbwc
          refine Lib.hid ?_
          rcases HXY.out with ⟨g, rfl, rfl, rfl, rfl⟩ | ⟨g, rfl, rfl, rfl, rfl⟩ | ⟨g, g2, g3⟩
          · clear HXY
            have gd : decide (0 ≤ y1) = true := by simp [g]
            go_wp2
            go_ret
            exact ⟨by simp, Below.al hbf _⟩
          · clear HXY
            have gd : decide (0 ≤ y1) = false := by simp; omega
            go_wp2
            go_ret
            exact ⟨by simp, by repeat (first | exact hbf | apply Below.dr | apply Below.al)⟩
          · clear HXY
            have gd : decide (0 ≤ x1) = false := by simp; omega
            have gd2 : decide (y1 < 0) = false := by simp; omega
            have gd3 : decide ((c.un : Int) ≤ y1) = true := by simp; omega
            go_wp2
            go_ret
            exact ⟨by simp, by repeat (first | exact hbf | apply Below.dr | apply Below.al)⟩
    · have hmd : decide (256 < mn) = true := by simp; omega
      have hmi : (256 : Int) < (mn : Int) := by omega
      clear hc hf hM cx cr hC HY HXY
      go_wp2
      go_ret
      exact ⟨rfl, bel_via hb hb1⟩
end Go.Proofs.Ytplfmgcgniledaa
