/- RulesAny: the walk of the law; by-name template (gen_rany.py). -/
import Derived.Test.YtplfmgcgniledaaRHeavy
import Derived.Test.YtplfmgcgniledaaRChoose
namespace Go.Proofs.Ytplfmgcgniledaa
open Go.Shelf Go.RowKit Go.Lib Go.Sort
set_option linter.unusedVariables false
set_option linter.unusedSimpArgs false

def anyB : ByteArray := { data := #[97, 110, 121] }
def anyU (act : Int) : UR := ⟨anyB, anyB, anyB, anyB, anyB, act, ByteArray.empty, false⟩
/-- A configuration with other rules. -/
def CF.wr (c : CF) (A : Option Addr) (n cap : Nat) (l : List UR) : CF := ⟨c.zA, c.zn, c.zc, c.zs, c.oA, c.on, c.oc, c.os, c.sA, c.sn, c.sc, c.ss, c.lA, c.ln, c.lc, c.ls, c.tA, c.tn, c.tc, c.ts, c.nA, c.nn, c.nc, c.ns, A, n, cap, l, c.dflt⟩
theorem CF.Ok.wr {w : World} {c : CF} (h : c.Ok w) {A : Option Addr} {n cap : Nat} {l : List UR} (hS : Sl w 8 urc A n l) : (c.wr A n cap l).Ok w :=
  ⟨h.z, h.o, h.s, h.l, h.t, h.n, hS, h.zi, h.oi, h.nw⟩
theorem rule_info : (Try.prog.info? 63).map (fun i => (i.zero, i.size, i.bytes)) = some (some (.agg #[.string ByteArray.empty, .string ByteArray.empty, .string ByteArray.empty, .string ByteArray.empty, .string ByteArray.empty, .int .i64 0, .string ByteArray.empty, .bool false]), 8, 112) := by kernel_rfl
theorem own_set {w : World} {base : Nat} {e : TypeId} {size : Nat} {v : Value} {n : Nat} {xs : List Value} (h : w.ownsRow base e size v n xs) {B : Nat} (hB : B < base) (o : Nat) (x : Value) : (w.setCell ⟨B, o, none⟩ x).ownsRow base e size v n xs := by
  obtain ⟨h0, h | ⟨g, cap, cur, hv, hb, hg, h1, h2, h3, h4⟩⟩ := h
  · exact ⟨h0, .inl h⟩
  · exact ⟨h0, .inr ⟨g, cap, cur, hv, hb, (set_other (by omega) o x).trans hg, h1, h2, h3, h4⟩⟩
theorem any_choose (c : CF) (A : Option Addr) (n cap : Nat) (l : List UR) (act hi ho : Int) (k : KR) : chooseT (c.wr A n cap (anyU act :: l)) hi ho k = .agg #[.int .i64 act, .int .i64 0, .int .i64 (-1), .bool false] := by
  have hA : isAny anyB = true := by kernel_rfl
  have hm : matchP (c.wr A n cap (anyU act :: l)) (anyU act) hi ho k = true := by
    simp [matchP, zoneQ, withinP, servesP, anyU, hA]
  have h0 : (c.wr A n cap (anyU act :: l)).us[0]? = some (anyU act) := rfl
  have hl : limP (c.wr A n cap (anyU act :: l)) (anyU act).lim = -1 := by unfold limP; exact if_pos (by show ByteArray.empty.toList = []; kernel_rfl)
  unfold chooseT
  rw [find_hit h0 hm (fun j y hj => absurd hj (Nat.not_lt_zero _)), pl_hit h0 hm (fun j y hj => absurd hj (Nat.not_lt_zero _))]
  simp only [hl]
  rfl

set_option maxHeartbeats 16000000 in
set_option maxRecDepth 100000 in
theorem any_law (c : CF) (hi ho : Int) (k : KR) (act : Int) {w : World} (hc : c.Ok w) (hf : c.Fit) (hn : c.uA = none → c.uc = 0) :
    Calls Try.prog 8 #[.agg (cfc c), .agg (Value.int .i64 hi :: .int .i64 ho :: krc k).toArray, .int .i64 act] w fun e w' => e = .returned (.bool true) ∧ Below w.heap.size w w' := by
  obtain ⟨iu, hiu, hu0, hu1, hu2⟩ := info_parts rule_info
  obtain ⟨w0, hw0⟩ : ∃ w0, w0 = (w.alloc (.cells (cfc c) 35)).alloc (.cells (Value.int .i64 hi :: .int .i64 ho :: krc k).toArray 57) := ⟨_, rfl⟩
  have hb : Below w.heap.size w w0 := by rw [hw0]; exact Below.al (Below.al (Below.refl _ _) _) _
  have hC : ∀ w', Below w0.heap.size w0 w' → CfB w' w.heap.size c ∧ HdB w' (w.heap.size + 1) hi ho k := by
    intro w' h
    refine ⟨CfB.keep ?_ h, HdB.keep ?_ h⟩
    · rw [hw0]; exact (CfB.made w c).keep (Below.al (Below.refl _ _) _)
    · rw [hw0]; have := HdB.made (w.alloc (.cells (cfc c) 35)) hi ho k; simpa using this
  have ch := heavy_any c (hc.keep hb) hf
  have hsz0 : w0.heap.size = w.heap.size + 2 := by rw [hw0]; simp
  obtain ⟨⟨c0, c1, c2, c3, c4, c5, c6, c7⟩, h0, h1, k0, k1, k2, k3, k4, k5, k6⟩ := hC w0 (Below.refl _ _)
  have hlenU := hc.u.len
  have HlenU := Lib.hid hlenU
  have Hsz0 := Lib.hid hsz0
  clear hlenU hsz0
  obtain ⟨kp, ksh, ksl, kdh, kdl, ksp, kdp⟩ := k
  simp only [krc, Nat.reduceAdd] at *
  simp only [cfc] at ch hw0 ⊢
  subst hw0
  go_enter Try.func8, Try.ntmps8
  go_wp2_with fail
  refine ch.mono ?_
  rintro e w1 ⟨hv, rfl, hun, hb1⟩
  cases hv with
  | true =>
    go_wp2
    go_ret
    exact ⟨rfl, bel_via hb hb1⟩
  | false =>
    have hun4 : c.un ≤ 4096 := hun rfl
    generalize (w.alloc (.cells #[.slice c.zA c.zn c.zc, .slice c.oA c.on c.oc, .slice c.sA c.sn c.sc, .slice c.lA c.ln c.lc, .slice c.tA c.tn c.tc, .slice c.nA c.nn c.nc, .slice c.uA c.un c.uc, .int .i64 c.dflt] 35)).alloc (.cells #[.int .i64 hi, .int .i64 ho, .int .i64 kp, .int .u64 ksh, .int .u64 ksl, .int .u64 kdh, .int .u64 kdl, .int .i64 ksp, .int .i64 kdp] 57) = w0 at *
    obtain ⟨⟨d0, d1, d2, d3, d4, d5, d6, d7⟩, i0, o0, e0, e1, e2, e3, e4, e5, e6⟩ := hC w1 hb1
    simp only [Nat.reduceAdd] at e0 e1 e2 e3 e4 e5 e6
    have hlt0 : w.heap.size + 2 ≤ w1.heap.size := by have := hb1.size; have := Hsz0.out; omega
    clear c0 c1 c2 c3 c4 c5 c6 c7 h0 h1 k0 k1 k2 k3 k4 k5 k6 ch hun
    go_wp2_with (at_builtin; refine wpList_append_own _ rfl _ _ 33 rfl (w1.heap.size + 1 + 1) 63 iu (.agg #[.string ByteArray.empty, .string ByteArray.empty, .string ByteArray.empty, .string ByteArray.empty, .string ByteArray.empty, .int .i64 0, .string ByteArray.empty, .bool false]) 8 112 Try.underlying33 hiu hu0 hu1 hu2 rfl (by decide) _ _ _ rfl (World.ownsRow_nil _ _ _ _) ⟨w1.heap.size + 1, 0, none⟩ 1 1 [.string { data := #[97, 110, 121] }, .string { data := #[97, 110, 121] }, .string { data := #[97, 110, 121] }, .string { data := #[97, 110, 121] }, .string { data := #[97, 110, 121] }, .int .i64 act, .string { data := #[] }, .bool false] rfl rfl (by intro j u' hj; have hj8 : j < 8 := (List.getElem?_eq_some_iff.1 hj).1; match j, hj8, hj with | 0, _, hj => (simp at hj; subst hj; simp [Addr.add]) | 1, _, hj => (simp at hj; subst hj; simp [Addr.add]) | 2, _, hj => (simp at hj; subst hj; simp [Addr.add]) | 3, _, hj => (simp at hj; subst hj; simp [Addr.add]) | 4, _, hj => (simp at hj; subst hj; simp [Addr.add]) | 5, _, hj => (simp at hj; subst hj; simp [Addr.add]) | 6, _, hj => (simp at hj; subst hj; simp [Addr.add]) | 7, _, hj => (simp at hj; subst hj; simp [Addr.add])) ?c2 (by unfold maxLen; omega) (by omega) (by simp) ?_)
    case c2 => intro u' hu'; simp at hu'; rcases hu' with rfl | rfl | rfl | rfl <;> rfl
    intro v1 w2 hown hgrow _
    obtain ⟨A1, cap1, rfl, -, -⟩ := sl_of_own (k := 8) (enc := urc) (fun _ => rfl) (l := [anyU act]) hown rfl
    have hB2 : Below w1.heap.size w1 w2 := (Below.al (Below.al (Below.refl _ w1) (.cells #[.slice c.zA c.zn c.zc, .slice c.oA c.on c.oc, .slice c.sA c.sn c.sc, .slice c.lA c.ln c.lc, .slice c.tA c.tn c.tc, .slice c.nA c.nn c.nc, .slice none 0 0, .int .i64 c.dflt] 35)) (.cells #[.string { data := #[97, 110, 121] }, .string { data := #[97, 110, 121] }, .string { data := #[97, 110, 121] }, .string { data := #[97, 110, 121] }, .string { data := #[97, 110, 121] }, .int .i64 act, .string { data := #[] }, .bool false] 63)).grown hgrow (by simp; omega) (fun q hq => by simp [Value.ownBlock] at hq)
    have hD2 : w2.heap[w1.heap.size]? = some (.cells #[.slice c.zA c.zn c.zc, .slice c.oA c.on c.oc, .slice c.sA c.sn c.sc, .slice c.lA c.ln c.lc, .slice c.tA c.tn c.tc, .slice c.nA c.nn c.nc, .slice none 0 0, .int .i64 c.dflt] 35 (0, 0)) := by
      rw [hgrow.block _ (by simp; omega) (by simp [Value.ownBlock])]
      exact (al_old (by simp) _).trans (al_new rfl _)
    have hbw2 := bel_via hb1 hB2
    obtain ⟨⟨c0, c1, c2, c3, c4, c5, c6, c7⟩, h0, h1, k0, k1, k2, k3, k4, k5, k6⟩ := hC w2 hbw2
    simp only [Nat.reduceAdd] at k0 k1 k2 k3 k4 k5 k6
    have x0 : w2.cell? ⟨w1.heap.size, 0, none⟩ = some (.slice c.zA c.zn c.zc) := by simp [World.cell?, hD2]
    have x1 : w2.cell? ⟨w1.heap.size, 1, none⟩ = some (.slice c.oA c.on c.oc) := by simp [World.cell?, hD2]
    have x2 : w2.cell? ⟨w1.heap.size, 2, none⟩ = some (.slice c.sA c.sn c.sc) := by simp [World.cell?, hD2]
    have x3 : w2.cell? ⟨w1.heap.size, 3, none⟩ = some (.slice c.lA c.ln c.lc) := by simp [World.cell?, hD2]
    have x4 : w2.cell? ⟨w1.heap.size, 4, none⟩ = some (.slice c.tA c.tn c.tc) := by simp [World.cell?, hD2]
    have x5 : w2.cell? ⟨w1.heap.size, 5, none⟩ = some (.slice c.nA c.nn c.nc) := by simp [World.cell?, hD2]
    have x6 : w2.cell? ⟨w1.heap.size, 6, none⟩ = some (.slice none 0 0) := by simp [World.cell?, hD2]
    have x7 : w2.cell? ⟨w1.heap.size, 7, none⟩ = some (.int .i64 c.dflt) := by simp [World.cell?, hD2]
    have y6 : w2.frozen? ⟨w1.heap.size, 6, none⟩ = false := by simp [World.frozen?, hD2]
    have hltD2 : w1.heap.size < w2.heap.size := (Array.getElem?_eq_some_iff.1 hD2).1
    clear d0 d1 d2 d3 d4 d5 d6 d7 i0 o0 e0 e1 e2 e3 e4 e5 e6
    have hown' := own_set hown (B := w1.heap.size) (by omega) 6 (Value.slice A1 1 cap1)
    have hD3 : (w2.setCell ⟨w1.heap.size, 6, none⟩ (Value.slice A1 1 cap1)).heap[w1.heap.size]? = some (.cells #[.slice c.zA c.zn c.zc, .slice c.oA c.on c.oc, .slice c.sA c.sn c.sc, .slice c.lA c.ln c.lc, .slice c.tA c.tn c.tc, .slice c.nA c.nn c.nc, (Value.slice A1 1 cap1), .int .i64 c.dflt] 35 (0, 0)) := by simp [World.setCell, Array.getElem?_modify, hD2]
    have hB3 : Below w1.heap.size w1 (w2.setCell ⟨w1.heap.size, 6, none⟩ (Value.slice A1 1 cap1)) := below_set hB2 (Nat.le_refl _) 6 (Value.slice A1 1 cap1)
    have hbw3 := bel_via hb1 hB3
    have hsz3 : w1.heap.size + 1 + 1 ≤ (w2.setCell ⟨w1.heap.size, 6, none⟩ (Value.slice A1 1 cap1)).heap.size := by
      have := hgrow.size; simp [World.setCell] at this ⊢; omega
    have FIN : ∀ (v2 : Value) (w3 : World), w3.ownsRow (w1.heap.size + 1 + 1) 63 8 v2 (1 + c.un) ([.string { data := #[97, 110, 121] }, .string { data := #[97, 110, 121] }, .string { data := #[97, 110, 121] }, .string { data := #[97, 110, 121] }, .string { data := #[97, 110, 121] }, .int .i64 act, .string { data := #[] }, .bool false] ++ c.us.flatMap urc) → (w2.setCell ⟨w1.heap.size, 6, none⟩ (Value.slice A1 1 cap1)).grownBy w3 (Value.slice A1 1 cap1).ownBlock → ∃ A2 cap2, v2 = .slice A2 (1 + c.un) cap2 ∧ w3.heap[w1.heap.size]? = some (.cells #[.slice c.zA c.zn c.zc, .slice c.oA c.on c.oc, .slice c.sA c.sn c.sc, .slice c.lA c.ln c.lc, .slice c.tA c.tn c.tc, .slice c.nA c.nn c.nc, (Value.slice A1 1 cap1), .int .i64 c.dflt] 35 (0, 0)) ∧ Below w0.heap.size w0 w3 ∧ Calls Try.prog 18 #[.agg #[.slice c.zA c.zn c.zc, .slice c.oA c.on c.oc, .slice c.sA c.sn c.sc, .slice c.lA c.ln c.lc, .slice c.tA c.tn c.tc, .slice c.nA c.nn c.nc, .slice A2 (1 + c.un) cap2, .int .i64 c.dflt], .agg #[.int .i64 hi, .int .i64 ho, .int .i64 kp, .int .u64 ksh, .int .u64 ksl, .int .u64 kdh, .int .u64 kdl, .int .i64 ksp, .int .i64 kdp]] (w3.setCell ⟨w1.heap.size, 6, none⟩ (.slice A2 (1 + c.un) cap2)) fun e w' => e = .returned (.agg #[.int .i64 act, .int .i64 0, .int .i64 (-1), .bool false]) ∧ Below (w3.setCell ⟨w1.heap.size, 6, none⟩ (.slice A2 (1 + c.un) cap2)).heap.size (w3.setCell ⟨w1.heap.size, 6, none⟩ (.slice A2 (1 + c.un) cap2)) w' := by
      intro v2 w3 hown2 hg2
      obtain ⟨A2, cap2, rfl, hS2, hA2⟩ := sl_of_own (k := 8) (enc := urc) (fun _ => rfl) (l := anyU act :: c.us) hown2 (by rw [List.length_cons, HlenU.out]; omega)
      have hne : (Value.slice A1 1 cap1).ownBlock ≠ some w1.heap.size := fun h => by have := (hown'.lt _ h).1; omega
      have hD4 : w3.heap[w1.heap.size]? = some (.cells #[.slice c.zA c.zn c.zc, .slice c.oA c.on c.oc, .slice c.sA c.sn c.sc, .slice c.lA c.ln c.lc, .slice c.tA c.tn c.tc, .slice c.nA c.nn c.nc, (Value.slice A1 1 cap1), .int .i64 c.dflt] 35 (0, 0)) := by rw [hg2.block _ (by omega) (fun h => hne h.symm)]; exact hD3
      have hB4 : Below w1.heap.size w1 w3 := hB3.grown hg2 (by omega) (fun q hq => by have := (hown'.lt q hq).1; omega)
      have hbw4 := bel_via hb1 hB4
      refine ⟨A2, cap2, rfl, hD4, hbw4, ?_⟩
      have hb5 : Below w.heap.size w (w3.setCell ⟨w1.heap.size, 6, none⟩ (.slice A2 (1 + c.un) cap2)) := below_set (bel_via hb hbw4) (by omega) 6 _
      have := choose_any (c.wr A2 (1 + c.un) cap2 (anyU act :: c.us)) hi ho ⟨kp, ksh, ksl, kdh, kdl, ksp, kdp⟩ ((hc.keep hb5).wr (hS2.set (B := w1.heap.size) (fun b off sp h => by have := hA2 b off sp h; omega) 6 _))
      rw [any_choose] at this
      exact this
    have hrules := (hc.u.keep hb).keep hbw3
    clear hown hgrow hc hf hB2 hD2
    rcases hun0 : c.uA with _ | ad
    · have hz : c.un = 0 := by
        by_cases h : 0 < c.un
        · obtain ⟨b, off, hA, _⟩ := hrules.row h
          rw [hun0] at hA; cases hA
        · omega
      have hus : c.us = [] := List.eq_nil_of_length_eq_zero (by rw [HlenU.out]; exact hz)
      have c6' : w2.cell? ⟨w.heap.size, 6, none⟩ = some (.slice none 0 0) := by rw [c6, hun0, hz, hn hun0]
      obtain ⟨A2, cap2, hv2, hD4, hbw4, CC⟩ := FIN (Value.slice A1 1 cap1) (w2.setCell ⟨w1.heap.size, 6, none⟩ (Value.slice A1 1 cap1)) (by rw [hz, hus]; simpa using hown') ⟨rfl, rfl, rfl, Nat.le_refl _, fun _ _ _ => rfl⟩
      simp only [Value.slice.injEq] at hv2
      obtain ⟨rfl, hv3, rfl⟩ := hv2
      rw [← hv3] at CC
      clear FIN c6 hn hun0 hz hus hv3
      go_wp2_with (first | (at_builtin; go_loud (refine wpList_append_own_none rfl _ _ 33 rfl (w1.heap.size + 1 + 1) 63 iu 8 Try.underlying33 hiu _ _ _ rfl hown' rfl ?_)) | (go_at_call 18; with_reducible refine CC.mono ?_; rintro e w9 ⟨rfl, hb9⟩))
      go_ret
      exact ⟨by simp, bel_via (below_set (bel_via hb hbw4) (by omega) 6 _) hb9⟩
    · have c6' : w2.cell? ⟨w.heap.size, 6, none⟩ = some (.slice (some ad) c.un c.uc) := by rw [c6, hun0]
      have hfl : (c.us.flatMap urc).length = c.un * 8 := by rw [flat_len (k := 8) (fun _ => rfl), HlenU.out]
      have hml : 1 + c.un ≤ maxLen := by unfold maxLen; omega
      have hby : (1 + c.un) * 112 ≤ 140737488355328 := by omega
      clear c6 hn
      go_wp2_with (at_builtin; go_loud (refine wpList_append_own _ rfl _ _ 33 rfl (w1.heap.size + 1 + 1) 63 iu (.agg #[.string ByteArray.empty, .string ByteArray.empty, .string ByteArray.empty, .string ByteArray.empty, .string ByteArray.empty, .int .i64 0, .string ByteArray.empty, .bool false]) 8 112 Try.underlying33 hiu hu0 hu1 hu2 rfl (by decide) _ _ _ rfl hown' ad c.un c.uc (c.us.flatMap urc) rfl hfl ?n1 ?n2 hml hby hsz3 ?_))
      case n1 => exact hrules.news (k := 8) (fun _ => rfl) hun0
      case n2 =>
        intro u' hu'
        obtain ⟨y, _, hy⟩ := List.mem_flatMap.1 hu'
        simp [urc] at hy
        rcases hy with rfl | rfl | rfl | rfl | rfl | rfl | rfl | rfl <;> rfl
      intro v2 w3 hown2 hg2 _
      obtain ⟨A2, cap2, hv2, hD4, hbw4, CC⟩ := FIN v2 w3 hown2 hg2
      subst hv2
      clear FIN hun0 hrules hown' hown2 hD3 hB3 hbw3 hsz3 hfl hml hby x0 x1 x2 x3 x4 x5 x6 x7 y6 c0 c1 c2 c3 c4 c5 c6' c7 h0 h1 k0 k1 k2 k3 k4 k5 k6 hg2
      have x0 : w3.cell? ⟨w1.heap.size, 0, none⟩ = some (.slice c.zA c.zn c.zc) := by simp [World.cell?, hD4]
      have x1 : w3.cell? ⟨w1.heap.size, 1, none⟩ = some (.slice c.oA c.on c.oc) := by simp [World.cell?, hD4]
      have x2 : w3.cell? ⟨w1.heap.size, 2, none⟩ = some (.slice c.sA c.sn c.sc) := by simp [World.cell?, hD4]
      have x3 : w3.cell? ⟨w1.heap.size, 3, none⟩ = some (.slice c.lA c.ln c.lc) := by simp [World.cell?, hD4]
      have x4 : w3.cell? ⟨w1.heap.size, 4, none⟩ = some (.slice c.tA c.tn c.tc) := by simp [World.cell?, hD4]
      have x5 : w3.cell? ⟨w1.heap.size, 5, none⟩ = some (.slice c.nA c.nn c.nc) := by simp [World.cell?, hD4]
      have x6 : w3.cell? ⟨w1.heap.size, 6, none⟩ = some (Value.slice A1 1 cap1) := by simp [World.cell?, hD4]
      have x7 : w3.cell? ⟨w1.heap.size, 7, none⟩ = some (.int .i64 c.dflt) := by simp [World.cell?, hD4]
      have y6 : w3.frozen? ⟨w1.heap.size, 6, none⟩ = false := by simp [World.frozen?, hD4]
      have hltD3 : w1.heap.size < w3.heap.size := (Array.getElem?_eq_some_iff.1 hD4).1
      obtain ⟨_, i0, o0, e0, e1, e2, e3, e4, e5, e6⟩ := hC w3 hbw4
      simp only [Nat.reduceAdd] at e0 e1 e2 e3 e4 e5 e6
      go_wp2_with (go_at_call 18; with_reducible refine CC.mono ?_; rintro e w9 ⟨rfl, hb9⟩)
      go_ret
      exact ⟨by simp, bel_via (below_set (bel_via hb hbw4) (by omega) 6 _) hb9⟩
end Go.Proofs.Ytplfmgcgniledaa
