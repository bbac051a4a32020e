/- ClassifyFirst: the walk; by-name template (gen_kfi.py). -/
import Derived.Test.YtceillkifchkdaaKFiP
import Derived.Test.YtceillkifchkdaaKRBuild
namespace Go.Proofs.Ytceillkifchkdaa
open Go.RowKit Go.Lib Go.Sort
set_option linter.unusedVariables false
set_option linter.unusedSimpArgs false

theorem encP_row {w : World} {b off i : Nat} {l : List (Nat → P2)} {x : Nat → P2} (h : ∀ j y, l[j]? = some y → ∀ t v, ((ptc y).toList)[t]? = some v → w.cell? ⟨b, off + j * 12 + t, none⟩ = some v) (hx : l[i]? = some x) :
    ∀ j v, (ptc x).toList[j]? = some v → w.cell? ((⟨b, off + i * 12, none⟩ : Addr).add j) = some v := by
  intro j v hj
  have := h i x hx j v hj
  have e : (⟨b, off + i * 12, none⟩ : Addr).add j = ⟨b, off + i * 12 + j, none⟩ := by unfold Addr.add; split <;> simp_all
  rw [e]; exact this
set_option maxRecDepth 100000 in
set_option maxHeartbeats 8000000 in
theorem cfirst_core (A : Option Addr) (n c : Nat) (l : List EN) (AP : Option Addr) (np cp : Nat) (pts : List (Nat → P2)) (hn : n ≤ 512) (hnp : np ≤ 512) (w : World) (hS : Sl w 25 enc25 A n l) (hSP : Sl w 12 (fun p : Nat → P2 => (ptc p).toList) AP np pts) (hw : ∀ e ∈ l, WB e.bx) (hc : A = none → c = 0) (hwp : ∀ p ∈ pts, WP p) :
    Calls Try.prog 8 #[.slice A n c, .slice AP np cp] w (LawPost w) := by
  obtain ⟨M, hM⟩ : ∃ M, M = LawPost w := ⟨_, rfl⟩
  rw [← hM]
  have FIN0 : ∀ W, Below w.heap.size w W → M (.returned (.bool true)) W := fun W h => by rw [hM]; exact ⟨rfl, h⟩
  have FIN := Lib.hid FIN0
  clear FIN0 hM
  have hl5 : (leftP fullB l).length ≤ 512 := Nat.le_trans (left_len _ _) (by rw [hS.len]; exact hn)
  have ba := fun (W : World) (h : Sl W 25 enc25 A n l) => build_any A n c l (by omega) hl5 hw W h
  have rb := fun (W : World) (h : Sl W 25 enc25 A n l) => rbuild_any A n c l (by omega) hl5 hc hw W h
  have gf := fun (p : Nat → P2) (hp : WP p) (t : TN) (m : Nat) (h : treeP l = some (t, m)) => grow_find hp 23 fullB wb_full l hw 512 t m h (hp_full hp)
  have gl := fun (t : TN) (m : Nat) (h : treeP l = some (t, m)) => grow_leafs 23 fullB l 512 t m h
  have gc := fun (t : TN) (m : Nat) (h : treeP l = some (t, m)) => grow_count 23 fullB l 512 t m h
  obtain ⟨R, hR⟩ : ∃ R, R = treeP l := ⟨_, rfl⟩
  simp only [← hR] at ba rb gf gl gc
  clear hR hw
  have h1 : decide ((512 : Int) < (n : Int)) = false := by simp; omega
  have h2 : decide ((512 : Int) < (np : Int)) = false := by simp; omega
  have bz := Below.refl w.heap.size w
  cases R with
  | none =>
    go_enter Try.func8, Try.ntmps8
    go_wp2_with (first | (go_at_call 19; go_loud (with_reducible refine (ba _ hS).mono ?_); rintro e w1 ⟨rfl, hb⟩; have hS1 := hS.keep hb) | (go_at_call 20; go_loud (with_reducible refine (rb _ hS1).mono ?_); rintro e w2 ⟨rfl, hb2⟩))
    first | exact FIN.out _ (bel_via hb hb2) | (go_ret; exact FIN.out _ (bel_via hb hb2))
  | some q =>
    obtain ⟨t, m⟩ := q
    have hcnt := gc t m rfl
    have hpos := t.count_pos
    have hlf := gl t m rfl
    have hff := fun (p : Nat → P2) (hp : WP p) => gf p hp t m rfl
    have hbig : t.count ≤ 4096 := by omega
    have hno := fun (B : Nat) (W : World) (h : TreeAt W B l t) => nodes_any B l t W h hbig
    have hfd := fun (p : Nat → P2) (B : Nat) (W : World) (h : TreeAt W B l t) => find_any p B l t hbig (fun q hq => Nat.le_trans (hlf q hq) (by omega)) W h
    have hfi := fun (p : Nat → P2) (W : World) (h : Sl W 25 enc25 A n l) => first_any p A n c l (by omega) W h
    have hff := Lib.hid hff
    clear gf gl gc hlf
    go_enter Try.func8, Try.ntmps8
    go_upto_region 7 with (first | (go_at_call 19; go_loud (with_reducible refine (ba _ hS).mono ?_); rintro e w1 ⟨B, rfl, _, hT, hb⟩; replace hS := hS.keep hb; replace hSP := hSP.keep hb; replace bz := bel_via bz hb; clear hb) | (go_at_call 20; go_loud (with_reducible refine (rb _ hS).mono ?_); rintro e w2 ⟨TT, rfl, _, _, hb⟩; replace hS := hS.keep hb; replace hSP := hSP.keep hb; replace hT := hT.keep hb; replace bz := bel_via bz hb; clear hb))
    clear ba rb
    go_wp2_with fail
    go_loopw [9] (fun v9 wr => ∃ i : Nat, v9 = .int .i64 i ∧ i ≤ np ∧ Below w2.heap.size w2 wr) (fun v9 _ => np - (intOf v9).toNat)
    case atStart => exact ⟨0, rfl, by omega, Below.refl _ _⟩
    case round =>
      obtain ⟨i, rfl, hi, bw⟩ := hrel
      by_cases hlt : i < np
      · have hml : i < pts.length := by rw [hSP.len]; exact hlt
        obtain ⟨p, hp⟩ : ∃ p, pts[i]? = some p := ⟨_, List.getElem?_eq_getElem hml⟩
        obtain ⟨b1, o1, hA1, _, hr1⟩ := hSP.row (by omega)
        have hcell := encP_row hr1 hp
        have iC := inf38 p
        obtain ⟨e1, e2, e3, e4⟩ := hff.out p (hwp p (List.mem_of_getElem? hp))
        have fd := fun (B : Nat) (W : World) (h : TreeAt W B l t) => hfd p B W h
        have fi := fun (W : World) (h : Sl W 25 enc25 A n l) => hfi p W h
        unfold FindPost at fd
        simp only [e1] at fd
        obtain ⟨R0, hR0⟩ : ∃ R, R = (leafF l p).1 := ⟨_, rfl⟩
        simp only [← hR0] at fd fi
        obtain ⟨C, hC⟩ : ∃ C, C = ptc p := ⟨_, rfl⟩
        simp only [← hC] at fd fi
        rw [← hC] at hcell iC
        generalize (findP p t).2.1 = vv at *
        generalize (findP p t).2.2 = cc at *
        have iC := Lib.hid iC
        have q0 : ∀ j v, C.toList[j]? = some v → wr.cell? ((⟨b1, o1 + i * 12, none⟩ : Addr).add j) = some v := fun j v hj => keepc bw (hcell j v hj)
        have q0 := Lib.hid q0
        have hTw := hT.keep bw
        have hSw := hS.keep bw
        subst hA1
        have hlti : (i : Int) < (np : Int) := by omega
        have hdn : decide (i < np) = true := by simp [hlt]
        have hne : (R0 != R0) = false := by simp
        have d1 : decide ((vv : Int) < 1) = false := by simp; omega
        have d2 : decide ((24 : Int) < (vv : Int)) = false := by simp; omega
        have d3 : decide ((cc : Int) < 0) = false := by simp
        have d4 : decide ((8 : Int) < (cc : Int)) = false := by simp; omega
        have d5 : (vv : Int) ≥ 1 := by omega
        clear hr1 hcell hp hR0 hC e1 e2 e3 e4
        obtain ⟨w4, hw4⟩ : ∃ x, x = wr := ⟨_, rfl⟩
        subst hw4
        have hz := Below.refl w4.heap.size w4
        go_wp2_with (first
          | (refine wpList_load_cells rfl 58 (.tmp 51) rfl ⟨b1, o1 + i * 12, none⟩ rfl C _ q0.out Try.underlying58 rfl iC.out ?_)
          | (refine wpList_load_cells rfl 58 (.tmp 61) rfl ⟨b1, o1 + i * 12, none⟩ rfl C _ q0.out Try.underlying58 rfl iC.out ?_)
          | (go_at_call 26; go_loud (with_reducible refine (fd _ _ hTw).mono ?_); rintro e w5 ⟨rfl, hb⟩; have hSw := hSw.keep hb; have q0 := Lib.hid (fun j v hj => keepc hb (q0.out j v hj)); replace hz := bel_via hz hb; clear hb fd)
          | (go_at_call 27; go_loud (with_reducible refine (fi _ hSw).mono ?_); rintro e w6 ⟨rfl, hb⟩; replace hz := bel_via hz hb; clear hb))
        refine ⟨?_, by simp [intOf]; omega⟩
        first | exact ⟨i + 1, by simp, by omega, bel_via bw hz⟩ | ((repeat apply Exists.intro); exact ⟨⟨i + 1, by simp, by omega, bel_via bw hz⟩, rfl⟩)
      · obtain rfl : i = np := by omega
        have hd0 : decide (i < i) = false := by simp
        have hdi : decide ((i : Int) < (i : Int)) = false := by simp
        have hT2 := hT.keep bw
        have bz2 := bel_via bz bw
        have k1 : decide ((1 : Int) ≤ (t.count : Int)) = true := by simp; omega
        have k2 : decide ((t.count : Int) ≤ 512) = true := by simp; omega
        obtain ⟨nn, hnn⟩ : ∃ n, n = t.count := ⟨_, rfl⟩
        simp only [← hnn] at hno k1 k2
        clear hnn hcnt hpos hbig
        go_wp2_with (go_at_call 25; go_loud (with_reducible refine (hno _ _ hT2).mono ?_); rintro e w7 ⟨rfl, hb⟩; replace hT2 := hT2.keep hb; replace bz2 := bel_via bz2 hb; clear hb)
        first | exact FIN.out _ bz2 | (go_ret; exact FIN.out _ bz2)
set_option maxRecDepth 100000 in
set_option maxHeartbeats 4000000 in
theorem cfirst_any (A : Option Addr) (n c : Nat) (l : List EN) (AP : Option Addr) (np cp : Nat) (pts : List (Nat → P2)) (w : World) (hS : Sl w 25 enc25 A n l) (hSP : Sl w 12 (fun p : Nat → P2 => (ptc p).toList) AP np pts) (hw : ∀ e ∈ l, WB e.bx) (hc : A = none → c = 0) (hwp : ∀ p ∈ pts, WP p) :
    Calls Try.prog 8 #[.slice A n c, .slice AP np cp] w (LawPost w) := by
  by_cases hn : n ≤ 512
  · by_cases hnp : np ≤ 512
    · exact cfirst_core A n c l AP np cp pts hn hnp w hS hSP hw hc hwp
    · unfold LawPost
      have h1 : decide ((512 : Int) < (n : Int)) = false := by simp; omega
      have h2 : decide ((512 : Int) < (np : Int)) = true := by simp; omega
      clear hS hSP hw hc hwp hn hnp
      go_enter Try.func8, Try.ntmps8
      go_wp2_with fail
      go_ret
      exact ⟨rfl, Below.refl _ _⟩
  · unfold LawPost
    have h1 : decide ((512 : Int) < (n : Int)) = true := by simp; omega
    clear hS hSP hw hc hwp hn
    go_enter Try.func8, Try.ntmps8
    go_wp2_with fail
    go_ret
    exact ⟨rfl, Below.refl _ _⟩
end Go.Proofs.Ytceillkifchkdaa
