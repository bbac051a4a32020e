/- LangWords: the walk of the law; by-name template. -/
import Derived.Test.YtboflapaalabpaaLWWords
import Derived.Test.YtboflapaalabpaaLWRName
import Derived.Lib.QuietBelow
namespace Go.Proofs.Ytboflapaalabpaa
open Go.RowKit Go.Lib Go.Sort
set_option linter.unusedVariables false
set_option linter.unusedSimpArgs false

theorem bel_via {w w1 w2 : World} (h : Below w.heap.size w w1) (k : Below w1.heap.size w1 w2) : Below w.heap.size w w2 := h.trans (k.mono h.size)

/-- A slice of texts, as the walk reads it. -/
structure Tx (w : World) (v : Value) (l : List ByteArray) (A : Option Addr) (c : Nat) : Prop where
  v : v = .slice A l.length c
  big : l.length ≤ 9223372036854775807
  row : 0 < l.length → ∃ g, A = some ⟨g, 0, none⟩ ∧ g < w.heap.size ∧ ∀ j x, l[j]? = some x → w.cell? ⟨g, j, none⟩ = some (.string x)
theorem tx_of {w : World} {base : Nat} {v : Value} {l : List ByteArray} (h : Texts w base v l) : ∃ A c, Tx w v l A c := by
  have h0 := h
  unfold Texts at h
  obtain ⟨_, h | ⟨g, cap, cur, hv, hb, hg, hn, hc, _, _⟩⟩ := h
  · obtain ⟨rfl, hl⟩ := h
    exact ⟨none, 0, by rw [hl], by omega, fun h => absurd h (by omega)⟩
  · refine ⟨some ⟨g, 0, none⟩, cap, hv, by unfold maxLen at hc; omega, fun _ => ⟨g, rfl, (Array.getElem?_eq_some_iff.1 hg).1, fun j x hj => ?_⟩⟩
    have h1 := World.ownsRow.cells (h := h0) (g := g) (by rw [hv]; rfl) j (.string x) (by rw [List.getElem?_map, hj]; rfl)
    have e : (⟨g, 0, none⟩ : Addr).add j = ⟨g, j, none⟩ := by unfold Addr.add; split <;> simp_all
    rw [e] at h1
    exact h1
theorem Tx.keep {w w' : World} {v : Value} {l : List ByteArray} {A : Option Addr} {c : Nat} (h : Tx w v l A c) (hb : Below w.heap.size w w') : Tx w' v l A c :=
  ⟨h.v, h.big, fun hn => by
    obtain ⟨g, hA, hg, hc⟩ := h.row hn
    exact ⟨g, hA, Nat.lt_of_lt_of_le hg hb.size, fun j x hj => by rw [hb.cell (p := ⟨g, j, none⟩) hg]; exact hc j x hj⟩⟩

set_option maxHeartbeats 4000000 in
set_option maxRecDepth 100000 in
theorem same_any (v1 v2 : Value) (l : List ByteArray) (A1 A2 : Option Addr) (c1 c2 : Nat) {w : World} (h1 : Tx w v1 l A1 c1) (h2 : Tx w v2 l A2 c2) :
    Calls Try.prog 6 #[v1, v2] w fun e w' => e = .returned (.bool true) ∧ Below w.heap.size w w' := by
  obtain ⟨rfl, hbig, hr1⟩ := h1
  obtain ⟨rfl, _, hr2⟩ := h2
  obtain ⟨m, hm⟩ : ∃ m, m = l.length := ⟨_, rfl⟩
  rw [← hm] at hbig hr1 hr2 ⊢
  have HM := Lib.hid hm
  clear hm
  go_enter Try.func6, Try.ntmps6
  go_wp2
  go_loopw [5] (fun vi wr => ∃ i : Nat, i ≤ m ∧ vi = .int .i64 i ∧ Below w.heap.size w wr) (fun vi _ => m - (intOf vi).toNat)
  case atStart => exact ⟨0, by omega, rfl, Below.refl _ _⟩
  case round =>
    obtain ⟨i, hi, rfl, hbr⟩ := hrel
    by_cases hlt : i < m
    · have hlti : (i : Int) < (m : Int) := by omega
      obtain ⟨g1, hA1, hg1, hc1⟩ := hr1 (by omega)
      obtain ⟨g2, hA2, hg2, hc2⟩ := hr2 (by omega)
      obtain ⟨x, hx⟩ : ∃ x, l[i]? = some x := ⟨_, List.getElem?_eq_getElem (by rw [← HM.out]; exact hlt)⟩
      have q1 : wr.cell? ⟨g1, i, none⟩ = some (.string x) := by rw [hbr.cell (p := ⟨g1, i, none⟩) hg1]; exact hc1 i x hx
      have q2 : wr.cell? ⟨g2, i, none⟩ = some (.string x) := by rw [hbr.cell (p := ⟨g2, i, none⟩) hg2]; exact hc2 i x hx
      subst hA1 hA2
      have k1 := cell_regrown q1
      have k2 := cell_regrown q2
      clear hr1 hr2 hx hc1 hc2 q1 q2 hg1 hg2
      go_wp2
      refine wp_region_quiet_below (by kernel_rfl) (by kernel_rfl) ?_
      repeat (first | go_big_quiet_skip | quiet_step (fail))
      refine wpQuiet_nil ?_
      intro _ hw'
      obtain ⟨⟨dq, osq⟩, hw''⟩ := hw'
      subst hw''
      go_wp2
      go_roundw
      case rel => exact ⟨i + 1, by omega, by go_num, bel_via hbr (below_regrown _ _ _)⟩
      case measure => simp [intOf]; omega
    · obtain rfl : i = m := by omega
      clear hlt hr1 hr2
      go_wp2
      go_ret
      exact ⟨rfl, hbr⟩

set_option maxHeartbeats 4000000 in
set_option maxRecDepth 100000 in
theorem lang_words (s : ByteArray) {w : World} (hsh : w.ShapedOpen Try.prog) : Calls Try.prog 3 #[.string s] w fun e w' => e = .returned (.bool true) ∧ Below w.heap.size w w' := by
  by_cases hs : s.size ≤ 65536
  · have hsd : decide (65536 < s.size) = false := by simp; omega
    have hsi : ¬ (65536 : Int) < (s.size : Int) := by omega
    obtain ⟨n, hn, cp⟩ := words_any s hs w hsh
    have cr := rwords_any s hs n hn
    have cn := name_any s hs
    have crn := rname_any s hs
    clear hsh hn
    go_enter Try.func3, Try.ntmps3
    go_wp2_with fail
    refine cp.mono ?_
    rintro e w1 hw1
    rcases hw1 with ⟨hbad, rfl, hb1⟩ | ⟨hbad, v1, rfl, ht1, hb1⟩
    · go_wp2_with fail
      refine (cr w1).mono ?_
      rintro e w2 hw2
      rcases hw2 with ⟨_, rfl, hb2⟩ | ⟨hb, _⟩
      · have hb12 := bel_via hb1 hb2
        have cs := same_any (.slice none 0 0) (.slice none 0 0) [] none none 0 0 (w := w2) ⟨rfl, by simp, fun h => absurd h (by simp)⟩ ⟨rfl, by simp, fun h => absurd h (by simp)⟩
        clear cr cp hbad
        go_wp2_with fail
        refine cs.mono ?_
        rintro e w3 ⟨rfl, hb3⟩
        have hb123 := bel_via hb12 hb3
        clear cs hb12 hb3 hb1 hb2
        go_wp2_with fail
        refine (cn w3).mono ?_
        rintro e w4 ⟨b1, rfl, hi1, rfl⟩
        go_wp2_with fail
        refine (crn w3).mono ?_
        rintro e w5 ⟨b2, rfl, hi2, rfl⟩
        have hbe : b1 = b2 := by rw [Bool.eq_iff_iff]; exact hi1.trans hi2.symm
        subst hbe
        clear hi1 hi2 cn crn
        go_wp2
        go_ret
        exact ⟨by simp, hb123⟩
      · exact absurd hbad hb
    · go_wp2_with fail
      refine (cr w1).mono ?_
      rintro e w2 hw2
      rcases hw2 with ⟨hb, _⟩ | ⟨_, v2, rfl, ht2, hb2⟩
      · exact absurd hb hbad
      · have hb12 := bel_via hb1 hb2
        obtain ⟨A1, c1, t1⟩ := tx_of ht1
        obtain ⟨A2, c2, t2⟩ := tx_of ht2
        have cs := same_any v1 v2 _ A1 A2 c1 c2 (t1.keep hb2) t2
        clear cr cp hbad ht1 ht2 t1 t2
        go_wp2_with fail
        refine cs.mono ?_
        rintro e w3 ⟨rfl, hb3⟩
        have hb123 := bel_via hb12 hb3
        clear cs hb12 hb3 hb1 hb2
        go_wp2_with fail
        refine (cn w3).mono ?_
        rintro e w4 ⟨b1, rfl, hi1, rfl⟩
        go_wp2_with fail
        refine (crn w3).mono ?_
        rintro e w5 ⟨b2, rfl, hi2, rfl⟩
        have hbe : b1 = b2 := by rw [Bool.eq_iff_iff]; exact hi1.trans hi2.symm
        subst hbe
        clear hi1 hi2 cn crn
        go_wp2
        go_ret
        exact ⟨by simp, hb123⟩
  · have hsd : decide (65536 < s.size) = true := by simp; omega
    have hsi : (65536 : Int) < (s.size : Int) := by omega
    go_enter Try.func3, Try.ntmps3
    go_wp2
    go_ret
    exact ⟨rfl, Below.refl _ _⟩
end Go.Proofs.Ytboflapaalabpaa
