/- The document's own Parse answers as the program's does; by-name template. -/
import Derived.Test.YtaafflmkfdicdaaGreatDoorARGuess6
import Derived.Test.YtaafflmkfdicdaaGreatDoorARPrint
import Derived.Test.YtaafflmkfdicdaaGreatDoorAFourP
import Derived.Test.YtaafflmkfdicdaaGreatDoorARNumber
namespace Go.Proofs.YtaafflmkfdicdaaGreatDoor
open Go.RowKit
set_option linter.unusedVariables false
set_option linter.unusedSimpArgs false


theorem parseP_long {l : List UInt8} (h : 64 < l.length) : parseP l = none := by
  cases hp : parseP l with
  | none => rfl
  | some x =>
    have h1 := (parseP_some (a := x.1) (b := x.2) hp).1
    have h2 := len_print (a := x.1) (b := x.2)
    rw [h1] at h2; omega

theorem parseP_guess (l : List UInt8) : parseP l = match guessV l with
    | none => none
    | some A => if printA (hiW A) (loW A) = l then some (hiW A, loW A) else none := by
  cases hp : parseP l with
  | some x =>
    obtain ⟨h1, h2, h3⟩ := parseP_some (a := x.1) (b := x.2) hp
    have hg := guess_print h2 h3
    rw [h1] at hg
    rw [hg]
    have e1 : hiW (x.1 * 18446744073709551616 + x.2) = x.1 := by unfold hiW; omega
    have e2 : loW (x.1 * 18446744073709551616 + x.2) = x.2 := by unfold loW; omega
    simp only [e1, e2]
    rw [if_pos h1]
  | none =>
    cases hg : guessV l with
    | none => rfl
    | some A =>
      simp only
      split
      · rename_i he
        have hw := words_lt (guess_lt hg)
        have := parse_print hw.1 hw.2
        rw [he, hp] at this
        cases this
      · rfl

theorem guess_any (s : ByteArray) (hs : s.size ≤ 281474976) (w : World) : Calls Tryz.prog 35 #[.string s] w (GuessPost (guessV s.data.toList) w) := by
  by_cases h : (splitOn 46 s.data.toList).length = 4
  · exact guess4_any s hs h w
  · exact guess6_any s hs h w

set_option maxHeartbeats 1000000 in
set_option maxRecDepth 100000 in
theorem rparse_any (s : ByteArray) (hs : s.size ≤ 281474976) (w : World) : Calls Tryz.prog 21 #[.string s] w fun e w' => e = .returned (parseT (parseP s.data.toList)) ∧ Below w.heap.size w w' := by
  have hL : s.data.toList.length = s.size := by rw [Lib.size_eq]
  by_cases h64 : 64 < s.size
  · rw [parseP_long (by omega)]
    have h64i : (64 : Int) < (s.size : Int) := by omega
    clear hL
    go_enter Tryz.func21, Tryz.ntmps21
    go_wp2
    simp [bodyPost, results, Tryz.results21, go_sem, parseT]
    repeat (first | exact Below.refl _ _ | apply Below.dr | apply Below.al)
  · have h64i : decide ((64 : Int) < (s.size : Int)) = false := by simp; omega
    have h64n : decide (64 < s.size) = false := by simp; omega
    rw [parseP_guess]
    have cg := guess_any s hs
    cases hg : guessV s.data.toList with
    | none =>
      rw [hg] at cg
      simp only [parseT]
      clear hg hL
      go_enter Tryz.func21, Tryz.ntmps21
      go_wp2_with (go_at_call 35; refine (cg _).mono ?_; rintro e w2 ⟨hb2, a, b, rfl, ha, hb⟩; refine Hid.out ?_)
      have bw2 : Below w.heap.size w w2 := bel_via (Below.al (Below.refl _ w) _) hb2
      have hz2 : w.heap.size < w2.heap.size := by have := hb2.size; simp at this; omega
      have hH2 : w2.heap[w.heap.size]? = some (.cells #[.int .u64 0, .int .u64 0] 24 (0, 0)) := by rw [hb2.block _ (by simp)]; exact al_new rfl _
      refine Lib.hid ?_
      go_wp2_with (with_reducible refine stop_op (o := ⟨some 16, _, _, _, _, _⟩) ?_)
      obtain ⟨w3, hw3⟩ : ∃ v, v = w2.alloc (.cells #[.int .u64 (a : Nat), .int .u64 (b : Nat)] 24) := ⟨_, rfl⟩
      rw [← hw3]
      have hH3 : w3.heap[w.heap.size]? = some (.cells #[.int .u64 0, .int .u64 0] 24 (0, 0)) := by rw [hw3, al_old hz2]; exact hH2
      have bw3 : Below w.heap.size w w3 := by rw [hw3]; exact bel_via bw2 (Below.al (Below.refl _ _) _)
      obtain ⟨c0, c1, f0, f1⟩ := cells_of hH3
      clear hw3
      refine Lib.hid ?_
      go_wp2
      refine bodyPost_ret_by (res_pair Tryz.results21 _ _ w.heap.size (.int .u64 0) (.int .u64 0) rfl (heap_set2 hH3 _ _)) rfl ⟨rfl, ?_⟩
      exact below_set (below_set bw3 (Nat.le_refl _) 0 _) (Nat.le_refl _) 1 _
    | some A =>
      rw [hg] at cg
      have hw := words_lt (guess_lt hg)
      obtain ⟨P, hP⟩ : ∃ P, P = printA (hiW A) (loW A) := ⟨_, rfl⟩
      have cpr := fun (W : World) => rprint_any (hiW A) (loW A) hw.1 hw.2 (w := W)
      rw [← hP] at cpr
      simp only
      rw [← hP]
      have hai : ((hiW A : Nat) : Int) < 18446744073709551616 := by omega
      have hbi : ((loW A : Nat) : Int) < 18446744073709551616 := by omega
      clear hP hg hL hw
      by_cases he : P = s.data.toList
      · rw [if_pos he]
        have hes := bytes_of he
        rw [hes] at cpr
        simp only [parseT]
        clear he hes
        go_enter Tryz.func21, Tryz.ntmps21
        go_wp2_with (go_at_call 35; refine (cg _).mono ?_; rintro e w2 ⟨hb2, rfl⟩; refine Hid.out ?_)
        have bw2 : Below w.heap.size w w2 := bel_via (Below.al (Below.refl _ w) _) hb2
        have hz2 : w.heap.size < w2.heap.size := by have := hb2.size; simp at this; omega
        have hH2 : w2.heap[w.heap.size]? = some (.cells #[.int .u64 0, .int .u64 0] 24 (0, 0)) := by rw [hb2.block _ (by simp)]; exact al_new rfl _
        refine Lib.hid ?_
        go_wp2_with (go_at_call 29; refine (cpr _).mono ?_; rintro e w3 ⟨rfl, hb3⟩; refine Hid.out ?_)
        have hz3 : w2.heap.size < w3.heap.size := by have := hb3.size; simp at this; omega
        have hA3 : w3.heap[w2.heap.size]? = some (.cells #[.int .u64 (hiW A : Nat), .int .u64 (loW A : Nat)] 24 (0, 0)) := by rw [hb3.block _ (by simp)]; exact al_new rfl _
        have hH3 : w3.heap[w.heap.size]? = some (.cells #[.int .u64 0, .int .u64 0] 24 (0, 0)) := by rw [hb3.block _ (by simp; omega), al_old hz2]; exact hH2
        obtain ⟨a0, a1, _, _⟩ := cells_of hA3
        obtain ⟨c0, c1, f0, f1⟩ := cells_of hH3
        refine Lib.hid ?_
        go_wp2
        refine bodyPost_ret_by (res_pair Tryz.results21 _ _ w.heap.size (.int .u64 (hiW A : Nat)) (.int .u64 (loW A : Nat)) rfl (heap_set2 hH3 _ _)) rfl ⟨rfl, ?_⟩
        exact below_set (below_set (bel_via (bel_via bw2 (Below.al (Below.refl _ w2) _)) hb3) (Nat.le_refl _) 0 _) (Nat.le_refl _) 1 _
      · rw [if_neg he]
        have hes : (⟨P.toArray⟩ : ByteArray) ≠ s := fun e => he (by rw [← e])
        obtain ⟨Pb, hPb⟩ : ∃ Pb : ByteArray, Pb = ⟨P.toArray⟩ := ⟨_, rfl⟩
        rw [← hPb] at hes cpr
        clear hPb
        simp only [parseT]
        clear he
        go_enter Tryz.func21, Tryz.ntmps21
        go_wp2_with (go_at_call 35; refine (cg _).mono ?_; rintro e w2 ⟨hb2, rfl⟩; refine Hid.out ?_)
        have bw2 : Below w.heap.size w w2 := bel_via (Below.al (Below.refl _ w) _) hb2
        have hz2 : w.heap.size < w2.heap.size := by have := hb2.size; simp at this; omega
        have hH2 : w2.heap[w.heap.size]? = some (.cells #[.int .u64 0, .int .u64 0] 24 (0, 0)) := by rw [hb2.block _ (by simp)]; exact al_new rfl _
        refine Lib.hid ?_
        go_wp2_with (go_at_call 29; refine (cpr _).mono ?_; rintro e w3 ⟨rfl, hb3⟩; refine Hid.out ?_)
        have hz3 : w2.heap.size < w3.heap.size := by have := hb3.size; simp at this; omega
        have hH3 : w3.heap[w.heap.size]? = some (.cells #[.int .u64 0, .int .u64 0] 24 (0, 0)) := by rw [hb3.block _ (by simp; omega), al_old hz2]; exact hH2
        obtain ⟨c0, c1, f0, f1⟩ := cells_of hH3
        refine Lib.hid ?_
        go_wp2_with (with_reducible refine stop_op (o := ⟨some 21, _, _, _, _, _⟩) ?_)
        refine Lib.hid ?_
        refine wpList_neq rfl _ _ _ _ rfl _ _ rfl rfl hes ?_
        go_wp2
        refine bodyPost_ret_by (res_pair Tryz.results21 _ _ w.heap.size (.int .u64 0) (.int .u64 0) rfl (heap_set2 hH3 _ _)) rfl ⟨rfl, ?_⟩
        exact below_set (below_set (bel_via (bel_via bw2 (Below.al (Below.refl _ w2) _)) hb3) (Nat.le_refl _) 0 _) (Nat.le_refl _) 1 _
end Go.Proofs.YtaafflmkfdicdaaGreatDoor
