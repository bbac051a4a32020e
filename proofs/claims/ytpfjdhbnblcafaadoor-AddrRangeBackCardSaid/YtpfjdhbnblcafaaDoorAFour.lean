/- AddrFour's walk; by-name template. -/
import Derived.Test.YtpfjdhbnblcafaaDoorAParse
import Derived.Test.YtpfjdhbnblcafaaDoorABack
import Derived.Test.YtpfjdhbnblcafaaDoorARNumber
namespace Go.Proofs.YtpfjdhbnblcafaaDoor
open Go.RowKit
set_option linter.unusedVariables false
set_option linter.unusedSimpArgs false

theorem parse_print {a b : Nat} (ha : a < 18446744073709551616) (hb : b < 18446744073709551616) : parseP (printA a b) = some (a, b) := by
  unfold parseP
  rw [readP_print ha hb]
  simp

theorem count_join (c : UInt8) : ∀ l : List (List UInt8), (∀ p ∈ l, c ∉ p) → (joinC c l).count c = l.length - 1
  | [], _ => by simp [joinC]
  | [p], h => by
    have := h p (by simp)
    simp [joinC, List.count_eq_zero.2 this]
  | p :: q :: r, h => by
    have ih := count_join c (q :: r) (fun x hx => h x (List.mem_cons_of_mem _ hx))
    have hp := List.count_eq_zero.2 (h p (by simp))
    rw [joinC_cons c p _ (by simp), List.count_append, List.count_cons_self, hp, ih]
    simp

theorem dots4 (n : Nat) : (print4 n).count 46 = 3 := by
  unfold print4
  rw [count_join 46 _ (dig4_no 46 not_isDig_46 n)]
  rfl

theorem take_count {l : List UInt8} {k : Nat} {x : UInt8} (h : l[k]? = some x) : (l.take (k + 1)).count 46 = (l.take k).count 46 + if x = 46 then 1 else 0 := by
  rw [List.take_add_one, h, Option.toList_some, List.count_append, List.count_singleton]
  simp

set_option maxHeartbeats 1000000 in
set_option maxRecDepth 100000 in
theorem four_any (N : Nat) (hN : N < 4294967296) {w : World} (hG : Glob w) : Calls Tryd.prog 3 #[.int .u32 (N : Nat)] w fun e w' => e = .returned (.bool true) ∧ Below w.heap.size w w' := by
  obtain ⟨M, hM⟩ : ∃ M, M = 281470681743360 + N := ⟨_, rfl⟩
  have hM2 : M < 18446744073709551616 := by omega
  have co := of4_any (N : Int) (by omega) (by omega)
  have cro := rof4_any (N : Int) (by omega) (by omega)
  rw [show (281470681743360 + (N : Int)) = (M : Int) by omega] at co cro
  have ci := is4_any 0 (M : Int) ⟨by omega, by omega⟩ ⟨by omega, by omega⟩
  rw [show is4I 0 (M : Int) = true by unfold is4I; simp; omega] at ci
  have cp := fun (W : World) (hg : Glob W) => print_any 0 M (by omega) hM2 hg
  have crp := fun (W : World) => rprint_any 0 M (by omega) hM2 (w := W)
  have cz : ((0 : Nat) : Int) = 0 := rfl
  rw [cz] at cp crp
  have hlen : (printA 0 M).length ≤ 39 := by
    unfold printA is4
    rw [if_pos (by simp; omega)]
    exact len4 _
  have hcnt : (printA 0 M).count 46 = 3 := by
    unfold printA is4
    rw [if_pos (by simp; omega)]
    exact dots4 _
  have hpp := parse_print (a := 0) (b := M) (by omega) hM2
  obtain ⟨P, hP⟩ : ∃ P, P = printA 0 M := ⟨_, rfl⟩
  rw [← hP] at cp crp hlen hcnt hpp
  obtain ⟨S, hS⟩ : ∃ S : ByteArray, S = ⟨P.toArray⟩ := ⟨_, rfl⟩
  have hSP : S.data.toList = P := by rw [hS]
  rw [← hS] at cp crp
  rw [← hSP] at hlen hcnt hpp
  have hSz : S.data.toList.length = S.size := by rw [Lib.size_eq]
  have hS39 : S.size ≤ 39 := by omega
  have cpa := fun (W : World) (hg : Glob W) => parse_any S (by omega) hg
  rw [hpp] at cpa
  simp only [parseT] at cpa
  rw [cz] at cpa
  have HC := Lib.hid hcnt
  have HZ := Lib.hid hSz
  clear hP hS hSP hcnt hSz hpp hlen cz
  have hMi : (M : Int) < 18446744073709551616 := by omega
  clear hM
  go_enter Tryd.func3, Tryd.ntmps3
  go_wp2_with (go_at_call 7; refine (co _).mono ?_; rintro e w1 ⟨rfl, hb1⟩; refine Hid.out ?_)
  obtain ⟨b1, hb1'⟩ : ∃ b, b = w1.heap.size := ⟨_, rfl⟩
  refine Lib.hid ?_
  go_wp2_with (go_at_call 8; refine (cp _ (hG.on (bel_via hb1 (Below.al (Below.refl _ _) _)))).mono ?_; rintro e w2 ⟨rfl, hb2⟩; refine Hid.out ?_)
  have bw2 : Below w.heap.size w w2 := bel_via (bel_via hb1 (Below.al (Below.refl _ _) _)) hb2
  have hz2 : w1.heap.size < w2.heap.size := by have := hb2.size; simp at this; omega
  have hA2 : w2.heap[w1.heap.size]? = some (.cells #[.int .u64 0, .int .u64 (M : Nat)] 25 (0, 0)) := by rw [hb2.block _ (by simp)]; exact al_new rfl _
  refine Lib.hid ?_
  go_wp2_with (go_at_call 9; refine (cpa _ (hG.on bw2)).mono ?_; rintro e w3 ⟨rfl, hb3⟩; refine Hid.out ?_)
  have bw3 : Below w.heap.size w w3 := bel_via bw2 hb3
  have hz3 : w2.heap.size ≤ w3.heap.size := hb3.size
  have hA3 : w3.heap[w1.heap.size]? = some (.cells #[.int .u64 0, .int .u64 (M : Nat)] 25 (0, 0)) := by rw [hb3.block _ hz2]; exact hA2
  refine Lib.hid ?_
  go_wp2
  obtain ⟨w4, hw4⟩ : ∃ v, v = w3.alloc (.cells #[.int .u64 0, .int .u64 (M : Nat)] 25) := ⟨_, rfl⟩
  have hA4 : w4.heap[w1.heap.size]? = some (.cells #[.int .u64 0, .int .u64 (M : Nat)] 25 (0, 0)) := by rw [hw4, al_old (by omega)]; exact hA3
  have hB4 : w4.heap[w3.heap.size]? = some (.cells #[.int .u64 0, .int .u64 (M : Nat)] 25 (0, 0)) := by rw [hw4]; exact al_new rfl _
  have bw4 : Below w.heap.size w w4 := by rw [hw4]; exact Below.al bw3 _
  obtain ⟨BA, hBA⟩ : ∃ b, b = w1.heap.size := ⟨_, rfl⟩
  obtain ⟨BB, hBB⟩ : ∃ b, b = w3.heap.size := ⟨_, rfl⟩
  rw [← hBA] at hA4
  rw [← hBB] at hB4
  rw [← hw4, ← hBA, ← hBB]
  have hz4 : BA < w4.heap.size := (Array.getElem?_eq_some_iff.1 hA4).1
  clear hw4 hBA hBB hA3 hA2 hb1 hb2 hb3 bw2 bw3 hb1' hz2 hz3
  go_loopw [7, 8] (fun v7 v8 wr => ∃ (k d : Nat), v7 = .int .i64 d ∧ v8 = .int .i64 k ∧ k ≤ S.size ∧ d ≤ k ∧ wr = w4 ∧ Hid (d = (S.data.toList.take k).count 46)) (fun _ v8 _ => S.size - (intOf v8).toNat)
  case atStart => exact ⟨0, 0, rfl, rfl, by omega, by omega, rfl, Lib.hid (by simp)⟩
  case round =>
    obtain ⟨k, d, rfl, rfl, hk, hd, hw, hh⟩ := hrel
    subst hw
    have hdi : (d : Int) ≤ 39 := by omega
    have hki : (k : Int) ≤ 39 := by omega
    by_cases hlt : k < S.size
    · obtain ⟨x, hx⟩ : ∃ x, S.data.toList[k]? = some x := ⟨S.data.toList[k]'(by have := HZ.out; omega), List.getElem?_eq_getElem _⟩
      have hix := idx_any S k x hx
      have hlti : (k : Int) < (S.size : Int) := by omega
      have ht := take_count hx
      by_cases hx46 : x = 46
      · rw [if_pos hx46] at ht
        have H2 : Hid (d + 1 = (S.data.toList.take (k + 1)).count 46) := Lib.hid (by have := hh.out; omega)
        have hxe : ((x.toNat : Nat) : Int) = 46 := by rw [hx46]; rfl
        clear ht hx hx46 hh
        go_wp2
        exact ⟨⟨k + 1, d + 1, by simp, by simp, by omega, by omega, trivial, H2⟩, by simp [intOf]; omega⟩
      · rw [if_neg hx46, Nat.add_zero] at ht
        have H2 : Hid (d = (S.data.toList.take (k + 1)).count 46) := Lib.hid (by have := hh.out; omega)
        have hxe : (((x.toNat : Nat) : Int) == 46) = false := by
          have : x.toNat ≠ 46 := fun e => hx46 (UInt8.toNat_inj.1 (by rw [e]; rfl))
          simp; omega
        clear ht hx hx46 hh
        go_wp2
        exact ⟨⟨k + 1, d, rfl, by simp, by omega, by omega, trivial, H2⟩, by simp [intOf]; omega⟩
    · have hd3 : d = 3 := by rw [hh.out, List.take_of_length_le (by have := HZ.out; omega)]; exact HC.out
      subst hd3
      have hlti : decide ((k : Int) < (S.size : Int)) = false := by simp; omega
      have cA0 : wr.cell? ⟨BA, 0, none⟩ = some (.int .u64 0) := by simp [World.cell?, hA4]
      have cA1 : wr.cell? ⟨BA, 1, none⟩ = some (.int .u64 (M : Nat)) := by simp [World.cell?, hA4]
      have cB0 : wr.cell? ⟨BB, 0, none⟩ = some (.int .u64 0) := by simp [World.cell?, hB4]
      have cB1 : wr.cell? ⟨BB, 1, none⟩ = some (.int .u64 (M : Nat)) := by simp [World.cell?, hB4]
      clear hh HC HZ
      have cBM : wr.heap.size = wr.heap.size := rfl
      clear cBM
      go_wp2_with (go_at_call 10; refine (ci _).mono ?_; rintro e w5 ⟨rfl, hb5⟩; refine Hid.out ?_)
      have cA05 := keepc hb5 cA0
      have cA15 := keepc hb5 cA1
      have cB05 := keepc hb5 cB0
      have cB15 := keepc hb5 cB1
      have bw5 := bel_via bw4 hb5
      clear cA0 cA1 cB0 cB1 hA4 hB4 hb5 bw4
      refine Lib.hid ?_
      go_wp2_with (first
        | (go_at_call 12; refine (cro _).mono ?_; rintro e w6 ⟨rfl, hb6⟩)
        | (go_at_call 11; refine (crp _).mono ?_; rintro e w7 ⟨rfl, hb7⟩))
      go_ret
      exact ⟨by simp, bel_via (bel_via bw5 hb6) hb7⟩

theorem four_int (x : Int) (h : 0 ≤ x ∧ x < 4294967296) {w : World} (hG : Glob w) : Calls Tryd.prog 3 #[.int .u32 x] w fun e w' => e = .returned (.bool true) ∧ Below w.heap.size w w' := by
  obtain ⟨N, rfl⟩ : ∃ N : Nat, x = (N : Nat) := ⟨x.toNat, by omega⟩
  exact four_any N (by omega) hG
end Go.Proofs.YtpfjdhbnblcafaaDoor
