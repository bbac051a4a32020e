/- Values.Get, and same; by-name template. -/
import Derived.Test.YtikaeblmjlfgcaaVals
import Derived.Deep.RegionHeld3
import Derived.Deep.DrawnRows
namespace Go.Proofs.Ytikaeblmjlfgcaa
open Go.RowKit
set_option linter.unusedVariables false
attribute [local go_sem ↓] Go.wp_at_zero Go.wp_at_succ

def RGetPost (s : ByteArray) (h : Bool) (w : World) (e : Ending) (w' : World) : Prop := e = .returned (.tuple #[.string s, .bool h]) ∧ ∃ n, w' = w.drewN n

theorem rget_no {w : World} (b : Nat) {i : Int} (h : i < 0 ∨ 8 ≤ i) : Calls Try.prog 22 #[.pointer (some ⟨b, 0, none⟩), .int .i64 i] w fun e w' => e = .returned (.tuple #[.string ByteArray.empty, .bool false]) ∧ w = w' := by
  rcases h with h | h
  · go_enter Try.func22, Try.ntmps22
    go_wp2
    go_ret2
    exact ⟨rfl, rfl⟩
  · have h0 : 0 ≤ i := by omega
    go_enter Try.func22, Try.ntmps22
    go_wp2
    go_ret2
    exact ⟨rfl, rfl⟩

theorem rget_in {w : World} {b : Nat} {f : Nat → Option ByteArray} {N : Int} (hV : Blk w b (vcells f N) 33) {j : Nat} (hj : j < 8) :
    Calls Try.prog 22 #[.pointer (some ⟨b, 0, none⟩), .int .i64 (j : Int)] w (RGetPost ((f j).getD ByteArray.empty) (f j).isSome w) := by
  have v1 := (hV.cell j).trans (vcells_v _ _ hj)
  have v2 := (hV.cell (8 + j)).trans (vcells_h _ _ hj)
  generalize (f j).getD ByteArray.empty = s at *
  generalize (f j).isSome = o at *
  have j0 : (0 : Int) ≤ (j : Int) := by omega
  have j1 : (j : Int) < 8 := by omega
  clear hV
  go_enter Try.func22, Try.ntmps22
  go_wp2_with fail
  go_quiet (fail)
  go_wp2
  go_ret2
  exact ⟨rfl, _, rfl⟩

theorem rget_at {w : World} {b : Nat} {f : Nat → Option ByteArray} {N : Int} {C : Array Value} (hC : Hid (C = vcells f N)) (hV : Blk w b C 33) {j : Nat} (hj : j < 8) {x : ByteArray} {y : Bool} (hx : Hid ((f j).getD ByteArray.empty = x)) (hy : Hid ((f j).isSome = y)) :
    Calls Try.prog 22 #[.pointer (some ⟨b, 0, none⟩), .int .i64 (j : Int)] w (RGetPost x y w) := by
  rw [hC.out] at hV
  rw [← hx.out, ← hy.out]
  exact rget_in hV hj
theorem Blk.drewN {w : World} {b : Nat} {cs : Array Value} {t : TypeId} (h : Blk w b cs t) (n : Nat) : Blk (w.drewN n) b cs t := h

set_option maxHeartbeats 2000000 in
set_option maxRecDepth 100000 in
theorem same_any {w : World} {S B : Nat} {D : DS} (hS : StoreAt w S B B) (hD : DiskAt w B D) (hsm : Small D) (f : Nat → Option ByteArray) {N : Int} (hf : ∀ j, j < 8 → getv D j = f j) (hn : (root D).n = N) (hN0 : 0 ≤ N) (hN1 : N ≤ 9223372036854775807) :
    Calls Try.prog 15 #[.pointer (some ⟨S, 0, none⟩), .agg (vcells f N)] w fun e w' => e = .returned (.bool true) ∧ Below w.heap.size w w' := by
  have HF := Lib.hid hf
  have HN := Lib.hid hn
  have hSl := Blk.lt hS
  have hDl := hD.lt
  clear hf hn
  obtain ⟨C, hC⟩ : ∃ C, C = vcells f N := ⟨_, rfl⟩
  rw [← hC]
  have HC := Lib.hid hC
  clear hC
  go_enter Try.func15, Try.ntmps15
  go_wp2_with fail
  have hV0 : Blk (w.alloc (.cells C 33)) w.heap.size C 33 := Blk.new _ _ _
  have hb0 : Below w.heap.size w (w.alloc (.cells C 33)) := (Below.refl _ _).alloc (Nat.le_refl _) _
  generalize w.alloc (.cells C 33) = w1 at *
  go_loopw [5, 6, 7, 8, 9] (fun c _ _ _ _ wr => ∃ i : Int, -1 ≤ i ∧ i ≤ 9 ∧ c = .int .i64 i ∧ Blk wr w.heap.size C 33 ∧ Below w.heap.size w wr) (fun c _ _ _ _ _ => (9 - intOf c).toNat)
  case atStart => exact ⟨-1, by omega, by omega, rfl, hV0, hb0⟩
  case round =>
    obtain ⟨i, hi0, hi1, rfl, hV, hB⟩ := hrel
    have hS1 : StoreAt wr S B B := Blk.below hS hB hSl
    have hD1 := hD.below hB hDl
    have hlt := hV.lt
    have hBs := hB.size
    by_cases hi : i ≤ 8
    · by_cases hin : 0 ≤ i ∧ i < 8
      · obtain ⟨i0, i1⟩ := hin
        obtain ⟨j, rfl⟩ := Int.eq_ofNat_of_zero_le i0
        have hj : j < 8 := by omega
        have hg := get_in hS1 hD1 hsm hj
        rw [HF.out j hj] at hg
        obtain ⟨x, hx⟩ : ∃ x, (f j).getD ByteArray.empty = x := ⟨_, rfl⟩
        obtain ⟨y, hy⟩ : ∃ y, (f j).isSome = y := ⟨_, rfl⟩
        rw [hx, hy] at hg
        have HX := Lib.hid hx
        have HY := Lib.hid hy
        clear hx hy
        go_wp2_with (first
          | (go_at_call 19; refine hg.mono ?_; rintro e w2 ⟨rfl, hb2⟩)
          | (go_at_call 22; refine (rget_at HC (Blk.below hV hb2 hlt) hj HX HY).mono ?_; rintro e w3 ⟨rfl, nq, rfl⟩))
        have hV3 := (Blk.below hV hb2 hlt).drewN nq
        have hB3 := (hB.trans (hb2.mono hBs)).drewN nq
        cases y
        all_goals
          go_roundw
          case rel => exact ⟨(j : Int) + 1, by omega, by omega, rfl, hV3, hB3⟩
          case measure => simp [intOf]; omega
      · have hno : i < 0 ∨ 8 ≤ i := by omega
        clear hin
        have hg := get_no (w := wr) S hno
        go_wp2_with (first
          | (go_at_call 19; refine hg.mono ?_; rintro e w2 ⟨rfl, rfl⟩)
          | (go_at_call 22; refine (rget_no _ hno).mono ?_; rintro e w3 ⟨rfl, rfl⟩))
        go_roundw
        case rel => exact ⟨i + 1, by omega, by omega, rfl, hV, hB⟩
        case measure => simp [intOf]; omega
    · have v1 : wr.cell? ⟨w.heap.size, 16, none⟩ = some (.int .i64 N) := by
        rw [hV.cell, HC.out]
        exact vcells_n _ _
      have hVl : w.heap.size < wr.drew.heap.size := hV.lt
      have hst := steps_any (w := wr.drew) (show StoreAt wr.drew S B B from hS1) hD1.drew HN hN0 hN1
      go_wp2_with fail
      go_region_held3 (fun w' => w'.cell? ⟨w.heap.size, 16, none⟩ = some (.int .i64 N))
        (first | exact v1 | exact q5)
        (first | (go_at_call 23; refine hst.mono ?_; rintro e w5 ⟨rfl, hb5⟩; have q5 : w5.cell? ⟨w.heap.size, 16, none⟩ = some (.int .i64 N) := (hb5.cell (p := ⟨w.heap.size, 16, none⟩) hVl).trans v1))
      go_wp2_with fail
      go_ret
      exact ⟨rfl, hB.drew.trans (hb5.mono hBs)⟩
end Go.Proofs.Ytikaeblmjlfgcaa
