/- AddrTexts's walk; by-name template. -/
import Derived.Test.YtpfjdhbnblcafaaDoorARParse
import Derived.Deep.RegionHeld3
namespace Go.Proofs.YtpfjdhbnblcafaaDoor
open Go.RowKit
set_option linter.unusedVariables false
set_option linter.unusedSimpArgs false

theorem parse_tuple (x : Option (Nat × Nat)) : ∃ (xh xl er : Int), parseT x = .tuple #[.agg #[.int .u64 xh, .int .u64 xl], .int .i64 er] := by
  cases x with
  | none => exact ⟨_, _, _, rfl⟩
  | some y => exact ⟨_, _, _, rfl⟩

def LawPostD (w : World) (e : Ending) (w' : World) : Prop := e = .returned (.bool true) ∧ Below w.heap.size w w'

theorem long_texts (a b : Int) (s : ByteArray) (h : 4096 < s.size) (hm : s.size ≤ 9223372036854775807) (w : World) : Calls Tryd.prog 4 #[.agg #[.int .u64 a, .int .u64 b], .string s] w (LawPostD w) := by
  have hi : (4096 : Int) < (s.size : Int) := by omega
  go_enter Tryd.func4, Tryd.ntmps4
  go_wp2
  go_ret
  exact ⟨rfl, Below.al (Below.refl _ _) _⟩

set_option maxHeartbeats 2000000 in
set_option maxRecDepth 100000 in
theorem texts_mid (a b : Nat) (ha : a < 18446744073709551616) (hb : b < 18446744073709551616) (s : ByteArray) (h : s.size ≤ 4096) {w : World} (hG : Glob w) : Calls Tryd.prog 4 #[.agg #[.int .u64 (a : Nat), .int .u64 (b : Nat)], .string s] w (LawPostD w) := by
  have hi : (s.size : Int) ≤ 4096 := by omega
  have hid : decide ((4096 : Int) < (s.size : Int)) = false := by simp; omega
  have hin : decide (4096 < s.size) = false := by simp; omega
  have cp := fun (W : World) (hg : Glob W) => print_any a b ha hb hg
  have crp := fun (W : World) => rprint_any a b ha hb (w := W)
  obtain ⟨P, hP⟩ : ∃ P : ByteArray, P = ⟨(printA a b).toArray⟩ := ⟨_, rfl⟩
  rw [← hP] at cp crp
  have cpa := fun (W : World) (hg : Glob W) => parse_any s (by omega) hg
  have crpa := fun (W : World) => rparse_any s (by omega) W
  obtain ⟨xh, xl, er, hx⟩ := parse_tuple (parseP s.data.toList)
  rw [hx] at cpa crpa
  have hai : (a : Int) < 18446744073709551616 := by omega
  have hbi : (b : Int) < 18446744073709551616 := by omega
  clear hP hx ha hb
  go_enter Tryd.func4, Tryd.ntmps4
  go_wp2_with (go_at_call 9; refine (cpa _ (hG.on (Below.al (Below.refl _ _) _))).mono ?_; rintro e w2 ⟨rfl, hb2⟩; refine Hid.out ?_)
  have bw2 : Below w.heap.size w w2 := bel_via (Below.al (Below.refl _ w) _) hb2
  have hz2 : w.heap.size < w2.heap.size := by have := hb2.size; simp at this; omega
  have hA2 : w2.heap[w.heap.size]? = some (.cells #[.int .u64 (a : Nat), .int .u64 (b : Nat)] 25 (0, 0)) := by rw [hb2.block _ (by simp)]; exact al_new rfl _
  refine Lib.hid ?_
  go_wp2_with (go_at_call 13; refine (crpa _).mono ?_; rintro e w3 ⟨rfl, hb3⟩; refine Hid.out ?_)
  have hz3 : w2.heap.size < w3.heap.size := by have := hb3.size; simp at this; omega
  have hA3 : w3.heap[w.heap.size]? = some (.cells #[.int .u64 (a : Nat), .int .u64 (b : Nat)] 25 (0, 0)) := by rw [hb3.block _ (by simp; omega), al_old hz2]; exact hA2
  have hX3 : w3.heap[w2.heap.size]? = some (.cells #[.int .u64 xh, .int .u64 xl] 25 (0, 0)) := by rw [hb3.block _ (by simp)]; exact al_new rfl _
  have bw3 : Below w.heap.size w w3 := bel_via (bel_via bw2 (Below.al (Below.refl _ _) _)) hb3
  refine Lib.hid ?_
  go_wp2
  obtain ⟨w4, hw4⟩ : ∃ v, v = w3.alloc (.cells #[.int .u64 xh, .int .u64 xl] 25) := ⟨_, rfl⟩
  have bw4 : Below w.heap.size w w4 := by rw [hw4]; exact Below.al bw3 _
  have hA4 : w4.heap[w.heap.size]? = some (.cells #[.int .u64 (a : Nat), .int .u64 (b : Nat)] 25 (0, 0)) := by rw [hw4, al_old (by omega)]; exact hA3
  have hX4 : w4.heap[w2.heap.size]? = some (.cells #[.int .u64 xh, .int .u64 xl] 25 (0, 0)) := by rw [hw4, al_old hz3]; exact hX3
  have hY4 : w4.heap[w3.heap.size]? = some (.cells #[.int .u64 xh, .int .u64 xl] 25 (0, 0)) := by rw [hw4]; exact al_new rfl _
  obtain ⟨BA, hBA⟩ : ∃ b, b = w.heap.size := ⟨_, rfl⟩
  obtain ⟨BX, hBX⟩ : ∃ b, b = w2.heap.size := ⟨_, rfl⟩
  obtain ⟨BY, hBY⟩ : ∃ b, b = w3.heap.size := ⟨_, rfl⟩
  rw [← hw4, ← hBA, ← hBX, ← hBY]
  rw [← hBA] at hA4
  rw [← hBX] at hX4
  rw [← hBY] at hY4
  obtain ⟨cA0, cA1, _, _⟩ := cells_of hA4
  obtain ⟨cX0, cX1, _, _⟩ := cells_of hX4
  obtain ⟨cY0, cY1, _, _⟩ := cells_of hY4
  have hG4 : Glob w4 := hG.on bw4
  have hC4 : ∀ w', Below w4.heap.size w4 w' → w'.cell? ⟨BA, 0, none⟩ = some (.int .u64 (a : Nat)) ∧ w'.cell? ⟨BA, 1, none⟩ = some (.int .u64 (b : Nat)) ∧ w'.cell? ⟨BX, 0, none⟩ = some (.int .u64 xh) ∧ w'.cell? ⟨BX, 1, none⟩ = some (.int .u64 xl) ∧ w'.cell? ⟨BY, 0, none⟩ = some (.int .u64 xh) ∧ w'.cell? ⟨BY, 1, none⟩ = some (.int .u64 xl) :=
    fun w' h => ⟨keepc h cA0, keepc h cA1, keepc h cX0, keepc h cX1, keepc h cY0, keepc h cY1⟩
  have HBA := Lib.hid hBA
  clear hw4 hBX hBY hA2 hA3 hX3 hb2 hb3 bw2 bw3 hz2 hz3 hA4 hX4 hY4 cA0 cA1 cX0 cX1 cY0 cY1 hBA
  go_region_held3 (fun w' => Below w4.heap.size w4 w' ∧ w'.cell? ⟨BA, 0, none⟩ = some (.int .u64 (a : Nat)) ∧ w'.cell? ⟨BA, 1, none⟩ = some (.int .u64 (b : Nat)) ∧ w'.cell? ⟨BX, 0, none⟩ = some (.int .u64 xh) ∧ w'.cell? ⟨BX, 1, none⟩ = some (.int .u64 xl) ∧ w'.cell? ⟨BY, 0, none⟩ = some (.int .u64 xh) ∧ w'.cell? ⟨BY, 1, none⟩ = some (.int .u64 xl)) (first | exact keep00 hC4 | exact keep0 hC4 | exact keepD hC4 (by assumption) | exact keepB hC4 hb (by assumption) | exact keepB hC4 (by assumption) (by assumption))
    (first
      | (go_at_call 8; refine (cp _ (hG4.on (And.left (by assumption)))).mono ?_; rintro e w' ⟨rfl, hb⟩)
      | (go_at_call 8; refine (cp _ (hG4.on (Below.dr (Below.refl _ _)))).mono ?_; rintro e w' ⟨rfl, hb⟩)
      | (go_at_call 8; refine (cp _ hG4).mono ?_; rintro e w' ⟨rfl, hb⟩)
      | (go_at_call 11; refine (crp _).mono ?_; rintro e w' ⟨rfl, hb⟩))
  all_goals (go_wp2; go_ret; exact ⟨by simp, by have hx : Below w4.heap.size w4 _ := And.left (by assumption); exact bel_via bw4 hx⟩)

theorem texts_any (a b : Int) (s : ByteArray) (h0 : Word a) (h1 : Word b) (hs : s.size ≤ maxLen) {w : World} (hG : Glob w) : Calls Tryd.prog 4 #[.agg #[.int .u64 a, .int .u64 b], .string s] w (LawPostD w) := by
  unfold maxLen at hs
  obtain ⟨p0, p1⟩ := h0
  obtain ⟨q0, q1⟩ := h1
  by_cases h : 4096 < s.size
  · exact long_texts a b s h hs w
  · obtain ⟨A, rfl⟩ : ∃ N : Nat, a = (N : Nat) := ⟨a.toNat, by omega⟩
    obtain ⟨B, rfl⟩ : ∃ N : Nat, b = (N : Nat) := ⟨b.toNat, by omega⟩
    exact texts_mid A B (by omega) (by omega) s (by omega) hG
end Go.Proofs.YtpfjdhbnblcafaaDoor
