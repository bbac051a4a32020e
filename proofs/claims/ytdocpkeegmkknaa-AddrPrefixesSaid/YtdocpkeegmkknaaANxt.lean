/- The next number, and the one ahead; by-name template. -/
import Derived.Test.YtdocpkeegmkknaaANum
namespace Go.Proofs.Ytdocpkeegmkknaa
open Go.RowKit
set_option linter.unusedVariables false
set_option linter.unusedSimpArgs false

theorem of_any (n : Int) (h0 : -9223372036854775808 ≤ n) (h1 : n < 9223372036854775808) (w : World) : Calls Try.prog 17 #[.int .i64 n] w fun e w' => e = .returned (.agg #[.int .u64 0, .int .u64 (max n 0)]) ∧ Below w.heap.size w w' := by
  go_enter Try.func17, Try.ntmps17
  go_wp2
  all_goals
    have e : max n 0 = if n < 0 then 0 else n := by omega
    simp [bodyPost, results, Try.results17, go_sem]
    exact ⟨by omega, by repeat (first | exact Below.refl _ _ | apply Below.dr | apply Below.al)⟩
theorem rof_any (n : Int) (h0 : -9223372036854775808 ≤ n) (h1 : n < 9223372036854775808) (w : World) : Calls Try.prog 18 #[.int .i64 n] w fun e w' => e = .returned (.agg #[.int .u64 0, .int .u64 (max n 0)]) ∧ Below w.heap.size w w' := by
  go_enter Try.func18, Try.ntmps18
  go_wp2
  all_goals
    simp [bodyPost, results, Try.results18, go_sem]
    exact ⟨by omega, by repeat (first | exact Below.refl _ _ | apply Below.dr | apply Below.al)⟩

theorem add64 (x y c s k : Nat) (hc : c ≤ 1) (hs : (x + y + c) % 18446744073709551616 = s) (hk : (x + y + c) / 18446744073709551616 = k) (hx : x < 18446744073709551616) (hy : y < 18446744073709551616) (w : World) :
    (callFunc 24 #[.int .u64 x, .int .u64 y, .int .u64 c]).run Try.prog w = .ok (.value (.tuple #[.int .u64 s, .int .u64 k])) w := by
  subst hs; subst hk
  rw [run_callFunc_extern Try.func24 (by kernel_rfl) (by kernel_rfl) (by kernel_rfl) (e := add64Entry) (by kernel_rfl), run_add64 x y c (by omega) (by omega) (by omega) (by omega)]
  simp only [Result.andThen]
  congr 5 <;> omega

theorem sub64 (x y b s k : Nat) (hb : b ≤ 1) (hs : (x + 18446744073709551616 - y - b) % 18446744073709551616 = s) (hk : (if x < y + b then 1 else 0) = k) (w : World) :
    (callFunc 25 #[.int .u64 x, .int .u64 y, .int .u64 b]).run Try.prog w = .ok (.value (.tuple #[.int .u64 s, .int .u64 k])) w := by
  rw [run_callFunc_extern Try.func25 (by kernel_rfl) (by kernel_rfl) (by kernel_rfl) (e := sub64Entry) (by kernel_rfl), run_sub64 x y b hb, hs, hk]
  rfl

def TOP : Int := 18446744073709551615
def nextT (ah al : Int) : Value :=
  if al = 18446744073709551615 then (if ah = 18446744073709551615 then .tuple #[.agg #[.int .u64 0, .int .u64 0], .bool false] else .tuple #[.agg #[.int .u64 (ah + 1), .int .u64 0], .bool true])
  else .tuple #[.agg #[.int .u64 ah, .int .u64 (al + 1)], .bool true]
def prevT (ah al : Int) : Value :=
  if al = 0 then (if ah = 0 then .tuple #[.agg #[.int .u64 0, .int .u64 0], .bool false] else .tuple #[.agg #[.int .u64 (ah - 1), .int .u64 18446744073709551615], .bool true])
  else .tuple #[.agg #[.int .u64 ah, .int .u64 (al - 1)], .bool true]

theorem next_any (ah al : Int) (h0 : Word ah) (h1 : Word al) (w : World) : Calls Try.prog 9 #[.agg #[.int .u64 ah, .int .u64 al]] w fun e w' => e = .returned (nextT ah al) ∧ Below w.heap.size w w' := by
  obtain ⟨p0, p1⟩ := h0; obtain ⟨q0, q1⟩ := h1
  obtain ⟨a, rfl⟩ := Int.eq_ofNat_of_zero_le p0
  obtain ⟨b, rfl⟩ := Int.eq_ofNat_of_zero_le q0
  unfold nextT
  by_cases h : (b : Int) = 18446744073709551615
  · rw [if_pos h]
    have hb : b = 18446744073709551615 := by omega
    subst hb
    have e1 := fun w => add64 18446744073709551615 1 0 0 1 (by decide) (by decide) (by decide) (by decide) (by decide) w
    by_cases k : (a : Int) = 18446744073709551615
    · have ha : a = 18446744073709551615 := by omega
      subst ha
      rw [if_pos k]
      have e2 := fun w => add64 18446744073709551615 0 1 0 1 (by decide) (by decide) (by decide) (by decide) (by decide) w
      simp only [Int.cast_ofNat_Int] at e1 e2 ⊢
      go_enter Try.func9, Try.ntmps9
      go_wp2_with (first | simp only [e1] | simp only [e2])
      simp [bodyPost, results, Try.results9, go_sem]
      repeat (first | exact Below.refl _ _ | apply Below.dr | apply Below.al)
    · rw [if_neg k]
      have e2 := fun w => add64 a 0 1 (a + 1) 0 (by decide) (by omega) (by omega) (by omega) (by decide) w
      simp only [Int.cast_ofNat_Int, Int.natCast_add] at e1 e2 ⊢
      go_enter Try.func9, Try.ntmps9
      go_wp2_with (first | simp only [e1] | simp only [e2])
      simp [bodyPost, results, Try.results9, go_sem]
      repeat (first | exact Below.refl _ _ | apply Below.dr | apply Below.al)
  · rw [if_neg h]
    have e1 := fun w => add64 b 1 0 (b + 1) 0 (by decide) (by omega) (by omega) (by omega) (by decide) w
    have e2 := fun w => add64 a 0 0 a 0 (by decide) (by omega) (by omega) (by omega) (by decide) w
    simp only [Int.cast_ofNat_Int, Int.natCast_add] at e1 e2 ⊢
    go_enter Try.func9, Try.ntmps9
    go_wp2_with (first | simp only [e1] | simp only [e2])
    simp [bodyPost, results, Try.results9, go_sem]
    repeat (first | exact Below.refl _ _ | apply Below.dr | apply Below.al)

theorem rnext_any (ah al : Int) (h0 : Word ah) (h1 : Word al) (w : World) : Calls Try.prog 10 #[.agg #[.int .u64 ah, .int .u64 al]] w fun e w' => e = .returned (nextT ah al) ∧ Below w.heap.size w w' := by
  obtain ⟨p0, p1⟩ := h0; obtain ⟨q0, q1⟩ := h1
  unfold nextT
  by_cases h : al = 18446744073709551615
  · subst h
    rw [if_pos rfl]
    have hw : IntKind.u64.wrap 18446744073709551616 = 0 := by decide
    by_cases k : ah = 18446744073709551615
    · subst k
      rw [if_pos rfl]
      go_enter Try.func10, Try.ntmps10
      go_wp2
      go_region
      all_goals (go_wp2; simp [bodyPost, results, Try.results10, go_sem]; try (repeat (first | exact Below.refl _ _ | apply Below.dr | apply Below.al)))
    · rw [if_neg k]
      have hb : (ah + 1 == 0) = false := by simp; omega
      go_enter Try.func10, Try.ntmps10
      go_wp2
      go_region
      all_goals (go_wp2; simp [bodyPost, results, Try.results10, go_sem]; try (repeat (first | exact Below.refl _ _ | apply Below.dr | apply Below.al)))
  · rw [if_neg h]
    have hb : (al + 1 == 0) = false := by simp; omega
    go_enter Try.func10, Try.ntmps10
    go_wp2
    go_region
    all_goals (go_wp2; simp [bodyPost, results, Try.results10, go_sem]; try (repeat (first | exact Below.refl _ _ | apply Below.dr | apply Below.al)))

theorem prev_any (ah al : Int) (h0 : Word ah) (h1 : Word al) (w : World) : Calls Try.prog 11 #[.agg #[.int .u64 ah, .int .u64 al]] w fun e w' => e = .returned (prevT ah al) ∧ Below w.heap.size w w' := by
  obtain ⟨p0, p1⟩ := h0; obtain ⟨q0, q1⟩ := h1
  obtain ⟨a, rfl⟩ := Int.eq_ofNat_of_zero_le p0
  obtain ⟨b, rfl⟩ := Int.eq_ofNat_of_zero_le q0
  unfold prevT
  by_cases h : (b : Int) = 0
  · rw [if_pos h]
    have hb : b = 0 := by omega
    subst hb
    have e1 := fun w => sub64 0 1 0 18446744073709551615 1 (by decide) (by decide) (by decide) w
    by_cases k : (a : Int) = 0
    · have ha : a = 0 := by omega
      subst ha
      rw [if_pos k]
      have e2 := fun w => sub64 0 0 1 18446744073709551615 1 (by decide) (by decide) (by decide) w
      simp only [Int.cast_ofNat_Int] at e1 e2 ⊢
      go_enter Try.func11, Try.ntmps11
      go_wp2_with (first | simp only [e1] | simp only [e2])
      simp [bodyPost, results, Try.results11, go_sem]
      repeat (first | exact Below.refl _ _ | apply Below.dr | apply Below.al)
    · rw [if_neg k]
      have e2 := fun w => sub64 a 0 1 (a - 1) 0 (by decide) (by omega) (by rw [if_neg (by omega)]) w
      have e3 : ((a - 1 : Nat) : Int) = (a : Int) - 1 := by omega
      simp only [Int.cast_ofNat_Int, e3] at e1 e2 ⊢
      go_enter Try.func11, Try.ntmps11
      go_wp2_with (first | simp only [e1] | simp only [e2])
      simp [bodyPost, results, Try.results11, go_sem]
      repeat (first | exact Below.refl _ _ | apply Below.dr | apply Below.al)
  · rw [if_neg h]
    have e1 := fun w => sub64 b 1 0 (b - 1) 0 (by decide) (by omega) (by rw [if_neg (by omega)]) w
    have e2 := fun w => sub64 a 0 0 a 0 (by decide) (by omega) (by rw [if_neg (by omega)]) w
    have e3 : ((b - 1 : Nat) : Int) = (b : Int) - 1 := by omega
    simp only [Int.cast_ofNat_Int, e3] at e1 e2 ⊢
    go_enter Try.func11, Try.ntmps11
    go_wp2_with (first | simp only [e1] | simp only [e2])
    simp [bodyPost, results, Try.results11, go_sem]
    repeat (first | exact Below.refl _ _ | apply Below.dr | apply Below.al)

theorem rprev_any (ah al : Int) (h0 : Word ah) (h1 : Word al) (w : World) : Calls Try.prog 12 #[.agg #[.int .u64 ah, .int .u64 al]] w fun e w' => e = .returned (prevT ah al) ∧ Below w.heap.size w w' := by
  obtain ⟨p0, p1⟩ := h0; obtain ⟨q0, q1⟩ := h1
  unfold prevT
  by_cases h : al = 0
  · subst h
    rw [if_pos rfl]
    by_cases k : ah = 0
    · subst k
      rw [if_pos rfl]
      go_enter Try.func12, Try.ntmps12
      go_wp2
      simp [bodyPost, results, Try.results12, go_sem]
      repeat (first | exact Below.refl _ _ | apply Below.dr | apply Below.al)
    · rw [if_neg k]
      have hb : (ah == 0) = false := by simp [k]
      have hw : IntKind.u64.wrap (-1) = 18446744073709551615 := by decide
      go_enter Try.func12, Try.ntmps12
      go_wp2
      simp [bodyPost, results, Try.results12, go_sem]
      repeat (first | exact Below.refl _ _ | apply Below.dr | apply Below.al)
  · rw [if_neg h]
    have hb : (al == 0) = false := by simp [h]
    go_enter Try.func12, Try.ntmps12
    go_wp2
    simp [bodyPost, results, Try.results12, go_sem]
    repeat (first | exact Below.refl _ _ | apply Below.dr | apply Below.al)
end Go.Proofs.Ytdocpkeegmkknaa
