/- A range out of any text, plain; by-name template. -/
import Derived.Test.YtaafflmkfdicdaaGreatDoorADec
import Derived.Test.YtaafflmkfdicdaaGreatDoorARngF
namespace Go.Proofs.YtaafflmkfdicdaaGreatDoor
open Go.RowKit
set_option linter.unusedVariables false
set_option linter.unusedSimpArgs false

def quadT (a b c d e : Int) : Value := .tuple #[.agg #[.int .u64 a, .int .u64 b, .int .u64 c, .int .u64 d], .int .i64 e]
def preR (a b : List UInt8) : Value := match parseP a with
  | none => quadT 0 0 0 0 30
  | some x => if 0 ≤ numV b then preT x.1 x.2 (numV b) else quadT 0 0 0 0 31
def endsR (a b : List UInt8) : Value := match parseP a with
  | none => quadT 0 0 0 0 30
  | some x => match parseP b with
    | none => quadT 0 0 0 0 30
    | some y => if is4I (x.1 : Int) x.2 = is4I (y.1 : Int) y.2 ∧ cmpA (x.1 : Int) x.2 y.1 y.2 ≤ 0 then quadT x.1 x.2 y.1 y.2 0 else quadT 0 0 0 0 31
def oneR (l : List UInt8) : Value := match parseP l with
  | none => quadT 0 0 0 0 30
  | some x => quadT x.1 x.2 x.1 x.2 0
def rngT (l : List UInt8) : Value :=
  if (Lib.cut l [47]).2.2 = true then preR (Lib.cut l [47]).1 (Lib.cut l [47]).2.1
  else if (Lib.cut l [45]).2.2 = true then endsR (Lib.cut l [45]).1 (Lib.cut l [45]).2.1
  else oneR l

theorem preT_quad (x y n : Int) : ∃ a b c d e, preT x y n = quadT a b c d e := by
  unfold preT
  cases preV x y n with
  | none => exact ⟨_, _, _, _, _, rfl⟩
  | some z => exact ⟨_, _, _, _, _, rfl⟩
theorem preR_quad (a b : List UInt8) : ∃ x y z u e, preR a b = quadT x y z u e := by
  unfold preR
  cases parseP a with
  | none => exact ⟨_, _, _, _, _, rfl⟩
  | some x =>
    simp only []
    split
    · exact preT_quad _ _ _
    · exact ⟨_, _, _, _, _, rfl⟩
theorem endsR_quad (a b : List UInt8) : ∃ x y z u e, endsR a b = quadT x y z u e := by
  unfold endsR
  cases parseP a with
  | none => exact ⟨_, _, _, _, _, rfl⟩
  | some x =>
    simp only []
    cases parseP b with
    | none => exact ⟨_, _, _, _, _, rfl⟩
    | some y =>
      simp only []
      split <;> exact ⟨_, _, _, _, _, rfl⟩
theorem oneR_quad (l : List UInt8) : ∃ x y z u e, oneR l = quadT x y z u e := by
  unfold oneR
  cases parseP l with
  | none => exact ⟨_, _, _, _, _, rfl⟩
  | some x => exact ⟨_, _, _, _, _, rfl⟩
theorem rngT_quad (l : List UInt8) : ∃ x y z u e, rngT l = quadT x y z u e := by
  unfold rngT
  split
  · exact preR_quad _ _
  · split
    · exact endsR_quad _ _
    · exact oneR_quad _
/-- What a text is as an address. -/
theorem parse_three (l : List UInt8) : ∃ (h lo : Nat) (e : Int), parseT (parseP l) = .tuple #[.agg #[.int .u64 (h : Nat), .int .u64 (lo : Nat)], .int .i64 e] ∧ h < 18446744073709551616 ∧ lo < 18446744073709551616 ∧ ((e = 0 ∧ parseP l = some (h, lo)) ∨ (e = 30 ∧ parseP l = none ∧ h = 0 ∧ lo = 0)) := by
  cases hp : parseP l with
  | none => exact ⟨0, 0, 30, rfl, by omega, by omega, .inr ⟨rfl, rfl, rfl, rfl⟩⟩
  | some x => exact ⟨x.1, x.2, 0, rfl, (parseP_some hp).2.1, (parseP_some hp).2.2, .inl ⟨rfl, rfl⟩⟩
theorem cut_size (s : ByteArray) (c : List UInt8) (hs : s.size ≤ 281474976) : (⟨(Lib.cut s.data.toList c).1.toArray⟩ : ByteArray).size ≤ 281474976 ∧ (⟨(Lib.cut s.data.toList c).2.1.toArray⟩ : ByteArray).size ≤ 281474976 := by
  have hL : s.data.toList.length = s.size := by rw [Lib.size_eq]
  have h1 : (Lib.cut s.data.toList c).1.length ≤ s.size ∧ (Lib.cut s.data.toList c).2.1.length ≤ s.size := by
    unfold Lib.cut
    split
    · simp only [List.length_take, List.length_drop]; omega
    · simp [hL]
  refine ⟨?_, ?_⟩
  · show (Lib.cut s.data.toList c).1.toArray.size ≤ _
    simp; omega
  · show (Lib.cut s.data.toList c).2.1.toArray.size ≤ _
    simp; omega
end Go.Proofs.YtaafflmkfdicdaaGreatDoor
