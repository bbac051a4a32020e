/- Addresses printed and read back, plain; what a law tells; by-name template. -/
import Derived.Test.YtaafflmkfdicdaaDoorAParse
import Derived.Test.YtaafflmkfdicdaaDoorABack
namespace Go.Proofs.YtaafflmkfdicdaaDoor
open Go.RowKit
set_option linter.unusedVariables false
set_option linter.unusedSimpArgs false

theorem parse_print {a b : Nat} (ha : a < 18446744073709551616) (hb : b < 18446744073709551616) : parseP (printA a b) = some (a, b) := by
  unfold parseP
  rw [readP_print ha hb]
  simp

theorem count_join (c : UInt8) : ∀ l : List (List UInt8), (∀ p ∈ l, c ∉ p) → (joinC c l).count c = l.length - 1
  | [], _ => by simp [joinC]
  | [p], h => by
    have := h p (by simp)
    simp [joinC, List.count_eq_zero.2 this]
  | p :: q :: r, h => by
    have ih := count_join c (q :: r) (fun x hx => h x (List.mem_cons_of_mem _ hx))
    have hp := List.count_eq_zero.2 (h p (by simp))
    rw [joinC_cons c p _ (by simp), List.count_append, List.count_cons_self, hp, ih]
    simp

theorem dots4 (n : Nat) : (print4 n).count 46 = 3 := by
  unfold print4
  rw [count_join 46 _ (dig4_no 46 not_isDig_46 n)]
  rfl

theorem take_count {l : List UInt8} {k : Nat} {x : UInt8} (h : l[k]? = some x) : (l.take (k + 1)).count 46 = (l.take k).count 46 + if x = 46 then 1 else 0 := by
  rw [List.take_add_one, h, Option.toList_some, List.count_append, List.count_singleton]
  simp

theorem parseP_some {l : List UInt8} {a b : Nat} (h : parseP l = some (a, b)) : printA a b = l ∧ a < 18446744073709551616 ∧ b < 18446744073709551616 := by
  unfold parseP at h
  cases hp : readP l with
  | none => rw [hp] at h; cases h
  | some x =>
    rw [hp] at h
    simp only at h
    have hx := readP_lt hp
    split at h
    · rename_i he
      obtain rfl : x = (a, b) := by simpa using h
      exact ⟨he, hx.1, hx.2⟩
    · cases h

theorem cells_of {w : World} {B : Nat} {x y : Value} {t : TypeId} (h : w.heap[B]? = some (.cells #[x, y] t (0, 0))) : w.cell? ⟨B, 0, none⟩ = some x ∧ w.cell? ⟨B, 1, none⟩ = some y ∧ w.frozen? ⟨B, 0, none⟩ = false ∧ w.frozen? ⟨B, 1, none⟩ = false := by
  refine ⟨?_, ?_, ?_, ?_⟩ <;> simp [World.cell?, World.frozen?, h]

theorem parse_tuple (x : Option (Nat × Nat)) : ∃ (xh xl er : Int), parseT x = .tuple #[.agg #[.int .u64 xh, .int .u64 xl], .int .i64 er] := by
  cases x with
  | none => exact ⟨_, _, _, rfl⟩
  | some y => exact ⟨_, _, _, rfl⟩

def LawPostD (w : World) (e : Ending) (w' : World) : Prop := e = .returned (.bool true) ∧ Below w.heap.size w w'

theorem len_print {a b : Nat} : (printA a b).length ≤ 39 := by
  unfold printA
  split
  · exact len4 _
  · exact len6 rfl (gsN_leK a b)

end Go.Proofs.YtaafflmkfdicdaaDoor
