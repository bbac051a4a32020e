/- What may be a name, as a Bool; both sides' contracts told by it; by-name template. -/
import Derived.Test.YtmnnjkdmnfadhaaGreatDoorLNRName
namespace Go.Proofs.YtmnnjkdmnfadhaaGreatDoor
open Go.RowKit
set_option linter.unusedVariables false
set_option linter.unusedSimpArgs false

def nmB (s : ByteArray) : Bool := decide (0 < s.size) && (decide (s.size ≤ 12) && (!(s.toList == [97, 110, 121]) && (letN (bt s 0) && (List.range s.size).all fun j => chrN (bt s j))))
theorem nmB_iff (s : ByteArray) : nmB s = true ↔ NameOk s := by
  unfold nmB NameOk
  simp only [Bool.and_eq_true, decide_eq_true_eq, Bool.not_eq_true', beq_eq_false_iff_ne, List.all_eq_true, List.mem_range]
theorem nameB_any (s : ByteArray) (hs : s.size ≤ 9223372036854775807) (w : World) : Calls Tryz.prog 95 #[.string s] w fun e w' => e = .returned (.bool (nmB s)) ∧ w = w' :=
  (name_any s hs w).mono fun e w' ⟨b, he, hi, hw⟩ => ⟨by rw [he, Bool.eq_iff_iff.2 (hi.trans (nmB_iff s).symm)], hw⟩
theorem rnameB_any (s : ByteArray) (hs : s.size ≤ 9223372036854775807) (w : World) : Calls Tryz.prog 78 #[.string s] w fun e w' => e = .returned (.bool (nmB s)) ∧ w = w' :=
  (rname_any s hs w).mono fun e w' ⟨b, he, hi, hw⟩ => ⟨by rw [he, Bool.eq_iff_iff.2 (hi.trans (nmB_iff s).symm)], hw⟩
end Go.Proofs.YtmnnjkdmnfadhaaGreatDoor
