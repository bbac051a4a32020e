/- Words of a line, plain; by-name template. -/
import Derived.Lib.Strings
import Derived.Lib.Hide
namespace Go.Proofs.YtmnnjkdmnfadhaaGreatDoor
set_option linter.unusedVariables false
set_option linter.unusedSimpArgs false

def bt (s : ByteArray) (j : Nat) : Nat := (s.get! j).toNat
def blankN (n : Nat) : Bool := n == 32 || n == 9
def okN (n : Nat) : Bool := blankN n || (decide (33 ≤ n) && decide (n ≤ 126))

theorem bt_get (s : ByteArray) (k : Nat) (h : k < s.size) : s[k].toNat = bt s k := by
  obtain ⟨d⟩ := s
  show (d[k]'h).toNat = (d[k]!).toNat
  rw [getElem!_pos d k h]
theorem bt_list (s : ByteArray) (k : Nat) (h : k < s.size) : s.data.toList[k]? = some (s.get! k) := by
  obtain ⟨d⟩ := s
  show d.toList[k]? = some (d[k]!)
  rw [Array.getElem?_toList, Array.getElem?_eq_getElem h, getElem!_pos d k h]
end Go.Proofs.YtmnnjkdmnfadhaaGreatDoor
