/- The plain part of window: what a connection is behind a segment; by-name template. -/
import Derived.Laws.Bits128
import Derived.WalkKit
namespace Go.Proofs.Ytdgodndaaenafab
open Go
set_option linter.unusedVariables false
set_option linter.unusedSimpArgs false

/-- What is known of one side. -/
structure SD where
  seen : Bool
  e : Int
  m : Int
  fin : Bool
structure CN where
  st : Int
  a : SD
  b : SD
/-- A header. -/
structure TR where
  sp : Int
  dp : Int
  sq : Int
  ak : Int
  fl : Int
  wi : Int
  ty : Int
  co : Int
  he : Int
  da : Int

def hb (t : TR) (k : Int) : Bool := bits .and .i64 t.fl k != 0
def lessP (a b : Int) : Bool := decide (0 < ((b - a) % 4294967296)) && decide (((b - a) % 4294967296) < 2147483648)
def grP (a b : Int) : Int := if lessP a b then b else a
def e0P (t : TR) : Int := ((t.sq + t.da) % 4294967296)
def e1P (t : TR) : Int := if hb t 2 then ((e0P t + 1) % 4294967296) else e0P t
def endP (t : TR) : Int := if hb t 1 then ((e1P t + 1) % 4294967296) else e1P t
def strayP (t : TR) (y : SD) : Bool := if hb t 16 then y.seen && lessP y.e t.ak else !(hb t 6)
def bareP (t : TR) : Bool := !(hb t 5) && t.da == 0
def acksP (t : TR) (n : Int) : Bool := hb t 16 && t.ak == n
def firstP (t : TR) : SD := ⟨true, endP t, ((endP t + t.wi) % 4294967296), false⟩
def sentP (x : SD) (t : TR) : SD := ⟨x.seen, grP x.e (endP t), x.m, x.fin || hb t 1⟩
def allowP (y : SD) (t : TR) : SD := if y.seen && hb t 16 then ⟨y.seen, y.e, grP y.m ((t.ak + t.wi) % 4294967296), y.fin⟩ else y
def stateP (st : Int) (fa fb : Bool) (ofA : Bool) (t : TR) : Int := if hb t 4 then 5 else if fa || fb then 4 else if st == 2 && ofA && hb t 16 then 3 else st
def opensP (t : TR) : Bool := hb t 2 && !(hb t 1) && !(hb t 4) && !(hb t 16) && t.da == 0
def zsd : SD := ⟨false, 0, 0, false⟩
def zcn : CN := ⟨0, zsd, zsd⟩
def openP (t : TR) : CN × Bool := if opensP t then (⟨1, firstP t, zsd⟩, true) else (zcn, false)
def lifeP (st : Int) : Int := if st == 1 || st == 2 then 10 else if st == 3 then 1000 else if st == 4 then 20 else 2

/-- What a segment of X does: the state, both sides, and whether it belongs. -/
def stepP (st : Int) (x y : SD) (back : Bool) (t : TR) : Int × SD × SD × Bool :=
  if decide (st < 1) || decide (5 ≤ st) || strayP t y then (st, x, y, false)
  else if hb t 2 && x.seen then (st, x, y, bareP t && endP t == x.e && decide (st ≤ 2))
  else if hb t 2 then (if bareP t && back && st == 1 && acksP t y.e then (2, firstP t, allowP y t, true) else (st, x, y, false))
  else if !x.seen then (if hb t 4 && acksP t y.e then (5, x, y, true) else (st, x, y, false))
  else if lessP x.m (endP t) || lessP t.sq (((x.e - 65536) % 4294967296)) then (st, x, y, false)
  else (stateP st (sentP x t).fin (allowP y t).fin (!back) t, sentP x t, allowP y t, true)
def nextP (c : CN) (back : Bool) (t : TR) : CN × Bool :=
  if back then (⟨(stepP c.st c.b c.a true t).1, (stepP c.st c.b c.a true t).2.2.1, (stepP c.st c.b c.a true t).2.1⟩, (stepP c.st c.b c.a true t).2.2.2)
  else (⟨(stepP c.st c.a c.b false t).1, (stepP c.st c.a c.b false t).2.1, (stepP c.st c.a c.b false t).2.2.1⟩, (stepP c.st c.a c.b false t).2.2.2)

/-! ### Bits -/
theorem and_low (n : Int) (k : Nat) (hk : k < 32) : bits .and .i64 n k = (((n % 32).toNat &&& k : Nat) : Int) := by
  have key : (BitVec.ofInt 64 n &&& BitVec.ofInt 64 (k : Int)).toNat = (n % 32).toNat &&& k := by
    rw [BitVec.toNat_and, BitVec.toNat_ofInt, BitVec.toNat_ofInt]
    have h1 : ((k : Int) % ((2 ^ 64 : Nat) : Int)).toNat = k := by omega
    have h2 : (n % 32).toNat = (n % ((2 ^ 64 : Nat) : Int)).toNat % 32 := by omega
    have h3 : k = 31 &&& k := by
      have := Nat.and_two_pow_sub_one_eq_mod k 5
      rw [Nat.and_comm] at this
      rw [show (31 : Nat) = 2 ^ 5 - 1 from rfl, this]; omega
    rw [h1, h2]
    have h4 := Nat.and_two_pow_sub_one_eq_mod (n % ((2 ^ 64 : Nat) : Int)).toNat 5
    rw [show (32 : Nat) = 2 ^ 5 from rfl, ← h4, Nat.and_assoc, show (2 ^ 5 - 1 : Nat) = 31 from rfl, ← h3]
  show IntKind.i64.wrap ((BitVec.ofInt 64 n &&& BitVec.ofInt 64 (k : Int)).toNat : Nat) = _
  rw [key, IntKind.wrap_i64]
  have hle : (n % 32).toNat &&& k ≤ k := Nat.and_le_right
  omega
theorem low_lt (n : Int) : (n % 32).toNat < 32 := by omega
theorem tab5 : ∀ r, r < 32 → ((((r &&& 5 : Nat) : Int) != 0) = ((((r &&& 1 : Nat) : Int) != 0) || (((r &&& 4 : Nat) : Int) != 0))) := by decide
theorem tab6 : ∀ r, r < 32 → ((((r &&& 6 : Nat) : Int) != 0) = ((((r &&& 2 : Nat) : Int) != 0) || (((r &&& 4 : Nat) : Int) != 0))) := by decide
theorem tab23 : ∀ r, r < 32 → ((((r &&& 23 : Nat) : Int) == 2) = ((((r &&& 2 : Nat) : Int) != 0) && !(((r &&& 1 : Nat) : Int) != 0) && !(((r &&& 4 : Nat) : Int) != 0) && !(((r &&& 16 : Nat) : Int) != 0))) := by decide
theorem tab18 : ∀ r, r < 32 → ((((r &&& 18 : Nat) : Int) == 18) = ((((r &&& 2 : Nat) : Int) != 0) && (((r &&& 16 : Nat) : Int) != 0))) := by decide
theorem hb5 (t : TR) : hb t 5 = (hb t 1 || hb t 4) := by
  have := tab5 _ (low_lt t.fl)
  unfold hb
  rw [show (5 : Int) = ((5 : Nat) : Int) from rfl, show (1 : Int) = ((1 : Nat) : Int) from rfl, show (4 : Int) = ((4 : Nat) : Int) from rfl, and_low _ 5 (by omega), and_low _ 1 (by omega), and_low _ 4 (by omega)]
  exact this
theorem hb6 (t : TR) : hb t 6 = (hb t 2 || hb t 4) := by
  have := tab6 _ (low_lt t.fl)
  unfold hb
  rw [show (6 : Int) = ((6 : Nat) : Int) from rfl, show (2 : Int) = ((2 : Nat) : Int) from rfl, show (4 : Int) = ((4 : Nat) : Int) from rfl, and_low _ 6 (by omega), and_low _ 2 (by omega), and_low _ 4 (by omega)]
  exact this
theorem al1 (n : Int) : bits .and .i64 n 1 = (((n % 32).toNat &&& 1 : Nat) : Int) := and_low n 1 (by omega)
theorem al2 (n : Int) : bits .and .i64 n 2 = (((n % 32).toNat &&& 2 : Nat) : Int) := and_low n 2 (by omega)
theorem al4 (n : Int) : bits .and .i64 n 4 = (((n % 32).toNat &&& 4 : Nat) : Int) := and_low n 4 (by omega)
theorem al16 (n : Int) : bits .and .i64 n 16 = (((n % 32).toNat &&& 16 : Nat) : Int) := and_low n 16 (by omega)
theorem al18 (n : Int) : bits .and .i64 n 18 = (((n % 32).toNat &&& 18 : Nat) : Int) := and_low n 18 (by omega)
theorem al23 (n : Int) : bits .and .i64 n 23 = (((n % 32).toNat &&& 23 : Nat) : Int) := and_low n 23 (by omega)
theorem hb23 (t : TR) : (bits .and .i64 t.fl 23 == 2) = (hb t 2 && !(hb t 1) && !(hb t 4) && !(hb t 16)) := by
  have := tab23 _ (low_lt t.fl)
  unfold hb
  rw [al23, al1, al2, al4, al16]
  exact this
theorem hb18 (t : TR) : (bits .and .i64 t.fl 18 == 18) = (hb t 2 && hb t 16) := by
  have := tab18 _ (low_lt t.fl)
  unfold hb
  rw [al18, al2, al16]
  exact this
end Go.Proofs.Ytdgodndaaenafab
