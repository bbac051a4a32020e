/- Plain texts of addresses: printed, and read as the program reads. By-name template. -/
import Derived.Test.YtmnnjkdmnfadhaaGreatDoorAPlain
namespace Go.Proofs.YtmnnjkdmnfadhaaGreatDoor
set_option linter.unusedVariables false
open Go.Lib

/-- The eight groups. -/
def gsN (hi lo : Nat) : List Nat := [hi / 281474976710656 % 65536, hi / 4294967296 % 65536, hi / 65536 % 65536, hi % 65536, lo / 281474976710656 % 65536, lo / 4294967296 % 65536, lo / 65536 % 65536, lo % 65536]

/-- The longest row of zeros, as the program looks for it: from, to. -/
def lrowB : List Bool → Nat → Nat → Nat → Nat → Nat × Nat
  | [], _, f, t, _ => (f, t)
  | b :: r, i, f, t, s => if b then (if i + 1 - s > max 1 (t - f) then lrowB r (i + 1) s (i + 1) s else lrowB r (i + 1) f t s) else lrowB r (i + 1) f t (i + 1)

def zr : List Bool → Nat
  | [] => 0
  | b :: r => if b then zr r + 1 else 0

/-- As the document's own answer looks for it: where, how long. -/
def rrowB : List Bool → Nat → Int → Nat → Int × Nat
  | [], _, p, z => (p, z)
  | b :: r, i, p, z => if zr (b :: r) > z then rrowB r (i + 1) i (zr (b :: r)) else rrowB r (i + 1) p z

def rowFacts (l : List Bool) : Bool :=
  let f := (lrowB l 0 0 0 0).1
  let t := (lrowB l 0 0 0 0).2
  decide (f ≤ t) && decide (t ≤ 8) && (decide (f = t) || decide (f + 2 ≤ t)) && (List.range 8).all (fun i => !(decide (f ≤ i) && decide (i < t)) || l.getD i false) &&
    decide (rrowB l 0 (-1) 1 = if f = t then (-1, 1) else ((f : Int), t - f))

theorem rowFacts_all : ∀ b0 b1 b2 b3 b4 b5 b6 b7 : Bool, rowFacts [b0, b1, b2, b3, b4, b5, b6, b7] = true := by decide +kernel

def zs (g : List Nat) : List Bool := g.map (· == 0)
def rowF (g : List Nat) : Nat := (lrowB (zs g) 0 0 0 0).1
def rowT (g : List Nat) : Nat := (lrowB (zs g) 0 0 0 0).2

theorem row_facts {g : List Nat} (h : g.length = 8) : rowF g ≤ rowT g ∧ rowT g ≤ 8 ∧ (rowF g = rowT g ∨ rowF g + 2 ≤ rowT g) ∧ (∀ i, rowF g ≤ i → i < rowT g → g.getD i 1 = 0) ∧
    rrowB (zs g) 0 (-1) 1 = if rowF g = rowT g then (-1, 1) else ((rowF g : Int), rowT g - rowF g) := by
  match g, h with
  | [g0, g1, g2, g3, g4, g5, g6, g7], _ =>
    have := rowFacts_all (g0 == 0) (g1 == 0) (g2 == 0) (g3 == 0) (g4 == 0) (g5 == 0) (g6 == 0) (g7 == 0)
    unfold rowF rowT
    rw [show zs [g0, g1, g2, g3, g4, g5, g6, g7] = [g0 == 0, g1 == 0, g2 == 0, g3 == 0, g4 == 0, g5 == 0, g6 == 0, g7 == 0] from rfl]
    unfold rowFacts at this
    simp only [Bool.and_eq_true, Bool.or_eq_true, decide_eq_true_eq, List.all_eq_true, List.mem_range, Bool.not_eq_true', Bool.and_eq_false_iff, decide_eq_false_iff_not] at this
    obtain ⟨⟨⟨⟨h1, h2⟩, h3⟩, h4⟩, h5⟩ := this
    refine ⟨h1, h2, h3, ?_, h5⟩
    intro i ha hb
    have h8 : i < 8 := by omega
    have := h4 i h8
    rcases this with h | h
    · rcases h with h | h
      · exact absurd ha h
      · exact absurd hb h
    · match i, h8 with
      | 0, _ => simpa using h
      | 1, _ => simpa using h
      | 2, _ => simpa using h
      | 3, _ => simpa using h
      | 4, _ => simpa using h
      | 5, _ => simpa using h
      | 6, _ => simpa using h
      | 7, _ => simpa using h

def hexs (l : List Nat) : List (List UInt8) := l.map (digs 16)
def print6 (g : List Nat) : List UInt8 :=
  if rowF g = rowT g then joinC 58 (hexs g) else joinC 58 (hexs (g.take (rowF g))) ++ [58, 58] ++ joinC 58 (hexs (g.drop (rowT g)))
def bytes4 (n : Nat) : List Nat := [n / 16777216 % 256, n / 65536 % 256, n / 256 % 256, n % 256]
def print4 (n : Nat) : List UInt8 := joinC 46 ((bytes4 n).map (digs 10))
/-- Whether a number is an IPv4 address. -/
def is4 (hi lo : Nat) : Bool := decide (hi = 0) && decide (lo / 4294967296 = 65535)
def printA (hi lo : Nat) : List UInt8 := if is4 hi lo then print4 (lo % 4294967296) else print6 (gsN hi lo)

/-! ### reading -/
/-- The value of a byte in ParseUint to the base sixteen. -/
def pv (c : UInt8) : Option Nat :=
  if 48 ≤ c.toNat ∧ c.toNat ≤ 57 then some (c.toNat - 48)
  else if 97 ≤ (c.toNat ||| 32) ∧ (c.toNat ||| 32) ≤ 102 then some ((c.toNat ||| 32) - 87) else none
def hexM (acc : Nat) : List UInt8 → NumEnd Nat
  | [] => .ok acc
  | c :: r => match pv c with
    | none => .syntax
    | some d => if 65535 < acc * 16 + d then .range else hexM (acc * 16 + d) r
def hexEnd (l : List UInt8) : NumEnd Nat := if l = [] then .syntax else hexM 0 l

theorem pv_dig {n : Nat} (h : n < 16) : pv (dig n) = some n := by
  have : ∀ n, n < 16 → pv (dig n) = some n := by decide
  exact this n h

theorem hexM_digs (n : Nat) (h : n ≤ 65535) : ∀ r, hexM 0 (digs 16 n ++ r) = hexM n r := by
  induction n using Nat.strongRecOn with
  | _ n ih =>
    intro r
    by_cases h1 : n < 16
    · rw [digs_lo h1, List.singleton_append, hexM, pv_dig h1]
      simp only [Nat.zero_mul, Nat.zero_add]
      rw [if_neg (by omega)]
    · rw [digs_hi (by omega) (by omega), List.append_assoc, ih (n / 16) (Nat.div_lt_self (by omega) (by omega)) (by omega), List.singleton_append, hexM, pv_dig (Nat.mod_lt _ (by omega))]
      simp only
      rw [show n / 16 * 16 + n % 16 = n by omega, if_neg (by omega)]

theorem hexEnd_digs {n : Nat} (h : n ≤ 65535) : hexEnd (digs 16 n) = .ok n := by
  unfold hexEnd
  rw [if_neg (digs_ne _ _)]
  simpa [hexM] using hexM_digs n h []

theorem uintM_digs (M n : Nat) (hM : M ≤ 65535) (h : n ≤ M) : ∀ r, parseUintM M 0 (digs 10 n ++ r) = parseUintM M n r := by
  induction n using Nat.strongRecOn with
  | _ n ih =>
    intro r
    have hd : ∀ k, k < 10 → ∀ acc, parseUintM M acc (dig k :: r) = if M < acc * 10 + k then .range else if 1844674407370955162 ≤ acc then .range else parseUintM M (acc * 10 + k) r := by
      intro k hk acc
      have e : (dig k).toNat = 48 + k := by rw [dig_toNat (by omega), if_pos hk]
      rw [parseUintM, e, if_pos (by omega), show 48 + k - 48 = k by omega]
      by_cases h1 : 1844674407370955162 ≤ acc
      · rw [if_pos h1, if_pos (by omega)]
      · rw [if_neg h1]; by_cases h2 : M < acc * 10 + k
        · rw [if_pos h2, if_pos h2]
        · rw [if_neg h2, if_neg h2, if_neg h1]
    by_cases h1 : n < 10
    · rw [digs_lo h1, List.singleton_append, hd n h1 0, Nat.zero_mul, Nat.zero_add, if_neg (by omega), if_neg (by omega)]
    · rw [digs_hi (by omega) (by omega), List.append_assoc, ih (n / 10) (Nat.div_lt_self (by omega) (by omega)) (by omega), List.singleton_append, hd _ (Nat.mod_lt _ (by omega)),
        show n / 10 * 10 + n % 10 = n by omega, if_neg (by omega), if_neg (by omega)]

theorem uintB_digs {n : Nat} (h : n ≤ 255) : parseUintB 8 (digs 10 n) = .ok n := by
  unfold parseUintB
  rw [if_neg (digs_ne _ _)]
  have := uintM_digs 255 n (by omega) h []
  simp only [List.append_nil] at this
  rw [show 2 ^ 8 - 1 = 255 by decide, this]; rfl

/-- The groups of a text, one behind the other. -/
def rgFrom : List (List UInt8) → List Nat → Option (List Nat)
  | [], acc => some acc
  | p :: r, acc => match hexEnd p with
    | .ok n => rgFrom r (acc ++ [n])
    | _ => none
def rgP (s : List UInt8) : Option (List Nat) := if s = [] then some [] else rgFrom (splitOn 58 s) []

theorem rgFrom_hexs : ∀ (l : List Nat) (acc : List Nat), (∀ n ∈ l, n ≤ 65535) → rgFrom (hexs l) acc = some (acc ++ l)
  | [], acc, _ => by simp [rgFrom, hexs]
  | n :: l, acc, h => by
    have := rgFrom_hexs l (acc ++ [n]) (fun x hx => h x (by simp [hx]))
    rw [hexs] at this ⊢
    rw [List.map_cons, rgFrom, hexEnd_digs (h n (by simp))]
    simp only
    rw [this]; simp

theorem hexs_no {l : List Nat} (c : UInt8) (hc : ¬ isDig c) : ∀ p ∈ hexs l, c ∉ p := by
  intro p hp hcp
  obtain ⟨n, _, rfl⟩ := List.mem_map.1 hp
  exact hc (digs_all (by omega) (by omega) n c hcp)

theorem join_hexs_ne {l : List Nat} (h : l ≠ []) : joinC 58 (hexs l) ≠ [] := by
  cases l with
  | nil => exact absurd rfl h
  | cons n r =>
    cases r with
    | nil => exact digs_ne _ _
    | cons m r => rw [hexs, List.map_cons, joinC_cons 58 _ _ (by simp)]; simp

theorem rgP_join (l : List Nat) (h : ∀ n ∈ l, n ≤ 65535) : rgP (joinC 58 (hexs l)) = some l := by
  unfold rgP
  by_cases hl : l = []
  · subst hl; rfl
  · rw [if_neg (join_hexs_ne hl), splitOn_join 58 _ (by simpa [hexs] using hl) (hexs_no 58 not_isDig_58), rgFrom_hexs l [] h]; simp

/-- No '::', and no ':' at the end. -/
def NoCC : List UInt8 → Prop
  | [] => True
  | [a] => a ≠ 58
  | a :: b :: r => ¬ (a = 58 ∧ b = 58) ∧ NoCC (b :: r)

theorem index_cc (B : List UInt8) : ∀ A : List UInt8, NoCC A → index (A ++ 58 :: 58 :: B) [58, 58] = A.length
  | [], _ => by rw [List.nil_append, index]; simp [List.isPrefixOf]
  | [a], h => by
    have := index_cc B [] trivial
    rw [List.nil_append] at this
    rw [List.singleton_append, index]
    have hp : ([58, 58] : List UInt8).isPrefixOf (a :: 58 :: 58 :: B) = false := by
      have h : a ≠ 58 := h
      simp [List.isPrefixOf, Ne.symm h]
    rw [hp, this]; simp
  | a :: b :: r, h => by
    have ih := index_cc B (b :: r) h.2
    rw [List.cons_append, index]
    have hp : ([58, 58] : List UInt8).isPrefixOf (a :: (b :: r ++ 58 :: 58 :: B)) = false := by
      have h1 := h.1
      simp only [List.cons_append, List.isPrefixOf, Bool.and_eq_false_iff, beq_eq_false_iff_ne, Bool.and_true]
      by_cases ha : a = 58
      · exact Or.inr (fun e => h1 ⟨ha, e.symm⟩)
      · exact Or.inl (fun e => ha e.symm)
    rw [hp, ih]
    simp
    omega

theorem index_none : ∀ A : List UInt8, NoCC A → index A [58, 58] = -1
  | [], _ => by rw [index]; simp
  | [a], h => by
    rw [index]
    have hp : ([58, 58] : List UInt8).isPrefixOf [a] = false := by
      simp [List.isPrefixOf]
    rw [hp, index_none [] trivial]; simp
  | a :: b :: r, h => by
    have ih := index_none (b :: r) h.2
    rw [index]
    have hp : ([58, 58] : List UInt8).isPrefixOf (a :: b :: r) = false := by
      have h1 := h.1
      simp only [List.isPrefixOf, Bool.and_eq_false_iff, beq_eq_false_iff_ne, Bool.and_true]
      by_cases ha : a = 58
      · exact Or.inr (fun e => h1 ⟨ha, e.symm⟩)
      · exact Or.inl (fun e => ha e.symm)
    rw [hp, ih]
    simp

theorem noCC_word : ∀ p : List UInt8, 58 ∉ p → NoCC p
  | [], _ => trivial
  | [a], h => by have : a ≠ 58 := fun e => h (by simp [e]); exact this
  | a :: b :: r, h => ⟨fun e => h (by simp [e.1]), noCC_word (b :: r) (fun e => h (List.mem_cons_of_mem _ e))⟩

theorem noCC_app : ∀ (p q : List UInt8), p ≠ [] → 58 ∉ p → q ≠ [] → q.head? ≠ some 58 → NoCC q → NoCC (p ++ 58 :: q)
  | [], _, h, _, _, _, _ => absurd rfl h
  | [a], q, _, hp, hq, hh, hn => by
    have ha : a ≠ 58 := fun e => hp (by simp [e])
    refine ⟨fun e => ha e.1, ?_⟩
    cases q with
    | nil => exact absurd rfl hq
    | cons b r => exact ⟨fun e => hh (by simp [e.2]), hn⟩
  | a :: b :: r, q, _, hp, hq, hh, hn => by
    have ha : a ≠ 58 := fun e => hp (by simp [e])
    exact ⟨fun e => ha e.1, noCC_app (b :: r) q (List.cons_ne_nil _ _) (fun e => hp (List.mem_cons_of_mem _ e)) hq hh hn⟩

theorem head_join {l : List Nat} : (joinC 58 (hexs l)).head? ≠ some 58 := by
  cases l with
  | nil => simp [hexs, joinC]
  | cons n r =>
    have hne := digs_ne 16 n
    have hall := digs_all (b := 16) (by omega) (by omega) n
    have : (digs 16 n).head? ≠ some 58 := by
      cases hd : digs 16 n with
      | nil => exact absurd hd hne
      | cons c t =>
        intro e
        obtain rfl : c = 58 := by simpa using e
        exact not_isDig_58 (hall 58 (by rw [hd]; simp))
    cases r with
    | nil => exact this
    | cons m r =>
      rw [hexs, List.map_cons, joinC_cons 58 _ _ (by simp)]
      cases hd : digs 16 n with
      | nil => exact absurd hd hne
      | cons c t => rw [hd] at this; simpa using this

theorem noCC_join : ∀ l : List Nat, NoCC (joinC 58 (hexs l))
  | [] => trivial
  | [n] => noCC_word _ (hexs_no (l := [n]) 58 not_isDig_58 _ (by simp [hexs, joinC]))
  | n :: m :: r => by
    have ih := noCC_join (m :: r)
    rw [hexs, List.map_cons, joinC_cons 58 _ _ (by simp)]
    exact noCC_app _ _ (digs_ne _ _) (hexs_no (l := [n]) 58 not_isDig_58 _ (by simp [hexs])) (join_hexs_ne (l := m :: r) (by simp)) (head_join (l := m :: r)) ih

def hiOf (g : List Nat) : Nat := ((g.getD 0 0 * 65536 + g.getD 1 0) * 65536 + g.getD 2 0) * 65536 + g.getD 3 0
def loOf (g : List Nat) : Nat := ((g.getD 4 0 * 65536 + g.getD 5 0) * 65536 + g.getD 6 0) * 65536 + g.getD 7 0

/-- Groups ahead and behind, zeros between. -/
def fillG (h t : List Nat) : List Nat := h ++ List.replicate (8 - h.length - t.length) 0 ++ t

def read6P (s : List UInt8) : Option (Nat × Nat) :=
  match rgP (cut s [58, 58]).1 with
  | none => none
  | some h => match rgP (cut s [58, 58]).2.1 with
    | none => none
    | some t => if 8 < h.length + t.length then none else some (hiOf (fillG h t), loOf (fillG h t))

/-- Four numbers, one behind the other. -/
def r4From : List (List UInt8) → Nat → Option Nat
  | [], n => some n
  | p :: r, n => match parseUintB 8 p with
    | .ok b => r4From r (n * 256 % 4294967296 + b)
    | _ => none
def read4P (s : List UInt8) : Option (Nat × Nat) :=
  if (splitOn 46 s).length = 4 then (r4From (splitOn 46 s) 0).map fun n => (0, 281470681743360 + n) else none

def readP (s : List UInt8) : Option (Nat × Nat) :=
  if 39 < s.length then none else if 58 ∈ s then read6P s else read4P s
end Go.Proofs.YtmnnjkdmnfadhaaGreatDoor
