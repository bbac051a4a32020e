/- Network headers, plain: what the document's Parse tells of a list of bytes, or why it refuses it. By-name template. -/
import Derived.Test.YtpmbdjdhgcjkfaaWSum
namespace Go.Proofs.Ytpmbdjdhgcjkfaa
set_option linter.unusedVariables false
set_option linter.unusedSimpArgs false

/-- An address out of four bytes, or out of sixteen. -/
def adrH (l : List UInt8) : Nat := if l.length = 4 then 0 else numB (l.take 8)
def adrL (l : List UInt8) : Nat := if l.length = 4 then 281470681743360 + numB l else numB ((l.drop 8).take 8)
def is4I (ah al : Int) : Bool := decide (ah = 0) && decide (al / 4294967296 = 65535)

/-- What a packet's network header tells. -/
structure VW where
  v6 : Bool
  head : Int
  total : Int
  ttl : Int
  proto : Int
  srcH : Int
  srcL : Int
  dstH : Int
  dstL : Int
  frag : Bool
  id : Int
  off : Int
  more : Bool

def zvw : VW := ⟨false, 0, 0, 0, 0, 0, 0, 0, 0, false, 0, 0, false⟩

/-- What part makes of a view. -/
def partP (v : VW) (off more : Int) : VW := { v with off := off, more := decide (more = 1), frag := decide (more = 1) || decide (off ≠ 0) }

def byN (l : List UInt8) (k : Nat) : Nat := (l.getD k 0).toNat
def nbN (l : List UInt8) (o m : Nat) : Nat := numB ((l.drop o).take m)

/-- What stands in the headers of both families. -/
def view4 (l : List UInt8) (total : Nat) : VW := ⟨false, 20, total, byN l 8, byN l 9, adrH ((l.drop 12).take 4), adrL ((l.drop 12).take 4), adrH ((l.drop 16).take 4), adrL ((l.drop 16).take 4), false, 0, 0, false⟩
def view6 (l : List UInt8) (total : Nat) : VW := ⟨true, 40, total, byN l 7, byN l 6, adrH ((l.drop 8).take 16), adrL ((l.drop 8).take 16), adrH ((l.drop 24).take 16), adrL ((l.drop 24).take 16), false, 0, 0, false⟩

def parse4P (l : List UInt8) : VW × Int :=
  if l.length < 20 then (zvw, 40)
  else if byN l 0 % 16 ≠ 5 then (zvw, 42)
  else if nbN l 2 2 < 20 then (zvw, 42)
  else if l.length < nbN l 2 2 then (zvw, 40)
  else if sumP (l.take 20) ≠ 0 then (zvw, 43)
  else if 32768 ≤ nbN l 6 2 then (zvw, 42)
  else (partP { view4 l (nbN l 2 2) with id := nbN l 4 2 } ((nbN l 6 2 % 8192 * 8 : Nat) : Int) ((nbN l 6 2 / 8192 % 2 : Nat) : Int), 0)

def parse6P (l : List UInt8) : VW × Int :=
  if l.length < 40 then (zvw, 40)
  else if l.length < nbN l 4 2 + 40 then (zvw, 40)
  else if is4I (view6 l 0).srcH (view6 l 0).srcL || is4I (view6 l 0).dstH (view6 l 0).dstL then (zvw, 42)
  else if byN l 6 ≠ 44 then (view6 l (nbN l 4 2 + 40), 0)
  else if nbN l 4 2 + 40 < 48 then (zvw, 40)
  else if byN l 40 = 44 then (zvw, 42)
  else (partP { view6 l (nbN l 4 2 + 40) with head := 48, proto := byN l 40, id := nbN l 44 4 } ((nbN l 42 2 / 8 * 8 : Nat) : Int) ((nbN l 42 2 % 2 : Nat) : Int), 0)

/-- What a family's packets carry. -/
def carriesP (v6 : Bool) (p : Int) : Bool := if v6 then decide (p ≠ 1) else decide (p ≠ 58)

def innerP (l : List UInt8) : VW × Int :=
  if l.length = 0 then (zvw, 40)
  else if 2048 < l.length then (zvw, 42)
  else if byN l 0 / 16 = 4 then parse4P l
  else if byN l 0 / 16 = 6 then parse6P l
  else (zvw, 41)

def outerP (r : VW × Int) : VW × Int :=
  if r.2 ≠ 0 then (zvw, r.2)
  else if 65535 < r.1.off + r.1.total - r.1.head then (zvw, 42)
  else if carriesP r.1.v6 r.1.proto then r else (zvw, 42)

def parseP (l : List UInt8) : VW × Int := outerP (innerP l)

theorem byN_take {l : List UInt8} {n k : Nat} (h : k < n) : byN (l.take n) k = byN l k := by
  unfold byN; rw [List.getD_eq_getElem?_getD, List.getElem?_take_of_lt h, ← List.getD_eq_getElem?_getD]
theorem nbN_take {l : List UInt8} {n o m : Nat} (h : o + m ≤ n) : nbN (l.take n) o m = nbN l o m := by
  unfold nbN; rw [List.drop_take, List.take_take, Nat.min_eq_left (by omega)]
theorem sub_take {l : List UInt8} {n o m : Nat} (h : o + m ≤ n) : ((l.take n).drop o).take m = (l.drop o).take m := by
  rw [List.drop_take, List.take_take, Nat.min_eq_left (by omega)]
theorem byN_lt (l : List UInt8) (k : Nat) : byN l k < 256 := UInt8.toNat_lt _
theorem nbN_lt (l : List UInt8) (o m : Nat) : nbN l o m < 256 ^ m := by
  refine Nat.lt_of_lt_of_le (numB_lt _) (Nat.pow_le_pow_right (by omega) ?_)
  rw [List.length_take]; omega
theorem nb2_lt (l : List UInt8) (o : Nat) : nbN l o 2 < 65536 := nbN_lt l o 2
theorem nb4_lt (l : List UInt8) (o : Nat) : nbN l o 4 < 4294967296 := nbN_lt l o 4

theorem view4_take {l : List UInt8} {n : Nat} (h : 20 ≤ n) (t : Nat) : view4 (l.take n) t = view4 l t := by
  unfold view4
  rw [byN_take (by omega), byN_take (by omega), sub_take (by omega), sub_take (by omega)]
theorem view6_take {l : List UInt8} {n : Nat} (h : 40 ≤ n) (t : Nat) : view6 (l.take n) t = view6 l t := by
  unfold view6
  rw [byN_take (by omega), byN_take (by omega), sub_take (by omega), sub_take (by omega)]

theorem parse4P_bad {l : List UInt8} (h : (parse4P l).2 ≠ 0) : (parse4P l).1 = zvw := by
  unfold parse4P at h ⊢
  (repeat' split) <;> simp_all
theorem parse6P_bad {l : List UInt8} (h : (parse6P l).2 ≠ 0) : (parse6P l).1 = zvw := by
  unfold parse6P at h ⊢
  (repeat' split) <;> simp_all
theorem outerP_bad {r : VW × Int} (h : (outerP r).2 ≠ 0) : (outerP r).1 = zvw := by
  unfold outerP at h ⊢
  (repeat' split) <;> simp_all
theorem parseP_bad {l : List UInt8} (h : (parseP l).2 ≠ 0) : (parseP l).1 = zvw := outerP_bad h

/-- What is told when nothing is refused. -/
theorem parse4P_ok {l : List UInt8} (h : (parse4P l).2 = 0) : 20 ≤ l.length ∧ byN l 0 % 16 = 5 ∧ 20 ≤ nbN l 2 2 ∧ nbN l 2 2 ≤ l.length ∧ sumP (l.take 20) = 0 ∧ nbN l 6 2 < 32768 ∧ parse4P l = (partP { view4 l (nbN l 2 2) with id := nbN l 4 2 } ((nbN l 6 2 % 8192 * 8 : Nat) : Int) ((nbN l 6 2 / 8192 % 2 : Nat) : Int), 0) := by
  unfold parse4P at h ⊢
  by_cases h1 : l.length < 20
  · simp [h1] at h
  by_cases h2 : byN l 0 % 16 ≠ 5
  · simp [h1, h2] at h
  by_cases h3 : nbN l 2 2 < 20
  · simp [h1, h2, h3] at h
  by_cases h4 : l.length < nbN l 2 2
  · simp [h1, h2, h3, h4] at h
  by_cases h5 : sumP (l.take 20) ≠ 0
  · simp [h1, h2, h3, h4, h5] at h
  by_cases h6 : 32768 ≤ nbN l 6 2
  · simp [h1, h2, h3, h4, h5, h6] at h
  refine ⟨by omega, by omega, by omega, by omega, by omega, by omega, ?_⟩
  simp [h1, h2, h3, h4, h5, h6]

theorem parse6P_ok {l : List UInt8} (h : (parse6P l).2 = 0) : 40 ≤ l.length ∧ nbN l 4 2 + 40 ≤ l.length ∧ is4I (view6 l 0).srcH (view6 l 0).srcL = false ∧ is4I (view6 l 0).dstH (view6 l 0).dstL = false ∧
    ((byN l 6 ≠ 44 ∧ parse6P l = (view6 l (nbN l 4 2 + 40), 0)) ∨ (byN l 6 = 44 ∧ 48 ≤ nbN l 4 2 + 40 ∧ byN l 40 ≠ 44 ∧ parse6P l = (partP { view6 l (nbN l 4 2 + 40) with head := 48, proto := byN l 40, id := nbN l 44 4 } ((nbN l 42 2 / 8 * 8 : Nat) : Int) ((nbN l 42 2 % 2 : Nat) : Int), 0))) := by
  unfold parse6P at h ⊢
  by_cases h1 : l.length < 40
  · simp [h1] at h
  by_cases h2 : l.length < nbN l 4 2 + 40
  · simp [h1, h2] at h
  by_cases h3 : (is4I (view6 l 0).srcH (view6 l 0).srcL || is4I (view6 l 0).dstH (view6 l 0).dstL) = true
  · simp [h1, h2, h3] at h
  have h3' : is4I (view6 l 0).srcH (view6 l 0).srcL = false ∧ is4I (view6 l 0).dstH (view6 l 0).dstL = false := by simpa using h3
  by_cases h4 : byN l 6 ≠ 44
  · exact ⟨by omega, by omega, h3'.1, h3'.2, Or.inl ⟨h4, by simp [h1, h2, h3'.1, h3'.2, h4]⟩⟩
  by_cases h5 : nbN l 4 2 + 40 < 48
  · simp [h1, h2, h3, h4, h5] at h
  by_cases h6 : byN l 40 = 44
  · simp [h1, h2, h3, h4, h5, h6] at h
  refine ⟨by omega, by omega, h3'.1, h3'.2, Or.inr ⟨by omega, by omega, h6, ?_⟩⟩
  simp [h1, h2, h3'.1, h3'.2, h4, h5, h6]

theorem outerP_ok {r : VW × Int} (h : (outerP r).2 = 0) : r.2 = 0 ∧ r.1.off + r.1.total - r.1.head ≤ 65535 ∧ carriesP r.1.v6 r.1.proto = true ∧ outerP r = r := by
  unfold outerP at h ⊢
  by_cases h1 : r.2 ≠ 0
  · simp [h1] at h
  by_cases h2 : 65535 < r.1.off + r.1.total - r.1.head
  · simp [h1, h2] at h
  by_cases h3 : carriesP r.1.v6 r.1.proto = true
  · exact ⟨by omega, by omega, h3, by simp [h1, h2, h3]⟩
  · simp [h1, h2, h3] at h
theorem outerP_of {r : VW × Int} (h1 : r.2 = 0) (h2 : r.1.off + r.1.total - r.1.head ≤ 65535) (h3 : carriesP r.1.v6 r.1.proto = true) : outerP r = r := by
  unfold outerP
  rw [if_neg (by omega), if_neg (by omega), if_pos h3]

theorem innerP_ok {l : List UInt8} (h : (innerP l).2 = 0) : 0 < l.length ∧ l.length ≤ 2048 ∧ ((byN l 0 / 16 = 4 ∧ innerP l = parse4P l) ∨ (byN l 0 / 16 = 6 ∧ innerP l = parse6P l)) := by
  unfold innerP at h ⊢
  by_cases h1 : l.length = 0
  · simp [h1] at h
  by_cases h2 : 2048 < l.length
  · simp [h1, h2] at h
  by_cases h3 : byN l 0 / 16 = 4
  · exact ⟨by omega, by omega, Or.inl ⟨h3, by rw [if_neg h1, if_neg h2, if_pos h3]⟩⟩
  by_cases h4 : byN l 0 / 16 = 6
  · exact ⟨by omega, by omega, Or.inr ⟨h4, by rw [if_neg h1, if_neg h2, if_neg h3, if_pos h4]⟩⟩
  · simp [h1, h2, h3, h4] at h

/-- A packet's ends. -/
theorem parseP_ends {l : List UInt8} (h : (parseP l).2 = 0) : ∃ hd tt : Nat, (parseP l).1.head = hd ∧ (parseP l).1.total = tt ∧ 20 ≤ hd ∧ hd ≤ 48 ∧ hd ≤ tt ∧ tt ≤ l.length ∧ l.length ≤ 2048 := by
  unfold parseP at h ⊢
  obtain ⟨h1, h2, h3, h4⟩ := outerP_ok h
  obtain ⟨k1, k2, ⟨_, k3⟩ | ⟨_, k3⟩⟩ := innerP_ok h1
  · rw [h4, k3]
    rw [k3] at h1
    obtain ⟨p1, p2, p3, p4, p5, p6, p7⟩ := parse4P_ok h1
    rw [p7]
    exact ⟨20, nbN l 2 2, rfl, rfl, by omega, by omega, p3, p4, k2⟩
  · rw [h4, k3]
    rw [k3] at h1
    obtain ⟨p1, p2, p3, p4, ⟨p5, p7⟩ | ⟨p5, p6, p6', p7⟩⟩ := parse6P_ok h1
    · rw [p7]
      exact ⟨40, nbN l 4 2 + 40, rfl, rfl, by omega, by omega, by omega, p2, k2⟩
    · rw [p7]
      exact ⟨48, nbN l 4 2 + 40, rfl, rfl, by omega, by omega, by omega, p2, k2⟩

/-- A packet up to its end is the packet. -/
theorem parseP_whole {l : List UInt8} {t : Nat} (h : (parseP l).2 = 0) (ht : (parseP l).1.total = (t : Int)) : parseP (l.take t) = parseP l := by
  unfold parseP at h ht ⊢
  obtain ⟨h1, h2, h3, h4⟩ := outerP_ok h
  have key : innerP (l.take t) = innerP l := by
    rw [h4] at ht
    obtain ⟨k1, k2, ⟨k0, k3⟩ | ⟨k0, k3⟩⟩ := innerP_ok h1
    · rw [k3] at h1 ht ⊢
      obtain ⟨p1, p2, p3, p4, p5, p6, p7⟩ := parse4P_ok h1
      have et : t = nbN l 2 2 := by rw [p7] at ht; have : ((nbN l 2 2 : Nat) : Int) = t := ht; omega
      rw [p7]
      have hl : (l.take t).length = t := by rw [List.length_take]; omega
      unfold innerP
      rw [hl, if_neg (by omega), if_neg (by omega), byN_take (by omega), if_pos k0]
      unfold parse4P
      rw [hl, byN_take (by omega), nbN_take (by omega), nbN_take (by omega), nbN_take (by omega), view4_take (by omega), List.take_take, Nat.min_eq_left (by omega), if_neg (by omega), if_neg (by omega), if_neg (by omega), if_neg (by omega), if_neg (by omega), if_neg (by omega)]
    · rw [k3] at h1 ht ⊢
      obtain ⟨p1, p2, p3, p4, p5⟩ := parse6P_ok h1
      have et : t = nbN l 4 2 + 40 := by
        rcases p5 with ⟨p5, p7⟩ | ⟨p5, p6, p6', p7⟩ <;> (rw [p7] at ht; have : ((nbN l 4 2 + 40 : Nat) : Int) = t := ht; omega)
      have hl : (l.take t).length = t := by rw [List.length_take]; omega
      rcases p5 with ⟨p5, p7⟩ | ⟨p5, p6, p6', p7⟩
      · rw [p7]
        unfold innerP
        rw [hl, if_neg (by omega), if_neg (by omega), byN_take (by omega), if_neg (by omega), if_pos k0]
        unfold parse6P
        rw [hl, byN_take (by omega), nbN_take (by omega), view6_take (by omega), view6_take (by omega), p3, p4, if_neg (by omega), if_neg (by omega), if_neg (by simp), if_pos p5]
      · rw [p7]
        unfold innerP
        rw [hl, if_neg (by omega), if_neg (by omega), byN_take (by omega), if_neg (by omega), if_pos k0]
        unfold parse6P
        rw [hl, byN_take (by omega), byN_take (by omega), nbN_take (by omega), nbN_take (by omega), nbN_take (by omega), view6_take (by omega), view6_take (by omega), p3, p4, if_neg (by omega), if_neg (by omega), if_neg (by simp), if_neg (by omega), if_neg (by omega), if_neg (by omega)]
  rw [key]

/-- A packet that is cut short is none. -/
theorem parseP_cut {l : List UInt8} {a : Nat} (h : (parseP l).2 = 0) (ha : (a : Int) < (parseP l).1.total) : parseP (l.take a) = (zvw, 40) := by
  unfold parseP at h ha ⊢
  obtain ⟨h1, h2, h3, h4⟩ := outerP_ok h
  have key : innerP (l.take a) = (zvw, 40) := by
    rw [h4] at ha
    by_cases ha0 : a = 0
    · subst ha0; simp [innerP]
    obtain ⟨k1, k2, ⟨k0, k3⟩ | ⟨k0, k3⟩⟩ := innerP_ok h1
    · rw [k3] at h1 ha
      obtain ⟨p1, p2, p3, p4, p5, p6, p7⟩ := parse4P_ok h1
      have et : a < nbN l 2 2 := by rw [p7] at ha; have : (a : Int) < ((nbN l 2 2 : Nat) : Int) := ha; omega
      have hl : (l.take a).length = a := by rw [List.length_take]; omega
      unfold innerP
      rw [hl, if_neg (by omega), if_neg (by omega), byN_take (by omega), if_pos k0]
      unfold parse4P
      by_cases h20 : a < 20
      · rw [hl, if_pos h20]
      · rw [hl, byN_take (by omega), nbN_take (by omega), if_neg (by omega), if_neg (by omega), if_neg (by omega), if_pos (by omega)]
    · rw [k3] at h1 ha
      obtain ⟨p1, p2, p3, p4, p5⟩ := parse6P_ok h1
      have et : a < nbN l 4 2 + 40 := by
        rcases p5 with ⟨p5, p7⟩ | ⟨p5, p6, p6', p7⟩ <;> (rw [p7] at ha; have : (a : Int) < ((nbN l 4 2 + 40 : Nat) : Int) := ha; omega)
      have hl : (l.take a).length = a := by rw [List.length_take]; omega
      unfold innerP
      rw [hl, if_neg (by omega), if_neg (by omega), byN_take (by omega), if_neg (by omega), if_pos k0]
      unfold parse6P
      by_cases h20 : a < 40
      · rw [hl, if_pos h20]
      · rw [hl, nbN_take (by omega), if_neg (by omega), if_pos (by omega)]
  rw [key]
  rfl
end Go.Proofs.Ytpmbdjdhgcjkfaa
