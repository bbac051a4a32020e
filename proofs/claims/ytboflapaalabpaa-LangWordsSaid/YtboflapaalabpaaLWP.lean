/- Words of a line, plain; by-name template. -/
import Derived.Lib.FieldsP
import Derived.Lib.IndexMore
import Derived.Lib.Hide
namespace Go.Proofs.Ytboflapaalabpaa
set_option linter.unusedVariables false
set_option linter.unusedSimpArgs false

def bt (s : ByteArray) (j : Nat) : Nat := (s.get! j).toNat
def blankN (n : Nat) : Bool := n == 32 || n == 9
def okN (n : Nat) : Bool := blankN n || (decide (33 ≤ n) && decide (n ≤ 126))

theorem bt_get (s : ByteArray) (k : Nat) (h : k < s.size) : s[k].toNat = bt s k := by
  obtain ⟨d⟩ := s
  show (d[k]'h).toNat = (d[k]!).toNat
  rw [getElem!_pos d k h]
theorem bt_list (s : ByteArray) (k : Nat) (h : k < s.size) : s.data.toList[k]? = some (s.get! k) := by
  obtain ⟨d⟩ := s
  show d.toList[k]? = some (d[k]!)
  rw [Array.getElem?_toList, Array.getElem?_eq_getElem h, getElem!_pos d k h]

/-- The spans ahead of place i, and where the word that stands there begins. -/
def stP (s : ByteArray) : Nat → List (Nat × Nat) × Option Nat
  | 0 => ([], none)
  | i + 1 => if blankN (bt s i) = true then (match (stP s i).2 with | some a => ((stP s i).1 ++ [(a, i)], none) | none => ((stP s i).1, none)) else ((stP s i).1, some ((stP s i).2.getD i))
theorem stP_blank_some {s : ByteArray} {i a : Nat} (h : blankN (bt s i) = true) (h2 : (stP s i).2 = some a) : stP s (i + 1) = ((stP s i).1 ++ [(a, i)], none) := by
  rw [stP, if_pos h, h2]
theorem stP_blank_none {s : ByteArray} {i : Nat} (h : blankN (bt s i) = true) (h2 : (stP s i).2 = none) : stP s (i + 1) = ((stP s i).1, none) := by
  rw [stP, if_pos h, h2]
theorem stP_word {s : ByteArray} {i : Nat} (h : blankN (bt s i) = false) : stP s (i + 1) = ((stP s i).1, some ((stP s i).2.getD i)) := by
  rw [stP, if_neg (by simp [h])]
theorem stP_lt (s : ByteArray) : ∀ i, (∀ a, (stP s i).2 = some a → a < i) ∧ ∀ x ∈ (stP s i).1, x.1 < x.2 ∧ x.2 ≤ i
  | 0 => ⟨fun a h => by simp [stP] at h, fun x h => by simp [stP] at h⟩
  | i + 1 => by
    obtain ⟨h1, h2⟩ := stP_lt s i
    cases hb : blankN (bt s i) with
    | true =>
      cases hs : (stP s i).2 with
      | some a =>
        rw [stP_blank_some hb hs]
        refine ⟨fun b h => by simp at h, fun x hx => ?_⟩
        rcases List.mem_append.1 hx with hx | hx
        · have := h2 x hx; omega
        · simp at hx; subst hx; have := h1 a hs; simp; omega
      | none =>
        rw [stP_blank_none hb hs]
        exact ⟨fun b h => by simp at h, fun x hx => by have := h2 x hx; omega⟩
    | false =>
      rw [stP_word hb]
      refine ⟨fun b h => ?_, fun x hx => by have := h2 x hx; omega⟩
      simp at h; subst h
      cases hs : (stP s i).2 with
      | some a => have := h1 a hs; simp; omega
      | none => simp
theorem stP_len (s : ByteArray) : ∀ i, (stP s i).1.length ≤ i
  | 0 => by simp [stP]
  | i + 1 => by
    have := stP_len s i
    cases hb : blankN (bt s i) with
    | true =>
      cases hs : (stP s i).2 with
      | some a => rw [stP_blank_some hb hs]; simp; omega
      | none => rw [stP_blank_none hb hs]; simp; omega
    | false => rw [stP_word hb]; simp; omega
def closeAt (n : Nat) (x : List (Nat × Nat) × Option Nat) : List (Nat × Nat) := match x.2 with
  | some a => x.1 ++ [(a, n)]
  | none => x.1
/-- The words ahead of place n. -/
def wordsAt (s : ByteArray) (n : Nat) : List ByteArray := (closeAt n (stP s n)).map fun x => s.extract x.1 x.2

theorem dec_ascii {s : ByteArray} {i : Nat} (h : bt s i < 128) : Utf8.decode s i = (bt s i, 1) := by
  unfold Utf8.decode
  simp only [Nat.add_zero]
  unfold bt at h ⊢
  rw [if_pos (by exact h)]

theorem spans_ascii (s : ByteArray) (hb : ∀ j, j < s.size → bt s j < 128) : ∀ f pos, s.size ≤ pos + f → pos ≤ s.size → Lib.spansFromP blankN s f pos (stP s pos).2 (stP s pos).1 = stP s s.size
  | 0, pos, h1, h2 => by
    obtain rfl : pos = s.size := by omega
    rfl
  | f + 1, pos, h1, h2 => by
    by_cases hlt : pos < s.size
    · have hd := dec_ascii (hb pos hlt)
      have ih := spans_ascii s hb f (pos + 1) (by omega) (by omega)
      unfold Lib.spansFromP
      rw [if_pos hlt, hd]
      cases hbl : blankN (bt s pos) with
      | true =>
        cases hs : (stP s pos).2 with
        | some a => rw [stP_blank_some hbl hs] at ih; simpa [hbl, hs] using ih
        | none => rw [stP_blank_none hbl hs] at ih; simpa [hbl, hs] using ih
      | false =>
        rw [stP_word hbl] at ih
        cases hs : (stP s pos).2 with
        | some a => rw [hs] at ih; simpa [hbl, hs] using ih
        | none => rw [hs] at ih; simpa [hbl, hs] using ih
    · obtain rfl : pos = s.size := by omega
      rw [Lib.spansFromP_end _ _ _ _ _ _ hlt]

/-- The words of a text of printed letters. -/
theorem fields_ascii (s : ByteArray) (hb : ∀ j, j < s.size → bt s j < 128) : Lib.goFieldsP blankN s = wordsAt s s.size := by
  have := spans_ascii s hb s.size 0 (by omega) (by omega)
  simp only [stP] at this
  unfold Lib.goFieldsP Lib.spansOfP wordsAt Lib.closeSpans closeAt
  rw [this]
  cases (stP s s.size).2 <;> rfl
theorem size_extract0 (s : ByteArray) (n : Nat) (h : n ≤ s.size) : (s.extract 0 n).size = n := by
  rw [ByteArray.size_extract]; omega
theorem bt_extract (s : ByteArray) (n j : Nat) (h : n ≤ s.size) (hj : j < n) : bt (s.extract 0 n) j = bt s j := by
  rw [← bt_get _ j (by rw [size_extract0 s n h]; exact hj), ← bt_get _ j (by omega)]
  congr 1
  show (s.extract 0 n).data[j]'_ = s.data[j]'_
  simp [ByteArray.data_extract]
theorem stP_extract (s : ByteArray) (n : Nat) (h : n ≤ s.size) : ∀ i, i ≤ n → stP (s.extract 0 n) i = stP s i
  | 0, _ => rfl
  | i + 1, hi => by
    have ih := stP_extract s n h i (by omega)
    rw [stP, stP, ih, bt_extract s n i h (by omega)]
theorem extract_extract0 (s : ByteArray) (n a b : Nat) (hb : b ≤ n) : (s.extract 0 n).extract a b = s.extract a b := by
  apply ByteArray.ext
  simp only [ByteArray.data_extract, Array.extract_extract]
  congr 1 <;> omega
theorem words_extract (s : ByteArray) (n : Nat) (h : n ≤ s.size) : wordsAt (s.extract 0 n) n = wordsAt s n := by
  unfold wordsAt
  rw [stP_extract s n h n (Nat.le_refl _)]
  apply List.map_congr_left
  intro x hx
  refine extract_extract0 s n x.1 x.2 ?_
  have hl := (stP_lt s n).2
  unfold closeAt at hx
  split at hx
  · rcases List.mem_append.1 hx with hx | hx
    · exact (hl x hx).2
    · simp at hx; subst hx; exact Nat.le_refl _
  · exact (hl x hx).2

/-- What is ahead of the first '#'. -/
theorem cut_hash : ∀ l : List UInt8, ∃ n, n ≤ l.length ∧ (Lib.cut l [35]).1 = l.take n ∧ (∀ j c, j < n → l[j]? = some c → c ≠ 35) ∧ (n < l.length → l[n]? = some 35)
  | [] => ⟨0, by simp, by simp [Lib.cut, Lib.index], by simp, by simp⟩
  | b :: l => by
    obtain ⟨n, h1, h2, h3, h4⟩ := cut_hash l
    by_cases hb : b = 35
    · subst hb
      exact ⟨0, by simp, by simp [Lib.cut, Lib.index], by simp, by simp⟩
    · have hp : ([35] : List UInt8).isPrefixOf (b :: l) = false := by simp [List.isPrefixOf, beq_eq_false_iff_ne.2 (Ne.symm hb)]
      refine ⟨n + 1, by simpa using h1, ?_, ?_, ?_⟩
      · unfold Lib.cut at h2 ⊢
        have hge := Lib.index_ge l [35]
        by_cases hi : Lib.index l [35] = -1
        · rw [show Lib.index (b :: l) [35] = -1 by simp [Lib.index, hp, hi]]
          rw [hi] at h2
          simp at h2 ⊢
          rw [List.take_of_length_le]
          · by_cases hl : l.length ≤ n
            · exact hl
            · have : (l.take n).length = n := by rw [List.length_take]; omega
              rw [← h2] at this; omega
        · have e : Lib.index (b :: l) [35] = Lib.index l [35] + 1 := by simp [Lib.index, hp, hi]
          rw [e, if_pos (by omega)]
          rw [if_pos (by omega)] at h2
          simp only at h2 ⊢
          rw [show (Lib.index l [35] + 1).toNat = (Lib.index l [35]).toNat + 1 by omega, List.take_succ_cons, List.take_succ_cons, h2]
      · intro j c hj hc
        cases j with
        | zero => simp at hc; subst hc; exact hb
        | succ j => exact h3 j c (by omega) (by simpa using hc)
      · intro h
        simpa using h4 (by simpa using h)
end Go.Proofs.Ytboflapaalabpaa
