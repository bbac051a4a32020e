/- Numbers laid down as bytes: put; by-name template (gen_wput.py). -/
import Derived.Test.YtpmbdjdhgcjkfaaWLeaf
namespace Go.Proofs.Ytpmbdjdhgcjkfaa
open Go.RowKit Go.Sort
set_option linter.unusedVariables false
set_option linter.unusedSimpArgs false

/-- A number's lowest bytes, the highest first. -/
def beB : Nat → Nat → List UInt8
  | 0, _ => []
  | k + 1, n => UInt8.ofNat (n / 256 ^ k) :: beB k n
theorem beB_len : ∀ k n, (beB k n).length = k
  | 0, _ => rfl
  | k + 1, n => by rw [beB, List.length_cons, beB_len k n]
theorem numB_cons (x : UInt8) (l : List UInt8) : numB (x :: l) = x.toNat * 256 ^ l.length + numB l := by
  have := numB_app [x] l
  simpa [numB] using this
theorem numB_be : ∀ k n, numB (beB k n) = n % 256 ^ k
  | 0, n => by simp [beB, numB, Nat.mod_one]
  | k + 1, n => by
    rw [beB, numB_cons, beB_len, numB_be k n, UInt8.toNat_ofNat', show (2 : Nat) ^ 8 = 256 from rfl, Nat.pow_succ, Nat.mod_mul, Nat.mul_comm (256 ^ k)]
    omega

/-- Bytes were written, and nothing else. -/
structure Wrote (w : World) (g o : Nat) (bs : List UInt8) (w' : World) : Prop where
  os : w'.os = w.os
  tape : w'.tape = w.tape
  output : w'.output = w.output
  size : w'.heap.size = w.heap.size
  block : ∀ k, k ≠ g → w'.heap[k]? = w.heap[k]?
  frozen : ∀ x, w'.frozen? x = w.frozen? x
  inn : Byt w' g o bs
  out : ∀ x : Nat, (x < o ∨ o + bs.length ≤ x) → w'.cell? ⟨g, x, none⟩ = w.cell? ⟨g, x, none⟩
  kind : ∀ cs t fz, w.heap[g]? = some (.cells cs t fz) → ∃ cs' : Array Value, cs'.size = cs.size ∧ w'.heap[g]? = some (.cells cs' t fz)

theorem Wrote.nil (w : World) (g o : Nat) : Wrote w g o [] w := ⟨rfl, rfl, rfl, rfl, fun _ _ => rfl, fun _ => rfl, fun k x h => by simp at h, fun _ _ => rfl, fun cs t fz h => ⟨cs, rfl, h⟩⟩
theorem Wrote.cons {w wr : World} {g o : Nat} {bs : List UInt8} (h : Wrote w g (o + 1) bs wr) (x : UInt8) (hc : ∃ v, w.cell? ⟨g, o, none⟩ = some v) : Wrote w g o (x :: bs) (wr.setCell ⟨g, o, none⟩ (.int .u8 (x.toNat : Nat))) := by
  obtain ⟨v, hv⟩ := hc
  have hv' : wr.cell? ⟨g, o, none⟩ = some v := by rw [h.out o (by omega)]; exact hv
  refine ⟨h.os, h.tape, h.output, by simpa [World.setCell] using h.size, fun k hk => ?_, fun y => by rw [World.frozen?_setCell]; exact h.frozen y, fun j y hj => ?_, fun y hy => ?_, fun cs t fz hk => by obtain ⟨cs', e, hk'⟩ := h.kind cs t fz hk; exact ⟨_, by rw [Array.size_setIfInBounds, e], heap_setw hk' o _⟩⟩
  · simp only [World.setCell, Array.getElem?_modify]
    rw [if_neg (Ne.symm hk)]; exact h.block k hk
  · cases j with
    | zero =>
      simp only [List.getElem?_cons_zero, Option.some.injEq] at hj
      subst hj
      rw [Nat.add_zero]; exact World.cell?_setCell_same wr _ _ hv'
    | succ j =>
      rw [List.getElem?_cons_succ] at hj
      rw [World.cell?_setCell_other wr _ _ _ (by simp)]
      have := h.inn j y hj
      rw [show o + (j + 1) = o + 1 + j by omega]; exact this
  · rw [World.cell?_setCell_other wr _ _ _ (by simp at hy; simp; try omega)]
    exact h.out y (by simp at hy; omega)
theorem Wrote.below {w w1 : World} {g o : Nat} {bs : List UInt8} {N : Nat} {w0 : World} (h0 : Below N w0 w) (h : Wrote w g o bs w1) (hN : N ≤ g) : Below N w0 w1 :=
  ⟨by rw [h.os]; exact h0.os, by rw [h.tape]; exact h0.tape, by rw [h.output]; exact h0.output, by rw [h.size]; exact h0.size, fun k hk => by rw [h.block k (by omega)]; exact h0.block k hk⟩
/-- What stands elsewhere stays. -/
theorem Wrote.byt_out {w w' : World} {g o : Nat} {bs : List UInt8} (h : Wrote w g o bs w') {g' o' : Nat} {l : List UInt8} (hb : Byt w g' o' l) (hd : g' ≠ g ∨ o' + l.length ≤ o ∨ o + bs.length ≤ o') : Byt w' g' o' l := by
  intro k x hk
  have hkl := (List.getElem?_eq_some_iff.1 hk).1
  have hc := hb k x hk
  by_cases hg : g' = g
  · subst hg
    rw [h.out (o' + k) (by omega)]; exact hc
  · rw [World.cell?_of_block (w := w) (a := ⟨g', o' + k, none⟩) (h.block g' hg)]; exact hc
/-- Bytes of which some were written. -/
theorem Wrote.splice {w w' : World} {g o i : Nat} {bs l : List UInt8} (h : Wrote w g (o + i) bs w') (hb : Byt w g o l) (hi : i + bs.length ≤ l.length) : Byt w' g o (l.take i ++ bs ++ l.drop (i + bs.length)) := by
  intro k x hk
  by_cases h1 : k < i
  · rw [List.append_assoc, List.getElem?_append_left (by rw [List.length_take]; omega), List.getElem?_take_of_lt h1] at hk
    rw [h.out (o + k) (by omega)]; exact hb k x hk
  · by_cases h2 : k < i + bs.length
    · rw [List.append_assoc, List.getElem?_append_right (by rw [List.length_take]; omega), List.length_take, Nat.min_eq_left (by omega), List.getElem?_append_left (by omega)] at hk
      have := h.inn (k - i) x hk
      rw [show o + i + (k - i) = o + k by omega] at this; exact this
    · rw [List.getElem?_append_right (by rw [List.length_append, List.length_take]; omega), List.length_append, List.length_take, Nat.min_eq_left (by omega), List.getElem?_drop] at hk
      rw [h.out (o + k) (by omega)]
      exact hb k x (by rw [← hk]; congr 1; omega)

def Room (w : World) (g o m : Nat) : Prop := ∀ j, j < m → (∃ v, w.cell? ⟨g, o + j, none⟩ = some v) ∧ w.frozen? ⟨g, o + j, none⟩ = false

set_option maxHeartbeats 2000000 in
set_option maxRecDepth 100000 in
theorem put_any (g o c m n : Nat) (hm : m ≤ 8) (hc : m ≤ c) (hcm : c ≤ 9223372036854775807) (hn : n < 18446744073709551616) {w : World} (hr : Room w g o m) :
    Calls Try.prog 60 #[.slice (some ⟨g, o, none⟩) m c, .int .u64 (n : Nat)] w fun e w' => e = .returned (.tuple #[]) ∧ Wrote w g o (beB m n) w' := by
  have HR := Lib.hid hr
  clear hr
  have hmi : (m : Int) ≤ 8 := by omega
  have hni : (n : Int) < 18446744073709551616 := by omega
  go_enter Try.func60, Try.ntmps60
  go_wp2
  go_loopw [7] (fun v7 wr => ∃ k : Nat, v7 = .int .i64 k ∧ k ≤ m ∧ Wrote w g (o + (m - k)) (beB k n) wr) (fun v7 _ => m - (intOf v7).toNat)
  case atStart => exact ⟨0, rfl, by omega, by rw [Nat.sub_zero]; exact Wrote.nil _ _ _⟩
  case round =>
    obtain ⟨k, rfl, hk, hW⟩ := hrel
    by_cases hlt : k < m
    · have hki : (k : Int) < (m : Int) := by omega
      obtain ⟨⟨v, hv⟩, hf⟩ := HR.out (m - (k + 1)) (by omega)
      have hx : o + (m - k) = o + (m - (k + 1)) + 1 := by omega
      rw [hx] at hW
      have hcons := hW.cons (UInt8.ofNat (n / 256 ^ k)) ⟨v, hv⟩
      have hv2 : wr.cell? ⟨g, o + (m - (k + 1)), none⟩ = some v := by rw [hW.out _ (by omega)]; exact hv
      have hf2 : wr.frozen? ⟨g, o + (m - (k + 1)), none⟩ = false := by rw [hW.frozen]; exact hf
      have hH : Hid (Wrote w g (o + (m - (k + 1))) (beB (k + 1) n) (wr.setCell ⟨g, o + (m - (k + 1)), none⟩ (.int .u8 ((UInt8.ofNat (n / 256 ^ k)).toNat : Nat)))) := Lib.hid hcons
      clear hcons hW hv hf hx
      have hk8 : k < 8 := by omega
      match k, hk8 with
      | 0, _ =>
        obtain ⟨X, hX⟩ : ∃ X, X = (UInt8.ofNat (n / 256 ^ 0)).toNat := ⟨_, rfl⟩
        have eX : IntKind.u8.wrap ((n : Int)) = (X : Int) := by rw [hX, UInt8.toNat_ofNat', IntKind.wrap_u8]; omega
        rw [← hX] at hH
        obtain ⟨J, hJ⟩ : ∃ J, J = m - (0 + 1) := ⟨_, rfl⟩
        have eJ : (m : Int) - 1 = (J : Int) := by omega
        have J0 : (J : Int) < (m : Int) := by omega
        have J1 : J < m := by omega
        rw [← hJ] at hH hv2 hf2
        have HJ := Lib.hid hJ
        clear hX hJ
        go_wp2
        exact ⟨⟨0 + 1, by simp, by omega, by have h9 := hH.out; rw [HJ.out] at h9 ⊢; exact h9⟩, by simp [intOf]; omega⟩
      | 1, _ =>
        obtain ⟨X, hX⟩ : ∃ X, X = (UInt8.ofNat (n / 256 ^ 1)).toNat := ⟨_, rfl⟩
        have eX : IntKind.u8.wrap ((n : Int) / 256) = (X : Int) := by rw [hX, UInt8.toNat_ofNat', IntKind.wrap_u8]; omega
        rw [← hX] at hH
        obtain ⟨J, hJ⟩ : ∃ J, J = m - (1 + 1) := ⟨_, rfl⟩
        have eJ : (m : Int) - 1 - 1 = (J : Int) := by omega
        have eJ2 : (m : Int) - 2 = (J : Int) := by omega
        have HE := Lib.hid eJ
        clear hn hni
        have J0 : (J : Int) < (m : Int) := by omega
        have J1 : J < m := by omega
        rw [← hJ] at hH hv2 hf2
        have HJ := Lib.hid hJ
        clear hX hJ
        go_wp2
        exact ⟨⟨1 + 1, by simp, by omega, by have h9 := hH.out; rw [HJ.out] at h9 ⊢; exact h9⟩, by simp [intOf]; omega⟩
      | 2, _ =>
        obtain ⟨X, hX⟩ : ∃ X, X = (UInt8.ofNat (n / 256 ^ 2)).toNat := ⟨_, rfl⟩
        have eX : IntKind.u8.wrap ((n : Int) / 65536) = (X : Int) := by rw [hX, UInt8.toNat_ofNat', IntKind.wrap_u8]; omega
        rw [← hX] at hH
        obtain ⟨J, hJ⟩ : ∃ J, J = m - (2 + 1) := ⟨_, rfl⟩
        have eJ : (m : Int) - 1 - 2 = (J : Int) := by omega
        have eJ2 : (m : Int) - 3 = (J : Int) := by omega
        have HE := Lib.hid eJ
        clear hn hni
        have J0 : (J : Int) < (m : Int) := by omega
        have J1 : J < m := by omega
        rw [← hJ] at hH hv2 hf2
        have HJ := Lib.hid hJ
        clear hX hJ
        go_wp2
        exact ⟨⟨2 + 1, by simp, by omega, by have h9 := hH.out; rw [HJ.out] at h9 ⊢; exact h9⟩, by simp [intOf]; omega⟩
      | 3, _ =>
        obtain ⟨X, hX⟩ : ∃ X, X = (UInt8.ofNat (n / 256 ^ 3)).toNat := ⟨_, rfl⟩
        have eX : IntKind.u8.wrap ((n : Int) / 16777216) = (X : Int) := by rw [hX, UInt8.toNat_ofNat', IntKind.wrap_u8]; omega
        rw [← hX] at hH
        obtain ⟨J, hJ⟩ : ∃ J, J = m - (3 + 1) := ⟨_, rfl⟩
        have eJ : (m : Int) - 1 - 3 = (J : Int) := by omega
        have eJ2 : (m : Int) - 4 = (J : Int) := by omega
        have HE := Lib.hid eJ
        clear hn hni
        have J0 : (J : Int) < (m : Int) := by omega
        have J1 : J < m := by omega
        rw [← hJ] at hH hv2 hf2
        have HJ := Lib.hid hJ
        clear hX hJ
        go_wp2
        exact ⟨⟨3 + 1, by simp, by omega, by have h9 := hH.out; rw [HJ.out] at h9 ⊢; exact h9⟩, by simp [intOf]; omega⟩
      | 4, _ =>
        obtain ⟨X, hX⟩ : ∃ X, X = (UInt8.ofNat (n / 256 ^ 4)).toNat := ⟨_, rfl⟩
        have eX : IntKind.u8.wrap ((n : Int) / 4294967296) = (X : Int) := by rw [hX, UInt8.toNat_ofNat', IntKind.wrap_u8]; omega
        rw [← hX] at hH
        obtain ⟨J, hJ⟩ : ∃ J, J = m - (4 + 1) := ⟨_, rfl⟩
        have eJ : (m : Int) - 1 - 4 = (J : Int) := by omega
        have eJ2 : (m : Int) - 5 = (J : Int) := by omega
        have HE := Lib.hid eJ
        clear hn hni
        have J0 : (J : Int) < (m : Int) := by omega
        have J1 : J < m := by omega
        rw [← hJ] at hH hv2 hf2
        have HJ := Lib.hid hJ
        clear hX hJ
        go_wp2
        exact ⟨⟨4 + 1, by simp, by omega, by have h9 := hH.out; rw [HJ.out] at h9 ⊢; exact h9⟩, by simp [intOf]; omega⟩
      | 5, _ =>
        obtain ⟨X, hX⟩ : ∃ X, X = (UInt8.ofNat (n / 256 ^ 5)).toNat := ⟨_, rfl⟩
        have eX : IntKind.u8.wrap ((n : Int) / 1099511627776) = (X : Int) := by rw [hX, UInt8.toNat_ofNat', IntKind.wrap_u8]; omega
        rw [← hX] at hH
        obtain ⟨J, hJ⟩ : ∃ J, J = m - (5 + 1) := ⟨_, rfl⟩
        have eJ : (m : Int) - 1 - 5 = (J : Int) := by omega
        have eJ2 : (m : Int) - 6 = (J : Int) := by omega
        have HE := Lib.hid eJ
        clear hn hni
        have J0 : (J : Int) < (m : Int) := by omega
        have J1 : J < m := by omega
        rw [← hJ] at hH hv2 hf2
        have HJ := Lib.hid hJ
        clear hX hJ
        go_wp2
        exact ⟨⟨5 + 1, by simp, by omega, by have h9 := hH.out; rw [HJ.out] at h9 ⊢; exact h9⟩, by simp [intOf]; omega⟩
      | 6, _ =>
        obtain ⟨X, hX⟩ : ∃ X, X = (UInt8.ofNat (n / 256 ^ 6)).toNat := ⟨_, rfl⟩
        have eX : IntKind.u8.wrap ((n : Int) / 281474976710656) = (X : Int) := by rw [hX, UInt8.toNat_ofNat', IntKind.wrap_u8]; omega
        rw [← hX] at hH
        obtain ⟨J, hJ⟩ : ∃ J, J = m - (6 + 1) := ⟨_, rfl⟩
        have eJ : (m : Int) - 1 - 6 = (J : Int) := by omega
        have eJ2 : (m : Int) - 7 = (J : Int) := by omega
        have HE := Lib.hid eJ
        clear hn hni
        have J0 : (J : Int) < (m : Int) := by omega
        have J1 : J < m := by omega
        rw [← hJ] at hH hv2 hf2
        have HJ := Lib.hid hJ
        clear hX hJ
        go_wp2
        exact ⟨⟨6 + 1, by simp, by omega, by have h9 := hH.out; rw [HJ.out] at h9 ⊢; exact h9⟩, by simp [intOf]; omega⟩
      | 7, _ =>
        obtain ⟨X, hX⟩ : ∃ X, X = (UInt8.ofNat (n / 256 ^ 7)).toNat := ⟨_, rfl⟩
        have eX : IntKind.u8.wrap ((n : Int) / 72057594037927936) = (X : Int) := by rw [hX, UInt8.toNat_ofNat', IntKind.wrap_u8]; omega
        rw [← hX] at hH
        obtain ⟨J, hJ⟩ : ∃ J, J = m - (7 + 1) := ⟨_, rfl⟩
        have eJ : (m : Int) - 1 - 7 = (J : Int) := by omega
        have eJ2 : (m : Int) - 8 = (J : Int) := by omega
        have HE := Lib.hid eJ
        clear hn hni
        have J0 : (J : Int) < (m : Int) := by omega
        have J1 : J < m := by omega
        rw [← hJ] at hH hv2 hf2
        have HJ := Lib.hid hJ
        clear hX hJ
        go_wp2
        exact ⟨⟨7 + 1, by simp, by omega, by have h9 := hH.out; rw [HJ.out] at h9 ⊢; exact h9⟩, by simp [intOf]; omega⟩
    · have hkm : k = m := by omega
      have hki : decide ((k : Int) < (m : Int)) = false := by simp; omega
      have hkn : decide (k < m) = false := by simp; omega
      have hH : Hid (Wrote w g o (beB m n) wr) := Lib.hid (by rw [hkm, Nat.sub_self, Nat.add_zero] at hW; exact hW)
      clear hW hkm
      go_wp2
      simp [bodyPost, results, Try.results60, go_sem]
      exact hH.out
end Go.Proofs.Ytpmbdjdhgcjkfaa
