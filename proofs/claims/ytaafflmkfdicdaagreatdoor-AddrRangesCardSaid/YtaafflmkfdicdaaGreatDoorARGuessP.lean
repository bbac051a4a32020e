/- The document's own reading of addresses: plain. By-name template. -/
import Derived.Test.YtaafflmkfdicdaaGreatDoorABack
namespace Go.Proofs.YtaafflmkfdicdaaGreatDoor
set_option linter.unusedVariables false
open Go.Lib

/-- A digit's value to the base sixteen (small letters alone). -/
def hexV (c : Nat) : Int := if 48 ≤ c ∧ c ≤ 57 then (c : Int) - 48 else if 97 ≤ c ∧ c ≤ 102 then (c : Int) - 87 else -1
def hexAll (acc : Nat) : List UInt8 → Option Nat
  | [] => some acc
  | c :: r => if hexV c.toNat < 0 then none else hexAll (acc * 16 + (hexV c.toNat).toNat) r
def st16 (A n : Nat) : Nat := (A * 65536 + n) % 340282366920938463463374607431768211456
def gfold : List (List UInt8) → Nat → Option Nat
  | [], A => some A
  | p :: r, A => if p.length < 1 ∨ 4 < p.length then none else match hexAll 0 p with
    | none => none
    | some n => gfold r (st16 A n)
/-- What groups with colons between say: the number, how many. -/
def grpV (s : List UInt8) : Option (Nat × Nat) :=
  if s = [] then some (0, 0) else match gfold (splitOn 58 s) 0 with
    | none => none
    | some A => if 8 < (splitOn 58 s).length then none else some (A, (splitOn 58 s).length)
/-- Where '::' stands first. -/
def ccI : List UInt8 → Nat → Option Nat
  | [], _ => none
  | [_], _ => none
  | a :: b :: r, k => if a = 58 ∧ b = 58 then some k else ccI (b :: r) (k + 1)
def numM (acc : Nat) : List UInt8 → Int
  | [] => acc
  | c :: r => if c.toNat < 48 ∨ 57 < c.toNat then -1 else numM (acc * 10 + (c.toNat - 48)) r
/-- A number of R6. -/
def numV (l : List UInt8) : Int := if l.length = 0 ∨ 10 < l.length ∨ (l.getD 0 0 = 48 ∧ 1 < l.length) then -1 else numM 0 l
def four : List (List UInt8) → Nat → Option Nat
  | [], n => some n
  | p :: r, n => if numV p < 0 ∨ 255 < numV p then none else four r (n * 256 + (numV p).toNat)
def joinAB (A n B : Nat) : Nat := A * 65536 ^ (8 - n) + B
def guessV (s : List UInt8) : Option Nat :=
  if (splitOn 46 s).length = 4 then (four (splitOn 46 s) 0).map (281470681743360 + ·)
  else match ccI s 0 with
    | none => match grpV s with
      | none => none
      | some x => if x.2 = 8 then some x.1 else none
    | some i => match grpV (s.take i) with
      | none => none
      | some x => match grpV (s.drop (i + 2)) with
        | none => none
        | some y => if 7 < x.2 + y.2 then none else some (joinAB x.1 x.2 y.1)

/-! ### of printed texts -/
theorem hexV_dig {n : Nat} (h : n < 16) : hexV (dig n).toNat = n := by
  rw [dig_toNat h]; unfold hexV
  split
  · rw [if_pos (by omega)]; omega
  · rw [if_neg (by omega), if_pos (by omega)]; omega
theorem hexAll_digs : ∀ n : Nat, ∀ r, hexAll 0 (digs 16 n ++ r) = hexAll n r := by
  intro n
  induction n using Nat.strongRecOn with
  | _ n ih =>
    intro r
    by_cases h1 : n < 16
    · rw [digs_lo h1, List.singleton_append, hexAll, hexV_dig h1, if_neg (by omega)]; simp
    · rw [digs_hi (by omega) (by omega), List.append_assoc, ih (n / 16) (Nat.div_lt_self (by omega) (by omega)), List.singleton_append, hexAll, hexV_dig (Nat.mod_lt _ (by omega)), if_neg (by omega)]
      congr 1; omega
/-- Groups as one number. -/
def nv (l : List Nat) : Nat := l.foldl (fun A n => A * 65536 + n) 0
theorem nv_snoc (l : List Nat) (n : Nat) : nv (l ++ [n]) = nv l * 65536 + n := by simp [nv]
theorem foldl_nv : ∀ (l : List Nat) (A : Nat), l.foldl (fun A n => A * 65536 + n) A = A * 65536 ^ l.length + nv l
  | [], A => by simp [nv]
  | n :: l, A => by
    have h1 := foldl_nv l (A * 65536 + n)
    have h2 := foldl_nv l (0 * 65536 + n)
    have h3 : nv (n :: l) = l.foldl (fun A n => A * 65536 + n) (0 * 65536 + n) := rfl
    rw [List.foldl_cons, h1, h3, h2]
    simp only [List.length_cons, Nat.pow_succ, Nat.zero_mul, Nat.zero_add]
    have e : A * (65536 ^ l.length * 65536) = A * 65536 * 65536 ^ l.length := by
      rw [Nat.mul_comm (65536 ^ l.length), Nat.mul_assoc]
    rw [Nat.add_mul, e, Nat.add_assoc]
theorem nv_app (l m : List Nat) : nv (l ++ m) = nv l * 65536 ^ m.length + nv m := by
  rw [nv, List.foldl_append, foldl_nv m]; rfl
theorem snoc_indA {α : Type} {P : List α → Prop} (h0 : P []) (h1 : ∀ l x, P l → P (l ++ [x])) : ∀ l, P l := by
  have key : ∀ l : List α, P l.reverse := by
    intro l
    induction l with
    | nil => exact h0
    | cons x l ih => rw [List.reverse_cons]; exact h1 _ x ih
  intro l
  have := key l.reverse
  rwa [List.reverse_reverse] at this
theorem nv_lt : ∀ l : List Nat, (∀ n ∈ l, n ≤ 65535) → nv l < 65536 ^ l.length := by
  refine snoc_indA ?_ ?_
  · intro _; simp [nv]
  · intro l n ih h
    have := ih (fun x hx => h x (by simp [hx]))
    have hn := h n (by simp)
    rw [nv_snoc, List.length_append, List.length_singleton, Nat.pow_succ]
    have := Nat.mul_le_mul_right 65536 this
    omega
theorem nv_zero (k : Nat) : nv (List.replicate k 0) = 0 := by
  induction k with
  | zero => rfl
  | succ k ih => rw [List.replicate_succ', nv_snoc, ih]
theorem gfold_hexs : ∀ (l : List Nat) (acc : List Nat), (∀ n ∈ l, n ≤ 65535) → (∀ n ∈ acc, n ≤ 65535) → acc.length + l.length ≤ 8 → gfold (hexs l) (nv acc) = some (nv (acc ++ l))
  | [], acc, _, _, _ => by simp [gfold, hexs]
  | n :: l, acc, h, ha, hl => by
    have hn := h n (by simp)
    have hacc : ∀ x ∈ acc ++ [n], x ≤ 65535 := by
      intro x hx
      rcases List.mem_append.1 hx with h1 | h1
      · exact ha x h1
      · simp at h1; omega
    have ih := gfold_hexs l (acc ++ [n]) (fun x hx => h x (by simp [hx])) hacc (by simp at hl ⊢; omega)
    rw [hexs] at ih ⊢
    rw [List.map_cons, gfold]
    have hln := digs_len (n := n) 3 (by omega)
    have hlp : 0 < (digs 16 n).length := List.length_pos_iff.2 (digs_ne _ _)
    rw [if_neg (by omega)]
    have e := hexAll_digs n []
    rw [List.append_nil] at e
    rw [e]
    simp only [hexAll]
    have hb := nv_lt _ hacc
    rw [nv_snoc, List.length_append, List.length_singleton] at hb
    have hp : 65536 ^ (acc.length + 1) ≤ 65536 ^ 8 := Nat.pow_le_pow_right (by omega) (by simp at hl; omega)
    have e8 : (65536 : Nat) ^ 8 = 340282366920938463463374607431768211456 := by decide
    have e2 : st16 (nv acc) n = nv (acc ++ [n]) := by
      rw [nv_snoc]; unfold st16
      rw [Nat.mod_eq_of_lt (by omega)]
    rw [e2, ih]; simp
theorem grpV_join (l : List Nat) (h : ∀ n ∈ l, n ≤ 65535) (h8 : l.length ≤ 8) : grpV (joinC 58 (hexs l)) = some (nv l, l.length) := by
  unfold grpV
  by_cases hl : l = []
  · subst hl; rfl
  · rw [if_neg (join_hexs_ne hl), splitOn_join 58 _ (by simpa [hexs] using hl) (hexs_no 58 not_isDig_58)]
    have := gfold_hexs l [] h (by simp) (by simpa using h8)
    rw [show nv [] = 0 from rfl] at this
    rw [this]
    simp only [List.nil_append]
    rw [if_neg (by simp [hexs]; omega)]
    simp [hexs]
theorem ccI_cc (B : List UInt8) : ∀ (A : List UInt8) (k : Nat), NoCC A → ccI (A ++ 58 :: 58 :: B) k = some (k + A.length)
  | [], k, _ => by simp [ccI]
  | [a], k, h => by
    have h : a ≠ 58 := h
    rw [List.singleton_append, ccI, if_neg (fun e => h e.1)]
    simp [ccI]
  | a :: b :: r, k, h => by
    have ih := ccI_cc B (b :: r) (k + 1) h.2
    rw [List.cons_append] at ih
    rw [List.cons_append, List.cons_append, ccI, if_neg h.1, ih]
    simp; omega
theorem ccI_none : ∀ (A : List UInt8) (k : Nat), NoCC A → ccI A k = none
  | [], k, _ => rfl
  | [a], k, h => rfl
  | a :: b :: r, k, h => by rw [ccI, if_neg h.1, ccI_none (b :: r) (k + 1) h.2]
theorem no46_join (l : List Nat) : (46 : UInt8) ∉ joinC 58 (hexs l) := not_mem_joinC 58 46 (by decide) _ (hexs_no 46 not_isDig_46)
theorem no46_print6 (g : List Nat) : (46 : UInt8) ∉ print6 g := by
  unfold print6
  split
  · exact no46_join _
  · intro h
    rcases List.mem_append.1 h with h | h
    · rcases List.mem_append.1 h with h | h
      · exact no46_join _ h
      · simp at h
    · exact no46_join _ h
theorem nv_gsN {hi lo : Nat} (h1 : hi < 18446744073709551616) (h2 : lo < 18446744073709551616) : nv (gsN hi lo) = hi * 18446744073709551616 + lo := by
  unfold nv gsN
  simp only [List.foldl_cons, List.foldl_nil]
  omega
theorem numM_digs (n : Nat) : ∀ r, numM 0 (digs 10 n ++ r) = numM n r := by
  induction n using Nat.strongRecOn with
  | _ n ih =>
    intro r
    have hd : ∀ k, k < 10 → ∀ acc, numM acc (dig k :: r) = numM (acc * 10 + k) r := by
      intro k hk acc
      have e : (dig k).toNat = 48 + k := by rw [dig_toNat (by omega), if_pos hk]
      rw [numM, e, if_neg (by omega), show 48 + k - 48 = k by omega]
    by_cases h1 : n < 10
    · rw [digs_lo h1, List.singleton_append, hd n h1 0]; simp
    · rw [digs_hi (by omega) (by omega), List.append_assoc, ih (n / 10) (Nat.div_lt_self (by omega) (by omega)), List.singleton_append, hd _ (Nat.mod_lt _ (by omega))]
      congr 1; omega
/-- The first digit of a number that has two is not 0. -/
theorem digs_head : ∀ n : Nat, 10 ≤ n → (digs 10 n).getD 0 0 ≠ 48 := by
  intro n
  induction n using Nat.strongRecOn with
  | _ n ih =>
    intro hn
    rw [digs_hi hn (by omega)]
    have hne := digs_ne 10 (n / 10)
    have e : (digs 10 (n / 10) ++ [dig (n % 10)]).getD 0 0 = (digs 10 (n / 10)).getD 0 0 := by
      cases h : digs 10 (n / 10) with
      | nil => exact absurd h hne
      | cons c t => rfl
    rw [e]
    by_cases h : 10 ≤ n / 10
    · exact ih _ (Nat.div_lt_self (by omega) (by omega)) h
    · rw [digs_lo (by omega)]
      intro e2
      have e3 : (dig (n / 10)).toNat = 48 := by
        have : dig (n / 10) = 48 := e2
        rw [this]; rfl
      rw [dig_toNat (by omega), if_pos (by omega)] at e3
      omega
theorem numV_digs {n : Nat} (h : n < 10000000000) : numV (digs 10 n) = n := by
  unfold numV
  have h1 := digs10_len (n := n) 9 (by omega)
  have h2 : 0 < (digs 10 n).length := List.length_pos_iff.2 (digs_ne _ _)
  rw [if_neg]
  · have := numM_digs n []
    rw [List.append_nil] at this
    rw [this]; rfl
  · rintro (e | e | ⟨e1, e2⟩)
    · omega
    · omega
    · by_cases h10 : 10 ≤ n
      · exact digs_head n h10 e1
      · rw [digs_lo (by omega)] at e2; simp at e2
theorem four_digs : ∀ (l : List Nat) (n : Nat), (∀ x ∈ l, x ≤ 255) → four (l.map (digs 10)) n = some (l.foldl (fun n x => n * 256 + x) n)
  | [], n, _ => rfl
  | x :: l, n, h => by
    have hx := h x (by simp)
    rw [List.map_cons, four, numV_digs (by omega), if_neg (by omega), List.foldl_cons, ← four_digs l _ (fun y hy => h y (by simp [hy]))]
    congr 1

theorem guess6 {g : List Nat} (h8 : g.length = 8) (hg : ∀ n ∈ g, n ≤ 65535) : guessV (print6 g) = some (nv g) := by
  obtain ⟨r1, r2, r3, r4, -⟩ := row_facts h8
  unfold guessV
  rw [splitOn_none 46 _ (no46_print6 g), if_neg (by simp)]
  unfold print6
  by_cases he : rowF g = rowT g
  · rw [if_pos he, ccI_none _ 0 (noCC_join g)]
    simp only
    rw [grpV_join g hg (by omega)]
    simp only
    rw [if_pos h8]
  · rw [if_neg he]
    have e : joinC 58 (hexs (g.take (rowF g))) ++ [58, 58] ++ joinC 58 (hexs (g.drop (rowT g))) = joinC 58 (hexs (g.take (rowF g))) ++ 58 :: 58 :: joinC 58 (hexs (g.drop (rowT g))) := by simp
    rw [e, ccI_cc _ _ 0 (noCC_join _)]
    simp only [Nat.zero_add]
    rw [List.take_left, show joinC 58 (hexs (g.take (rowF g))) ++ 58 :: 58 :: joinC 58 (hexs (g.drop (rowT g))) = (joinC 58 (hexs (g.take (rowF g))) ++ [58, 58]) ++ joinC 58 (hexs (g.drop (rowT g))) by simp,
      show (joinC 58 (hexs (g.take (rowF g)))).length + 2 = (joinC 58 (hexs (g.take (rowF g))) ++ [58, 58]).length by simp, List.drop_left]
    rw [grpV_join _ (fun n hn => hg n (List.mem_of_mem_take hn)) (by rw [List.length_take]; omega), grpV_join _ (fun n hn => hg n (List.mem_of_mem_drop hn)) (by rw [List.length_drop]; omega)]
    simp only
    have e1 : (g.take (rowF g)).length = rowF g := by rw [List.length_take]; omega
    have e2 : (g.drop (rowT g)).length = 8 - rowT g := by rw [List.length_drop]; omega
    rw [e1, e2, if_neg (by omega)]
    unfold joinAB
    have hf := fill_row h8 r1 r2 r4
    unfold fillG at hf
    rw [e1, e2] at hf
    have hn : nv (g.take (rowF g) ++ List.replicate (8 - rowF g - (8 - rowT g)) 0 ++ g.drop (rowT g)) = nv g := by rw [hf]
    rw [nv_app, nv_app, nv_zero, e2, List.length_replicate, Nat.add_zero] at hn
    rw [← hn, Nat.mul_assoc, ← Nat.pow_add, show 8 - rowF g - (8 - rowT g) + (8 - rowT g) = 8 - rowF g by omega]

theorem guess4 {n : Nat} (hn : n < 4294967296) : guessV (print4 n) = some (281470681743360 + n) := by
  unfold guessV print4
  rw [splitOn_join 46 _ (by simp [bytes4]) (dig4_no 46 not_isDig_46 n), if_pos (by simp [bytes4]), four_digs _ 0 (bytes4_le n)]
  simp only [bytes4, List.foldl_cons, List.foldl_nil, Option.map_some]
  congr 1
  omega

theorem guess_print {hi lo : Nat} (h1 : hi < 18446744073709551616) (h2 : lo < 18446744073709551616) : guessV (printA hi lo) = some (hi * 18446744073709551616 + lo) := by
  unfold printA
  by_cases h4 : is4 hi lo = true
  · rw [if_pos h4, guess4 (Nat.mod_lt _ (by omega))]
    unfold is4 at h4
    simp only [Bool.and_eq_true, decide_eq_true_eq] at h4
    obtain ⟨rfl, h5⟩ := h4
    congr 1
    omega
  · rw [if_neg h4, guess6 rfl (gsN_leK hi lo), nv_gsN h1 h2]

/-! ### cut, and bounds -/
theorem split_at {c : UInt8} {L : List UInt8} {f k : Nat} (hfk : f ≤ k) (hk : L[k]? = some c) (hn : ∀ j, f ≤ j → j < k → L[j]? ≠ some c) : splitOn c (L.drop f) = (L.drop f).take (k - f) :: splitOn c (L.drop (k + 1)) := by
  have e : (L.drop f).take (k - f) ++ c :: L.drop (k + 1) = L.drop f := by
    have h1 : (L.drop f).drop (k - f) = c :: L.drop (k + 1) := by
      rw [List.drop_drop, show f + (k - f) = k by omega]
      obtain ⟨h, e⟩ := List.getElem?_eq_some_iff.1 hk
      rw [List.drop_eq_getElem_cons h, e]
    rw [← h1, List.take_append_drop]
  have hno : c ∉ (L.drop f).take (k - f) := by
    intro hm
    obtain ⟨j, hj⟩ := List.mem_iff_getElem?.1 hm
    rw [List.getElem?_take] at hj
    split at hj
    · rw [List.getElem?_drop] at hj
      exact hn (f + j) (by omega) (by omega) hj
    · cases hj
  have := splitOn_app c (L.drop (k + 1)) _ hno
  rw [e] at this
  exact this
theorem split_end {c : UInt8} {L : List UInt8} {f : Nat} (hn : ∀ j, f ≤ j → j < L.length → L[j]? ≠ some c) : splitOn c (L.drop f) = [L.drop f] := by
  refine splitOn_none c _ ?_
  intro hm
  obtain ⟨j, hj⟩ := List.mem_iff_getElem?.1 hm
  rw [List.getElem?_drop] at hj
  have := (List.getElem?_eq_some_iff.1 hj).1
  exact hn (f + j) (by omega) this hj
theorem splitOn_count (c : UInt8) : ∀ s : List UInt8, (splitOn c s).length ≤ s.length + 1
  | [] => by simp [splitOn]
  | b :: s => by
    have ih := splitOn_count c s
    unfold splitOn
    split
    · simp; omega
    · cases h : splitOn c s with
      | nil => simp
      | cons p l => rw [h] at ih; simp at ih ⊢; omega
theorem hexV_lt {c : Nat} (h : ¬ hexV c < 0) : (hexV c).toNat < 16 := by
  unfold hexV at h ⊢
  split
  · omega
  · rename_i h1
    rw [if_neg h1] at h
    split
    · omega
    · rename_i h2; rw [if_neg h2] at h; omega
theorem hexAll_lt : ∀ (p : List UInt8) (acc n : Nat), hexAll acc p = some n → n < (acc + 1) * 16 ^ p.length
  | [], acc, n, h => by
    obtain rfl : acc = n := by simpa [hexAll] using h
    simp
  | c :: r, acc, n, h => by
    rw [hexAll] at h
    split at h
    · cases h
    · rename_i hv
      have h16 := hexV_lt hv
      have := hexAll_lt r _ n h
      rw [List.length_cons, Nat.pow_succ]
      have e : (acc * 16 + (hexV c.toNat).toNat + 1) * 16 ^ r.length ≤ (acc + 1) * 16 * 16 ^ r.length := Nat.mul_le_mul_right _ (by omega)
      have e2 : (acc + 1) * 16 * 16 ^ r.length = (acc + 1) * (16 ^ r.length * 16) := by rw [Nat.mul_assoc, Nat.mul_comm 16]
      omega
theorem hexAll_4 {p : List UInt8} {n : Nat} (hp : p.length ≤ 4) (h : hexAll 0 p = some n) : n ≤ 65535 := by
  have h1 := hexAll_lt p 0 n h
  have h2 : (16 : Nat) ^ p.length ≤ 16 ^ 4 := Nat.pow_le_pow_right (by omega) hp
  omega
theorem st16_lt (A n : Nat) : st16 A n < 340282366920938463463374607431768211456 := Nat.mod_lt _ (by omega)
theorem gfold_lt : ∀ (l : List (List UInt8)) (A B k : Nat), k + l.length ≤ 8 → A < 65536 ^ k → gfold l A = some B → B < 65536 ^ (k + l.length)
  | [], A, B, k, _, hA, h => by
    obtain rfl : A = B := by simpa [gfold] using h
    simpa using hA
  | p :: r, A, B, k, hk, hA, h => by
    rw [gfold] at h
    split at h
    · cases h
    · rename_i hp
      cases hx : hexAll 0 p with
      | none => rw [hx] at h; cases h
      | some n =>
        rw [hx] at h
        simp only at h
        have hn := hexAll_4 (by omega) hx
        have hs : st16 A n < 65536 ^ (k + 1) := by
          rw [Nat.pow_succ]
          have := Nat.mul_le_mul_right 65536 hA
          have : st16 A n ≤ A * 65536 + n := Nat.mod_le _ _
          omega
        have := gfold_lt r _ B (k + 1) (by simp at hk; omega) hs h
        rw [List.length_cons, show k + (r.length + 1) = k + 1 + r.length by omega]
        exact this
theorem grpV_lt {s : List UInt8} {x : Nat × Nat} (h : grpV s = some x) : x.1 < 65536 ^ x.2 ∧ x.2 ≤ 8 := by
  unfold grpV at h
  split at h
  · obtain rfl : (0, 0) = x := by simpa using h
    simp
  · cases hg : gfold (splitOn 58 s) 0 with
    | none => rw [hg] at h; cases h
    | some A =>
      rw [hg] at h
      simp only at h
      split at h
      · cases h
      · obtain rfl : (A, (splitOn 58 s).length) = x := by simpa using h
        have := gfold_lt (splitOn 58 s) 0 A 0 (by omega) (by simp) hg
        rw [Nat.zero_add] at this
        exact ⟨this, by simp only; omega⟩
theorem four_lt : ∀ (l : List (List UInt8)) (n m : Nat), four l n = some m → m < (n + 1) * 256 ^ l.length
  | [], n, m, h => by
    obtain rfl : n = m := by simpa [four] using h
    simp
  | p :: r, n, m, h => by
    rw [four] at h
    split at h
    · cases h
    · rename_i hv
      have := four_lt r _ m h
      rw [List.length_cons, Nat.pow_succ]
      have e : (n * 256 + (numV p).toNat + 1) * 256 ^ r.length ≤ (n + 1) * 256 * 256 ^ r.length := Nat.mul_le_mul_right _ (by omega)
      have e2 : (n + 1) * 256 * 256 ^ r.length = (n + 1) * (256 ^ r.length * 256) := by rw [Nat.mul_assoc, Nat.mul_comm 256]
      omega
theorem p8 : (65536 : Nat) ^ 8 = 340282366920938463463374607431768211456 := by decide
theorem guess_lt {s : List UInt8} {A : Nat} (h : guessV s = some A) : A < 340282366920938463463374607431768211456 := by
  unfold guessV at h
  split at h
  · rename_i h4
    cases hf : four (splitOn 46 s) 0 with
    | none => rw [hf] at h; cases h
    | some m =>
      rw [hf] at h
      have := four_lt _ 0 m hf
      rw [h4] at this
      simp at h
      omega
  · cases hc : ccI s 0 with
    | none =>
      rw [hc] at h
      simp only at h
      cases hg : grpV s with
      | none => rw [hg] at h; cases h
      | some x =>
        rw [hg] at h
        simp only at h
        split at h
        · rename_i h8
          have := (grpV_lt hg).1
          rw [h8, p8] at this
          simp at h; omega
        · cases h
    | some i =>
      rw [hc] at h
      simp only at h
      cases hg : grpV (s.take i) with
      | none => rw [hg] at h; cases h
      | some x =>
        rw [hg] at h
        simp only at h
        cases hg2 : grpV (s.drop (i + 2)) with
        | none => rw [hg2] at h; cases h
        | some y =>
          rw [hg2] at h
          simp only at h
          split at h
          · cases h
          · obtain rfl : joinAB x.1 x.2 y.1 = A := by simpa using h
            have h1 := (grpV_lt hg).1
            have h2 := (grpV_lt hg2).1
            have h3 : 65536 ^ y.2 ≤ 65536 ^ (8 - x.2) := Nat.pow_le_pow_right (by omega) (by omega)
            have h4 := Nat.mul_le_mul_right (65536 ^ (8 - x.2)) h1
            have h5 : 65536 ^ x.2 * 65536 ^ (8 - x.2) = 65536 ^ 8 := by rw [← Nat.pow_add]; congr 1; omega
            rw [Nat.succ_mul, h5, p8] at h4
            unfold joinAB; omega
end Go.Proofs.YtaafflmkfdicdaaGreatDoor
