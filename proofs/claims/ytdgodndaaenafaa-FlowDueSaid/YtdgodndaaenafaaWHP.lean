/- Deadlines, heaps of them, and their order, in plain words; by-name template. -/
import Derived.Test.YtdgodndaaenafaaRows
import Derived.WalkKit
namespace Go.Proofs.Ytdgodndaaenafaa
set_option linter.unusedVariables false
set_option linter.unusedSimpArgs false

abbrev K2 := Int × Int
structure DE where
  B : Nat
  id : Int
  tm : Int
  deriving Inhabited
def DE.me (e : DE) : K2 := (e.id, e.tm)
/-- the first of them by their order: (id, deadline). -/
def LtK (a b : K2) : Prop := a.2 < b.2 ∨ (a.2 = b.2 ∧ a.1 < b.1)
instance (a b : K2) : Decidable (LtK a b) := by unfold LtK; infer_instance
theorem lt_irr (a : K2) : ¬ LtK a a := by unfold LtK; omega
theorem lt_asymm {a b : K2} (h : LtK a b) : ¬ LtK b a := by unfold LtK at *; omega
theorem lt_trans' {a b c : K2} (h : LtK a b) (k : LtK b c) : LtK a c := by unfold LtK at *; omega
theorem nlt_trans {a b c : K2} (h : ¬ LtK a b) (k : ¬ LtK b c) : ¬ LtK a c := by unfold LtK at *; omega
theorem lt_nlt {a b c : K2} (h : LtK a b) (k : ¬ LtK c b) : LtK a c := by unfold LtK at *; omega
theorem lt_total {a b : K2} (h : a.1 ≠ b.1) (k : ¬ LtK a b) : LtK b a := by unfold LtK at *; omega

/-! ### heaps, as functions of the place -/
def par (k : Nat) : Nat := (k - 1) / 2
theorem par_lt {k : Nat} (h : 0 < k) : par k < k := by unfold par; omega
def HeapF (f : Nat → K2) (m : Nat) : Prop := ∀ k, 0 < k → k < m → ¬ LtK (f k) (f (par k))
def UpF (f : Nat → K2) (j m : Nat) : Prop :=
  (∀ k, 0 < k → k < m → k ≠ j → ¬ LtK (f k) (f (par k))) ∧ (∀ k, 0 < k → k < m → par k = j → 0 < j → ¬ LtK (f k) (f (par j)))
def DownF (f : Nat → K2) (i0 i m : Nat) : Prop :=
  (∀ k, 0 < k → k < m → par k ≠ i → (k = i0 → i ≠ i0) → ¬ LtK (f k) (f (par k))) ∧ (∀ k, 0 < k → k < m → par k = i → 0 < i → ¬ LtK (f k) (f (par i)))
def SwapF (f g : Nat → K2) (i j : Nat) : Prop := g i = f j ∧ g j = f i ∧ ∀ k, k ≠ i → k ≠ j → g k = f k

theorem heap_root {f : Nat → K2} {m : Nat} (h : HeapF f m) : ∀ k, k < m → ¬ LtK (f k) (f 0) := by
  intro k
  induction k using Nat.strongRecOn with
  | _ k ih =>
    intro hk
    by_cases h0 : k = 0
    · subst h0; exact lt_irr _
    · have := par_lt (k := k) (by omega)
      exact nlt_trans (h k (by omega) hk) (ih (par k) this (by omega))

theorem up_step {f g : Nat → K2} {j m : Nat} (h : UpF f j m) (hj : 0 < j) (hm : j < m) (hl : LtK (f j) (f (par j))) (hs : SwapF f g (par j) j) : UpF g (par j) m := by
  have hp := par_lt hj
  generalize hi : par j = i at *
  obtain ⟨g1, g2, g3⟩ := hs
  refine ⟨fun k k0 km ki => ?_, fun k k0 km kp i0 => ?_⟩
  · by_cases e1 : k = j
    · subst e1
      rw [g2, hi, g1]
      exact lt_asymm hl
    · rw [g3 k ki e1]
      by_cases e2 : par k = j
      · rw [e2, g2, ← hi]
        have := h.2 k k0 km e2 hj
        exact this
      · by_cases e3 : par k = i
        · rw [e3, g1]
          have := h.1 k k0 km e1
          rw [e3] at this
          exact fun e => this (lt_trans' e hl)
        · rw [g3 _ e3 e2]
          exact h.1 k k0 km e1
  · have hpi := par_lt i0
    rw [g3 (par i) (by omega) (by omega)]
    have hpar := h.1 i i0 (by omega) (by omega)
    by_cases e1 : k = j
    · subst e1
      rw [g2]
      exact hpar
    · have : k ≠ i := fun e => by subst e; have := par_lt k0; omega
      rw [g3 k this e1]
      have := h.1 k k0 km e1
      rw [kp] at this
      exact nlt_trans this hpar
theorem up_end {f : Nat → K2} {j m : Nat} (h : UpF f j m) (hl : j = 0 ∨ ¬ LtK (f j) (f (par j))) : HeapF f m := by
  intro k k0 km
  by_cases e : k = j
  · subst e
    rcases hl with hl | hl
    · omega
    · exact hl
  · exact h.1 k k0 km e

theorem par_l (i : Nat) : par (2 * i + 1) = i := by unfold par; omega
theorem par_r (i : Nat) : par (2 * i + 2) = i := by unfold par; omega
theorem par_of {k i : Nat} (h0 : 0 < k) (h : par k = i) : k = 2 * i + 1 ∨ k = 2 * i + 2 := by unfold par at h; omega
theorem down_step {f g : Nat → K2} {i0 i j m : Nat} (h : DownF f i0 i m) (h0 : i0 ≤ i) (hj : 0 < j) (hjm : j < m) (hp : par j = i) (hmin : ∀ k, 0 < k → k < m → par k = i → ¬ LtK (f k) (f j)) (hl : LtK (f j) (f i)) (hs : SwapF f g i j) : DownF g i0 j m := by
  have hij : i < j := by have := par_lt hj; omega
  obtain ⟨g1, g2, g3⟩ := hs
  refine ⟨fun k k0 km kp ki => ?_, fun k k0 km kp _ => ?_⟩
  · by_cases e1 : k = i
    · subst e1
      have hpk := par_lt k0
      rw [g1, g3 (par k) (by omega) (by omega)]
      exact h.2 j hj hjm hp k0
    · by_cases e2 : k = j
      · subst e2
        rw [g2, hp, g1]
        exact lt_asymm hl
      · rw [g3 k e1 e2]
        by_cases e3 : par k = i
        · rw [e3, g1]
          exact hmin k k0 km e3
        · rw [g3 _ e3 kp]
          exact h.1 k k0 km e3 (fun e => by
            intro e4
            exact e1 (e.trans e4.symm))
  · have hk := par_lt k0
    rw [hp, g1, g3 k (by omega) (by omega)]
    have := h.1 k k0 km (by omega) (fun e => by omega)
    rw [kp] at this
    exact this
theorem down_stay {f : Nat → K2} {i j m : Nat} (hj : 0 < j) (hp : par j = i) (hmin : ∀ k, 0 < k → k < m → par k = i → ¬ LtK (f k) (f j)) (hl : ¬ LtK (f j) (f i)) : ∀ k, 0 < k → k < m → par k = i → ¬ LtK (f k) (f i) :=
  fun k k0 km kp => nlt_trans (hmin k k0 km kp) hl
theorem down_leaf {f : Nat → K2} {i m : Nat} (hm : m ≤ 2 * i + 1) : ∀ k, 0 < k → k < m → par k = i → ¬ LtK (f k) (f i) :=
  fun k k0 km kp => by
    have := par_of k0 kp
    omega
theorem down_end {f : Nat → K2} {i0 i m : Nat} (h : DownF f i0 i m) (hs : ∀ k, 0 < k → k < m → par k = i → ¬ LtK (f k) (f i)) (hi : i ≠ i0) : HeapF f m := by
  intro k k0 km
  by_cases e : par k = i
  · rw [e]; exact hs k k0 km e
  · exact h.1 k k0 km e (fun _ => hi)
theorem down_up {f : Nat → K2} {i m : Nat} (h : DownF f i i m) (hs : ∀ k, 0 < k → k < m → par k = i → ¬ LtK (f k) (f i)) : UpF f i m := by
  refine ⟨fun k k0 km ki => ?_, h.2⟩
  by_cases e : par k = i
  · rw [e]; exact hs k k0 km e
  · exact h.1 k k0 km e (fun e2 => absurd e2 ki)
/-- One deadline of a heap is another one. -/
theorem down_of_heap {f g : Nat → K2} {i m : Nat} (h : HeapF f m) (hg : ∀ k, k ≠ i → g k = f k) : DownF g i i m := by
  refine ⟨fun k k0 km kp ki => ?_, fun k k0 km kp i0 => ?_⟩
  · have e : k ≠ i := fun e => ki e rfl
    rw [hg k e, hg _ kp]
    exact h k k0 km
  · have hp := par_lt i0
    have hk := par_lt k0
    rw [hg k (by omega), hg (par i) (by omega)]
    have h1 := h k k0 km
    have h2 := h i i0 (by omega)
    rw [kp] at h1
    exact nlt_trans h1 h2
theorem up_of_heap {f : Nat → K2} {m : Nat} (h : HeapF f m) : UpF f m (m + 1) :=
  ⟨fun k k0 km kj => h k k0 (by omega), fun k k0 km kp _ => by have := par_lt k0; omega⟩
theorem heap_le {f : Nat → K2} {m n : Nat} (h : HeapF f m) (hn : n ≤ m) : HeapF f n := fun k k0 kn => h k k0 (by omega)
theorem heap_congr {f g : Nat → K2} {m : Nat} (h : HeapF f m) (hg : ∀ k, k < m → g k = f k) : HeapF g m := fun k k0 km => by
  have := par_lt k0
  rw [hg k km, hg _ (by omega)]; exact h k k0 km

/-! ### lists of them -/
def ge (E : List DE) (k : Nat) : DE := E.getD k default
def gk (E : List DE) (k : Nat) : K2 := (ge E k).me
def swapL (E : List DE) (i j : Nat) : List DE := (E.set i (ge E j)).set j (ge E i)
theorem ge_get {E : List DE} {k : Nat} (h : k < E.length) : E[k]? = some (ge E k) := by
  unfold ge
  rw [List.getD_eq_getElem?_getD, List.getElem?_eq_getElem h]
  rfl
theorem ge_of {E : List DE} {k : Nat} {e : DE} (h : E[k]? = some e) : ge E k = e := by
  unfold ge
  rw [List.getD_eq_getElem?_getD, h]; rfl
theorem ge_mem {E : List DE} {k : Nat} (h : k < E.length) : ge E k ∈ E := List.mem_of_getElem? (ge_get h)
theorem swap_len (E : List DE) (i j : Nat) : (swapL E i j).length = E.length := by simp [swapL]
theorem swap_i {E : List DE} {i j : Nat} (hi : i < E.length) (hne : i ≠ j) : (swapL E i j)[i]? = some (ge E j) := by
  unfold swapL
  rw [List.getElem?_set, if_neg (fun e => hne e.symm), List.getElem?_set, if_pos rfl, if_pos hi]
theorem swap_j {E : List DE} {i j : Nat} (hj : j < E.length) : (swapL E i j)[j]? = some (ge E i) := by
  unfold swapL
  rw [List.getElem?_set, if_pos rfl, if_pos (by simpa using hj)]
theorem swap_o {E : List DE} {i j k : Nat} (h1 : k ≠ i) (h2 : k ≠ j) : (swapL E i j)[k]? = E[k]? := by
  unfold swapL
  rw [List.getElem?_set, if_neg (fun e => h2 e.symm), List.getElem?_set, if_neg (fun e => h1 e.symm)]
theorem swap_f {E : List DE} {i j : Nat} (hi : i < E.length) (hj : j < E.length) (hne : i ≠ j) : SwapF (gk E) (gk (swapL E i j)) i j :=
  ⟨by unfold gk; rw [ge_of (swap_i hi hne)], by unfold gk; rw [ge_of (swap_j hj)], fun k h1 h2 => by unfold gk ge; rw [List.getD_eq_getElem?_getD, swap_o h1 h2, ← List.getD_eq_getElem?_getD]⟩
theorem swap_perm {E : List DE} {i j : Nat} (hi : i < E.length) (hj : j < E.length) : (swapL E i j).Perm E := by
  have e1 : ge E i = E[i] := ge_of (List.getElem?_eq_getElem hi)
  have e2 : ge E j = E[j] := ge_of (List.getElem?_eq_getElem hj)
  unfold swapL
  rw [e1, e2]
  exact List.set_set_perm hi hj

/-! ### rising lists -/
def Ris (L : List K2) : Prop := L.Pairwise LtK
def UId (L : List K2) : Prop := L.Pairwise (fun x y => x.1 ≠ y.1)
def hasP (L : List K2) (id : Int) : Bool := L.any fun x => x.1 == id
def remP (L : List K2) (id : Int) : List K2 := L.filter fun x => x.1 != id
def insP (L : List K2) (x : K2) : List K2 := (L.takeWhile fun y => decide (LtK y x)) ++ x :: (L.dropWhile fun y => decide (LtK y x))
def setP (L : List K2) (id t : Int) : List K2 := if hasP L id then insP (remP L id) (id, t) else if L.length = 256 then L else insP L (id, t)
def setR (L : List K2) (id : Int) : Int := if hasP L id then 0 else if L.length = 256 then 120 else 0
def dueP (L : List K2) (now : Int) : List Int := (L.takeWhile fun x => decide (x.2 ≤ now)).map Prod.fst
def lefP (L : List K2) (now : Int) : List K2 := L.dropWhile fun x => decide (x.2 ≤ now)
def nid (L : List K2) : Int := (L.headD (0, 0)).1
def nat' (L : List K2) : Int := (L.headD (0, 0)).2

theorem ins_perm (L : List K2) (x : K2) : (insP L x).Perm (x :: L) := by
  unfold insP
  refine (List.perm_middle).trans ?_
  rw [List.takeWhile_append_dropWhile]
theorem ins_len (L : List K2) (x : K2) : (insP L x).length = L.length + 1 := (ins_perm L x).length_eq
theorem ris_split {L : List K2} (h : Ris L) (x : K2) : (∀ y ∈ L.takeWhile (fun y => decide (LtK y x)), LtK y x) ∧ ∀ y ∈ L.dropWhile (fun y => decide (LtK y x)), ¬ LtK y x := by
  induction L with
  | nil => simp
  | cons a t ih =>
    have ht : Ris t := (List.pairwise_cons.1 h).2
    have ha := (List.pairwise_cons.1 h).1
    by_cases c : LtK a x
    · simp only [List.takeWhile_cons, List.dropWhile_cons, c, decide_true, if_true]
      refine ⟨fun y hy => ?_, (ih ht).2⟩
      rcases List.mem_cons.1 hy with rfl | hy
      · exact c
      · exact (ih ht).1 y hy
    · simp only [List.takeWhile_cons, List.dropWhile_cons, c, decide_false]
      refine ⟨by simp, fun y hy => ?_⟩
      rcases List.mem_cons.1 hy with rfl | hy
      · exact c
      · exact fun e => c (lt_trans' (ha y hy) e)
theorem ins_ris {L : List K2} (h : Ris L) {x : K2} (hx : ∀ y ∈ L, y.1 ≠ x.1) : Ris (insP L x) := by
  obtain ⟨h1, h2⟩ := ris_split h x
  unfold Ris insP
  have hs : (L.takeWhile fun y => decide (LtK y x)).Sublist L := List.takeWhile_sublist _
  have hd : (L.dropWhile fun y => decide (LtK y x)).Sublist L := List.dropWhile_sublist _
  rw [List.pairwise_append, List.pairwise_cons]
  refine ⟨h.sublist hs, ⟨fun y hy => lt_total (hx y (hd.subset hy)) (h2 y hy), h.sublist hd⟩, fun a ha b hb => ?_⟩
  rcases List.mem_cons.1 hb with rfl | hb
  · exact h1 a ha
  · exact lt_nlt (h1 a ha) (h2 b hb)
theorem uid_perm {L M : List K2} (h : L.Perm M) (hu : UId L) : UId M := h.pairwise hu (fun h e => h e.symm)
theorem has_iff {L : List K2} {id : Int} : hasP L id = true ↔ ∃ x ∈ L, x.1 = id := by
  unfold hasP; rw [List.any_eq_true]; simp
theorem has_false {L : List K2} {id : Int} : hasP L id = false ↔ ∀ x ∈ L, x.1 ≠ id := by
  rw [Bool.eq_false_iff, Ne, has_iff]
  exact ⟨fun h x hx e => h ⟨x, hx, e⟩, fun h ⟨x, hx, e⟩ => h x hx e⟩
theorem has_perm {L M : List K2} (h : L.Perm M) (id : Int) : hasP L id = hasP M id := by
  rw [Bool.eq_iff_iff, has_iff, has_iff]
  exact ⟨fun ⟨x, hx, e⟩ => ⟨x, h.subset hx, e⟩, fun ⟨x, hx, e⟩ => ⟨x, h.symm.subset hx, e⟩⟩
theorem rem_id {L : List K2} {id : Int} (h : ∀ x ∈ L, x.1 ≠ id) : remP L id = L := by
  unfold remP
  exact List.filter_eq_self.2 fun x hx => by simpa using h x hx
theorem rem_not {L : List K2} {id : Int} : ∀ x ∈ remP L id, x.1 ≠ id := fun x hx => by
  unfold remP at hx
  have := (List.mem_filter.1 hx).2
  simpa using this
theorem rem_sub (L : List K2) (id : Int) : (remP L id).Sublist L := List.filter_sublist
theorem rem_ris {L : List K2} (h : Ris L) (id : Int) : Ris (remP L id) := h.sublist (rem_sub L id)
theorem rem_uid {L : List K2} (h : UId L) (id : Int) : UId (remP L id) := h.sublist (rem_sub L id)
theorem rem_perm {L M : List K2} (h : L.Perm M) (id : Int) : (remP L id).Perm (remP M id) := h.filter _
theorem rem_cons {x : K2} {L : List K2} (hu : UId (x :: L)) : remP (x :: L) x.1 = L := by
  have h1 := (List.pairwise_cons.1 hu).1
  unfold remP
  rw [List.filter_cons, if_neg (by simp)]
  exact rem_id (fun y hy => (h1 y hy).symm)
theorem ins_uid {L : List K2} (h : UId L) {x : K2} (hx : ∀ y ∈ L, y.1 ≠ x.1) : UId (insP L x) :=
  uid_perm (ins_perm L x).symm (List.pairwise_cons.2 ⟨fun y hy => (hx y hy).symm, h⟩)
theorem set_ris {L : List K2} (h : Ris L) (id t : Int) : Ris (setP L id t) := by
  unfold setP
  split
  · exact ins_ris (rem_ris h id) (x := (id, t)) rem_not
  · split
    · exact h
    · rename_i h1 _
      exact ins_ris h (x := (id, t)) (has_false.1 (by simpa using h1))
theorem set_uid {L : List K2} (h : UId L) (id t : Int) : UId (setP L id t) := by
  unfold setP
  split
  · exact ins_uid (rem_uid h id) (x := (id, t)) rem_not
  · split
    · exact h
    · rename_i h1 _
      exact ins_uid h (x := (id, t)) (has_false.1 (by simpa using h1))
theorem ris_head {x y : K2} {L : List K2} (h : Ris (x :: L)) (hy : y ∈ x :: L) (hm : ∀ z ∈ x :: L, ¬ LtK z y) : y = x := by
  rcases List.mem_cons.1 hy with rfl | hy
  · rfl
  · exact absurd ((List.pairwise_cons.1 h).1 y hy) (hm x (by simp))
theorem lef_sub (L : List K2) (now : Int) : (lefP L now).Sublist L := List.dropWhile_sublist _
end Go.Proofs.Ytdgodndaaenafaa
