/- Rows of pairs that are set one behind the other, in plain words; by-name template. -/
import Derived.Test.YtcmdelmgklidjaaWhSo
import Derived.Test.YtcmdelmgklidjaaWhFrame
namespace Go.Proofs.Ytcmdelmgklidjaa
open Go.RowKit Go.Lib Go.Maps
set_option linter.unusedVariables false
set_option linter.unusedSimpArgs false

/-- What is left of the first k pairs. -/
def setsP (zs ts : List Int) : Nat → List K2
  | 0 => []
  | k + 1 => setP (setsP zs ts k) (zs.getD k 0) (ts.getD k 0)
theorem set_has {L : List K2} {id t : Int} (hl : L.length < 256) (x : Int) : hasP (setP L id t) x = (hasP L x || x == id) := by
  unfold setP
  split
  · rename_i h
    rw [has_perm (ins_perm _ _)]
    unfold hasP remP at *
    rw [List.any_cons, List.any_filter]
    rw [Bool.eq_iff_iff]
    simp only [Bool.or_eq_true, List.any_eq_true, Bool.and_eq_true, bne_iff_ne, beq_iff_eq]
    constructor
    · rintro (h | ⟨y, hy, h1, h2⟩)
      · exact .inr h.symm
      · exact .inl ⟨y, hy, h2⟩
    · rintro (⟨y, hy, h2⟩ | h)
      · by_cases e : y.1 = id
        · exact .inl (by rw [← h2, ← e])
        · exact .inr ⟨y, hy, e, h2⟩
      · exact .inl h.symm
  · rw [if_neg (by omega), has_perm (ins_perm _ _)]
    unfold hasP
    rw [List.any_cons, Bool.or_comm]
    congr 1
    rw [Bool.eq_iff_iff]
    simp only [beq_iff_eq]
    exact ⟨fun e => e.symm, fun e => e.symm⟩
theorem set_len_le (L : List K2) (id t : Int) : (setP L id t).length ≤ L.length + 1 := by
  unfold setP
  split
  · rw [ins_len]
    have := (rem_sub L id).length_le
    omega
  · split
    · omega
    · rw [ins_len]; omega
theorem sets_len (zs ts : List Int) : ∀ k, (setsP zs ts k).length ≤ k
  | 0 => Nat.le_refl _
  | k + 1 => by
    have h1 := sets_len zs ts k
    have h2 := set_len_le (setsP zs ts k) (zs.getD k 0) (ts.getD k 0)
    show (setP _ _ _).length ≤ _
    omega
theorem sets_has (zs ts : List Int) (x : Int) : ∀ k, k ≤ 256 → (hasP (setsP zs ts k) x = true ↔ ∃ j, j < k ∧ zs.getD j 0 = x)
  | 0, _ => by simp [setsP, hasP]
  | k + 1, hk => by
    have h1 := sets_has zs ts x k (by omega)
    have h2 := sets_len zs ts k
    show hasP (setP _ _ _) x = true ↔ _
    rw [set_has (by omega), Bool.or_eq_true, h1, beq_iff_eq]
    constructor
    · rintro (⟨j, hj, e⟩ | e)
      · exact ⟨j, by omega, e⟩
      · exact ⟨k, by omega, e.symm⟩
    · rintro ⟨j, hj, e⟩
      by_cases hjk : j = k
      · subst hjk; exact .inr e.symm
      · exact .inl ⟨j, by omega, e⟩
theorem set_ok {L : List K2} {id : Int} (h : L.length < 256) : setR L id = 0 := by
  unfold setR
  split
  · rfl
  · rw [if_neg (by omega)]

/-- What is left behind the drops of those at k and above. -/
def LeftAt (zs : List Int) (m k : Nat) (M : List K2) : Prop := ∀ x, hasP M x = true ↔ (∃ j, j < k ∧ zs.getD j 0 = x) ∧ ∀ j, k ≤ j → j < m → zs.getD j 0 ≠ x
theorem rem_has (L : List K2) (id x : Int) : hasP (remP L id) x = (hasP L x && x != id) := by
  unfold hasP remP
  rw [List.any_filter, Bool.eq_iff_iff]
  simp only [List.any_eq_true, Bool.and_eq_true, bne_iff_ne, beq_iff_eq]
  constructor
  · rintro ⟨y, hy, h1, h2⟩
    exact ⟨⟨y, hy, h2⟩, by rw [← h2]; exact h1⟩
  · rintro ⟨⟨y, hy, h2⟩, h1⟩
    exact ⟨y, hy, by rw [h2]; exact h1, h2⟩
theorem left_step {zs : List Int} {m k : Nat} {M : List K2} (h : LeftAt zs m (k + 1) M) (hk : k < m) : LeftAt zs m k (remP M (zs.getD k 0)) := by
  intro x
  rw [rem_has, Bool.and_eq_true, h x, bne_iff_ne]
  constructor
  · rintro ⟨⟨⟨j, hj, e⟩, h2⟩, hne⟩
    refine ⟨⟨j, ?_, e⟩, fun i hi him => ?_⟩
    · by_cases hjk : j = k
      · subst hjk; exact absurd e.symm hne
      · omega
    · by_cases hik : i = k
      · subst hik; exact fun q => hne q.symm
      · exact h2 i (by omega) him
  · rintro ⟨⟨j, hj, e⟩, h2⟩
    exact ⟨⟨⟨j, by omega, e⟩, fun i hi him => h2 i (by omega) him⟩, fun q => h2 k (Nat.le_refl _) hk q.symm⟩
def laterP (zs : List Int) (i j : Nat) : Bool := (List.range j).any fun q => decide (i < q) && zs.getD q 0 == zs.getD i 0
theorem later_iff {zs : List Int} {i j : Nat} : laterP zs i j = true ↔ ∃ q, i < q ∧ q < j ∧ zs.getD q 0 = zs.getD i 0 := by
  unfold laterP
  rw [List.any_eq_true]
  simp only [List.mem_range, Bool.and_eq_true, decide_eq_true_eq, beq_iff_eq]
  exact ⟨fun ⟨q, a, b, c⟩ => ⟨q, b, a, c⟩, fun ⟨q, a, b, c⟩ => ⟨q, b, a, c⟩⟩
theorem later_step {zs : List Int} {i j : Nat} (h : i < j) : laterP zs i (j + 1) = (laterP zs i j || zs.getD j 0 == zs.getD i 0) := by
  unfold laterP
  rw [List.range_succ, List.any_append, List.any_cons, List.any_nil, Bool.or_false, decide_eq_true h, Bool.true_and]
theorem later_none (zs : List Int) (i : Nat) : laterP zs i (i + 1) = false := by
  rw [Bool.eq_false_iff, Ne, later_iff]
  rintro ⟨q, a, b, _⟩
  omega
theorem left_has {zs : List Int} {m k : Nat} {M : List K2} (h : LeftAt zs m (k + 1) M) : hasP M (zs.getD k 0) = !laterP zs k m := by
  rw [Bool.eq_iff_iff, h, Bool.not_eq_true', Bool.eq_false_iff, Ne, later_iff]
  constructor
  · rintro ⟨_, h2⟩ ⟨j, h3, h4, h5⟩
    exact h2 j h3 h4 h5
  · intro h2
    exact ⟨⟨k, by omega, rfl⟩, fun j h3 h4 h5 => h2 ⟨j, h3, h4, h5⟩⟩
theorem left_all (zs ts : List Int) {m : Nat} (hm : m ≤ 256) : LeftAt zs m m (setsP zs ts m) := by
  intro x
  rw [sets_has zs ts x m hm]
  exact ⟨fun h => ⟨h, fun j h1 h2 => by omega⟩, fun h => h.1⟩
theorem getD_at {w w' : World} {a : Option Addr} {Z : List Int} (h : IntsAt w a Z) (b : Below w.heap.size w w') {k : Nat} (hk : k < Z.length) : ∃ g off, a = some ⟨g, off, none⟩ ∧ w'.cell? ⟨g, off + k, none⟩ = some (.int .i64 (Z.getD k 0)) ∧ i64ok (Z.getD k 0) := by
  obtain ⟨g, off, e, hg, hc, ho⟩ := h.2 k Z[k] (List.getElem?_eq_getElem hk)
  have hd : Z.getD k 0 = Z[k] := by rw [List.getD_eq_getElem?_getD, List.getElem?_eq_getElem hk]; rfl
  rw [hd]
  exact ⟨g, off, e, (World.cell?_of_block (a := ⟨g, off + k, none⟩) (b.block g hg)).trans hc, ho⟩
theorem left_none {zs : List Int} {m : Nat} {M : List K2} (h : LeftAt zs m 0 M) : M = [] := by
  apply Classical.byContradiction
  intro hne
  obtain ⟨x, hx⟩ := List.exists_mem_of_ne_nil M hne
  have := (h x.1).1 (has_iff.2 ⟨x, hx, rfl⟩)
  obtain ⟨⟨j, hj, _⟩, _⟩ := this
  omega


/-! ### rising lists with the same members -/
theorem ris_ext : ∀ {A B : List K2}, Ris A → Ris B → (∀ x, x ∈ A ↔ x ∈ B) → A = B
  | [], [], _, _, _ => rfl
  | [], b :: B, _, _, h => by have := (h b).2 (by simp); simp at this
  | a :: A, [], _, _, h => by have := (h a).1 (by simp); simp at this
  | a :: A, b :: B, hA, hB, h => by
    have hA' := List.pairwise_cons.1 hA
    have hB' := List.pairwise_cons.1 hB
    have e : a = b := by
      rcases List.mem_cons.1 ((h a).1 (by simp)) with e | e1
      · exact e
      · rcases List.mem_cons.1 ((h b).2 (by simp)) with e | e2
        · exact e.symm
        · exact absurd (hB'.1 a e1) (lt_asymm (hA'.1 b e2))
    subst e
    congr 1
    refine ris_ext hA'.2 hB'.2 fun x => ⟨fun hx => ?_, fun hx => ?_⟩
    · rcases List.mem_cons.1 ((h x).1 (List.mem_cons_of_mem _ hx)) with e | e
      · subst e; exact absurd (hA'.1 _ hx) (lt_irr _)
      · exact e
    · rcases List.mem_cons.1 ((h x).2 (List.mem_cons_of_mem _ hx)) with e | e
      · subst e; exact absurd (hB'.1 _ hx) (lt_irr _)
      · exact e
theorem rem_mem {L : List K2} {id : Int} {x : K2} : x ∈ remP L id ↔ x ∈ L ∧ x.1 ≠ id := by
  unfold remP
  rw [List.mem_filter]; simp
theorem set_mem {L : List K2} {id t : Int} (hl : L.length < 256) {x : K2} : x ∈ setP L id t ↔ x = (id, t) ∨ (x ∈ L ∧ x.1 ≠ id) := by
  unfold setP
  split
  · rw [(ins_perm _ _).mem_iff, List.mem_cons, rem_mem]
  · rename_i hh
    rw [if_neg (by omega), (ins_perm _ _).mem_iff, List.mem_cons]
    have := has_false.1 (by simpa using hh)
    exact ⟨fun h => h.imp (fun q => q) (fun q => ⟨q, this x q⟩), fun h => h.imp (fun q => q) (fun q => q.1)⟩
theorem rem_set {L : List K2} (hr : Ris L) (hl : L.length < 256) (id t gone : Int) : remP (setP L id t) gone = if id = gone then remP L gone else setP (remP L gone) id t := by
  have hlr : (remP L gone).length < 256 := by have := (rem_sub L gone).length_le; omega
  split
  · rename_i e
    subst e
    refine ris_ext (rem_ris (set_ris hr _ _) _) (rem_ris hr _) fun x => ?_
    rw [rem_mem, rem_mem, set_mem hl]
    exact ⟨fun ⟨h, k⟩ => by
      rcases h with rfl | h
      · exact absurd rfl k
      · exact h, fun h => ⟨.inr h, h.2⟩⟩
  · rename_i hne
    refine ris_ext (rem_ris (set_ris hr _ _) _) (set_ris (rem_ris hr _) _ _) fun x => ?_
    rw [rem_mem, set_mem hl, set_mem hlr, rem_mem]
    constructor
    · rintro ⟨rfl | h, k⟩
      · exact .inl rfl
      · exact .inr ⟨⟨h.1, k⟩, h.2⟩
    · rintro (rfl | h)
      · exact ⟨.inl rfl, hne⟩
      · exact ⟨.inr ⟨h.1.1, h.2⟩, h.1.2⟩
theorem has_rem_due (L : List K2) (gone now : Int) : hasP (lefP (remP L gone) now) gone = false :=
  has_false.2 fun x hx => (rem_mem.1 ((lef_sub _ _).subset hx)).2
theorem Bo.ris {X : Nat → Prop} {w0 w : World} {Bw Br : Nat} {L M : List K2} (h : Bo X w0 w Bw Br L M) : Ris L := by obtain ⟨⟨T, R, h1, _⟩, _⟩ := h; exact h1.ris
end Go.Proofs.Ytcmdelmgklidjaa
