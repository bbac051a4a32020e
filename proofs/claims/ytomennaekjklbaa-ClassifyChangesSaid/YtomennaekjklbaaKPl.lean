/- Trees, plainly: what is left, where a node is cut, what grows, what is found; by-name template. -/
import Derived.Test.YtomennaekjklbaaCTwo
namespace Go.Proofs.Ytomennaekjklbaa
open Go.RowKit Go.Lib Go.Sort
set_option linter.unusedVariables false
set_option linter.unusedSimpArgs false

/-- A leaf's entries, or an inner node: the field, the place where it is cut, the lower box, its children. -/
inductive TN where
  | leaf (l : List EN)
  | inner (f : Nat) (at' : P2) (bx : Nat → R4) (lo hi : TN)

/-- The entries of a node, as the document tells it. -/
def leftP (b : Nat → R4) : List EN → List EN
  | [] => []
  | x :: r => if mbO x.bx b then (if cvB x.bx b then [x] else x :: leftP b r) else leftP b r
/-- The entries up to the first one that covers the box. -/
def cutC (b : Nat → R4) (l : List EN) : List EN := l.take (l.findIdx (fun x => cvB x.bx b) + 1)
theorem mb_em {e b : Nat → R4} (h : emB b = true) : mbO e b = false := by
  cases hm : mbO e b with
  | false => rfl
  | true =>
    have h1 := (mbO_iff e b).1 hm
    have h2 : emB b = false := (emB_iff b).2 fun k hk => by
      have := h1 k hk
      cases hr : emR (b k) with
      | false => rfl
      | true =>
        have hs := (emR_iff _).1 hr
        have hn : ¬ ((meR (e k) (b k)).th < (meR (e k) (b k)).fh ∨ ((meR (e k) (b k)).th = (meR (e k) (b k)).fh ∧ (meR (e k) (b k)).tl < (meR (e k) (b k)).fl)) := fun hh => by
          rw [(emR_iff _).2 hh] at this; cases this
        have h3 : inR (meR (e k) (b k)) ⟨(meR (e k) (b k)).fh, (meR (e k) (b k)).fl⟩ = true := by rw [inR_iff]; dsimp only; omega
        rw [inR_me, inR_iff, inR_iff] at h3
        omega
    rw [h] at h2; cases h2
theorem left_em {b : Nat → R4} (h : emB b = true) : ∀ l : List EN, leftP b l = []
  | [] => rfl
  | x :: r => by unfold leftP; rw [mb_em h, if_neg (by simp)]; exact left_em h r
theorem cv_mb {e b : Nat → R4} (hE : emB b = false) (h : cvB e b = true) : mbO e b = true := by
  rw [cvB_iff e b hE] at h
  rw [mbO_iff]
  intro k hk
  have hb := (emB_iff b).1 hE k hk
  have h1 := h k hk
  have h2 := mt (emR_iff (b k)).2 (by rw [hb]; exact Bool.false_ne_true)
  have h3 : inR (meR (e k) (b k)) ⟨(b k).fh, (b k).fl⟩ = true := by
    rw [inR_me, inR_iff, inR_iff]; dsimp only; omega
  cases hr : emR (meR (e k) (b k)) with
  | false => rfl
  | true =>
    rw [emR_iff] at hr
    rw [inR_iff] at h3
    dsimp only at h3
    omega
/-- The program's way to what is left is the document's. -/
theorem left_eq (b : Nat → R4) : ∀ l : List EN, (cutC b l).filter (fun x => mbO x.bx b) = leftP b l
  | [] => rfl
  | x :: r => by
    have ih := left_eq b r
    unfold cutC at ih ⊢
    unfold leftP
    rw [List.findIdx_cons]
    cases hc : cvB x.bx b with
    | true =>
      simp only [cond_true, Nat.zero_add, List.take_succ_cons, List.take_zero]
      cases hm : mbO x.bx b with
      | true => simp [hm]
      | false =>
        have hE : emB b = true := by
          cases hE : emB b with
          | true => rfl
          | false => rw [cv_mb hE hc] at hm; cases hm
        simp [hm, left_em hE r]
    | false =>
      simp only [cond_false, List.take_succ_cons, List.filter_cons]
      rw [ih]
      cases hm : mbO x.bx b <;> simp
theorem left_mem {b : Nat → R4} : ∀ {l : List EN} {x : EN}, x ∈ leftP b l → x ∈ l ∧ mbO x.bx b = true
  | [], x, h => by simp [leftP] at h
  | y :: r, x, h => by
    unfold leftP at h
    cases hm : mbO y.bx b with
    | false => rw [hm, if_neg (by simp)] at h; obtain ⟨h1, h2⟩ := left_mem h; exact ⟨List.mem_cons_of_mem _ h1, h2⟩
    | true =>
      rw [hm, if_pos rfl] at h
      cases hc : cvB y.bx b with
      | true =>
        rw [hc, if_pos rfl] at h
        rw [List.mem_singleton] at h
        subst h; exact ⟨List.mem_cons_self, hm⟩
      | false =>
        rw [hc, if_neg (by simp)] at h
        rcases List.mem_cons.1 h with rfl | h
        · exact ⟨List.mem_cons_self, hm⟩
        · obtain ⟨h1, h2⟩ := left_mem h; exact ⟨List.mem_cons_of_mem _ h1, h2⟩
theorem left_len (b : Nat → R4) (l : List EN) : (leftP b l).length ≤ l.length := by
  induction l with
  | nil => simp [leftP]
  | cons x r ih => unfold leftP; split <;> (try split) <;> simp <;> omega
/-- Of two that are left the first one does not cover the box. -/
theorem left_head {b : Nat → R4} : ∀ {l : List EN} {x y : EN} {r : List EN}, leftP b l = x :: y :: r → cvB x.bx b = false
  | [], x, y, r, h => by simp [leftP] at h
  | z :: t, x, y, r, h => by
    unfold leftP at h
    cases hm : mbO z.bx b with
    | false => rw [hm, if_neg (by simp)] at h; exact left_head h
    | true =>
      rw [hm, if_pos rfl] at h
      cases hc : cvB z.bx b with
      | true => rw [hc, if_pos rfl] at h; simp at h
      | false =>
        rw [hc, if_neg (by simp)] at h
        simp only [List.cons.injEq] at h
        obtain ⟨rfl, _⟩ := h
        exact hc
def bestS (l : List EN) (b : Nat → R4) (s : Nat × List P2) (f : Nat) : Nat × List P2 := if s.2.length < (rptsL l b f).length then (f, rptsL l b f) else s
/-- The first of the fields with the most points, and these, of the first n fields. -/
def best (l : List EN) (b : Nat → R4) (n : Nat) : Nat × List P2 := (List.range n).foldl (bestS l b) (0, [])
theorem best_zero (l : List EN) (b : Nat → R4) : best l b 0 = (0, []) := rfl
theorem best_succ (l : List EN) (b : Nat → R4) (n : Nat) : best l b (n + 1) = bestS l b (best l b n) n := by
  unfold best; rw [List.range_succ, List.foldl_append]; rfl
theorem best_one (l : List EN) (b : Nat → R4) : best l b 1 = (0, rptsL l b 0) := by
  rw [best_succ, best_zero]
  unfold bestS
  split
  · rfl
  · rename_i h
    have : rptsL l b 0 = [] := by
      apply List.eq_nil_of_length_eq_zero
      have h' : ¬ (0 < (rptsL l b 0).length) := h
      omega
    rw [this]
theorem best_ge (l : List EN) (b : Nat → R4) (n : Nat) : ∀ f, f < n → (rptsL l b f).length ≤ (best l b n).2.length := by
  induction n with
  | zero => intro f hf; omega
  | succ n ih =>
    intro f hf
    rw [best_succ]
    unfold bestS
    split
    · rename_i h
      by_cases e : f = n
      · subst e; exact Nat.le_refl _
      · have := ih f (by omega); simp only; omega
    · rename_i h
      by_cases e : f = n
      · subst e; omega
      · exact ih f (by omega)
theorem best_is (l : List EN) (b : Nat → R4) (n : Nat) : ((best l b n).1 = 0 ∨ (best l b n).1 < n) ∧ ((best l b n).2 = [] ∨ (best l b n).2 = rptsL l b (best l b n).1) := by
  induction n with
  | zero => exact ⟨.inl rfl, .inl rfl⟩
  | succ n ih =>
    rw [best_succ]
    unfold bestS
    split
    · exact ⟨.inr (Nat.lt_succ_self _), .inr rfl⟩
    · refine ⟨?_, ih.2⟩
      rcases ih.1 with h | h
      · exact .inl h
      · exact .inr (by omega)
/-- The points of a box of words are words, and the box may be cut there. -/
theorem pts_good {l : List EN} {b : Nat → R4} {k : Nat} (hk : k < 6) (hw : ∀ e ∈ l, WB e.bx) {x : P2} (hx : x ∈ rptsL l b k) : icB (b k) x = true ∧ Word x.h ∧ Word x.l := by
  unfold rptsL at hx
  rw [(rise_fold _ [] List.Pairwise.nil).2] at hx
  rcases hx with hx | hx
  · simp at hx
  · obtain ⟨e, he, hx⟩ := List.mem_flatMap.1 hx
    obtain ⟨w1, w2, w3, w4⟩ := hw e he k hk
    unfold ptsE at hx
    split at hx
    · rcases List.mem_append.1 hx with hx | hx
      · unfold icL at hx
        split at hx
        · rename_i hi
          rw [List.mem_singleton] at hx
          subst hx
          exact ⟨hi, w3, w4⟩
        · simp at hx
      · unfold pvL at hx
        split at hx
        · simp at hx
        · rename_i p hp
          unfold icL at hx
          split at hx
          · rename_i hi
            rw [List.mem_singleton] at hx
            subst hx
            refine ⟨hi, ?_⟩
            unfold prevP frP at hp
            simp only at hp
            obtain ⟨w11, w12⟩ := w1
            obtain ⟨w21, w22⟩ := w2
            split at hp
            · split at hp
              · cases hp
              · cases hp; exact ⟨⟨by simp only; omega, by simp only; omega⟩, ⟨by simp only; omega, by simp only; omega⟩⟩
            · cases hp; exact ⟨⟨w11, w12⟩, ⟨by simp only; omega, by simp only; omega⟩⟩
          · simp at hx
    · simp at hx
/-- An entry that meets a box, and does not cover it, begins or ends within. -/
theorem pts_some {l : List EN} {b : Nat → R4} (hw : ∀ e ∈ l, WB e.bx) (wb : WB b) {e : EN} (he : e ∈ l) (hm : mbO e.bx b = true) (hc : cvB e.bx b = false) : ∃ k, k < 6 ∧ rptsL l b k ≠ [] := by
  have hE : emB b = false := by
    cases hE : emB b with
    | false => rfl
    | true => rw [mb_em hE] at hm; cases hm
  apply Classical.byContradiction
  intro hno
  have hnil : ∀ k, k < 6 → rptsL l b k = [] := fun k hk => by
    apply Classical.byContradiction
    intro h; exact hno ⟨k, hk, h⟩
  have hcv : cvB e.bx b = true := by
    rw [cvB_iff _ _ hE]
    intro k hk
    have hp : ptsE e.bx b k = [] := by
      apply Classical.byContradiction
      intro h
      obtain ⟨x, hx⟩ := List.exists_mem_of_ne_nil _ h
      have : x ∈ rptsL l b k := by
        unfold rptsL
        rw [(rise_fold _ [] List.Pairwise.nil).2]
        exact .inr (List.mem_flatMap.2 ⟨e, he, hx⟩)
      rw [hnil k hk] at this
      simp at this
    rw [ptsE_is (q := prevP (frP (e.bx k))) hm rfl] at hp
    obtain ⟨h1, h2⟩ := List.append_eq_nil_iff.1 hp
    have ic : ∀ x : P2, icB (b k) x = true ↔ ((b k).fh < x.h ∨ (b k).fh = x.h ∧ (b k).fl ≤ x.l) ∧ (x.h < (b k).th ∨ x.h = (b k).th ∧ x.l < (b k).tl) := fun x => by
      unfold icB; simp only [Bool.and_eq_true, decide_eq_true_eq, cmp_le0, cmp_lt0]
    have hme := (mbO_iff _ _).1 hm k hk
    have hn : ¬ ((meR (e.bx k) (b k)).th < (meR (e.bx k) (b k)).fh ∨ ((meR (e.bx k) (b k)).th = (meR (e.bx k) (b k)).fh ∧ (meR (e.bx k) (b k)).tl < (meR (e.bx k) (b k)).fl)) := fun hh => by
      rw [(emR_iff _).2 hh] at hme; cases hme
    have h3 : inR (meR (e.bx k) (b k)) ⟨(meR (e.bx k) (b k)).fh, (meR (e.bx k) (b k)).fl⟩ = true := by rw [inR_iff]; dsimp only; omega
    rw [inR_me, inR_iff, inR_iff] at h3
    generalize (meR (e.bx k) (b k)).fh = mh at *
    generalize (meR (e.bx k) (b k)).fl = ml at *
    dsimp only at h3
    obtain ⟨⟨u1, u2⟩, ⟨u3, u4⟩, ⟨u5, u6⟩, ⟨u7, u8⟩⟩ := hw e he k hk
    obtain ⟨⟨v1, v2⟩, ⟨v3, v4⟩, ⟨v5, v6⟩, ⟨v7, v8⟩⟩ := wb k hk
    have k1 : ¬ icB (b k) ⟨(e.bx k).th, (e.bx k).tl⟩ = true := fun h => by unfold icL at h1; rw [if_pos h] at h1; cases h1
    rw [ic] at k1
    dsimp only at k1
    refine ⟨?_, by omega⟩
    apply Classical.byContradiction
    intro hf
    by_cases hl : (e.bx k).fl = 0
    · have hh : ¬ (e.bx k).fh = 0 := by omega
      have hpv : prevP (frP (e.bx k)) = some ⟨(e.bx k).fh - 1, 18446744073709551615⟩ := by unfold prevP frP; dsimp only; rw [if_pos hl, if_neg hh]
      rw [hpv] at h2
      have k2 : ¬ icB (b k) ⟨(e.bx k).fh - 1, 18446744073709551615⟩ = true := fun h => by rw [pvL_some h] at h2; simp at h2
      rw [ic] at k2
      dsimp only at k2
      omega
    · have hpv : prevP (frP (e.bx k)) = some ⟨(e.bx k).fh, (e.bx k).fl - 1⟩ := by unfold prevP frP; dsimp only; rw [if_neg hl]
      rw [hpv] at h2
      have k2 : ¬ icB (b k) ⟨(e.bx k).fh, (e.bx k).fl - 1⟩ = true := fun h => by rw [pvL_some h] at h2; simp at h2
      rw [ic] at k2
      dsimp only at k2
      omega
  rw [hc] at hcv; cases hcv
/-- Where a node is cut. -/
def fldP (b : Nat → R4) (m : List EN) : Nat := (best m b 6).1
def atP (b : Nat → R4) (m : List EN) : P2 := (best m b 6).2.getD ((best m b 6).2.length / 2) ⟨0, 0⟩
theorem best_good {b : Nat → R4} {l : List EN} (hw : ∀ e ∈ l, WB e.bx) (wb : WB b) (h8 : 8 < (leftP b l).length) :
    0 < (best (leftP b l) b 6).2.length ∧ fldP b (leftP b l) < 6 ∧ atP b (leftP b l) ∈ rptsL (leftP b l) b (fldP b (leftP b l)) ∧ spO b (fldP b (leftP b l) : Nat) (atP b (leftP b l)) = true ∧ Word (atP b (leftP b l)).h ∧ Word (atP b (leftP b l)).l := by
  obtain ⟨x, y, r, hxy⟩ : ∃ x y r, leftP b l = x :: y :: r := by
    match h : leftP b l with
    | [] => rw [h] at h8; simp at h8
    | [_] => rw [h] at h8; simp at h8
    | x :: y :: r => exact ⟨x, y, r, rfl⟩
  have hx : x ∈ leftP b l := by rw [hxy]; exact List.mem_cons_self
  have hwl : ∀ e ∈ leftP b l, WB e.bx := fun e he => hw e (left_mem he).1
  obtain ⟨k, hk, hne⟩ := pts_some hwl wb hx (left_mem hx).2 (left_head hxy)
  have hge := best_ge (leftP b l) b 6 k hk
  have hpos : 0 < (rptsL (leftP b l) b k).length := List.length_pos_iff.2 hne
  have h0 : 0 < (best (leftP b l) b 6).2.length := by omega
  have hf : fldP b (leftP b l) < 6 := by
    unfold fldP
    rcases (best_is (leftP b l) b 6).1 with h | h <;> omega
  have hat : atP b (leftP b l) ∈ rptsL (leftP b l) b (fldP b (leftP b l)) := by
    unfold atP fldP
    rcases (best_is (leftP b l) b 6).2 with h | h
    · rw [h] at h0; simp at h0
    · rw [List.getD_eq_getElem?_getD, List.getElem?_eq_getElem (by omega)]
      simp only [Option.getD_some]
      have := List.getElem_mem (l := (best (leftP b l) b 6).2) (n := (best (leftP b l) b 6).2.length / 2) (by omega)
      have hh : ∀ z, z ∈ (best (leftP b l) b 6).2 → z ∈ rptsL (leftP b l) b (best (leftP b l) b 6).1 := fun z hz => by rw [← h]; exact hz
      exact hh _ this
  obtain ⟨g1, g2, g3⟩ := pts_good hf hwl hat
  refine ⟨h0, hf, hat, ?_, g2, g3⟩
  unfold spO
  rw [Int.toNat_natCast, g1]
  simp
  omega
def loP (b : Nat → R4) (m : List EN) : Nat → R4 := spL b (fldP b m : Nat) (atP b m)
def hiP (b : Nat → R4) (m : List EN) : Nat → R4 := spH b (fldP b m : Nat) (atP b m)
/-- What grows of a box, and entries; how many nodes may be made yet; too complex: none. -/
def growP : Nat → (Nat → R4) → List EN → Nat → Option (TN × Nat)
  | d, b, l, may => if may = 0 then none else if (leftP b l).length ≤ 8 then some (.leaf (leftP b l), may - 1) else match d with
    | 0 => none
    | d + 1 => match growP d (loP b (leftP b l)) (leftP b l) (may - 1) with
      | none => none
      | some (t1, m1) => match growP d (hiP b (leftP b l)) (leftP b l) m1 with
        | none => none
        | some (t2, m2) => some (.inner (fldP b (leftP b l)) (atP b (leftP b l)) (loP b (leftP b l)) t1 t2, m2)
end Go.Proofs.Ytomennaekjklbaa
