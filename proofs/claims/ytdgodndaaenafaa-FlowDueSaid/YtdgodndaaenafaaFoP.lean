/- Flows, their keys and tables of them, in plain words; by-name template. -/
import Derived.Test.YtdgodndaaenafaaWHP
namespace Go.Proofs.Ytdgodndaaenafaa
set_option linter.unusedVariables false
set_option linter.unusedSimpArgs false

structure Ky where
  pr : Int
  sh : Int
  sl : Int
  dh : Int
  dl : Int
  sp : Int
  dp : Int
  deriving DecidableEq, Inhabited
structure Fl where
  id : Int
  op : Ky
  bk : Ky
  ii : Int
  oo : Int
  ru : Int
  st : Int
  en : Int
  deriving DecidableEq, Inhabited
def zk : Ky := ⟨0, 0, 0, 0, 0, 0, 0⟩
def zf : Fl := ⟨0, zk, zk, 0, 0, 0, 0, 0⟩
def turnK (k : Ky) : Ky := ⟨k.pr, k.dh, k.dl, k.sh, k.sl, k.dp, k.sp⟩
def Fl.me (f : Fl) : K2 := (f.id, f.en)

def hitF (k : Ky) (f : Fl) : Bool := f.op == k || f.bk == k
def goF (L : List Fl) (id : Int) : Option Fl := L.find? fun f => f.id == id
def gkF (L : List Fl) (k : Ky) : Option Int := (L.find? (hitF k)).map Fl.id
def takF (L : List Fl) (k : Ky) : Bool := L.any (hitF k)
def hasF (L : List Fl) (id : Int) : Bool := L.any fun f => f.id == id
def getF (L : List Fl) (id : Int) : Fl := (goF L id).getD zf
def finF (L : List Fl) (k : Ky) : Fl := (L.find? (hitF k)).getD zf
def remF (L : List Fl) (id : Int) : List Fl := L.filter fun f => f.id != id
def preF : Int → List Fl → Nat
  | _, [] => 0
  | n, f :: t => if f.id = n + 1 then preF (n + 1) t + 1 else 0
def insF (L : List Fl) (f : Fl) : List Fl := L.take (preF 0 L) ++ { f with id := (preF 0 L : Int) + 1 } :: L.drop (preF 0 L)
def openF (f : Fl) : Bool := f.st == 0 || f.st == 2
def weakS (b : Option Fl) (f : Fl) : Option Fl :=
  match b with
  | none => if openF f then some f else none
  | some x => if openF f && decide (f.en < x.en) then some f else some x
def weakF (L : List Fl) : Option Fl := L.foldl weakS none
def setF (L : List Fl) (id st en : Int) : List Fl := L.map fun f => if f.id = id then { f with st := st, en := en } else f

structure AddR where
  id : Int
  gone : Int
  e : Int
  L : List Fl
def badF (L : List Fl) (f : Fl) : Bool := f.op == f.bk || (takF L f.op || takF L f.bk)
def addF (L : List Fl) (f : Fl) : AddR :=
  if badF L f then ⟨0, 0, 63, L⟩
  else if L.length < 48 then ⟨(preF 0 L : Int) + 1, 0, 0, insF L f⟩
  else match weakF L with
    | none => ⟨0, 0, 120, L⟩
    | some x => ⟨(preF 0 (remF L x.id) : Int) + 1, x.id, 0, insF (remF L x.id) f⟩

def i64k (n : Int) : Prop := -9223372036854775808 ≤ n ∧ n ≤ 9223372036854775807
def u64ok (n : Int) : Prop := 0 ≤ n ∧ n < 18446744073709551616
def KyOk (k : Ky) : Prop := i64k k.pr ∧ u64ok k.sh ∧ u64ok k.sl ∧ u64ok k.dh ∧ u64ok k.dl ∧ i64k k.sp ∧ i64k k.dp
structure FlOk (f : Fl) : Prop where
  id : i64k f.id
  op : KyOk f.op
  bk : KyOk f.bk
  st : i64k f.st
  en : i64k f.en

/-- no key in common. -/
def ApartF (x y : Fl) : Prop := x.op ≠ y.op ∧ x.op ≠ y.bk ∧ x.bk ≠ y.op ∧ x.bk ≠ y.bk
theorem apart_symm {x y : Fl} (h : ApartF x y) : ApartF y x := ⟨h.1.symm, h.2.2.1.symm, h.2.1.symm, h.2.2.2.symm⟩
structure GoodF (L : List Fl) : Prop where
  ris : L.Pairwise (fun x y => x.id < y.id)
  lo : ∀ f ∈ L, 1 ≤ f.id ∧ f.id ≤ 48
  ok : ∀ f ∈ L, FlOk f
  ks : L.Pairwise ApartF
  ob : ∀ f ∈ L, f.op ≠ f.bk
  ln : L.length ≤ 48

theorem good_nil : GoodF [] := ⟨List.Pairwise.nil, by simp, by simp, List.Pairwise.nil, by simp, by simp⟩

theorem ris_ge : ∀ {L : List Fl} {n : Int}, L.Pairwise (fun x y => x.id < y.id) → (∀ f ∈ L, n < f.id) → ∀ {i : Nat} {f : Fl}, L[i]? = some f → n + 1 + i ≤ f.id
  | [], _, _, _, i, f, h => by simp at h
  | a :: t, n, hr, hn, 0, f, h => by
    simp at h; subst h
    have := hn a (by simp)
    omega
  | a :: t, n, hr, hn, i + 1, f, h => by
    have h1 := List.pairwise_cons.1 hr
    have h2 := hn a (by simp)
    have h3 := ris_ge (n := a.id) h1.2 h1.1 (i := i) (f := f) (by simpa using h)
    omega
theorem GoodF.idx {L : List Fl} (h : GoodF L) {i : Nat} {f : Fl} (hi : L[i]? = some f) : (i : Int) + 1 ≤ f.id := by
  have := ris_ge (n := 0) h.ris (fun f hf => by have := (h.lo f hf).1; omega) hi
  omega
theorem ris_sub {L M : List Fl} (h : M.Sublist L) (g : GoodF L) : GoodF M :=
  ⟨g.ris.sublist h, fun f hf => g.lo f (h.subset hf), fun f hf => g.ok f (h.subset hf), g.ks.sublist h, fun f hf => g.ob f (h.subset hf), Nat.le_trans h.length_le g.ln⟩
theorem rem_good {L : List Fl} (g : GoodF L) (id : Int) : GoodF (remF L id) := ris_sub List.filter_sublist g

/-! ### the first IDs -/
theorem pre_le : ∀ (L : List Fl) (n : Int), preF n L ≤ L.length
  | [], _ => Nat.le_refl _
  | f :: t, n => by
    unfold preF
    split
    · have := pre_le t (n + 1); simp; omega
    · simp
theorem pre_in : ∀ (L : List Fl) (n : Int) (i : Nat), i < preF n L → ∃ f, L[i]? = some f ∧ f.id = n + 1 + i
  | [], _, i, h => by simp [preF] at h
  | f :: t, n, i, h => by
    unfold preF at h
    split at h
    · rename_i e
      cases i with
      | zero => exact ⟨f, rfl, by simp; exact e⟩
      | succ i =>
        obtain ⟨g, h1, h2⟩ := pre_in t (n + 1) i (by omega)
        exact ⟨g, by simpa using h1, by omega⟩
    · omega
theorem pre_out : ∀ (L : List Fl) (n : Int) {f : Fl}, L[preF n L]? = some f → f.id ≠ n + 1 + preF n L
  | [], _, f, h => by simp at h
  | a :: t, n, f, h => by
    unfold preF at h ⊢
    split at h
    · rename_i e
      rw [if_pos e]
      have := pre_out t (n + 1) (f := f) (by simpa using h)
      omega
    · rename_i e
      rw [if_neg e]
      simp at h
      subst h
      simpa using e
theorem pre_gt {L : List Fl} (g : GoodF L) {i : Nat} (hi : preF 0 L ≤ i) {f : Fl} (h : L[i]? = some f) : (preF 0 L : Int) + 1 < f.id := by
  have hl : i < L.length := (List.getElem?_eq_some_iff.1 h).1
  have h0 : L[preF 0 L]? = some L[preF 0 L] := List.getElem?_eq_getElem (by omega)
  have h1 := pre_out L 0 h0
  have h2 := g.idx h0
  rcases Nat.eq_or_lt_of_le hi with e | e
  · subst e
    rw [h0] at h
    cases h
    omega
  · have := List.pairwise_iff_getElem.1 g.ris (preF 0 L) i (by omega) hl e
    rw [(List.getElem?_eq_some_iff.1 h).2] at this
    omega
theorem pre_has {L : List Fl} (g : GoodF L) {i : Nat} (hi : i < preF 0 L) : hasF L ((i : Int) + 1) = true := by
  obtain ⟨f, h1, h2⟩ := pre_in L 0 i hi
  exact List.any_eq_true.2 ⟨f, List.mem_of_getElem? h1, by simp; omega⟩
theorem pre_not {L : List Fl} (g : GoodF L) : hasF L ((preF 0 L : Int) + 1) = false := by
  rw [Bool.eq_false_iff]
  intro h
  obtain ⟨f, hf, he⟩ := List.any_eq_true.1 h
  obtain ⟨i, hi⟩ := List.getElem?_of_mem hf
  have he : f.id = (preF 0 L : Int) + 1 := by simpa using he
  by_cases hp : i < preF 0 L
  · obtain ⟨f', h1, h2⟩ := pre_in L 0 i hp
    rw [hi] at h1; cases h1
    omega
  · have := pre_gt g (Nat.le_of_not_lt hp) hi
    omega

/-! ### what is there -/
theorem has_go (L : List Fl) (id : Int) : (goF L id).isSome = hasF L id := by
  unfold goF hasF
  rw [List.isSome_find?]
theorem tak_gk (L : List Fl) (k : Ky) : (gkF L k).isSome = takF L k := by
  unfold gkF takF
  rw [Option.isSome_map, List.isSome_find?]
theorem go_mem {L : List Fl} (g : GoodF L) {f : Fl} (hf : f ∈ L) : goF L f.id = some f := by
  unfold goF
  obtain ⟨i, hi⟩ := List.getElem?_of_mem hf
  rw [List.find?_eq_some_iff_getElem]
  refine ⟨by simp, i, (List.getElem?_eq_some_iff.1 hi).1, (List.getElem?_eq_some_iff.1 hi).2, fun j hj => ?_⟩
  have := List.pairwise_iff_getElem.1 g.ris j i (by have := (List.getElem?_eq_some_iff.1 hi).1; omega) (List.getElem?_eq_some_iff.1 hi).1 hj
  rw [(List.getElem?_eq_some_iff.1 hi).2] at this
  simp; omega
theorem go_of {L : List Fl} {id : Int} {f : Fl} (h : goF L id = some f) : f ∈ L ∧ f.id = id := by
  unfold goF at h
  exact ⟨List.mem_of_find?_eq_some h, by simpa using List.find?_some h⟩
theorem pw_mem {R : Fl → Fl → Prop} (hs : ∀ {x y}, R x y → R y x) : ∀ {L : List Fl}, L.Pairwise R → ∀ {x y : Fl}, x ∈ L → y ∈ L → x ≠ y → R x y
  | [], _, x, y, hx, _, _ => by simp at hx
  | a :: t, h, x, y, hx, hy, hn => by
    have h1 := List.pairwise_cons.1 h
    rcases List.mem_cons.1 hx with e1 | hx1
    · rcases List.mem_cons.1 hy with e2 | hy1
      · exact absurd (e1.trans e2.symm) hn
      · rw [e1]; exact h1.1 y hy1
    · rcases List.mem_cons.1 hy with e2 | hy1
      · rw [e2]; exact hs (h1.1 x hx1)
      · exact pw_mem hs h1.2 hx1 hy1 hn
theorem hit_one {L : List Fl} (g : GoodF L) {k : Ky} {x y : Fl} (hx : x ∈ L) (hy : y ∈ L) (h1 : hitF k x = true) (h2 : hitF k y = true) : x = y := by
  by_cases e : x = y
  · exact e
  · have := pw_mem (R := ApartF) apart_symm g.ks hx hy e
    unfold ApartF at this
    simp [hitF] at h1 h2
    rcases h1 with rfl | rfl <;> rcases h2 with h2 | h2 <;> simp_all
theorem gk_mem {L : List Fl} (g : GoodF L) {f : Fl} (hf : f ∈ L) {k : Ky} (hk : hitF k f = true) : L.find? (hitF k) = some f := by
  cases h : L.find? (hitF k) with
  | none => exact absurd hk (by simpa using List.find?_eq_none.1 h f hf)
  | some x => rw [hit_one g (List.mem_of_find?_eq_some h) hf (List.find?_some h) hk]
theorem gk_of {L : List Fl} {k : Ky} {n : Int} (h : gkF L k = some n) : ∃ f ∈ L, f.id = n ∧ hitF k f = true ∧ L.find? (hitF k) = some f := by
  unfold gkF at h
  cases e : L.find? (hitF k) with
  | none => rw [e] at h; cases h
  | some f =>
    rw [e] at h
    exact ⟨f, List.mem_of_find?_eq_some e, by simpa using h, List.find?_some e, rfl⟩
theorem gk_none {L : List Fl} {k : Ky} (h : takF L k = false) : gkF L k = none := by
  have := tak_gk L k
  rw [h] at this
  cases e : gkF L k with
  | none => rfl
  | some x => rw [e] at this; cases this
theorem has_rem (L : List Fl) (id id' : Int) : hasF (remF L id) id' = (hasF L id' && id' != id) := by
  rw [Bool.eq_iff_iff]
  unfold hasF remF
  rw [Bool.and_eq_true, List.any_eq_true, List.any_eq_true]
  constructor
  · rintro ⟨f, hf, he⟩
    have := List.mem_filter.1 hf
    have e1 : f.id = id' := by simpa using he
    refine ⟨⟨f, this.1, he⟩, ?_⟩
    rw [← e1]
    exact this.2
  · rintro ⟨⟨f, hf, he⟩, h2⟩
    have e1 : f.id = id' := by simpa using he
    exact ⟨f, List.mem_filter.2 ⟨hf, by rw [e1]; exact h2⟩, he⟩
theorem go_rem (L : List Fl) (id id' : Int) : goF (remF L id) id' = if id' = id then none else goF L id' := by
  unfold goF remF
  induction L with
  | nil => simp
  | cons a t ih =>
    by_cases h1 : a.id = id
    · rw [List.filter_cons, if_neg (by simp [h1]), ih, List.find?_cons]
      by_cases h2 : id' = id
      · rw [if_pos h2, if_pos h2]
      · rw [if_neg h2, if_neg h2]
        have : (a.id == id') = false := by simp; omega
        rw [this]
    · rw [List.filter_cons, if_pos (by simp [h1]), List.find?_cons, List.find?_cons, ih]
      by_cases h3 : a.id = id'
      · have : (a.id == id') = true := by simpa using h3
        simp only [this]
        rw [if_neg (by omega)]
      · have : (a.id == id') = false := by simpa using h3
        rw [this]
theorem rem_len {L : List Fl} (g : GoodF L) {f : Fl} (hf : f ∈ L) : (remF L f.id).length + 1 = L.length := by
  unfold remF
  have h1 : ∀ {M : List Fl}, M.Pairwise (fun x y => x.id < y.id) → f ∈ M → (M.filter fun x => x.id != f.id).length + 1 = M.length := by
    intro M
    induction M with
    | nil => intro _ h; simp at h
    | cons a t ih =>
      intro hr hm
      have hp := List.pairwise_cons.1 hr
      rcases List.mem_cons.1 hm with rfl | hm
      · rw [List.filter_cons, if_neg (by simp)]
        rw [List.filter_eq_self.2]
        · simp
        · intro x hx
          have := hp.1 x hx
          simp; omega
      · have := hp.1 f hm
        rw [List.filter_cons, if_pos (by simp; omega)]
        have := ih hp.2 hm
        simp; omega
  exact h1 g.ris hf
theorem gk_rem {L : List Fl} (g : GoodF L) {f : Fl} (hf : f ∈ L) (k : Ky) : gkF (remF L f.id) k = if hitF k f = true then none else gkF L k := by
  by_cases h : hitF k f = true
  · rw [if_pos h]
    unfold gkF
    have : (remF L f.id).find? (hitF k) = none := by
      rw [List.find?_eq_none]
      intro x hx hk
      have := List.mem_filter.1 hx
      have e := hit_one g this.1 hf hk h
      rw [e] at this
      simp at this
    rw [this]; rfl
  · rw [if_neg h]
    unfold gkF
    congr 1
    cases e : L.find? (hitF k) with
    | none =>
      rw [List.find?_eq_none] at e ⊢
      intro x hx
      exact e x (List.mem_filter.1 hx).1
    | some x =>
      have hx := List.mem_of_find?_eq_some e
      have hk := List.find?_some e
      have hm : x ∈ remF L f.id := List.mem_filter.2 ⟨hx, by
        by_cases e2 : x.id = f.id
        · have h1 := go_mem g hx
          have h2 := go_mem g hf
          rw [e2, h2] at h1
          cases h1
          exact absurd hk h
        · simpa using e2⟩
      exact gk_mem (rem_good g _) hm hk

/-! ### a flow is set -/
theorem set_ids (L : List Fl) (id st en : Int) : (setF L id st en).map Fl.id = L.map Fl.id := by
  unfold setF
  rw [List.map_map]
  refine List.map_congr_left fun f _ => ?_
  simp only [Function.comp]
  split <;> rfl
theorem set_mem {L : List Fl} {id st en : Int} {x : Fl} (h : x ∈ setF L id st en) : ∃ f ∈ L, x.id = f.id ∧ x.op = f.op ∧ x.bk = f.bk ∧ x.ii = f.ii ∧ x.oo = f.oo ∧ x.ru = f.ru ∧ x.st = (if f.id = id then st else f.st) ∧ x.en = (if f.id = id then en else f.en) := by
  obtain ⟨f, hf, rfl⟩ := List.mem_map.1 h
  refine ⟨f, hf, ?_⟩
  split <;> simp
theorem set_good {L : List Fl} (g : GoodF L) {id st en : Int} (hs : i64k st) (he : i64k en) : GoodF (setF L id st en) where
  ris := by
    have : (L.map Fl.id).Pairwise (· < ·) := List.pairwise_map.2 g.ris
    rw [← set_ids L id st en] at this
    exact List.pairwise_map.1 this
  lo x hx := by
    obtain ⟨f, hf, e, _⟩ := set_mem hx
    rw [e]; exact g.lo f hf
  ok x hx := by
    obtain ⟨f, hf, e1, e2, e3, _, _, _, e4, e5⟩ := set_mem hx
    have := g.ok f hf
    exact ⟨by rw [e1]; exact this.id, by rw [e2]; exact this.op, by rw [e3]; exact this.bk, by rw [e4]; split; exact hs; exact this.st, by rw [e5]; split; exact he; exact this.en⟩
  ks := by
    unfold setF
    rw [List.pairwise_map]
    refine g.ks.imp fun {a b} h => ?_
    unfold ApartF at *
    split <;> split <;> exact h
  ob x hx := by
    obtain ⟨f, hf, e1, e2, e3, _⟩ := set_mem hx
    rw [e2, e3]; exact g.ob f hf
  ln := by unfold setF; rw [List.length_map]; exact g.ln
theorem gk_set (L : List Fl) (id st en : Int) (k : Ky) : gkF (setF L id st en) k = gkF L k := by
  unfold gkF setF
  rw [List.find?_map]
  have : (hitF k ∘ fun f : Fl => if f.id = id then { f with st := st, en := en } else f) = hitF k := by
    funext f
    simp only [Function.comp, hitF]
    split <;> rfl
  rw [this, Option.map_map]
  congr 1
  funext f
  simp only [Function.comp]
  split <;> rfl
theorem go_set (L : List Fl) (id st en id' : Int) : goF (setF L id st en) id' = if id' = id then (goF L id).map fun f => { f with st := st, en := en } else goF L id' := by
  unfold goF setF
  rw [List.find?_map]
  have : ((fun f : Fl => f.id == id') ∘ fun f : Fl => if f.id = id then { f with st := st, en := en } else f) = fun f : Fl => f.id == id' := by
    funext f
    simp only [Function.comp]
    split <;> rfl
  rw [this]
  by_cases h : id' = id
  · subst h
    rw [if_pos rfl]
    cases e : L.find? fun f => f.id == id' with
    | none => rfl
    | some f =>
      have : f.id = id' := by simpa using List.find?_some e
      simp [this]
  · rw [if_neg h]
    cases e : L.find? fun f => f.id == id' with
    | none => rfl
    | some f =>
      have : f.id = id' := by simpa using List.find?_some e
      simp [this, h]
theorem set_no {L : List Fl} {id : Int} (h : hasF L id = false) (st en : Int) : setF L id st en = L := by
  unfold setF
  conv => rhs; rw [← List.map_id L]
  refine List.map_congr_left fun f hf => ?_
  rw [if_neg]
  · rfl
  · intro e
    have : hasF L id = true := List.any_eq_true.2 ⟨f, hf, by simpa using e⟩
    rw [h] at this; cases this
theorem rem_no {L : List Fl} {id : Int} (h : hasF L id = false) : remF L id = L := by
  unfold remF
  refine List.filter_eq_self.2 fun f hf => ?_
  by_cases e : f.id = id
  · have : hasF L id = true := List.any_eq_true.2 ⟨f, hf, by simpa using e⟩
    rw [h] at this; cases this
  · simpa using e

/-! ### a flow is put in -/
theorem ins_mem {L : List Fl} {f x : Fl} : x ∈ insF L f ↔ x = { f with id := (preF 0 L : Int) + 1 } ∨ x ∈ L := by
  unfold insF
  rw [List.mem_append, List.mem_cons]
  constructor
  · rintro (h | h | h)
    · exact .inr (List.mem_of_mem_take h)
    · exact .inl h
    · exact .inr (List.mem_of_mem_drop h)
  · rintro (h | h)
    · exact .inr (.inl h)
    · rw [← List.take_append_drop (preF 0 L) L] at h
      rcases List.mem_append.1 h with h | h
      · exact .inl h
      · exact .inr (.inr h)
theorem ins_flen (L : List Fl) (f : Fl) : (insF L f).length = L.length + 1 := by
  have := pre_le L 0
  unfold insF
  rw [List.length_append, List.length_cons, List.length_take, List.length_drop]
  omega
theorem tak_false {L : List Fl} {k : Ky} (h : takF L k = false) {x : Fl} (hx : x ∈ L) : x.op ≠ k ∧ x.bk ≠ k := by
  have : hitF k x = false := by
    rw [Bool.eq_false_iff]
    intro e
    have : takF L k = true := List.any_eq_true.2 ⟨x, hx, e⟩
    rw [h] at this; cases this
  unfold hitF at this
  simpa using this
theorem bad_false {L : List Fl} {f : Fl} (h : badF L f = false) : f.op ≠ f.bk ∧ takF L f.op = false ∧ takF L f.bk = false := by
  unfold badF at h
  simpa using h
theorem pre_48 {L : List Fl} (g : GoodF L) (h : L.length < 48) : preF 0 L < 48 := by have := pre_le L 0; omega
theorem ins_good {L : List Fl} (g : GoodF L) (hl : L.length < 48) {f : Fl} (hb : badF L f = false) (hf : FlOk f) : GoodF (insF L f) := by
  obtain ⟨b1, b2, b3⟩ := bad_false hb
  have hp := pre_48 g hl
  have hT : (L.take (preF 0 L)).Sublist L := List.take_sublist _ _
  have hD : (L.drop (preF 0 L)).Sublist L := List.drop_sublist _ _
  have hlt : ∀ x ∈ L.take (preF 0 L), x.id < (preF 0 L : Int) + 1 := fun x hx => by
    obtain ⟨i, hi⟩ := List.getElem?_of_mem hx
    have hi' : i < preF 0 L := by
      have := (List.getElem?_eq_some_iff.1 hi).1
      rw [List.length_take] at this; omega
    rw [List.getElem?_take_of_lt hi'] at hi
    obtain ⟨y, h1, h2⟩ := pre_in L 0 i hi'
    rw [hi] at h1; cases h1
    omega
  have hgt : ∀ x ∈ L.drop (preF 0 L), (preF 0 L : Int) + 1 < x.id := fun x hx => by
    obtain ⟨i, hi⟩ := List.getElem?_of_mem hx
    rw [List.getElem?_drop] at hi
    exact pre_gt g (by omega) hi
  have ap : ∀ x ∈ L, ApartF x { f with id := (preF 0 L : Int) + 1 } := fun x hx => by
    obtain ⟨p1, p2⟩ := tak_false b2 hx
    obtain ⟨q1, q2⟩ := tak_false b3 hx
    exact ⟨p1, q1, p2, q2⟩
  have tb : ∀ x ∈ L.take (preF 0 L), ∀ y ∈ L.drop (preF 0 L), ApartF x y := fun x hx y hy => by
    have h := g.ks
    rw [← List.take_append_drop (preF 0 L) L] at h
    exact (List.pairwise_append.1 h).2.2 x hx y hy
  exact {
    ris := by
      unfold insF
      rw [List.pairwise_append, List.pairwise_cons]
      refine ⟨g.ris.sublist hT, ⟨fun y hy => hgt y hy, g.ris.sublist hD⟩, fun x hx y hy => ?_⟩
      rcases List.mem_cons.1 hy with rfl | hy
      · exact hlt x hx
      · have := hlt x hx; have := hgt y hy; omega
    lo := fun x hx => by
      rcases ins_mem.1 hx with rfl | hx
      · exact ⟨by simp; omega, by simp; omega⟩
      · exact g.lo x hx
    ok := fun x hx => by
      rcases ins_mem.1 hx with rfl | hx
      · exact ⟨by unfold i64k; simp; omega, hf.op, hf.bk, hf.st, hf.en⟩
      · exact g.ok x hx
    ks := by
      unfold insF
      rw [List.pairwise_append, List.pairwise_cons]
      refine ⟨g.ks.sublist hT, ⟨fun y hy => apart_symm (ap y (hD.subset hy)), g.ks.sublist hD⟩, fun x hx y hy => ?_⟩
      rcases List.mem_cons.1 hy with rfl | hy
      · exact ap x (hT.subset hx)
      · exact tb x hx y hy
    ob := fun x hx => by
      rcases ins_mem.1 hx with rfl | hx
      · exact b1
      · exact g.ob x hx
    ln := by rw [ins_flen]; omega }
theorem go_ins {L : List Fl} (g : GoodF L) (hl : L.length < 48) {f : Fl} (hb : badF L f = false) (hf : FlOk f) (id : Int) : goF (insF L f) id = if id = (preF 0 L : Int) + 1 then some { f with id := (preF 0 L : Int) + 1 } else goF L id := by
  have g' := ins_good g hl hb hf
  by_cases h : id = (preF 0 L : Int) + 1
  · rw [if_pos h]
    have := go_mem g' (ins_mem.2 (.inl rfl))
    rw [← h] at this ⊢
    exact this
  · rw [if_neg h]
    cases e : goF L id with
    | some x =>
      obtain ⟨hx, he⟩ := go_of e
      have := go_mem g' (ins_mem.2 (.inr hx))
      rw [he] at this
      exact this
    | none =>
      cases e2 : goF (insF L f) id with
      | none => rfl
      | some x =>
        obtain ⟨hx, he⟩ := go_of e2
        rcases ins_mem.1 hx with rfl | hx
        · exact absurd he.symm h
        · rw [← he, go_mem g hx] at e; cases e
theorem gk_ins {L : List Fl} (g : GoodF L) (hl : L.length < 48) {f : Fl} (hb : badF L f = false) (hf : FlOk f) (k : Ky) : gkF (insF L f) k = if hitF k f = true then some ((preF 0 L : Int) + 1) else gkF L k := by
  have g' := ins_good g hl hb hf
  by_cases h : hitF k f = true
  · rw [if_pos h]
    unfold gkF
    rw [gk_mem g' (f := { f with id := (preF 0 L : Int) + 1 }) (ins_mem.2 (.inl rfl)) h]; rfl
  · rw [if_neg h]
    unfold gkF
    congr 1
    cases e : L.find? (hitF k) with
    | some x => exact gk_mem g' (ins_mem.2 (.inr (List.mem_of_find?_eq_some e))) (List.find?_some e)
    | none =>
      rw [List.find?_eq_none] at e ⊢
      intro x hx
      rcases ins_mem.1 hx with rfl | hx
      · exact h
      · exact e x hx

/-! ### who goes -/
theorem weak_mem {L : List Fl} {x : Fl} (h : weakF L = some x) : x ∈ L ∧ openF x = true := by
  have key : ∀ (M : List Fl) (b : Option Fl), (∀ y, b = some y → y ∈ L ∧ openF y = true) → (∀ y ∈ M, y ∈ L) → ∀ y, M.foldl weakS b = some y → y ∈ L ∧ openF y = true := by
    intro M
    induction M with
    | nil => intro b hb _ y hy; exact hb y hy
    | cons a t ih =>
      intro b hb hM y hy
      refine ih (weakS b a) (fun z hz => ?_) (fun z hz => hM z (List.mem_cons_of_mem _ hz)) y hy
      unfold weakS at hz
      split at hz
      · split at hz
        · rename_i ho
          cases hz
          exact ⟨hM a (by simp), ho⟩
        · cases hz
      · split at hz
        · rename_i ho
          cases hz
          simp at ho
          exact ⟨hM a (by simp), ho.1⟩
        · cases hz
          exact hb _ rfl
  exact key L none (by simp) (fun y hy => hy) x h
theorem weakS_some (x f : Fl) : ∃ y, weakS (some x) f = some y := by
  simp only [weakS]
  split <;> exact ⟨_, rfl⟩
theorem weak_none {L : List Fl} (h : weakF L = none) : ∀ f ∈ L, openF f = false := by
  have some_stays : ∀ (M : List Fl) (x : Fl), ∃ y, M.foldl weakS (some x) = some y := by
    intro M
    induction M with
    | nil => intro x; exact ⟨x, rfl⟩
    | cons a t ih =>
      intro x
      obtain ⟨y, hy⟩ := weakS_some x a
      rw [List.foldl_cons, hy]
      exact ih y
  have key : ∀ M : List Fl, M.foldl weakS none = none → ∀ f ∈ M, openF f = false := by
    intro M
    induction M with
    | nil => simp
    | cons a t ih =>
      intro h f hf
      rw [List.foldl_cons] at h
      by_cases ho : openF a = true
      · have : weakS none a = some a := by unfold weakS; rw [if_pos ho]
        rw [this] at h
        obtain ⟨y, hy⟩ := some_stays t a
        rw [hy] at h; cases h
      · have : weakS none a = none := by unfold weakS; rw [if_neg ho]
        rw [this] at h
        rcases List.mem_cons.1 hf with rfl | hf
        · simpa using ho
        · exact ih h f hf
  exact key L h
theorem bad_rem {L : List Fl} {f : Fl} (h : badF L f = false) (id : Int) : badF (remF L id) f = false := by
  obtain ⟨b1, b2, b3⟩ := bad_false h
  have : ∀ k, takF L k = false → takF (remF L id) k = false := fun k hk => by
    rw [Bool.eq_false_iff]
    intro e
    obtain ⟨x, hx, hh⟩ := List.any_eq_true.1 e
    have : takF L k = true := List.any_eq_true.2 ⟨x, (List.mem_filter.1 hx).1, hh⟩
    rw [hk] at this; cases this
  unfold badF
  rw [this _ b2, this _ b3]
  simpa using b1
theorem add_good {L : List Fl} (g : GoodF L) {f : Fl} (hf : FlOk f) : GoodF (addF L f).L := by
  unfold addF
  split
  · exact g
  · rename_i hb
    have hb : badF L f = false := by simpa using hb
    split
    · rename_i hl
      exact ins_good g hl hb hf
    · split
      · exact g
      · rename_i x hx
        have hm := (weak_mem hx).1
        have := rem_len g hm
        have := g.ln
        exact ins_good (rem_good g _) (by omega) (bad_rem hb _) hf
end Go.Proofs.Ytdgodndaaenafaa
