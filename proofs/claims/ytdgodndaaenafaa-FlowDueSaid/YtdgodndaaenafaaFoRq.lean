/- What the document's Due chooses, in plain words; by-name template. -/
import Derived.Test.YtdgodndaaenafaaFoRa
namespace Go.Proofs.Ytdgodndaaenafaa
set_option linter.unusedVariables false
set_option linter.unusedSimpArgs false

def dueS (now : Int) (b : Option Fl) (f : Fl) : Option Fl :=
  match b with
  | none => if f.en ≤ now then some f else none
  | some x => if f.en ≤ now ∧ f.en < x.en then some f else some x
def dueM (L : List Fl) (now : Int) : Option Fl := L.foldl (dueS now) none
def bestD (now : Int) (M : List Fl) (b : Option Fl) : Prop :=
  match b with
  | none => ∀ f ∈ M, ¬ f.en ≤ now
  | some x => x ∈ M ∧ x.en ≤ now ∧ ∀ f ∈ M, f.en ≤ now → x.en < f.en ∨ (x.en = f.en ∧ x.id ≤ f.id)
theorem best_step {now : Int} {M : List Fl} {b : Option Fl} {f : Fl} (h : bestD now M b) (hr : ∀ x ∈ M, x.id < f.id) : bestD now (M ++ [f]) (dueS now b f) := by
  cases b with
  | none =>
    have h : ∀ f ∈ M, ¬ f.en ≤ now := h
    unfold dueS
    by_cases hf : f.en ≤ now
    · simp only [hf, if_true]
      refine ⟨by simp, hf, fun g hg hn => ?_⟩
      rcases List.mem_append.1 hg with hg | hg
      · exact absurd hn (h g hg)
      · rw [List.mem_singleton.1 hg]; exact .inr ⟨rfl, Int.le_refl _⟩
    · simp only [hf, if_false]
      intro g hg
      rcases List.mem_append.1 hg with hg | hg
      · exact h g hg
      · rw [List.mem_singleton.1 hg]; exact hf
  | some x =>
    obtain ⟨h1, h2, h3⟩ : x ∈ M ∧ x.en ≤ now ∧ ∀ f ∈ M, f.en ≤ now → x.en < f.en ∨ (x.en = f.en ∧ x.id ≤ f.id) := h
    unfold dueS
    by_cases hf : f.en ≤ now ∧ f.en < x.en
    · simp only [hf, and_self, if_true]
      refine ⟨by simp, hf.1, fun g hg hn => ?_⟩
      rcases List.mem_append.1 hg with hg | hg
      · have := h3 g hg hn
        have := hf.2
        left; omega
      · rw [List.mem_singleton.1 hg]; exact .inr ⟨rfl, Int.le_refl _⟩
    · simp only [hf, if_false]
      refine ⟨List.mem_append.2 (.inl h1), h2, fun g hg hn => ?_⟩
      rcases List.mem_append.1 hg with hg | hg
      · exact h3 g hg hn
      · rw [List.mem_singleton.1 hg] at hn ⊢
        have := hr x h1
        by_cases e : x.en = f.en
        · exact .inr ⟨e, by omega⟩
        · left
          by_cases q : f.en < x.en
          · exact absurd ⟨hn, q⟩ hf
          · omega
theorem best_take {L : List Fl} (g : GoodF L) (now : Int) : ∀ i, i ≤ L.length → bestD now (L.take i) ((L.take i).foldl (dueS now) none)
  | 0, _ => by intro f hf; simp at hf
  | i + 1, hi => by
    have h := best_take g now i (by omega)
    have hx : L[i]? = some L[i] := List.getElem?_eq_getElem (by omega)
    have e : L.take (i + 1) = L.take i ++ [L[i]] := by rw [List.take_succ_eq_append_getElem (by omega)]
    rw [e, List.foldl_append]
    refine best_step h fun x hx => ?_
    obtain ⟨j, hj⟩ := List.getElem?_of_mem hx
    have hjl := (List.getElem?_eq_some_iff.1 hj).1
    rw [List.length_take] at hjl
    have := List.pairwise_iff_getElem.1 g.ris j i (by omega) (by omega) (by omega)
    rw [List.getElem?_take_of_lt (by omega)] at hj
    rw [(List.getElem?_eq_some_iff.1 hj).2] at this
    exact this
theorem best_all {L : List Fl} (g : GoodF L) (now : Int) : bestD now L (dueM L now) := by
  have := best_take g now L.length (Nat.le_refl _)
  rw [List.take_length] at this
  exact this
theorem remF_perm {L : List Fl} (g : GoodF L) {x : Fl} (hx : x ∈ L) : L.Perm (x :: remF L x.id) := by
  obtain ⟨k, hk⟩ := List.getElem?_of_mem hx
  have hl := (List.getElem?_eq_some_iff.1 hk).1
  have hv := (List.getElem?_eq_some_iff.1 hk).2
  rw [remF_cut g hl (by rw [hv])]
  have e : L = L.take k ++ L[k] :: L.drop (k + 1) := by
    conv => lhs; rw [← List.take_append_drop k L]
    rw [← List.drop_eq_getElem_cons hl]
  conv => lhs; rw [e, hv]
  exact List.perm_middle
theorem due_none {L : List Fl} (g : GoodF L) {now : Int} (h : dueM L now = none) : dueL L now = [] ∧ lefF L now = L := by
  have hb := best_all g now
  rw [h] at hb
  have hb : ∀ f ∈ L, ¬ f.en ≤ now := hb
  constructor
  · unfold dueL dueP
    cases hw : wL L with
    | nil => rfl
    | cons a t =>
      have ha : a ∈ wL L := by rw [hw]; simp
      obtain ⟨f, hf, he⟩ := List.mem_map.1 ((wL_perm L).subset ha)
      have : ¬ a.2 ≤ now := by rw [← he]; exact hb f hf
      rw [List.takeWhile_cons]
      simp [this]
  · unfold lefF
    refine List.filter_eq_self.2 fun f hf => ?_
    have := hb f hf
    simp; omega
theorem due_some {L : List Fl} (g : GoodF L) {now : Int} {x : Fl} (h : dueM L now = some x) : x ∈ L ∧ dueL L now = x.id :: dueL (remF L x.id) now ∧ lefF (remF L x.id) now = lefF L now := by
  have hb := best_all g now
  rw [h] at hb
  obtain ⟨h1, h2, h3⟩ : x ∈ L ∧ x.en ≤ now ∧ ∀ f ∈ L, f.en ≤ now → x.en < f.en ∨ (x.en = f.en ∧ x.id ≤ f.id) := hb
  refine ⟨h1, ?_, ?_⟩
  · have hr := wL_ris g.ris
    have hp := wL_perm L
    have hpx : (L.map Fl.me).Perm (x.me :: (remF L x.id).map Fl.me) := by
      have := (remF_perm g h1).map Fl.me
      simpa using this
    cases hw : wL L with
    | nil =>
      rw [hw] at hp
      have := (hp.trans hpx).length_eq
      simp at this
    | cons a t =>
      rw [hw] at hr hp
      have hr' := List.pairwise_cons.1 hr
      have ha : a = x.me := by
        obtain ⟨f, hf, he⟩ := List.mem_map.1 (hp.subset (List.mem_cons_self))
        have hxm : x.me ∈ a :: t := hp.symm.subset (List.mem_map.2 ⟨x, h1, rfl⟩)
        rcases List.mem_cons.1 hxm with e | e
        · exact e.symm
        · have hlt := hr'.1 _ e
          rw [← he] at hlt
          unfold LtK Fl.me at hlt
          simp only at hlt
          have := h3 f hf (by omega)
          omega
      subst ha
      have ht : t = wL (remF L x.id) := wL_eq (rem_good g _) hr'.2 ((hp.trans hpx).cons_inv)
      unfold dueL
      rw [hw, ← ht]
      unfold dueP
      rw [List.takeWhile_cons]
      have : x.me.2 ≤ now := h2
      simp only [this, decide_true, if_true, List.map_cons]
      rfl
  · unfold lefF remF
    rw [List.filter_filter]
    refine List.filter_congr fun f hf => ?_
    rw [Bool.eq_iff_iff]
    simp
    intro hn e
    have k1 := go_mem g hf
    have k2 := go_mem g h1
    rw [e, k2] at k1
    cases k1
    omega
end Go.Proofs.Ytdgodndaaenafaa
