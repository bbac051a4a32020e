/- slices.IndexFunc at rows; by-name template. -/
import Derived.Test.YtomennaekjklbaaKPl
import Derived.Test.YtomennaekjklbaaShelf2
import Derived.Lib.SliceRun
import Derived.Deep.LoopGhost
namespace Go.Proofs.Ytomennaekjklbaa
open Go.Shelf Go.RowKit Go.Lib
set_option linter.unusedVariables false
set_option linter.unusedSimpArgs false

instance : Inhabited EN := ⟨⟨fun _ => zr4, 0⟩⟩
/-- The place of the first that has p; -1: none. -/
def pl {α : Type} [Inhabited α] (p : α → Bool) (l : List α) : Int := Lib.idxBy (fun _ y => p y) l default

theorem pl_congr {α : Type} [Inhabited α] {p q : α → Bool} {l : List α} (h : ∀ x ∈ l, p x = q x) : pl p l = pl q l := by
  unfold pl Lib.idxBy
  suffices ∀ (l : List α) i, (∀ x ∈ l, p x = q x) → Lib.idxByFrom (fun _ y => p y) default l i = Lib.idxByFrom (fun _ y => q y) default l i from this l 0 h
  intro l
  induction l with
  | nil => intros; rfl
  | cons x r ih =>
    intro i h
    have e := ih (i + 1) (fun y hy => h y (by simp [hy]))
    have hx := h x (by simp)
    cases hp : p x with
    | true => rw [hp] at hx; simp [Lib.idxByFrom, hp, ← hx]
    | false => rw [hp] at hx; simpa [Lib.idxByFrom, hp, ← hx] using e

/-- A place, told by what it is. -/
theorem pl_cases {α : Type} [Inhabited α] (p : α → Bool) (l : List α) :
    (pl p l = -1 ∧ ∀ (j : Nat) (x : α), l[j]? = some x → p x = false) ∨ (∃ (k : Nat) (x : α), l[k]? = some x ∧ pl p l = (k : Int) ∧ p x = true ∧ ∀ (j : Nat) (y : α), j < k → l[j]? = some y → p y = false) := by
  unfold pl Lib.idxBy
  suffices ∀ (l : List α) i, (Lib.idxByFrom (fun _ y => p y) default l i = -1 ∧ ∀ (j : Nat) (x : α), l[j]? = some x → p x = false) ∨ (∃ (k : Nat) (x : α), l[k]? = some x ∧ Lib.idxByFrom (fun _ y => p y) default l i = ((i + k : Nat) : Int) ∧ p x = true ∧ ∀ (j : Nat) (y : α), j < k → l[j]? = some y → p y = false) by
    rcases this l 0 with h | ⟨k, x, h0, h1, h2, h3⟩
    · exact .inl h
    · exact .inr ⟨k, x, h0, by simpa using h1, h2, h3⟩
  intro l
  induction l with
  | nil => intro i; left; exact ⟨rfl, fun j x h => by simp at h⟩
  | cons x r ih =>
    intro i
    cases hp : p x with
    | true => right; exact ⟨0, x, rfl, by simp [Lib.idxByFrom, hp], hp, fun j y hj => absurd hj (Nat.not_lt_zero _)⟩
    | false =>
      simp only [Lib.idxByFrom, hp]
      rcases ih (i + 1) with ⟨h0, h1⟩ | ⟨k, y, h0, h1, h2, h3⟩
      · left
        refine ⟨by simpa using h0, fun j z hj => ?_⟩
        cases j with
        | zero => simp at hj; subst hj; exact hp
        | succ j => exact h1 j z (by simpa using hj)
      · right
        refine ⟨k + 1, y, by simpa using h0, ?_, h2, fun j z hj hz => ?_⟩
        · simp only [Bool.false_eq_true, if_false, h1]
          omega
        · cases j with
          | zero => simp at hz; subst hz; exact hp
          | succ j => exact h3 j z (by omega) (by simpa using hz)

/-- A place is just what it should be: for the document's loops. -/
theorem pl_hit {α : Type} [Inhabited α] {p : α → Bool} {l : List α} {k : Nat} {x : α} (h : l[k]? = some x) (hp : p x = true) (hn : ∀ (j : Nat) (y : α), j < k → l[j]? = some y → p y = false) : pl p l = (k : Int) := by
  rcases pl_cases p l with ⟨_, h1⟩ | ⟨k', x', h0, h1, h2, h3⟩
  · rw [h1 k x h] at hp; exact absurd hp (by simp)
  · rw [h1]
    rcases Nat.lt_trichotomy k' k with hk | hk | hk
    · rw [hn k' x' hk h0] at h2; exact absurd h2 (by simp)
    · rw [hk]
    · rw [h3 k x hk h] at hp; exact absurd hp (by simp)
theorem pl_miss {α : Type} [Inhabited α] {p : α → Bool} {l : List α} (h : ∀ (j : Nat) (x : α), l[j]? = some x → p x = false) : pl p l = -1 := by
  rcases pl_cases p l with ⟨h0, _⟩ | ⟨k, x, h0, _, h2, _⟩
  · exact h0
  · rw [h k x h0] at h2; exact absurd h2 (by simp)
theorem pl_lt {α : Type} [Inhabited α] (p : α → Bool) (l : List α) : -1 ≤ pl p l ∧ pl p l < l.length := by
  rcases pl_cases p l with ⟨h0, _⟩ | ⟨k, x, h0, h1, _⟩
  · omega
  · have := (List.getElem?_eq_some_iff.1 h0).1; omega

section
variable {P : Program} {ρ : Ren} {α : Type} [Inhabited α]

set_option maxHeartbeats 2000000 in
theorem idx_empty (L : SlLaysH0.n6 P ρ) (A : Option Addr) (c : Nat) (f : Value) (w : World) :
    Calls P (ρ.f 6) #[.slice A 0 c, f] w fun e w' => e = .returned (.int .i64 (-1)) ∧ w = w' := by
  have mixed := L.mixed; have t0 := L.t0; have a0 := L.a0; have z0 := L.z0; have v0 := L.v0; have t3 := L.t3; have a3 := L.a3; have z3 := L.z3; have v3 := L.v3; have t4 := L.t4; have a4 := L.a4; have z4 := L.z4; have v4 := L.v4; have t22 := L.t22; have a22 := L.a22; have z22 := L.z22; have v22 := L.v22; have t25 := L.t25; have a25 := L.a25; have z25 := L.z25; have v25 := L.v25
  obtain ⟨_, _, FG⟩ := L.f6
  go_enter FG, SlBodyH.n6_ntmps ρ
  go_wp2
  refine wp_loop_rounds 1 ?_
  rw [rounds_succ]
  go_wp2
  go_ret
  exact ⟨rfl, rfl⟩

open Classical in
/-- slices.IndexFunc at rows: the predicate is asked of the rows alone. -/
theorem idx_rows (L : SlLaysH0.n6 P ρ) {k : Nat} (aE : ∀ w, (isAgg (ρ.t 23)).run P w = .ok true w) (zE : ∀ w, (Go.sizeOf (ρ.t 23)).run P w = .ok k w) (enc : α → List Value) (hk : ∀ x, (enc x).length = k)
    (p : α → Bool) (g : Nat) (lb : Array Value) (eg : ∀ args w, (callFunc g args).run P w = .ok (.enter g args) w) (A : Option Addr) (n c : Nat) (l : List α) (w : World)
    (hp : ∀ W x, x ∈ l → Below w.heap.size w W → Calls P g (#[.agg (enc x).toArray] ++ lb) W fun e w' => e = .returned (.bool (p x)) ∧ Below W.heap.size W w') (hS : Sl w k enc A n l) :
    Calls P (ρ.f 6) #[.slice A n c, .func (.func g) #[] lb] w fun e w' => e = .returned (.int .i64 (pl p l)) ∧ Below w.heap.size w w' := by
  by_cases h0 : n = 0
  · subst h0
    obtain rfl : l = [] := List.eq_nil_of_length_eq_zero hS.len
    exact (idx_empty L A c _ w).mono fun e w' ⟨he, hw⟩ => ⟨he, by rw [hw]; exact Below.refl _ _⟩
  · obtain ⟨b, off, hA, hlt, hc⟩ := hS.row (by omega)
    subst hA
    have hne : l ≠ [] := by intro h; have := hS.len; rw [h] at this; simp at this; omega
    let d : α := l.head hne
    let san : α → α := fun x => if x ∈ l then x else d
    have hsan : ∀ x, san x ∈ l := fun x => by
      show (if x ∈ l then x else d) ∈ l
      split
      · assumption
      · exact List.head_mem hne
    have hid : ∀ x ∈ l, san x = x := fun x hx => if_pos hx
    have H := AnyQ.slices_IndexFunc L k aE zE (fun x => enc (san x)) (fun x => hk _) (fun x => p (san x)) g lb eg b off n c l w
      (fun W x hb => (hp W (san x) (hsan x) hb).mono fun e w' ⟨he, hb'⟩ => ⟨he, hb.trans (hb'.mono hb.size)⟩) (by rw [hS.len]; exact Nat.le_refl _) (by have := hS.big; omega) hlt
      (fun j hj i v hi => by
        have hg : l[j]? = some l[j]! := by rw [List.getElem!_eq_getElem?_getD, List.getElem?_eq_getElem hj]; rfl
        refine hc j _ hg i v ?_
        have : san l[j]! = l[j]! := hid _ (List.mem_of_getElem? hg)
        simp only [this] at hi
        exact hi)
    refine H.mono fun e w' ⟨he, hb⟩ => ⟨?_, hb⟩
    rw [he, List.take_of_length_le (by rw [hS.len]; exact Nat.le_refl _)]
    congr 2
    exact pl_congr fun x hx => by rw [hid x hx]
end
theorem pl_len {α : Type} [Inhabited α] (p : α → Bool) (l : List α) : pl p l < l.length ∧ -1 ≤ pl p l := by
  rcases pl_cases p l with ⟨h, _⟩ | ⟨k, x, h0, h1, _, _⟩
  · rw [h]; omega
  · rw [h1]; have := (List.getElem?_eq_some_iff.1 h0).1; omega
/-- Cut behind the place. -/
theorem pl_cut (b : Nat → R4) (l : List EN) : (if 0 ≤ pl (fun x : EN => cvB x.bx b) l then l.take ((pl (fun x : EN => cvB x.bx b) l).toNat + 1) else l) = cutC b l := by
  unfold cutC
  rcases pl_cases (fun x : EN => cvB x.bx b) l with ⟨h, hn⟩ | ⟨k, x, h0, h1, h2, h3⟩
  · rw [h, if_neg (by decide)]
    have : l.findIdx (fun x => cvB x.bx b) = l.length := by
      rw [List.findIdx_eq_length]
      intro x hx
      obtain ⟨j, hj, hjx⟩ := List.getElem_of_mem hx
      exact hn j x (by rw [List.getElem?_eq_getElem hj, hjx])
    rw [this, List.take_of_length_le (by omega)]
  · rw [h1, if_pos (by omega), Int.toNat_natCast]
    have hk := (List.getElem?_eq_some_iff.1 h0)
    obtain ⟨hk, hkx⟩ := hk
    have : l.findIdx (fun x => cvB x.bx b) = k := by
      rw [List.findIdx_eq hk]
      refine ⟨by rw [hkx]; exact h2, fun j hj => ?_⟩
      have := h3 j _ hj (List.getElem?_eq_getElem (by omega))
      simpa using this
    rw [this]
theorem li_any (p : EN → Bool) (g : Nat) (lb : Array Value) (eg : ∀ args w, (callFunc g args).run Try.prog w = .ok (.enter g args) w) (A : Option Addr) (n c : Nat) (l : List EN) (w : World)
    (hp : ∀ W x, x ∈ l → Below w.heap.size w W → Calls Try.prog g (#[.agg (enA x)] ++ lb) W fun e w' => e = .returned (.bool (p x)) ∧ Below W.heap.size W w') (hS : Sl w 25 enc25 A n l) :
    Calls Try.prog 49 #[.slice A n c, .func (.func g) #[] lb] w fun e w' => e = .returned (.int .i64 (pl p l)) ∧ Below w.heap.size w w' :=
  idx_rows Try.li_en Try.isAgg32 Try.sizeOf32 enc25 en25_len p g lb eg A n c l w hp hS
end Go.Proofs.Ytomennaekjklbaa
