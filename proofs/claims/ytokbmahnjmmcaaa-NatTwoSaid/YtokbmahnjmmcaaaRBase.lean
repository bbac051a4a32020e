/- Configurations as plain records, slices of rows, places; by-name template. -/
import Derived.Test.YtokbmahnjmmcaaaNaB
import Derived.Test.YtokbmahnjmmcaaaShelf
import Derived.Lib.SliceRun
import Derived.Deep.LoopGhost
namespace Go.Proofs.Ytokbmahnjmmcaaa
open Go.Shelf Go.RowKit Go.Lib
set_option linter.unusedVariables false
set_option linter.unusedSimpArgs false

theorem cells2 {w : World} {B : Nat} {x y : Value} {t : TypeId} (h : w.heap[B]? = some (.cells #[x, y] t (0, 0))) : w.cell? ⟨B, 0, none⟩ = some x ∧ w.cell? ⟨B, 1, none⟩ = some y ∧ w.frozen? ⟨B, 0, none⟩ = false ∧ w.frozen? ⟨B, 1, none⟩ = false := by
  refine ⟨?_, ?_, ?_, ?_⟩ <;> simp [World.cell?, World.frozen?, h]
theorem heap_set2 {w : World} {B : Nat} {x y : Value} {t : TypeId} {fz : Nat × Nat} (h : w.heap[B]? = some (.cells #[x, y] t fz)) (a b : Value) :
    ((w.setCell ⟨B, 0, none⟩ a).setCell ⟨B, 1, none⟩ b).heap[B]? = some (.cells #[a, b] t fz) := by
  simp [World.setCell, Array.getElem?_modify, h]

structure R4 where
  fh : Int
  fl : Int
  th : Int
  tl : Int
  deriving Inhabited
def r4c (r : R4) : List Value := [.int .u64 r.fh, .int .u64 r.fl, .int .u64 r.th, .int .u64 r.tl]
structure ZR where
  nm : ByteArray
  ah : Int
  al : Int
  ia : Option Addr
  il : Nat
  ic : Nat
  ifs : List Int
instance : Inhabited ZR := ⟨⟨ByteArray.empty, 0, 0, none, 0, 0, []⟩⟩
def zrc (z : ZR) : List Value := [.string z.nm, .int .u64 z.ah, .int .u64 z.al, .slice z.ia z.il z.ic]
structure OR where
  nm : ByteArray
  ra : Option Addr
  rl : Nat
  rc : Nat
  rs : List R4
instance : Inhabited OR := ⟨⟨ByteArray.empty, none, 0, 0, []⟩⟩
def orc (o : OR) : List Value := [.string o.nm, .slice o.ra o.rl o.rc]
structure SR where
  nm : ByteArray
  proto : Int
  frm : Int
  til : Int
instance : Inhabited SR := ⟨⟨ByteArray.empty, 0, 0, 0⟩⟩
def src (s : SR) : List Value := [.string s.nm, .int .i64 s.proto, .int .i64 s.frm, .int .i64 s.til]
structure LR where
  nm : ByteArray
  rate : Int
  burst : Int
  sg : Bool
instance : Inhabited LR := ⟨⟨ByteArray.empty, 0, 0, false⟩⟩
def lrc (s : LR) : List Value := [.string s.nm, .int .i64 s.rate, .int .i64 s.burst, .bool s.sg]
structure TR where
  r : R4
  bits : Int
  ifc : Int
  deriving Inhabited
def trc (t : TR) : List Value := [.int .u64 t.r.fh, .int .u64 t.r.fl, .int .u64 t.r.th, .int .u64 t.r.tl, .int .i64 t.bits, .int .i64 t.ifc]
structure NR where
  kind : Int
  zn : ByteArray
  ob : ByteArray
  sv : ByteArray
  oh : Int
  ol : Int
  ih : Int
  il : Int
  frm : Int
  til : Int
instance : Inhabited NR := ⟨⟨0, ByteArray.empty, ByteArray.empty, ByteArray.empty, 0, 0, 0, 0, 0, 0⟩⟩
def nrc (n : NR) : List Value := [.int .i64 n.kind, .string n.zn, .string n.ob, .string n.sv, .int .u64 n.oh, .int .u64 n.ol, .int .u64 n.ih, .int .u64 n.il, .int .i64 n.frm, .int .i64 n.til]
structure UR where
  inz : ByteArray
  out : ByteArray
  src : ByteArray
  dst : ByteArray
  svc : ByteArray
  act : Int
  lim : ByteArray
  proxy : Bool
instance : Inhabited UR := ⟨⟨ByteArray.empty, ByteArray.empty, ByteArray.empty, ByteArray.empty, ByteArray.empty, 0, ByteArray.empty, false⟩⟩
def urc (u : UR) : List Value := [.string u.inz, .string u.out, .string u.src, .string u.dst, .string u.svc, .int .i64 u.act, .string u.lim, .bool u.proxy]
/-- A slice of rows of k cells. -/
structure Sl {α : Type} (w : World) (k : Nat) (enc : α → List Value) (A : Option Addr) (n : Nat) (l : List α) : Prop where
  len : l.length = n
  big : n ≤ 9223372036854775807
  row : 0 < n → ∃ b off, A = some ⟨b, off, none⟩ ∧ b < w.heap.size ∧ ∀ j x, l[j]? = some x → ∀ i v, (enc x)[i]? = some v → w.cell? ⟨b, off + j * k + i, none⟩ = some v

theorem Sl.keep {α : Type} {w w' : World} {k : Nat} {enc : α → List Value} {A : Option Addr} {n : Nat} {l : List α} (h : Sl w k enc A n l) (hb : Below w.heap.size w w') : Sl w' k enc A n l :=
  ⟨h.len, h.big, fun hn => by
    obtain ⟨b, off, hA, hlt, hc⟩ := h.row hn
    exact ⟨b, off, hA, Nat.lt_of_lt_of_le hlt hb.size, fun j x hj i v hi => keepc hb (hc j x hj i v hi)⟩⟩

structure CF where
  zA : Option Addr
  zn : Nat
  zc : Nat
  zs : List ZR
  oA : Option Addr
  on : Nat
  oc : Nat
  os : List OR
  sA : Option Addr
  sn : Nat
  sc : Nat
  ss : List SR
  lA : Option Addr
  ln : Nat
  lc : Nat
  ls : List LR
  tA : Option Addr
  tn : Nat
  tc : Nat
  ts : List TR
  nA : Option Addr
  nn : Nat
  nc : Nat
  ns : List NR
  uA : Option Addr
  un : Nat
  uc : Nat
  us : List UR
  dflt : Int
def cfc (c : CF) : Array Value := #[.slice c.zA c.zn c.zc, .slice c.oA c.on c.oc, .slice c.sA c.sn c.sc, .slice c.lA c.ln c.lc, .slice c.tA c.tn c.tc, .slice c.nA c.nn c.nc, .slice c.uA c.un c.uc, .int .i64 c.dflt]

structure CF.Ok (w : World) (c : CF) : Prop where
  z : Sl w 4 zrc c.zA c.zn c.zs
  o : Sl w 2 orc c.oA c.on c.os
  s : Sl w 4 src c.sA c.sn c.ss
  l : Sl w 4 lrc c.lA c.ln c.ls
  t : Sl w 6 trc c.tA c.tn c.ts
  n : Sl w 10 nrc c.nA c.nn c.ns
  u : Sl w 8 urc c.uA c.un c.us
  zi : ∀ z ∈ c.zs, Sl w 1 (fun x : Int => [Value.int .i64 x]) z.ia z.il z.ifs
  oi : ∀ o ∈ c.os, Sl w 4 r4c o.ra o.rl o.rs
  nw : ∀ n ∈ c.ns, Word n.oh ∧ Word n.ol
  nx : ∀ n ∈ c.ns, (Word n.ih ∧ Word n.il) ∧ i64ok n.frm ∧ i64ok n.til
  zw : ∀ z ∈ c.zs, Word z.ah ∧ Word z.al

theorem CF.Ok.keep {w w' : World} {c : CF} (h : c.Ok w) (hb : Below w.heap.size w w') : c.Ok w' :=
  ⟨h.z.keep hb, h.o.keep hb, h.s.keep hb, h.l.keep hb, h.t.keep hb, h.n.keep hb, h.u.keep hb, fun z hz => (h.zi z hz).keep hb, fun o ho => (h.oi o ho).keep hb, h.nw, h.nx, h.zw⟩

/-- The place of the first that has p; -1: none. -/
def pl {α : Type} [Inhabited α] (p : α → Bool) (l : List α) : Int := Lib.idxBy (fun _ y => p y) l default

theorem pl_congr {α : Type} [Inhabited α] {p q : α → Bool} {l : List α} (h : ∀ x ∈ l, p x = q x) : pl p l = pl q l := by
  unfold pl Lib.idxBy
  suffices ∀ (l : List α) i, (∀ x ∈ l, p x = q x) → Lib.idxByFrom (fun _ y => p y) default l i = Lib.idxByFrom (fun _ y => q y) default l i from this l 0 h
  intro l
  induction l with
  | nil => intros; rfl
  | cons x r ih =>
    intro i h
    have e := ih (i + 1) (fun y hy => h y (by simp [hy]))
    have hx := h x (by simp)
    cases hp : p x with
    | true => rw [hp] at hx; simp [Lib.idxByFrom, hp, ← hx]
    | false => rw [hp] at hx; simpa [Lib.idxByFrom, hp, ← hx] using e

/-- A place, told by what it is. -/
theorem pl_cases {α : Type} [Inhabited α] (p : α → Bool) (l : List α) :
    (pl p l = -1 ∧ ∀ (j : Nat) (x : α), l[j]? = some x → p x = false) ∨ (∃ (k : Nat) (x : α), l[k]? = some x ∧ pl p l = (k : Int) ∧ p x = true ∧ ∀ (j : Nat) (y : α), j < k → l[j]? = some y → p y = false) := by
  unfold pl Lib.idxBy
  suffices ∀ (l : List α) i, (Lib.idxByFrom (fun _ y => p y) default l i = -1 ∧ ∀ (j : Nat) (x : α), l[j]? = some x → p x = false) ∨ (∃ (k : Nat) (x : α), l[k]? = some x ∧ Lib.idxByFrom (fun _ y => p y) default l i = ((i + k : Nat) : Int) ∧ p x = true ∧ ∀ (j : Nat) (y : α), j < k → l[j]? = some y → p y = false) by
    rcases this l 0 with h | ⟨k, x, h0, h1, h2, h3⟩
    · exact .inl h
    · exact .inr ⟨k, x, h0, by simpa using h1, h2, h3⟩
  intro l
  induction l with
  | nil => intro i; left; exact ⟨rfl, fun j x h => by simp at h⟩
  | cons x r ih =>
    intro i
    cases hp : p x with
    | true => right; exact ⟨0, x, rfl, by simp [Lib.idxByFrom, hp], hp, fun j y hj => absurd hj (Nat.not_lt_zero _)⟩
    | false =>
      simp only [Lib.idxByFrom, hp]
      rcases ih (i + 1) with ⟨h0, h1⟩ | ⟨k, y, h0, h1, h2, h3⟩
      · left
        refine ⟨by simpa using h0, fun j z hj => ?_⟩
        cases j with
        | zero => simp at hj; subst hj; exact hp
        | succ j => exact h1 j z (by simpa using hj)
      · right
        refine ⟨k + 1, y, by simpa using h0, ?_, h2, fun j z hj hz => ?_⟩
        · simp only [Bool.false_eq_true, if_false, h1]
          omega
        · cases j with
          | zero => simp at hz; subst hz; exact hp
          | succ j => exact h3 j z (by omega) (by simpa using hz)

/-- A place is just what it should be: for the document's loops. -/
theorem pl_hit {α : Type} [Inhabited α] {p : α → Bool} {l : List α} {k : Nat} {x : α} (h : l[k]? = some x) (hp : p x = true) (hn : ∀ (j : Nat) (y : α), j < k → l[j]? = some y → p y = false) : pl p l = (k : Int) := by
  rcases pl_cases p l with ⟨_, h1⟩ | ⟨k', x', h0, h1, h2, h3⟩
  · rw [h1 k x h] at hp; exact absurd hp (by simp)
  · rw [h1]
    rcases Nat.lt_trichotomy k' k with hk | hk | hk
    · rw [hn k' x' hk h0] at h2; exact absurd h2 (by simp)
    · rw [hk]
    · rw [h3 k x hk h] at hp; exact absurd hp (by simp)
theorem pl_miss {α : Type} [Inhabited α] {p : α → Bool} {l : List α} (h : ∀ (j : Nat) (x : α), l[j]? = some x → p x = false) : pl p l = -1 := by
  rcases pl_cases p l with ⟨h0, _⟩ | ⟨k, x, h0, _, h2, _⟩
  · exact h0
  · rw [h k x h0] at h2; exact absurd h2 (by simp)
theorem pl_lt {α : Type} [Inhabited α] (p : α → Bool) (l : List α) : -1 ≤ pl p l ∧ pl p l < l.length := by
  rcases pl_cases p l with ⟨h0, _⟩ | ⟨k, x, h0, h1, _⟩
  · omega
  · have := (List.getElem?_eq_some_iff.1 h0).1; omega

section
variable {P : Program} {ρ : Ren} {α : Type} [Inhabited α]

set_option maxHeartbeats 2000000 in
theorem idx_empty (L : SlLaysH0.n6 P ρ) (A : Option Addr) (c : Nat) (f : Value) (w : World) :
    Calls P (ρ.f 6) #[.slice A 0 c, f] w fun e w' => e = .returned (.int .i64 (-1)) ∧ w = w' := by
  have mixed := L.mixed; have t0 := L.t0; have a0 := L.a0; have z0 := L.z0; have v0 := L.v0; have t3 := L.t3; have a3 := L.a3; have z3 := L.z3; have v3 := L.v3; have t4 := L.t4; have a4 := L.a4; have z4 := L.z4; have v4 := L.v4; have t22 := L.t22; have a22 := L.a22; have z22 := L.z22; have v22 := L.v22; have t25 := L.t25; have a25 := L.a25; have z25 := L.z25; have v25 := L.v25
  obtain ⟨_, _, FG⟩ := L.f6
  go_enter FG, SlBodyH.n6_ntmps ρ
  go_wp2
  refine wp_loop_rounds 1 ?_
  rw [rounds_succ]
  go_wp2
  go_ret
  exact ⟨rfl, rfl⟩

open Classical in
/-- slices.IndexFunc at rows: the predicate is asked of the rows alone. -/
theorem idx_rows (L : SlLaysH0.n6 P ρ) {k : Nat} (aE : ∀ w, (isAgg (ρ.t 23)).run P w = .ok true w) (zE : ∀ w, (Go.sizeOf (ρ.t 23)).run P w = .ok k w) (enc : α → List Value) (hk : ∀ x, (enc x).length = k)
    (p : α → Bool) (g : Nat) (lb : Array Value) (eg : ∀ args w, (callFunc g args).run P w = .ok (.enter g args) w) (A : Option Addr) (n c : Nat) (l : List α) (w : World)
    (hp : ∀ W x, x ∈ l → Below w.heap.size w W → Calls P g (#[.agg (enc x).toArray] ++ lb) W fun e w' => e = .returned (.bool (p x)) ∧ Below W.heap.size W w') (hS : Sl w k enc A n l) :
    Calls P (ρ.f 6) #[.slice A n c, .func (.func g) #[] lb] w fun e w' => e = .returned (.int .i64 (pl p l)) ∧ Below w.heap.size w w' := by
  by_cases h0 : n = 0
  · subst h0
    obtain rfl : l = [] := List.eq_nil_of_length_eq_zero hS.len
    exact (idx_empty L A c _ w).mono fun e w' ⟨he, hw⟩ => ⟨he, by rw [hw]; exact Below.refl _ _⟩
  · obtain ⟨b, off, hA, hlt, hc⟩ := hS.row (by omega)
    subst hA
    have hne : l ≠ [] := by intro h; have := hS.len; rw [h] at this; simp at this; omega
    let d : α := l.head hne
    let san : α → α := fun x => if x ∈ l then x else d
    have hsan : ∀ x, san x ∈ l := fun x => by
      show (if x ∈ l then x else d) ∈ l
      split
      · assumption
      · exact List.head_mem hne
    have hid : ∀ x ∈ l, san x = x := fun x hx => if_pos hx
    have H := AnyQ.slices_IndexFunc L k aE zE (fun x => enc (san x)) (fun x => hk _) (fun x => p (san x)) g lb eg b off n c l w
      (fun W x hb => (hp W (san x) (hsan x) hb).mono fun e w' ⟨he, hb'⟩ => ⟨he, hb.trans (hb'.mono hb.size)⟩) (by rw [hS.len]; exact Nat.le_refl _) (by have := hS.big; omega) hlt
      (fun j hj i v hi => by
        have hg : l[j]? = some l[j]! := by rw [List.getElem!_eq_getElem?_getD, List.getElem?_eq_getElem hj]; rfl
        refine hc j _ hg i v ?_
        have : san l[j]! = l[j]! := hid _ (List.mem_of_getElem? hg)
        simp only [this] at hi
        exact hi)
    refine H.mono fun e w' ⟨he, hb⟩ => ⟨?_, hb⟩
    rw [he, List.take_of_length_le (by rw [hS.len]; exact Nat.le_refl _)]
    congr 2
    exact pl_congr fun x hx => by rw [hid x hx]

open Classical in
/-- slices.ContainsFunc at rows. -/
theorem has_rows (L : SlLaysH0.n8 P ρ) {k : Nat} (aE : ∀ w, (isAgg (ρ.t 23)).run P w = .ok true w) (zE : ∀ w, (Go.sizeOf (ρ.t 23)).run P w = .ok k w) (enc : α → List Value) (hk : ∀ x, (enc x).length = k)
    (p : α → Bool) (g : Nat) (lb : Array Value) (eg : ∀ args w, (callFunc g args).run P w = .ok (.enter g args) w) (A : Option Addr) (n c : Nat) (l : List α) (w : World)
    (hp : ∀ W x, x ∈ l → Below w.heap.size w W → Calls P g (#[.agg (enc x).toArray] ++ lb) W fun e w' => e = .returned (.bool (p x)) ∧ Below W.heap.size W w') (hS : Sl w k enc A n l) :
    Calls P (ρ.f 8) #[.slice A n c, .func (.func g) #[] lb] w fun e w' => e = .returned (.bool (l.any p)) ∧ Below w.heap.size w w' := by
  by_cases h0 : n = 0
  · subst h0
    obtain rfl : l = [] := List.eq_nil_of_length_eq_zero hS.len
    have e6 : ∀ args w, (callFunc (ρ.f 6) args).run P w = .ok (.enter (ρ.f 6) args) w := L.f6.enters rfl
    have mixed := L.mixed; have t0 := L.t0; have a0 := L.a0; have z0 := L.z0; have v0 := L.v0; have t3 := L.t3; have a3 := L.a3; have z3 := L.z3; have v3 := L.v3; have t4 := L.t4; have a4 := L.a4; have z4 := L.z4; have v4 := L.v4; have t22 := L.t22; have a22 := L.a22; have z22 := L.z22; have v22 := L.v22; have t25 := L.t25; have a25 := L.a25; have z25 := L.z25; have v25 := L.v25
    obtain ⟨_, _, FG⟩ := L.f8
    go_enter FG, SlBodyH.n8_ntmps ρ
    go_wp2_with (go_at_fn (ρ.f 6); refine (idx_empty { L with } A c _ _).mono ?_; rintro e w' ⟨rfl, rfl⟩)
    go_ret
    exact ⟨by simp, Below.refl _ _⟩
  · obtain ⟨b, off, hA, hlt, hc⟩ := hS.row (by omega)
    subst hA
    have hne : l ≠ [] := by intro h; have := hS.len; rw [h] at this; simp at this; omega
    let d : α := l.head hne
    let san : α → α := fun x => if x ∈ l then x else d
    have hsan : ∀ x, san x ∈ l := fun x => by
      show (if x ∈ l then x else d) ∈ l
      split
      · assumption
      · exact List.head_mem hne
    have hid : ∀ x ∈ l, san x = x := fun x hx => if_pos hx
    have H := AnyQ.slices_ContainsFunc L k aE zE (fun x => enc (san x)) (fun x => hk _) (fun x => p (san x)) g lb eg b off n c l w
      (fun W x hb => (hp W (san x) (hsan x) hb).mono fun e w' ⟨he, hb'⟩ => ⟨he, hb.trans (hb'.mono hb.size)⟩) (by rw [hS.len]; exact Nat.le_refl _) (by have := hS.big; omega) hlt
      (fun j hj i v hi => by
        have hg : l[j]? = some l[j]! := by rw [List.getElem!_eq_getElem?_getD, List.getElem?_eq_getElem hj]; rfl
        refine hc j _ hg i v ?_
        have : san l[j]! = l[j]! := hid _ (List.mem_of_getElem? hg)
        simp only [this] at hi
        exact hi)
    refine H.mono fun e w' ⟨he, hb⟩ => ⟨?_, hb⟩
    rw [he, List.take_of_length_le (by rw [hS.len]; exact Nat.le_refl _)]
    congr 2
    rw [Bool.eq_iff_iff, List.any_eq_true, List.any_eq_true]
    exact ⟨fun ⟨x, hx, h⟩ => ⟨x, hx, by rw [hid x hx] at h; exact h⟩, fun ⟨x, hx, h⟩ => ⟨x, hx, by rw [hid x hx]; exact h⟩⟩
end
end Go.Proofs.Ytokbmahnjmmcaaa
