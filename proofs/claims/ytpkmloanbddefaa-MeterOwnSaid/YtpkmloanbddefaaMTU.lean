/- Meters: Take of the program; by-name template. -/
import Derived.Test.YtpkmloanbddefaaMTT
namespace Go.Proofs.Ytpkmloanbddefaa
open Go.RowKit Go.Lib Go.Maps
set_option linter.unusedVariables false
set_option linter.unusedSimpArgs false

structure FAt (w : World) (S : Nat → Prop) (tk : Int) (F : List PE) : Prop where
  me : ∀ e ∈ F, w.heap[e.M]? = some (.cells #[.pointer (some ⟨e.B, 0, none⟩), .int .i64 e.a] 59 (0, 0))
  bk : ∀ e ∈ F, BkAt 67 w e.B e.D
  gd : ∀ e ∈ F, Good e.D
  ok : ∀ e ∈ F, SrcOk e.s
  ord : F.Pairwise (fun x y => x.a < y.a)
  age : ∀ e ∈ F, 1 ≤ e.a ∧ e.a ≤ tk
  uq : F.Pairwise (fun x y => x.s ≠ y.s ∧ x.M ≠ y.M ∧ x.B ≠ y.B)
  sS : ∀ e ∈ F, S e.M ∧ S e.B

theorem PAt.toF {w : World} {S : Nat → Prop} {r b tk : Int} {Bm Mp : Nat} {E F : List PE} (h : PAt w S r b tk Bm Mp E) (hs : F.Sublist E) : FAt w S tk F where
  me e he := h.me e (hs.subset he)
  bk e he := h.bk e (hs.subset he)
  gd e he := h.gd e (hs.subset he)
  ok e he := h.ok e (hs.subset he)
  ord := h.ord.sublist hs
  age e he := h.age e (hs.subset he)
  uq := h.uq.sublist hs
  sS e he := h.sS.2.2 e (hs.subset he)
theorem FAt.keep {w w' : World} {S S' : Nat → Prop} {tk : Int} {F : List PE} (h : FAt w S tk F) (hw : ∀ x ∈ F, w'.heap[x.M]? = w.heap[x.M]? ∧ w'.heap[x.B]? = w.heap[x.B]?) (hS : ∀ k, S k → S' k) : FAt w' S' tk F where
  me e he := (hw e he).1.trans (h.me e he)
  bk e he := (hw e he).2.trans (h.bk e he)
  gd := h.gd
  ok := h.ok
  ord := h.ord
  age := h.age
  uq := h.uq
  sS e he := ⟨hS _ (h.sS e he).1, hS _ (h.sS e he).2⟩

/-- All but the last, and the last one: asked just now. -/
theorem FAt.last {w : World} {S : Nat → Prop} {r b tk : Int} {Bm Mp : Nat} {F : List PE} (h : FAt w S tk F) {e : PE} (hm : w.heap[Bm]? = some (.cells #[.int .i64 r, .int .i64 b, .map (some Mp), .int .i64 (tk + 1)] 53 (0, 0)))
    (mp : MapIs w Mp (F ++ [e])) (me : w.heap[e.M]? = some (.cells #[.pointer (some ⟨e.B, 0, none⟩), .int .i64 e.a] 59 (0, 0))) (bk : BkAt 67 w e.B e.D) (gd : Good e.D) (ok : SrcOk e.s) (ea : e.a = tk + 1)
    (uq : ∀ x ∈ F, x.s ≠ e.s ∧ x.M ≠ e.M ∧ x.B ≠ e.B) (sB : S Bm) (sMp : S Mp) (sM : S e.M) (sBk : S e.B) (lt : ∀ k, S k → k < w.heap.size) (ln : (F ++ [e]).length ≤ 32) (t0 : 0 ≤ tk) : PAt w S r b (tk + 1) Bm Mp (F ++ [e]) := by
  have all : ∀ {Q : PE → Prop}, (∀ x ∈ F, Q x) → Q e → ∀ x ∈ F ++ [e], Q x := fun h1 h2 x hx => by
    rcases List.mem_append.1 hx with hx | hx
    · exact h1 x hx
    · obtain rfl : x = e := by simpa using hx
      exact h2
  exact {
    hm := hm
    mp := mp
    me := all h.me me
    bk := all h.bk bk
    gd := all h.gd gd
    ok := all h.ok ok
    ord := List.pairwise_append.2 ⟨h.ord, List.pairwise_singleton _ _, fun x hx y hy => by
      obtain rfl : y = e := by simpa using hy
      have := h.age x hx
      omega⟩
    age := all (fun x hx => by have := h.age x hx; omega) (by omega)
    uq := List.pairwise_append.2 ⟨h.uq, List.pairwise_singleton _ _, fun x hx y hy => by
      obtain rfl : y = e := by simpa using hy
      exact uq x hx⟩
    sS := ⟨sB, sMp, all h.sS ⟨sM, sBk⟩⟩
    lt := lt
    ln := ln
    t0 := by omega }

/-- The world in which the count of Takes, and when e was asked, are written; then e's bucket changes. -/
theorem touch {w w' : World} {Bm M B : Nat} {cs ds : Array Value} {D0 : BK} {u v : Value} (h1 : w.heap[Bm]? = some (.cells cs 53 (0, 0))) (h2 : w.heap[M]? = some (.cells ds 59 (0, 0))) (h3 : BkAt 67 w B D0)
    (ho : Off B ((w.setCell ⟨Bm, 3, none⟩ u).setCell ⟨M, 1, none⟩ v) w') :
    w'.heap[Bm]? = some (.cells (cs.setIfInBounds 3 u) 53 (0, 0)) ∧ w'.heap[M]? = some (.cells (ds.setIfInBounds 1 v) 59 (0, 0)) ∧ OffS (fun k => k = Bm ∨ k = M ∨ k = B) w w' := by
  have n1 : Bm ≠ M := ne_cells h1 h2 (by decide)
  have n2 : Bm ≠ B := ne_cells h1 h3 (by decide)
  have n3 : M ≠ B := ne_cells h2 h3 (by decide)
  have l1 := (Array.getElem?_eq_some_iff.1 h1).1
  have l2 := (Array.getElem?_eq_some_iff.1 h2).1
  have hs : ((w.setCell ⟨Bm, 3, none⟩ u).setCell ⟨M, 1, none⟩ v).heap.size = w.heap.size := by simp
  have g1 : ((w.setCell ⟨Bm, 3, none⟩ u).setCell ⟨M, 1, none⟩ v).heap[Bm]? = some (.cells (cs.setIfInBounds 3 u) 53 (0, 0)) := by
    rw [Below.heap_setCell _ _ _ _ n1]
    exact heap_set h1 3 u
  have g2 : ((w.setCell ⟨Bm, 3, none⟩ u).setCell ⟨M, 1, none⟩ v).heap[M]? = some (.cells (ds.setIfInBounds 1 v) 59 (0, 0)) := by
    refine heap_set ?_ 1 v
    rw [Below.heap_setCell _ _ _ _ (Ne.symm n1)]
    exact h2
  refine ⟨(ho.block _ (by rw [hs]; exact l1) n2).trans g1, (ho.block _ (by rw [hs]; exact l2) n3).trans g2, ?_⟩
  have o1 : OffS (fun k => k = Bm ∨ k = M ∨ k = B) w ((w.setCell ⟨Bm, 3, none⟩ u).setCell ⟨M, 1, none⟩ v) :=
    (((Off.refl Bm w).set 3 u).toS (.inl (.inl rfl))).trans (((Off.refl M _).set 1 v).toS (.inl (.inr (.inl rfl))))
  exact o1.trans (ho.toS (.inl (.inr (.inr rfl))))

theorem MapIs.perm {w : World} {Mp : Nat} {E E' : List PE} (h : MapIs w Mp E) (hl : E'.length = E.length) (ha : ∀ s, E'.any (fun e => e.s == s) = E.any (fun e => e.s == s)) (hm : ∀ x ∈ E', ∃ y ∈ E, y.s = x.s ∧ y.M = x.M) : MapIs w Mp E' := by
  obtain ⟨D, h1, h2, h3, h4⟩ := h
  refine ⟨D, by rw [hl]; exact h1, fun s hs => by rw [ha]; exact h2 s hs, fun x hx zd => ?_, by rw [hl]; exact h4⟩
  obtain ⟨y, hy, e1, e2⟩ := hm x hx
  rw [← e1, ← e2]
  exact h3 y hy zd

theorem PAt.touch {w w' : World} {S : Nat → Prop} {r b tk : Int} {Bm Mp : Nat} {E : List PE} (h : PAt w S r b tk Bm Mp E) {i : Nat} {e : PE} (hi : E[i]? = some e) {D' : BK} (gD : Good D') (hb : BkAt 67 w' e.B D')
    (ho : Off e.B ((w.setCell ⟨Bm, 3, none⟩ (.int .i64 (tk + 1))).setCell ⟨e.M, 1, none⟩ (.int .i64 (tk + 1))) w') :
    PAt w' S r b (tk + 1) Bm Mp (E.eraseIdx i ++ [{ e with a := tk + 1, D := D' }]) ∧ OffS S w w' := by
  have he := List.mem_of_getElem? hi
  have hil := (List.getElem?_eq_some_iff.1 hi).1
  obtain ⟨t1, t2, t3⟩ := Go.Proofs.Ytpkmloanbddefaa.touch h.hm (h.me e he) (h.bk e he) ho
  have hd := fun x hx => mem_drop h.uq hi (x := x) hx
  have hkeep : ∀ x ∈ E.eraseIdx i, w'.heap[x.M]? = w.heap[x.M]? ∧ w'.heap[x.B]? = w.heap[x.B]? := fun x hx => by
    have q := hd x hx
    have m := h.me x q.1
    have k := h.bk x q.1
    refine ⟨t3.block _ (Array.getElem?_eq_some_iff.1 m).1 ?_, t3.block _ k.lt ?_⟩
    · rintro (e1 | e1 | e1)
      · exact ne_cells m h.hm (by decide) e1
      · exact q.2.2.1 e1
      · exact ne_cells m (h.bk e he) (by decide) e1
    · rintro (e1 | e1 | e1)
      · exact ne_cells k h.hm (by decide) e1
      · exact ne_cells k (h.me e he) (by decide) e1
      · exact q.2.2.2 e1
  have hlen : (E.eraseIdx i ++ [{ e with a := tk + 1, D := D' }]).length = E.length := by rw [List.length_append, List.length_eraseIdx, if_pos hil]; simp; omega
  have hmpk : w'.heap[Mp]? = w.heap[Mp]? := by
    obtain ⟨D, ⟨es, clock, hmp, _⟩, _⟩ := h.mp
    refine t3.block _ (Array.getElem?_eq_some_iff.1 hmp).1 ?_
    rintro (e1 | e1 | e1)
    · rw [e1, h.hm] at hmp; cases hmp
    · rw [e1, h.me e he] at hmp; cases hmp
    · have k := h.bk e he
      unfold BkAt at k
      rw [e1, k] at hmp; cases hmp
  refine ⟨((h.toF (List.eraseIdx_sublist E i)).keep hkeep (fun k hk => hk)).last (e := { e with a := tk + 1, D := D' }) (by rw [t1]; rfl) ((h.mp.keep hmpk).perm hlen (fun s => ?_) (fun x hx => ?_)) (by rw [t2]; rfl) hb gD (h.ok e he) rfl (fun x hx => (hd x hx).2)
    h.sS.1 h.sS.2.1 (h.sS.2.2 e he).1 (h.sS.2.2 e he).2 (fun k hk => Nat.lt_of_lt_of_le (h.lt k hk) t3.size) (by rw [hlen]; exact h.ln) h.t0, t3.mono (fun k _ hk => ?_)⟩
  · rw [List.any_append, any_drop hi s]; simp
  · rcases List.mem_append.1 hx with hx | hx
    · exact ⟨x, (hd x hx).1, rfl, rfl⟩
    · obtain rfl : x = { e with a := tk + 1, D := D' } := by simpa using hx
      exact ⟨e, he, rfl, rfl⟩
  · rcases hk with rfl | rfl | rfl
    · exact h.sS.1
    · exact (h.sS.2.2 e he).1
    · exact (h.sS.2.2 e he).2

/-- A new one: its bucket and its meter lie in new memory; the map has it; then it is asked. -/
theorem PAt.fresh {w w4 w' : World} {S : Nat → Prop} {r b tk : Int} {Bm Mp : Nat} {E : List PE} (h : PAt w S r b tk Bm Mp E) (hl : E.length < 32) {s : Src} (hs : SrcOk s) (hn : E.any (fun e => e.s == s) = false) {M B : Nat} {D0 D' : BK} (hM : w.heap.size ≤ M) (hB : w.heap.size ≤ B)
    (ho4 : OffS (fun j => j = Mp) w w4) (mp : MapIs w4 Mp (E ++ [⟨s, M, B, 0, D0⟩])) (me : w4.heap[M]? = some (.cells #[.pointer (some ⟨B, 0, none⟩), .int .i64 0] 59 (0, 0))) (bk : BkAt 67 w4 B D0) (gD : Good D') (hb : BkAt 67 w' B D')
    (ho : Off B ((w4.setCell ⟨Bm, 3, none⟩ (.int .i64 (tk + 1))).setCell ⟨M, 1, none⟩ (.int .i64 (tk + 1))) w') :
    PAt w' (fun k => S k ∨ (w.heap.size ≤ k ∧ k < w'.heap.size)) r b (tk + 1) Bm Mp (E ++ [⟨s, M, B, tk + 1, D'⟩]) ∧ OffS S w w' := by
  obtain ⟨D, ⟨es, clock, hmp, _⟩, _⟩ := h.mp
  have hne : ∀ {j : Nat} {cs : Array Value} {T : TypeId}, w.heap[j]? = some (.cells cs T (0, 0)) → w4.heap[j]? = some (.cells cs T (0, 0)) := by
    intro j cs T hj
    rw [ho4.block j (Array.getElem?_eq_some_iff.1 hj).1 ?_]; exact hj
    intro e1
    subst e1
    rw [hmp] at hj
    cases hj
  have hm4 := hne h.hm
  obtain ⟨t1, t2, t3⟩ := Go.Proofs.Ytpkmloanbddefaa.touch hm4 me bk ho
  have hkeep : ∀ x ∈ E, w'.heap[x.M]? = w.heap[x.M]? ∧ w'.heap[x.B]? = w.heap[x.B]? := fun x hx => by
    have m := h.me x hx
    have k := h.bk x hx
    have m4 := hne m
    have k4 : w4.heap[x.B]? = _ := hne k
    have ml := (Array.getElem?_eq_some_iff.1 m).1
    have kl := k.lt
    refine ⟨(t3.block _ (Array.getElem?_eq_some_iff.1 m4).1 ?_).trans (m4.trans m.symm), (t3.block _ (Array.getElem?_eq_some_iff.1 k4).1 ?_).trans (k4.trans (show w.heap[x.B]? = _ from k).symm)⟩
    · rintro (e1 | e1 | e1)
      · exact ne_cells m h.hm (by decide) e1
      · omega
      · omega
    · rintro (e1 | e1 | e1)
      · exact ne_cells k h.hm (by decide) e1
      · omega
      · omega
  have hmpk : w'.heap[Mp]? = w4.heap[Mp]? := by
    obtain ⟨D, ⟨es, clock, hmp4, _⟩, _⟩ := mp
    refine t3.block _ (Array.getElem?_eq_some_iff.1 hmp4).1 ?_
    rintro (e1 | e1 | e1)
    · rw [e1, hm4] at hmp4; cases hmp4
    · rw [e1, me] at hmp4; cases hmp4
    · unfold BkAt at bk
      rw [e1, bk] at hmp4; cases hmp4
  have hlt1 := (Array.getElem?_eq_some_iff.1 t2).1
  have hlt2 := hb.lt
  have hne2 : ∀ x ∈ E, x.s ≠ s := fun x hx he => by
    have : E.any (fun x => x.s == s) = true := List.any_eq_true.2 ⟨x, hx, by simpa using he⟩
    rw [hn] at this; cases this
  refine ⟨((h.toF (List.Sublist.refl E)).keep hkeep (fun k hk => .inl hk)).last (e := ⟨s, M, B, tk + 1, D'⟩) (by rw [t1]; rfl) ((mp.keep hmpk).perm (by simp) (fun s' => by simp) (fun x hx => ?_)) (by rw [t2]; rfl) hb gD hs rfl (fun x hx => ⟨hne2 x hx, ?_, ?_⟩)
    (.inl h.sS.1) (.inl h.sS.2.1) (.inr ⟨hM, hlt1⟩) (.inr ⟨hB, hlt2⟩) (fun k hk => ?_) (by simp; omega) h.t0, (ho4.mono (fun k _ e => by rw [e]; exact h.sS.2.1)).andThen t3 (fun i hi hS => ?_)⟩
  · rcases List.mem_append.1 hx with hx | hx
    · exact ⟨x, List.mem_append.2 (.inl hx), rfl, rfl⟩
    · obtain rfl : x = ⟨s, M, B, tk + 1, D'⟩ := by simpa using hx
      exact ⟨⟨s, M, B, 0, D0⟩, by simp, rfl, rfl⟩
  · have := (Array.getElem?_eq_some_iff.1 (h.me x hx)).1
    intro e; simp only at e; omega
  · have := (h.bk x hx).lt
    intro e; simp only at e; omega
  · rcases hk with hk | hk
    · exact Nat.lt_of_lt_of_le (h.lt k hk) (Nat.le_trans ho4.size t3.size)
    · exact hk.2
  · rcases hS with rfl | rfl | rfl
    · exact h.sS.1
    · omega
    · omega

def TakePost (w : World) (S : Nat → Prop) (r b tk t : Int) (Bm Mp : Nat) (E : List PE) (s : Src) (e : Ending) (w' : World) : Prop :=
  ∃ S' E' tk', e = .returned (.tuple #[.bool (takeO r b (E.map PE.me) s t), .bool (takeR (E.map PE.me) s t)]) ∧ PAt w' S' r b tk' Bm Mp E' ∧ E'.map PE.me = takeL r b (E.map PE.me) s t ∧ OffS S w w' ∧ (∀ k, S' k → S k ∨ w.heap.size ≤ k) ∧ tk' ≤ tk + 1

set_option maxHeartbeats 1000000 in
theorem take_in {w : World} {S : Nat → Prop} {r b tk : Int} {Bm Mp : Nat} {E : List PE} (h : PAt w S r b tk Bm Mp E) {s : Src} (hs : SrcOk s) {t : Int} (ht : i64ok t) (htk : tk < 9223372036854775807) (hi : idxP (E.map PE.me) s < (E.map PE.me).length) :
    Calls Try.prog 10 #[.pointer (some ⟨Bm, 0, none⟩), .agg #[.int .u64 s.1, .int .u64 s.2], .int .i64 t] w (TakePost w S r b tk t Bm Mp E s) := by
  obtain ⟨e, he, hes, heD⟩ := me_at hi
  have hem := List.mem_of_getElem? he
  have t0 := h.t0
  have hwr : IntKind.i64.wrap (tk + 1) = tk + 1 := IntWalk.i64_in _ (by omega)
  have hany : E.any (fun e => e.s == s) = true := List.any_eq_true.2 ⟨e, hem, by simpa using hes⟩
  have h1 := h.al (.cells #[.int .u64 s.1, .int .u64 s.2] 25)
  have hb1 : Below w.heap.size w (w.alloc (.cells #[.int .u64 s.1, .int .u64 s.2] 25)) := (Below.refl _ _).alloc (Nat.le_refl _) _
  have q1 : (w.alloc (.cells #[.int .u64 s.1, .int .u64 s.2] 25)).heap[w.heap.size]? = some (.cells #[.int .u64 s.1, .int .u64 s.2] 25 (0, 0)) := heap_alloc_new w _
  have hhas := has_any h1 hs
  rw [hany] at hhas
  have gT := (h.gd e hem).take ht 1
  have FIN : ∀ w2 w', Below (w.alloc (.cells #[.int .u64 s.1, .int .u64 s.2] 25)).heap.size (w.alloc (.cells #[.int .u64 s.1, .int .u64 s.2] 25)) w2 → ∀ n, BkAt 67 w' e.B (takeD e.D t 1) → Off e.B ((((w2.drewN n).setCell ⟨Bm, 3, none⟩ (.int .i64 (tk + 1))).setCell ⟨e.M, 1, none⟩ (.int .i64 (tk + 1)))) w' → TakePost w S r b tk t Bm Mp E s (.returned (.tuple #[.bool (takeB e.D t 1), .bool true])) w' := by
    intro w2 w' hb2 n hbk ho
    have h2 := (h1.below hb2).drewN n
    obtain ⟨k1, k2⟩ := h2.touch he gT hbk ho
    refine ⟨S, _, tk + 1, ?_, k1, ?_, ((offS_below hb1).trans (offS_below (bel_dn hb2 n))).trans k2, fun k hk => .inl hk, Int.le_refl _⟩
    · unfold takeO takeR
      rw [if_pos hi, decide_eq_true hi, heD]; rfl
    · unfold takeL
      rw [if_pos hi, List.map_append, Go.ChangeMaps.map_eraseIdx, heD, List.map_cons, List.map_nil]
      simp only [PE.me]
      rw [hes]
  have HF := Lib.hid FIN
  clear FIN heD hany
  generalize idxP (E.map PE.me) s = i at *
  subst hes
  have HK : Hid (PAt (w.alloc (.cells #[.int .u64 e.s.1, .int .u64 e.s.2] 25)) S r b tk Bm Mp E ∧ e ∈ E ∧ Good e.D ∧ _) := Lib.hid ⟨h1, hem, h.gd e hem, q1⟩
  clear hi he gT h hem h1 hb1 q1
  go_enter Try.func10, Try.ntmps10
  go_wp2_with (go_at_call 12; refine hhas.mono ?_; rintro e9 w2 ⟨rfl, hb2⟩)
  have h2 := HK.out.1.below hb2
  have c2 := h2.c2
  have c3 := h2.c3
  have f3 := h2.free 3
  have m0 := cell_of_row _ e.M 0 _ _ _ (h2.me e HK.out.2.1)
  have m1 := cell_of_row _ e.M 1 _ _ _ (h2.me e HK.out.2.1)
  have mf := free_of (h2.me e HK.out.2.1) 1
  have q2 := (hb2.block w.heap.size (by simp)).trans HK.out.2.2.2
  have s0 := cell_of_row _ _ 0 _ _ _ q2
  have s1 := cell_of_row _ _ 1 _ _ _ q2
  have hMB : e.M ≠ Bm := ne_cells (h2.me e HK.out.2.1) h2.hm (by decide)
  have hl := fun n => look_one (w := w2.drewN n) (h2.drewN n).mp HK.out.2.1 hs
  have hT : ∀ n, Calls Try.prog 21 #[.pointer (some ⟨e.B, 0, none⟩), .int .i64 t, .int .i64 1] (((w2.drewN n).setCell ⟨Bm, 3, none⟩ (.int .i64 (tk + 1))).setCell ⟨e.M, 1, none⟩ (.int .i64 (tk + 1))) fun e9 w' => e9 = .returned (.bool (takeB e.D t 1)) ∧ BkAt 67 w' e.B (takeD e.D t 1) ∧ Off e.B (((w2.drewN n).setCell ⟨Bm, 3, none⟩ (.int .i64 (tk + 1))).setCell ⟨e.M, 1, none⟩ (.int .i64 (tk + 1))) w' := fun n =>
    take_any (by
      have k := (h2.drewN n).bk e HK.out.2.1
      exact (k.off ((Off.refl Bm _).set 3 _) (ne_cells k h2.hm (by decide))).off ((Off.refl e.M _).set 1 _) (ne_cells k (h2.me e HK.out.2.1) (by decide))) HK.out.2.2.1 ht 1
  have HG := Lib.hid (HF.out w2 · hb2)
  clear HF h2 hhas hb2 q2
  generalize takeB e.D t 1 = vB at *
  generalize takeD e.D t 1 = vD at *
  go_quiet (fail)
  go_wp2_with (go_at_call 21; refine (hT _).mono ?_; rintro e9 w5 ⟨rfl, h5, o5⟩)
  go_ret2
  exact HG.out _ _ h5 o5
end Go.Proofs.Ytpkmloanbddefaa
