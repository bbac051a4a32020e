/- Meters: who goes (spare): a loop over the map in whatever order; by-name template. -/
import Derived.Test.YtpkmloanbddefaaMTA
namespace Go.Proofs.Ytpkmloanbddefaa
open Go.RowKit Go.Lib Go.Maps
set_option linter.unusedVariables false
set_option linter.unusedSimpArgs false

def RgIs (w : World) (Mp r0 : Nat) (E : List PE) (left : Lit → Bool) (cnt : Nat) : Prop :=
  ∃ D : DataW Unit, w.ranges Try.prog 25 ptrR Mp r0 E.length D left cnt ∧ (∀ s, SrcOk s → has D (kl s) = E.any (fun e => e.s == s)) ∧ (∀ e ∈ E, ∀ zd, D.atKey (kl e.s) zd = .lit (.int .i64 e.M)) ∧ Maps.size D = E.length

theorem RgIs.map {w : World} {Mp r0 : Nat} {E : List PE} {left : Lit → Bool} {cnt : Nat} (h : RgIs w Mp r0 E left cnt) : MapIs w Mp E := by
  obtain ⟨D, h1, h2⟩ := h
  exact ⟨D, h1.owns, h2⟩
theorem RgIs.kept {w w' : World} {row : Option Nat} {Mp r0 : Nat} {E : List PE} {left : Lit → Bool} {cnt : Nat} (h : RgIs w Mp r0 E left cnt) (hg : w.grownBy w' row) (h1 : some Mp ≠ row) (h2 : some r0 ≠ row) : RgIs w' Mp r0 E left cnt := by
  obtain ⟨D, h3, h4⟩ := h
  exact ⟨D, h3.kept hg h1 h2, h4⟩
theorem RgIs.lt {w : World} {Mp r0 : Nat} {E : List PE} {left : Lit → Bool} {cnt : Nat} (h : RgIs w Mp r0 E left cnt) : r0 < w.heap.size := by
  obtain ⟨D, h3, h4⟩ := h
  exact h3.lt
theorem RgIs.left_eq {w : World} {Mp r0 : Nat} {E : List PE} {left : Lit → Bool} {cnt : Nat} (h : RgIs w Mp r0 E left cnt) : w.rangeLeft Mp r0 = cnt := by
  obtain ⟨D, h3, h4⟩ := h
  exact h3.left_eq
theorem RgIs.at_m {w : World} {Mp r0 : Nat} {E : List PE} {left : Lit → Bool} {cnt : Nat} (h : RgIs w Mp r0 E left cnt) : (∃ es c, w.heap[Mp]? = some (.map es c)) ∧ ∃ a b c d, w.heap[r0]? = some (.mapIter a b c d) := by
  obtain ⟨D, ⟨es, clock, since, seen, c0, h1, _, _, _, h2, _⟩, h4⟩ := h
  exact ⟨⟨_, _, h1⟩, _, _, _, _, h2⟩

section
variable (w : World) {ops : Array Oper} {rest : List Oper} {o : Oper} {a : Act} {Q : Exit → Act → World → Prop}
theorem wpList_range_src (hg : o.guard = none) (m : Operand) (hop : o.op = Op.range 51 m) (Mp : Nat) (E : List PE)
    (hm : a.eval m = .map (some Mp)) (hown : MapIs w Mp E)
    (hK : ∀ w' left cnt, RgIs w' Mp w.heap.size E left cnt → (∀ e ∈ E, SrcOk e.s → left (kl e.s) = true) → w.grownBy w' none → w'.heap.size = w.heap.size + 1 → wpList Try.prog ops Q rest (a.put o.dst (.pointer (some ⟨w.heap.size, 0, none⟩))) w') :
    wpList Try.prog ops Q (o :: rest) a w := by
  obtain ⟨D, h1, h2, h3⟩ := hown
  exact wpList_range_own w hg m _ hop _ _ keyed Try.underlying51 ptrR Mp _ D hm h1 (fun w' r1 r2 r3 => hK w' _ _ ⟨D, r1, h2, h3⟩ (fun e he hs => by rw [h2 _ hs]; exact List.any_eq_true.2 ⟨e, he, by simp⟩) r2 r3)

theorem wpList_next_src (hg : o.guard = none) (it : Operand) (hop : o.op = Op.next it false) (Mp r0 : Nat) (E : List PE) (left : Lit → Bool) (cnt : Nat)
    (hit : a.eval it = .pointer (some ⟨r0, 0, none⟩)) (h : RgIs w Mp r0 E left cnt)
    (hDone : (∀ kl, left kl = false) → wpList Try.prog ops Q rest (a.put o.dst (.tuple #[.bool false])) w)
    (hMore : ∀ (e : PE) (w' : World) (cnt' : Nat), e ∈ E → left (kl e.s) = true → RgIs w' Mp r0 E (fun z => left z && !z.sameKey (kl e.s)) cnt' → cnt' < cnt → w.grownBy w' (some r0) → w'.heap.size = w.heap.size →
      (Instr.entry (.pointer (some ⟨r0, 0, none⟩))).run Try.prog w' = .ok (.tuple #[.agg #[.int .u64 e.s.1, .int .u64 e.s.2], .pointer (some ⟨e.M, 0, none⟩)]) w' →
      wpList Try.prog ops Q rest (a.put o.dst (.tuple #[.bool true, .agg #[.int .u64 e.s.1, .int .u64 e.s.2], .pointer (some ⟨e.M, 0, none⟩)])) w') :
    wpList Try.prog ops Q (o :: rest) a w := by
  refine wpList_plain hg fun K' hK' => ?_
  unfold Oper.wp
  obtain ⟨D, h1, h2, h3, h4⟩ := h
  rcases h1.next keyed o.type with ⟨h0, hl, hrun⟩ | ⟨key, v, l, y, w', cnt', hkey, hlk, hv, hat, hrun, hrg, hlt, hgr, hsz, hen⟩
  · simp [execOp, hop, hit, hrun, Result.andThen]
    exact hK' _ _ (hDone hl)
  · obtain ⟨s, rfl, hs, rfl⟩ := keyOf_inv hkey
    have hh := has_true_of_atKey hat
    rw [h2 s hs] at hh
    obtain ⟨e, he, hes⟩ := List.any_eq_true.1 hh
    have hes : e.s = s := by simpa using hes
    subst hes
    have hy := h3 e he .nil
    rw [hat] at hy
    obtain ⟨y1, y2⟩ := y
    simp only at hy
    subst hy
    have hv' := ptrR_inv hv
    subst hv'
    simp [execOp, hop, hit, hrun, Result.andThen]
    exact hK' _ _ (hMore e w' cnt' he hlk ⟨D, hrg, h2, h3, h4⟩ hlt hgr hsz hen)
end

theorem same_kl {s s' : Src} (h : SrcOk s) (h' : SrcOk s') : (kl s).sameKey (kl s') = (s == s') := by
  by_cases e : s = s'
  · subst e
    rw [WideAt.sameKey_self (kl_key s)]; simp
  · rw [sameKey_ne (fun e' => e (kl_inj h h' e'))]
    simp [e]

def lrn (t : Int) (left : Lit → Bool) (e : PE) : PE := if left (kl e.s) then e else { e with D := learnP e.D t }
def lra (t : Int) (e : PE) : PE := { e with D := learnP e.D t }

/-- The loop under way. -/
structure SpIn (w wr : World) (S : Nat → Prop) (r b tk t : Int) (Bm Mp r0 : Nat) (E : List PE) (left : Lit → Bool) (cnt : Nat) : Prop where
  rg : RgIs wr Mp r0 E left cnt
  hm : wr.heap[Bm]? = some (.cells #[.int .i64 r, .int .i64 b, .map (some Mp), .int .i64 tk] 53 (0, 0))
  me : ∀ e ∈ E, wr.heap[e.M]? = some (.cells #[.pointer (some ⟨e.B, 0, none⟩), .int .i64 e.a] 59 (0, 0))
  bk : ∀ e ∈ E, BkAt 67 wr e.B (lrn t left e).D
  off : OffS S w wr

theorem SpIn.fin {w wr : World} {S : Nat → Prop} {r b tk t : Int} {Bm Mp r0 : Nat} {E : List PE} {left : Lit → Bool} {cnt : Nat} (h : SpIn w wr S r b tk t Bm Mp r0 E left cnt) (hp : PAt w S r b tk Bm Mp E) (ht : i64ok t) (hl : ∀ x, left x = false) :
    PAt wr S r b tk Bm Mp (E.map (lra t)) where
  hm := h.hm
  mp := by
    obtain ⟨D, h1, h2, h3, h4⟩ := h.rg.map
    refine ⟨D, by rw [List.length_map]; exact h1, fun s hs => ?_, fun x hx zd => ?_, by rw [List.length_map]; exact h4⟩
    · rw [h2 s hs, List.any_map]; rfl
    · obtain ⟨e, he, rfl⟩ := List.mem_map.1 hx
      exact h3 e he zd
  me x hx := by obtain ⟨e, he, rfl⟩ := List.mem_map.1 hx; exact h.me e he
  bk x hx := by
    obtain ⟨e, he, rfl⟩ := List.mem_map.1 hx
    have := h.bk e he
    unfold lrn at this
    rw [hl] at this
    exact this
  gd x hx := by obtain ⟨e, he, rfl⟩ := List.mem_map.1 hx; exact (hp.gd e he).learn ht
  ok x hx := by obtain ⟨e, he, rfl⟩ := List.mem_map.1 hx; exact hp.ok e he
  ord := List.pairwise_map.2 hp.ord
  age x hx := by obtain ⟨e, he, rfl⟩ := List.mem_map.1 hx; exact hp.age e he
  uq := List.pairwise_map.2 hp.uq
  sS := ⟨hp.sS.1, hp.sS.2.1, fun x hx => by obtain ⟨e, he, rfl⟩ := List.mem_map.1 hx; exact hp.sS.2.2 e he⟩
  lt k hk := Nat.lt_of_lt_of_le (hp.lt k hk) h.off.size
  ln := by rw [List.length_map]; exact hp.ln
  t0 := hp.t0

/-- Other blocks change, or new ones come. -/
theorem SpIn.keep {w wr w' : World} {S : Nat → Prop} {r b tk t : Int} {Bm Mp r0 : Nat} {E : List PE} {left : Lit → Bool} {cnt : Nat} (h : SpIn w wr S r b tk t Bm Mp r0 E left cnt) (hb : Below wr.heap.size wr w') : SpIn w w' S r b tk t Bm Mp r0 E left cnt := by
  have hg : wr.grownBy w' none := ⟨hb.os, hb.tape, hb.output, hb.size, fun k hk _ => hb.block k hk⟩
  exact {
    rg := h.rg.kept hg (by simp) (by simp)
    hm := (hb.block _ (Array.getElem?_eq_some_iff.1 h.hm).1).trans h.hm
    me := fun e he => (hb.block _ (Array.getElem?_eq_some_iff.1 (h.me e he)).1).trans (h.me e he)
    bk := fun e he => (hb.block _ (h.bk e he).lt).trans (h.bk e he)
    off := h.off.trans (offS_below hb) }

/-- A step of the loop: the iterator goes on, e's bucket learns. -/
theorem SpIn.step {w wr w1 w2 w3 : World} {S : Nat → Prop} {r b tk t : Int} {Bm Mp r0 : Nat} {E : List PE} {left : Lit → Bool} {cnt cnt' : Nat} (h : SpIn w wr S r b tk t Bm Mp r0 E left cnt) (hp : PAt w S r b tk Bm Mp E) (hr : w.heap.size ≤ r0) {e : PE} (he : e ∈ E) (hl : left (kl e.s) = true)
    (hrg : RgIs w1 Mp r0 E (fun z => left z && !z.sameKey (kl e.s)) cnt') (hgr : wr.grownBy w1 (some r0)) (h2 : Below w1.heap.size w1 w2) (hb : BkAt 67 w3 e.B (learnP e.D t)) (ho : Off e.B w2 w3) :
    SpIn w w3 S r b tk t Bm Mp r0 E (fun z => left z && !z.sameKey (kl e.s)) cnt' := by
  have hit := (h.rg.at_m).2
  obtain ⟨ia, ib, ic, id', hit⟩ := hit
  have hne1 : ∀ {k : Nat} {cs : Array Value} {T : TypeId}, wr.heap[k]? = some (.cells cs T (0, 0)) → w2.heap[k]? = some (.cells cs T (0, 0)) := by
    intro k cs T hk
    have hkl := (Array.getElem?_eq_some_iff.1 hk).1
    have e1 := hgr.block k hkl (by intro e; cases e; rw [hit] at hk; cases hk)
    exact (h2.block k (Nat.lt_of_lt_of_le hkl hgr.size)).trans (e1.trans hk)
  have hbe : BkAt 67 wr e.B e.D := by
    have := h.bk e he
    unfold lrn at this
    rw [hl] at this
    exact this
  have hb2 : BkAt 67 w2 e.B e.D := hne1 hbe
  have hne : ∀ {k : Nat} {o : Obj}, w2.heap[k]? = some o → (∀ cs, o ≠ .cells cs 67 (0, 0)) → w3.heap[k]? = some o := by
    intro k o hk hno
    rw [ho.block k (Array.getElem?_eq_some_iff.1 hk).1 ?_]; exact hk
    intro e1
    unfold BkAt at hb2
    rw [← e1, hk] at hb2
    exact hno _ (Option.some.inj hb2)
  have hg2 : w1.grownBy w2 none := ⟨h2.os, h2.tape, h2.output, h2.size, fun k hk _ => h2.block k hk⟩
  have hg3 : w2.grownBy w3 (some e.B) := ⟨ho.os, ho.tape, ho.output, ho.size, fun k hk hn => ho.block k hk (fun e => hn (by rw [e]))⟩
  have hrg2 := hrg.kept hg2 (by simp) (by simp)
  have m1 : some Mp ≠ some e.B := by
    intro e1
    obtain ⟨es, c, hm⟩ := hrg2.at_m.1
    unfold BkAt at hb2
    rw [Option.some.inj e1, hb2] at hm
    cases hm
  have m2 : some r0 ≠ some e.B := by
    intro e1
    obtain ⟨_, _, _, _, hm⟩ := hrg2.at_m.2
    unfold BkAt at hb2
    rw [Option.some.inj e1, hb2] at hm
    cases hm
  exact {
    rg := hrg2.kept hg3 m1 m2
    hm := hne (hne1 h.hm) (by simp)
    me := fun x hx => hne (hne1 (h.me x hx)) (by simp)
    bk := fun x hx => by
      show BkAt _ w3 x.B (if (left (kl x.s) && !(kl x.s).sameKey (kl e.s)) = true then x else { x with D := learnP x.D t }).D
      rw [same_kl (hp.ok x hx) (hp.ok e he)]
      by_cases hxe : x = e
      · subst hxe
        simp [hl]
        exact hb
      · have hq : x.s ≠ e.s ∧ x.B ≠ e.B := by
          obtain ⟨i, hi⟩ := List.getElem?_of_mem hx
          obtain ⟨j, hj⟩ := List.getElem?_of_mem he
          have il := (List.getElem?_eq_some_iff.1 hi).1
          have jl := (List.getElem?_eq_some_iff.1 hj).1
          have ie := (List.getElem?_eq_some_iff.1 hi).2
          have je := (List.getElem?_eq_some_iff.1 hj).2
          have hu := List.pairwise_iff_getElem.1 hp.uq
          rcases Nat.lt_trichotomy i j with hlt | heq | hgt
          · have := hu i j il jl hlt
            rw [ie, je] at this
            exact ⟨this.1, this.2.2⟩
          · subst heq
            exact absurd (ie.symm.trans je) hxe
          · have := hu j i jl il hgt
            rw [ie, je] at this
            exact ⟨fun e => this.1 e.symm, fun e => this.2.2 e.symm⟩
        have hbx := h.bk x hx
        unfold lrn at hbx
        have hf : (x.s == e.s) = false := by simpa using hq.1
        simp only [hf, Bool.not_false, Bool.and_true]
        have h2x : BkAt 67 w2 x.B _ := hne1 hbx
        exact h2x.off ho hq.2
    off := h.off.andThen (S' := fun k => k = r0 ∨ S k) ((OffS.mk hgr.os hgr.tape hgr.output hgr.size (fun k hk hn => hgr.block k hk (fun e1 => by cases e1; exact hn (.inl rfl)))).trans
      ((offS_below h2).trans (ho.toS (.inl (.inr (hp.sS.2.2 e he).2))))) (fun i hi hS => by rcases hS with rfl | hS; omega; exact hS) }

/-! ### the best so far -/
structure Best (E : List PE) (t tk : Int) (left : Lit → Bool) (l : Int) (o : Src) : Prop where
  le : l ≤ tk + 1
  all : ∀ e ∈ E, left (kl e.s) = false → isFull (learnP e.D t) = true → l ≤ e.a
  one : l = tk + 1 ∨ ∃ e ∈ E, isFull (learnP e.D t) = true ∧ e.a = l ∧ e.s = o

theorem Best.start {E : List PE} {t tk : Int} {left : Lit → Bool} (h : ∀ e ∈ E, left (kl e.s) = true) (o : Src) : Best E t tk left (tk + 1) o :=
  ⟨by omega, fun e he hl => absurd ((h e he).symm.trans hl) (by simp), .inl rfl⟩
theorem Best.yes {E : List PE} {t tk : Int} {left left' : Lit → Bool} {l : Int} {o : Src} (h : Best E t tk left l o) {e : PE} (he : e ∈ E) (hl : ∀ x ∈ E, left' (kl x.s) = false → left (kl x.s) = false ∨ x = e) (hf : isFull (learnP e.D t) = true) (ha : e.a < l) :
    Best E t tk left' e.a e.s :=
  ⟨by have := h.le; omega, fun x hx hlx hfx => by
    rcases hl x hx hlx with h1 | rfl
    · have := h.all x hx h1 hfx; omega
    · omega, .inr ⟨e, he, hf, rfl, rfl⟩⟩
theorem Best.no {E : List PE} {t tk : Int} {left left' : Lit → Bool} {l : Int} {o : Src} (h : Best E t tk left l o) {e : PE} (hl : ∀ x ∈ E, left' (kl x.s) = false → left (kl x.s) = false ∨ x = e) (hf : isFull (learnP e.D t) = true → l ≤ e.a) :
    Best E t tk left' l o :=
  ⟨h.le, fun x hx hlx hfx => by
    rcases hl x hx hlx with h1 | rfl
    · exact h.all x hx h1 hfx
    · exact hf hfx, h.one⟩
theorem strike {E : List PE} {left : Lit → Bool} (hok : ∀ e ∈ E, SrcOk e.s) (huq : E.Pairwise (fun x y => x.s ≠ y.s ∧ x.M ≠ y.M ∧ x.B ≠ y.B)) {e : PE} (he : e ∈ E) :
    ∀ x ∈ E, (fun z : Lit => left z && !z.sameKey (kl e.s)) (kl x.s) = false → left (kl x.s) = false ∨ x = e := by
  intro x hx h
  simp only [Bool.and_eq_false_iff, Bool.not_eq_false'] at h
  rcases h with h | h
  · exact .inl h
  · rw [same_kl (hok x hx) (hok e he)] at h
    have hs : x.s = e.s := by simpa using h
    refine .inr ?_
    obtain ⟨i, hi⟩ := List.getElem?_of_mem hx
    obtain ⟨j, hj⟩ := List.getElem?_of_mem he
    have il := (List.getElem?_eq_some_iff.1 hi).1
    have jl := (List.getElem?_eq_some_iff.1 hj).1
    have ie := (List.getElem?_eq_some_iff.1 hi).2
    have je := (List.getElem?_eq_some_iff.1 hj).2
    have hu := List.pairwise_iff_getElem.1 huq
    rcases Nat.lt_trichotomy i j with hlt | heq | hgt
    · have := hu i j il jl hlt
      rw [ie, je] at this
      exact absurd hs this.1
    · subst heq; exact ie.symm.trans je
    · have := hu j i jl il hgt
      rw [ie, je] at this
      exact absurd hs.symm this.1

def fullE (E : List PE) (t : Int) : Nat := fullP (learnL (E.map PE.me) t)
theorem fullE_eq (E : List PE) (t : Int) : fullE E t = E.findIdx fun e => isFull (learnP e.D t) := by
  unfold fullE fullP learnL
  rw [List.map_map, List.findIdx_map]; rfl

theorem Best.fin {E : List PE} {t tk : Int} {left : Lit → Bool} {l : Int} {o : Src} (h : Best E t tk left l o) (hl : ∀ x, left x = false) (hage : ∀ e ∈ E, 1 ≤ e.a ∧ e.a ≤ tk) (hord : E.Pairwise (fun x y => x.a < y.a)) :
    decide (l ≤ tk) = decide (fullE E t < E.length) ∧ (fullE E t < E.length → ∃ e, E[fullE E t]? = some e ∧ e.s = o) := by
  rw [fullE_eq]
  rcases h.one with h1 | ⟨e, he, hf, ha, hs⟩
  · have hn : ¬ (E.findIdx fun e => isFull (learnP e.D t)) < E.length := by
      intro hlt
      have h2 := List.findIdx_getElem (w := hlt)
      have hm : E[E.findIdx fun e => isFull (learnP e.D t)] ∈ E := List.getElem_mem hlt
      have := h.all _ hm (hl _) h2
      have := hage _ hm
      omega
    refine ⟨?_, fun h => absurd h hn⟩
    rw [decide_eq_false (by omega), decide_eq_false hn]
  · have hlt : (E.findIdx fun e => isFull (learnP e.D t)) < E.length := List.findIdx_lt_length.2 ⟨e, he, hf⟩
    refine ⟨?_, fun _ => ⟨e, ?_, hs⟩⟩
    · have := hage e he
      rw [decide_eq_true (by omega), decide_eq_true hlt]
    · rw [List.getElem?_eq_getElem hlt]
      congr 1
      have h2 := List.findIdx_getElem (w := hlt)
      have hm : E[E.findIdx fun e => isFull (learnP e.D t)] ∈ E := List.getElem_mem hlt
      have h3 := h.all _ hm (hl _) h2
      obtain ⟨j, hj⟩ := List.getElem?_of_mem he
      have jl := (List.getElem?_eq_some_iff.1 hj).1
      have je := (List.getElem?_eq_some_iff.1 hj).2
      have hu := List.pairwise_iff_getElem.1 hord
      rcases Nat.lt_trichotomy (E.findIdx fun e => isFull (learnP e.D t)) j with h5 | h5 | h5
      · have := hu _ j hlt jl h5
        rw [je] at this
        omega
      · subst h5; exact je
      · have := List.not_of_lt_findIdx h5
        rw [je] at this
        simp [hf] at this

def SparePost (w : World) (S : Nat → Prop) (r b tk t : Int) (Bm Mp : Nat) (E : List PE) (e : Ending) (w' : World) : Prop :=
  ∃ o : Src, e = .returned (.tuple #[.agg #[.int .u64 o.1, .int .u64 o.2], .bool (decide (fullE E t < E.length))]) ∧ (fullE E t < E.length → ∃ e, E[fullE E t]? = some e ∧ e.s = o) ∧ PAt w' S r b tk Bm Mp (E.map (lra t)) ∧ OffS S w w'

theorem Below.grown' {w w1 w2 : World} (h : Below w.heap.size w w1) (hg : w1.grownBy w2 none) : Below w.heap.size w w2 :=
  ⟨hg.os.trans h.os, hg.tape.trans h.tape, hg.output.trans h.output, Nat.le_trans h.size hg.size, fun k hk => (hg.block k (Nat.lt_of_lt_of_le hk h.size) (by simp)).trans (h.block k hk)⟩

theorem SpIn.start {w w1 : World} {S : Nat → Prop} {r b tk t : Int} {Bm Mp r0 : Nat} {E : List PE} {left : Lit → Bool} {cnt : Nat} (h : PAt w S r b tk Bm Mp E) (hb : Below w.heap.size w w1) (hrg : RgIs w1 Mp r0 E left cnt) (hl : ∀ e ∈ E, left (kl e.s) = true) : SpIn w w1 S r b tk t Bm Mp r0 E left cnt where
  rg := hrg
  hm := (h.below hb).hm
  me := (h.below hb).me
  bk e he := by
    unfold lrn
    rw [hl e he]
    exact (h.below hb).bk e he
  off := offS_below hb

theorem SpIn.kc {w wr w1 : World} {S : Nat → Prop} {r b tk t : Int} {Bm Mp r0 : Nat} {E : List PE} {left : Lit → Bool} {cnt : Nat} (h : SpIn w wr S r b tk t Bm Mp r0 E left cnt) (hgr : wr.grownBy w1 (some r0)) {k : Nat} {cs : Array Value} {T : TypeId} (hk : wr.heap[k]? = some (.cells cs T (0, 0))) : w1.heap[k]? = some (.cells cs T (0, 0)) := by
  obtain ⟨ia, ib, ic, id', hit⟩ := (h.rg.at_m).2
  exact (hgr.block k (Array.getElem?_eq_some_iff.1 hk).1 (by intro e; cases e; rw [hit] at hk; cases hk)).trans hk
theorem SpIn.kb {w wr w1 : World} {S : Nat → Prop} {r b tk t : Int} {Bm Mp r0 : Nat} {E : List PE} {left : Lit → Bool} {cnt : Nat} (h : SpIn w wr S r b tk t Bm Mp r0 E left cnt) (hgr : wr.grownBy w1 (some r0)) {e : PE} (he : e ∈ E) (hl : left (kl e.s) = true) : BkAt 67 w1 e.B e.D := by
  have := h.bk e he
  unfold lrn at this
  rw [hl] at this
  exact h.kc hgr this
theorem off_cells {w w' : World} {B k : Nat} {D : BK} {cs : Array Value} {T : TypeId} (ho : Off B w w') (hb : BkAt 67 w B D) (hk : w.heap[k]? = some (.cells cs T (0, 0))) (hT : T ≠ 67) : w'.heap[k]? = some (.cells cs T (0, 0)) := by
  rw [ho.block k (Array.getElem?_eq_some_iff.1 hk).1 ?_]; exact hk
  intro e1
  unfold BkAt at hb
  rw [← e1, hk] at hb
  simp only [Option.some.injEq, Obj.cells.injEq] at hb
  exact hT hb.2.1
theorem ne_cells {w : World} {a b : Nat} {cs cs' : Array Value} {T T' : TypeId} (h : w.heap[a]? = some (.cells cs T (0, 0))) (h' : w.heap[b]? = some (.cells cs' T' (0, 0))) (hT : T ≠ T') : a ≠ b := by
  intro e
  rw [e, h'] at h
  simp only [Option.some.injEq, Obj.cells.injEq] at h
  exact hT h.2.1.symm
theorem old_set {w : World} {k : Nat} {x y : Value} (h : w.heap[k]? = some (.cells #[x, y] 25 (0, 0))) (u v : Value) : ((w.setCell ⟨k, 0, none⟩ u).setCell ⟨k, 1, none⟩ v).drew.heap[k]? = some (.cells #[u, v] 25 (0, 0)) :=
  heap_set (heap_set h 0 u) 1 v
theorem SpIn.other {w wr w' : World} {S : Nat → Prop} {r b tk t : Int} {Bm Mp r0 : Nat} {E : List PE} {left : Lit → Bool} {cnt : Nat} (h : SpIn w wr S r b tk t Bm Mp r0 E left cnt) {k : Nat} {cs : Array Value} (hk : wr.heap[k]? = some (.cells cs 25 (0, 0))) (ho : Off k wr w') (hkw : w.heap.size ≤ k) : SpIn w w' S r b tk t Bm Mp r0 E left cnt := by
  have hne : ∀ {j : Nat} {o : Obj}, wr.heap[j]? = some o → (∀ cs, o ≠ .cells cs 25 (0, 0)) → w'.heap[j]? = some o := by
    intro j o hj hno
    rw [ho.block j (Array.getElem?_eq_some_iff.1 hj).1 ?_]; exact hj
    intro e1
    rw [← e1, hj] at hk
    exact hno _ (Option.some.inj hk)
  have hg : wr.grownBy w' (some k) := ⟨ho.os, ho.tape, ho.output, ho.size, fun j hj hn => ho.block j hj (fun e => hn (by rw [e]))⟩
  obtain ⟨⟨es, c, hm⟩, ia, ib, ic, id', hi⟩ := h.rg.at_m
  exact {
    rg := h.rg.kept hg (by intro e1; rw [Option.some.inj e1, hk] at hm; cases hm) (by intro e1; rw [Option.some.inj e1, hk] at hi; cases hi)
    hm := hne h.hm (by simp)
    me := fun e he => hne (h.me e he) (by simp)
    bk := fun e he => hne (h.bk e he) (by simp [bc])
    off := h.off.andThen (ho.toS (S := fun j => j = k) (.inl rfl)) (fun i hi e => by omega) }

set_option maxHeartbeats 1000000 in
theorem spare_any {w : World} {S : Nat → Prop} {r b tk : Int} {Bm Mp : Nat} {E : List PE} (h : PAt w S r b tk Bm Mp E) {t : Int} (ht : i64ok t) (htk : tk < 9223372036854775807) :
    Calls Try.prog 28 #[.pointer (some ⟨Bm, 0, none⟩), .int .i64 t] w (SparePost w S r b tk t Bm Mp E) := by
  have h1 := (h.al (.cells #[.int .u64 0, .int .u64 0] 25)).al (.cells #[.int .u64 0, .int .u64 0] 25)
  have c2 := h1.c2
  have c3 := h1.c3
  have m1 := h1.mp
  have t0 := h.t0
  have hwr : IntKind.i64.wrap (tk + 1) = tk + 1 := IntWalk.i64_in _ (by omega)
  go_enter Try.func28, Try.ntmps28
  go_wp2_with (first
    | (at_range; refine wpList_range_src _ rfl _ rfl Mp E rfl m1 ?_; intro w1 left0 cnt0 hrg0 hl0 hg0 hs0))
  go_frame
  have hz0 : ((w.alloc (.cells #[.int .u64 0, .int .u64 0] 25)).alloc (.cells #[.int .u64 0, .int .u64 0] 25)).heap.size = w.heap.size + 2 := by simp
  have hzw := hs0
  rw [hz0] at hzw
  have hb0 : Below w.heap.size w ((w.alloc (.cells #[.int .u64 0, .int .u64 0] 25)).alloc (.cells #[.int .u64 0, .int .u64 0] 25)) := ((Below.refl _ _).alloc (Nat.le_refl _) _).alloc (by simp) _
  have q4 : w1.heap[w.heap.size]? = some (.cells #[.int .u64 0, .int .u64 0] 25 (0, 0)) := by
    rw [hg0.block _ (by omega) (by simp), Below.heap_alloc _ _ _ (by simp)]
    exact heap_alloc_new w _
  have q6 : w1.heap[w.heap.size + 1]? = some (.cells #[.int .u64 0, .int .u64 0] 25 (0, 0)) := by
    rw [hg0.block _ (by omega) (by simp)]
    have := heap_alloc_new (w.alloc (.cells #[.int .u64 0, .int .u64 0] 25)) (.cells #[.int .u64 0, .int .u64 0] 25)
    simpa using this
  have hst := SpIn.start h (Below.grown' hb0 hg0) (t := t) hrg0 (fun e he => hl0 e he (h.ok e he))
  have hbs := Best.start (t := t) (tk := tk) (fun e he => hl0 e he (h.ok e he)) (0, 0)
  rw [hz0] at hst ⊢
  clear hg0 hs0 hrg0 hl0 hb0 hz0 h1 c2 c3 m1
  generalize hN0 : w.heap.size = N0 at *
  have HN := Lib.hid hN0
  clear hN0
  go_loopw [7] (fun l wr => ∃ (left : Lit → Bool) (cnt : Nat) (lv : Int) (o : Src), SpIn w wr S r b tk t Bm Mp (N0 + 2) E left cnt ∧ Best E t tk left lv o ∧ l = .int .i64 lv ∧ wr.heap[N0]? = some (.cells #[.int .u64 0, .int .u64 0] 25 (0, 0)) ∧ wr.heap[N0 + 1]? = some (.cells #[.int .u64 o.1, .int .u64 o.2] 25 (0, 0)) ∧ N0 + 3 ≤ wr.heap.size)
    (fun _ wr => wr.rangeLeft Mp (N0 + 2))
  case atStart => exact ⟨left0, cnt0, tk + 1, (0, 0), hst, hbs, rfl, q4, q6, by omega⟩
  case round =>
    clear q4 q6 hst hbs hzw
    obtain ⟨left, cnt, lv, o, hs, hbest, rfl, q4, q6, hsz⟩ := hrel
    go_wp2_with (first
      | (at_next; refine wpList_next_src _ rfl _ rfl Mp (N0 + 2) E left cnt rfl hs.rg ?_ ?_))
    · intro hl0
      obtain ⟨hd, hx⟩ := hbest.fin hl0 h.age h.ord
      have hp := hs.fin h ht hl0
      have c4a := cell_of_row _ N0 0 _ _ _ q4
      have c4b := cell_of_row _ N0 1 _ _ _ q4
      have f4 := fun i => free_of q4 i
      have c6a := cell_of_row _ (N0 + 1) 0 _ _ _ q6
      have c6b := cell_of_row _ (N0 + 1) 1 _ _ _ q6
      have c3 := hp.c3
      obtain ⟨o1, o2⟩ := o
      simp only at *
      have FIN : ∀ w', Off N0 wr w' → SparePost w S r b tk t Bm Mp E (.returned (.tuple #[.agg #[.int .u64 o1, .int .u64 o2], .bool (decide (lv ≤ tk))])) w' := fun w' ho =>
        ⟨(o1, o2), by rw [hd], hx, hp.off (ho.toS (S := fun k => k = N0) (.inl rfl)) (fun k hk e => by have := h.lt k hk; have := HN.out; omega), hs.off.andThen (ho.toS (S := fun k => k = N0) (.inl rfl)) (fun i hi e => by have := HN.out; omega)⟩
      have HF := Lib.hid FIN
      clear FIN hd hx hp hs hbest
      go_wp2
      go_region
      all_goals
        go_wp2
        refine bodyPost_ret (v := .tuple #[.agg #[.int .u64 o1, .int .u64 o2], .bool (decide (lv ≤ tk))]) (by simp [results, Try.results28, go_sem, c4a, c4b]) rfl ?_
        exact HF.out _ (((Off.refl N0 wr).set _ _).set _ _).drew
    · intro e w2 cnt' he hle hrg hlt hgr hzz hen
      have hme := hs.kc hgr (hs.me e he)
      have hbe := hs.kb hgr he hle
      have q4' := hs.kc hgr q4
      have q6' := hs.kc hgr q6
      have m0 := cell_of_row _ e.M 0 _ _ _ hme
      have m1 := cell_of_row _ e.M 1 _ _ _ hme
      have hMl := (Array.getElem?_eq_some_iff.1 hme).1
      have hge := h.gd e he
      have hz2 : N0 + 3 ≤ w2.heap.size := by omega
      have h3 : BkAt 67 (w2.alloc (.cells #[.int .u64 e.s.1, .int .u64 e.s.2] 25)) e.B e.D := hbe.below ((Below.refl _ _).alloc (Nat.le_refl _) _) hbe.lt
      have hn3 : (w2.alloc (.cells #[.int .u64 e.s.1, .int .u64 e.s.2] 25)).heap[w2.heap.size]? = some (.cells #[.int .u64 e.s.1, .int .u64 e.s.2] 25 (0, 0)) := heap_alloc_new w2 _
      have hme3 := (Below.heap_alloc w2 (.cells #[.int .u64 e.s.1, .int .u64 e.s.2] 25) _ hMl).trans hme
      have q43 := (Below.heap_alloc w2 (.cells #[.int .u64 e.s.1, .int .u64 e.s.2] 25) _ (by omega)).trans q4'
      have q63 := (Below.heap_alloc w2 (.cells #[.int .u64 e.s.1, .int .u64 e.s.2] 25) _ (by omega)).trans q6'
      have hF := full_any h3 hge ht
      have hfe : decide ((learnP e.D t).n = (learnP e.D t).b) = isFull (learnP e.D t) := by unfold isFull; rw [Bool.eq_iff_iff]; simp
      rw [hfe] at hF
      have hlow := h.age e he
      have hzz3 : N0 + 3 ≤ (w2.alloc (.cells #[.int .u64 e.s.1, .int .u64 e.s.2] 25)).heap.size := by simp; omega
      have STEP : ∀ w4, BkAt 67 w4 e.B (learnP e.D t) → Off e.B (w2.alloc (.cells #[.int .u64 e.s.1, .int .u64 e.s.2] 25)) w4 → SpIn w w4 S r b tk t Bm Mp (N0 + 2) E (fun z => left z && !z.sameKey (kl e.s)) cnt' := fun w4 hb4 ho4 =>
        hs.step h (by have := HN.out; omega) he hle hrg hgr ((Below.refl _ _).alloc (Nat.le_refl _) _) hb4 ho4
      have hstr := strike (left := left) h.ok h.uq he
      have hlq : wr.rangeLeft Mp (N0 + 2) = cnt := hs.rg.left_eq
      have HL := Lib.hid hlq
      have HS := Lib.hid STEP
      clear STEP hs hgr hrg hzz hme hbe q4' q6' q4 q6 hsz hlq hfe
      have HQ : Hid (N0 + 3 ≤ (w2.alloc (.cells #[.int .u64 e.s.1, .int .u64 e.s.2] 25)).heap.size ∧ _ ∧ _ ∧ _ ∧ _) := Lib.hid ⟨hzz3, hn3, hme3, q43, q63⟩
      clear hzz3 hn3 hme3 q43 q63
      rcases hfl : isFull (learnP e.D t) with _ | _
      · rw [hfl] at hF
        have hb' := hbest.no (left' := fun z => left z && !z.sameKey (kl e.s)) hstr (fun hf => by rw [hfl] at hf; cases hf)
        have HB := Lib.hid hb'
        clear hb' hbest hfl hstr
        go_wp2_with (go_at_call 30; refine hF.mono ?_; rintro e4 w4 ⟨rfl, h4, o4⟩)
        go_roundw
        case rel => exact ⟨_, cnt', lv, o, HS.out _ h4 o4, HB.out, rfl, off_cells o4 h3 HQ.out.2.2.2.1 (by decide), off_cells o4 h3 HQ.out.2.2.2.2 (by decide), Nat.le_trans HQ.out.1 o4.size⟩
        case measure => rw [(HS.out _ h4 o4).rg.left_eq, HL.out]; exact hlt
      · rw [hfl] at hF
        by_cases hls : e.a < lv
        · have hb' := hbest.yes (left' := fun z => left z && !z.sameKey (kl e.s)) he hstr hfl hls
          have HB := Lib.hid hb'
          have hls' : decide (e.a < lv) = true := by simpa using hls
          clear hb' hbest hfl hstr hls
          go_wp2_with (go_at_call 30; refine hF.mono ?_; rintro e4 w4 ⟨rfl, h4, o4⟩; have q4 := off_cells o4 h3 HQ.out.2.2.2.1 (by decide); have q6 := off_cells o4 h3 HQ.out.2.2.2.2 (by decide); have qs := off_cells o4 h3 HQ.out.2.1 (by decide); have m4 := cell_of_row _ e.M 1 _ _ _ (off_cells o4 h3 HQ.out.2.2.1 (by decide)); have s0 := cell_of_row _ _ 0 _ _ _ qs; have s1 := cell_of_row _ _ 1 _ _ _ qs; have c60 := cell_of_row _ _ 0 _ _ _ q6; have c61 := cell_of_row _ _ 1 _ _ _ q6; have f6 := fun i => free_of q6 i; have hMN : e.M ≠ N0 + 1 := ne_cells (off_cells o4 h3 HQ.out.2.2.1 (by decide)) q6 (by decide))
          go_region
          go_wp2
          go_roundw
          case rel => exact ⟨_, cnt', e.a, e.s, (HS.out _ h4 o4).other q6 (((Off.refl _ _).set _ _).set _ _).drew (by have := HN.out; omega), HB.out, rfl, by rw [((((Off.refl (N0 + 1) w4).set 0 (.int .u64 e.s.1)).set 1 (.int .u64 e.s.2)).drew).block N0 (by have := (Array.getElem?_eq_some_iff.1 q4).1; omega) (by omega)]; exact q4, old_set q6 _ _, Nat.le_trans HQ.out.1 (Nat.le_trans o4.size (by simp))⟩
          case measure => rw [((HS.out _ h4 o4).other q6 (((Off.refl _ _).set _ _).set _ _).drew (by have := HN.out; omega)).rg.left_eq, HL.out]; exact hlt
        · have hb' := hbest.no (left' := fun z => left z && !z.sameKey (kl e.s)) hstr (fun hf => by omega)
          have HB := Lib.hid hb'
          have hls' : decide (e.a < lv) = false := by simpa using hls
          clear hb' hbest hfl hstr
          go_wp2_with (go_at_call 30; refine hF.mono ?_; rintro e4 w4 ⟨rfl, h4, o4⟩; have m4 := cell_of_row _ e.M 1 _ _ _ (off_cells o4 h3 HQ.out.2.2.1 (by decide)))
          go_roundw
          case rel => exact ⟨_, cnt', lv, o, HS.out _ h4 o4, HB.out, rfl, off_cells o4 h3 HQ.out.2.2.2.1 (by decide), off_cells o4 h3 HQ.out.2.2.2.2 (by decide), Nat.le_trans HQ.out.1 o4.size⟩
          case measure => rw [(HS.out _ h4 o4).rg.left_eq, HL.out]; exact hlt
end Go.Proofs.Ytpkmloanbddefaa
