/- What holds between the rounds of write's loop; by-name template. -/
import Derived.Test.YtikaeblmjlfgcaaFree
import Derived.Test.YtikaeblmjlfgcaaPieces
namespace Go.Proofs.Ytikaeblmjlfgcaa
open Go.RowKit
set_option linter.unusedVariables false

theorem Runs.bounds {D0 : DS} {R0 : RS} {ps0 : List Pc} {pre : List Nat} {D : DS} {R : RS} {ps : List Pc} (h : Runs D0 R0 ps0 pre D R ps) (h0 : 0 ≤ D0.l) : 0 ≤ D.l ∧ D.l ≤ D0.l ∧ D.n = D0.n + pre.length ∧ (∃ done, ps0 = done ++ ps) := by
  induction h with
  | nil => exact ⟨h0, Int.le_refl _, by simp, [], rfl⟩
  | @snoc pre D R q ps x _ hw ih =>
    obtain ⟨a, b, c, done, hd⟩ := ih
    obtain ⟨_, hws, _, hc⟩ := wres_zero hw
    rw [hws]
    refine ⟨?_, ?_, by simp; omega, done ++ [q], by rw [hd]; simp⟩
    · cases hDc : D.c
      · simpa using a
      · have := hc hDc
        simp
        omega
    · cases hDc : D.c
      · simpa using b
      · simp
        omega
theorem Runs.plen {D0 : DS} {R0 : RS} {ps0 : List Pc} {pre : List Nat} {D : DS} {R : RS} {ps : List Pc} (h : Runs D0 R0 ps0 pre D R ps) (h0 : R0.P.length = 64) : R.P.length = 64 := by
  induction h with
  | nil => exact h0
  | snoc _ _ ih => simpa [RS.put] using ih

structure WI (D0 : DS) (L : List Pt) (B H sn lb base : Nat) (w : World) (pre : List Nat) (D : DS) (R : RS) (ps : List Pc) (W : World) : Prop where
  run : Runs D0 (next0 (root D0) L) (pieces L) pre D R ps
  disk : DiskAt W B D
  nxt : RootAt W sn R
  left : ∃ a cap, Blk W lb #[.slice a ps.length cap] 79 ∧ PcsAt W base a ps ∧ ps.length ≤ cap
  dbox : Blk W H #[.pointer (some ⟨B, 0, none⟩)] 28
  ebox : Blk W (H + 1) #[.int .i64 0] 36
  off : Off B w W

def NoCells (W : World) (row : Option Nat) : Prop := ∀ r, row = some r → ∃ o : Obj, W.heap[r]? = some o ∧ o.isCells = false
theorem Blk.grown {W W' : World} {row : Option Nat} {b : Nat} {cs : Array Value} {t : TypeId} (h : Blk W b cs t) (hg : W.grownBy W' row) (hr : NoCells W row) : Blk W' b cs t := by
  unfold Blk
  rw [hg.block b h.lt (fun e => ?_)]
  · exact h
  · obtain ⟨o, ho, hc⟩ := hr b e.symm
    unfold Blk at h
    rw [h] at ho
    cases ho
    simp [Obj.isCells] at hc
theorem DiskAt.grown {W W' : World} {row : Option Nat} {B : Nat} {D : DS} (h : DiskAt W B D) (hg : W.grownBy W' row) (hr : NoCells W row) : DiskAt W' B D :=
  ⟨h.1, Blk.grown (b := B) h.2 hg hr⟩
theorem PcsAt.grown {W W' : World} {row : Option Nat} {base : Nat} {a : Option Addr} {L : List Pc} (h : PcsAt W base a L) (hg : W.grownBy W' row) (hr : NoCells W row) : PcsAt W' base a L := by
  intro i q hi
  obtain ⟨b, off, ha, hb, hl, hp⟩ := h i q hi
  have hr' : ∀ r, row = some r → ∃ o : Obj, W.heap[r]? = some o ∧ o.isCells = false := hr
  exact ⟨b, off, ha, hb, Nat.lt_of_lt_of_le hl hg.size, cell_kept hp.cs hg hr', cell_kept hp.cn hg hr', cell_kept hp.ct hg hr'⟩
theorem Off.grown {B : Nat} {w W W' : World} {row : Option Nat} (h : Off B w W) (hg : W.grownBy W' row) (hr : ∀ r, row = some r → w.heap.size ≤ r) : Off B w W' :=
  ⟨hg.os.trans h.os, hg.tape.trans h.tape, hg.output.trans h.output, Nat.le_trans h.size hg.size, fun k hk hn => by
    rw [hg.block k (Nat.lt_of_lt_of_le hk h.size) (fun e => by have := hr k e.symm; omega)]
    exact h.block k hk hn⟩
theorem WI.grown {D0 : DS} {L : List Pt} {B H sn lb base : Nat} {w : World} {pre : List Nat} {D : DS} {R : RS} {ps : List Pc} {W W' : World} {row : Option Nat} {N : Nat} (h : WI D0 L B H sn lb base w pre D R ps W) (hg : W.grownBy W' row) (hN : w.heap.size ≤ N) (hr : ∀ r, row = some r → N ≤ r ∧ ∃ o : Obj, W.heap[r]? = some o ∧ o.isCells = false) : WI D0 L B H sn lb base w pre D R ps W' := by
  have hn : NoCells W row := fun r e => (hr r e).2
  obtain ⟨a, cap, h1, h2, h3⟩ := h.left
  exact ⟨h.run, h.disk.grown hg hn, Blk.grown h.nxt hg hn, ⟨a, cap, h1.grown hg hn, h2.grown hg hn, h3⟩, h.dbox.grown hg hn, h.ebox.grown hg hn, h.off.grown hg fun r e => Nat.le_trans hN (hr r e).1⟩

/-- A round that was left by 'return'. -/
def RetI (D0 : DS) (L : List Pt) (B H : Nat) (w : World) (pre : List A160) (W : World) : Prop :=
  ∃ (pre' : List A160) (x : A160) (D : DS) (R : RS) (q : Pc) (ps : List Pc), pre = pre' ++ [x] ∧ Runs D0 (next0 (root D0) L) (pieces L) (pre'.map (·.1)) D R (q :: ps) ∧ wres D (x.1 : Int) q.text ≠ 0 ∧
    DiskAt W B (wst D (x.1 : Int) q.text) ∧ Blk W (H + 1) #[.int .i64 (wres D (x.1 : Int) q.text)] 36 ∧ Off B w W
def BrkI (D0 : DS) (L : List Pt) (B H sn lb base : Nat) (w : World) (pre : List A160) (W : World) : Prop :=
  ∃ (pre' : List A160) (x : A160) (D : DS) (R : RS), pre = pre' ++ [x] ∧ WI D0 L B H sn lb base w (pre'.map (·.1)) D R [] W
def LoopI (D0 : DS) (L : List Pt) (B H sn lb base : Nat) (w : World) (pre : List A160) (W : World) : Prop :=
  ∃ (D : DS) (R : RS) (ps : List Pc), WI D0 L B H sn lb base w (pre.map (·.1)) D R ps W
def LoopX (D0 : DS) (L : List Pt) (B H sn lb base : Nat) (w : World) (c : Code) (pre : List A160) (W : World) : Prop :=
  (c = .ret ∧ RetI D0 L B H w pre W) ∨ (c = .exit 2 ∧ BrkI D0 L B H sn lb base w pre W)

theorem LoopI.own {D0 : DS} {L : List Pt} {B H sn lb base : Nat} {w : World} {N : Nat} (hN : w.heap.size ≤ N) : OwnFrom N (LoopI D0 L B H sn lb base w) :=
  fun s W W' row ⟨D, R, ps, h⟩ hg hr => ⟨D, R, ps, h.grown hg hN hr⟩
theorem LoopX.own {D0 : DS} {L : List Pt} {B H sn lb base : Nat} {w : World} {N : Nat} (hN : w.heap.size ≤ N) (c : Code) : OwnFrom N (LoopX D0 L B H sn lb base w c) := by
  rintro s W W' row (⟨hc, pre', x, D, R, q, ps, h1, h2, h3, h4, h5, h6⟩ | ⟨hc, pre', x, D, R, h1, h2⟩) hg hr
  · exact .inl ⟨hc, pre', x, D, R, q, ps, h1, h2, h3, h4.grown hg (fun r e => (hr r e).2), h5.grown hg (fun r e => (hr r e).2), h6.grown hg fun r e => Nat.le_trans hN (hr r e).1⟩
  · exact .inr ⟨hc, pre', x, D, R, h1, h2.grown hg hN hr⟩

/-! ### What a step keeps -/
theorem KeepB.alloc {p : Nat → Prop} {A W : World} (h : KeepB p A W) (o : Obj) : KeepB p A (W.alloc o) :=
  h.trans ⟨by simp, fun b cs t _ hb => hb.alloc o⟩
theorem KeepB.set {p : Nat → Prop} {A W : World} (h : KeepB p A W) {b : Nat} (hp : p b) (o : Nat) (v : Value) : KeepB p A (W.setCell ⟨b, o, none⟩ v) :=
  h.trans ⟨by simp [World.setCell], fun k cs t hk hb => by
    unfold Blk
    rw [Below.heap_setCell _ _ _ _ (by intro e; subst e; exact hk hp)]
    exact hb⟩
theorem KeepB.off {p : Nat → Prop} {A W W' : World} {B : Nat} (h : KeepB p A W) (hp : p B) (ho : Off B W W') : KeepB p A W' :=
  h.trans ⟨ho.size, fun k cs t hk hb => hb.off ho (by intro e; subst e; exact hk hp)⟩
theorem KeepB.drew {p : Nat → Prop} {A W : World} (h : KeepB p A W) : KeepB p A W.drew := ⟨h.size, h.same⟩
theorem _root_.Go.KeepsFrom.off {N B : Nat} {A W W' : World} (h : KeepsFrom N A W) {D : DS} (hD : DiskAt W B D) (ho : Off B W W') : KeepsFrom N A W' :=
  h.trans ⟨ho.size, fun k o _ hk hc => by
    rw [ho.block k (Array.getElem?_eq_some_iff.1 hk).1 (by
      intro e
      subst e
      rw [hD.2] at hk
      cases hk
      simp [Obj.isCells] at hc)]
    exact hk⟩
theorem _root_.Go.KeepsFrom.alloc {N : Nat} {A W : World} (h : KeepsFrom N A W) (o : Obj) : KeepsFrom N A (W.alloc o) := h.trans ((KeepsOthers.alloc W o).from N)
theorem _root_.Go.KeepsFrom.set {N : Nat} {A W : World} (h : KeepsFrom N A W) (a : Addr) (v : Value) : KeepsFrom N A (W.setCell a v) := h.trans ((KeepsOthers.setCell W a v).from N)
theorem _root_.Go.KeepsFrom.drew {N : Nat} {A W : World} (h : KeepsFrom N A W) : KeepsFrom N A W.drew := ⟨h.size, h.same⟩
theorem PcsAt.tail {W : World} {base b off : Nat} {q : Pc} {L : List Pc} (h : PcsAt W base (some ⟨b, off, none⟩) (q :: L)) : PcsAt W base (some ⟨b, off + 3, none⟩) L := by
  intro i r hi
  obtain ⟨b', off', ha, hb, hl, hp⟩ := h (i + 1) r hi
  simp only [Option.some.injEq, Addr.mk.injEq] at ha
  obtain ⟨rfl, rfl, _⟩ := ha
  refine ⟨b, off + 3, rfl, hb, hl, ?_⟩
  rw [show off + 3 + i * 3 = off + (i + 1) * 3 by omega]
  exact hp
theorem PcsAt.move {W W' : World} {base b off : Nat} {L : List Pc} (h : PcsAt W base (some ⟨b, off, none⟩) L) (e : W'.heap[b]? = W.heap[b]?) (hs : W.heap.size ≤ W'.heap.size) : PcsAt W' base (some ⟨b, off, none⟩) L := by
  intro i r hi
  obtain ⟨b', off', ha, hb, hl, hp⟩ := h i r hi
  have ha' := ha
  simp only [Option.some.injEq, Addr.mk.injEq] at ha'
  obtain ⟨rfl, rfl, _⟩ := ha'
  have e2 : ∀ o, W'.cell? ⟨b, o, none⟩ = W.cell? ⟨b, o, none⟩ := fun o => World.cell?_of_block (w := W) (a := ⟨b, o, none⟩) e
  exact ⟨b, off, rfl, hb, Nat.lt_of_lt_of_le hl hs, by rw [e2]; exact hp.cs, by rw [e2]; exact hp.cn, by rw [e2]; exact hp.ct⟩
theorem Off.setHigh {B : Nat} {w W : World} (h : Off B w W) {k : Nat} (hk : w.heap.size ≤ k) (o : Nat) (v : Value) : Off B w (W.setCell ⟨k, o, none⟩ v) :=
  ⟨h.os, h.tape, h.output, by simpa [World.setCell] using h.size, fun i hi hn => by
    rw [Below.heap_setCell _ _ _ _ (by show i ≠ k; omega)]
    exact h.block i hi hn⟩
theorem Blk.other {W : World} {b k : Nat} {cs : Array Value} {t : TypeId} (h : Blk W b cs t) (hn : b ≠ k) (o : Nat) (v : Value) : Blk (W.setCell ⟨k, o, none⟩ v) b cs t := by
  unfold Blk
  rw [Below.heap_setCell _ _ _ _ (by show b ≠ k; exact hn)]
  exact h
theorem DiskAt.other {W : World} {B k : Nat} {D : DS} (h : DiskAt W B D) (hn : B ≠ k) (o : Nat) (v : Value) : DiskAt (W.setCell ⟨k, o, none⟩ v) B D := ⟨h.1, Blk.other (b := B) h.2 hn o v⟩
theorem heap_other (W : World) {b k : Nat} (hn : b ≠ k) (o : Nat) (v : Value) : (W.setCell ⟨k, o, none⟩ v).heap[b]? = W.heap[b]? := Below.heap_setCell _ _ _ _ hn
end Go.Proofs.Ytikaeblmjlfgcaa
