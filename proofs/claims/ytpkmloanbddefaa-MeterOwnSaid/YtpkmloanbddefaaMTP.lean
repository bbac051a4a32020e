/- Meters, in plain words; and how they lie in memory; by-name template. -/
import Derived.Test.YtpkmloanbddefaaTBk
import Derived.Maps.RangeWalk
import Derived.Maps.Ext
import Derived.DeepKeys5
namespace Go.Proofs.Ytpkmloanbddefaa
open Go.RowKit Go.Lib Go.Maps
set_option linter.unusedVariables false
set_option linter.unusedSimpArgs false

abbrev Src := Int × Int
def u64ok (n : Int) : Prop := 0 ≤ n ∧ n < 18446744073709551616
def SrcOk (s : Src) : Prop := u64ok s.1 ∧ u64ok s.2
abbrev LL := List (Src × BK)

/-! ### what is told -/
def idxP (L : LL) (s : Src) : Nat := L.findIdx fun p => p.1 == s
def isFull (D : BK) : Bool := D.n == D.b
def fullP (L : LL) : Nat := L.findIdx fun p => isFull p.2
def learnL (L : LL) (t : Int) : LL := L.map fun p => (p.1, learnP p.2 t)
def hasP (L : LL) (s : Src) : Bool := decide (idxP L s < L.length)
def bkP (L : LL) (i : Nat) : BK := (L.getD i ((0, 0), ⟨0, 0, 0, 0⟩)).2
def newT (r b t : Int) : BK := takeD (newP r b t) t 1
def newB (r b t : Int) : Bool := takeB (newP r b t) t 1
def takeL (r b : Int) (L : LL) (s : Src) (t : Int) : LL :=
  if idxP L s < L.length then L.eraseIdx (idxP L s) ++ [(s, takeD (bkP L (idxP L s)) t 1)]
  else if L.length < 32 then L ++ [(s, newT r b t)]
  else if fullP (learnL L t) < L.length then (learnL L t).eraseIdx (fullP (learnL L t)) ++ [(s, newT r b t)]
  else learnL L t
def takeO (r b : Int) (L : LL) (s : Src) (t : Int) : Bool :=
  if idxP L s < L.length then takeB (bkP L (idxP L s)) t 1
  else if L.length < 32 then newB r b t
  else if fullP (learnL L t) < L.length then newB r b t
  else false
def takeR (L : LL) (s : Src) (t : Int) : Bool :=
  decide (idxP L s < L.length) || decide (L.length < 32) || decide (fullP (learnL L t) < L.length)
def tokL (L : LL) (s : Src) (t : Int) : LL :=
  if idxP L s < L.length then L.set (idxP L s) (s, learnP (bkP L (idxP L s)) t) else L
def tokV (L : LL) (s : Src) (t : Int) : Int :=
  if idxP L s < L.length then (learnP (bkP L (idxP L s)) t).n else 0

theorem learnL_length (L : LL) (t : Int) : (learnL L t).length = L.length := by simp [learnL]

/-! ### the key -/
theorem keyed : Keyed Try.prog 25 := Keyed.of_law (deep_law_gate (P := Try.prog) (by kernel_rfl) (of_decide_eq_true (by kernel_rfl)) (of_decide_eq_true (by kernel_rfl)) (by kernel_rfl) (by kernel_rfl))
def kl (s : Src) : Lit := .string (keyBytes [.int .u64 s.1, .int .u64 s.2])
def sv (s : Src) : Value := .agg #[.int .u64 s.1, .int .u64 s.2]
theorem u64_wf {n : Int} (h : u64ok n) : (Lit.int .u64 n).wf = true := by
  unfold u64ok at h
  simp [Lit.wf, IntKind.min, IntKind.max, IntKind.bits, IntKind.signed]
  omega
theorem wf_u64 {n : Int} (h : (Lit.int .u64 n).wf = true) : u64ok n := by
  unfold u64ok
  simp [Lit.wf, IntKind.min, IntKind.max, IntKind.bits, IntKind.signed] at h
  omega

theorem cells_src : Try.prog.cellsOf 25 = 2 := by kernel_rfl
theorem cells_u64 : Try.prog.cellsOf 23 = 1 := by kernel_rfl
theorem kt_src : Try.prog.keyType 25 = true := by kernel_rfl
theorem types_some : ∃ m, Try.prog.types.size = m + 1 := ⟨Try.prog.types.size - 1, by kernel_rfl⟩

theorem keyOf_src {s : Src} (h : SrcOk s) : keyOf Try.prog 25 (sv s) = some (kl s) := by
  obtain ⟨m, hm⟩ := types_some
  have w1 := u64_wf h.1
  have w2 := u64_wf h.2
  unfold keyOf sv
  simp only [Try.underlying25]
  rw [if_pos (by simp [kt_src, Value.formed, Try.underlying25, cells_src]), hm]
  unfold Program.keyLits
  simp [Try.underlying25, Value.cells, cells_src, cells_u64, Program.keyLits, Try.underlying23, w1, w2, kl, List.mapM_cons]

theorem lits_u64 {m : Nat} {v : Value} {l : List Lit} (h : Try.prog.keyLits (m + 1) 23 [v] = some l) : ∃ n, v = .int .u64 n ∧ u64ok n ∧ l = [.int .u64 n] := by
  unfold Program.keyLits at h
  simp only [Try.underlying23] at h
  cases v <;> simp at h
  obtain ⟨⟨rfl, q1⟩, rfl⟩ := h
  exact ⟨_, rfl, wf_u64 q1, rfl⟩

theorem keyOf_inv {v : Value} {l : Lit} (h : keyOf Try.prog 25 v = some l) : ∃ s, v = sv s ∧ SrcOk s ∧ l = kl s := by
  obtain ⟨m, hm⟩ := types_some
  unfold keyOf at h
  simp only [Try.underlying25] at h
  rw [hm] at h
  split at h
  · rename_i hc
    simp only [kt_src, Bool.true_and] at hc
    cases v with
    | agg cs =>
      simp only [Value.formed, Try.underlying25, cells_src, beq_iff_eq] at hc
      obtain ⟨l⟩ := cs
      match l, hc with
      | [a, b], _ =>
        unfold Program.keyLits at h
        simp [Try.underlying25, Value.cells, cells_src, cells_u64, List.mapM_cons] at h
        rcases ha : Try.prog.keyLits (m + 1) 23 [a] with _ | la
        · rw [ha] at h; simp at h
        · rcases hb : Try.prog.keyLits (m + 1) 23 [b] with _ | lb
          · rw [ha, hb] at h; simp at h
          · obtain ⟨x, rfl, hx, rfl⟩ := lits_u64 ha
            obtain ⟨y, rfl, hy, rfl⟩ := lits_u64 hb
            rw [ha, hb] at h
            simp at h
            exact ⟨(x, y), rfl, ⟨hx, hy⟩, by rw [← h]; rfl⟩
    | _ => simp [Value.formed, Try.underlying25] at hc
  · cases h

theorem kl_inj {s s' : Src} (h : SrcOk s) (h' : SrcOk s') (e : kl s = kl s') : s = s' := by
  have := keyed.inj (keyOf_src h) (e ▸ keyOf_src h')
  simp only [sv, Value.agg.injEq, Array.mk.injEq, List.cons.injEq, Value.int.injEq, and_true, true_and] at this
  exact Prod.ext this.1 this.2
theorem kl_key (s : Src) : WideAt.IsKeyLit (kl s) := trivial

/-! ### a map of pointers -/
def ptrR : Value → Option (DataW Unit × List MemPlace)
  | .pointer none => some (.nil, [])
  | .pointer (some a) => if a.off = 0 ∧ a.spot = none then some (.lit (.int .i64 a.block), []) else none
  | _ => none
theorem ptrR_mk (M : Nat) : ptrR (.pointer (some ⟨M, 0, none⟩)) = some (.lit (.int .i64 M), []) := rfl
theorem ptrR_inv {v : Value} {M : Nat} {ps : List MemPlace} (h : ptrR v = some (.lit (.int .i64 M), ps)) : v = .pointer (some ⟨M, 0, none⟩) := by
  unfold ptrR at h
  split at h
  · simp at h
  · split at h
    · rename_i a hc
      simp only [Option.some.injEq, Prod.mk.injEq, DataW.lit.injEq, Lit.int.injEq, true_and] at h
      obtain ⟨b, o, sp⟩ := a
      obtain ⟨rfl, rfl⟩ := hc
      simp only at h
      obtain ⟨h, _⟩ := h
      have : b = M := by omega
      rw [this]
    · cases h
  · cases h

/-- A source's meter in memory: its block, its bucket's, when it was asked last. -/
structure PE where
  s : Src
  M : Nat
  B : Nat
  a : Int
  D : BK
def PE.me (e : PE) : Src × BK := (e.s, e.D)

def MapIs (w : World) (Mp : Nat) (E : List PE) : Prop :=
  ∃ D : DataW Unit, w.ownsMap Try.prog 25 ptrR Mp E.length D ∧ (∀ s, SrcOk s → has D (kl s) = E.any (fun e => e.s == s)) ∧ (∀ e ∈ E, ∀ zd, D.atKey (kl e.s) zd = .lit (.int .i64 e.M)) ∧ Maps.size D = E.length

structure PAt (w : World) (S : Nat → Prop) (r b tk : Int) (Bm Mp : Nat) (E : List PE) : Prop where
  hm : w.heap[Bm]? = some (.cells #[.int .i64 r, .int .i64 b, .map (some Mp), .int .i64 tk] 53 (0, 0))
  mp : MapIs w Mp E
  me : ∀ e ∈ E, w.heap[e.M]? = some (.cells #[.pointer (some ⟨e.B, 0, none⟩), .int .i64 e.a] 59 (0, 0))
  bk : ∀ e ∈ E, BkAt 67 w e.B e.D
  gd : ∀ e ∈ E, Good e.D
  ok : ∀ e ∈ E, SrcOk e.s
  ord : E.Pairwise (fun x y => x.a < y.a)
  age : ∀ e ∈ E, 1 ≤ e.a ∧ e.a ≤ tk
  uq : E.Pairwise (fun x y => x.s ≠ y.s ∧ x.M ≠ y.M ∧ x.B ≠ y.B)
  sS : S Bm ∧ S Mp ∧ ∀ e ∈ E, S e.M ∧ S e.B
  lt : ∀ k, S k → k < w.heap.size
  ln : E.length ≤ 32
  t0 : 0 ≤ tk

/-- All blocks that are not of S are as they were. -/
structure OffS (S : Nat → Prop) (w w' : World) : Prop where
  os : w'.os = w.os
  tape : w'.tape = w.tape
  output : w'.output = w.output
  size : w.heap.size ≤ w'.heap.size
  block : ∀ k, k < w.heap.size → ¬ S k → w'.heap[k]? = w.heap[k]?
theorem OffS.refl (S : Nat → Prop) (w : World) : OffS S w w := ⟨rfl, rfl, rfl, Nat.le_refl _, fun _ _ _ => rfl⟩
theorem OffS.trans {S : Nat → Prop} {a b c : World} (h : OffS S a b) (k : OffS S b c) : OffS S a c :=
  ⟨k.os.trans h.os, k.tape.trans h.tape, k.output.trans h.output, Nat.le_trans h.size k.size, fun i hi hn => (k.block i (Nat.lt_of_lt_of_le hi h.size) hn).trans (h.block i hi hn)⟩
theorem Off.toS {S : Nat → Prop} {B : Nat} {w w' : World} (h : Off B w w') (hB : S B ∨ w.heap.size ≤ B) : OffS S w w' :=
  ⟨h.os, h.tape, h.output, h.size, fun k hk hn => h.block k hk (fun e => by subst e; rcases hB with hB | hB; exact hn hB; omega)⟩
theorem offS_below {S : Nat → Prop} {w w' : World} (h : Below w.heap.size w w') : OffS S w w' := ⟨h.os, h.tape, h.output, h.size, fun k hk _ => h.block k hk⟩
theorem OffS.toBelow {S : Nat → Prop} {A : Nat} {w w' : World} (h : OffS S w w') (hA : ∀ k, S k → A ≤ k) (hB : A ≤ w.heap.size) : Below A w w' :=
  ⟨h.os, h.tape, h.output, h.size, fun k hk => h.block k (by omega) (fun e => by have := hA k e; omega)⟩
theorem OffS.mono {S S' : Nat → Prop} {w w' : World} (h : OffS S w w') (hS : ∀ k, k < w.heap.size → S k → S' k) : OffS S' w w' :=
  ⟨h.os, h.tape, h.output, h.size, fun k hk hn => h.block k hk (fun e => hn (hS k hk e))⟩
/-- what is behind the first world's end need not be named. -/
theorem OffS.andThen {S S' : Nat → Prop} {a b c : World} (h : OffS S a b) (k : OffS S' b c) (hS : ∀ i, i < a.heap.size → S' i → S i) : OffS S a c :=
  ⟨k.os.trans h.os, k.tape.trans h.tape, k.output.trans h.output, Nat.le_trans h.size k.size, fun i hi hn => (k.block i (Nat.lt_of_lt_of_le hi h.size) (fun e => hn (hS i hi e))).trans (h.block i hi hn)⟩

theorem MapIs.keep {w w' : World} {Mp : Nat} {E : List PE} (h : MapIs w Mp E) (hw : w'.heap[Mp]? = w.heap[Mp]?) : MapIs w' Mp E := by
  obtain ⟨D, ⟨es, clock, h1, rest⟩, h2⟩ := h
  exact ⟨D, ⟨es, clock, hw.trans h1, rest⟩, h2⟩
theorem MapIs.lt {w : World} {Mp : Nat} {E : List PE} (h : MapIs w Mp E) : Mp < w.heap.size := by
  obtain ⟨D, h, _⟩ := h
  exact h.lt

theorem PAt.keep {w w' : World} {S : Nat → Prop} {r b tk : Int} {Bm Mp : Nat} {E : List PE} (h : PAt w S r b tk Bm Mp E) (hs : w.heap.size ≤ w'.heap.size) (hw : ∀ k, S k → w'.heap[k]? = w.heap[k]?) : PAt w' S r b tk Bm Mp E where
  hm := (hw _ h.sS.1).trans h.hm
  mp := h.mp.keep (hw _ h.sS.2.1)
  me e he := (hw _ (h.sS.2.2 e he).1).trans (h.me e he)
  bk e he := (hw _ (h.sS.2.2 e he).2).trans (h.bk e he)
  gd := h.gd
  ok := h.ok
  ord := h.ord
  age := h.age
  uq := h.uq
  sS := h.sS
  lt k hk := Nat.lt_of_lt_of_le (h.lt k hk) hs
  ln := h.ln
  t0 := h.t0
theorem PAt.off {w w' : World} {S T : Nat → Prop} {r b tk : Int} {Bm Mp : Nat} {E : List PE} (h : PAt w S r b tk Bm Mp E) (ho : OffS T w w') (hd : ∀ k, S k → ¬ T k) : PAt w' S r b tk Bm Mp E :=
  h.keep ho.size (fun k hk => ho.block k (h.lt k hk) (hd k hk))
theorem PAt.below {w w' : World} {S : Nat → Prop} {r b tk : Int} {Bm Mp : Nat} {E : List PE} (h : PAt w S r b tk Bm Mp E) (ho : Below w.heap.size w w') : PAt w' S r b tk Bm Mp E :=
  h.keep ho.size (fun k hk => ho.block k (h.lt k hk))
theorem PAt.drew {w : World} {S : Nat → Prop} {r b tk : Int} {Bm Mp : Nat} {E : List PE} (h : PAt w S r b tk Bm Mp E) : PAt w.drew S r b tk Bm Mp E := h.keep (Nat.le_refl _) (fun _ _ => rfl)
theorem PAt.drewN {w : World} {S : Nat → Prop} {r b tk : Int} {Bm Mp : Nat} {E : List PE} (h : PAt w S r b tk Bm Mp E) (n : Nat) : PAt (w.drewN n) S r b tk Bm Mp E := h.keep (Nat.le_refl _) (fun _ _ => rfl)
theorem PAt.grow {w : World} {S T : Nat → Prop} {r b tk : Int} {Bm Mp : Nat} {E : List PE} (h : PAt w S r b tk Bm Mp E) (hs : ∀ k, S k → T k) (hl : ∀ k, T k → k < w.heap.size) : PAt w T r b tk Bm Mp E :=
  { h with sS := ⟨hs _ h.sS.1, hs _ h.sS.2.1, fun e he => ⟨hs _ (h.sS.2.2 e he).1, hs _ (h.sS.2.2 e he).2⟩⟩, lt := hl }

theorem idx_me (E : List PE) (s : Src) : idxP (E.map PE.me) s = E.findIdx fun e => e.s == s := by
  unfold idxP
  rw [List.findIdx_map]
  rfl
theorem any_idx (E : List PE) (s : Src) : E.any (fun e => e.s == s) = hasP (E.map PE.me) s := by
  unfold hasP
  rw [idx_me, List.length_map, Bool.eq_iff_iff, decide_eq_true_iff, List.any_eq_true, List.findIdx_lt_length]
end Go.Proofs.Ytpkmloanbddefaa
