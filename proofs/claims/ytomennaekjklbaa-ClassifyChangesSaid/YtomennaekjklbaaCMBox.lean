/- Boxes: where they meet; both sides; by-name template (gen_cmbox.py). -/
import Derived.Test.YtomennaekjklbaaCMeet
import Derived.Deep.RegionHeld3
import Derived.OrdersHeld
import Derived.Laws.Rows
import Derived.Deep.DeepCutAuto
namespace Go.Proofs.Ytomennaekjklbaa
open Go.RowKit Go.Lib Go.Sort
set_option linter.unusedVariables false
set_option linter.unusedSimpArgs false

theorem step_alloc {P : Program} {ops : Array Oper} {op : Oper} {a : Act} {w : World} {K : Act → World → Prop} {Q : Exit → Act → World → Prop} {E : Prop} (hgd : op.guard = none) (ty : TypeId) (ho : op.op = .alloc ty)
    (Z : Array Value) (hz : ∀ w, (zeroValue ty).run P w = .ok (.agg Z) w)
    (h : ∀ (w' : World) (g : Nat), w'.heap[g]? = some (.cells Z ty (0, 0)) → Below w.heap.size w w' → w.heap.size ≤ g → K (a.put op.dst (.pointer (some ⟨g, 0, none⟩))) w') : if Region.wanted op (yielded ops a.tmps) = true then Oper.wp P op a w K Q else E := by
  have hw : Region.wanted op (yielded ops a.tmps) = true := by simp [Region.wanted, hgd]
  rw [if_pos hw]
  have h2 := h _ _ (heap_alloc_new w (.cells Z ty)) ((Below.refl _ _).alloc (Nat.le_refl _) _) (Nat.le_refl _)
  unfold Oper.wp
  simp [go_sem, execOp, ho, hz]
  exact h2

theorem step_store_row {P : Program} {ops : Array Oper} {op : Oper} {a : Act} {w : World} {K : Act → World → Prop} {Q : Exit → Act → World → Prop} {E : Prop} (hgd : op.guard = none) (ty : TypeId) (x y : Operand) (ho : op.op = .store ty x y)
    (g : Nat) (cells : Array Value) (hx : a.eval x = .pointer (some ⟨g, 0, none⟩)) (hy : a.eval y = .agg cells)
    (t : TypeId) (old : Array Value) (hg : w.heap[g]? = some (.cells old t (0, 0))) (hi : (P.info? ty).map (·.size) = some cells.size)
    (hold : old.size = cells.size) (h1 : cells.all (·.oneCell') = true)
    (h : K (a.put op.dst undef) (w.setRow g cells)) : if Region.wanted op (yielded ops a.tmps) = true then Oper.wp P op a w K Q else E := by
  have hw : Region.wanted op (yielded ops a.tmps) = true := by simp [Region.wanted, hgd]
  rw [if_pos hw]
  unfold Oper.wp
  simp only [execOp, ho, hx, hy, Instr.storeAt, Instr.sureAddr, Sem.run_bind, Sem.run_pure, Result.andThen_ok, run_storeVar_row w g t ty old cells hg hi hold h1]
  exact h

theorem keepS {w4 wr : World} {C : World → Prop} (hC : ∀ w', Below w4.heap.size w4 w' → C w') (hH : Below w4.heap.size w4 wr) : Below w4.heap.size w4 wr ∧ C wr := ⟨hH, hC _ hH⟩

theorem keepB {w4 wr w' : World} {X : Prop} {C : World → Prop} (hC : ∀ w', Below w4.heap.size w4 w' → C w') (hb : Below wr.heap.size wr w') (hH : Below w4.heap.size w4 wr ∧ X) : Below w4.heap.size w4 w' ∧ C w' :=
  ⟨bel_via hH.1 hb, hC _ (bel_via hH.1 hb)⟩

theorem hV_keep {X w' : World} {B : Nat} {o : Obj} (hb : Below X.heap.size X w') (h : X.heap[B]? = some o) : w'.heap[B]? = some o :=
  (hb.block _ (Array.getElem?_eq_some_iff.1 h).1).trans h

theorem blk_setRow {w : World} {b : Nat} {cs : Array Value} {t : TypeId} (h : w.heap[b]? = some (.cells cs t (0, 0))) (C : Array Value) : (w.setRow b C).heap[b]? = some (.cells C t (0, 0)) := by
  unfold World.setRow
  simp [Array.getElem?_modify, h]

theorem keep0 {w4 : World} {C : World → Prop} (hC : ∀ w', Below w4.heap.size w4 w' → C w') : Below w4.heap.size w4 w4.drew ∧ C w4.drew := ⟨Below.dr (Below.refl _ _), hC _ (Below.dr (Below.refl _ _))⟩

theorem Below.setRow {N : Nat} {w w1 : World} (h : Below N w w1) {B : Nat} (hB : N ≤ B) (C : Array Value) : Below N w (w1.setRow B C) :=
  ⟨h.os, h.tape, h.output, by simpa [World.setRow] using h.size, fun k hk => by
    have : B ≠ k := by omega
    simp only [World.setRow, Array.getElem?_modify]
    rw [if_neg this]; exact h.block k hk⟩

/-- Zero; a box with another range at a field. -/
def zr4 : R4 := ⟨0, 0, 0, 0⟩
def upd (b : Nat → R4) (k : Nat) (r : R4) : Nat → R4 := fun i => if i = k then r else b i
theorem bxc_congr {b c : Nat → R4} (h : ∀ k, k < 6 → b k = c k) : bxc b = bxc c := by
  unfold bxc; rw [h 0 (by omega), h 1 (by omega), h 2 (by omega), h 3 (by omega), h 4 (by omega), h 5 (by omega)]
theorem bxc_zero : bxc (fun _ => zr4) = #[.int .u64 0, .int .u64 0, .int .u64 0, .int .u64 0, .int .u64 0, .int .u64 0, .int .u64 0, .int .u64 0, .int .u64 0, .int .u64 0, .int .u64 0, .int .u64 0, .int .u64 0, .int .u64 0, .int .u64 0, .int .u64 0, .int .u64 0, .int .u64 0, .int .u64 0, .int .u64 0, .int .u64 0, .int .u64 0, .int .u64 0, .int .u64 0] := rfl
theorem bxs4_0 (b : Nat → R4) (r : R4) : (((((bxc b).setIfInBounds (0 * 4) (.int .u64 r.fh)).setIfInBounds (0 * 4 + 1) (.int .u64 r.fl)).setIfInBounds (0 * 4 + 2) (.int .u64 r.th)).setIfInBounds (0 * 4 + 3) (.int .u64 r.tl)) = bxc (upd b 0 r) := by kernel_rfl
theorem bxs4_1 (b : Nat → R4) (r : R4) : (((((bxc b).setIfInBounds (1 * 4) (.int .u64 r.fh)).setIfInBounds (1 * 4 + 1) (.int .u64 r.fl)).setIfInBounds (1 * 4 + 2) (.int .u64 r.th)).setIfInBounds (1 * 4 + 3) (.int .u64 r.tl)) = bxc (upd b 1 r) := by kernel_rfl
theorem bxs4_2 (b : Nat → R4) (r : R4) : (((((bxc b).setIfInBounds (2 * 4) (.int .u64 r.fh)).setIfInBounds (2 * 4 + 1) (.int .u64 r.fl)).setIfInBounds (2 * 4 + 2) (.int .u64 r.th)).setIfInBounds (2 * 4 + 3) (.int .u64 r.tl)) = bxc (upd b 2 r) := by kernel_rfl
theorem bxs4_3 (b : Nat → R4) (r : R4) : (((((bxc b).setIfInBounds (3 * 4) (.int .u64 r.fh)).setIfInBounds (3 * 4 + 1) (.int .u64 r.fl)).setIfInBounds (3 * 4 + 2) (.int .u64 r.th)).setIfInBounds (3 * 4 + 3) (.int .u64 r.tl)) = bxc (upd b 3 r) := by kernel_rfl
theorem bxs4_4 (b : Nat → R4) (r : R4) : (((((bxc b).setIfInBounds (4 * 4) (.int .u64 r.fh)).setIfInBounds (4 * 4 + 1) (.int .u64 r.fl)).setIfInBounds (4 * 4 + 2) (.int .u64 r.th)).setIfInBounds (4 * 4 + 3) (.int .u64 r.tl)) = bxc (upd b 4 r) := by kernel_rfl
theorem bxs4_5 (b : Nat → R4) (r : R4) : (((((bxc b).setIfInBounds (5 * 4) (.int .u64 r.fh)).setIfInBounds (5 * 4 + 1) (.int .u64 r.fl)).setIfInBounds (5 * 4 + 2) (.int .u64 r.th)).setIfInBounds (5 * 4 + 3) (.int .u64 r.tl)) = bxc (upd b 5 r) := by kernel_rfl
theorem bxs4 (b : Nat → R4) (r : R4) (k : Nat) (hk : k < 6) : (((((bxc b).setIfInBounds (k * 4) (.int .u64 r.fh)).setIfInBounds (k * 4 + 1) (.int .u64 r.fl)).setIfInBounds (k * 4 + 2) (.int .u64 r.th)).setIfInBounds (k * 4 + 3) (.int .u64 r.tl)) = bxc (upd b k r) := by
  match k, hk with
  | 0, _ => exact bxs4_0 b r
  | 1, _ => exact bxs4_1 b r
  | 2, _ => exact bxs4_2 b r
  | 3, _ => exact bxs4_3 b r
  | 4, _ => exact bxs4_4 b r
  | 5, _ => exact bxs4_5 b r
theorem bset4 {w : World} {B : Nat} {b : Nat → R4} {t : TypeId} (h : w.heap[B]? = some (.cells (bxc b) t (0, 0))) (k : Nat) (hk : k < 6) (r : R4) :
    ((((w.setCell ⟨B, k * 4, none⟩ (.int .u64 r.fh)).setCell ⟨B, k * 4 + 1, none⟩ (.int .u64 r.fl)).setCell ⟨B, k * 4 + 2, none⟩ (.int .u64 r.th)).setCell ⟨B, k * 4 + 3, none⟩ (.int .u64 r.tl)).heap[B]? = some (.cells (bxc (upd b k r)) t (0, 0)) := by
  rw [← bxs4 b r k hk]
  simp [World.setCell, Array.getElem?_modify, h]
theorem bxs2_0 (b : Nat → R4) (x y : Int) : (((bxc b).setIfInBounds (0 * 4 + 2) (.int .u64 x)).setIfInBounds (0 * 4 + 3) (.int .u64 y)) = bxc (upd b 0 ⟨(b 0).fh, (b 0).fl, x, y⟩) := by kernel_rfl
theorem bxs2_1 (b : Nat → R4) (x y : Int) : (((bxc b).setIfInBounds (1 * 4 + 2) (.int .u64 x)).setIfInBounds (1 * 4 + 3) (.int .u64 y)) = bxc (upd b 1 ⟨(b 1).fh, (b 1).fl, x, y⟩) := by kernel_rfl
theorem bxs2_2 (b : Nat → R4) (x y : Int) : (((bxc b).setIfInBounds (2 * 4 + 2) (.int .u64 x)).setIfInBounds (2 * 4 + 3) (.int .u64 y)) = bxc (upd b 2 ⟨(b 2).fh, (b 2).fl, x, y⟩) := by kernel_rfl
theorem bxs2_3 (b : Nat → R4) (x y : Int) : (((bxc b).setIfInBounds (3 * 4 + 2) (.int .u64 x)).setIfInBounds (3 * 4 + 3) (.int .u64 y)) = bxc (upd b 3 ⟨(b 3).fh, (b 3).fl, x, y⟩) := by kernel_rfl
theorem bxs2_4 (b : Nat → R4) (x y : Int) : (((bxc b).setIfInBounds (4 * 4 + 2) (.int .u64 x)).setIfInBounds (4 * 4 + 3) (.int .u64 y)) = bxc (upd b 4 ⟨(b 4).fh, (b 4).fl, x, y⟩) := by kernel_rfl
theorem bxs2_5 (b : Nat → R4) (x y : Int) : (((bxc b).setIfInBounds (5 * 4 + 2) (.int .u64 x)).setIfInBounds (5 * 4 + 3) (.int .u64 y)) = bxc (upd b 5 ⟨(b 5).fh, (b 5).fl, x, y⟩) := by kernel_rfl
theorem bxs2 (b : Nat → R4) (x y : Int) (k : Nat) (hk : k < 6) : (((bxc b).setIfInBounds (k * 4 + 2) (.int .u64 x)).setIfInBounds (k * 4 + 3) (.int .u64 y)) = bxc (upd b k ⟨(b k).fh, (b k).fl, x, y⟩) := by
  match k, hk with
  | 0, _ => exact bxs2_0 b x y
  | 1, _ => exact bxs2_1 b x y
  | 2, _ => exact bxs2_2 b x y
  | 3, _ => exact bxs2_3 b x y
  | 4, _ => exact bxs2_4 b x y
  | 5, _ => exact bxs2_5 b x y
theorem bset2 {w : World} {B : Nat} {b : Nat → R4} {t : TypeId} (h : w.heap[B]? = some (.cells (bxc b) t (0, 0))) (k : Nat) (hk : k < 6) (x y : Int) :
    ((w.setCell ⟨B, k * 4 + 2, none⟩ (.int .u64 x)).setCell ⟨B, k * 4 + 3, none⟩ (.int .u64 y)).heap[B]? = some (.cells (bxc (upd b k ⟨(b k).fh, (b k).fl, x, y⟩)) t (0, 0)) := by
  rw [← bxs2 b x y k hk]
  simp [World.setCell, Array.getElem?_modify, h]
theorem bxs2f_0 (b : Nat → R4) (x y : Int) : (((bxc b).setIfInBounds (0 * 4) (.int .u64 x)).setIfInBounds (0 * 4 + 1) (.int .u64 y)) = bxc (upd b 0 ⟨x, y, (b 0).th, (b 0).tl⟩) := by kernel_rfl
theorem bxs2f_1 (b : Nat → R4) (x y : Int) : (((bxc b).setIfInBounds (1 * 4) (.int .u64 x)).setIfInBounds (1 * 4 + 1) (.int .u64 y)) = bxc (upd b 1 ⟨x, y, (b 1).th, (b 1).tl⟩) := by kernel_rfl
theorem bxs2f_2 (b : Nat → R4) (x y : Int) : (((bxc b).setIfInBounds (2 * 4) (.int .u64 x)).setIfInBounds (2 * 4 + 1) (.int .u64 y)) = bxc (upd b 2 ⟨x, y, (b 2).th, (b 2).tl⟩) := by kernel_rfl
theorem bxs2f_3 (b : Nat → R4) (x y : Int) : (((bxc b).setIfInBounds (3 * 4) (.int .u64 x)).setIfInBounds (3 * 4 + 1) (.int .u64 y)) = bxc (upd b 3 ⟨x, y, (b 3).th, (b 3).tl⟩) := by kernel_rfl
theorem bxs2f_4 (b : Nat → R4) (x y : Int) : (((bxc b).setIfInBounds (4 * 4) (.int .u64 x)).setIfInBounds (4 * 4 + 1) (.int .u64 y)) = bxc (upd b 4 ⟨x, y, (b 4).th, (b 4).tl⟩) := by kernel_rfl
theorem bxs2f_5 (b : Nat → R4) (x y : Int) : (((bxc b).setIfInBounds (5 * 4) (.int .u64 x)).setIfInBounds (5 * 4 + 1) (.int .u64 y)) = bxc (upd b 5 ⟨x, y, (b 5).th, (b 5).tl⟩) := by kernel_rfl
theorem bxs2f (b : Nat → R4) (x y : Int) (k : Nat) (hk : k < 6) : (((bxc b).setIfInBounds (k * 4) (.int .u64 x)).setIfInBounds (k * 4 + 1) (.int .u64 y)) = bxc (upd b k ⟨x, y, (b k).th, (b k).tl⟩) := by
  match k, hk with
  | 0, _ => exact bxs2f_0 b x y
  | 1, _ => exact bxs2f_1 b x y
  | 2, _ => exact bxs2f_2 b x y
  | 3, _ => exact bxs2f_3 b x y
  | 4, _ => exact bxs2f_4 b x y
  | 5, _ => exact bxs2f_5 b x y
theorem bset2f {w : World} {B : Nat} {b : Nat → R4} {t : TypeId} (h : w.heap[B]? = some (.cells (bxc b) t (0, 0))) (k : Nat) (hk : k < 6) (x y : Int) :
    ((w.setCell ⟨B, k * 4, none⟩ (.int .u64 x)).setCell ⟨B, k * 4 + 1, none⟩ (.int .u64 y)).heap[B]? = some (.cells (bxc (upd b k ⟨x, y, (b k).th, (b k).tl⟩)) t (0, 0)) := by
  rw [← bxs2f b x y k hk]
  simp [World.setCell, Array.getElem?_modify, h]
/-- What two boxes have in common; whether they have. -/
def mbO (a b : Nat → R4) : Bool := !emB (fun i => meR (a i) (b i))
def mbV (a b : Nat → R4) : Nat → R4 := if mbO a b then fun i => meR (a i) (b i) else fun _ => zr4
theorem mb_no {a b : Nat → R4} {k : Nat} (hk : k < 6) (h : emR (meR (a k) (b k)) = true) : mbO a b = false ∧ bxc (mbV a b) = bxc (fun _ => zr4) := by
  have : mbO a b = false := by unfold mbO; rw [emB_true (b := fun i => meR (a i) (b i)) hk h]; rfl
  refine ⟨this, ?_⟩
  unfold mbV; rw [this]; rfl
theorem mb_yes {a b c : Nat → R4} (h : ∀ k, k < 6 → emR (meR (a k) (b k)) = false) (hc : ∀ k, k < 6 → c k = meR (a k) (b k)) : mbO a b = true ∧ bxc (mbV a b) = bxc c := by
  have : mbO a b = true := by unfold mbO; rw [emB_false (b := fun i => meR (a i) (b i)) h]; rfl
  refine ⟨this, ?_⟩
  unfold mbV; rw [this, if_pos rfl]; exact bxc_congr (fun k hk => (hc k hk).symm)
theorem upd_step {a a' c : Nat → R4} {k : Nat} (h : ∀ i, i < 6 → a' i = if i < k then c i else a i) (hk : k < 6) : ∀ i, i < 6 → upd a' k (c k) i = if i < k + 1 then c i else a i := by
  intro i hi
  unfold upd
  by_cases e : i = k
  · subst e; rw [if_pos rfl, if_pos (by omega)]
  · rw [if_neg e, h i hi]
    by_cases q : i < k
    · rw [if_pos q, if_pos (by omega)]
    · rw [if_neg q, if_neg (by omega)]
theorem meV_no {r s : R4} (h : emR (meR r s) = true) : meV r s = zr4 := by unfold meV; rw [h]; rfl
theorem meV_yes {r s : R4} (h : emR (meR r s) = false) : meV r s = meR r s := by unfold meV; rw [h]; rfl

set_option maxRecDepth 100000 in
set_option maxHeartbeats 4000000 in
theorem meetBox_any (a b : Nat → R4) (w : World) : Calls Try.prog 52 #[.agg (bxc a), .agg (bxc b)] w fun e w' => e = .returned (.tuple #[.agg (bxc (mbV a b)), .bool (mbO a b)]) ∧ Below w.heap.size w w' := by
  obtain ⟨O, hO⟩ : ∃ R, R = mbO a b := ⟨_, rfl⟩
  obtain ⟨V, hV⟩ : ∃ R, R = bxc (mbV a b) := ⟨_, rfl⟩
  rw [← hO, ← hV]
  have HO := Lib.hid hO; clear hO
  have HV := Lib.hid hV; clear hV
  obtain ⟨C, hC⟩ : ∃ C, C = bxc a := ⟨_, rfl⟩
  obtain ⟨D, hD⟩ : ∃ D, D = bxc b := ⟨_, rfl⟩
  obtain ⟨Z, hZ⟩ : ∃ Z, Z = bxc (fun _ => zr4) := ⟨_, rfl⟩
  have IX := ix_b b
  have i27 := inf27 b
  rw [← hD] at IX i27
  rw [← hC, ← hD]
  have HI := Lib.hid IX; clear IX
  have i27 := Lib.hid i27
  have HC := Lib.hid hC; clear hC
  have HD := Lib.hid hD; clear hD
  have HZ := Lib.hid hZ; clear hZ
  go_enter Try.func52, Try.ntmps52
  have hr : (World.alloc ((w.alloc (.cells C 30)).alloc (.cells D 30)) (.cells #[.int .u64 0, .int .u64 0, .int .u64 0, .int .u64 0, .int .u64 0, .int .u64 0, .int .u64 0, .int .u64 0, .int .u64 0, .int .u64 0, .int .u64 0, .int .u64 0, .int .u64 0, .int .u64 0, .int .u64 0, .int .u64 0, .int .u64 0, .int .u64 0, .int .u64 0, .int .u64 0, .int .u64 0, .int .u64 0, .int .u64 0, .int .u64 0] 30)).heap[w.heap.size + 1]? = some (.cells D 30) := blk_al (al_new (al_size _ _).symm _) _
  go_wp2_with (refine wpList_load_row rfl 28 (.tmp 10) rfl (w.heap.size + 1) rfl 30 D (0, 0) _ hr Try.underlying28 rfl i27.out ?_)
  clear hr
  obtain ⟨w0, hw0⟩ : ∃ w0, w0 = World.alloc ((w.alloc (.cells C 30)).alloc (.cells D 30)) (.cells #[.int .u64 0, .int .u64 0, .int .u64 0, .int .u64 0, .int .u64 0, .int .u64 0, .int .u64 0, .int .u64 0, .int .u64 0, .int .u64 0, .int .u64 0, .int .u64 0, .int .u64 0, .int .u64 0, .int .u64 0, .int .u64 0, .int .u64 0, .int .u64 0, .int .u64 0, .int .u64 0, .int .u64 0, .int .u64 0, .int .u64 0, .int .u64 0] 30) := ⟨_, rfl⟩
  have A0 : w0.heap[w.heap.size]? = some (.cells (bxc a) 30) := by rw [hw0, ← HC.out]; exact blk_al (blk_al (heap_alloc_new w _) _) _
  have A2 : w0.heap[w.heap.size + 2]? = some (.cells Z 30) := by rw [hw0, HZ.out, bxc_zero]; exact al_new (by rw [al_size, al_size]) _
  have b0 : Below w.heap.size w w0 := by rw [hw0]; exact Below.al (Below.al (Below.al (Below.refl _ _) _) _) _
  rw [← hw0]
  clear hw0
  go_loopw [12] (fun v12 wr => ∃ k : Nat, v12 = .int .i64 k ∧ k ≤ 6 ∧ Hid (∀ i, i < k → emR (meR (a i) (b i)) = false) ∧ (∃ a' : Nat → R4, wr.heap[w.heap.size]? = some (.cells (bxc a') 30 (0, 0)) ∧ Hid (∀ i, i < 6 → a' i = if i < k then meR (a i) (b i) else a i)) ∧ wr.heap[w.heap.size + 2]? = some (.cells Z 30 (0, 0)) ∧ Below w.heap.size w wr) (fun v12 _ => 6 - (intOf v12).toNat)
  case atStart => exact ⟨0, rfl, by omega, upto_zero, ⟨a, A0, Lib.hid (fun i hi => by rw [if_neg (Nat.not_lt_zero _)])⟩, A2, b0⟩
  case round =>
    obtain ⟨k, rfl, hk, hF, ⟨a', B0, hA⟩, B2, bw⟩ := hrel
    clear A0 A2 b0
    by_cases hk6 : k < 6
    · have ix := HI.out k hk6
      have hak : a' k = a k := by rw [hA.out k hk6, if_neg (by omega)]
      have cm : ∀ W, _ := fun W => meet_any (a' k) (b k) W
      have hem : meR (a' k) (b k) = meR (a k) (b k) := by rw [hak]
      rw [hem] at cm
      obtain ⟨v, hv⟩ : ∃ v, v = meV (a' k) (b k) := ⟨_, rfl⟩
      rw [← hv] at cm
      have Hv : Hid (v = meV (a k) (b k)) := Lib.hid (by rw [hv, hak])
      clear hv hak hem
      generalize hE : emR (meR (a k) (b k)) = E at cm
      have HE := Lib.hid hE; clear hE
      obtain ⟨y0, y1, y2, y3⟩ := BoxAt.of B0 k hk6
      go_wp2_with fail
      obtain ⟨w4, hw4⟩ : ∃ w4, w4 = wr.alloc (.cells #[.int .u64 (b k).fh, .int .u64 (b k).fl, .int .u64 (b k).th, .int .u64 (b k).tl] 27) := ⟨_, rfl⟩
      obtain ⟨x0, x1, x2, x3⟩ := al_r4 wr (.int .u64 (b k).fh) (.int .u64 (b k).fl) (.int .u64 (b k).th) (.int .u64 (b k).tl) 27
      have C0 : w4.heap[w.heap.size]? = some (.cells (bxc a') 30) := by rw [hw4]; exact blk_al B0 _
      have C2 : w4.heap[w.heap.size + 2]? = some (.cells Z 30) := by rw [hw4]; exact blk_al B2 _
      have b4 : Below w.heap.size w w4 := by rw [hw4]; exact Below.al bw _
      have z0 := keepc (w0 := wr) (by rw [hw4]; exact Below.al (Below.refl _ _) _ : Below wr.heap.size wr w4) y0
      have z1 := keepc (w0 := wr) (by rw [hw4]; exact Below.al (Below.refl _ _) _ : Below wr.heap.size wr w4) y1
      have z2 := keepc (w0 := wr) (by rw [hw4]; exact Below.al (Below.refl _ _) _ : Below wr.heap.size wr w4) y2
      have z3 := keepc (w0 := wr) (by rw [hw4]; exact Below.al (Below.refl _ _) _ : Below wr.heap.size wr w4) y3
      rw [← hw4] at x0 x1 x2 x3 ⊢
      have hC1 : ∀ w', Below w4.heap.size w4 w' → (w'.cell? ⟨w.heap.size, k * 4, none⟩ = some (.int .u64 (a' k).fh) ∧ w'.cell? ⟨w.heap.size, k * 4 + 1, none⟩ = some (.int .u64 (a' k).fl) ∧ w'.cell? ⟨w.heap.size, k * 4 + 2, none⟩ = some (.int .u64 (a' k).th) ∧ w'.cell? ⟨w.heap.size, k * 4 + 3, none⟩ = some (.int .u64 (a' k).tl) ∧ w'.cell? ⟨wr.heap.size, 0, none⟩ = some (.int .u64 (b k).fh) ∧ w'.cell? ⟨wr.heap.size, 1, none⟩ = some (.int .u64 (b k).fl) ∧ w'.cell? ⟨wr.heap.size, 2, none⟩ = some (.int .u64 (b k).th) ∧ w'.cell? ⟨wr.heap.size, 3, none⟩ = some (.int .u64 (b k).tl)) := fun w' h => ⟨keepc h z0, keepc h z1, keepc h z2, keepc h z3, keepc h x0, keepc h x1, keepc h x2, keepc h x3⟩
      clear hw4 x0 x1 x2 x3 y0 y1 y2 y3 z0 z1 z2 z3 B0 B2 bw ix
      go_cut [8, 9] from 13 to 32 (fun v8 v9 wx => ∃ B, v8 = .pointer (some ⟨B, 0, none⟩) ∧ v9 = .bool (!E) ∧ w4.heap.size ≤ B ∧ Below w4.heap.size w4 wx ∧ wx.heap[B]? = some (.cells #[.int .u64 v.fh, .int .u64 v.fl, .int .u64 v.th, .int .u64 v.tl] 27 (0, 0)))
      case first =>
        have hz : ∀ w, (zeroValue 27).run Try.prog w = .ok (.agg #[.int .u64 0, .int .u64 0, .int .u64 0, .int .u64 0]) w := fun w => by kernel_rfl
        refine wp_region_held (S := fun w' => Below w4.heap.size w4 w' ∧ (w'.cell? ⟨w.heap.size, k * 4, none⟩ = some (.int .u64 (a' k).fh) ∧ w'.cell? ⟨w.heap.size, k * 4 + 1, none⟩ = some (.int .u64 (a' k).fl) ∧ w'.cell? ⟨w.heap.size, k * 4 + 2, none⟩ = some (.int .u64 (a' k).th) ∧ w'.cell? ⟨w.heap.size, k * 4 + 3, none⟩ = some (.int .u64 (a' k).tl) ∧ w'.cell? ⟨wr.heap.size, 0, none⟩ = some (.int .u64 (b k).fh) ∧ w'.cell? ⟨wr.heap.size, 1, none⟩ = some (.int .u64 (b k).fl) ∧ w'.cell? ⟨wr.heap.size, 2, none⟩ = some (.int .u64 (b k).th) ∧ w'.cell? ⟨wr.heap.size, 3, none⟩ = some (.int .u64 (b k).tl))) (by kernel_rfl) ?_
        change wpAnyH _ _ _ _ _ _ _ _ (World.drew _)
        have hS0 := keep0 hC1
        generalize w4.drew = wd at hS0 ⊢
        refine wpAnyH_take (i := 0) (oi := ⟨some 17, _, _, _, _, _⟩) (v := ?_) rfl (by kernel_rfl) (by kernel_rfl) (by kernel_rfl) (fun _ _ _ h => h) (Or.inl ⟨by rfl, ?_⟩) hS0 ?_
        rotate_left 1
        · intro W hW
          obtain ⟨hW0, hW1, hW2, hW3, hW4, hW5, hW6, hW7, hW8⟩ := hW
          go_simp
          with_reducible rfl
        refine wpAnyH_take (i := 1) (oi := ⟨some 18, _, _, _, _, _⟩) (v := ?_) rfl (by kernel_rfl) (by kernel_rfl) (by kernel_rfl) (fun _ _ _ h => h) (Or.inl ⟨by rfl, ?_⟩) hS0 ?_
        rotate_left 1
        · intro W hW
          obtain ⟨hW0, hW1, hW2, hW3, hW4, hW5, hW6, hW7, hW8⟩ := hW
          go_simp
          with_reducible rfl
        refine wpAnyH_take (i := 2) (oi := ⟨some 19, _, _, _, _, _⟩) (v := ?_) rfl (by kernel_rfl) (by kernel_rfl) (by kernel_rfl) (fun _ _ _ h => h) (Or.inl ⟨by rfl, ?_⟩) hS0 ?_
        rotate_left 1
        · intro W hW
          obtain ⟨hW0, hW1, hW2, hW3, hW4, hW5, hW6, hW7, hW8⟩ := hW
          go_simp
          with_reducible rfl
        refine wpAnyH_take (i := 3) (oi := ⟨some 20, _, _, _, _, _⟩) (v := ?_) rfl (by kernel_rfl) (by kernel_rfl) (by kernel_rfl) (fun _ _ _ h => h) (Or.inl ⟨by rfl, ?_⟩) hS0 ?_
        rotate_left 1
        · intro W hW
          obtain ⟨hW0, hW1, hW2, hW3, hW4, hW5, hW6, hW7, hW8⟩ := hW
          go_simp
          with_reducible rfl
        refine wpAnyH_take (i := 4) (oi := ⟨some 21, _, _, _, _, _⟩) (v := ?_) rfl (by kernel_rfl) (by kernel_rfl) (by kernel_rfl) (fun _ _ _ h => h) (Or.inl ⟨by rfl, ?_⟩) hS0 ?_
        rotate_left 1
        · intro W hW
          obtain ⟨hW0, hW1, hW2, hW3, hW4, hW5, hW6, hW7, hW8⟩ := hW
          go_simp
          with_reducible rfl
        refine wpAnyH_ready (rs := [5, 9]) (by kernel_rfl) (by simp) ?_
        refine AllReadyH.cons (o := ⟨some 22, _, _, _, _, _⟩) rfl (fun K hK => ?_) (AllReadyH.cons (o := ⟨some 8, _, _, _, _, _⟩) rfl (fun K hK => ?_) AllReadyH.nil)
        · go_simp
          go_at_call 57
          refine (cm _).mono ?_
          rintro e w20 ⟨rfl, hb20⟩
          have hS20 := keepB hC1 hb20 hS0
          refine hK.out _ _ hS20 (fun _ => ?_)
          clear hK K
          refine wpAnyH_take (i := 6) (oi := ⟨some 16, _, _, _, _, _⟩) (v := ?_) rfl (by kernel_rfl) (by kernel_rfl) (by kernel_rfl) (fun _ _ _ h => h) (Or.inl ⟨by rfl, ?_⟩) hS20 ?_
          rotate_left 1
          · intro W hW
            obtain ⟨hW0, hW1, hW2, hW3, hW4, hW5, hW6, hW7, hW8⟩ := hW
            go_simp
            with_reducible rfl
          refine wpAnyH_take (i := 7) (oi := ⟨some 23, _, _, _, _, _⟩) (v := ?_) rfl (by kernel_rfl) (by kernel_rfl) (by kernel_rfl) (fun _ _ _ h => h) (Or.inl ⟨by rfl, ?_⟩) hS20 ?_
          rotate_left 1
          · intro W hW
            obtain ⟨hW0, hW1, hW2, hW3, hW4, hW5, hW6, hW7, hW8⟩ := hW
            go_simp
            with_reducible rfl
          refine wpAnyH_take (i := 8) (oi := ⟨some 24, _, _, _, _, _⟩) (v := ?_) rfl (by kernel_rfl) (by kernel_rfl) (by kernel_rfl) (fun _ _ _ h => h) (Or.inl ⟨by rfl, ?_⟩) hS20 ?_
          rotate_left 1
          · intro W hW
            obtain ⟨hW0, hW1, hW2, hW3, hW4, hW5, hW6, hW7, hW8⟩ := hW
            go_simp
            with_reducible rfl
          refine wpAnyH_ready (rs := [9]) (by kernel_rfl) (by simp) ?_
          refine AllReadyH.cons (o := ⟨some 8, _, _, _, _, _⟩) rfl (fun K hK => ?_) AllReadyH.nil
          refine step_alloc rfl 27 rfl #[.int .u64 0, .int .u64 0, .int .u64 0, .int .u64 0] hz (fun w21 B hV hb21 hg21 => ?_)
          have hS21 := keepB hC1 hb21 hS20
          have hBs : w4.heap.size ≤ B := Nat.le_trans hS20.1.size hg21
          refine hK.out _ _ hS21 (fun _ => ?_)
          clear hK K
          refine wpAnyH_ready (rs := [10]) (by kernel_rfl) (by simp) ?_
          refine AllReadyH.cons (o := ⟨none, _, _, _, _, _⟩) rfl (fun K hK => ?_) AllReadyH.nil
          refine step_store_row rfl 27 (.tmp 8) (.tmp 23) rfl B #[.int .u64 v.fh, .int .u64 v.fl, .int .u64 v.th, .int .u64 v.tl] rfl rfl 27 #[.int .u64 0, .int .u64 0, .int .u64 0, .int .u64 0] hV (by kernel_rfl) rfl (by kernel_rfl) ?_
          have hSz := keepS hC1 (Below.setRow hS21.1 hBs #[.int .u64 v.fh, .int .u64 v.fl, .int .u64 v.th, .int .u64 v.tl])
          refine hK.out _ _ hSz (fun _ => ?_)
          clear hK K
          refine wpAnyH_take (i := 11) (oi := ⟨some 9, _, _, _, _, _⟩) (v := ?_) rfl (by kernel_rfl) (by kernel_rfl) (by kernel_rfl) (fun _ _ _ h => h) (Or.inl ⟨by rfl, ?_⟩) hSz ?_
          rotate_left 1
          · intro W hW
            obtain ⟨hW0, hW1, hW2, hW3, hW4, hW5, hW6, hW7, hW8⟩ := hW
            go_simp
            with_reducible rfl
          refine wpAnyH_done (by kernel_rfl) ?_ _
          simp only [Act.put, List.setIfInBounds_toArray, List.set_cons_succ, List.set_cons_zero]
          go_wp2_with fail
          go_meet
          exact ⟨B, rfl, rfl, hBs, Below.setRow hS21.1 hBs _, blk_setRow hV _⟩
        · refine step_alloc rfl 27 rfl #[.int .u64 0, .int .u64 0, .int .u64 0, .int .u64 0] hz (fun w20 B hV hb20 hg20 => ?_)
          have hS20 := keepB hC1 hb20 hS0
          have hBs : w4.heap.size ≤ B := Nat.le_trans hS0.1.size hg20
          refine hK.out _ _ hS20 (fun _ => ?_)
          clear hK K
          refine wpAnyH_ready (rs := [5]) (by kernel_rfl) (by simp) ?_
          refine AllReadyH.cons (o := ⟨some 22, _, _, _, _, _⟩) rfl (fun K hK => ?_) AllReadyH.nil
          go_simp
          go_at_call 57
          refine (cm _).mono ?_
          rintro e w21 ⟨rfl, hb21⟩
          have hS21 := keepB hC1 hb21 hS20
          have hV := hV_keep hb21 hV
          refine hK.out _ _ hS21 (fun _ => ?_)
          clear hK K
          refine wpAnyH_take (i := 6) (oi := ⟨some 16, _, _, _, _, _⟩) (v := ?_) rfl (by kernel_rfl) (by kernel_rfl) (by kernel_rfl) (fun _ _ _ h => h) (Or.inl ⟨by rfl, ?_⟩) hS21 ?_
          rotate_left 1
          · intro W hW
            obtain ⟨hW0, hW1, hW2, hW3, hW4, hW5, hW6, hW7, hW8⟩ := hW
            go_simp
            with_reducible rfl
          refine wpAnyH_take (i := 7) (oi := ⟨some 23, _, _, _, _, _⟩) (v := ?_) rfl (by kernel_rfl) (by kernel_rfl) (by kernel_rfl) (fun _ _ _ h => h) (Or.inl ⟨by rfl, ?_⟩) hS21 ?_
          rotate_left 1
          · intro W hW
            obtain ⟨hW0, hW1, hW2, hW3, hW4, hW5, hW6, hW7, hW8⟩ := hW
            go_simp
            with_reducible rfl
          refine wpAnyH_take (i := 8) (oi := ⟨some 24, _, _, _, _, _⟩) (v := ?_) rfl (by kernel_rfl) (by kernel_rfl) (by kernel_rfl) (fun _ _ _ h => h) (Or.inl ⟨by rfl, ?_⟩) hS21 ?_
          rotate_left 1
          · intro W hW
            obtain ⟨hW0, hW1, hW2, hW3, hW4, hW5, hW6, hW7, hW8⟩ := hW
            go_simp
            with_reducible rfl
          refine wpAnyH_ready (rs := [10]) (by kernel_rfl) (by simp) ?_
          refine AllReadyH.cons (o := ⟨none, _, _, _, _, _⟩) rfl (fun K hK => ?_) AllReadyH.nil
          refine step_store_row rfl 27 (.tmp 8) (.tmp 23) rfl B #[.int .u64 v.fh, .int .u64 v.fl, .int .u64 v.th, .int .u64 v.tl] rfl rfl 27 #[.int .u64 0, .int .u64 0, .int .u64 0, .int .u64 0] hV (by kernel_rfl) rfl (by kernel_rfl) ?_
          have hSz := keepS hC1 (Below.setRow hS21.1 hBs #[.int .u64 v.fh, .int .u64 v.fl, .int .u64 v.th, .int .u64 v.tl])
          refine hK.out _ _ hSz (fun _ => ?_)
          clear hK K
          refine wpAnyH_take (i := 11) (oi := ⟨some 9, _, _, _, _, _⟩) (v := ?_) rfl (by kernel_rfl) (by kernel_rfl) (by kernel_rfl) (fun _ _ _ h => h) (Or.inl ⟨by rfl, ?_⟩) hSz ?_
          rotate_left 1
          · intro W hW
            obtain ⟨hW0, hW1, hW2, hW3, hW4, hW5, hW6, hW7, hW8⟩ := hW
            go_simp
            with_reducible rfl
          refine wpAnyH_done (by kernel_rfl) ?_ _
          simp only [Act.put, List.setIfInBounds_toArray, List.set_cons_succ, List.set_cons_zero]
          go_wp2_with fail
          go_meet
          exact ⟨B, rfl, rfl, hBs, Below.setRow hS21.1 hBs _, blk_setRow hV _⟩

      case rest =>
        obtain ⟨B, rfl, rfl, hBs, hbx, hVB⟩ := hcut
        have D0 := blkB hbx C0
        have D2 := blkB hbx C2
        have b5 := bel_via b4 hbx
        have hlt := blk_lt C2
        clear hC1 C0 C2 b4 hbx cm
        cases E with
        | true =>
          obtain ⟨e1, e2⟩ := mb_no hk6 HE.out
          obtain rfl : O = false := by rw [HO.out]; exact e1
          have hvz : V = #[.int .u64 0, .int .u64 0, .int .u64 0, .int .u64 0, .int .u64 0, .int .u64 0, .int .u64 0, .int .u64 0, .int .u64 0, .int .u64 0, .int .u64 0, .int .u64 0, .int .u64 0, .int .u64 0, .int .u64 0, .int .u64 0, .int .u64 0, .int .u64 0, .int .u64 0, .int .u64 0, .int .u64 0, .int .u64 0, .int .u64 0, .int .u64 0] := by rw [HV.out, e2, bxc_zero]
          have HVz := Lib.hid hvz
          have hZz : Z = V := by rw [HZ.out, HV.out, e2]
          have i29 : (Try.prog.info? 30).map (·.size) = some V.size := by rw [HV.out]; exact inf29 _
          have i1 : V.all (·.oneCell') = true := by rw [HV.out]; exact bx_one _
          have D2' : wc.heap[w.heap.size + 2]? = some (.cells V 30) := by rw [← hZz]; exact D2
          have i29 := Lib.hid i29
          have i1 := Lib.hid i1
          clear e1 e2 hvz HO HE hF hA hZz D2
          go_wp2_with (refine wpList_store_row rfl 30 (.tmp 4) (.tmp 27) rfl (w.heap.size + 2) V rfl (by rw [HVz.out]; rfl) 30 V D2' i29.out rfl i1.out ?_)
          refine bodyPost_ret_by (res_row Try.results52 _ _ (w.heap.size + 2) 30 V _ rfl (blk_setRow D2' V) Try.underlying30 i29.out) rfl ⟨rfl, Below.setRow b5 (by omega) _⟩
        | false =>
          obtain rfl : v = meR (a k) (b k) := by rw [Hv.out]; exact meV_yes HE.out
          have HF := upto_succ (P := fun i => emR (meR (a i) (b i)) = false) hF HE.out
          obtain ⟨q0, q1, q2, q3⟩ := cells4 hVB
          obtain ⟨u0, u1, u2, u3⟩ := BoxAt.of D0 k hk6
          have f0 := fr4 D0
          have HA := Lib.hid (upd_step (c := fun i => meR (a i) (b i)) hA.out hk6)
          have D0s := bset4 D0 k hk6 (meR (a k) (b k))
          have D0s := Lib.hid D0s
          have hne : w.heap.size + 2 ≠ w.heap.size := by omega
          clear hF hA HE Hv
          go_wp2
          exact ⟨⟨k + 1, by simp, by omega, HF, ⟨_, D0s.out, HA⟩, by rw [set_other hne, set_other hne, set_other hne, set_other hne]; exact D2, below_set (below_set (below_set (below_set b5 (Nat.le_refl _) _ _) (Nat.le_refl _) _ _) (Nat.le_refl _) _ _) (Nat.le_refl _) _ _⟩, by simp [intOf]; omega⟩
    · obtain rfl : k = 6 := by omega
      obtain ⟨e1, e2⟩ := mb_yes (c := a') hF.out (fun i hi => by rw [hA.out i hi, if_pos hi])
      obtain rfl : O = true := by rw [HO.out]; exact e1
      have hVz : bxc a' = V := by rw [HV.out, e2]
      rw [hVz] at B0
      have i29 : (Try.prog.info? 30).map (·.size) = some V.size := by rw [HV.out]; exact inf29 _
      have i1 : V.all (·.oneCell') = true := by rw [HV.out]; exact bx_one _
      have isz : Z.size = V.size := by rw [HZ.out, HV.out]; rfl
      have i29 := Lib.hid i29
      have i1 := Lib.hid i1
      have isz := Lib.hid isz
      clear e1 e2 hVz hF hA
      go_wp2_with (first
        | (refine wpList_load_row rfl 30 (.tmp 2) rfl w.heap.size rfl 30 V (0, 0) _ B0 Try.underlying30 rfl i29.out ?_)
        | (refine wpList_store_row rfl 30 (.tmp 4) (.tmp 33) rfl (w.heap.size + 2) V rfl rfl 30 Z B2 i29.out isz.out i1.out ?_))
      refine bodyPost_ret_by (res_row Try.results52 _ _ (w.heap.size + 2) 30 V _ rfl (blk_setRow B2 V) Try.underlying30 i29.out) rfl ⟨rfl, Below.setRow bw (by omega) _⟩

end Go.Proofs.Ytomennaekjklbaa
