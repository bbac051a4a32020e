/- What the store's laws share; by-name template. -/
import Derived.Test.YtikaeblmjlfgcaaDone
import Derived.Test.YtikaeblmjlfgcaaTheirs
import Derived.Test.YtikaeblmjlfgcaaRefCheck
import Derived.Test.YtikaeblmjlfgcaaFew
namespace Go.Proofs.Ytikaeblmjlfgcaa
open Go.RowKit
set_option linter.unusedVariables false

/-- Values that tell what this disk holds. -/
def VOf (C : Array Value) (D : DS) (m : Int) : Prop := ∃ f N, C = vcells f N ∧ (∀ j, j < 8 → getv D j = f j) ∧ (root D).n = N ∧ 0 ≤ N ∧ N ≤ m

theorem VOf.same {C : Array Value} {D D' : DS} {m : Int} (h : VOf C D m) (hg : ∀ s : Nat, getv D' s = getv D s) (hn : (root D').n = (root D).n) : VOf C D' m := by
  obtain ⟨f, N, rfl, hf, hN, h0, h1⟩ := h
  exact ⟨f, N, rfl, fun j hj => (hg j).trans (hf j hj), hn.trans hN, h0, h1⟩
theorem VOf.mono {C : Array Value} {D : DS} {m m' : Int} (h : VOf C D m) (hm : m ≤ m') : VOf C D m' := by
  obtain ⟨f, N, rfl, hf, hN, h0, h1⟩ := h
  exact ⟨f, N, rfl, hf, hN, h0, by omega⟩
theorem VOf.size {C : Array Value} {D : DS} {m : Int} (h : VOf C D m) : C.size = 17 := by
  obtain ⟨f, N, rfl, _⟩ := h
  exact vcells_size f N
theorem VOf.info {C : Array Value} {D : DS} {m : Int} (h : VOf C D m) : (Try.prog.info? 33).map (·.size) = some C.size := by
  obtain ⟨f, N, rfl, _⟩ := h
  exact vcells_info f N
theorem VOf.one {C : Array Value} {D : DS} {m : Int} (h : VOf C D m) : C.all (·.oneCell') = true := by
  obtain ⟨f, N, rfl, _⟩ := h
  exact vcells_one f N

theorem afterF_congr {s : Nat} : ∀ (L : List Pt) (f g : Nat → Option ByteArray), f s = g s → afterF f L s = afterF g L s
  | [], f, g, h => h
  | p :: L, f, g, h => by
    show afterF (upd f p) L s = afterF (upd g p) L s
    refine afterF_congr L _ _ ?_
    unfold upd
    rw [h]

theorem root_new : root D0 = RS0 := by
  unfold root rootOf
  rw [sec_new]
  rfl
theorem vnew_of : VOf (vcells (fun _ => none) 0) D0 0 := by
  refine ⟨_, _, rfl, fun j hj => ?_, ?_, by decide, by decide⟩
  · unfold getv
    rw [root_new]
    exact if_pos ((show ∀ j, j < 8 → place RS0 j = List.replicate 8 0 by decide) j hj)
  · rw [root_new]
    rfl

theorem same_at {w : World} {S B : Nat} {D : DS} {C : Array Value} {m : Int} (hS : StoreAt w S B B) (hD : DiskAt w B D) (hsm : Small D) (hC : VOf C D m) (hm : m < 1000000000) :
    Calls Try.prog 15 #[.pointer (some ⟨S, 0, none⟩), .agg C] w fun e w' => e = .returned (.bool true) ∧ Below w.heap.size w w' := by
  obtain ⟨f, N, rfl, hf, hN, h0, h1⟩ := hC
  exact same_any hS hD hsm f hf hN h0 (by omega)

def AfterPost (D' : DS) (m : Int) (w : World) (e : Ending) (w' : World) : Prop := ∃ C', e = .returned (.agg C') ∧ VOf C' D' (m + 1) ∧ Below w.heap.size w w'
theorem after_at {a : Option Addr} {L : List Pt} (cap : Nat) {w : World} {D D' : DS} {C : Array Value} {m m' : Int} (h : PutsAt w a L) (hC : VOf C D m) (hm : m < 1000000000) (hd : Done D m' L 0 D') (hL : L ≠ []) :
    Calls Try.prog 13 #[.agg C, .slice a L.length cap] w (AfterPost D' m w) := by
  obtain ⟨f, N, rfl, hf, hN, h0, h1⟩ := hC
  obtain ⟨k1, k2, k3⟩ := (hd.chk (by decide)).ok rfl
  refine (after_any cap h k1 f h0 (by omega)).mono fun e w' ⟨he, hb⟩ => ⟨_, he, ?_, hb⟩
  obtain ⟨_, _, hn, hg⟩ := hd.new rfl hL
  refine ⟨_, _, rfl, fun j hj => ?_, ?_, by omega, by omega⟩
  · rw [hg j hj]
    exact afterF_congr L _ _ (hf j hj)
  · rw [hn, hN]
    unfold bump
    rw [if_neg (by omega)]

/-! rows of steps that the law builds -/
def stcells (V : List Value) : List Value := V.flatMap fun v => [.int .i64 0, .int .i64 0, v]
theorem stcells_get : ∀ (V : List Value) (i : Nat) (v : Value), V[i]? = some v → (stcells V)[i * 3 + 2]? = some v
  | [], i, v, h => by simp at h
  | u :: V, 0, v, h => by
    simp at h
    subst h
    rfl
  | u :: V, i + 1, v, h => by
    have ih := stcells_get V i v (by simpa using h)
    show ([_, _, _] ++ stcells V)[_]? = _
    rw [List.getElem?_append_right (by simp; omega), ← ih]
    congr 1
    simp
    omega
theorem stcells_snoc (V : List Value) (v : Value) : stcells V ++ [.int .i64 0, .int .i64 0, v] = stcells (V ++ [v]) := by simp [stcells]
theorem stcells_len (V : List Value) : (stcells V).length = V.length * 3 := by
  induction V with
  | nil => rfl
  | cons p L ih => show ([_, _, _] ++ stcells L).length = _; simp [ih]; omega

/-- These values are slices that hold these lists of puts. -/
def SlOf (w : World) (V : List Value) (X : List (List Pt)) : Prop := V.length = X.length ∧ ∀ (i : Nat) (M : List Pt), X[i]? = some M → ∃ a cap, V[i]? = some (Value.slice a M.length cap) ∧ PutsAt w a M
theorem SlOf.snoc {w : World} {V : List Value} {X : List (List Pt)} (h : SlOf w V X) {a : Option Addr} {cap : Nat} {M : List Pt} (hM : PutsAt w a M) : SlOf w (V ++ [Value.slice a M.length cap]) (X ++ [M]) := by
  refine ⟨by simp [h.1], fun i K hi => ?_⟩
  by_cases hl : i < X.length
  · rw [List.getElem?_append_left hl] at hi
    obtain ⟨a', cap', h1, h2⟩ := h.2 i K hi
    exact ⟨a', cap', by rw [List.getElem?_append_left (by rw [h.1]; exact hl)]; exact h1, h2⟩
  · rw [List.getElem?_append_right (by omega)] at hi
    have e : i - X.length = 0 := by
      have := (List.getElem?_eq_some_iff.1 hi).1
      simp at this
      omega
    rw [e] at hi
    simp at hi
    subst hi
    refine ⟨a, cap, ?_, hM⟩
    rw [List.getElem?_append_right (by rw [h.1]; omega), h.1, e]
    rfl
theorem SlOf.below {w w' : World} {V : List Value} {X : List (List Pt)} (h : SlOf w V X) {N : Nat} (hw : Below N w w') (hN : w.heap.size ≤ N) : SlOf w' V X := by
  refine ⟨h.1, fun i M hi => ?_⟩
  obtain ⟨a, cap, h1, h2⟩ := h.2 i M hi
  exact ⟨a, cap, h1, h2.below hw hN⟩

/-- A row that the law owns, of steps, reads as their lists. -/
theorem rows_of_row {w w0 : World} {base : Nat} {e : TypeId} {v : Value} {V : List Value} {X : List (List Pt)} (h : w.ownsRow base e 3 v V.length (stcells V)) (hX : SlOf w0 V X) (hb : Below w0.heap.size w0 w) (hl : X.length ≤ 9223372036854775807) :
    ∃ a cap, v = .slice a X.length cap ∧ RowsAt w 3 2 a X := by
  rcases h.2 with ⟨rfl, h0⟩ | ⟨g, cap, cur, rfl, hbg, hg, hnc, hcm, hcs, htake⟩
  · have hx : X = [] := List.length_eq_zero_iff.1 (by rw [← hX.1, h0])
    subst hx
    exact ⟨none, 0, rfl, by simp, fun i p hi => by simp at hi⟩
  · refine ⟨some ⟨g, 0, none⟩, cap, by rw [hX.1], hl, fun i M hi => ?_⟩
    obtain ⟨a, cap', h1, h2⟩ := hX.2 i M hi
    have hil : i < V.length := (List.getElem?_eq_some_iff.1 h1).1
    refine ⟨g, 0, a, cap', rfl, (Array.getElem?_eq_some_iff.1 hg).1, ?_, h2.below hb (Nat.le_refl _)⟩
    have e1 : w.cell? ⟨g, 0 + i * 3 + 2, none⟩ = cur[0 + i * 3 + 2]? := by simp [World.cell?, hg]
    have e2 : (cur.toList.take (V.length * 3))[i * 3 + 2]? = cur.toList[i * 3 + 2]? := List.getElem?_take_of_lt (by omega)
    rw [e1, Nat.zero_add]
    rw [htake, stcells_get V i _ h1] at e2
    simpa using e2.symm

theorem step_info : (Try.prog.info? 26).map (fun i => (i.zero, i.size, i.bytes)) = some (some (.agg #[.int .i64 0, .int .i64 0, .slice none 0 0]), 3, 40) := by kernel_rfl
theorem Blk.off2 {w w' : World} {B S b : Nat} {cs : Array Value} {t : TypeId} (h : Blk w b cs t) (hw : Off2 B S w w') (h1 : b ≠ B) (h2 : b ≠ S) : Blk w' b cs t := by
  unfold Blk
  rw [hw.block b h.lt h1 h2]
  exact h
theorem RowsAt.at1 {w : World} {a : Option Addr} {X : List (List Pt)} (h : RowsAt w 1 0 a X) {k : Nat} (hk : k < X.length) : ∃ b off a' cap' L, a = some ⟨b, off, none⟩ ∧ b < w.heap.size ∧ X[k]? = some L ∧ w.cell? ⟨b, off + k, none⟩ = some (.slice a' L.length cap') ∧ PutsAt w a' L := by
  obtain ⟨b, off, a', cap', L, h1, h2, h3, h4, h5⟩ := h.get hk
  exact ⟨b, off, a', cap', L, h1, h2, h3, by simpa using h4, h5⟩
theorem Blk.setRow {w : World} {b : Nat} {cs C : Array Value} {t : TypeId} (h : Blk w b cs t) : Blk (w.setRow b C) b C t := by
  unfold Blk World.setRow
  unfold Blk at h
  simp [Array.getElem?_modify, h]
theorem wpList_load_row_on {P : Program} {ops : Array Oper} {rest : List Oper} {o : Oper} {a : Act} {w : World} {Q : Exit → Act → World → Prop} (hgd : Region.wanted o (yielded ops a.tmps) = true) (ty : TypeId) (x : Operand) (ho : o.op = .load ty x)
    (g : Nat) (hx : a.eval x = .pointer (some ⟨g, 0, none⟩)) (t : TypeId) (cs : Array Value) (fr : Nat × Nat) (d : TypeDesc) (hg : w.heap[g]? = some (.cells cs t fr))
    (hu : P.underlying ty = some d) (hd : (match d with | .struct _ | .array _ _ => true | _ => false) = true) (hi : (P.info? ty).map (·.size) = some cs.size)
    (h : wpList P ops Q rest (a.put o.dst (.agg cs)) w) : wpList P ops Q (o :: rest) a w :=
  wpList_step fun K hK => by
    rw [if_pos hgd]
    exact wp_load_row ty x ho g hx t cs fr d hg hu hd hi (hK _ _ h)
theorem DiskAt.setRow {w : World} {b B : Nat} {C : Array Value} {D : DS} (h : DiskAt w B D) (hb : b ≠ B) : DiskAt (w.setRow b C) B D := by
  refine ⟨h.1, ?_⟩
  have := h.2
  unfold World.setRow
  simp only [Array.getElem?_modify, if_neg hb]
  exact this
end Go.Proofs.Ytikaeblmjlfgcaa
