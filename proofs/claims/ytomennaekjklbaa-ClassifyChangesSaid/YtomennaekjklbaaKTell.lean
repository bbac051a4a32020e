/- A tree's leaves are told; how many nodes it has; by-name template. -/
import Derived.RangeFuncNested
import Derived.RangeFuncBound
import Derived.RangeFuncCalls
import Derived.RangeFuncLeaves
import Derived.RangeFuncFrom
import Derived.Shelf.Abstract
import Derived.Shelf.RegionOpen
import Derived.OwnWalkIn
import Derived.TacticsInMore
import Derived.LoopNIn
import Derived.LoopIn
import Derived.Test.YtomennaekjklbaaKLoad
import Derived.Test.YtomennaekjklbaaKBuild
namespace Go.Proofs.Ytomennaekjklbaa
open Go.RowKit Go.Shelf
set_option linter.unusedVariables false
set_option linter.unusedSimpArgs false
attribute [local go_sem] Oper.semAt_some

theorem room_of_none {F : Fence} (hd : F.depth = none) (k : Nat) : F.room k := fun d h => by rw [hd] at h; cases h
theorem RoundIn.anyDepth {F : Fence} (hd : F.depth = none) {m m' : Nat} {P : Program} {l : Nat} {f : FuncId} {tmps : Array Value} {assign body : Code} {w : World} {R : Ending → World → Prop}
    (h : RoundIn F m P l f tmps assign body w R) : RoundIn F m' P l f tmps assign body w R := ⟨h.1, fun c cs _ => h.2 c cs (room_of_none hd _)⟩
theorem YieldAt.anyDepth {F : Fence} (hd : F.depth = none) {m : Nat} (m' : Nat) {P : Program} {l : Nat} {args : Array Value} {W : World} {R : Ending → World → Prop} (h : YieldAt F m P l args W R) : YieldAt F m' P l args W R := by
  obtain ⟨fn, tmps, assign, body, hy, hR⟩ := h
  exact ⟨fn, tmps, assign, body, hy, RoundIn.anyDepth hd hR⟩

theorem wpListIn_load_node {F : Fence} {n : Nat} {ops : Array Oper} {rest : List Oper} {op : Oper} {a : Act} {w : World} {Q : Exit → Act → World → Prop} (hgd : Region.wanted op (yielded ops a.tmps) = true) (x : Operand) (ho : op.op = .load 51 x)
    (ad : Addr) (hx : a.eval x = .pointer (some ad)) (v : Value) (hv : w.cell? ad = some v)
    (h : wpListIn F n Try.prog ops Q rest (a.put op.dst v) w) : wpListIn F n Try.prog ops Q (op :: rest) a w := by
  refine wpListIn_step fun K hK' => ?_
  rw [if_pos hgd]
  unfold Oper.wpIn
  refine ⟨?_, ?_⟩
  · simp [Oper.about, ho]
  · rw [Oper.semAt_plain F _ _ (by rw [ho]; intro c hc'; cases hc')]
    rw [exec_node x ho ad hx v hv]
    exact hK' _ _ h

def TN.leaves : TN → Nat
  | .leaf _ => 1
  | .inner _ _ _ lo hi => lo.leaves + hi.leaves
theorem TN.count_leaves : ∀ t : TN, t.count + 1 = 2 * t.leaves
  | .leaf _ => rfl
  | .inner _ _ _ lo hi => by
    have h1 := TN.count_leaves lo
    have h2 := TN.count_leaves hi
    simp only [TN.count, TN.leaves]; omega
/-- A node's value, of whatever entries. -/
def NodeV : TN → TypeId → Value → Prop
  | .leaf _, ty, x => ty = 99 ∧ ∃ A n c, x = .agg #[.slice A n c]
  | .inner _ _ bx lo hi, ty, x => ty = 103 ∧ ∃ t1 x1 t2 x2, x = .agg (inA bx (.iface t1 x1) (.iface t2 x2)) ∧ NodeV lo t1 x1 ∧ NodeV hi t2 x2
theorem NodeAt.nodeV {G : Nat} {w : World} : ∀ {t : TN} {ty : TypeId} {x : Value}, NodeAt G w t (.iface ty x) → NodeV t ty x
  | .leaf _, _, _, ⟨A, c, e, _⟩ => by cases e; exact ⟨rfl, _, _, _, rfl⟩
  | .inner _ _ bx lo hi, _, _, ⟨v1, v2, e, h1, h2⟩ => by
    obtain ⟨t1, x1, rfl⟩ := h1.form
    obtain ⟨t2, x2, rfl⟩ := h2.form
    cases e
    exact ⟨rfl, _, _, _, _, rfl, h1.nodeV, h2.nodeV⟩
def tellF : TN → Nat
  | .leaf _ => 106
  | .inner .. => 110
def tyF : TN → TypeId
  | .leaf _ => 99
  | .inner .. => 103
theorem NodeV.ty : ∀ {t : TN} {ty : TypeId} {x : Value}, NodeV t ty x → ty = tyF t
  | .leaf _, _, _, h => h.1
  | .inner .., _, _, h => h.1
theorem abides_below {J : List Value → World → Prop} {B : Nat} (hJ : AbidesFrom B J) {pre : List Value} {W W' : World} (h : J pre W) (hb : Below W.heap.size W W') : J pre W' :=
  hJ pre W W' none h ⟨hb.os, hb.tape, hb.output, hb.size, fun k hk _ => hb.block k hk⟩ (fun r h => by cases h)
/-- All blocks of cells but L stay. -/
structure KeepL (L : Nat) (W W' : World) : Prop where
  size : W.heap.size ≤ W'.heap.size
  same : ∀ b cs t fr, b ≠ L → W.heap[b]? = some (.cells cs t fr) → W'.heap[b]? = some (.cells cs t fr)
theorem KeepL.trans {L : Nat} {A B C : World} (h : KeepL L A B) (k : KeepL L B C) : KeepL L A C := ⟨Nat.le_trans h.size k.size, fun b cs t fr hb hc => k.same b cs t fr hb (h.same b cs t fr hb hc)⟩
theorem KeepL.refl (L : Nat) (W : World) : KeepL L W W := ⟨Nat.le_refl _, fun _ _ _ _ _ h => h⟩
theorem KeepL.of {L : Nat} {W W' : World} (h : Below W.heap.size W W') : KeepL L W W' := ⟨h.size, fun b cs t fr _ hc => blkB h hc⟩
theorem KeepL.set {L : Nat} {W : World} (o : Nat) (v : Value) : KeepL L W (W.setCell ⟨L, o, none⟩ v) := ⟨by simp [World.setCell], fun b cs t fr hb hc => by rw [set_other hb]; exact hc⟩
theorem KeepL.put {L : Nat} (W : World) (l : Nat) (o o' : Obj) (h : W.heap[l]? = some o) (hc : o.isCells = false) : KeepL L W (W.putObj l o') := by
  refine ⟨by simp [World.putObj], fun b cs t fr hb hx => ?_⟩
  have hne : b ≠ l := fun e => by subst e; rw [h] at hx; cases hx; simp [Obj.isCells] at hc
  simp only [World.putObj]
  first | (rw [Array.getElem?_setIfInBounds_ne (Ne.symm hne)]; exact hx) | (rw [Array.getElem?_set_ne]; exact hx) | (simp [Array.getElem?_modify, hne, hx]) | (simp [Array.getElem?_setIfInBounds, Ne.symm hne, hx])
def TellPost (L : Nat) (J Jx : List Value → World → Prop) (pre : List Value) (N : Nat) (W : World) (e : Ending) (W' : World) : Prop :=
  (e = .returned (.bool true) ∧ (∃ q : List Value, q.length = N ∧ J (pre ++ q) W') ∧ KeepL L W W') ∨ (e = .returned (.bool false) ∧ ∃ q, Jx q W')

set_option maxRecDepth 100000 in
set_option maxHeartbeats 2000000 in
theorem leaf_tell (F : Fence) (hd : F.depth = none) (h1 : F.fn 106) (hro : F.round = none) (l L N B : Nat) (J Jx : List Value → World → Prop) (hJ : AbidesFrom B J)
    (hY : ∀ m pre x W, J pre W → pre.length < N → YieldAt F m Try.prog l #[x] W fun e W' => (e = .returned (.bool true) ∧ J (pre ++ [x]) W' ∧ KeepL L W W') ∨ (e = .returned (.bool false) ∧ Jx (pre ++ [x]) W'))
    (n : Nat) (A : Option Addr) (k c : Nat) (pre : List Value) (W : World) (hp : J pre W) (hN : pre.length < N) :
    CallsIn F n Try.prog 106 #[.agg #[.slice A k c], .func (.yield l) #[] #[]] W (TellPost L J Jx pre 1 W) := by
  have hdd : ∀ k : Nat, (F.depth.isSome = true → 1 ≤ k) := fun k h => by rw [hd] at h; cases h
  have b0 := Below.al (Below.refl W.heap.size W) (.cells #[.slice A k c] 99)
  obtain ⟨fn, tmps, assign, body, hy, hR⟩ := hY (n - 1) pre (.agg #[.slice A k c]) (W.alloc (.cells #[.slice A k c] 99)) (abides_below hJ hp b0) hN
  unfold TellPost
  refine callsIn_of_wp Try.func106 rfl h1 ?_ hro
  simp only [Try.ntmps106, List.size_toArray, List.length_cons, List.length_nil, Nat.reduceAdd, Nat.reduceSub, Array.replicate_succ, Array.replicate_zero, List.push_toArray, List.append_toArray, List.nil_append, List.cons_append]
  gi_wp2_with ((try refine ⟨hdd _, ?_⟩); refine hR.mono ?_; clear hR; rintro e W2 (⟨rfl, hJ2, hb2⟩ | ⟨rfl, hx2⟩))
  · go_ret
    exact .inl ⟨rfl, ⟨[_], rfl, hJ2⟩, (KeepL.of b0).trans hb2⟩
  · go_ret
    exact .inr ⟨rfl, _, hx2⟩

set_option maxRecDepth 100000 in
set_option maxHeartbeats 4000000 in
theorem tell_in (F : Fence) (hd : F.depth = none) (h1 : F.fn 106) (h2 : F.fn 110) (hro : F.round = none) (l L N B : Nat) (J Jx : List Value → World → Prop) (hJ : AbidesFrom B J)
    (hY : ∀ m pre x W, J pre W → pre.length < N → YieldAt F m Try.prog l #[x] W fun e W' => (e = .returned (.bool true) ∧ J (pre ++ [x]) W' ∧ KeepL L W W') ∨ (e = .returned (.bool false) ∧ Jx (pre ++ [x]) W')) (T : TN) :
    ∀ (n : Nat) (ty : TypeId) (x : Value) (pre : List Value) (W : World), NodeV T ty x → L < W.heap.size → J pre W → pre.length + T.leaves ≤ N → CallsIn F n Try.prog (tellF T) #[x, .func (.yield l) #[] #[]] W (TellPost L J Jx pre T.leaves W) := by
  induction T with
  | leaf es =>
    intro n ty x pre W hv hL hp hN
    obtain ⟨rfl, A, k, c, rfl⟩ := hv
    exact leaf_tell F hd h1 hro l L N B J Jx hJ hY n A k c pre W hp (by simp only [TN.leaves] at hN; omega)
  | inner f at' bx lo hi ihl ihr =>
    intro n ty x pre W hv hL hp hN
    obtain ⟨rfl, t1, x1, t2, x2, rfl, hv1, hv2⟩ := hv
    have hdd : ∀ k : Nat, (F.depth.isSome = true → 1 ≤ k) := fun k h => by rw [hd] at h; cases h
    simp only [TN.leaves] at hN ⊢
    have c24 : (inA bx (.iface t1 x1) (.iface t2 x2))[24]? = some (.iface t1 x1) := rfl
    have c25 : (inA bx (.iface t1 x1) (.iface t2 x2))[25]? = some (.iface t2 x2) := rfl
    generalize inA bx (.iface t1 x1) (.iface t2 x2) = I at *
    have b0 := Below.al (Below.refl W.heap.size W) (.cells I 103)
    have hI := heap_alloc_new W (.cells I 103)
    have hJ0 := abides_below hJ hp b0
    have l24 : (W.alloc (.cells I 103)).cell? ⟨W.heap.size, 24, none⟩ = some (.iface t1 x1) := by simp only [World.cell?, hI]; exact c24
    have hne : W.heap.size ≠ L := by omega
    have ih1 := (ihl (n - 1) t1 x1 pre (W.alloc (.cells I 103)) hv1 (by rw [al_size]; omega) hJ0 (by omega)).mono (R' := fun e W1 =>
        (e = .returned (.bool true) ∧ W1.cell? ⟨W.heap.size, 25, none⟩ = some (.iface t2 x2) ∧ CallsIn F (n - 1) Try.prog (tellF hi) #[x2, .func (.yield l) #[] #[]] W1 (fun e W2 => (e = .returned (.bool true) ∧ (∃ q : List Value, q.length = lo.leaves + hi.leaves ∧ J (pre ++ q) W2) ∧ KeepL L W W2) ∨ (e = .returned (.bool false) ∧ ∃ q, Jx q W2))) ∨
        (e = .returned (.bool false) ∧ ∃ q, Jx q W1))
      (fun e W1 h => by
        rcases h with ⟨he, ⟨q, hq, hj⟩, hk⟩ | h
        · refine .inl ⟨he, ?_, (ihr (n - 1) t2 x2 (pre ++ q) W1 hv2 (Nat.lt_of_lt_of_le (by rw [al_size]; omega) hk.size) hj (by rw [List.length_append, hq]; omega)).mono fun e2 W2 h2 => ?_⟩
          · have := hk.same _ _ _ _ hne hI
            simp only [World.cell?, this]; exact c25
          · rcases h2 with ⟨he2, ⟨q2, hq2, hj2⟩, hk2⟩ | h2
            · exact .inl ⟨he2, ⟨q ++ q2, by rw [List.length_append, hq, hq2], by rw [← List.append_assoc]; exact hj2⟩, ((KeepL.of b0).trans hk).trans hk2⟩
            · exact .inr h2
        · exact .inr h)
    clear ihl ihr hJ0 hY c24 c25 hI
    have m1 := fun (w : World) (x : Value) (k : Nat) => hm_tell1 k w x
    have m2 := fun (w : World) (x : Value) (k : Nat) => hm_tell2 k w x
    have hty1 := hv1.ty
    have hty2 := hv2.ty
    clear hv1 hv2
    unfold TellPost
    show CallsIn F n Try.prog 110 _ W _
    generalize lo.leaves + hi.leaves = NN at *
    cases lo with
    | leaf es1 =>
      cases hi with
      | leaf es2 =>
        subst hty1
        subst hty2
        simp only [tellF, tyF] at ih1 l24
        refine callsIn_of_wp Try.func110 rfl h2 ?_ hro
        simp only [Try.ntmps110, List.size_toArray, List.length_cons, List.length_nil, Nat.reduceAdd, Nat.reduceSub, Array.replicate_succ, Array.replicate_zero, List.push_toArray, List.append_toArray, List.nil_append, List.cons_append]
        gi_wp2_with (first
          | (refine wpListIn_load_node (by rfl) (.tmp 5) rfl ⟨W.heap.size, 24, none⟩ rfl _ l24 ?_)
          | (refine wpListIn_load_node (by rfl) (.tmp 10) rfl ⟨W.heap.size, 25, none⟩ rfl _ c25 ?_)
          | ((try refine ⟨hdd _, ?_⟩); gi_at_call 106; refine ih1.mono ?_; clear ih1; rintro e W1 (⟨rfl, c25, ih2⟩ | ⟨rfl, q, hx1⟩))
          | ((try refine ⟨hdd _, ?_⟩); gi_at_call 106; refine ih2.mono ?_; clear ih2; rintro e W2 (⟨rfl, hj2, hk2⟩ | ⟨rfl, q, hx2⟩)))
        all_goals first
          | (go_ret; exact .inl ⟨rfl, hj2, hk2⟩)
          | (go_ret; exact .inr ⟨rfl, _, hx2⟩)
          | (exfalso; rename_i e1 _ _ _ _ _; cases e1; done)
          | (exfalso; rename_i e1 _ _ _ _ _; simp [undef] at e1; done)
          | (refine ⟨fun _ h => (by cases h), ?_⟩; gi_wp2; go_ret; exact .inr ⟨rfl, _, hx1⟩)
      | inner f2 a2 b2 lo2 hi2 =>
        subst hty1
        subst hty2
        simp only [tellF, tyF] at ih1 l24
        refine callsIn_of_wp Try.func110 rfl h2 ?_ hro
        simp only [Try.ntmps110, List.size_toArray, List.length_cons, List.length_nil, Nat.reduceAdd, Nat.reduceSub, Array.replicate_succ, Array.replicate_zero, List.push_toArray, List.append_toArray, List.nil_append, List.cons_append]
        gi_wp2_with (first
          | (refine wpListIn_load_node (by rfl) (.tmp 5) rfl ⟨W.heap.size, 24, none⟩ rfl _ l24 ?_)
          | (refine wpListIn_load_node (by rfl) (.tmp 10) rfl ⟨W.heap.size, 25, none⟩ rfl _ c25 ?_)
          | ((try refine ⟨hdd _, ?_⟩); gi_at_call 106; refine ih1.mono ?_; clear ih1; rintro e W1 (⟨rfl, c25, ih2⟩ | ⟨rfl, q, hx1⟩))
          | ((try refine ⟨hdd _, ?_⟩); gi_at_call 110; refine ih2.mono ?_; clear ih2; rintro e W2 (⟨rfl, hj2, hk2⟩ | ⟨rfl, q, hx2⟩)))
        all_goals first
          | (go_ret; exact .inl ⟨rfl, hj2, hk2⟩)
          | (go_ret; exact .inr ⟨rfl, _, hx2⟩)
          | (exfalso; rename_i e1 _ _ _ _ _; cases e1; done)
          | (exfalso; rename_i e1 _ _ _ _ _; simp [undef] at e1; done)
          | (refine ⟨fun _ h => (by cases h), ?_⟩; gi_wp2; go_ret; exact .inr ⟨rfl, _, hx1⟩)
    | inner f1 a1 b1 lo1 hi1 =>
      cases hi with
      | leaf es2 =>
        subst hty1
        subst hty2
        simp only [tellF, tyF] at ih1 l24
        refine callsIn_of_wp Try.func110 rfl h2 ?_ hro
        simp only [Try.ntmps110, List.size_toArray, List.length_cons, List.length_nil, Nat.reduceAdd, Nat.reduceSub, Array.replicate_succ, Array.replicate_zero, List.push_toArray, List.append_toArray, List.nil_append, List.cons_append]
        gi_wp2_with (first
          | (refine wpListIn_load_node (by rfl) (.tmp 5) rfl ⟨W.heap.size, 24, none⟩ rfl _ l24 ?_)
          | (refine wpListIn_load_node (by rfl) (.tmp 10) rfl ⟨W.heap.size, 25, none⟩ rfl _ c25 ?_)
          | ((try refine ⟨hdd _, ?_⟩); gi_at_call 110; refine ih1.mono ?_; clear ih1; rintro e W1 (⟨rfl, c25, ih2⟩ | ⟨rfl, q, hx1⟩))
          | ((try refine ⟨hdd _, ?_⟩); gi_at_call 106; refine ih2.mono ?_; clear ih2; rintro e W2 (⟨rfl, hj2, hk2⟩ | ⟨rfl, q, hx2⟩)))
        all_goals first
          | (go_ret; exact .inl ⟨rfl, hj2, hk2⟩)
          | (go_ret; exact .inr ⟨rfl, _, hx2⟩)
          | (exfalso; rename_i e1 _ _ _ _ _; cases e1; done)
          | (exfalso; rename_i e1 _ _ _ _ _; simp [undef] at e1; done)
          | (refine ⟨fun _ h => (by cases h), ?_⟩; gi_wp2; go_ret; exact .inr ⟨rfl, _, hx1⟩)
      | inner f2 a2 b2 lo2 hi2 =>
        subst hty1
        subst hty2
        simp only [tellF, tyF] at ih1 l24
        refine callsIn_of_wp Try.func110 rfl h2 ?_ hro
        simp only [Try.ntmps110, List.size_toArray, List.length_cons, List.length_nil, Nat.reduceAdd, Nat.reduceSub, Array.replicate_succ, Array.replicate_zero, List.push_toArray, List.append_toArray, List.nil_append, List.cons_append]
        gi_wp2_with (first
          | (refine wpListIn_load_node (by rfl) (.tmp 5) rfl ⟨W.heap.size, 24, none⟩ rfl _ l24 ?_)
          | (refine wpListIn_load_node (by rfl) (.tmp 10) rfl ⟨W.heap.size, 25, none⟩ rfl _ c25 ?_)
          | ((try refine ⟨hdd _, ?_⟩); gi_at_call 110; refine ih1.mono ?_; clear ih1; rintro e W1 (⟨rfl, c25, ih2⟩ | ⟨rfl, q, hx1⟩))
          | ((try refine ⟨hdd _, ?_⟩); gi_at_call 110; refine ih2.mono ?_; clear ih2; rintro e W2 (⟨rfl, hj2, hk2⟩ | ⟨rfl, q, hx2⟩)))
        all_goals first
          | (go_ret; exact .inl ⟨rfl, hj2, hk2⟩)
          | (go_ret; exact .inr ⟨rfl, _, hx2⟩)
          | (exfalso; rename_i e1 _ _ _ _ _; cases e1; done)
          | (exfalso; rename_i e1 _ _ _ _ _; simp [undef] at e1; done)
          | (refine ⟨fun _ h => (by cases h), ?_⟩; gi_wp2; go_ret; exact .inr ⟨rfl, _, hx1⟩)
end Go.Proofs.Ytomennaekjklbaa
