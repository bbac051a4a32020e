/- How many nodes a tree has; by-name template. -/
import Derived.Test.YtomennaekjklbaaKTell
namespace Go.Proofs.Ytomennaekjklbaa
open Go.RowKit Go.Shelf
set_option linter.unusedVariables false
set_option linter.unusedSimpArgs false
attribute [local go_sem] Oper.semAt_some

theorem cellL {L : Nat} {W W' : World} (h : KeepL L W W') {b : Nat} {cs : Array Value} {t : TypeId} {fr : Nat × Nat} (hne : b ≠ L) (hb : W.heap[b]? = some (.cells cs t fr)) {o : Nat} {v : Value} (hv : cs[o]? = some v) : W'.cell? ⟨b, o, none⟩ = some v := by
  have := h.same b cs t fr hne hb
  simp [World.cell?, this, hv]
set_option maxRecDepth 100000 in
set_option maxHeartbeats 2000000 in
theorem leaves1_in (F : Fence) (hd : F.depth = none) (n : Nat) (h0f : F.fn 41) (h1 : F.fn 106) (h2 : F.fn 110) (hro : F.round = none) (l L Bt B : Nat) (T : TN) (ty : TypeId) (x : Value) (hv : NodeV T ty x) (J Jx : List Value → World → Prop)
    (W : World) (hJ : AbidesFrom W.heap.size J)
    (hY : ∀ pre x W, J pre W → pre.length < T.leaves → YieldAt F (n - 1) Try.prog l #[x] W fun e W' => (e = .returned (.bool true) ∧ J (pre ++ [x]) W' ∧ KeepL L W W') ∨ (e = .returned (.bool false) ∧ Jx (pre ++ [x]) W'))
    (hL : L < W.heap.size) (c0 : W.cell? ⟨Bt, 0, none⟩ = some (.pointer (some ⟨B, 0, none⟩))) (c1 : W.cell? ⟨B, 1, none⟩ = some (.iface ty x)) (h0 : J [] W) :
    CallsIn F n Try.prog 41 #[.func (.yield l) #[] #[], .pointer (some ⟨Bt, 0, none⟩)] W fun e W' => (∃ v, e = .returned v) ∧
      ((∃ ys : List Value, ys.length = T.leaves ∧ J ys W') ∨ (∃ pre : List Value, True ∧ Jx pre W')) := by
  have hdd : ∀ k : Nat, (F.depth.isSome = true → 1 ≤ k) := fun k h => by rw [hd] at h; cases h
  have hp := tell_in F hd h1 h2 hro l L T.leaves W.heap.size J Jx hJ (fun m pre x W hj hl => YieldAt.anyDepth hd m (hY pre x W hj hl)) T (n - 1) ty x [] W hv hL h0 (by simp)
  have hty := hv.ty
  have m1 := fun (w : World) (x : Value) (k : Nat) => hm_tell1 k w x
  have m2 := fun (w : World) (x : Value) (k : Nat) => hm_tell2 k w x
  unfold TellPost at hp
  generalize T.leaves = N at *
  clear hv hY
  cases T with
  | leaf es =>
    subst hty
    simp only [tellF, tyF] at hp c1
    refine callsIn_of_wp Try.func41 rfl h0f ?_ hro
    simp only [Try.ntmps41, List.size_toArray, List.length_cons, List.length_nil, Nat.reduceAdd, Nat.reduceSub, Array.replicate_succ, Array.replicate_zero, List.push_toArray, List.append_toArray, List.nil_append, List.cons_append]
    gi_wp2_with (first
      | (refine wpListIn_load_node (by rfl) (.tmp 5) rfl ⟨B, 1, none⟩ rfl _ c1 ?_)
      | ((try refine ⟨hdd _, ?_⟩); gi_at_call 106; refine hp.mono ?_; clear hp; rintro e W1 (⟨rfl, ⟨q, hq, hJ1⟩, _⟩ | ⟨rfl, q, hx⟩)))
    · go_end0
      exact ⟨⟨_, rfl⟩, .inl ⟨q, hq, by simpa using hJ1⟩⟩
    · go_end0
      exact ⟨⟨_, rfl⟩, .inr ⟨q, trivial, hx⟩⟩
  | inner f a bx lo hi =>
    subst hty
    simp only [tellF, tyF] at hp c1
    refine callsIn_of_wp Try.func41 rfl h0f ?_ hro
    simp only [Try.ntmps41, List.size_toArray, List.length_cons, List.length_nil, Nat.reduceAdd, Nat.reduceSub, Array.replicate_succ, Array.replicate_zero, List.push_toArray, List.append_toArray, List.nil_append, List.cons_append]
    gi_wp2_with (first
      | (refine wpListIn_load_node (by rfl) (.tmp 5) rfl ⟨B, 1, none⟩ rfl _ c1 ?_)
      | ((try refine ⟨hdd _, ?_⟩); gi_at_call 110; refine hp.mono ?_; clear hp; rintro e W1 (⟨rfl, ⟨q, hq, hJ1⟩, _⟩ | ⟨rfl, q, hx⟩)))
    · go_end0
      exact ⟨⟨_, rfl⟩, .inl ⟨q, hq, by simpa using hJ1⟩⟩
    · go_end0
      exact ⟨⟨_, rfl⟩, .inr ⟨q, trivial, hx⟩⟩
set_option maxHeartbeats 1000000 in
theorem leaves_in (F : Fence) (n : Nat) (h4 : F.fn 29) (hro : F.round = none) (p0 : Option Addr) (w : World) :
    CallsIn F n Try.prog 29 #[.pointer p0] w fun e w' => e = .returned (.func (.func 41) #[] #[.pointer (some ⟨w.heap.size, 0, none⟩)]) ∧ w' = w.alloc (.cells #[.pointer p0] 34) := by
  refine callsIn_of_wp Try.func29 rfl h4 ?_ hro
  simp only [Try.ntmps29, List.size_toArray, List.length_cons, List.length_nil, Nat.reduceAdd, Nat.reduceSub, Array.replicate_succ, Array.replicate_zero, List.push_toArray, List.append_toArray, List.nil_append, List.cons_append]
  gi_wp2
  go_ret
  exact ⟨rfl, rfl⟩
theorem leaves_stops (F : Fence) (hd : F.depth = none) (n : Nat) (h0f : F.fn 41) (h1 : F.fn 106) (h2 : F.fn 110) (hro : F.round = none) (L Bt B : Nat) (T : TN) (ty : TypeId) (x : Value) (hv : NodeV T ty x) (w : World) (hL : L < w.heap.size)
    (c0 : w.cell? ⟨Bt, 0, none⟩ = some (.pointer (some ⟨B, 0, none⟩))) (c1 : w.cell? ⟨B, 1, none⟩ = some (.iface ty x)) :
    SeqStopsK F n Try.prog 41 #[.pointer (some ⟨Bt, 0, none⟩)] (fun x : Value => #[x]) (KeepL L) (fun ys => ys.length = T.leaves) (fun pre => True) T.leaves w := fun l J Jx W hW hJ _ hY h0 =>
  leaves1_in F hd n h0f h1 h2 hro l L Bt B T ty x hv J Jx W hJ hY (Nat.lt_of_lt_of_le hL hW.size) (keepc hW c0) (keepc hW c1) h0

set_option maxRecDepth 100000 in
set_option maxHeartbeats 4000000 in
theorem nodes_any (B : Nat) (l : List EN) (t : TN) (w : World) (hT : TreeAt w B l t) (hbig : t.count ≤ 4096) : Calls Try.prog 19 #[.pointer (some ⟨B, 0, none⟩)] w fun e w' => e = .returned (.int .i64 t.count) ∧ Below w.heap.size w w' := by
  obtain ⟨A, c, ty, x, G, hB, _, _, hN⟩ := hT
  have hv := hN.nodeV
  have hcl := TN.count_leaves t
  have hBl := blk_lt hB
  obtain ⟨N, hNN⟩ : ∃ N, N = t.leaves := ⟨_, rfl⟩
  refine (callsIn_wide (n := 3)).1 ?_
  have h1 : 1 ≤ 3 := by decide
  refine callsIn_of_wp_marks Try.func19 rfl trivial ?_ rfl
  simp only [Try.ntmps19, List.size_toArray, List.length_cons, List.length_nil, Nat.reduceAdd, Nat.reduceSub, Array.replicate_succ, Array.replicate_zero, List.push_toArray, List.append_toArray, List.nil_append, List.cons_append]
  gi_wp2_with ((try refine ⟨trivial, ?_⟩); gi_at_call 29; refine (leaves_in Fence.wide _ trivial rfl _ _).mono ?_; rintro e w' ⟨rfl, rfl⟩)
  have hB0 : Below w.heap.size w ((w.alloc (.cells #[.int .i64 0] 3)).alloc (.cells #[.pointer (some ⟨B, 0, none⟩)] 34)) := Below.al (Below.al (Below.refl _ _) _) _
  obtain ⟨q1, q2, _⟩ := bx2 w (.cells #[.int .i64 0] 3) (.cells #[.pointer (some ⟨B, 0, none⟩)] 34)
  have hBB := blkB hB0 hB
  have hsz : ((w.alloc (.cells #[.int .i64 0] 3)).alloc (.cells #[.pointer (some ⟨B, 0, none⟩)] 34)).heap.size = w.heap.size + 2 := by rw [al_size, al_size]
  obtain ⟨w2, hw2⟩ : ∃ x, x = (w.alloc (.cells #[.int .i64 0] 3)).alloc (.cells #[.pointer (some ⟨B, 0, none⟩)] 34) := ⟨_, rfl⟩
  rw [← hw2]
  rw [← hw2] at hB0 q1 q2 hBB hsz
  clear hw2
  have c0 : w2.cell? ⟨w.heap.size + 1, 0, none⟩ = some (.pointer (some ⟨B, 0, none⟩)) := by simp [World.cell?, q2]
  have c1 : w2.cell? ⟨B, 1, none⟩ = some (.iface ty x) := by simp [World.cell?, hBB]
  have hc0 : w2.cell? ⟨w.heap.size, 0, none⟩ = some (.int .i64 0) ∧ w2.frozen? ⟨w.heap.size, 0, none⟩ = false := by constructor <;> simp [World.cell?, World.frozen?, q1]
  refine wpIn_rangeFunc_ownF rfl h1 (gf := 41) (lb := #[.pointer (some ⟨w.heap.size + 1, 0, none⟩)]) rfl trivial (enters_of Try.func41 (by kernel_rfl) rfl)
    (leaves_stops Fence.wide rfl (3 - 1) trivial trivial trivial rfl w.heap.size (w.heap.size + 1) B t ty x hv w2 (by omega) c0 c1) (fun h k => h.trans k) (fun W l o o' _ h hc _ => KeepL.put W l o o' h hc) (Below.refl _ _) (fun _ => rfl)
    (fun pre W => (W.cell? ⟨w.heap.size, 0, none⟩ = some (.int .i64 (pre.length : Nat)) ∧ W.frozen? ⟨w.heap.size, 0, none⟩ = false) ∧ Below w.heap.size w W)
    (fun _ _ _ => False)
    (OwnFrom.and (Own.from (fun s A B row hs hg hr => ⟨cell_kept hs.1 hg hr, (frozen_kept hs.1 hg hr).trans hs.2⟩) _) (ownFrom_below (Nat.le_refl _) (by omega)))
    (fun _ _ _ _ _ hs _ _ => hs)
    ⟨hc0, hB0⟩
    (fun x => { tmps := #[.pointer (some ⟨B, 0, none⟩), undef, .int .i64 0, .pointer (some ⟨w.heap.size, 0, none⟩), .pointer (some ⟨B, 0, none⟩), .func (.func 41) #[] #[.pointer (some ⟨w.heap.size + 1, 0, none⟩)], x, undef, undef, undef, undef, undef], defers := [] }) ?assign ?body ?done ?stop
  case assign =>
    intro l x W K hK
    gi_wp2
    first | exact hK | (simpa using hK)
  case body =>
    rintro l pre x W ⟨⟨hc, hf⟩, hB⟩ hlt
    have hb1 : pre.length < 4096 := by omega
    gi_wp2
    refine ⟨KeepsOthers.setCell _ _ _, KeepL.set _ _, ⟨?_, by rw [World.frozen?_setCell]; exact hf⟩, hB.setCell (p := ⟨w.heap.size, 0, none⟩) (Nat.le_refl _) _⟩
    rw [World.cell?_setCell_same' _ _ _ (by rw [hc]; rfl)]
    simp
  case done =>
    rintro D ys W hD hys ⟨⟨hc, _⟩, hB⟩ hK
    have hy1 : ys.length = t.leaves := hys
    have hb1 : ys.length < 4096 := by omega
    have hcnt : (2 * (ys.length : Int) - 1) = (t.count : Int) := by omega
    gi_wp2
    refine ⟨by simp, .inl ⟨_, _, rfl, run_takeDeferred hK, ?_⟩⟩
    exact ⟨_, results_tmp rfl _ _ _, by simp; omega, hB.trans (belowK_b (w := w) (Nat.le_refl _) W D _ _ (by omega) hK rfl rfl)⟩
  case stop =>
    rintro D c pre W _ _ h _
    exact h.elim
end Go.Proofs.Ytomennaekjklbaa
