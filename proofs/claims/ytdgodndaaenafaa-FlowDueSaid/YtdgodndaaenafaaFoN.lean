/- New and Due of a table of flows; by-name template. -/
import Derived.Test.YtdgodndaaenafaaFoU
namespace Go.Proofs.Ytdgodndaaenafaa
open Go.RowKit Go.Lib Go.Maps
set_option linter.unusedVariables false
set_option linter.unusedSimpArgs false

theorem ris_ext : ∀ {A B : List K2}, Ris A → Ris B → (∀ x, x ∈ A ↔ x ∈ B) → A = B
  | [], [], _, _, _ => rfl
  | [], b :: B, _, _, h => by have := (h b).2 (by simp); simp at this
  | a :: A, [], _, _, h => by have := (h a).1 (by simp); simp at this
  | a :: A, b :: B, hA, hB, h => by
    have hA' := List.pairwise_cons.1 hA
    have hB' := List.pairwise_cons.1 hB
    have e : a = b := by
      rcases List.mem_cons.1 ((h a).1 (by simp)) with e | e1
      · exact e
      · rcases List.mem_cons.1 ((h b).2 (by simp)) with e | e2
        · exact e.symm
        · exact absurd (hB'.1 a e1) (lt_asymm (hA'.1 b e2))
    subst e
    congr 1
    refine ris_ext hA'.2 hB'.2 fun x => ⟨fun hx => ?_, fun hx => ?_⟩
    · rcases List.mem_cons.1 ((h x).1 (List.mem_cons_of_mem _ hx)) with e | e
      · subst e; exact absurd (hA'.1 _ hx) (lt_irr _)
      · exact e
    · rcases List.mem_cons.1 ((h x).2 (List.mem_cons_of_mem _ hx)) with e | e
      · subst e; exact absurd (hB'.1 _ hx) (lt_irr _)
      · exact e

/-! ### the flows by their deadlines -/
def wL (L : List Fl) : List K2 := L.foldr (fun f W => insP W f.me) []
theorem wL_perm : ∀ L : List Fl, (wL L).Perm (L.map Fl.me)
  | [] => List.Perm.refl _
  | f :: t => (ins_perm _ _).trans (List.Perm.cons _ (wL_perm t))
theorem wL_ris : ∀ {L : List Fl}, L.Pairwise (fun x y => x.id < y.id) → Ris (wL L)
  | [], _ => List.Pairwise.nil
  | f :: t, h => by
    have hp := List.pairwise_cons.1 h
    refine ins_ris (wL_ris hp.2) fun y hy => ?_
    obtain ⟨x, hx, rfl⟩ := List.mem_map.1 ((wL_perm t).subset hy)
    have := hp.1 x hx
    show x.id ≠ f.id
    omega
theorem wL_eq {L : List Fl} {W : List K2} (g : GoodF L) (hr : Ris W) (hp : W.Perm (L.map Fl.me)) : W = wL L :=
  ris_ext hr (wL_ris g.ris) fun x => (hp.trans (wL_perm L).symm).mem_iff
def lefF (L : List Fl) (now : Int) : List Fl := L.filter fun f => decide (now < f.en)
def dueL (L : List Fl) (now : Int) : List Int := dueP (wL L) now
theorem lef_filter : ∀ {W : List K2}, Ris W → ∀ now, lefP W now = W.filter (fun x => decide (now < x.2)) ∧ W.takeWhile (fun x => decide (x.2 ≤ now)) = W.filter (fun x => decide (x.2 ≤ now))
  | [], _, now => ⟨rfl, rfl⟩
  | a :: t, h, now => by
    have hp := List.pairwise_cons.1 h
    obtain ⟨h1, h2⟩ := lef_filter hp.2 now
    unfold lefP at *
    by_cases c : a.2 ≤ now
    · rw [List.dropWhile_cons, List.takeWhile_cons, List.filter_cons, List.filter_cons]
      simp only [c, decide_true, if_true]
      have : ¬ now < a.2 := by omega
      simp only [this, decide_false]
      exact ⟨by simpa using h1, by rw [h2]⟩
    · have hall : ∀ x ∈ t, now < x.2 := fun x hx => by
        have := hp.1 x hx
        unfold LtK at this
        omega
      rw [List.dropWhile_cons, List.takeWhile_cons, List.filter_cons, List.filter_cons]
      have c2 : now < a.2 := by omega
      simp only [c, decide_false, c2, decide_true, if_true]
      refine ⟨?_, ?_⟩
      · rw [List.filter_eq_self.2 (fun x hx => by simpa using hall x hx)]; simp
      · rw [List.filter_eq_nil_iff.2 (fun x hx => by have := hall x hx; simp; omega)]; simp
theorem lef_me {L : List Fl} {W : List K2} (hr : Ris W) (hp : W.Perm (L.map Fl.me)) (now : Int) : (lefP W now).Perm ((lefF L now).map Fl.me) := by
  rw [(lef_filter hr now).1]
  refine (hp.filter _).trans (List.Perm.of_eq ?_)
  unfold lefF
  rw [List.filter_map]
  rfl
def remL (L : List Fl) (l : List Int) : List Fl := L.filter fun f => !l.contains f.id
theorem remL_nil (L : List Fl) : remL L [] = L := by unfold remL; exact List.filter_eq_self.2 (by simp)
theorem remL_snoc (L : List Fl) (l : List Int) (id : Int) : remF (remL L l) id = remL L (l ++ [id]) := by
  unfold remF remL
  rw [List.filter_filter]
  refine List.filter_congr fun f _ => ?_
  rw [Bool.eq_iff_iff]
  simp
  constructor
  · rintro ⟨a, b⟩; exact ⟨b, a⟩
  · rintro ⟨a, b⟩; exact ⟨b, a⟩
theorem remL_good {L : List Fl} (g : GoodF L) (l : List Int) : GoodF (remL L l) := ris_sub List.filter_sublist g
theorem due_mem {L : List Fl} {W : List K2} (g : GoodF L) (hr : Ris W) (hp : W.Perm (L.map Fl.me)) {now : Int} {f : Fl} (hf : f ∈ L) : f.id ∈ dueP W now ↔ f.en ≤ now := by
  unfold dueP
  rw [(lef_filter hr now).2, List.mem_map]
  constructor
  · rintro ⟨x, hx, he⟩
    have hx := List.mem_filter.1 hx
    obtain ⟨f', hf', rfl⟩ := List.mem_map.1 (hp.subset hx.1)
    have h1 := go_mem g hf
    have h2 := go_mem g hf'
    rw [show f'.id = f.id from he, h1] at h2
    cases h2
    exact of_decide_eq_true hx.2
  · intro h
    exact ⟨f.me, List.mem_filter.2 ⟨hp.symm.subset (List.mem_map.2 ⟨f, hf, rfl⟩), decide_eq_true (show f.me.2 ≤ now from h)⟩, rfl⟩
theorem remL_due {L : List Fl} {W : List K2} (g : GoodF L) (hr : Ris W) (hp : W.Perm (L.map Fl.me)) (now : Int) : remL L (dueP W now) = lefF L now := by
  unfold remL lefF
  refine List.filter_congr fun f hf => ?_
  have := due_mem (now := now) g hr hp hf
  rw [Bool.eq_iff_iff]
  simp
  rw [this]
  omega
theorem due_at {L : List Fl} {W : List K2} (g : GoodF L) (hr : Ris W) (hu : UId W) (hp : W.Perm (L.map Fl.me)) {now : Int} {i : Nat} {id : Int} (hi : (dueP W now)[i]? = some id) : ∃ f ∈ remL L ((dueP W now).take i), f.id = id := by
  have hm := List.mem_of_getElem? hi
  unfold dueP at hm
  obtain ⟨x, hx, rfl⟩ := List.mem_map.1 hm
  have hx' := (List.takeWhile_sublist _).subset hx
  obtain ⟨f, hf, rfl⟩ := List.mem_map.1 (hp.subset hx')
  refine ⟨f, List.mem_filter.2 ⟨hf, ?_⟩, rfl⟩
  have hnd : (dueP W now).Pairwise (· ≠ ·) := by
    unfold dueP
    exact List.pairwise_map.2 (hu.sublist (List.takeWhile_sublist _))
  simp
  intro hc
  obtain ⟨j, hj⟩ := List.getElem?_of_mem hc
  have hjl := (List.getElem?_eq_some_iff.1 hj).1
  rw [List.length_take] at hjl
  have hji : j < i := by omega
  rw [List.getElem?_take_of_lt hji] at hj
  have hil := (List.getElem?_eq_some_iff.1 hi).1
  have := List.pairwise_iff_getElem.1 hnd j i (by omega) hil hji
  rw [(List.getElem?_eq_some_iff.1 hj).2, (List.getElem?_eq_some_iff.1 hi).2] at this
  exact this rfl
theorem lef_good {L : List Fl} (g : GoodF L) (now : Int) : GoodF (lefF L now) := ris_sub List.filter_sublist g

theorem own_slice {w : World} {b size n : Nat} {e : TypeId} {v : Value} {xs : List Value} (h : w.ownsRow b e size v n xs) : ∃ A cap, v = .slice A n cap := by
  obtain ⟨_, ⟨h1, h2⟩ | ⟨g, c, cur, hv, _⟩⟩ := h
  · exact ⟨none, 0, by rw [h1, h2]⟩
  · exact ⟨_, _, hv⟩
theorem own_cell {w : World} {b n cap : Nat} {e : TypeId} {A : Option Addr} {xs : List Value} (h : w.ownsRow b e 1 (.slice A n cap) n xs) {i : Nat} {u : Value} (hu : xs[i]? = some u) : ∃ g, A = some ⟨g, 0, none⟩ ∧ w.cell? ⟨g, i, none⟩ = some u := by
  have h0 := h
  obtain ⟨hl, ⟨h1, h2⟩ | ⟨g, c, cur, hv, _⟩⟩ := h
  · have := (List.getElem?_eq_some_iff.1 hu).1
    omega
  · cases hv
    have := h0.cells (g := g) rfl i u hu
    rw [addr_add, Nat.zero_add] at this
    exact ⟨g, rfl, this⟩
section
variable {w w' : World} {T Tw : Nat → Prop} {TB Bw Mo Mk co ck : Nat} {go : Int → Option Fl} {gk : Ky → Option Int} {W : List K2} {L : List Fl}
theorem shelf_any (w : World) : Calls Try.prog 26 #[] w fun e w' => ∃ Bw Mo Tw, e = .returned (.agg #[.pointer (some ⟨Bw, 0, none⟩), .map (some Mo)]) ∧ WAt w' Tw Bw [] ∧ MapO w' Mo (fun _ => none) 0 ∧ ¬ Tw Mo ∧ w.heap.size ≤ Mo ∧ (∀ k, Tw k → w.heap.size ≤ k) ∧ Below w.heap.size w w' := by
  have hmm := @run_makeMap Try.prog
  have cN := fun W => new_wheel W
  go_enter Try.func26, Try.ntmps26
  go_upto_region 1 with fail
  have b0 : Below w.heap.size w (w.alloc (.cells #[.pointer none, .map none] 65)) := (Below.refl _ _).alloc (Nat.le_refl _) _
  have A0 : (w.alloc (.cells #[.pointer none, .map none] 65)).heap[w.heap.size]? = some (.cells #[.pointer none, .map none] 65 (0, 0)) := heap_alloc_new w _
  obtain ⟨w0, hw0⟩ : ∃ x, x = w.alloc (.cells #[.pointer none, .map none] 65) := ⟨_, rfl⟩
  rw [← hw0] at b0 A0 ⊢
  clear hw0
  have hl0 := blk_lt A0
  have HB0 := Lib.hid b0
  clear b0
  go_wp2_with (go_at_call 36; refine (cN _).mono ?_; rintro e w1 ⟨B, rfl, hw, b1⟩; have A1 := blkB b1 A0; have x0 := fun o => cell_of_row _ _ 0 _ _ _ (blk_al A1 o); have x1 := fun o => cell_of_row _ _ 1 _ _ _ (blk_al A1 o); have y0 := fun o => free_of (blk_al A1 o) 0; have y1 := fun o => free_of (blk_al A1 o) 1)
  have A2 := blk_al A1 (.map #[] 0)
  have A3 := heap_set (heap_set A2 0 (.pointer (some ⟨B, 0, none⟩))) 1 (.map (some w1.heap.size))
  have hs01 := HB0.out.size
  have hs1 := b1.size
  refine bodyPost_ret_by (results_cell_row Try.results26 _ _ w.heap.size 65 #[.pointer (some ⟨B, 0, none⟩), .map (some w1.heap.size)] (0, 0) _ rfl A3 Try.underlying65 rfl (by kernel_rfl)) rfl ?_
  have b2 : Below w1.heap.size w1 (w1.alloc (.map #[] 0)) := (Below.refl _ _).alloc (Nat.le_refl _) _
  have b3 : Below w.heap.size w (((w1.alloc (.map #[] 0)).setCell ⟨w.heap.size, 0, none⟩ (.pointer (some ⟨B, 0, none⟩))).setCell ⟨w.heap.size, 1, none⟩ (.map (some w1.heap.size))) := below_set (below_set (HB0.out.trans ((b1.trans (b2.mono hs1)).mono hs01)) (Nat.le_refl _) _ _) (Nat.le_refl _) _ _
  have o3 : OffS (fun k => k = w.heap.size) (w1.alloc (.map #[] 0)) (((w1.alloc (.map #[] 0)).setCell ⟨w.heap.size, 0, none⟩ (.pointer (some ⟨B, 0, none⟩))).setCell ⟨w.heap.size, 1, none⟩ (.map (some w1.heap.size))) := offS_set (S := fun k => k = w.heap.size) (offS_set (S := fun k => k = w.heap.size) (OffS.refl _ _) rfl 0 _) rfl 1 _
  have hlt := hw.tlt
  refine ⟨B, w1.heap.size, _, rfl, (hw.below b2).off o3 (fun k hk e => by omega), ?_, fun hk => by omega, by omega, fun k hk => by omega, b3⟩
  refine MapO.keep (w := w1.alloc (.map #[] 0)) ⟨.map [], World.ownsMap_made w1 Try.prog 3 flR, fun _ _ => rfl, fun _ _ _ h => by simp at h, rfl⟩ ?_
  exact o3.block _ (by rw [al_size]; omega) (by omega)

theorem fnew_any (w : World) : Calls Try.prog 8 #[] w fun e w' => ∃ TB T, e = .returned (.pointer (some ⟨TB, 0, none⟩)) ∧ TAt w' T TB [] ∧ (∀ k, T k → w.heap.size ≤ k) ∧ Below w.heap.size w w' := by
  have hmm := @run_makeMap Try.prog
  have cN := fun W => shelf_any W
  go_enter Try.func8, Try.ntmps8
  go_wp2_with (go_at_call 26; refine (cN _).mono ?_; rintro e w1 ⟨Bw, Mo, Tw, rfl, hw, hm, hn, hl, hT, b1⟩)
  go_ret
  have b2 : Below w1.heap.size w1 (w1.alloc (.map #[] 0)) := (Below.refl _ _).alloc (Nat.le_refl _) _
  have b3 : Below w1.heap.size w1 ((w1.alloc (.map #[] 0)).alloc (.cells #[.pointer (some ⟨Bw, 0, none⟩), .map (some Mo), .map (some w1.heap.size)] 68)) := b2.alloc (by simp) _
  have hs1 := b1.size
  have hlt := hw.tlt
  have hml := hm.lt
  have hA : ((w1.alloc (.map #[] 0)).alloc (.cells #[.pointer (some ⟨Bw, 0, none⟩), .map (some Mo), .map (some w1.heap.size)] 68)).heap[w1.heap.size + 1]? = some (.cells #[.pointer (some ⟨Bw, 0, none⟩), .map (some Mo), .map (some w1.heap.size)] 68 (0, 0)) := al_new (al_size _ _).symm _
  refine ⟨w1.heap.size + 1, fun k => w.heap.size ≤ k ∧ k < w1.heap.size + 2, rfl, ⟨good_nil, [], List.Perm.refl _, Bw, Mo, w1.heap.size, Tw, {
    tb := hA
    mo := hm.keep (b3.block _ hml)
    mK := MapK.keep (w := w1.alloc (.map #[] 0)) ⟨.map [], World.ownsMap_made w1 Try.prog 36 _, fun _ _ => rfl, fun _ _ _ h => by simp [gkF] at h, rfl⟩ (al_old (by simp) _)
    wh := hw.below b3
    tT := ⟨by omega, by omega⟩
    tO := ⟨hl, by omega⟩
    tK := ⟨by omega, by omega⟩
    tW := fun k hk => ⟨hT k hk, by have := hlt k hk; omega⟩
    nT := fun hk => by have := hlt _ hk; omega
    nO := hn
    nK := fun hk => by have := hlt _ hk; omega
    ne := by omega
    lt := fun k hk => by rw [al_size, al_size]; omega }⟩, fun k hk => hk.1, b1.trans (b3.mono hs1)⟩

def FDue (w : World) (T : Nat → Prop) (TB : Nat) (L : List Fl) (now : Int) (e : Ending) (w' : World) : Prop :=
  ∃ v, e = .returned v ∧ w'.ownsRow w.heap.size 3 1 v (dueL L now).length ((dueL L now).map vI) ∧ TAt w' T TB (lefF L now) ∧ OffS T w w'

set_option maxRecDepth 100000 in
set_option maxHeartbeats 2000000 in
theorem fdue_any (h : TAt w T TB L) {now : Int} : Calls Try.prog 12 #[.pointer (some ⟨TB, 0, none⟩), .int .i64 now] w (FDue w T TB L now) := by
  obtain ⟨g, W, hp, Bw, Mo, Mk, Tw, h⟩ := h
  have hr := h.wh.1
  have hu := h.wh.uid
  have eW := wL_eq g hr hp
  obtain ⟨M, hM⟩ : ∃ M, M = FDue w T TB L now := ⟨_, rfl⟩
  have cD := wdue_any h.wh (now := now)
  have hTlt := h.lt
  have F1 : ∀ w1, WAt w1 Tw Bw (lefP W now) → OffS Tw w w1 → TW w1 T TB L (lefP W now) ∧ OffS T w w1 := fun w1 h1 o1 => ⟨⟨Bw, Mo, Mk, Tw, h.wheel h1 o1⟩, o1.mono fun k _ hk => h.tW k hk⟩
  have F2 : ∀ v w1, w1.ownsRow w.heap.size 3 1 v (dueP W now).length ((dueP W now).map vI) → TW w1 T TB (remL L (dueP W now)) (lefP W now) → OffS T w w1 → M (.returned v) w1 := fun v w1 h1 h2 o => by
    rw [hM]
    unfold FDue dueL
    rw [← eW]
    rw [remL_due g hr hp] at h2
    exact ⟨v, rfl, h1, ⟨lef_good g now, _, lef_me hr hp now, h2⟩, o⟩
  have hA : ∀ i id, (dueP W now)[i]? = some id → ∃ f ∈ remL L ((dueP W now).take i), f.id = id := fun i id hi => due_at g hr hu hp hi
  have c0 := h.c0
  have hD48 : (dueP W now).length ≤ 48 := by
    have h1 := g.ln
    have h2 : W.length = L.length := by simpa using hp.length_eq
    have h3 := (List.takeWhile_sublist (l := W) fun x => decide (x.2 ≤ now)).length_le
    unfold dueP
    rw [List.length_map]
    omega
  rw [← hM]
  have HF1 := Lib.hid F1
  have HF2 := Lib.hid F2
  have HAT := Lib.hid hA
  have HT := Lib.hid hTlt
  have HG := Lib.hid g
  clear F1 F2 hA hTlt hM h g hr hu hp eW
  unfold DuePost at cD
  generalize lefP W now = W' at *
  generalize dueP W now = D at *
  go_enter Try.func12, Try.ntmps12
  go_upto_region 3 with (go_at_call 31; refine cD.mono ?_; rintro e w1 ⟨v, rfl, hown, h1, o1⟩; obtain ⟨A, cap, rfl⟩ := own_slice hown)
  obtain ⟨hW1, hO1⟩ := HF1.out _ h1 o1
  have hz1 := hO1.size
  generalize hn : D.length = n at *
  have HN := Lib.hid hn
  clear hn cD h1 o1 c0
  go_wp2_with fail
  go_loopw [17] (fun v17 wr => ∃ i : Nat, v17 = .int .i64 i ∧ i ≤ n ∧ wr.ownsRow w.heap.size 3 1 (.slice A n cap) n (D.map vI) ∧ TW wr T TB (remL L (D.take i)) W' ∧ OffS T w wr) (fun v17 _ => n - (intOf v17).toNat)
  case atStart => exact ⟨0, rfl, by omega, hown, by rw [List.take_zero, remL_nil]; exact hW1, hO1⟩
  case round =>
    clear hown hW1 hO1
    obtain ⟨i, rfl, hi, hown, hW, hO⟩ := hrel
    by_cases hlt : i < n
    · have hlti : (i : Int) < (n : Int) := by omega
      have hdn : decide (i < n) = true := by simp [hlt]
      have hil : i < D.length := by rw [HN.out]; exact hlt
      obtain ⟨id, hid⟩ : ∃ id, D[i]? = some id := ⟨_, List.getElem?_eq_getElem hil⟩
      obtain ⟨f, hf, rfl⟩ := HAT.out i id hid
      have cF := forget_any (remL_good HG.out _) hW hf
      rw [remL_snoc] at cF
      have et : D.take (i + 1) = D.take i ++ [f.id] := by rw [List.take_add_one, hid]; rfl
      rw [← et] at cF
      obtain ⟨g, rfl, hcell⟩ := own_cell hown (i := i) (u := vI f.id) (by rw [List.getElem?_map, hid]; rfl)
      unfold vI at hcell
      have NEXT : Hid (∀ w2, OffS T wr w2 → w2.ownsRow w.heap.size 3 1 (.slice (some ⟨g, 0, none⟩) n cap) n (D.map vI) ∧ OffS T w w2) := Lib.hid (fun w2 o2 => ⟨own_off hown o2 HT.out, hO.trans o2⟩)
      clear hown hW hO hid hf et
      generalize f.id = id at *
      go_wp2_with (go_at_call 32; refine cF.mono ?_; rintro e w2 ⟨rfl, h2, o2⟩)
      exact ⟨⟨i + 1, by simp, by omega, (NEXT.out _ o2).1, h2, (NEXT.out _ o2).2⟩, by simp [intOf]; omega⟩
    · obtain rfl : i = n := by omega
      have hd0 : decide (i < i) = false := by simp
      have hdi : decide ((i : Int) < (i : Int)) = false := by simp
      have FIN : Hid (M (.returned (.slice A i cap)) wr) := Lib.hid (HF2.out _ _ hown (by rw [List.take_of_length_le (by rw [HN.out]; exact Nat.le_refl _)] at hW; exact hW) hO)
      clear hown hW hO HF2
      go_wp2_with fail
      first | exact FIN.out | (go_ret; exact FIN.out)
end
end Go.Proofs.Ytdgodndaaenafaa
