/- CutsHalves' walk; by-name template (gen_chalves.py). -/
import Derived.Test.YtjkcnkjgooifoaaCSplitY
import Derived.Test.YtjkcnkjgooifoaaCRSplit
namespace Go.Proofs.Ytjkcnkjgooifoaa
open Go.RowKit Go.Lib Go.Sort
set_option linter.unusedVariables false
set_option linter.unusedSimpArgs false

theorem two_mid (w : World) (LV : Array Value) (t : TypeId) (Z : Array Value) : (World.setRow ((w.alloc (.cells Z t)).alloc (.cells Z t)) w.heap.size LV).heap[w.heap.size + 1]? = some (.cells Z t) := by
  rw [setRow_other (by omega)]; exact al_new (al_size _ _).symm _
theorem two_end {w wy : World} {Z LV HV : Array Value} {t : TypeId} (e : wy = World.setRow (World.setRow ((w.alloc (.cells Z t)).alloc (.cells Z t)) w.heap.size LV) (w.heap.size + 1) HV) :
    wy.heap[w.heap.size]? = some (.cells LV t) ∧ wy.heap[w.heap.size + 1]? = some (.cells HV t) ∧ (∀ (g : Nat) (o : Obj), w.heap[g]? = some o → wy.heap[g]? = some o) ∧ ∀ w0 : World, Below w0.heap.size w0 w → Below w0.heap.size w0 wy := by
  subst e
  refine ⟨?_, ?_, fun g o h => ?_, fun w0 h => ?_⟩
  · rw [setRow_other (by omega)]; exact blk_setRow (blk_al (heap_alloc_new w _) _) LV
  · exact blk_setRow (two_mid w LV t Z) HV
  · have := blk_lt h
    rw [setRow_other (by omega), setRow_other (by omega)]; exact blk_al (blk_al h _) _
  · have := h.size
    exact Below.setRow (Below.setRow (bel_via h (Below.al (Below.al (Below.refl _ _) _) _)) (by omega) _) (by omega) _

theorem hp_upd (b : Nat → R4) (k : Nat) (hk : k < 6) (r : R4) (p : Nat → P2) : hpB (upd b k r) p = true ↔ (∀ i, i < 6 → i ≠ k → inR (b i) (p i) = true) ∧ inR r (p k) = true := by
  rw [hpB_iff]
  unfold upd
  constructor
  · intro h
    refine ⟨fun i hi hne => by have := h i hi; rwa [if_neg hne] at this, by have := h k hk; rwa [if_pos rfl] at this⟩
  · rintro ⟨h1, h2⟩ i hi
    by_cases e : i = k
    · subst e; rw [if_pos rfl]; exact h2
    · rw [if_neg e]; exact h1 i hi e
theorem hp_at (b : Nat → R4) (k : Nat) (hk : k < 6) (p : Nat → P2) : hpB b p = true ↔ (∀ i, i < 6 → i ≠ k → inR (b i) (p i) = true) ∧ inR (b k) (p k) = true := by
  rw [hpB_iff]
  constructor
  · intro h; exact ⟨fun i hi _ => h i hi, h k hk⟩
  · rintro ⟨h1, h2⟩ i hi
    by_cases e : i = k
    · subst e; exact h2
    · exact h1 i hi e
/-- Each point of a box that is split is in just one of the halves. -/
theorem halves {b : Nat → R4} {k : Nat} {t : P2} {p : Nat → P2} (hk : k < 6) (hX : icB (b k) t = true) (wb : WB b) (w1 : Word t.h) (w2 : Word t.l) (wp : WP p) :
    (hpB (upd b k ⟨(b k).fh, (b k).fl, t.h, t.l⟩) p && hpB (upd b k ⟨(nx t).h, (nx t).l, (b k).th, (b k).tl⟩) p) = false ∧ (hpB (upd b k ⟨(b k).fh, (b k).fl, t.h, t.l⟩) p || hpB (upd b k ⟨(nx t).h, (nx t).l, (b k).th, (b k).tl⟩) p) = hpB b p ∧
    cvB b (upd b k ⟨(b k).fh, (b k).fl, t.h, t.l⟩) = true ∧ cvB b (upd b k ⟨(nx t).h, (nx t).l, (b k).th, (b k).tl⟩) = true := by
  obtain ⟨⟨p1, p2⟩, ⟨p3, p4⟩⟩ := wp k hk
  obtain ⟨⟨b1, b2⟩, ⟨b3, b4⟩, ⟨b5, b6⟩, ⟨b7, b8⟩⟩ := wb k hk
  obtain ⟨t1, t2⟩ := w1
  obtain ⟨t3, t4⟩ := w2
  unfold icB at hX
  simp only [Bool.and_eq_true, decide_eq_true_eq, cmp_le0, cmp_lt0] at hX
  have hn : ((nx t).h = t.h + 1 ∧ (nx t).l = 0 ∧ t.l = 18446744073709551615) ∨ ((nx t).h = t.h ∧ (nx t).l = t.l + 1 ∧ t.l ≠ 18446744073709551615) := by
    unfold nx
    by_cases e : t.l = 18446744073709551615
    · rw [if_pos e]; exact .inl ⟨rfl, rfl, e⟩
    · rw [if_neg e]; exact .inr ⟨rfl, rfl, e⟩
  have key : (inR ⟨(b k).fh, (b k).fl, t.h, t.l⟩ (p k) = true → inR ⟨(nx t).h, (nx t).l, (b k).th, (b k).tl⟩ (p k) = true → False) ∧ (inR (b k) (p k) = true ↔ inR ⟨(b k).fh, (b k).fl, t.h, t.l⟩ (p k) = true ∨ inR ⟨(nx t).h, (nx t).l, (b k).th, (b k).tl⟩ (p k) = true) := by
    simp only [inR_iff]
    refine ⟨fun h1 h2 => ?_, ⟨fun h => ?_, fun h => ?_⟩⟩
    · omega
    · omega
    · omega
  refine ⟨?_, ?_, ?_, ?_⟩
  · rw [Bool.eq_false_iff]
    intro h
    rw [Bool.and_eq_true, hp_upd b k hk, hp_upd b k hk] at h
    exact key.1 h.1.2 h.2.2
  · rw [Bool.eq_iff_iff, Bool.or_eq_true, hp_upd b k hk, hp_upd b k hk, hp_at b k hk, key.2]
    constructor
    · rintro (⟨h1, h2⟩ | ⟨h1, h2⟩)
      · exact ⟨h1, .inl h2⟩
      · exact ⟨h1, .inr h2⟩
    · rintro ⟨h1, h2 | h2⟩
      · exact .inl ⟨h1, h2⟩
      · exact .inr ⟨h1, h2⟩
  · cases hE : emB (upd b k ⟨(b k).fh, (b k).fl, t.h, t.l⟩) with
    | true => exact cvB_em hE
    | false =>
      refine (cvB_iff _ _ hE).2 fun i hi => ?_
      unfold upd
      by_cases e : i = k
      · subst e; rw [if_pos rfl]; dsimp only; omega
      · rw [if_neg e]; omega
  · cases hE : emB (upd b k ⟨(nx t).h, (nx t).l, (b k).th, (b k).tl⟩) with
    | true => exact cvB_em hE
    | false =>
      refine (cvB_iff _ _ hE).2 fun i hi => ?_
      unfold upd
      by_cases e : i = k
      · subst e; rw [if_pos rfl]; dsimp only; omega
      · rw [if_neg e]; omega
theorem sp_true {b : Nat → R4} {f : Int} {t : P2} (h : spO b f t = true) : ∃ k : Nat, k < 6 ∧ f = (k : Int) ∧ icB (b k) t = true := by
  unfold spO at h
  simp only [Bool.and_eq_true, decide_eq_true_eq] at h
  obtain ⟨k, rfl⟩ := Int.eq_ofNat_of_zero_le h.1.1
  exact ⟨k, by omega, rfl, by have := h.2; rwa [Int.toNat_natCast] at this⟩

set_option maxRecDepth 100000 in
set_option maxHeartbeats 8000000 in
theorem chalves_any (b : Nat → R4) (f : Int) (t : P2) (p : Nat → P2) (wb : WB b) (wt1 : Word t.h) (wt2 : Word t.l) (wp : WP p) (w : World) : Calls Try.prog 8 #[.agg (bxc b), .int .i64 f, .agg #[.int .u64 t.h, .int .u64 t.l], .agg (ptc p)] w (LawPost w) := by
  unfold LawPost
  have k1 := fun W : World => split_any b f t wb wt1 wt2 W
  have k2 := fun W : World => rsplit_any b f t wb wt1 wt2 W
  have c1 := fun W : World => hasPoint_any (spL b f t) p W
  have c2 := fun W : World => hasPoint_any (spH b f t) p W
  have c3 := fun W : World => rhasPoint_any b p W
  have c4 := fun W : World => covers_any b (spL b f t) W
  have c5 := fun W : World => covers_any b (spH b f t) W
  have eL := fun W : World => eql_box (spL b f t) (fun _ => zr4) W
  have eH := fun W : World => eql_box (spH b f t) (fun _ => zr4) W
  have HY : Hid (spO b f t = true → (hpB (spL b f t) p && hpB (spH b f t) p) = false ∧ (hpB (spL b f t) p || hpB (spH b f t) p) = hpB b p ∧ cvB b (spL b f t) = true ∧ cvB b (spH b f t) = true) := Lib.hid fun h => by
    obtain ⟨k, hk, rfl, hX⟩ := sp_true h
    obtain ⟨_, e2, e3⟩ := sp_yes (b := b) hk hX
    rw [e2, e3]
    exact halves hk hX wb wt1 wt2 wp
  have HN : Hid (spO b f t = false → eqB (spL b f t) (fun _ => zr4) = true ∧ eqB (spH b f t) (fun _ => zr4) = true) := Lib.hid fun h => by
    unfold spL spH; rw [h]; exact ⟨eqB_refl _, eqB_refl _⟩
  generalize spO b f t = O at *
  generalize eqB (spL b f t) (fun _ => zr4) = QL at *
  generalize eqB (spH b f t) (fun _ => zr4) = QH at *
  generalize hpB (spL b f t) p = X at *
  generalize hpB (spH b f t) p = Y at *
  generalize hpB b p = U at *
  generalize cvB b (spL b f t) = R1 at *
  generalize cvB b (spH b f t) = R2 at *
  have i1 := inf29 b
  have i3 := inf38 p
  have iL := inf29 (spL b f t)
  have oL := bx_one (spL b f t)
  have zL : (#[.int .u64 0, .int .u64 0, .int .u64 0, .int .u64 0, .int .u64 0, .int .u64 0, .int .u64 0, .int .u64 0, .int .u64 0, .int .u64 0, .int .u64 0, .int .u64 0, .int .u64 0, .int .u64 0, .int .u64 0, .int .u64 0, .int .u64 0, .int .u64 0, .int .u64 0, .int .u64 0, .int .u64 0, .int .u64 0, .int .u64 0, .int .u64 0] : Array Value).size = (bxc (spL b f t)).size := rfl
  have iH := inf29 (spH b f t)
  have oH := bx_one (spH b f t)
  have zH : (#[.int .u64 0, .int .u64 0, .int .u64 0, .int .u64 0, .int .u64 0, .int .u64 0, .int .u64 0, .int .u64 0, .int .u64 0, .int .u64 0, .int .u64 0, .int .u64 0, .int .u64 0, .int .u64 0, .int .u64 0, .int .u64 0, .int .u64 0, .int .u64 0, .int .u64 0, .int .u64 0, .int .u64 0, .int .u64 0, .int .u64 0, .int .u64 0] : Array Value).size = (bxc (spH b f t)).size := rfl
  rw [bxc_zero] at eL eH
  generalize bxc b = A at *
  generalize ptc p = P at *
  generalize bxc (spL b f t) = LV at *
  generalize bxc (spH b f t) = HV at *
  have i1 := Lib.hid i1
  have i3 := Lib.hid i3
  have iL := Lib.hid iL
  have oL := Lib.hid oL
  have zL := Lib.hid zL
  have iH := Lib.hid iH
  have oH := Lib.hid oH
  have zH := Lib.hid zH
  have eL := Lib.hid eL
  have eH := Lib.hid eH
  clear wb wt1 wt2 wp
  obtain ⟨hA, hT, hP, b0⟩ := bx3 w (.cells A 29) (.cells #[.int .u64 t.h, .int .u64 t.l] 24) (.cells P 38)
  obtain ⟨w0, hw0⟩ : ∃ w0, w0 = World.alloc ((w.alloc (.cells A 29)).alloc (.cells #[.int .u64 t.h, .int .u64 t.l] 24)) (.cells P 38) := ⟨_, rfl⟩
  rw [← hw0] at hA hT hP b0
  have hz := Below.refl w0.heap.size w0
  have Hw0 := Lib.hid hw0; clear hw0
  cases O with
  | false =>
    obtain ⟨rfl, rfl⟩ := HN.out rfl
    have eL := eL.out
    have eH := eH.out
    clear HY HN
    go_enter Try.func8, Try.ntmps8
    go_wp2_with (with_reducible refine stop_op (o := ⟨some 18, _, _, _, _, _⟩) ?_)
    rw [← Hw0.out]
    clear Hw0
    refine Lib.hid ?_
    obtain ⟨t0, t1, _, _⟩ := cells2 hT
    go_wp2_with (first | (refine wpList_load_row rfl 29 (.tmp 4) rfl w.heap.size rfl 29 A (0, 0) _ hA Try.underlying29 rfl i1.out ?_) | (go_at_call 22; with_reducible refine (k1 _).mono ?_; rintro e wz ⟨rfl, hb⟩; replace hA := blkB hb hA; replace hT := blkB hb hT; obtain ⟨t0, t1, _, _⟩ := cells2 hT; replace hP := blkB hb hP; replace hz := bel_via hz hb; clear hb) | (go_at_call 23; with_reducible refine (k2 _).mono ?_; rintro e wz ⟨rfl, hb⟩; replace hA := blkB hb hA; replace hT := blkB hb hT; obtain ⟨t0, t1, _, _⟩ := cells2 hT; replace hP := blkB hb hP; replace hL := blkB hb hL; replace hH := blkB hb hH; replace hz := bel_via hz hb; clear hb) | (refine wpList_store_row rfl 29 (.tmp 9) (.tmp 22) rfl wz.heap.size LV rfl rfl 29 #[.int .u64 0, .int .u64 0, .int .u64 0, .int .u64 0, .int .u64 0, .int .u64 0, .int .u64 0, .int .u64 0, .int .u64 0, .int .u64 0, .int .u64 0, .int .u64 0, .int .u64 0, .int .u64 0, .int .u64 0, .int .u64 0, .int .u64 0, .int .u64 0, .int .u64 0, .int .u64 0, .int .u64 0, .int .u64 0, .int .u64 0, .int .u64 0] (blk_al (heap_alloc_new wz _) _) iL.out zL.out oL.out ?_) | (refine wpList_store_row rfl 29 (.tmp 10) (.tmp 23) rfl (wz.heap.size + 1) HV rfl rfl 29 #[.int .u64 0, .int .u64 0, .int .u64 0, .int .u64 0, .int .u64 0, .int .u64 0, .int .u64 0, .int .u64 0, .int .u64 0, .int .u64 0, .int .u64 0, .int .u64 0, .int .u64 0, .int .u64 0, .int .u64 0, .int .u64 0, .int .u64 0, .int .u64 0, .int .u64 0, .int .u64 0, .int .u64 0, .int .u64 0, .int .u64 0, .int .u64 0] (two_mid wz LV 29 #[.int .u64 0, .int .u64 0, .int .u64 0, .int .u64 0, .int .u64 0, .int .u64 0, .int .u64 0, .int .u64 0, .int .u64 0, .int .u64 0, .int .u64 0, .int .u64 0, .int .u64 0, .int .u64 0, .int .u64 0, .int .u64 0, .int .u64 0, .int .u64 0, .int .u64 0, .int .u64 0, .int .u64 0, .int .u64 0, .int .u64 0, .int .u64 0]) iH.out zH.out oH.out ?_; obtain ⟨wy, hwy⟩ : ∃ x, x = World.setRow (World.setRow ((wz.alloc (.cells #[.int .u64 0, .int .u64 0, .int .u64 0, .int .u64 0, .int .u64 0, .int .u64 0, .int .u64 0, .int .u64 0, .int .u64 0, .int .u64 0, .int .u64 0, .int .u64 0, .int .u64 0, .int .u64 0, .int .u64 0, .int .u64 0, .int .u64 0, .int .u64 0, .int .u64 0, .int .u64 0, .int .u64 0, .int .u64 0, .int .u64 0, .int .u64 0] 29)).alloc (.cells #[.int .u64 0, .int .u64 0, .int .u64 0, .int .u64 0, .int .u64 0, .int .u64 0, .int .u64 0, .int .u64 0, .int .u64 0, .int .u64 0, .int .u64 0, .int .u64 0, .int .u64 0, .int .u64 0, .int .u64 0, .int .u64 0, .int .u64 0, .int .u64 0, .int .u64 0, .int .u64 0, .int .u64 0, .int .u64 0, .int .u64 0, .int .u64 0] 29)) wz.heap.size LV) (wz.heap.size + 1) HV := ⟨_, rfl⟩; rw [← hwy]; obtain ⟨hL, hH, hK, hBB⟩ := two_end hwy; clear hwy; replace hA := hK _ _ hA; replace hT := hK _ _ hT; obtain ⟨t0, t1, _, _⟩ := cells2 hT; replace hP := hK _ _ hP; replace hz := hBB _ hz; clear hK hBB; obtain ⟨P1, hPP⟩ : ∃ P, P = wz.heap.size := ⟨_, rfl⟩; rw [← hPP] at hL hH ⊢; clear hPP; obtain ⟨wz, hwz⟩ : ∃ x, x = wy := ⟨_, rfl⟩; subst hwz) | (refine wpList_store_row rfl 29 (.tmp 12) (.tmp 30) rfl wz.heap.size LV rfl rfl 29 #[.int .u64 0, .int .u64 0, .int .u64 0, .int .u64 0, .int .u64 0, .int .u64 0, .int .u64 0, .int .u64 0, .int .u64 0, .int .u64 0, .int .u64 0, .int .u64 0, .int .u64 0, .int .u64 0, .int .u64 0, .int .u64 0, .int .u64 0, .int .u64 0, .int .u64 0, .int .u64 0, .int .u64 0, .int .u64 0, .int .u64 0, .int .u64 0] (blk_al (heap_alloc_new wz _) _) iL.out zL.out oL.out ?_) | (refine wpList_store_row rfl 29 (.tmp 13) (.tmp 31) rfl (wz.heap.size + 1) HV rfl rfl 29 #[.int .u64 0, .int .u64 0, .int .u64 0, .int .u64 0, .int .u64 0, .int .u64 0, .int .u64 0, .int .u64 0, .int .u64 0, .int .u64 0, .int .u64 0, .int .u64 0, .int .u64 0, .int .u64 0, .int .u64 0, .int .u64 0, .int .u64 0, .int .u64 0, .int .u64 0, .int .u64 0, .int .u64 0, .int .u64 0, .int .u64 0, .int .u64 0] (two_mid wz LV 29 #[.int .u64 0, .int .u64 0, .int .u64 0, .int .u64 0, .int .u64 0, .int .u64 0, .int .u64 0, .int .u64 0, .int .u64 0, .int .u64 0, .int .u64 0, .int .u64 0, .int .u64 0, .int .u64 0, .int .u64 0, .int .u64 0, .int .u64 0, .int .u64 0, .int .u64 0, .int .u64 0, .int .u64 0, .int .u64 0, .int .u64 0, .int .u64 0]) iH.out zH.out oH.out ?_; obtain ⟨wy, hwy⟩ : ∃ x, x = World.setRow (World.setRow ((wz.alloc (.cells #[.int .u64 0, .int .u64 0, .int .u64 0, .int .u64 0, .int .u64 0, .int .u64 0, .int .u64 0, .int .u64 0, .int .u64 0, .int .u64 0, .int .u64 0, .int .u64 0, .int .u64 0, .int .u64 0, .int .u64 0, .int .u64 0, .int .u64 0, .int .u64 0, .int .u64 0, .int .u64 0, .int .u64 0, .int .u64 0, .int .u64 0, .int .u64 0] 29)).alloc (.cells #[.int .u64 0, .int .u64 0, .int .u64 0, .int .u64 0, .int .u64 0, .int .u64 0, .int .u64 0, .int .u64 0, .int .u64 0, .int .u64 0, .int .u64 0, .int .u64 0, .int .u64 0, .int .u64 0, .int .u64 0, .int .u64 0, .int .u64 0, .int .u64 0, .int .u64 0, .int .u64 0, .int .u64 0, .int .u64 0, .int .u64 0, .int .u64 0] 29)) wz.heap.size LV) (wz.heap.size + 1) HV := ⟨_, rfl⟩; rw [← hwy]; obtain ⟨hL2, hH2, hK, hBB⟩ := two_end hwy; clear hwy; replace hA := hK _ _ hA; replace hT := hK _ _ hT; obtain ⟨t0, t1, _, _⟩ := cells2 hT; replace hP := hK _ _ hP; replace hL := hK _ _ hL; replace hH := hK _ _ hH; replace hz := hBB _ hz; clear hK hBB; obtain ⟨P2, hPP⟩ : ∃ P, P = wz.heap.size := ⟨_, rfl⟩; rw [← hPP] at hL2 hH2 ⊢; clear hPP; obtain ⟨wz, hwz⟩ : ∃ x, x = wy := ⟨_, rfl⟩; subst hwz) | (refine wpList_load_row rfl 29 (.tmp 9) rfl P1 rfl 29 LV (0, 0) _ hL Try.underlying29 rfl iL.out ?_) | (refine wpList_load_row_on (by rfl) 29 (.tmp 10) rfl (P1 + 1) rfl 29 HV (0, 0) _ hH Try.underlying29 rfl iH.out ?_))
    go_ret
    exact ⟨rfl, bel_via b0 hz⟩
  | true =>
    obtain ⟨h1, h2, rfl, rfl⟩ := HY.out rfl
    have h1 := Lib.hid h1
    have h2 := Lib.hid h2
    clear HY HN eL eH
    go_enter Try.func8, Try.ntmps8
    go_wp2_with (with_reducible refine stop_op (o := ⟨some 18, _, _, _, _, _⟩) ?_)
    rw [← Hw0.out]
    clear Hw0
    refine Lib.hid ?_
    obtain ⟨t0, t1, _, _⟩ := cells2 hT
    go_upto_region 7 with (first | (refine wpList_load_row rfl 29 (.tmp 4) rfl w.heap.size rfl 29 A (0, 0) _ hA Try.underlying29 rfl i1.out ?_) | (go_at_call 22; with_reducible refine (k1 _).mono ?_; rintro e wz ⟨rfl, hb⟩; replace hA := blkB hb hA; replace hT := blkB hb hT; obtain ⟨t0, t1, _, _⟩ := cells2 hT; replace hP := blkB hb hP; replace hz := bel_via hz hb; clear hb) | (go_at_call 23; with_reducible refine (k2 _).mono ?_; rintro e wz ⟨rfl, hb⟩; replace hA := blkB hb hA; replace hT := blkB hb hT; obtain ⟨t0, t1, _, _⟩ := cells2 hT; replace hP := blkB hb hP; replace hL := blkB hb hL; replace hH := blkB hb hH; replace hz := bel_via hz hb; clear hb) | (refine wpList_store_row rfl 29 (.tmp 9) (.tmp 22) rfl wz.heap.size LV rfl rfl 29 #[.int .u64 0, .int .u64 0, .int .u64 0, .int .u64 0, .int .u64 0, .int .u64 0, .int .u64 0, .int .u64 0, .int .u64 0, .int .u64 0, .int .u64 0, .int .u64 0, .int .u64 0, .int .u64 0, .int .u64 0, .int .u64 0, .int .u64 0, .int .u64 0, .int .u64 0, .int .u64 0, .int .u64 0, .int .u64 0, .int .u64 0, .int .u64 0] (blk_al (heap_alloc_new wz _) _) iL.out zL.out oL.out ?_) | (refine wpList_store_row rfl 29 (.tmp 10) (.tmp 23) rfl (wz.heap.size + 1) HV rfl rfl 29 #[.int .u64 0, .int .u64 0, .int .u64 0, .int .u64 0, .int .u64 0, .int .u64 0, .int .u64 0, .int .u64 0, .int .u64 0, .int .u64 0, .int .u64 0, .int .u64 0, .int .u64 0, .int .u64 0, .int .u64 0, .int .u64 0, .int .u64 0, .int .u64 0, .int .u64 0, .int .u64 0, .int .u64 0, .int .u64 0, .int .u64 0, .int .u64 0] (two_mid wz LV 29 #[.int .u64 0, .int .u64 0, .int .u64 0, .int .u64 0, .int .u64 0, .int .u64 0, .int .u64 0, .int .u64 0, .int .u64 0, .int .u64 0, .int .u64 0, .int .u64 0, .int .u64 0, .int .u64 0, .int .u64 0, .int .u64 0, .int .u64 0, .int .u64 0, .int .u64 0, .int .u64 0, .int .u64 0, .int .u64 0, .int .u64 0, .int .u64 0]) iH.out zH.out oH.out ?_; obtain ⟨wy, hwy⟩ : ∃ x, x = World.setRow (World.setRow ((wz.alloc (.cells #[.int .u64 0, .int .u64 0, .int .u64 0, .int .u64 0, .int .u64 0, .int .u64 0, .int .u64 0, .int .u64 0, .int .u64 0, .int .u64 0, .int .u64 0, .int .u64 0, .int .u64 0, .int .u64 0, .int .u64 0, .int .u64 0, .int .u64 0, .int .u64 0, .int .u64 0, .int .u64 0, .int .u64 0, .int .u64 0, .int .u64 0, .int .u64 0] 29)).alloc (.cells #[.int .u64 0, .int .u64 0, .int .u64 0, .int .u64 0, .int .u64 0, .int .u64 0, .int .u64 0, .int .u64 0, .int .u64 0, .int .u64 0, .int .u64 0, .int .u64 0, .int .u64 0, .int .u64 0, .int .u64 0, .int .u64 0, .int .u64 0, .int .u64 0, .int .u64 0, .int .u64 0, .int .u64 0, .int .u64 0, .int .u64 0, .int .u64 0] 29)) wz.heap.size LV) (wz.heap.size + 1) HV := ⟨_, rfl⟩; rw [← hwy]; obtain ⟨hL, hH, hK, hBB⟩ := two_end hwy; clear hwy; replace hA := hK _ _ hA; replace hT := hK _ _ hT; obtain ⟨t0, t1, _, _⟩ := cells2 hT; replace hP := hK _ _ hP; replace hz := hBB _ hz; clear hK hBB; obtain ⟨P1, hPP⟩ : ∃ P, P = wz.heap.size := ⟨_, rfl⟩; rw [← hPP] at hL hH ⊢; clear hPP; obtain ⟨wz, hwz⟩ : ∃ x, x = wy := ⟨_, rfl⟩; subst hwz) | (refine wpList_store_row rfl 29 (.tmp 12) (.tmp 30) rfl wz.heap.size LV rfl rfl 29 #[.int .u64 0, .int .u64 0, .int .u64 0, .int .u64 0, .int .u64 0, .int .u64 0, .int .u64 0, .int .u64 0, .int .u64 0, .int .u64 0, .int .u64 0, .int .u64 0, .int .u64 0, .int .u64 0, .int .u64 0, .int .u64 0, .int .u64 0, .int .u64 0, .int .u64 0, .int .u64 0, .int .u64 0, .int .u64 0, .int .u64 0, .int .u64 0] (blk_al (heap_alloc_new wz _) _) iL.out zL.out oL.out ?_) | (refine wpList_store_row rfl 29 (.tmp 13) (.tmp 31) rfl (wz.heap.size + 1) HV rfl rfl 29 #[.int .u64 0, .int .u64 0, .int .u64 0, .int .u64 0, .int .u64 0, .int .u64 0, .int .u64 0, .int .u64 0, .int .u64 0, .int .u64 0, .int .u64 0, .int .u64 0, .int .u64 0, .int .u64 0, .int .u64 0, .int .u64 0, .int .u64 0, .int .u64 0, .int .u64 0, .int .u64 0, .int .u64 0, .int .u64 0, .int .u64 0, .int .u64 0] (two_mid wz LV 29 #[.int .u64 0, .int .u64 0, .int .u64 0, .int .u64 0, .int .u64 0, .int .u64 0, .int .u64 0, .int .u64 0, .int .u64 0, .int .u64 0, .int .u64 0, .int .u64 0, .int .u64 0, .int .u64 0, .int .u64 0, .int .u64 0, .int .u64 0, .int .u64 0, .int .u64 0, .int .u64 0, .int .u64 0, .int .u64 0, .int .u64 0, .int .u64 0]) iH.out zH.out oH.out ?_; obtain ⟨wy, hwy⟩ : ∃ x, x = World.setRow (World.setRow ((wz.alloc (.cells #[.int .u64 0, .int .u64 0, .int .u64 0, .int .u64 0, .int .u64 0, .int .u64 0, .int .u64 0, .int .u64 0, .int .u64 0, .int .u64 0, .int .u64 0, .int .u64 0, .int .u64 0, .int .u64 0, .int .u64 0, .int .u64 0, .int .u64 0, .int .u64 0, .int .u64 0, .int .u64 0, .int .u64 0, .int .u64 0, .int .u64 0, .int .u64 0] 29)).alloc (.cells #[.int .u64 0, .int .u64 0, .int .u64 0, .int .u64 0, .int .u64 0, .int .u64 0, .int .u64 0, .int .u64 0, .int .u64 0, .int .u64 0, .int .u64 0, .int .u64 0, .int .u64 0, .int .u64 0, .int .u64 0, .int .u64 0, .int .u64 0, .int .u64 0, .int .u64 0, .int .u64 0, .int .u64 0, .int .u64 0, .int .u64 0, .int .u64 0] 29)) wz.heap.size LV) (wz.heap.size + 1) HV := ⟨_, rfl⟩; rw [← hwy]; obtain ⟨hL2, hH2, hK, hBB⟩ := two_end hwy; clear hwy; replace hA := hK _ _ hA; replace hT := hK _ _ hT; obtain ⟨t0, t1, _, _⟩ := cells2 hT; replace hP := hK _ _ hP; replace hL := hK _ _ hL; replace hH := hK _ _ hH; replace hz := hBB _ hz; clear hK hBB; obtain ⟨P2, hPP⟩ : ∃ P, P = wz.heap.size := ⟨_, rfl⟩; rw [← hPP] at hL2 hH2 ⊢; clear hPP; obtain ⟨wz, hwz⟩ : ∃ x, x = wy := ⟨_, rfl⟩; subst hwz))
    cases X <;> cases Y <;> first
      | exact absurd h1.out (by decide)
      | (obtain rfl := h2.out
         go_wp2_with (first | (refine wpList_load_row rfl 29 (.tmp 9) rfl P1 rfl 29 LV (0, 0) _ hL Try.underlying29 rfl iL.out ?_) | (refine wpList_load_row rfl 29 (.tmp 10) rfl (P1 + 1) rfl 29 HV (0, 0) _ hH Try.underlying29 rfl iH.out ?_) | (refine wpList_load_row rfl 38 (.tmp 7) rfl (w.heap.size + 2) rfl 38 P (0, 0) _ hP Try.underlying38 rfl i3.out ?_) | (refine wpList_load_row_on (by rfl) 29 (.tmp 4) rfl w.heap.size rfl 29 A (0, 0) _ hA Try.underlying29 rfl i1.out ?_) | (refine wpList_load_row_on (by rfl) 38 (.tmp 7) rfl (w.heap.size + 2) rfl 38 P (0, 0) _ hP Try.underlying38 rfl i3.out ?_) | (refine wpList_load_row_on (by rfl) 29 (.tmp 9) rfl P1 rfl 29 LV (0, 0) _ hL Try.underlying29 rfl iL.out ?_) | (refine wpList_load_row_on (by rfl) 29 (.tmp 10) rfl (P1 + 1) rfl 29 HV (0, 0) _ hH Try.underlying29 rfl iH.out ?_) | (go_at_call 17; with_reducible refine (c1 _).mono ?_; rintro e wz ⟨rfl, hb⟩; replace hA := blkB hb hA; replace hP := blkB hb hP; replace hL := blkB hb hL; replace hH := blkB hb hH; replace hz := bel_via hz hb; clear hb) | (go_at_call 17; with_reducible refine (c2 _).mono ?_; rintro e wz ⟨rfl, hb⟩; replace hA := blkB hb hA; replace hP := blkB hb hP; replace hL := blkB hb hL; replace hH := blkB hb hH; replace hz := bel_via hz hb; clear hb) | (go_at_call 18; with_reducible refine (c3 _).mono ?_; rintro e wz ⟨rfl, hb⟩; replace hA := blkB hb hA; replace hP := blkB hb hP; replace hL := blkB hb hL; replace hH := blkB hb hH; replace hz := bel_via hz hb; clear hb) | (go_at_call 10; with_reducible refine (c4 _).mono ?_; rintro e wz ⟨rfl, hb⟩; replace hA := blkB hb hA; replace hP := blkB hb hP; replace hL := blkB hb hL; replace hH := blkB hb hH; replace hz := bel_via hz hb; clear hb) | (go_at_call 10; with_reducible refine (c5 _).mono ?_; rintro e wz ⟨rfl, hb⟩; replace hA := blkB hb hA; replace hP := blkB hb hP; replace hL := blkB hb hL; replace hH := blkB hb hH; replace hz := bel_via hz hb; clear hb))
         go_ret
         exact ⟨rfl, bel_via b0 hz⟩)
end Go.Proofs.Ytjkcnkjgooifoaa
