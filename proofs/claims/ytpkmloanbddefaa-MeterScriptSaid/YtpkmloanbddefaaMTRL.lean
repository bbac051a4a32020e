/- The document's meters: Take where all meters are there; by-name template (gen_mtrt.py). -/
import Derived.Test.YtpkmloanbddefaaMTRT
namespace Go.Proofs.Ytpkmloanbddefaa
open Go.RowKit Go.Lib Go.Maps
set_option linter.unusedVariables false
set_option linter.unusedSimpArgs false

def rla (t : Int) (e : RE) : RE := { e with D := learnP e.D t }
def lrnR (t : Int) (j : Nat) (E : List RE) : List RE := (E.take j).map (rla t) ++ E.drop j
theorem lrnR_len (t : Int) (j : Nat) (E : List RE) : (lrnR t j E).length = E.length := by
  unfold lrnR
  rw [List.length_append, List.length_map, List.length_take, List.length_drop]; omega
theorem lrnR_at {t : Int} {j : Nat} {E : List RE} {x : RE} (h : E[j]? = some x) : (lrnR t j E)[j]? = some x := by
  have hl := (List.getElem?_eq_some_iff.1 h).1
  unfold lrnR
  rw [List.getElem?_append_right (by simp; omega)]
  simp only [List.length_map, List.length_take, List.getElem?_drop]
  rw [show j + (j - min j E.length) = j by omega]
  exact h
theorem lrnR_step {t : Int} {j : Nat} {E : List RE} {x : RE} (h : E[j]? = some x) : (lrnR t j E).set j { x with D := learnP x.D t } = lrnR t (j + 1) E := by
  have hl := (List.getElem?_eq_some_iff.1 h).1
  have hx := (List.getElem?_eq_some_iff.1 h).2
  unfold lrnR
  rw [List.set_append_right _ _ (by simp; omega)]
  simp only [List.length_map, List.length_take]
  rw [show j - min j E.length = 0 by omega, List.drop_eq_getElem_cons hl, hx, List.set_cons_zero, List.take_succ_eq_append_getElem hl, hx, List.map_append, List.append_assoc]
  rfl
theorem lrnR_all {t : Int} {j : Nat} {E : List RE} (h : E.length ≤ j) : lrnR t j E = E.map (rla t) := by
  unfold lrnR
  rw [List.take_of_length_le h, List.drop_eq_nil_of_le h, List.append_nil]
theorem lrnR_zero (t : Int) (E : List RE) : lrnR t 0 E = E := by simp [lrnR]
theorem rla_me (E : List RE) (t : Int) : (E.map (rla t)).map RE.me = learnL (E.map RE.me) t := by
  unfold learnL
  rw [List.map_map, List.map_map]; rfl
def fixR (E : List RE) (t : Int) : Nat := fullP (learnL (E.map RE.me) t)
theorem fixR_eq (E : List RE) (t : Int) : fixR E t = E.findIdx fun e => isFull (learnP e.D t) := by
  unfold fixR fullP learnL
  rw [List.map_map, List.findIdx_map]; rfl
def kvR (E : List RE) (t : Int) (j : Nat) : Int := if fixR E t < j then (fixR E t : Int) else -1
theorem kvR_stay {E : List RE} {t : Int} {j : Nat} (h : fixR E t < j) : kvR E t (j + 1) = kvR E t j := by
  unfold kvR; rw [if_pos h, if_pos (by omega)]
theorem kvR_no {E : List RE} {t : Int} {j : Nat} {x : RE} (hx : E[j]? = some x) (h : ¬ fixR E t < j) (hf : isFull (learnP x.D t) = false) : kvR E t (j + 1) = kvR E t j := by
  have hl := (List.getElem?_eq_some_iff.1 hx).1
  have hx' := (List.getElem?_eq_some_iff.1 hx).2
  have hne : fixR E t ≠ j := by
    intro e
    rw [fixR_eq] at e
    have h1 := List.findIdx_getElem (xs := E) (p := fun e => isFull (learnP e.D t)) (w := by omega)
    simp only [e, hx'] at h1
    rw [hf] at h1
    cases h1
  unfold kvR; rw [if_neg h, if_neg (by omega)]
theorem kvR_yes {E : List RE} {t : Int} {j : Nat} {x : RE} (hx : E[j]? = some x) (h : ¬ fixR E t < j) (hf : isFull (learnP x.D t) = true) : kvR E t (j + 1) = j := by
  have hl := (List.getElem?_eq_some_iff.1 hx).1
  have hx' := (List.getElem?_eq_some_iff.1 hx).2
  have he : fixR E t = j := by
    rw [fixR_eq] at h ⊢
    rcases Nat.lt_or_ge j (E.findIdx fun e => isFull (learnP e.D t)) with h1 | h1
    · have := List.not_of_lt_findIdx h1
      rw [hx', hf] at this
      simp at this
    · omega
  unfold kvR; rw [if_pos (by omega), he]

set_option maxHeartbeats 4000000 in
set_option maxRecDepth 100000 in
theorem rtake_full {w : World} {S : Nat → Prop} {r b : Int} {Rm : Nat} {E : List RE} {v : Value} (h : RAt w S r b Rm E v) {s : Src} (hs : SrcOk s) {t : Int} (ht : i64ok t) (hi : ¬ idxP (E.map RE.me) s < (E.map RE.me).length) (hl : E.length = 32) :
    Calls Try.prog 11 #[.pointer (some ⟨Rm, 0, none⟩), .agg #[.int .u64 s.1, .int .u64 s.2], .int .i64 t] w (RTakePost w S r b t Rm E s) := by
  have h1 := h.al (.cells #[.int .u64 s.1, .int .u64 s.2] 25)
  have hb1 : Below w.heap.size w (w.alloc (.cells #[.int .u64 s.1, .int .u64 s.2] 25)) := (Below.refl _ _).alloc (Nat.le_refl _) _
  have q1 : (w.alloc (.cells #[.int .u64 s.1, .int .u64 s.2] 25)).heap[w.heap.size]? = some (.cells #[.int .u64 s.1, .int .u64 s.2] 25 (0, 0)) := heap_alloc_new w _
  have hat := rat_any h1 hs
  have e1 : atV (E.map RE.me) s = -1 := by unfold atV; rw [if_neg hi]
  rw [e1] at hat
  obtain ⟨iu, hiu, hu0, hu1, hu2⟩ := info_parts info_one
  have hL : (E.map RE.me).length = 32 := by simpa using hl
  obtain ⟨g, cap, rfl, k1, k2, k3⟩ : ∃ g cap, v = .slice (some ⟨g, 0, none⟩) 32 cap ∧ 32 ≤ cap ∧ cap ≤ maxLen ∧ g < w.heap.size := by
    rcases h.sl with ⟨_, rfl⟩ | ⟨g, cap, rfl, q1, q2, q3, _⟩
    · simp at hl
    · exact ⟨g, cap, by rw [hl], by omega, q2, q3⟩
  have NO : ∀ w' v', RAt w' S r b Rm (E.map (rla t)) v' → OffS S w w' → ¬ fixR E t < 32 → RTakePost w S r b t Rm E s (.returned (.tuple #[.bool false, .bool false])) w' := by
    intro w' v' hp ho hn
    have hn' : ¬ fullP (learnL (E.map RE.me) t) < 32 := hn
    refine ⟨S, _, v', ?_, hp, ?_, ho, fun k hk => .inl hk⟩
    · unfold takeO takeR
      rw [if_neg hi, hL, if_neg (by omega), if_neg hn', decide_eq_false (by rw [hL] at hi; exact hi), decide_eq_false (by omega), decide_eq_false hn']; rfl
    · unfold takeL
      rw [if_neg hi, hL, if_neg (by omega), if_neg hn', rla_me]
  have YES : ∀ wA wq w' O B, OffS S w wA → OffS (fun k => k = Rm) wA wq → fixR E t < 32 → (∃ v', RAt w' (fun k => (S k ∨ (wA.heap.size ≤ k ∧ k < wq.heap.size)) ∨ (wq.heap.size ≤ k ∧ k < w'.heap.size)) r b Rm ((E.map (rla t)).eraseIdx (fixR E t) ++ [⟨s, O, B, newT r b t⟩]) v') ∧ OffS (fun k => S k ∨ (wA.heap.size ≤ k ∧ k < wq.heap.size)) wq w' → RTakePost w S r b t Rm E s (.returned (.tuple #[.bool (takeB (newP r b t) t 1), .bool true])) w' := by
    intro wA wq w' O B hoA hoq hn ⟨⟨v', hp⟩, ho⟩
    have hn' : fullP (learnL (E.map RE.me) t) < 32 := hn
    have z1 := hoA.size
    have z2 := hoq.size
    have o1 : OffS S w wq := hoA.trans (hoq.mono (fun k _ e => by rw [e]; exact h.sS.1))
    refine ⟨_, _, v', ?_, hp, ?_, o1.andThen ho (fun i hi hh => by rcases hh with hh | hh; exact hh; omega), fun k hk => ?_⟩
    · unfold takeO takeR newB
      rw [if_neg hi, hL, if_neg (by omega), if_pos hn', decide_eq_true hn', Bool.or_true]
    · unfold takeL
      rw [if_neg hi, hL, if_neg (by omega), if_pos hn', List.map_append, Go.ChangeMaps.map_eraseIdx, rla_me]; rfl
    · rcases hk with (hk | hk) | hk
      · exact .inl hk
      · exact .inr (by omega)
      · exact .inr (by omega)
  have hoff1 : OffS S w (w.alloc (.cells #[.int .u64 s.1, .int .u64 s.2] 25)) := offS_below hb1
  have hSl : ∀ k, S k → k < w.heap.size := h.lt
  have HNO := Lib.hid NO
  have HYES := Lib.hid YES
  have HH := Lib.hid h
  have HB1 := Lib.hid hb1
  have HQ1 := Lib.hid q1
  have HS := Lib.hid hs
  have HSL := Lib.hid hSl
  have HGN := Lib.hid (good_new r b t ht)
  have hRl := h.lt _ h.sS.1
  have HEL := Lib.hid hl
  have hgdE := Lib.hid h.gd
  unfold maxLen at k2
  clear NO YES h h1 hb1 q1 hs e1 hi hL hoff1 hSl hl
  have tokA : True := trivial
  go_enter Try.func11, Try.ntmps11
  go_wp2_with (first
    | (go_at_call 22; refine hat.mono ?_; rintro e9 wa ⟨rfl, b2⟩; have q2 := (b2.block w.heap.size (by simp)).trans HQ1.out; have bb2 := HB1.out.trans (b2.mono (by simp)); have HA := Lib.hid (HH.out.below bb2); have y1 := HA.out.c2s))
  clear y1 b2 hat
  go_loopw [9, 10] (fun v9 c wr => ∃ j : Nat, j ≤ 32 ∧ v9 = .int .i64 (kvR E t j) ∧ c = .int .i64 (j : Int) ∧ RAt wr S r b Rm (lrnR t j E) (.slice (some ⟨g, 0, none⟩) 32 cap) ∧ OffS S w wr ∧ wr.heap[w.heap.size]? = some (.cells #[.int .u64 s.1, .int .u64 s.2] 25 (0, 0))) (fun _ c _ => 32 - (intOf c).toNat)
  case atStart => exact ⟨0, by omega, by simp [kvR], rfl, by rw [lrnR_zero]; exact HA.out, offS_below bb2, q2⟩
  case round =>
    clear q2 bb2 HA
    obtain ⟨j, hj, rfl, rfl, hr, ho, hq⟩ := hrel
    have c2 := hr.c2s
    by_cases hlt : j < 32
    · obtain ⟨x, hx⟩ : ∃ x, E[j]? = some x := ⟨_, List.getElem?_eq_getElem (by rw [HEL.out]; exact hlt)⟩
      have hxm := List.mem_of_getElem? hx
      obtain ⟨g', cap', hv, _, _, hgl, _, p0, _, _, p1⟩ := hr.elem (lrnR_at hx)
      obtain ⟨hg1, _⟩ : g' = g ∧ True := by simp at hv; exact ⟨hv.1.symm, trivial⟩
      subst hg1
      have hFU := rfull_any (hr.bk x (List.mem_of_getElem? (lrnR_at hx))) (hgdE.out x hxm) ht
      have hfe : decide ((learnP x.D t).n = (learnP x.D t).b) = isFull (learnP x.D t) := by unfold isFull; rw [Bool.eq_iff_iff]; simp
      rw [hfe] at hFU
      have hSx := hr.sS.2.2 x (List.mem_of_getElem? (lrnR_at hx))
      have NEXT : ∀ w5, BkAt 41 w5 x.B (learnP x.D t) → Off x.B wr w5 → RAt w5 S r b Rm (lrnR t (j + 1) E) (.slice (some ⟨g', 0, none⟩) 32 cap) ∧ OffS S w w5 ∧ w5.heap[w.heap.size]? = some (.cells #[.int .u64 s.1, .int .u64 s.2] 25 (0, 0)) := fun w5 hb5 ho5 => by
        have k := hr.setD (lrnR_at hx) ((hgdE.out x hxm).learn ht) hb5 ho5
        rw [lrnR_step hx] at k
        refine ⟨k, ho.trans (ho5.toS (.inl hSx.2)), ?_⟩
        rw [ho5.block _ (Array.getElem?_eq_some_iff.1 hq).1 (fun e => by have := HSL.out _ hSx.2; omega)]
        exact hq
      have HNX := Lib.hid NEXT
      clear NEXT hr ho hq hSx hfe hxm hv
      by_cases hk : fixR E t < j
      · have e1 := kvR_stay (t := t) hk
        have e2 : kvR E t j = (fixR E t : Int) := by unfold kvR; rw [if_pos hk]
        have HE := Lib.hid (e1.trans e2)
        rw [e2]
        clear e1 e2 hx hk
        have hd : decide ((fixR E t : Int) < 0) = false := decide_eq_false (by omega)
        generalize fixR E t = K at *
        generalize isFull (learnP x.D t) = fb at *
        go_wp2_with (go_at_call 23; refine hFU.mono ?_; rintro e9 w5 ⟨rfl, h5, o5⟩)
        all_goals
          go_roundw
          case rel => exact ⟨j + 1, by omega, by rw [HE.out], by go_num, HNX.out _ h5 o5⟩
          case measure => simp [intOf]; omega
      · have e2 : kvR E t j = -1 := by unfold kvR; rw [if_neg hk]
        rcases hf : isFull (learnP x.D t) with _ | _
        · rw [hf] at hFU
          have HE := Lib.hid ((kvR_no hx hk hf).trans e2)
          rw [e2]
          clear e2 hx hk hf
          go_wp2_with (go_at_call 23; refine hFU.mono ?_; rintro e9 w5 ⟨rfl, h5, o5⟩)
          all_goals
            go_roundw
            case rel => exact ⟨j + 1, by omega, by rw [HE.out], by go_num, HNX.out _ h5 o5⟩
            case measure => simp [intOf]; omega
        · rw [hf] at hFU
          have HE := Lib.hid (kvR_yes hx hk hf)
          rw [e2]
          clear e2 hx hk hf
          go_wp2_with (go_at_call 23; refine hFU.mono ?_; rintro e9 w5 ⟨rfl, h5, o5⟩)
          all_goals
            go_roundw
            case rel => exact ⟨j + 1, by omega, by rw [HE.out], by go_num, HNX.out _ h5 o5⟩
            case measure => simp [intOf]; omega
    · have hj32 : j = 32 := by omega
      subst hj32
      rw [lrnR_all (by rw [HEL.out]; omega)] at hr
      by_cases hk : fixR E t < 32
      · have e2 : kvR E t 32 = (fixR E t : Int) := by unfold kvR; rw [if_pos hk]
        rw [e2]
        clear e2
        have hROUT := (rout_any hr (i := fixR E t) (by rw [List.length_map, HEL.out]; exact hk)).mono (fun e9 w3 h => h)
        have hfl : ((E.map (rla t)).eraseIdx (fixR E t)).length = 31 := by rw [List.length_eraseIdx, List.length_map, HEL.out, if_pos hk]
        have HY := Lib.hid (fun wq w' O B h2 h3 => HYES.out wr wq w' O B ho h2 hk h3)
        have hqq : ∀ w3, OffS (fun k => k = Rm) wr w3 → w3.heap[w.heap.size]? = some (.cells #[.int .u64 s.1, .int .u64 s.2] 25 (0, 0)) := fun w3 h3 => (h3.block _ (Array.getElem?_eq_some_iff.1 hq).1 (by omega)).trans hq
        have HQQ := Lib.hid hqq
        clear hqq HYES HNO hr hk hq ho
        generalize (E.map (rla t)).eraseIdx (fixR E t) = F at *
        generalize fixR E t = K at *
        have hlq : F.length < 32 := by omega
        have hd : decide ((K : Int) < 0) = false := decide_eq_false (by omega)
        go_wp2_with (go_at_call 24; refine hROUT.mono ?_; rintro e9 wq ⟨rfl, ⟨vq, hvq⟩, oq⟩; obtain ⟨sa0, sn0, sc0, rfl⟩ := own_slice hvq.row; have q2 := HQQ.out wq oq; have s0 := cell_of_row _ w.heap.size 0 _ _ _ q2; have s1 := cell_of_row _ w.heap.size 1 _ _ _ q2; have HR3 := Lib.hid hvq; have HY2 := Lib.hid (fun w' O B h => HY.out wq w' O B oq h))

        have hqa : Below wq.heap.size wq (wq.alloc (.cells #[.int .u64 s.1, .int .u64 s.2, .pointer none] 47)) := (Below.refl _ _).alloc (Nat.le_refl _) _
        have hA := HR3.out.below hqa
        have y0 := hA.dr.c0
        have y1 := hA.dr.c1
        have hRq := HR3.out.lt _ HR3.out.sS.1
        have HBO := Lib.hid (bel_dr hqa)
        have HOO : Hid ((wq.alloc (.cells #[.int .u64 s.1, .int .u64 s.2, .pointer none] 47)).drew.heap[wq.heap.size]? = _) := Lib.hid (heap_alloc_new wq _)
        have hnw := fun w => rnew_at r b t w
        clear hA hqa

        go_region_held3 (fun w' => w'.cell? ⟨Rm, 0, none⟩ = some (.int .i64 r) ∧ w'.cell? ⟨Rm, 1, none⟩ = some (.int .i64 b))
          (first | exact ⟨y0, y1⟩ | exact ⟨y2, y3⟩ | exact ⟨y4, y5⟩)
          (first
            | (go_at_call 16; refine (hnw _).mono ?_; rintro e4 wN ⟨B, rfl, hBz, hkN, blN⟩; have bN := HBO.out.trans (blN.mono (by simp)); have hN := HR3.out.below bN; have y2 := hN.c0; have y3 := hN.c1; have oN := (blN.block wq.heap.size (by simp)).trans HOO.out; have oc := cell_of_row _ wq.heap.size 2 _ _ _ oN; have of := free_of oN 2; have y4 : (wN.setCell ⟨wq.heap.size, 2, none⟩ (.pointer (some ⟨B, 0, none⟩))).cell? ⟨Rm, 0, none⟩ = some (.int .i64 r) := (World.cell?_of_block (a := ⟨Rm, 0, none⟩) (Below.heap_setCell _ _ _ _ (show Rm ≠ wq.heap.size by omega))).trans y2; have y5 : (wN.setCell ⟨wq.heap.size, 2, none⟩ (.pointer (some ⟨B, 0, none⟩))).cell? ⟨Rm, 1, none⟩ = some (.int .i64 b) := (World.cell?_of_block (a := ⟨Rm, 1, none⟩) (Below.heap_setCell _ _ _ _ (show Rm ≠ wq.heap.size by omega))).trans y3))

        have HKN := Lib.hid hkN
        have HBN := Lib.hid (And.intro bN oN)
        have wXd : ∃ wX, wX = wN.setCell ⟨wq.heap.size, 2, none⟩ (.pointer (some ⟨B, 0, none⟩)) := ⟨_, rfl⟩
        obtain ⟨w3, hw3⟩ := wXd
        have bX : Below wq.heap.size wq w3 := by rw [hw3]; exact bN.setCell (Nat.le_refl _) _
        have oX : w3.heap[wq.heap.size]? = some (.cells #[.int .u64 s.1, .int .u64 s.2, .pointer (some ⟨B, 0, none⟩)] 47 (0, 0)) := by rw [hw3]; exact heap_set oN 2 _
        have hBneq : B ≠ wq.heap.size := ne_cells hkN oN (by decide)
        have kX : BkAt 41 w3 B (newP r b t) := by rw [hw3]; exact hkN.off ((Off.refl wq.heap.size wN).set 2 _) hBneq
        have hX3 := HR3.out.below bX
        have hBz' : wq.heap.size ≤ B := by have := hBz; simp at this; omega
        have z1 := hX3.c2s
        have HRQ := HR3
        clear HR3
        have HR3 := Lib.hid hX3
        have HM3 := Lib.hid (And.intro oX kX)
        have HFN := Lib.hid (fun w4 v4 w' o a1 a2 a3 a4 a5 => HY2.out w' wq.heap.size B (HRQ.out.fin_new (w4 := w4) (v4 := v4) (w' := w') hlq HS.out ht (Nat.le_refl _) hBz' bX oX kX o a1 a2 a3 a4 a5))
        have hO3 : wq.heap.size < w3.heap.size := (Array.getElem?_eq_some_iff.1 oX).1
        rw [← hw3]
        clear hw3 bX oX kX hX3 hkN bN oN oc of y0 y1 y2 y3 y4 y5 blN hBz HKN HBN HBO HOO hnw HRQ
        generalize wq.heap.size = O at *

        go_wp2_with (first
          | (have _t := tokA; at_builtin; refine wpList_append_own_at _ rfl _ _ 36 rfl 0 48 iu (.pointer none) 1 8 Try.underlying36 hiu hu0 hu1 hu2 rfl (by decide) _ _ _ rfl (HR3.out.row.alloc _) ⟨w3.heap.size, 0, none⟩ 1 1 [.pointer (some ⟨O, 0, none⟩)] rfl rfl (cell_one_new _ _ _) (by intro u hu; simp only [List.mem_singleton] at hu; subst hu; rfl) (by unfold maxLen; omega) (by omega) (Nat.zero_le _) ?_; intro v4 w4 hown4 hgr4 _ hloc4; clear tokA; obtain ⟨sa, sn, sc, rfl⟩ := own_slice hown4; obtain ⟨g1, g2, g3, g4, g5⟩ := HR3.out.tail HM3.out.1 HM3.out.2 _ hgr4; have x1 := cell_of_row _ Rm 2 _ _ _ g1; have x2 := free_of g1 2; have x3 := cell_of_row _ O 2 _ _ _ g2; have hTK := rtake_any (g3.off ((Off.refl Rm w4).set 2 (.slice sa sn sc)) g5) HGN.out ht 1)
          | (go_at_call 18; refine hTK.mono ?_; rintro e9 w5 ⟨rfl, h5, o5⟩))
        go_ret2
        exact HFN.out _ _ _ _ hown4 hgr4 hloc4 h5 o5

      · have e2 : kvR E t 32 = -1 := by unfold kvR; rw [if_neg hk]
        have HN := Lib.hid (HNO.out wr _ hr ho hk)
        rw [e2]
        clear e2 HNO HYES hr ho hk hq
        go_wp2
        go_ret2
        exact HN.out

theorem rtake_meters {w : World} {S : Nat → Prop} {r b : Int} {Rm : Nat} {E : List RE} {v : Value} (h : RAt w S r b Rm E v) {s : Src} (hs : SrcOk s) {t : Int} (ht : i64ok t) :
    Calls Try.prog 11 #[.pointer (some ⟨Rm, 0, none⟩), .agg #[.int .u64 s.1, .int .u64 s.2], .int .i64 t] w (RTakePost w S r b t Rm E s) := by
  by_cases hi : idxP (E.map RE.me) s < (E.map RE.me).length
  · exact rtake_in h hs ht hi
  · by_cases hl : E.length < 32
    · exact rtake_new h hs ht hi hl
    · exact rtake_full h hs ht hi (by have := h.ln; omega)
end Go.Proofs.Ytpkmloanbddefaa
