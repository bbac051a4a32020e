/- The document's meters: Take; by-name template (gen_mtrt.py). -/
import Derived.Test.YtpkmloanbddefaaMTRO
import Derived.Test.YtpkmloanbddefaaMTT
namespace Go.Proofs.Ytpkmloanbddefaa
open Go.RowKit Go.Lib Go.Maps
set_option linter.unusedVariables false
set_option linter.unusedSimpArgs false

theorem rnew_at (r b t : Int) (w : World) : Calls Try.prog 16 #[.int .i64 r, .int .i64 b, .int .i64 t] w fun e w' => ∃ B, e = .returned (.pointer (some ⟨B, 0, none⟩)) ∧ w.heap.size ≤ B ∧ BkAt 41 w' B (newP r b t) ∧ Below w.heap.size w w' :=
  (rnew_any r b t w).mono fun e w' ⟨he, h1, h2, h3⟩ => ⟨_, he, Nat.le_refl _, h1, h2⟩

theorem ne_own {w : World} {S : Nat → Prop} {r b : Int} {Rm : Nat} {E : List RE} {v : Value} (h : RAt w S r b Rm E v) {k : Nat} {cs : Array Value} {T : TypeId} (hk : w.heap[k]? = some (.cells cs T (0, 0))) (hT : T ≠ 48) : some k ≠ v.ownBlock := by
  intro e1
  rcases h.row.2 with ⟨rfl, _⟩ | ⟨g', cap, cur, rfl, _, hgg, _⟩
  · simp [Value.ownBlock] at e1
  · simp only [Value.ownBlock, Option.some.injEq] at e1
    rw [e1, hgg] at hk
    simp only [Option.some.injEq, Obj.cells.injEq] at hk
    exact hT hk.2.1.symm

/-- what is there behind the append. -/
theorem RAt.tail {w w4 : World} {S : Nat → Prop} {r b : Int} {Rm : Nat} {E : List RE} {v : Value} (h : RAt w S r b Rm E v) {O B : Nat} {x y : Int} {D : BK} (me : w.heap[O]? = some (.cells #[.int .u64 x, .int .u64 y, .pointer (some ⟨B, 0, none⟩)] 47 (0, 0)))
    (bk : BkAt 41 w B D) (o : Obj) (hg : (w.alloc o).grownBy w4 v.ownBlock) :
    w4.heap[Rm]? = some (.cells #[.int .i64 r, .int .i64 b, v] 38 (0, 0)) ∧ w4.heap[O]? = some (.cells #[.int .u64 x, .int .u64 y, .pointer (some ⟨B, 0, none⟩)] 47 (0, 0)) ∧ BkAt 41 w4 B D ∧ O ≠ Rm ∧ B ≠ Rm := by
  have hz : (w.alloc o).heap.size = w.heap.size + 1 := by simp
  have kc : ∀ {k : Nat} {cs : Array Value} {T : TypeId}, w.heap[k]? = some (.cells cs T (0, 0)) → T ≠ 48 → w4.heap[k]? = some (.cells cs T (0, 0)) := fun {k cs T} hk hT => by
    have hl := (Array.getElem?_eq_some_iff.1 hk).1
    rw [hg.block k (by omega) (ne_own h hk hT), Below.heap_alloc _ _ _ hl]
    exact hk
  exact ⟨kc h.hm (by decide), kc me (by decide), kc bk (by decide), ne_cells me h.hm (by decide), ne_cells bk h.hm (by decide)⟩

def RTakePost (w : World) (S : Nat → Prop) (r b t : Int) (Rm : Nat) (E : List RE) (s : Src) (e : Ending) (w' : World) : Prop :=
  ∃ S' E' v', e = .returned (.tuple #[.bool (takeO r b (E.map RE.me) s t), .bool (takeR (E.map RE.me) s t)]) ∧ RAt w' S' r b Rm E' v' ∧ E'.map RE.me = takeL r b (E.map RE.me) s t ∧ OffS S w w' ∧ (∀ k, S' k → S k ∨ w.heap.size ≤ k)

theorem mem_rdrop {E : List RE} (hu : E.Pairwise (fun x y => x.O ≠ y.O ∧ x.B ≠ y.B)) {k : Nat} {e : RE} (hk : E[k]? = some e) {x : RE} (hx : x ∈ E.eraseIdx k) : x ∈ E ∧ x.O ≠ e.O ∧ x.B ≠ e.B := by
  have kl := (List.getElem?_eq_some_iff.1 hk).1
  have ke := (List.getElem?_eq_some_iff.1 hk).2
  obtain ⟨j, hne, hj⟩ := List.mem_eraseIdx_iff_getElem?.1 hx
  have jl := (List.getElem?_eq_some_iff.1 hj).1
  have je := (List.getElem?_eq_some_iff.1 hj).2
  have hp := List.pairwise_iff_getElem.1 hu
  refine ⟨List.mem_of_getElem? hj, ?_⟩
  rcases Nat.lt_or_gt_of_ne hne with h | h
  · have := hp j k jl kl h
    rw [je, ke] at this
    exact this
  · have := hp k j kl jl h
    rw [je, ke] at this
    exact ⟨fun e => this.1 e.symm, fun e => this.2 e.symm⟩

set_option maxHeartbeats 2000000 in
theorem rtake_in {w : World} {S : Nat → Prop} {r b : Int} {Rm : Nat} {E : List RE} {v : Value} (h : RAt w S r b Rm E v) {s : Src} (hs : SrcOk s) {t : Int} (ht : i64ok t) (hi : idxP (E.map RE.me) s < (E.map RE.me).length) :
    Calls Try.prog 11 #[.pointer (some ⟨Rm, 0, none⟩), .agg #[.int .u64 s.1, .int .u64 s.2], .int .i64 t] w (RTakePost w S r b t Rm E s) := by
  obtain ⟨e, he, hes, heD⟩ := rme_at hi
  have hil := (List.getElem?_eq_some_iff.1 he).1
  have hem := List.mem_of_getElem? he
  have hln := h.ln
  have h1 := h.al (.cells #[.int .u64 s.1, .int .u64 s.2] 25)
  have hb1 : Below w.heap.size w (w.alloc (.cells #[.int .u64 s.1, .int .u64 s.2] 25)) := (Below.refl _ _).alloc (Nat.le_refl _) _
  have q1 : (w.alloc (.cells #[.int .u64 s.1, .int .u64 s.2] 25)).heap[w.heap.size]? = some (.cells #[.int .u64 s.1, .int .u64 s.2] 25 (0, 0)) := heap_alloc_new w _
  have hat := rat_any h1 hs
  have e1 : atV (E.map RE.me) s = (idxP (E.map RE.me) s : Int) := by unfold atV; rw [if_pos hi]
  rw [e1] at hat
  have gT := (h.gd e hem).take ht 1
  obtain ⟨iu, hiu, hu0, hu1, hu2⟩ := info_parts info_one
  have FIN : ∀ w2 w3 v3 v4 w4 w' o, Below w.heap.size w w2 → RAt w3 (fun k => S k ∨ (w2.heap.size ≤ k ∧ k < w3.heap.size)) r b Rm (E.eraseIdx (idxP (E.map RE.me) s)) v3 → OffS (fun k => k = Rm) w2 w3 →
      w3.heap[e.O]? = some (.cells #[.int .u64 e.s.1, .int .u64 e.s.2, .pointer (some ⟨e.B, 0, none⟩)] 47 (0, 0)) → BkAt 41 w3 e.B e.D →
      w4.ownsRow 0 48 1 v4 ((E.eraseIdx (idxP (E.map RE.me) s)).length + 1) ((E.eraseIdx (idxP (E.map RE.me) s)).map RE.ptr ++ [.pointer (some ⟨e.O, 0, none⟩)]) → (w3.alloc o).grownBy w4 v3.ownBlock → (v4.ownBlock = v3.ownBlock ∨ v4.ownBlock = some (w3.alloc o).heap.size) → BkAt 41 w' e.B (takeD e.D t 1) → Off e.B (w4.setCell ⟨Rm, 2, none⟩ v4) w' →
      RTakePost w S r b t Rm E s (.returned (.tuple #[.bool (takeB e.D t 1), .bool true])) w' := by
    intro w2 w3 v3 v4 w4 w' o hb2 h3 o3 me bk hown hg hloc hbk ho
    obtain ⟨⟨v', hp⟩, hof⟩ := h3.push (by rw [List.length_eraseIdx]; split <;> omega) me bk (h.gd e hem) gT (h.ok e hem) (fun x hx => (mem_rdrop h.uq he hx).2) o hown hg hloc hbk ho
    have z2 := hb2.size
    have z3 := o3.size
    have hS := h.sS.2.2 e hem
    have oo : OffS S w w' := ((offS_below hb2).trans (o3.mono (fun k _ hk => by rw [hk]; exact h.sS.1))).andThen hof (fun i hi hh => by
      rcases hh with (hh | hh) | hh
      · exact hh
      · omega
      · rw [hh]; exact hS.2)
    refine ⟨_, _, v', ?_, hp, ?_, oo, fun k hk => ?_⟩
    · unfold takeO takeR
      rw [if_pos hi, decide_eq_true hi, heD]; rfl
    · unfold takeL
      rw [if_pos hi, List.map_append, Go.ChangeMaps.map_eraseIdx, heD, List.map_cons, List.map_nil]
      simp only [RE.me]
      rw [hes]
    · rcases hk with (hk | hk) | hk | hk | hk
      · exact .inl hk
      · exact .inr (by omega)
      · rw [hk]; exact .inl hS.1
      · rw [hk]; exact .inl hS.2
      · exact .inr (by omega)
  have ROUT : ∀ w2, Below w.heap.size w w2 → Calls Try.prog 24 #[.pointer (some ⟨Rm, 0, none⟩), .int .i64 (idxP (E.map RE.me) s : Int)] w2 fun e9 w3 => e9 = .returned (.tuple #[]) ∧ (∃ a n c, RAt w3 (fun k => S k ∨ (w2.heap.size ≤ k ∧ k < w3.heap.size)) r b Rm (E.eraseIdx (idxP (E.map RE.me) s)) (.slice a n c)) ∧ OffS (fun k => k = Rm) w2 w3 ∧
      w3.heap[e.O]? = some (.cells #[.int .u64 e.s.1, .int .u64 e.s.2, .pointer (some ⟨e.B, 0, none⟩)] 47 (0, 0)) ∧ BkAt 41 w3 e.B e.D := fun w2 hb2 =>
    (rout_any (h.below hb2) hil).mono fun e9 w3 ⟨he9, ⟨v', hr⟩, ho⟩ => by
      obtain ⟨a, n, c, rfl⟩ := own_slice hr.row
      have hm2 := (h.below hb2).me e hem
      have hk2 := (h.below hb2).bk e hem
      have hR2 := (h.below hb2).hm
      exact ⟨he9, ⟨a, n, c, hr⟩, ho, (ho.block _ (Array.getElem?_eq_some_iff.1 hm2).1 (ne_cells hm2 hR2 (by decide))).trans hm2, (ho.block _ hk2.lt (ne_cells hk2 hR2 (by decide))).trans hk2⟩
  obtain ⟨g, cap, rfl, k1, k2, k3, k4, _⟩ := h.elem he
  have hel : ∀ w2, Below w.heap.size w w2 → w2.cell? ⟨Rm, 2, none⟩ = some (.slice (some ⟨g, 0, none⟩) E.length cap) ∧ w2.cell? ⟨g, idxP (E.map RE.me) s, none⟩ = some (.pointer (some ⟨e.O, 0, none⟩)) := fun w2 hb2 => by
    obtain ⟨g', cap', hv, _, _, _, _, q0, _⟩ := (h.below hb2).elem he
    obtain ⟨rfl, rfl⟩ : g' = g ∧ cap' = cap := by simp at hv; exact ⟨hv.1.symm, hv.2.symm⟩
    exact ⟨(h.below hb2).c2s, q0⟩
  have hRl := h.lt _ h.sS.1
  have hlen3 : (E.eraseIdx (idxP (E.map RE.me) s)).length + 1 ≤ 32 := by rw [List.length_eraseIdx]; split <;> omega
  have HF := Lib.hid FIN
  have HRO := Lib.hid ROUT
  have HEL := Lib.hid hel
  have HGD := Lib.hid (h.gd e hem)
  have HB1 := Lib.hid hb1
  have HQ1 := Lib.hid q1
  unfold maxLen at k2
  clear FIN ROUT hel hb1 q1 h h1 heD gT hi e1 he
  generalize idxP (E.map RE.me) s = i at *
  generalize hlen : E.length = len at *
  have HLEN := Lib.hid hlen
  clear hlen
  generalize hF : E.eraseIdx i = F at *
  have HFF := Lib.hid hF
  clear hF
  generalize hO : e.O = O at *
  have HO := Lib.hid hO
  clear hO
  have tokA : True := trivial
  go_enter Try.func11, Try.ntmps11
  go_wp2_with (first
    | (go_at_call 22; refine hat.mono ?_; rintro e9 w2 ⟨rfl, b2⟩; have q2 := (b2.block w.heap.size (by simp)).trans HQ1.out; have s0 := cell_of_row _ w.heap.size 0 _ _ _ q2; have s1 := cell_of_row _ w.heap.size 1 _ _ _ q2; have bb2 := HB1.out.trans (b2.mono (by simp)); have hz2 := bb2.size; have y1 := (HEL.out _ bb2).1; have y2 := (HEL.out _ bb2).2; have hRl2 := Nat.lt_of_lt_of_le hRl hz2; have hgl2 := Nat.lt_of_lt_of_le k3 hz2)
    | (go_at_call 24; refine (HRO.out _ (bb2.alloc hz2 _)).mono ?_; rintro e9 w3 ⟨rfl, ⟨a3, n3, c3, h3⟩, o3, m3, k3'⟩; have z1 := h3.c2s; have hRz := h3.lt _ h3.sS.1; have HR3 := Lib.hid h3; have HM3 := Lib.hid (And.intro m3 k3'); have HO3 := Lib.hid (HF.out _ _ _ · · · · (bb2.alloc hz2 _) h3 o3 m3 k3'); clear h3 o3 m3 k3' HRO)
    | (have _t := tokA; at_builtin; refine wpList_append_own_at _ rfl _ _ 36 rfl 0 48 iu (.pointer none) 1 8 Try.underlying36 hiu hu0 hu1 hu2 rfl (by decide) _ _ _ rfl (HR3.out.row.alloc _) ⟨w3.heap.size, 0, none⟩ 1 1 [.pointer (some ⟨O, 0, none⟩)] rfl rfl (cell_one_new _ _ _) (by intro u hu; simp only [List.mem_singleton] at hu; subst hu; rfl) (by unfold maxLen; omega) (by omega) (Nat.zero_le _) ?_; intro v4 w4 hown4 hgr4 _ hloc4; clear tokA; obtain ⟨sa, sn, sc, rfl⟩ := own_slice hown4; obtain ⟨g1, g2, g3, g4, g5⟩ := HR3.out.tail HM3.out.1 HM3.out.2 _ hgr4; have x1 := cell_of_row _ Rm 2 _ _ _ g1; have x2 := free_of g1 2; have x3 := cell_of_row _ O 2 _ _ _ g2; have hTK := rtake_any (g3.off ((Off.refl Rm w4).set 2 (.slice sa sn sc)) g5) HGD.out ht 1)
    | (go_at_call 18; refine hTK.mono ?_; rintro e9 w5 ⟨rfl, h5, o5⟩))
  go_ret2
  exact HO3.out _ _ _ _ hown4 hgr4 hloc4 h5 o5

theorem RAt.fin_new {wq wX w4 w' : World} {S : Nat → Prop} {r b : Int} {Rm : Nat} {F : List RE} {v v4 : Value} (h : RAt wq S r b Rm F v) (hl : F.length < 32) {s : Src} (hs : SrcOk s) {t : Int} (ht : i64ok t) {O B : Nat} (hO : wq.heap.size ≤ O) (hB : wq.heap.size ≤ B) (hbX : Below wq.heap.size wq wX)
    (me : wX.heap[O]? = some (.cells #[.int .u64 s.1, .int .u64 s.2, .pointer (some ⟨B, 0, none⟩)] 47 (0, 0))) (bk : BkAt 41 wX B (newP r b t)) (o : Obj)
    (hown : w4.ownsRow 0 48 1 v4 (F.length + 1) (F.map RE.ptr ++ [.pointer (some ⟨O, 0, none⟩)])) (hg : (wX.alloc o).grownBy w4 v.ownBlock) (hloc : v4.ownBlock = v.ownBlock ∨ v4.ownBlock = some (wX.alloc o).heap.size) (hb : BkAt 41 w' B (takeD (newP r b t) t 1)) (ho : Off B (w4.setCell ⟨Rm, 2, none⟩ v4) w') :
    (∃ v', RAt w' (fun k => S k ∨ (wq.heap.size ≤ k ∧ k < w'.heap.size)) r b Rm (F ++ [⟨s, O, B, newT r b t⟩]) v') ∧ OffS S wq w' := by
  have gN := good_new r b t ht
  have hX := h.below hbX
  obtain ⟨⟨v', hp⟩, hof⟩ := hX.push (e := ⟨s, O, B, newP r b t⟩) hl me bk gN (gN.take ht 1) hs (fun x hx => by
    have h1 := (Array.getElem?_eq_some_iff.1 (h.me x hx)).1
    have h2 := (h.bk x hx).lt
    exact ⟨by simp only; omega, by simp only; omega⟩) o hown hg hloc hb ho
  have z1 := hbX.size
  have z2 := hof.size
  have oo : OffS S wq w' := (offS_below hbX).andThen hof (fun i hi hh => by
    rcases hh with hh | hh
    · exact hh
    · simp only at hh; omega)
  have hOl := (Array.getElem?_eq_some_iff.1 me).1
  have hBl := bk.lt
  refine ⟨⟨v', hp.grow (fun k hk => ?_) (fun k hk => ?_)⟩, oo⟩
  · simp only at hk
    rcases hk with hk | hk | hk | hk
    · exact .inl hk
    · exact .inr ⟨by omega, by omega⟩
    · exact .inr ⟨by omega, by omega⟩
    · exact .inr ⟨by omega, hk.2⟩
  · rcases hk with hk | hk
    · have := h.lt k hk; omega
    · exact hk.2

theorem RAt.sv {w : World} {S : Nat → Prop} {r b : Int} {Rm : Nat} {E : List RE} {v : Value} (h : RAt w S r b Rm E v) : ∃ a c, v = .slice a E.length c := by
  rcases h.sl with ⟨rfl, rfl⟩ | ⟨g, cap, rfl, _⟩
  · exact ⟨_, _, rfl⟩
  · exact ⟨_, _, rfl⟩

set_option maxHeartbeats 2000000 in
theorem rtake_new {w : World} {S : Nat → Prop} {r b : Int} {Rm : Nat} {E : List RE} {v : Value} (h : RAt w S r b Rm E v) {s : Src} (hs : SrcOk s) {t : Int} (ht : i64ok t) (hi : ¬ idxP (E.map RE.me) s < (E.map RE.me).length) (hl : E.length < 32) :
    Calls Try.prog 11 #[.pointer (some ⟨Rm, 0, none⟩), .agg #[.int .u64 s.1, .int .u64 s.2], .int .i64 t] w (RTakePost w S r b t Rm E s) := by
  have h1 := h.al (.cells #[.int .u64 s.1, .int .u64 s.2] 25)
  have hb1 : Below w.heap.size w (w.alloc (.cells #[.int .u64 s.1, .int .u64 s.2] 25)) := (Below.refl _ _).alloc (Nat.le_refl _) _
  have q1 : (w.alloc (.cells #[.int .u64 s.1, .int .u64 s.2] 25)).heap[w.heap.size]? = some (.cells #[.int .u64 s.1, .int .u64 s.2] 25 (0, 0)) := heap_alloc_new w _
  have hat := rat_any h1 hs
  have e1 : atV (E.map RE.me) s = -1 := by unfold atV; rw [if_neg hi]
  rw [e1] at hat
  obtain ⟨iu, hiu, hu0, hu1, hu2⟩ := info_parts info_one
  obtain ⟨sa0, sc0, rfl⟩ := h.sv
  have hL : (E.map RE.me).length = E.length := by simp
  have FIN : ∀ wq w' O B, Below w.heap.size w wq → (∃ v', RAt w' (fun k => S k ∨ (wq.heap.size ≤ k ∧ k < w'.heap.size)) r b Rm (E ++ [⟨s, O, B, newT r b t⟩]) v') ∧ OffS S wq w' → RTakePost w S r b t Rm E s (.returned (.tuple #[.bool (takeB (newP r b t) t 1), .bool true])) w' := by
    intro wq w' O B hb ⟨⟨v', hp⟩, ho⟩
    have z := hb.size
    refine ⟨_, _, v', ?_, hp, ?_, (offS_below hb).trans ho, fun k hk => ?_⟩
    · unfold takeO takeR
      rw [if_neg hi, hL, if_pos hl, decide_eq_true hl, Bool.or_true, Bool.true_or]; rfl
    · unfold takeL
      rw [if_neg hi, hL, if_pos hl, List.map_append]; rfl
    · rcases hk with hk | hk
      · exact .inl hk
      · exact .inr (by omega)
  have HF := Lib.hid FIN
  have HH := Lib.hid h
  have HB1 := Lib.hid hb1
  have HQ1 := Lib.hid q1
  have HS := Lib.hid hs
  have HGN := Lib.hid (good_new r b t ht)
  have hRl := h.lt _ h.sS.1
  have hlen32 : ((E.length : Int) == 32) = false := by simp; omega
  have hlq := hl
  clear FIN h h1 hb1 q1 hs e1 hi hL
  have tokA : True := trivial
  go_enter Try.func11, Try.ntmps11
  go_wp2_with (first
    | (go_at_call 22; refine hat.mono ?_; rintro e9 wq ⟨rfl, b2⟩; have q2 := (b2.block w.heap.size (by simp)).trans HQ1.out; have s0 := cell_of_row _ w.heap.size 0 _ _ _ q2; have s1 := cell_of_row _ w.heap.size 1 _ _ _ q2; have bb2 := HB1.out.trans (b2.mono (by simp)); have HR3 := Lib.hid (HH.out.below bb2); have y1 := HR3.out.c2s))
  clear y1

  have hqa : Below wq.heap.size wq (wq.alloc (.cells #[.int .u64 s.1, .int .u64 s.2, .pointer none] 47)) := (Below.refl _ _).alloc (Nat.le_refl _) _
  have hA := HR3.out.below hqa
  have y0 := hA.dr.c0
  have y1 := hA.dr.c1
  have hRq := HR3.out.lt _ HR3.out.sS.1
  have HBO := Lib.hid (bel_dr hqa)
  have HOO : Hid ((wq.alloc (.cells #[.int .u64 s.1, .int .u64 s.2, .pointer none] 47)).drew.heap[wq.heap.size]? = _) := Lib.hid (heap_alloc_new wq _)
  have hnw := fun w => rnew_at r b t w
  clear hA hqa

  go_region_held3 (fun w' => w'.cell? ⟨Rm, 0, none⟩ = some (.int .i64 r) ∧ w'.cell? ⟨Rm, 1, none⟩ = some (.int .i64 b))
    (first | exact ⟨y0, y1⟩ | exact ⟨y2, y3⟩ | exact ⟨y4, y5⟩)
    (first
      | (go_at_call 16; refine (hnw _).mono ?_; rintro e4 wN ⟨B, rfl, hBz, hkN, blN⟩; have bN := HBO.out.trans (blN.mono (by simp)); have hN := HR3.out.below bN; have y2 := hN.c0; have y3 := hN.c1; have oN := (blN.block wq.heap.size (by simp)).trans HOO.out; have oc := cell_of_row _ wq.heap.size 2 _ _ _ oN; have of := free_of oN 2; have y4 : (wN.setCell ⟨wq.heap.size, 2, none⟩ (.pointer (some ⟨B, 0, none⟩))).cell? ⟨Rm, 0, none⟩ = some (.int .i64 r) := (World.cell?_of_block (a := ⟨Rm, 0, none⟩) (Below.heap_setCell _ _ _ _ (show Rm ≠ wq.heap.size by omega))).trans y2; have y5 : (wN.setCell ⟨wq.heap.size, 2, none⟩ (.pointer (some ⟨B, 0, none⟩))).cell? ⟨Rm, 1, none⟩ = some (.int .i64 b) := (World.cell?_of_block (a := ⟨Rm, 1, none⟩) (Below.heap_setCell _ _ _ _ (show Rm ≠ wq.heap.size by omega))).trans y3))

  have HKN := Lib.hid hkN
  have HBN := Lib.hid (And.intro bN oN)
  have wXd : ∃ wX, wX = wN.setCell ⟨wq.heap.size, 2, none⟩ (.pointer (some ⟨B, 0, none⟩)) := ⟨_, rfl⟩
  obtain ⟨w3, hw3⟩ := wXd
  have bX : Below wq.heap.size wq w3 := by rw [hw3]; exact bN.setCell (Nat.le_refl _) _
  have oX : w3.heap[wq.heap.size]? = some (.cells #[.int .u64 s.1, .int .u64 s.2, .pointer (some ⟨B, 0, none⟩)] 47 (0, 0)) := by rw [hw3]; exact heap_set oN 2 _
  have hBneq : B ≠ wq.heap.size := ne_cells hkN oN (by decide)
  have kX : BkAt 41 w3 B (newP r b t) := by rw [hw3]; exact hkN.off ((Off.refl wq.heap.size wN).set 2 _) hBneq
  have hX3 := HR3.out.below bX
  have hBz' : wq.heap.size ≤ B := by have := hBz; simp at this; omega
  have z1 := hX3.c2s
  have HRQ := HR3
  clear HR3
  have HR3 := Lib.hid hX3
  have HM3 := Lib.hid (And.intro oX kX)
  have HFN := Lib.hid (fun w4 v4 w' o a1 a2 a3 a4 a5 => HF.out _ _ wq.heap.size B bb2 (HRQ.out.fin_new (w4 := w4) (v4 := v4) (w' := w') hlq HS.out ht (Nat.le_refl _) hBz' bX oX kX o a1 a2 a3 a4 a5))
  have hO3 : wq.heap.size < w3.heap.size := (Array.getElem?_eq_some_iff.1 oX).1
  rw [← hw3]
  clear hw3 bX oX kX hX3 hkN bN oN oc of y0 y1 y2 y3 y4 y5 blN hBz HKN HBN HBO HOO hnw HRQ
  generalize wq.heap.size = O at *

  go_wp2_with (first
    | (have _t := tokA; at_builtin; refine wpList_append_own_at _ rfl _ _ 36 rfl 0 48 iu (.pointer none) 1 8 Try.underlying36 hiu hu0 hu1 hu2 rfl (by decide) _ _ _ rfl (HR3.out.row.alloc _) ⟨w3.heap.size, 0, none⟩ 1 1 [.pointer (some ⟨O, 0, none⟩)] rfl rfl (cell_one_new _ _ _) (by intro u hu; simp only [List.mem_singleton] at hu; subst hu; rfl) (by unfold maxLen; omega) (by omega) (Nat.zero_le _) ?_; intro v4 w4 hown4 hgr4 _ hloc4; clear tokA; obtain ⟨sa, sn, sc, rfl⟩ := own_slice hown4; obtain ⟨g1, g2, g3, g4, g5⟩ := HR3.out.tail HM3.out.1 HM3.out.2 _ hgr4; have x1 := cell_of_row _ Rm 2 _ _ _ g1; have x2 := free_of g1 2; have x3 := cell_of_row _ O 2 _ _ _ g2; have hTK := rtake_any (g3.off ((Off.refl Rm w4).set 2 (.slice sa sn sc)) g5) HGN.out ht 1)
    | (go_at_call 18; refine hTK.mono ?_; rintro e9 w5 ⟨rfl, h5, o5⟩))
  go_ret2
  exact HFN.out _ _ _ _ hown4 hgr4 hloc4 h5 o5
end Go.Proofs.Ytpkmloanbddefaa
