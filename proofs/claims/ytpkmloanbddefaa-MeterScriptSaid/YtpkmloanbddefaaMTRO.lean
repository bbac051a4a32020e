/- The document's meters: Has, Tokens, out; by-name template. -/
import Derived.Test.YtpkmloanbddefaaMTRP
namespace Go.Proofs.Ytpkmloanbddefaa
open Go.RowKit Go.Lib Go.Maps
set_option linter.unusedVariables false
set_option linter.unusedSimpArgs false

theorem rhas_any {w : World} {S : Nat → Prop} {r b : Int} {Rm : Nat} {E : List RE} {v : Value} (h : RAt w S r b Rm E v) {s : Src} (hs : SrcOk s) :
    Calls Try.prog 13 #[.pointer (some ⟨Rm, 0, none⟩), .agg #[.int .u64 s.1, .int .u64 s.2]] w fun e w' => e = .returned (.bool (hasP (E.map RE.me) s)) ∧ Below w.heap.size w w' := by
  have h1 := h.al (.cells #[.int .u64 s.1, .int .u64 s.2] 25)
  have hb1 : Below w.heap.size w (w.alloc (.cells #[.int .u64 s.1, .int .u64 s.2] 25)) := (Below.refl _ _).alloc (Nat.le_refl _) _
  have hat := rat_any h1 hs
  have hc : (0 ≤ atV (E.map RE.me) s) ↔ idxP (E.map RE.me) s < (E.map RE.me).length := by
    unfold atV; split <;> omega
  unfold hasP
  generalize atV (E.map RE.me) s = i at *
  by_cases hi : 0 ≤ i
  · rw [decide_eq_true (hc.1 hi)]
    clear hc h1 h
    go_enter Try.func13, Try.ntmps13
    go_wp2_with (go_at_call 22; refine hat.mono ?_; rintro e w2 ⟨rfl, b2⟩)
    go_ret
    exact ⟨ret_bool (by simp [hi]), hb1.trans (b2.mono (by simp))⟩
  · rw [decide_eq_false (fun h => hi (hc.2 h))]
    clear hc h1 h
    go_enter Try.func13, Try.ntmps13
    go_wp2_with (go_at_call 22; refine hat.mono ?_; rintro e w2 ⟨rfl, b2⟩)
    go_ret
    exact ⟨ret_bool (by simp [hi]), hb1.trans (b2.mono (by simp))⟩

theorem RAt.setD {w w' : World} {S : Nat → Prop} {r b : Int} {Rm : Nat} {E : List RE} {v : Value} (h : RAt w S r b Rm E v) {i : Nat} {e : RE} (hi : E[i]? = some e) {D' : BK} (gD : Good D') (hb : BkAt 41 w' e.B D') (ho : Off e.B w w') :
    RAt w' S r b Rm (E.set i { e with D := D' }) v := by
  have hil : i < E.length := (List.getElem?_eq_some_iff.1 hi).1
  have hie : E[i] = e := (List.getElem?_eq_some_iff.1 hi).2
  have hem : e ∈ E := hie ▸ List.getElem_mem hil
  have hmem : ∀ x ∈ E.set i { e with D := D' }, (x = { e with D := D' }) ∨ (x ∈ E ∧ x.B ≠ e.B) := by
    intro x hx
    rw [List.mem_iff_getElem?] at hx
    obtain ⟨j, hj⟩ := hx
    rw [List.getElem?_set] at hj
    split at hj
    · exact .inl (by simpa using hj.symm)
    · rename_i hne
      refine .inr ⟨List.mem_of_getElem? hj, ?_⟩
      have hjl : j < E.length := (List.getElem?_eq_some_iff.1 hj).1
      have hje : E[j] = x := (List.getElem?_eq_some_iff.1 hj).2
      have hp := List.pairwise_iff_getElem.1 h.uq
      rcases Nat.lt_or_gt_of_ne hne with hlt | hgt
      · have := (hp i j hil hjl hlt).2
        rw [hie, hje] at this
        exact fun e => this e.symm
      · have := (hp j i hjl hil hgt).2
        rw [hie, hje] at this
        exact this
  have hmap : ∀ {β : Type} (f : RE → β), f { e with D := D' } = f e → (E.set i { e with D := D' }).map f = E.map f := by
    intro β f hf
    rw [List.map_set, hf]
    refine List.ext_getElem? fun j => ?_
    rw [List.getElem?_set]
    split
    · rename_i hij
      subst hij
      simp [hil, hie]
    · rfl
  have hne : ∀ {k : Nat} {cs : Array Value} {T : TypeId}, w.heap[k]? = some (.cells cs T (0, 0)) → T ≠ 41 → w'.heap[k]? = some (.cells cs T (0, 0)) := by
    intro k cs T hk hT
    rw [ho.block k (Array.getElem?_eq_some_iff.1 hk).1 ?_]; exact hk
    intro e1
    have hb0 := h.bk e hem
    unfold BkAt at hb0
    rw [← e1, hk] at hb0
    simp only [Option.some.injEq, Obj.cells.injEq] at hb0
    exact hT hb0.2.1
  exact {
    hm := hne h.hm (by decide)
    row := by
      rw [hmap RE.ptr rfl, List.length_set]
      refine ⟨h.row.1, ?_⟩
      rcases h.row.2 with hn | ⟨g, cap, cur, rfl, hb, hgg, rest⟩
      · exact .inl hn
      · exact .inr ⟨g, cap, cur, rfl, hb, hne hgg (by decide), rest⟩
    me := fun x hx => by
      rcases hmem x hx with rfl | ⟨hx, _⟩
      · exact hne (h.me e hem) (by decide)
      · exact hne (h.me x hx) (by decide)
    bk := fun x hx => by
      rcases hmem x hx with rfl | ⟨hx, hxb⟩
      · exact hb
      · exact (h.bk x hx).off ho hxb
    gd := fun x hx => by
      rcases hmem x hx with rfl | ⟨hx, _⟩
      · exact gD
      · exact h.gd x hx
    ok := fun x hx => by
      rcases hmem x hx with rfl | ⟨hx, _⟩
      · exact h.ok e hem
      · exact h.ok x hx
    uq := by
      have := (List.pairwise_map (l := E) (R := fun x y : Nat × Nat => x.1 ≠ y.1 ∧ x.2 ≠ y.2) (f := fun x : RE => (x.O, x.B))).2 h.uq
      rw [← hmap (fun x : RE => (x.O, x.B)) rfl] at this
      exact List.pairwise_map.1 this
    sS := ⟨h.sS.1, h.sS.2.1, fun x hx => by
      rcases hmem x hx with rfl | ⟨hx, _⟩
      · exact h.sS.2.2 e hem
      · exact h.sS.2.2 x hx⟩
    lt := fun k hk => Nat.lt_of_lt_of_le (h.lt k hk) ho.size
    ln := by rw [List.length_set]; exact h.ln }

theorem rme_at {E : List RE} {s : Src} (h : idxP (E.map RE.me) s < (E.map RE.me).length) : ∃ e, E[idxP (E.map RE.me) s]? = some e ∧ e.s = s ∧ bkP (E.map RE.me) (idxP (E.map RE.me) s) = e.D := by
  rw [ridx_me] at h ⊢
  have h' : (E.findIdx fun e => e.s == s) < E.length := by simpa using h
  refine ⟨E[E.findIdx fun e => e.s == s], List.getElem?_eq_getElem h', by simpa using List.findIdx_getElem (w := h'), ?_⟩
  unfold bkP
  rw [List.getD_eq_getElem?_getD, List.getElem?_map, List.getElem?_eq_getElem h']
  rfl

/-- an element of the slice. -/
theorem RAt.elem {w : World} {S : Nat → Prop} {r b : Int} {Rm : Nat} {E : List RE} {v : Value} (h : RAt w S r b Rm E v) {i : Nat} {e : RE} (hi : E[i]? = some e) :
    ∃ g cap, v = .slice (some ⟨g, 0, none⟩) E.length cap ∧ E.length ≤ cap ∧ cap ≤ maxLen ∧ g < w.heap.size ∧ S g ∧ w.cell? ⟨g, i, none⟩ = some (.pointer (some ⟨e.O, 0, none⟩)) ∧ w.cell? ⟨e.O, 0, none⟩ = some (.int .u64 e.s.1) ∧ w.cell? ⟨e.O, 1, none⟩ = some (.int .u64 e.s.2) ∧ w.cell? ⟨e.O, 2, none⟩ = some (.pointer (some ⟨e.B, 0, none⟩)) := by
  have hem := List.mem_of_getElem? hi
  rcases h.sl with ⟨_, rfl⟩ | ⟨g, cap, rfl, h1, h2, h3, h4⟩
  · simp at hi
  · exact ⟨g, cap, rfl, h1, h2, h3, h.sS.2.1 g rfl, h4 i e hi, cell_of_row _ e.O 0 _ _ _ (h.me e hem), cell_of_row _ e.O 1 _ _ _ (h.me e hem), cell_of_row _ e.O 2 _ _ _ (h.me e hem)⟩

theorem rtokens_m {w : World} {S : Nat → Prop} {r b : Int} {Rm : Nat} {E : List RE} {v : Value} (h : RAt w S r b Rm E v) {s : Src} (hs : SrcOk s) {t : Int} (ht : i64ok t) :
    Calls Try.prog 17 #[.pointer (some ⟨Rm, 0, none⟩), .agg #[.int .u64 s.1, .int .u64 s.2], .int .i64 t] w fun e w' => e = .returned (.int .i64 (tokV (E.map RE.me) s t)) ∧ (∃ E', RAt w' S r b Rm E' v ∧ E'.map RE.me = tokL (E.map RE.me) s t) ∧ OffS S w w' := by
  have hln := h.ln
  have h1 := h.al (.cells #[.int .u64 s.1, .int .u64 s.2] 25)
  have hb1 : Below w.heap.size w (w.alloc (.cells #[.int .u64 s.1, .int .u64 s.2] 25)) := (Below.refl _ _).alloc (Nat.le_refl _) _
  have hat := rat_any h1 hs
  unfold tokV tokL
  by_cases hi : idxP (E.map RE.me) s < (E.map RE.me).length
  · obtain ⟨e, he, hes, heD⟩ := rme_at hi
    have hil := (List.getElem?_eq_some_iff.1 he).1
    have e1 : atV (E.map RE.me) s = (idxP (E.map RE.me) s : Int) := by unfold atV; rw [if_pos hi]
    rw [e1] at hat
    rw [if_pos hi, if_pos hi, heD]
    generalize idxP (E.map RE.me) s = i at *
    subst hes
    have hem := List.mem_of_getElem? he
    obtain ⟨g, cap, rfl, k1, k2, k3, k4, _⟩ := h1.elem he
    have hS := h.sS.2.2 e hem
    have gl := (h.gd e hem).learn ht
    have FACT : ∀ w2, Below (w.alloc (.cells #[.int .u64 e.s.1, .int .u64 e.s.2] 25)).heap.size (w.alloc (.cells #[.int .u64 e.s.1, .int .u64 e.s.2] 25)) w2 → RAt w2 S r b Rm E (.slice (some ⟨g, 0, none⟩) E.length cap) := fun w2 hb => h1.below hb
    have TOK : ∀ w2, Below (w.alloc (.cells #[.int .u64 e.s.1, .int .u64 e.s.2] 25)).heap.size (w.alloc (.cells #[.int .u64 e.s.1, .int .u64 e.s.2] 25)) w2 → Calls Try.prog 26 #[.pointer (some ⟨e.B, 0, none⟩), .int .i64 t] w2 fun e9 w' => e9 = .returned (.int .i64 (learnP e.D t).n) ∧ (∃ E', RAt w' S r b Rm E' (.slice (some ⟨g, 0, none⟩) E.length cap) ∧ E'.map RE.me = (E.map RE.me).set i (e.s, learnP e.D t)) ∧ OffS S w w' := fun w2 hb =>
      (rtokens_any ((FACT w2 hb).bk e hem) (h.gd e hem) ht).mono fun e9 w' ⟨he9, hbk, hof⟩ => ⟨he9, ⟨_, (FACT w2 hb).setD he gl hbk hof, by rw [List.map_set]; rfl⟩, ((offS_below hb1).trans (offS_below hb)).trans (hof.toS (.inl hS.2))⟩
    have HT := Lib.hid TOK
    have HF := Lib.hid FACT
    have HE := Lib.hid he
    unfold maxLen at k2
    clear TOK FACT h h1 hi heD he hem gl hS hb1 e1
    have hEl := Lib.hid (rfl : E.length = E.length)
    go_enter Try.func17, Try.ntmps17
    go_wp2_with (first
      | (go_at_call 22; refine hat.mono ?_; rintro e9 w2 ⟨rfl, b2⟩; have h2 := HF.out _ b2; have c2 := h2.c2s; obtain ⟨g', cap', hv, _, _, _, _, q0, q1, q2, q3⟩ := h2.elem HE.out; obtain ⟨rfl, rfl⟩ : g' = g ∧ cap' = cap := by (simp at hv; exact ⟨hv.1.symm, hv.2.symm⟩))
      | (go_at_call 26; refine (HT.out _ b2).mono ?_; rintro e9 w3 ⟨rfl, hx, ho⟩))
    go_ret
    exact ⟨rfl, hx, ho⟩
  · have e1 : atV (E.map RE.me) s = -1 := by unfold atV; rw [if_neg hi]
    rw [e1] at hat
    rw [if_neg hi, if_neg hi]
    have FIN : ∀ w2, Below (w.alloc (.cells #[.int .u64 s.1, .int .u64 s.2] 25)).heap.size (w.alloc (.cells #[.int .u64 s.1, .int .u64 s.2] 25)) w2 → (∃ E', RAt w2 S r b Rm E' v ∧ E'.map RE.me = E.map RE.me) ∧ OffS S w w2 := fun w2 hb => ⟨⟨E, h1.below hb, rfl⟩, (offS_below hb1).trans (offS_below hb)⟩
    have HF := Lib.hid FIN
    clear h1 h FIN e1 hi hb1
    go_enter Try.func17, Try.ntmps17
    go_wp2_with (go_at_call 22; refine hat.mono ?_; rintro e9 w2 ⟨rfl, b2⟩)
    go_ret
    exact ⟨rfl, HF.out _ b2⟩

theorem info_one : (Try.prog.info? 48).map (fun i => (i.zero, i.size, i.bytes)) = some (some (.pointer none), 1, 8) := by kernel_rfl

theorem row_low {w : World} {base base' : Nat} {e : TypeId} {size : Nat} {v : Value} {n : Nat} {xs : List Value} (h : w.ownsRow base e size v n xs) (hb : base' ≤ base) : w.ownsRow base' e size v n xs := by
  refine ⟨h.1, ?_⟩
  rcases h.2 with hn | ⟨g, cap, cur, rfl, h1, rest⟩
  · exact .inl hn
  · exact .inr ⟨g, cap, cur, rfl, Nat.le_trans hb h1, rest⟩

structure RF (w : World) (S : Nat → Prop) (E : List RE) : Prop where
  me : ∀ e ∈ E, w.heap[e.O]? = some (.cells #[.int .u64 e.s.1, .int .u64 e.s.2, .pointer (some ⟨e.B, 0, none⟩)] 47 (0, 0))
  bk : ∀ e ∈ E, BkAt 41 w e.B e.D
  gd : ∀ e ∈ E, Good e.D
  ok : ∀ e ∈ E, SrcOk e.s
  uq : E.Pairwise (fun x y => x.O ≠ y.O ∧ x.B ≠ y.B)
  sS : ∀ e ∈ E, S e.O ∧ S e.B
theorem RAt.rf {w : World} {S : Nat → Prop} {r b : Int} {Rm : Nat} {E F : List RE} {v : Value} (h : RAt w S r b Rm E v) (hF : F.Sublist E) : RF w S F :=
  ⟨fun e he => h.me e (hF.subset he), fun e he => h.bk e (hF.subset he), fun e he => h.gd e (hF.subset he), fun e he => h.ok e (hF.subset he), h.uq.sublist hF, fun e he => h.sS.2.2 e (hF.subset he)⟩
theorem RF.push {w : World} {S : Nat → Prop} {E : List RE} (h : RF w S E) {e : RE} (me : w.heap[e.O]? = some (.cells #[.int .u64 e.s.1, .int .u64 e.s.2, .pointer (some ⟨e.B, 0, none⟩)] 47 (0, 0))) (bk : BkAt 41 w e.B e.D) (gd : Good e.D) (ok : SrcOk e.s)
    (uq : ∀ x ∈ E, x.O ≠ e.O ∧ x.B ≠ e.B) : RF w (fun k => S k ∨ k = e.O ∨ k = e.B) (E ++ [e]) := by
  have all : ∀ {Q : RE → Prop}, (∀ x ∈ E, Q x) → Q e → ∀ x ∈ E ++ [e], Q x := fun h1 h2 x hx => by
    rcases List.mem_append.1 hx with hx | hx
    · exact h1 x hx
    · obtain rfl : x = e := by simpa using hx
      exact h2
  exact ⟨all h.me me, all h.bk bk, all h.gd gd, all h.ok ok, List.pairwise_append.2 ⟨h.uq, List.pairwise_singleton _ _, fun x hx y hy => by
      obtain rfl : y = e := by simpa using hy
      exact uq x hx⟩, all (fun x hx => ⟨.inl (h.sS x hx).1, .inl (h.sS x hx).2⟩) ⟨.inr (.inl rfl), .inr (.inr rfl)⟩⟩

/-- the slice is another one. -/
theorem RAt.newRow {w w3 : World} {S S' T : Nat → Prop} {r b : Int} {Rm : Nat} {E F : List RE} {v v2 : Value} (h : RAt w S r b Rm E v) (hk : ∀ k, k < w.heap.size → (∀ g, v.ownBlock = some g → k ≠ g) → w3.heap[k]? = w.heap[k]?) (hrow : w3.ownsRow 0 48 1 v2 F.length (F.map RE.ptr)) (hF : RF w T F)
    (hv : ∀ g, v2.ownBlock = some g → S' g) (hSS : ∀ k, T k → S' k) (hRm : S' Rm) (hlt : ∀ k, S' k → k < w3.heap.size) (hln : F.length ≤ 32) : RAt (w3.setCell ⟨Rm, 2, none⟩ v2) S' r b Rm F v2 := by
  have hne : ∀ {k : Nat} {cs : Array Value} {T : TypeId}, w.heap[k]? = some (.cells cs T (0, 0)) → T ≠ 48 → w3.heap[k]? = some (.cells cs T (0, 0)) := by
    intro k cs T hh hT
    rw [hk k (Array.getElem?_eq_some_iff.1 hh).1 ?_]; exact hh
    intro g hg e1
    rcases h.row.2 with ⟨rfl, _⟩ | ⟨g', cap, cur, rfl, _, hgg, _⟩
    · simp [Value.ownBlock] at hg
    · simp only [Value.ownBlock, Option.some.injEq] at hg
      rw [e1, ← hg, hgg] at hh
      simp only [Option.some.injEq, Obj.cells.injEq] at hh
      exact hT hh.2.1.symm
  have hm3 := hne h.hm (by decide)
  have hne2 : ∀ {k : Nat} {cs : Array Value} {T : TypeId}, w3.heap[k]? = some (.cells cs T (0, 0)) → T ≠ 38 → (w3.setCell ⟨Rm, 2, none⟩ v2).heap[k]? = some (.cells cs T (0, 0)) := by
    intro k cs T hh hT
    rw [Below.heap_setCell _ _ _ _ ?_]; exact hh
    intro e1
    rw [e1, hm3] at hh
    simp only [Option.some.injEq, Obj.cells.injEq] at hh
    exact hT hh.2.1.symm
  exact {
    hm := heap_set hm3 2 v2
    row := by
      refine ⟨hrow.1, ?_⟩
      rcases hrow.2 with hn | ⟨g, cap, cur, rfl, hb, hgg, rest⟩
      · exact .inl hn
      · exact .inr ⟨g, cap, cur, rfl, hb, hne2 hgg (by decide), rest⟩
    me := fun e he => hne2 (hne (hF.me e he) (by decide)) (by decide)
    bk := fun e he => hne2 (hne (hF.bk e he) (by decide)) (by decide)
    gd := hF.gd
    ok := hF.ok
    uq := hF.uq
    sS := ⟨hRm, hv, fun e he => ⟨hSS _ (hF.sS e he).1, hSS _ (hF.sS e he).2⟩⟩
    lt := fun k hk => by simpa using hlt k hk
    ln := hln }

theorem own_slice {w : World} {base : Nat} {e : TypeId} {size : Nat} {v : Value} {n : Nat} {xs : List Value} (h : w.ownsRow base e size v n xs) : ∃ a n c, v = .slice a n c := by
  rcases h.2 with ⟨rfl, _⟩ | ⟨g, cap, cur, rfl, _⟩
  · exact ⟨_, _, _, rfl⟩
  · exact ⟨_, _, _, rfl⟩

theorem ptr_one (F : List RE) : ∀ u ∈ F.map RE.ptr, u.oneCell' = true := by
  intro u hu
  obtain ⟨e, _, rfl⟩ := List.mem_map.1 hu
  rfl

set_option maxHeartbeats 1000000 in
theorem rout_any {w : World} {S : Nat → Prop} {r b : Int} {Rm : Nat} {E : List RE} {v : Value} (h : RAt w S r b Rm E v) {i : Nat} (hi : i < E.length) :
    Calls Try.prog 24 #[.pointer (some ⟨Rm, 0, none⟩), .int .i64 (i : Int)] w fun e w' => e = .returned (.tuple #[]) ∧ (∃ v', RAt w' (fun k => S k ∨ (w.heap.size ≤ k ∧ k < w'.heap.size)) r b Rm (E.eraseIdx i) v') ∧ OffS (fun k => k = Rm) w w' := by
  have hln := h.ln
  obtain ⟨e, he⟩ : ∃ e, E[i]? = some e := ⟨_, List.getElem?_eq_getElem hi⟩
  obtain ⟨g, cap, rfl, k1, k2, k3, k4, _⟩ := h.elem he
  have hcell : ∀ j x, E[j]? = some x → w.cell? ⟨g, j, none⟩ = some (.pointer (some ⟨x.O, 0, none⟩)) := by
    intro j x hj
    obtain ⟨g', cap', hv, _, _, _, _, q0, _⟩ := h.elem hj
    simp at hv
    rw [hv.1]; exact q0
  have hadd : ∀ (x y j : Nat), (⟨x, y, none⟩ : Addr).add j = ⟨x, y + j, none⟩ := by intro x y j; unfold Addr.add; split <;> simp_all
  have N1 : ∀ w', Below w.heap.size w w' → ∀ j u, ((E.take i).map RE.ptr)[j]? = some u → w'.cell? ((⟨g, 0, none⟩ : Addr).add j) = some u := by
    intro w' hb j u hj
    rw [hadd, Nat.zero_add, World.cell?_of_block (a := ⟨g, j, none⟩) (hb.block g k3)]
    rw [List.getElem?_map] at hj
    obtain ⟨x, hx, rfl⟩ := Option.map_eq_some_iff.1 hj
    rw [List.getElem?_take] at hx
    split at hx
    · exact hcell j x hx
    · cases hx
  have N2 : ∀ w', Below w.heap.size w w' → ∀ j u, ((E.drop (i + 1)).map RE.ptr)[j]? = some u → w'.cell? ((⟨g, i + 1, none⟩ : Addr).add j) = some u := by
    intro w' hb j u hj
    rw [hadd, World.cell?_of_block (a := ⟨g, i + 1 + j, none⟩) (hb.block g k3)]
    rw [List.getElem?_map] at hj
    obtain ⟨x, hx, rfl⟩ := Option.map_eq_some_iff.1 hj
    rw [List.getElem?_drop] at hx
    exact hcell (i + 1 + j) x hx
  have l1 : ((E.take i).map RE.ptr).length = i * 1 := by simp; omega
  have l2 : ((E.drop (i + 1)).map RE.ptr).length = (E.length - (i + 1)) * 1 := by simp
  have o1 := ptr_one (E.take i)
  have o2 := ptr_one (E.drop (i + 1))
  have hRm := h.lt _ h.sS.1
  obtain ⟨iu, hiu, hu0, hu1, hu2⟩ := info_parts info_one
  have made := World.ownsRow_made (e := 48) (size := 1) (base := w.heap.size) w #[] 0 (Nat.le_refl _) (by unfold maxLen; omega) rfl
  have hb0 : Below w.heap.size w (w.alloc (.cells #[] 48)) := (Below.refl _ _).alloc (Nat.le_refl _) _
  have c2 := (h.al (.cells #[] 48)).c2s
  have hlen2 : i + (E.length - (i + 1)) = (E.take i ++ E.drop (i + 1)).length := by simp; omega
  have FIN : ∀ w3 v2, Below w.heap.size w w3 → w3.ownsRow w.heap.size 48 1 v2 (i + (E.length - (i + 1))) ((E.take i).map RE.ptr ++ (E.drop (i + 1)).map RE.ptr) →
      (∃ v', RAt (w3.setCell ⟨Rm, 2, none⟩ v2) (fun k => S k ∨ (w.heap.size ≤ k ∧ k < (w3.setCell ⟨Rm, 2, none⟩ v2).heap.size)) r b Rm (E.eraseIdx i) v') ∧ OffS (fun k => k = Rm) w (w3.setCell ⟨Rm, 2, none⟩ v2) := by
    intro w3 v2 hb hrow
    rw [hlen2, ← List.map_append, ← List.eraseIdx_eq_take_drop_succ] at hrow
    refine ⟨⟨v2, h.newRow (fun k hk _ => hb.block k hk) (row_low hrow (Nat.zero_le _)) (h.rf (List.eraseIdx_sublist _ _)) (fun g' hg' => .inr ?_) (fun k hk => .inl hk) (.inl h.sS.1) (fun k hk => ?_) (Nat.le_trans (List.eraseIdx_sublist _ _).length_le h.ln)⟩, (offS_below hb).trans (((Off.refl Rm w3).set 2 v2).toS (.inl rfl))⟩
    · have := hrow.lt g' hg'
      exact ⟨this.1, by simpa using this.2⟩
    · rcases hk with hk | hk
      · exact Nat.lt_of_lt_of_le (h.lt k hk) hb.size
      · simpa using hk.2
  have hbk : ∀ w3, Below w.heap.size w w3 → w3.cell? ⟨Rm, 2, none⟩ = some (.slice (some ⟨g, 0, none⟩) E.length cap) ∧ w3.frozen? ⟨Rm, 2, none⟩ = false := fun w3 hb => ⟨(h.below hb).c2s, free_of (h.below hb).hm 2⟩
  have HF := Lib.hid FIN
  have HB := Lib.hid hbk
  have H1 := Lib.hid N1
  have H2 := Lib.hid N2
  have HL := Lib.hid (And.intro l1 l2)
  have HO := Lib.hid (And.intro o1 o2)
  have HM := Lib.hid (And.intro made hb0)
  clear FIN hbk N1 N2 l1 l2 o1 o2 made hb0 hcell hlen2 h he
  unfold maxLen at k2
  generalize hlen : E.length = len at *
  have HLEN := Lib.hid hlen
  clear hlen
  have hRl : w.heap.size < (w.alloc (.cells #[] 48)).heap.size := by simp
  generalize hw1 : w.alloc (.cells #[] 48) = w1 at *
  have h63 : 0 + i ≤ maxLen := by unfold maxLen; omega
  have h47 : (0 + i) * 8 ≤ 140737488355328 := by omega
  have h63b : i + (len - (i + 1)) ≤ maxLen := by unfold maxLen; omega
  have h47b : (i + (len - (i + 1))) * 8 ≤ 140737488355328 := by omega
  have hb1 : w.heap.size ≤ w1.heap.size := by omega
  have hW : ∀ w2, w1.grownBy w2 (some w.heap.size) → Below w.heap.size w w2 := fun w2 hg => by
    have b1 := HM.out.2
    exact ⟨hg.os.trans b1.os, hg.tape.trans b1.tape, hg.output.trans b1.output, Nat.le_trans b1.size hg.size, fun k hk => (hg.block k (by omega) (by simp; omega)).trans (b1.block k hk)⟩
  have hW2 : ∀ (w2 w3 : World) (v1 : Value), Below w.heap.size w w2 → w2.ownsRow w.heap.size 48 1 v1 i ((E.take i).map RE.ptr) → w2.grownBy w3 v1.ownBlock → Below w.heap.size w w3 := fun w2 w3 v1 b2 ho hg => by
    refine ⟨hg.os.trans b2.os, hg.tape.trans b2.tape, hg.output.trans b2.output, Nat.le_trans b2.size hg.size, fun k hk => (hg.block k (Nat.lt_of_lt_of_le hk b2.size) (fun e => ?_)).trans (b2.block k hk)⟩
    have := ho.lt k e.symm
    omega
  have hZ : ∀ (w2 : World) (v1 : Value), w2.ownsRow w.heap.size 48 1 v1 (0 + i) ([] ++ (E.take i).map RE.ptr) → w2.ownsRow w.heap.size 48 1 v1 i ((E.take i).map RE.ptr) := fun w2 v1 h => by simpa using h
  have HW := Lib.hid hW
  have HW2 := Lib.hid hW2
  have HZ := Lib.hid hZ
  clear hW hW2 hZ
  by_cases hcap : i + 1 = cap
  · have hl0 : len - (i + 1) = 0 := by omega
    have hll : len = cap := by omega
    have N3 : ∀ w' : World, ∀ j u, ((E.drop (i + 1)).map RE.ptr)[j]? = some u → w'.cell? ((⟨g, 0, none⟩ : Addr).add j) = some u := by
      intro w' j u hj
      rw [List.drop_eq_nil_of_le (by rw [HLEN.out]; omega)] at hj
      simp at hj
    have H3 := Lib.hid N3
    clear N3
    rw [hl0] at HF HL h63b h47b
    have HCAP := Lib.hid hcap
    subst hll
    have hcap2 : i + 1 = len := hcap
    clear hcap HCAP hl0
    have hsl : (Instr.slice 36 (.slice (some ⟨g, 0, none⟩) len len) (some (.int .i64 ((i : Int) + 1))) none none).run Try.prog = (Instr.slice 36 (.slice (some ⟨g, 0, none⟩) len len) (some (.int .i64 ((i : Int) + 1))) none none).run Try.prog := rfl
    clear hsl
    go_enter Try.func24, Try.ntmps24
    go_wp2_with (first
      | (have _t := h63; at_builtin; refine wpList_append_own_at _ rfl _ _ 36 rfl w.heap.size 48 iu (.pointer none) 1 8 Try.underlying36 hiu hu0 hu1 hu2 rfl (by decide) _ _ _ rfl HM.out.1 ⟨g, 0, none⟩ i _ ((E.take i).map RE.ptr) rfl HL.out.1 (H1.out _ HM.out.2) HO.out.1 h63 h47 hb1 ?_; intro v1 w2 hown1 hgr1 _ _; clear h63; have b2 := HW.out w2 hgr1; have c22 := (HB.out w2 b2).1; have hown1' := HZ.out _ _ hown1; clear hown1; have hz2 := b2.size)
      | (have _t := h63b; at_builtin; refine wpList_append_own_at _ rfl _ _ 36 rfl w.heap.size 48 iu (.pointer none) 1 8 Try.underlying36 hiu hu0 hu1 hu2 rfl (by decide) _ _ _ rfl hown1' ⟨g, 0, none⟩ 0 _ ((E.drop (i + 1)).map RE.ptr) rfl HL.out.2 (H3.out _) HO.out.2 h63b h47b hz2 ?_; intro v2 w3 hown2 hgr2 _ _; clear h63b; obtain ⟨sa, sn, sc, rfl⟩ := own_slice hown2; have b3 := HW2.out w2 w3 v1 b2 hown1' hgr2; have c23 := (HB.out w3 b3).1; have f23 := (HB.out w3 b3).2))
    go_end0
    exact ⟨rfl, HF.out _ _ b3 hown2⟩
  · have hcap2 : i + 1 < cap := by omega
    go_enter Try.func24, Try.ntmps24
    go_wp2_with (first
      | (have _t := h63; at_builtin; refine wpList_append_own_at _ rfl _ _ 36 rfl w.heap.size 48 iu (.pointer none) 1 8 Try.underlying36 hiu hu0 hu1 hu2 rfl (by decide) _ _ _ rfl HM.out.1 ⟨g, 0, none⟩ i _ ((E.take i).map RE.ptr) rfl HL.out.1 (H1.out _ HM.out.2) HO.out.1 h63 h47 hb1 ?_; intro v1 w2 hown1 hgr1 _ _; clear h63; have b2 := HW.out w2 hgr1; have c22 := (HB.out w2 b2).1; have hown1' := HZ.out _ _ hown1; clear hown1; have hz2 := b2.size)
      | (have _t := h63b; at_builtin; refine wpList_append_own_at _ rfl _ _ 36 rfl w.heap.size 48 iu (.pointer none) 1 8 Try.underlying36 hiu hu0 hu1 hu2 rfl (by decide) _ _ _ rfl hown1' ⟨g, i + 1, none⟩ (len - (i + 1)) _ ((E.drop (i + 1)).map RE.ptr) rfl HL.out.2 (H2.out _ b2) HO.out.2 h63b h47b hz2 ?_; intro v2 w3 hown2 hgr2 _ _; clear h63b; obtain ⟨sa, sn, sc, rfl⟩ := own_slice hown2; have b3 := HW2.out w2 w3 v1 b2 hown1' hgr2; have c23 := (HB.out w3 b3).1; have f23 := (HB.out w3 b3).2))
    go_end0
    exact ⟨rfl, HF.out _ _ b3 hown2⟩

theorem RAt.grow {w : World} {S T : Nat → Prop} {r b : Int} {Rm : Nat} {E : List RE} {v : Value} (h : RAt w S r b Rm E v) (hs : ∀ k, S k → T k) (hl : ∀ k, T k → k < w.heap.size) : RAt w T r b Rm E v :=
  { h with sS := ⟨hs _ h.sS.1, fun g hg => hs _ (h.sS.2.1 g hg), fun e he => ⟨hs _ (h.sS.2.2 e he).1, hs _ (h.sS.2.2 e he).2⟩⟩, lt := hl }

/-- One more at the end: it is laid there, then its bucket changes. -/
theorem RAt.push {w w2 w' : World} {S : Nat → Prop} {r b : Int} {Rm : Nat} {E : List RE} {v v2 : Value} (h : RAt w S r b Rm E v) (hl : E.length < 32) {e : RE} (me : w.heap[e.O]? = some (.cells #[.int .u64 e.s.1, .int .u64 e.s.2, .pointer (some ⟨e.B, 0, none⟩)] 47 (0, 0)))
    (bk : BkAt 41 w e.B e.D) {D' : BK} (gd : Good e.D) (gd' : Good D') (ok : SrcOk e.s) (uq : ∀ x ∈ E, x.O ≠ e.O ∧ x.B ≠ e.B) (o : Obj)
    (hown : w2.ownsRow 0 48 1 v2 (E.length + 1) (E.map RE.ptr ++ [RE.ptr e])) (hg : (w.alloc o).grownBy w2 v.ownBlock) (hloc : v2.ownBlock = v.ownBlock ∨ v2.ownBlock = some (w.alloc o).heap.size) (hb : BkAt 41 w' e.B D') (ho : Off e.B (w2.setCell ⟨Rm, 2, none⟩ v2) w') :
    (∃ v', RAt w' (fun k => S k ∨ k = e.O ∨ k = e.B ∨ (w.heap.size ≤ k ∧ k < w'.heap.size)) r b Rm (E ++ [{ e with D := D' }]) v') ∧ OffS (fun k => S k ∨ k = e.B) w w' := by
  have hz : (w.alloc o).heap.size = w.heap.size + 1 := by simp
  have hrow : w2.ownsRow 0 48 1 v2 (E ++ [e]).length ((E ++ [e]).map RE.ptr) := by simpa using hown
  have hOl := (Array.getElem?_eq_some_iff.1 me).1
  have hBl := bk.lt
  have hz2 := hg.size
  have hz3 := ho.size
  simp only [World.size_setCell] at hz3
  have hl2 := hrow.lt
  have h2 := h.newRow (w3 := w2) (v2 := v2) (S' := fun k => S k ∨ k = e.O ∨ k = e.B ∨ (w.heap.size ≤ k ∧ k < w2.heap.size)) (fun k hk hne => (hg.block k (by omega) (fun e1 => hne k e1.symm rfl)).trans (Below.heap_alloc w o k hk)) hrow ((h.rf (List.Sublist.refl E)).push me bk gd ok uq)
    (fun g hg2 => by
      have := hl2 g hg2
      rcases hloc with e1 | e1
      · exact .inl (h.sS.2.1 g (e1.symm.trans hg2))
      · rw [hg2] at e1
        have := Option.some.inj e1
        exact .inr (.inr (.inr ⟨by omega, by omega⟩))) (fun k hk => by rcases hk with h1 | h1 | h1; exact .inl h1; exact .inr (.inl h1); exact .inr (.inr (.inl h1))) (.inl h.sS.1)
    (fun k hk => by
      rcases hk with h1 | h1 | h1 | h1
      · have := h.lt k h1; omega
      · omega
      · omega
      · exact h1.2) (by simp; omega)
  have hat : (E ++ [e])[E.length]? = some e := by simp
  have h3 := h2.setD hat gd' hb ho
  rw [show (E ++ [e]).set E.length { e with D := D' } = E ++ [{ e with D := D' }] by simp] at h3
  refine ⟨⟨v2, h3.grow (fun k hk => by rcases hk with h1 | h1 | h1 | h1; exact .inl h1; exact .inr (.inl h1); exact .inr (.inr (.inl h1)); exact .inr (.inr (.inr ⟨h1.1, by omega⟩))) (fun k hk => by
      rcases hk with h1 | h1 | h1 | h1
      · have := h.lt k h1; omega
      · omega
      · omega
      · exact h1.2)⟩, ?_⟩
  have o1 : OffS (fun k => S k ∨ k = e.B) w (w.alloc o) := offS_below ((Below.refl _ _).alloc (Nat.le_refl _) _)
  have o2 : OffS S (w.alloc o) w2 := ⟨hg.os, hg.tape, hg.output, hg.size, fun k hk hn => hg.block k hk (fun e1 => hn (h.sS.2.1 k e1.symm))⟩
  exact ((o1.trans (o2.mono (fun k _ hk => .inl hk))).trans (((Off.refl Rm w2).set 2 v2).toS (.inl (.inl h.sS.1)))).trans (ho.toS (.inl (.inr rfl)))
end Go.Proofs.Ytpkmloanbddefaa
