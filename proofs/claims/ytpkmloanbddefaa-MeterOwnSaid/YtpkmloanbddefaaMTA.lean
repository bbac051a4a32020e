/- Meters: New, Has, Len, Tokens of the program; by-name template. -/
import Derived.Test.YtpkmloanbddefaaMTP
namespace Go.Proofs.Ytpkmloanbddefaa
open Go.RowKit Go.Lib Go.Maps
set_option linter.unusedVariables false
set_option linter.unusedSimpArgs false

theorem bel_dn {N : Nat} {w w' : World} (h : Below N w w') (n : Nat) : Below N w (w'.drewN n) := ⟨h.os, h.tape, h.output, h.size, h.block⟩
theorem zeroM (w : World) : (zeroValue 55).run Try.prog w = .ok (.pointer none) w := by kernel_rfl

theorem look_in {w : World} {Mp : Nat} {E : List PE} (h : MapIs w Mp E) {e : PE} (he : e ∈ E) (hs : SrcOk e.s) :
    (Instr.lookup 51 (.map (some Mp)) (.agg #[.int .u64 e.s.1, .int .u64 e.s.2]) true).run Try.prog w = .ok (.tuple #[.pointer (some ⟨e.M, 0, none⟩), .bool true]) w := by
  obtain ⟨D, h1, h2, h3, _⟩ := h
  obtain ⟨v, ps, hr, hv⟩ := h1.look_ok keyed Try.underlying51 (zeroM w) (zd := .nil) (zp := []) rfl (keyOf_src hs)
  rw [h3 e he] at hv
  rw [ptrR_inv hv, h2 _ hs, List.any_eq_true.2 ⟨e, he, by simp⟩] at hr
  exact hr
theorem look_out {w : World} {Mp : Nat} {E : List PE} (h : MapIs w Mp E) {s : Src} (hs : SrcOk s) (hn : E.any (fun e => e.s == s) = false) :
    (Instr.lookup 51 (.map (some Mp)) (.agg #[.int .u64 s.1, .int .u64 s.2]) true).run Try.prog w = .ok (.tuple #[.pointer none, .bool false]) w := by
  obtain ⟨D, h1, h2, h3, _⟩ := h
  obtain ⟨v, ps, hr, hv⟩ := h1.look_ok keyed Try.underlying51 (zeroM w) (zd := .nil) (zp := []) rfl (keyOf_src hs)
  have hh := h2 _ hs
  rw [hn] at hh
  rw [atKey_of_not_has hh] at hv
  have e : v = .pointer none := by
    unfold ptrR at hv
    split at hv
    · rfl
    · split at hv <;> simp at hv
    · cases hv
  rw [e, hh] at hr
  exact hr
theorem look_one {w : World} {Mp : Nat} {E : List PE} (h : MapIs w Mp E) {e : PE} (he : e ∈ E) (hs : SrcOk e.s) :
    (Instr.lookup 51 (.map (some Mp)) (.agg #[.int .u64 e.s.1, .int .u64 e.s.2]) false).run Try.prog w = .ok (.pointer (some ⟨e.M, 0, none⟩)) w := by
  obtain ⟨D, h1, h2, h3, _⟩ := h
  obtain ⟨v, ps, hr, hv⟩ := h1.lookup keyed Try.underlying51 (zeroM w) (zd := .nil) (zp := []) rfl (keyOf_src hs)
  rw [h3 e he] at hv
  rw [ptrR_inv hv] at hr
  exact hr

theorem PAt.c0 {w : World} {S : Nat → Prop} {r b tk : Int} {Bm Mp : Nat} {E : List PE} (h : PAt w S r b tk Bm Mp E) : w.cell? ⟨Bm, 0, none⟩ = some (.int .i64 r) := cell_of_row _ Bm 0 _ _ _ h.hm
theorem PAt.c1 {w : World} {S : Nat → Prop} {r b tk : Int} {Bm Mp : Nat} {E : List PE} (h : PAt w S r b tk Bm Mp E) : w.cell? ⟨Bm, 1, none⟩ = some (.int .i64 b) := cell_of_row _ Bm 1 _ _ _ h.hm
theorem PAt.c2 {w : World} {S : Nat → Prop} {r b tk : Int} {Bm Mp : Nat} {E : List PE} (h : PAt w S r b tk Bm Mp E) : w.cell? ⟨Bm, 2, none⟩ = some (.map (some Mp)) := cell_of_row _ Bm 2 _ _ _ h.hm
theorem PAt.c3 {w : World} {S : Nat → Prop} {r b tk : Int} {Bm Mp : Nat} {E : List PE} (h : PAt w S r b tk Bm Mp E) : w.cell? ⟨Bm, 3, none⟩ = some (.int .i64 tk) := cell_of_row _ Bm 3 _ _ _ h.hm
theorem free_of {w : World} {B : Nat} {cs : Array Value} {T : TypeId} (h : w.heap[B]? = some (.cells cs T (0, 0))) (o : Nat) : w.frozen? ⟨B, o, none⟩ = false := by simp [World.frozen?, h]
theorem PAt.free {w : World} {S : Nat → Prop} {r b tk : Int} {Bm Mp : Nat} {E : List PE} (h : PAt w S r b tk Bm Mp E) (o : Nat) : w.frozen? ⟨Bm, o, none⟩ = false := free_of h.hm o
theorem PAt.bl {w : World} {S : Nat → Prop} {r b tk : Int} {Bm Mp : Nat} {E : List PE} (h : PAt w S r b tk Bm Mp E) : Bm < w.heap.size := h.lt _ h.sS.1
theorem PAt.al {w : World} {S : Nat → Prop} {r b tk : Int} {Bm Mp : Nat} {E : List PE} (h : PAt w S r b tk Bm Mp E) (o : Obj) : PAt (w.alloc o) S r b tk Bm Mp E := h.below ((Below.refl _ _).alloc (Nat.le_refl _) _)

theorem len_any {w : World} {S : Nat → Prop} {r b tk : Int} {Bm Mp : Nat} {E : List PE} (h : PAt w S r b tk Bm Mp E) :
    Calls Try.prog 14 #[.pointer (some ⟨Bm, 0, none⟩)] w fun e w' => e = .returned (.int .i64 (E.length : Int)) ∧ w = w' := by
  have c2 := h.c2
  obtain ⟨D, h1, _, _, h4⟩ := h.mp
  have h5 : ((Maps.size D : Nat) : Int) = (E.length : Int) := by rw [h4]
  have H5 := Lib.hid h5
  clear h5 h4
  go_enter Try.func14, Try.ntmps14
  go_wp2_with (at_len; refine wpList_len_own _ rfl _ 51 rfl 25 55 Try.underlying51 _ Mp _ D rfl h1 ?_)
  go_ret
  exact ⟨ret_int H5.out, rfl⟩

theorem has_any {w : World} {S : Nat → Prop} {r b tk : Int} {Bm Mp : Nat} {E : List PE} (h : PAt w S r b tk Bm Mp E) {s : Src} (hs : SrcOk s) :
    Calls Try.prog 12 #[.pointer (some ⟨Bm, 0, none⟩), .agg #[.int .u64 s.1, .int .u64 s.2]] w fun e w' => e = .returned (.bool (E.any (fun e => e.s == s))) ∧ Below w.heap.size w w' := by
  have h1 := h.al (.cells #[.int .u64 s.1, .int .u64 s.2] 25)
  have c2 := h1.c2
  rcases hb : E.any (fun e => e.s == s) with _ | _
  · have hl := fun n => look_out (w := (w.alloc (.cells #[.int .u64 s.1, .int .u64 s.2] 25)).drewN n) (h1.drewN n).mp hs hb
    clear h hb h1
    obtain ⟨x, y⟩ := s
    simp only at *
    go_enter Try.func12, Try.ntmps12
    go_wp2
    go_quiet (fail)
    go_wp2
    go_ret
    exact ⟨rfl, bel_dn ((Below.refl _ _).alloc (Nat.le_refl _) _) _⟩
  · obtain ⟨e, he, hes⟩ := List.any_eq_true.1 hb
    have hes : e.s = s := by simpa using hes
    subst hes
    have hl := fun n => look_in (w := (w.alloc (.cells #[.int .u64 e.s.1, .int .u64 e.s.2] 25)).drewN n) (h1.drewN n).mp he hs
    clear h hb h1
    go_enter Try.func12, Try.ntmps12
    go_wp2
    go_quiet (fail)
    go_wp2
    go_ret
    exact ⟨rfl, bel_dn ((Below.refl _ _).alloc (Nat.le_refl _) _) _⟩

/-- One bucket of E changes. -/
theorem PAt.setD {w w' : World} {S : Nat → Prop} {r b tk : Int} {Bm Mp : Nat} {E : List PE} (h : PAt w S r b tk Bm Mp E) {i : Nat} {e : PE} (hi : E[i]? = some e) {D' : BK} (gD : Good D') (hb : BkAt 67 w' e.B D') (ho : Off e.B w w') :
    PAt w' S r b tk Bm Mp (E.set i { e with D := D' }) := by
  have hil : i < E.length := (List.getElem?_eq_some_iff.1 hi).1
  have hie : E[i] = e := (List.getElem?_eq_some_iff.1 hi).2
  have hem : e ∈ E := hie ▸ List.getElem_mem hil
  have hmem : ∀ x ∈ E.set i { e with D := D' }, (x = { e with D := D' }) ∨ (x ∈ E ∧ x.B ≠ e.B) := by
    intro x hx
    rw [List.mem_iff_getElem?] at hx
    obtain ⟨j, hj⟩ := hx
    rw [List.getElem?_set] at hj
    split at hj
    · exact .inl (by simpa using hj.symm)
    · rename_i hne
      refine .inr ⟨List.mem_of_getElem? hj, ?_⟩
      have hjl : j < E.length := (List.getElem?_eq_some_iff.1 hj).1
      have hje : E[j] = x := (List.getElem?_eq_some_iff.1 hj).2
      have hp := List.pairwise_iff_getElem.1 h.uq
      rcases Nat.lt_or_gt_of_ne hne with hlt | hgt
      · have := (hp i j hil hjl hlt).2.2
        rw [hie, hje] at this
        exact fun e => this e.symm
      · have := (hp j i hjl hil hgt).2.2
        rw [hie, hje] at this
        exact this
  have hmap : ∀ {β : Type} (f : PE → β), f { e with D := D' } = f e → (E.set i { e with D := D' }).map f = E.map f := by
    intro β f hf
    rw [List.map_set, hf]
    refine List.ext_getElem? fun j => ?_
    rw [List.getElem?_set]
    split
    · rename_i hij
      subst hij
      simp [hil, hie]
    · rfl
  have hne : ∀ {k : Nat} {o : Obj}, w.heap[k]? = some o → (∀ cs, o ≠ .cells cs 67 (0, 0)) → w'.heap[k]? = some o := by
    intro k o hk hno
    rw [ho.block k (Array.getElem?_eq_some_iff.1 hk).1 ?_]; exact hk
    intro e1
    have hb0 := h.bk e hem
    unfold BkAt at hb0
    rw [← e1, hk] at hb0
    exact hno _ (Option.some.inj hb0)
  have hM : ∀ x ∈ E, w'.heap[x.M]? = some (.cells #[.pointer (some ⟨x.B, 0, none⟩), .int .i64 x.a] 59 (0, 0)) := fun x hx => hne (h.me x hx) (by simp)
  exact {
    hm := hne h.hm (by simp)
    mp := by
      obtain ⟨D, ⟨es, clock, h1, rest⟩, h2, h3, h4⟩ := h.mp
      refine ⟨D, ⟨es, clock, hne h1 (by simp), ?_⟩, ?_, ?_, ?_⟩
      · rw [List.length_set]; exact rest
      · intro s hs
        rw [h2 s hs]
        have e1 := hmap (fun x => x.s == s) rfl
        have e2 : ∀ l : List PE, l.any (fun x => x.s == s) = (l.map fun x => x.s == s).any id := fun l => by rw [List.any_map]; rfl
        rw [e2, e2, e1]
      · intro x hx zd
        rcases hmem x hx with rfl | ⟨hx, _⟩
        · exact h3 e hem zd
        · exact h3 x hx zd
      · rw [List.length_set]; exact h4
    me := fun x hx => by
      rcases hmem x hx with rfl | ⟨hx, _⟩
      · exact hM e hem
      · exact hM x hx
    bk := fun x hx => by
      rcases hmem x hx with rfl | ⟨hx, hxb⟩
      · exact hb
      · exact (h.bk x hx).off ho hxb
    gd := fun x hx => by
      rcases hmem x hx with rfl | ⟨hx, _⟩
      · exact gD
      · exact h.gd x hx
    ok := fun x hx => by
      rcases hmem x hx with rfl | ⟨hx, _⟩
      · exact h.ok e hem
      · exact h.ok x hx
    ord := by
      have := (List.pairwise_map (l := E) (R := fun x y : Int => x < y) (f := PE.a)).2 h.ord
      rw [← hmap PE.a rfl] at this
      exact List.pairwise_map.1 this
    age := fun x hx => by
      rcases hmem x hx with rfl | ⟨hx, _⟩
      · exact h.age e hem
      · exact h.age x hx
    uq := by
      have := (List.pairwise_map (l := E) (R := fun x y : Src × Nat × Nat => x.1 ≠ y.1 ∧ x.2.1 ≠ y.2.1 ∧ x.2.2 ≠ y.2.2) (f := fun x : PE => (x.s, x.M, x.B))).2 h.uq
      rw [← hmap (fun x : PE => (x.s, x.M, x.B)) rfl] at this
      exact List.pairwise_map.1 this
    sS := ⟨h.sS.1, h.sS.2.1, fun x hx => by
      rcases hmem x hx with rfl | ⟨hx, _⟩
      · exact h.sS.2.2 e hem
      · exact h.sS.2.2 x hx⟩
    lt := fun k hk => Nat.lt_of_lt_of_le (h.lt k hk) ho.size
    ln := by rw [List.length_set]; exact h.ln
    t0 := h.t0 }

theorem new_meters (r b : Int) (w : World) : Calls Try.prog 8 #[.int .i64 r, .int .i64 b] w fun e w' => ∃ Bm Mp, e = .returned (.pointer (some ⟨Bm, 0, none⟩)) ∧ PAt w' (fun k => w.heap.size ≤ k ∧ k < w'.heap.size) r b 0 Bm Mp [] ∧ Below w.heap.size w w' := by
  have hmm := @run_makeMap Try.prog
  go_enter Try.func8, Try.ntmps8
  go_wp2
  go_ret
  refine ⟨w.heap.size + 1, w.heap.size, rfl, ?_, ((Below.refl _ _).alloc (Nat.le_refl _) _).alloc (by simp) _⟩
  have hown := (World.ownsMap_made w Try.prog 25 ptrR).alloc (.cells #[.int .i64 r, .int .i64 b, .map (some w.heap.size), .int .i64 0] 53)
  exact {
    hm := by
      have := heap_alloc_new (w.alloc (.map #[] 0)) (.cells #[.int .i64 r, .int .i64 b, .map (some w.heap.size), .int .i64 0] 53)
      simpa using this
    mp := ⟨_, hown, fun s hs => rfl, by simp, rfl⟩
    me := by simp
    bk := by simp
    gd := by simp
    ok := by simp
    ord := by simp
    age := by simp
    uq := by simp
    sS := ⟨⟨by omega, by simp⟩, ⟨by omega, by simp; omega⟩, by simp⟩
    lt := fun k hk => hk.2
    ln := by simp
    t0 := by omega }

/-- where a source stands. -/
theorem me_at {E : List PE} {s : Src} (h : idxP (E.map PE.me) s < (E.map PE.me).length) : ∃ e, E[idxP (E.map PE.me) s]? = some e ∧ e.s = s ∧ bkP (E.map PE.me) (idxP (E.map PE.me) s) = e.D := by
  rw [idx_me] at h ⊢
  have h' : (E.findIdx fun e => e.s == s) < E.length := by simpa using h
  refine ⟨E[E.findIdx fun e => e.s == s], List.getElem?_eq_getElem h', by simpa using List.findIdx_getElem (w := h'), ?_⟩
  unfold bkP
  rw [List.getD_eq_getElem?_getD, List.getElem?_map, List.getElem?_eq_getElem h']
  rfl
theorem me_out {E : List PE} {s : Src} (h : ¬ idxP (E.map PE.me) s < (E.map PE.me).length) : E.any (fun e => e.s == s) = false := by
  rw [any_idx]
  simpa [hasP] using h
theorem me_set (E : List PE) (i : Nat) (e : PE) (D : BK) : (E.set i { e with D := D }).map PE.me = (E.map PE.me).set i (e.s, D) := by rw [List.map_set]; rfl

theorem tokens_m {w : World} {S : Nat → Prop} {r b tk : Int} {Bm Mp : Nat} {E : List PE} (h : PAt w S r b tk Bm Mp E) {s : Src} (hs : SrcOk s) {t : Int} (ht : i64ok t) :
    Calls Try.prog 15 #[.pointer (some ⟨Bm, 0, none⟩), .agg #[.int .u64 s.1, .int .u64 s.2], .int .i64 t] w fun e w' => e = .returned (.int .i64 (tokV (E.map PE.me) s t)) ∧ (∃ E', PAt w' S r b tk Bm Mp E' ∧ E'.map PE.me = tokL (E.map PE.me) s t) ∧ OffS S w w' := by
  have h1 := h.al (.cells #[.int .u64 s.1, .int .u64 s.2] 25)
  have c2 := h1.c2
  have hb1 : Below w.heap.size w (w.alloc (.cells #[.int .u64 s.1, .int .u64 s.2] 25)) := (Below.refl _ _).alloc (Nat.le_refl _) _
  unfold tokV tokL
  by_cases hi : idxP (E.map PE.me) s < (E.map PE.me).length
  · obtain ⟨e, he, hes, heD⟩ := me_at hi
    rw [if_pos hi, if_pos hi, heD]
    generalize idxP (E.map PE.me) s = i at *
    subst hes
    have hem := List.mem_of_getElem? he
    have hl := fun n => look_in (w := (w.alloc (.cells #[.int .u64 e.s.1, .int .u64 e.s.2] 25)).drewN n) (h1.drewN n).mp hem hs
    have m0 := cell_of_row _ e.M 0 _ _ _ (h1.me e hem)
    have hB := h.sS.2.2 e hem
    have gl := (h.gd e hem).learn ht
    have hT := fun n => tokens_any ((h1.drewN n).bk e hem) (h.gd e hem) ht
    have FIN : ∀ n w', BkAt 67 w' e.B (learnP e.D t) → Off e.B ((w.alloc (.cells #[.int .u64 e.s.1, .int .u64 e.s.2] 25)).drewN n) w' → (∃ E', PAt w' S r b tk Bm Mp E' ∧ E'.map PE.me = (E.map PE.me).set i (e.s, learnP e.D t)) ∧ OffS S w w' := fun n w' hb ho =>
      ⟨⟨_, (h1.drewN n).setD he gl hb ho, me_set _ _ _ _⟩, (offS_below (bel_dn hb1 n)).trans (ho.toS (.inl hB.2))⟩
    generalize learnP e.D t = F at *
    have HF := Lib.hid FIN
    clear h h1 hi he heD hem hB gl FIN hb1
    go_enter Try.func15, Try.ntmps15
    go_wp2
    go_quiet (fail)
    go_wp2_with (go_at_call 25; refine (hT _).mono ?_; rintro e w1 ⟨rfl, h1, o1⟩)
    go_ret
    exact ⟨rfl, HF.out _ _ h1 o1⟩
  · have hn := me_out hi
    rw [if_neg hi, if_neg hi]
    have hl := fun n => look_out (w := (w.alloc (.cells #[.int .u64 s.1, .int .u64 s.2] 25)).drewN n) (h1.drewN n).mp hs hn
    have FIN : ∀ n, (∃ E', PAt ((w.alloc (.cells #[.int .u64 s.1, .int .u64 s.2] 25)).drewN n) S r b tk Bm Mp E' ∧ E'.map PE.me = E.map PE.me) ∧ OffS S w ((w.alloc (.cells #[.int .u64 s.1, .int .u64 s.2] 25)).drewN n) := fun n =>
      ⟨⟨_, h1.drewN n, rfl⟩, offS_below (bel_dn hb1 n)⟩
    have HF := Lib.hid FIN
    clear h h1 hi hn FIN hb1
    obtain ⟨x, y⟩ := s
    simp only at *
    go_enter Try.func15, Try.ntmps15
    go_wp2
    go_quiet (fail)
    go_wp2
    go_ret
    exact ⟨rfl, HF.out _⟩
end Go.Proofs.Ytpkmloanbddefaa
