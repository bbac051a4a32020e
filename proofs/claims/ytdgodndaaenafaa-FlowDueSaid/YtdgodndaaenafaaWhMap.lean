/- The wheel in memory: its map and its queue; New, Len, Next; by-name template. -/
import Derived.Test.YtdgodndaaenafaaWhHeap
namespace Go.Proofs.Ytdgodndaaenafaa
open Go.RowKit Go.Lib Go.Maps
set_option linter.unusedVariables false
set_option linter.unusedSimpArgs false

theorem keyed : Keyed Try.prog 3 := int_keyed Try.underlying3
theorem wf_ok {n : Int} (h : i64ok n) : (Lit.int .i64 n).wf = true := by
  unfold i64ok at h
  simp [Lit.wf, IntKind.min, IntKind.max, IntKind.bits, IntKind.signed]
  omega
theorem keyOf_id {n : Int} (h : i64ok n) : keyOf Try.prog 3 (.int .i64 n) = some (.int .i64 n) := keyOf_int_mk Try.underlying3 (wf_ok h)
theorem kl_key (n : Int) : WideAt.IsKeyLit (.int .i64 n) := trivial
theorem zeroM (w : World) : (zeroValue 87).run Try.prog w = .ok (.pointer none) w := by kernel_rfl
theorem lit_ne {a b : Int} (h : a ≠ b) : (Lit.int .i64 a) ≠ (Lit.int .i64 b) := fun e => h (by cases e; rfl)

def hasE (E : List DE) (id : Int) : Bool := E.any fun e => e.id == id
theorem hasE_me (E : List DE) (id : Int) : hasP (E.map DE.me) id = hasE E id := by unfold hasP hasE; rw [List.any_map]; rfl

def MapIs (w : World) (Mp : Nat) (E : List DE) : Prop :=
  ∃ D : DataW Unit, w.ownsMap Try.prog 3 ptrR Mp E.length D ∧ (∀ id, i64ok id → has D (.int .i64 id) = hasE E id) ∧ (∀ e ∈ E, ∀ zd, D.atKey (.int .i64 e.id) zd = .lit (.int .i64 e.B)) ∧ Maps.size D = E.length

theorem MapIs.keep {w w' : World} {Mp : Nat} {E : List DE} (h : MapIs w Mp E) (hw : w'.heap[Mp]? = w.heap[Mp]?) : MapIs w' Mp E := by
  obtain ⟨D, ⟨es, clock, h1, rest⟩, h2⟩ := h
  exact ⟨D, ⟨es, clock, hw.trans h1, rest⟩, h2⟩
theorem MapIs.lt {w : World} {Mp : Nat} {E : List DE} (h : MapIs w Mp E) : Mp < w.heap.size := by
  obtain ⟨D, h, _⟩ := h
  exact h.lt
theorem MapIs.ne {w : World} {Mp : Nat} {E : List DE} (h : MapIs w Mp E) {k : Nat} {cs : Array Value} {T : TypeId} (hk : w.heap[k]? = some (.cells cs T (0, 0))) : Mp ≠ k := by
  obtain ⟨D, ⟨es, clock, h1, rest⟩, h2⟩ := h
  intro e
  rw [e, hk] at h1
  cases h1
theorem MapIs.perm {w : World} {Mp : Nat} {E E' : List DE} (h : MapIs w Mp E) (hp : (E'.map fun e => (e.id, e.B)).Perm (E.map fun e => (e.id, e.B))) : MapIs w Mp E' := by
  obtain ⟨D, h1, h2, h3, h4⟩ := h
  have hl : E'.length = E.length := by simpa using hp.length_eq
  refine ⟨D, by rw [hl]; exact h1, fun s hs => ?_, fun x hx zd => ?_, by rw [hl]; exact h4⟩
  · rw [h2 s hs]
    unfold hasE
    rw [Bool.eq_iff_iff, List.any_eq_true, List.any_eq_true]
    constructor
    · rintro ⟨x, hx, e⟩
      obtain ⟨y, hy, e2⟩ := List.mem_map.1 (hp.symm.subset (List.mem_map.2 ⟨x, hx, rfl⟩))
      simp only [Prod.mk.injEq] at e2
      exact ⟨y, hy, by rw [e2.1]; exact e⟩
    · rintro ⟨x, hx, e⟩
      obtain ⟨y, hy, e2⟩ := List.mem_map.1 (hp.subset (List.mem_map.2 ⟨x, hx, rfl⟩))
      simp only [Prod.mk.injEq] at e2
      exact ⟨y, hy, by rw [e2.1]; exact e⟩
  · obtain ⟨y, hy, e2⟩ := List.mem_map.1 (hp.subset (List.mem_map.2 ⟨x, hx, rfl⟩))
    simp only [Prod.mk.injEq] at e2
    rw [← e2.1, ← e2.2]
    exact h3 y hy zd

theorem look_in {w : World} {Mp : Nat} {E : List DE} (h : MapIs w Mp E) {e : DE} (he : e ∈ E) (hs : i64ok e.id) :
    (Instr.lookup 79 (.map (some Mp)) (.int .i64 e.id) true).run Try.prog w = .ok (.tuple #[.pointer (some ⟨e.B, 0, none⟩), .bool true]) w := by
  obtain ⟨D, h1, h2, h3, _⟩ := h
  obtain ⟨v, ps, hr, hv⟩ := h1.look_ok keyed Try.underlying79 (zeroM w) (zd := .nil) (zp := []) rfl (keyOf_id hs)
  rw [h3 e he] at hv
  rw [ptrR_inv hv, h2 _ hs, show hasE E e.id = true from List.any_eq_true.2 ⟨e, he, by simp⟩] at hr
  exact hr
theorem look_out {w : World} {Mp : Nat} {E : List DE} (h : MapIs w Mp E) {id : Int} (hs : i64ok id) (hn : hasE E id = false) :
    (Instr.lookup 79 (.map (some Mp)) (.int .i64 id) true).run Try.prog w = .ok (.tuple #[.pointer none, .bool false]) w := by
  obtain ⟨D, h1, h2, h3, _⟩ := h
  obtain ⟨v, ps, hr, hv⟩ := h1.look_ok keyed Try.underlying79 (zeroM w) (zd := .nil) (zp := []) rfl (keyOf_id hs)
  have hh := h2 _ hs
  rw [hn] at hh
  rw [atKey_of_not_has hh] at hv
  have e : v = .pointer none := by
    unfold ptrR at hv
    split at hv
    · rfl
    · split at hv <;> simp at hv
    · cases hv
  rw [e, hh] at hr
  exact hr

theorem MapIs.put {w : World} {Mp : Nat} {E : List DE} (h : MapIs w Mp E) (hl : E.length < 256) {e : DE} (hs : i64ok e.id) (hn : hasE E e.id = false) :
    ∃ w', (Instr.mapUpdate 79 (.map (some Mp)) (.int .i64 e.id) (.pointer (some ⟨e.B, 0, none⟩))).run Try.prog w = .ok () w' ∧ MapIs w' Mp (E ++ [e]) ∧ OffS (fun j => j = Mp) w w' := by
  obtain ⟨D, h1, h2, h3, h4⟩ := h
  obtain ⟨w', hr, ho, hg⟩ := h1.update keyed Try.underlying79 (by unfold maxLen; omega) (keyOf_id hs) (ptrR_mk e.B)
  have hne : ∀ x ∈ E, x.id ≠ e.id := fun x hx he => by
    have : hasE E e.id = true := List.any_eq_true.2 ⟨x, hx, by simpa using he⟩
    rw [hn] at this; cases this
  have ht := h1.tidy keyed
  refine ⟨w', hr, ⟨_, by rw [List.length_append]; exact ho, fun s hs' => ?_, fun x hx zd => ?_, ?_⟩, grown_off hg⟩
  · unfold hasE
    rw [List.any_append]
    by_cases he : s = e.id
    · subst he
      rw [has_put_same ht.isMap (kl_key _)]; simp
    · rw [has_put_other (lit_ne he), h2 s hs']
      unfold hasE
      simp [Ne.symm he]
  · rcases List.mem_append.1 hx with hx | hx
    · rw [atKey_put_other (lit_ne (hne x hx)), h3 x hx]
    · obtain rfl : x = e := by simpa using hx
      rw [atKey_put_same ht.isMap (kl_key _)]
  · rw [size_put ht, h2 _ hs, hn, if_neg (by simp), h4, List.length_append]; rfl

def UidE (E : List DE) : Prop := E.Pairwise fun x y => x.id ≠ y.id
theorem MapIs.drop {w : World} {Mp : Nat} {e : DE} {E : List DE} (h : MapIs w Mp (e :: E)) (hs : i64ok e.id) (hu : UidE (e :: E)) (ty : TypeId) :
    ∃ w', (Builtin.delete_ #[79, 3] ty #[.map (some Mp), .int .i64 e.id]).run Try.prog w = .ok (.tuple #[]) w' ∧ MapIs w' Mp E ∧ OffS (fun j => j = Mp) w w' := by
  obtain ⟨D, h1, h2, h3, h4⟩ := h
  have hu1 := (List.pairwise_cons.1 hu).1
  obtain ⟨w', hr, ho, hg⟩ := h1.drop keyed Try.underlying79 (keyOf_id hs) ty
  have ht := h1.tidy keyed
  have hsz : Maps.size (D.del (.int .i64 e.id)) = E.length := by
    have := size_del (k := .int .i64 e.id) ht
    rw [h2 _ hs, show hasE (e :: E) e.id = true from List.any_eq_true.2 ⟨e, by simp, by simp⟩, if_pos rfl, h4] at this
    simp at this; omega
  refine ⟨w', hr, ⟨_, ?_, fun s hs' => ?_, fun x hx zd => ?_, hsz⟩, grown_off hg.grown⟩
  · obtain ⟨es, clock, q1, q2, q3, q4⟩ := ho
    refine ⟨es, clock, q1, q2, ?_, q4⟩
    rw [← hsz, q4]
    simp [Maps.size, length_sorted]
  · by_cases hes : s = e.id
    · subst hes
      rw [has_del_same]
      symm
      unfold hasE
      rw [List.any_eq_false]
      intro x hx
      simpa using (hu1 x hx).symm
    · rw [has_del_other (lit_ne hes), h2 s hs']
      unfold hasE
      rw [List.any_cons]
      simp [Ne.symm hes]
  · rw [atKey_del_other (lit_ne (hu1 x hx).symm), h3 x (List.mem_cons_of_mem _ hx)]

/-- The wheel at Bw has the deadlines L; T: where it may lie. -/
structure WIn (w : World) (T S : Nat → Prop) (Bw Mp : Nat) (A : Option Addr) (cap : Nat) (E : List DE) : Prop where
  q : HQ w S Bw Mp A cap E
  mp : MapIs w Mp E
  hp : HeapF (gk E) E.length
  tB : T Bw
  tM : T Mp
  tS : ∀ k, S k → T k
  lt : ∀ k, T k → k < w.heap.size
  un : UidE E
  ok : ∀ e : DE, e ∈ E → i64ok e.id
def WAt (w : World) (T : Nat → Prop) (Bw : Nat) (L : List K2) : Prop :=
  Ris L ∧ ∃ S Mp A cap E, WIn w T S Bw Mp A cap E ∧ (E.map DE.me).Perm L

theorem WIn.keep {w w' : World} {T S : Nat → Prop} {Bw Mp : Nat} {A : Option Addr} {cap : Nat} {E : List DE} (h : WIn w T S Bw Mp A cap E) (hs : w.heap.size ≤ w'.heap.size) (hw : ∀ k, T k → w'.heap[k]? = w.heap[k]?) : WIn w' T S Bw Mp A cap E where
  q := h.q.keep hs (fun k hk => hw k (by
    rcases hk with rfl | hk
    · exact h.tB
    · exact h.tS k hk))
  mp := h.mp.keep (hw _ h.tM)
  hp := h.hp
  tB := h.tB
  tM := h.tM
  tS := h.tS
  lt k hk := Nat.lt_of_lt_of_le (h.lt k hk) hs
  un := h.un
  ok := h.ok
section
variable {w : World} {T : Nat → Prop} {Bw : Nat} {L : List K2}
theorem WAt.tlt (h : WAt w T Bw L) : ∀ k, T k → k < w.heap.size := by
  obtain ⟨_, S, Mp, A, cap, E, hi, _⟩ := h
  exact hi.lt
theorem WAt.off {w' : World} {T' : Nat → Prop} (h : WAt w T Bw L) (ho : OffS T' w w') (hd : ∀ k, T k → ¬ T' k) : WAt w' T Bw L := by
  obtain ⟨hr, S, Mp, A, cap, E, hi, hp⟩ := h
  exact ⟨hr, S, Mp, A, cap, E, hi.keep ho.size (fun k hk => ho.block k (hi.lt k hk) (hd k hk)), hp⟩
theorem WAt.below {w' : World} (h : WAt w T Bw L) (hb : Below w.heap.size w w') : WAt w' T Bw L := by
  obtain ⟨hr, S, Mp, A, cap, E, hi, hp⟩ := h
  exact ⟨hr, S, Mp, A, cap, E, hi.keep hb.size (fun k hk => hb.block k (hi.lt k hk)), hp⟩
theorem WAt.dr (h : WAt w T Bw L) : WAt w.drew T Bw L := h.below (bel_dr (Below.refl _ _))
theorem WAt.dn (h : WAt w T Bw L) (n : Nat) : WAt (w.drewN n) T Bw L := h.below (bel_dn (Below.refl _ _) n)
theorem WAt.blt (h : WAt w T Bw L) : Bw < w.heap.size := by
  obtain ⟨_, S, Mp, A, cap, E, hi, _⟩ := h
  exact hi.q.blt
theorem WAt.len (h : WAt w T Bw L) : L.length ≤ 256 := by
  obtain ⟨_, S, Mp, A, cap, E, hi, hp⟩ := h
  have := hp.length_eq
  have := hi.q.big
  simp at *; omega
theorem uid_of {E : List DE} (h : UidE E) : UId (E.map DE.me) := List.pairwise_map.2 h
theorem uid_to {E : List DE} (h : UId (E.map DE.me)) : UidE E := (List.pairwise_map (f := DE.me) (R := fun x y : K2 => x.1 ≠ y.1)).1 h
theorem WAt.uid (h : WAt w T Bw L) : UId L := by
  obtain ⟨_, S, Mp, A, cap, E, hi, hp⟩ := h
  exact uid_perm hp (uid_of hi.un)
theorem WAt.ris (h : WAt w T Bw L) : Ris L := h.1

theorem new_wheel (w : World) : Calls Try.prog 36 #[] w fun e w' => ∃ B, e = .returned (.pointer (some ⟨B, 0, none⟩)) ∧ WAt w' (fun k => w.heap.size ≤ k ∧ k < w'.heap.size) B [] ∧ Below w.heap.size w w' := by
  have hmm := @run_makeMap Try.prog
  go_enter Try.func36, Try.ntmps36
  go_wp2
  go_ret
  refine ⟨w.heap.size + 1, rfl, ⟨List.Pairwise.nil, fun _ => False, w.heap.size, none, 0, [], ?_, List.Perm.refl _⟩, ((Below.refl _ _).alloc (Nat.le_refl _) _).alloc (by simp) _⟩
  have hown := (World.ownsMap_made w Try.prog 3 ptrR).alloc (.cells #[.slice none 0 0, .map (some w.heap.size)] 81)
  exact {
    q := {
      hw := by
        have := heap_alloc_new (w.alloc (.map #[] 0)) (.cells #[.slice none 0 0, .map (some w.heap.size)] 81)
        simpa using this
      row := World.ownsRow_nil _ _ _ _
      de := by simp
      sA := by simp
      sE := by simp
      nB := id
      nM := id
      lt := fun k h => h.elim
      big := by simp }
    mp := ⟨_, hown, fun s hs => rfl, by simp, rfl⟩
    hp := fun k h0 h => by simp at h
    tB := ⟨by omega, by simp⟩
    tM := ⟨by omega, by simp; omega⟩
    tS := fun k h => h.elim
    lt := fun k hk => hk.2
    un := List.Pairwise.nil
    ok := by simp }

theorem wlen_in {S : Nat → Prop} {Mp : Nat} {A : Option Addr} {cap : Nat} {E : List DE} (h : WIn w T S Bw Mp A cap E) :
    Calls Try.prog 27 #[.pointer (some ⟨Bw, 0, none⟩)] w fun e w' => e = .returned (.int .i64 (E.length : Int)) ∧ w = w' := by
  have c1 := h.q.c1
  obtain ⟨D, h1, _, _, h4⟩ := h.mp
  have h5 : ((Maps.size D : Nat) : Int) = (E.length : Int) := by rw [h4]
  have H5 := Lib.hid h5
  clear h5 h4 h
  go_enter Try.func27, Try.ntmps27
  go_wp2_with (at_len; refine wpList_len_own _ rfl _ 79 rfl 3 87 Try.underlying79 _ Mp _ D rfl h1 ?_)
  go_ret
  exact ⟨ret_int H5.out, rfl⟩
theorem wlen_any (h : WAt w T Bw L) :
    Calls Try.prog 27 #[.pointer (some ⟨Bw, 0, none⟩)] w fun e w' => e = .returned (.int .i64 (L.length : Int)) ∧ w = w' := by
  obtain ⟨_, S, Mp, A, cap, E, hi, hp⟩ := h
  have hl : E.length = L.length := by simpa using hp.length_eq
  rw [← hl]
  exact wlen_in hi

/-- The queue's first one is the first of all. -/
theorem WIn.head {S : Nat → Prop} {Mp : Nat} {A : Option Addr} {cap : Nat} {E : List DE} (h : WIn w T S Bw Mp A cap E) (hr : Ris L) (hp : (E.map DE.me).Perm L) (hn : 0 < E.length) : ∃ x M, L = x :: M ∧ (ge E 0).me = x := by
  cases L with
  | nil => have := hp.length_eq; simp at this; subst this; simp at hn
  | cons x M =>
    refine ⟨x, M, rfl, ris_head hr (hp.subset (List.mem_map.2 ⟨_, ge_mem hn, rfl⟩)) fun z hz => ?_⟩
    obtain ⟨e, he, rfl⟩ := List.mem_map.1 (hp.symm.subset hz)
    obtain ⟨k, hk⟩ := List.getElem?_of_mem he
    have hkl := (List.getElem?_eq_some_iff.1 hk).1
    have := heap_root h.hp k hkl
    unfold gk at this
    rw [ge_of hk] at this
    exact this

theorem wnext_any (h : WAt w T Bw L) :
    Calls Try.prog 39 #[.pointer (some ⟨Bw, 0, none⟩)] w fun e w' => e = .returned (.tuple #[.int .i64 (nid L), .int .i64 (nat' L), .bool (decide (0 < L.length))]) ∧ Below w.heap.size w w' := by
  obtain ⟨hr, S, Mp, A, cap, E, hi, hp⟩ := h
  have hl : E.length = L.length := by simpa using hp.length_eq
  have hL := wlen_in hi
  rw [hl] at hL
  by_cases h0 : L.length = 0
  · have e0 := List.eq_nil_of_length_eq_zero h0
    subst e0
    have HX := Lib.hid hi
    clear hi hp hl hr
    go_enter Try.func39, Try.ntmps39
    go_wp2_with (go_at_call 27; refine hL.mono ?_; rintro e w1 ⟨rfl, rfl⟩)
    have FIN := Lib.hid (Below.refl w.heap.size w)
    simp [bodyPost, results, Try.results39, go_sem]
    exact ⟨⟨rfl, rfl⟩, FIN.out⟩
  · have hn : 0 < E.length := by omega
    obtain ⟨x, M, rfl, hx⟩ := hi.head hr hp hn
    obtain ⟨g, cur, rfl, hSg, hg, hcap, hmax, hsz, hc⟩ := hi.q.rowAt hn
    have c0 := hi.q.c0
    have r0 := row_cell hg (hc 0 hn)
    have d0 := hi.q.d0 hn
    have d1 := hi.q.d1 hn
    have e1 : (ge E 0).id = x.1 := by rw [← hx]; rfl
    have e2 : (ge E 0).tm = x.2 := by rw [← hx]; rfl
    rw [e1] at d0
    rw [e2] at d1
    rw [hl] at c0
    have hlI : ¬ ((x :: M).length : Int) = 0 := by rw [List.length_cons]; omega
    have hlI2 : (0 : Int) < ((x :: M).length : Int) := by rw [List.length_cons]; omega
    have hdn : decide (0 < (x :: M).length) = true := by simp
    have hzz : 0 < (x :: M).length := by simp
    unfold nid nat'
    rw [hdn]
    simp only [List.headD_cons]
    unfold DE.pv at r0
    generalize (ge E 0).B = b at *
    generalize (x :: M).length = n at *
    clear hi hp hl hr hg hc hx e1 e2 h0 hn hcap
    go_enter Try.func39, Try.ntmps39
    go_wp2_with (go_at_call 27; refine hL.mono ?_; rintro e w1 ⟨rfl, rfl⟩)
    go_quiet (fail)
    go_wp2
    simp [bodyPost, results, Try.results39, go_sem]
    exact bel_dn (Below.refl _ _) _
end
end Go.Proofs.Ytdgodndaaenafaa
