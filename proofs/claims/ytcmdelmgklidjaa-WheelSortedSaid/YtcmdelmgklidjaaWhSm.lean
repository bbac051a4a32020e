/- A wheel, and a map of what was set last; by-name template. -/
import Derived.Test.YtcmdelmgklidjaaWhPl
namespace Go.Proofs.Ytcmdelmgklidjaa
open Go.RowKit Go.Lib Go.Maps
set_option linter.unusedVariables false
set_option linter.unusedSimpArgs false

theorem zeroI (w : World) : (zeroValue 3).run Try.prog w = .ok (.int .i64 0) w := by kernel_rfl
theorem ok_wf {x : Int} (h : (Lit.int .i64 x).wf = true) : i64ok x := by
  simp [Lit.wf, IntKind.min, IntKind.max, IntKind.signed, IntKind.bits] at h
  exact ⟨by omega, by omega⟩
noncomputable abbrev eI : Value → Option (DataW Unit × List MemPlace) := plainElem Try.prog 3
theorem eI_mk {n : Int} (h : i64ok n) : eI (.int .i64 n) = some (.lit (.int .i64 n), []) := plainElem_int Try.underlying3 (wf_ok h)
theorem eI_inv {v : Value} {n : Int} {ps : List MemPlace} (h : eI v = some (.lit (.int .i64 n), ps)) : v = .int .i64 n := by
  obtain ⟨a, hv, hz, _⟩ := plainElem_int_inv Try.underlying3 h
  simp only [Prod.mk.injEq, DataW.lit.injEq, Lit.int.injEq, true_and] at hz
  rw [hv, hz.1]

def LMap (w : World) (Mp k : Nat) (L : List K2) : Prop :=
  ∃ D : DataW Unit, w.ownsMap Try.prog 3 eI Mp k D ∧ (∀ id, i64ok id → has D (.int .i64 id) = hasP L id) ∧ (∀ x ∈ L, ∀ zd, D.atKey (.int .i64 x.1) zd = .lit (.int .i64 x.2)) ∧ Maps.size D = L.length
theorem LMap.keep {w w' : World} {Mp k : Nat} {L : List K2} (h : LMap w Mp k L) (hw : w'.heap[Mp]? = w.heap[Mp]?) : LMap w' Mp k L := by
  obtain ⟨D, ⟨es, clock, h1, rest⟩, h2⟩ := h
  exact ⟨D, ⟨es, clock, hw.trans h1, rest⟩, h2⟩
theorem LMap.lt {w : World} {Mp k : Nat} {L : List K2} (h : LMap w Mp k L) : Mp < w.heap.size := by
  obtain ⟨D, h, _⟩ := h
  exact h.lt
theorem lmap_ok {w : World} {Mp k : Nat} {L : List K2} (h : LMap w Mp k L) {x : K2} (hx : x ∈ L) (hs : i64ok x.1) :
    (Instr.lookup 43 (.map (some Mp)) (.int .i64 x.1) true).run Try.prog w = .ok (.tuple #[.int .i64 x.2, .bool true]) w := by
  obtain ⟨D, h1, h2, h3, _⟩ := h
  obtain ⟨v, ps, hr, hv⟩ := h1.look_ok keyed Try.underlying43 (zeroI w) (zd := .lit (.int .i64 0)) (zp := []) (eI_mk (by unfold i64ok; omega)) (keyOf_id hs)
  rw [h3 x hx] at hv
  rw [eI_inv hv, h2 _ hs, show hasP L x.1 = true from has_iff.2 ⟨x, hx, rfl⟩] at hr
  exact hr
theorem lmap_one {w : World} {Mp k : Nat} {L : List K2} (h : LMap w Mp k L) {x : K2} (hx : x ∈ L) (hs : i64ok x.1) :
    (Instr.lookup 43 (.map (some Mp)) (.int .i64 x.1) false).run Try.prog w = .ok (.int .i64 x.2) w := by
  obtain ⟨D, h1, h2, h3, _⟩ := h
  obtain ⟨v, ps, hr, hv⟩ := h1.lookup keyed Try.underlying43 (zeroI w) (zd := .lit (.int .i64 0)) (zp := []) (eI_mk (by unfold i64ok; omega)) (keyOf_id hs)
  rw [h3 x hx] at hv
  rw [eI_inv hv] at hr
  exact hr
theorem rem_len1 : ∀ {L : List K2} {id : Int}, UId L → hasP L id = true → (remP L id).length + 1 = L.length
  | [], id, _, h => by simp [hasP] at h
  | a :: t, id, hu, h => by
    have hu2 := (List.pairwise_cons.1 hu).2
    by_cases e : a.1 = id
    · subst e
      rw [rem_cons hu]; rfl
    · have h2 : hasP t id = true := by
        obtain ⟨x, hx, hxe⟩ := has_iff.1 h
        rcases List.mem_cons.1 hx with rfl | hx
        · exact absurd hxe e
        · exact has_iff.2 ⟨x, hx, hxe⟩
      have ih := rem_len1 hu2 h2
      unfold remP at ih ⊢
      rw [List.filter_cons, if_pos (by simpa using e), List.length_cons, List.length_cons]
      omega
theorem LMap.put {w : World} {Mp k : Nat} {L : List K2} (h : LMap w Mp k L) (hk : k < 65536) {id t : Int} (hs : i64ok id) (ht : i64ok t) (hl : hasP L id = true ∨ L.length ≠ 256) (hu : UId L) :
    ∃ w', (Instr.mapUpdate 43 (.map (some Mp)) (.int .i64 id) (.int .i64 t)).run Try.prog w = .ok () w' ∧ LMap w' Mp (k + 1) (setP L id t) ∧ OffS (fun j => j = Mp) w w' := by
  obtain ⟨D, h1, h2, h3, h4⟩ := h
  obtain ⟨w', hr, ho, hg⟩ := h1.update keyed Try.underlying43 (by unfold maxLen; omega) (keyOf_id hs) (eI_mk ht)
  have htd := h1.tidy keyed
  have hmem : ∀ x, x ∈ setP L id t ↔ x = (id, t) ∨ (x ∈ L ∧ x.1 ≠ id) := fun x => by
    unfold setP
    split
    · rw [(ins_perm _ _).mem_iff, List.mem_cons, rem_mem]
    · rename_i hh
      have hl2 : L.length ≠ 256 := hl.resolve_left hh
      rw [if_neg hl2, (ins_perm _ _).mem_iff, List.mem_cons]
      have := has_false.1 (by simpa using hh)
      exact ⟨fun h => h.imp (fun q => q) (fun q => ⟨q, this x q⟩), fun h => h.imp (fun q => q) (fun q => q.1)⟩
  refine ⟨w', hr, ⟨_, ho, fun s hs' => ?_, fun x hx zd => ?_, ?_⟩, grown_off hg⟩
  · by_cases he : s = id
    · subst he
      rw [has_put_same htd.isMap (kl_key _)]
      exact (has_iff.2 ⟨(s, t), (hmem _).2 (.inl rfl), rfl⟩).symm
    · rw [has_put_other (lit_ne he), h2 s hs', Bool.eq_iff_iff, has_iff, has_iff]
      constructor
      · rintro ⟨x, hx, e⟩
        exact ⟨x, (hmem x).2 (.inr ⟨hx, by rw [e]; exact he⟩), e⟩
      · rintro ⟨x, hx, e⟩
        rcases (hmem x).1 hx with rfl | hx
        · exact absurd e.symm he
        · exact ⟨x, hx.1, e⟩
  · rcases (hmem x).1 hx with rfl | hx
    · rw [atKey_put_same htd.isMap (kl_key _)]
    · rw [atKey_put_other (lit_ne hx.2), h3 x hx.1]
  · rw [size_put htd, h2 _ hs, h4]
    unfold setP
    rcases hb : hasP L id with _ | _
    · have hl2 : L.length ≠ 256 := hl.resolve_left (by rw [hb]; simp)
      rw [if_neg (by simp), if_neg (by simp), if_neg hl2, ins_len]
    · rw [if_pos rfl, if_pos rfl, ins_len]
      exact (rem_len1 hu hb).symm

/-- The wheel has L; the map at Mp knows K. -/
structure Sm (w0 w : World) (Bw Mp k : Nat) (L K : List K2) : Prop where
  ex : ∃ T, WAt w T Bw L ∧ ¬ T Mp ∧ ∀ j, T j → w0.heap.size ≤ j
  mp : LMap w Mp k K
  lo : w0.heap.size ≤ Mp
  ok : ∀ x ∈ K, i64ok x.1
  bl : Below w0.heap.size w0 w
section
variable {w0 w : World} {Bw Mp k : Nat} {L K : List K2}
theorem Sm.below {w' : World} (h : Sm w0 w Bw Mp k L K) (b : Below w.heap.size w w') : Sm w0 w' Bw Mp k L K := by
  obtain ⟨⟨T, h1, h2, h3⟩, mp, lo, ok, bl⟩ := h
  exact ⟨⟨T, h1.below b, h2, h3⟩, mp.keep (b.block _ mp.lt), lo, ok, bl.trans (b.mono bl.size)⟩
theorem Sm.dr (h : Sm w0 w Bw Mp k L K) : Sm w0 w.drew Bw Mp k L K := h.below (bel_dr (Below.refl _ _))
theorem Sm.uid (h : Sm w0 w Bw Mp k L K) : UId L := by obtain ⟨⟨T, h1, _⟩, _⟩ := h; exact h1.uid
theorem Sm.ris (h : Sm w0 w Bw Mp k L K) : Ris L := by obtain ⟨⟨T, h1, _⟩, _⟩ := h; exact h1.ris
theorem Sm.lenL (h : Sm w0 w Bw Mp k L K) : L.length ≤ 256 := by obtain ⟨⟨T, h1, _⟩, _⟩ := h; exact h1.len
theorem sm_set (h : Sm w0 w Bw Mp k L K) {id t : Int} (hid : i64ok id) :
    Calls Try.prog 9 #[.pointer (some ⟨Bw, 0, none⟩), .int .i64 id, .int .i64 t] w fun e w' => e = .returned (.int .i64 (setR L id)) ∧ Sm w0 w' Bw Mp k (setP L id t) K := by
  obtain ⟨⟨T, h1, h2, h3⟩, mp, lo, ok, bl⟩ := h
  refine (wset_any h1 hid).mono fun e w' ⟨he, T', q1, q2, q3⟩ => ⟨he, ⟨T', q1, fun q => ?_, fun j hj => ?_⟩, mp.keep (q2.block _ mp.lt h2), lo, ok, bl.trans (q2.toBelow h3 bl.size)⟩
  · rcases q3 _ q with q | q
    · exact h2 q
    · have := mp.lt; omega
  · rcases q3 _ hj with q | q
    · exact h3 _ q
    · have := bl.size; omega
theorem sm_put {id t : Int} (h : Sm w0 w Bw Mp k (setP K id t) K) (hk : k < 65536) (hid : i64ok id) (ht : i64ok t) (hu : UId K) (hl : hasP K id = true ∨ K.length ≠ 256) :
    ∃ w', (Instr.mapUpdate 43 (.map (some Mp)) (.int .i64 id) (.int .i64 t)).run Try.prog w = .ok () w' ∧ Sm w0 w' Bw Mp (k + 1) (setP K id t) (setP K id t) := by
  obtain ⟨⟨T, h1, h2, h3⟩, mp, lo, ok, bl⟩ := h
  obtain ⟨w', hr, hm, o⟩ := mp.put hk hid ht hl hu
  refine ⟨w', hr, ⟨T, h1.off o (fun j hj e => h2 (e ▸ hj)), h2, h3⟩, hm, lo, fun x hx => ?_, bl.trans (o.toBelow (fun j hj => by rw [hj]; exact lo) bl.size)⟩
  unfold setP at hx
  split at hx
  · rcases List.mem_cons.1 ((ins_perm _ _).subset hx) with rfl | hx
    · exact hid
    · exact ok x (rem_mem.1 hx).1
  · split at hx
    · exact ok x hx
    · rcases List.mem_cons.1 ((ins_perm _ _).subset hx) with rfl | hx
      · exact hid
      · exact ok x hx
theorem sm_due (h : Sm w0 w Bw Mp k L K) {now : Int} :
    Calls Try.prog 12 #[.pointer (some ⟨Bw, 0, none⟩), .int .i64 now] w fun e w' => ∃ A c, e = .returned (.slice A (dueP L now).length c) ∧ Sl w' 1 e1 A (dueP L now).length (dueP L now) ∧ Sm w0 w' Bw Mp k (lefP L now) K := by
  obtain ⟨⟨T, h1, h2, h3⟩, mp, lo, ok, bl⟩ := h
  refine (wdue_any h1).mono fun e w' ⟨v, he, ho, p, o⟩ => ?_
  obtain ⟨A, c, rfl, hs⟩ := ints_sl ho rfl
  exact ⟨A, c, he, hs, ⟨T, p, h2, h3⟩, mp.keep (o.block _ mp.lt h2), lo, ok, bl.trans (o.toBelow h3 bl.size)⟩
theorem sm_len (h : Sm w0 w Bw Mp k L K) : Calls Try.prog 11 #[.pointer (some ⟨Bw, 0, none⟩)] w fun e w' => e = .returned (.int .i64 (L.length : Int)) ∧ w = w' := by
  obtain ⟨⟨T, h1, _⟩, _⟩ := h
  exact wlen_any h1
theorem sm_next (h : Sm w0 w Bw Mp k L K) :
    Calls Try.prog 17 #[.pointer (some ⟨Bw, 0, none⟩)] w fun e w' => e = .returned (.tuple #[.int .i64 (nid L), .int .i64 (nat' L), .bool (decide (0 < L.length))]) ∧ Below w.heap.size w w' := by
  obtain ⟨⟨T, h1, _⟩, _⟩ := h
  exact wnext_any h1
/-- how many the map knows. -/
theorem sm_maplen (h : Sm w0 w Bw Mp k L K) (ty : TypeId) : (Builtin.len_ #[43] ty #[.map (some Mp)]).run Try.prog w = .ok (.int .i64 (K.length : Int)) w := by
  obtain ⟨D, h1, _, _, h4⟩ := h.mp
  rw [← h4]
  exact h1.len Try.underlying43 ty
theorem sm_new {w1 : World} (h1 : WAt w1 (fun k => w.heap.size ≤ k ∧ k < w1.heap.size) Bw []) (b1 : Below w.heap.size w w1) : Sm w (w1.alloc (.map #[] 0)) Bw w1.heap.size 0 [] [] := by
  have b : Below w1.heap.size w1 (w1.alloc (.map #[] 0)) := (Below.refl _ _).alloc (Nat.le_refl _) _
  exact ⟨⟨_, h1.below b, fun e => by have := e.2; omega, fun j hj => hj.1⟩, ⟨_, World.ownsMap_made w1 Try.prog 3 eI, fun id _ => rfl, by simp, rfl⟩, b1.size, by simp, bel_via b1 b⟩
end
end Go.Proofs.Ytcmdelmgklidjaa
