/- Meters: room and Take of the program; by-name template. -/
import Derived.Test.YtpkmloanbddefaaMTS
namespace Go.Proofs.Ytpkmloanbddefaa
open Go.RowKit Go.Lib Go.Maps
set_option linter.unusedVariables false
set_option linter.unusedSimpArgs false

theorem grown_off {w w' : World} {k : Nat} (h : w.grownBy w' (some k)) : OffS (fun j => j = k) w w' := ⟨h.os, h.tape, h.output, h.size, fun j hj hn => h.block j hj (fun e => hn (Option.some.inj e))⟩

theorem MapIs.put {w : World} {Mp : Nat} {E : List PE} (h : MapIs w Mp E) (hl : E.length < 32) {e : PE} (hs : SrcOk e.s) (hE : ∀ x ∈ E, SrcOk x.s) (hn : E.any (fun x => x.s == e.s) = false) :
    ∃ w', (Instr.mapUpdate 51 (.map (some Mp)) (.agg #[.int .u64 e.s.1, .int .u64 e.s.2]) (.pointer (some ⟨e.M, 0, none⟩))).run Try.prog w = .ok () w' ∧ MapIs w' Mp (E ++ [e]) ∧ OffS (fun j => j = Mp) w w' := by
  obtain ⟨D, h1, h2, h3, h4⟩ := h
  obtain ⟨w', hr, ho, hg⟩ := h1.update keyed Try.underlying51 (by unfold maxLen; omega) (keyOf_src hs) (ptrR_mk e.M)
  have hne : ∀ x ∈ E, x.s ≠ e.s := fun x hx he => by
    have : E.any (fun x => x.s == e.s) = true := List.any_eq_true.2 ⟨x, hx, by simpa using he⟩
    rw [hn] at this; cases this
  have ht := h1.tidy keyed
  refine ⟨w', hr, ⟨_, by rw [List.length_append]; exact ho, fun s hs' => ?_, fun x hx zd => ?_, ?_⟩, grown_off hg⟩
  · rw [List.any_append]
    by_cases he : s = e.s
    · subst he
      rw [has_put_same ht.isMap (kl_key _)]; simp
    · rw [has_put_other (fun e1 => he (kl_inj hs' hs e1)), h2 s hs']
      simp [Ne.symm he]
  · rcases List.mem_append.1 hx with hx | hx
    · rw [atKey_put_other (fun e1 => hne x hx (kl_inj (hE x hx) hs e1)), h3 x hx]
    · obtain rfl : x = e := by simpa using hx
      rw [atKey_put_same ht.isMap (kl_key _)]
  · rw [size_put ht, h2 _ hs, hn, if_neg (by simp), h4, List.length_append]; rfl

theorem mem_drop {E : List PE} (hu : E.Pairwise (fun x y => x.s ≠ y.s ∧ x.M ≠ y.M ∧ x.B ≠ y.B)) {k : Nat} {e : PE} (hk : E[k]? = some e) {x : PE} (hx : x ∈ E.eraseIdx k) : x ∈ E ∧ x.s ≠ e.s ∧ x.M ≠ e.M ∧ x.B ≠ e.B := by
  have kl := (List.getElem?_eq_some_iff.1 hk).1
  have ke := (List.getElem?_eq_some_iff.1 hk).2
  obtain ⟨j, hne, hj⟩ := List.mem_eraseIdx_iff_getElem?.1 hx
  have jl := (List.getElem?_eq_some_iff.1 hj).1
  have je := (List.getElem?_eq_some_iff.1 hj).2
  have hp := List.pairwise_iff_getElem.1 hu
  refine ⟨List.mem_of_getElem? hj, ?_⟩
  rcases Nat.lt_or_gt_of_ne hne with h | h
  · have := hp j k jl kl h
    rw [je, ke] at this
    exact this
  · have := hp k j kl jl h
    rw [je, ke] at this
    exact ⟨fun e => this.1 e.symm, fun e => this.2.1 e.symm, fun e => this.2.2 e.symm⟩
theorem any_drop {E : List PE} {k : Nat} {e : PE} (hk : E[k]? = some e) (s : Src) : E.any (fun x => x.s == s) = ((E.eraseIdx k).any (fun x => x.s == s) || e.s == s) := by
  rw [Bool.eq_iff_iff, Bool.or_eq_true, List.any_eq_true, List.any_eq_true]
  constructor
  · rintro ⟨x, hx, hs⟩
    obtain ⟨j, hj⟩ := List.getElem?_of_mem hx
    by_cases hjk : j = k
    · subst hjk
      rw [hk] at hj
      rw [Option.some.inj hj]
      exact .inr hs
    · exact .inl ⟨x, List.mem_eraseIdx_iff_getElem?.2 ⟨j, hjk, hj⟩, hs⟩
  · rintro (⟨x, hx, hs⟩ | hs)
    · exact ⟨x, List.mem_of_mem_eraseIdx hx, hs⟩
    · exact ⟨e, List.mem_of_getElem? hk, hs⟩

theorem MapIs.drop {w : World} {Mp : Nat} {E : List PE} (h : MapIs w Mp E) (hE : ∀ x ∈ E, SrcOk x.s) (hu : E.Pairwise (fun x y => x.s ≠ y.s ∧ x.M ≠ y.M ∧ x.B ≠ y.B)) {k : Nat} {e : PE} (hk : E[k]? = some e) (ty : TypeId) :
    ∃ w', (Builtin.delete_ #[51, 25] ty #[.map (some Mp), .agg #[.int .u64 e.s.1, .int .u64 e.s.2]]).run Try.prog w = .ok (.tuple #[]) w' ∧ MapIs w' Mp (E.eraseIdx k) ∧ OffS (fun j => j = Mp) w w' := by
  obtain ⟨D, h1, h2, h3, h4⟩ := h
  have he := List.mem_of_getElem? hk
  have hkl := (List.getElem?_eq_some_iff.1 hk).1
  have hs := hE e he
  obtain ⟨w', hr, ho, hg⟩ := h1.drop keyed Try.underlying51 (keyOf_src hs) ty
  have ht := h1.tidy keyed
  have hsz : Maps.size (D.del (kl e.s)) = (E.eraseIdx k).length := by
    have := size_del (k := kl e.s) ht
    rw [h2 _ hs, List.any_eq_true.2 ⟨e, he, by simp⟩, if_pos rfl, h4] at this
    rw [List.length_eraseIdx, if_pos hkl]; omega
  refine ⟨w', hr, ⟨_, ?_, fun s hs' => ?_, fun x hx zd => ?_, hsz⟩, grown_off hg.grown⟩
  · obtain ⟨es, clock, q1, q2, q3, q4⟩ := ho
    refine ⟨es, clock, q1, q2, ?_, q4⟩
    rw [← hsz, q4]
    simp [Maps.size, length_sorted]
  · by_cases hes : s = e.s
    · subst hes
      rw [has_del_same]
      symm
      rw [List.any_eq_false]
      intro x hx
      simpa using (mem_drop hu hk hx).2.1
    · rw [has_del_other (fun e1 => hes (kl_inj hs' hs e1)), h2 s hs', any_drop hk]
      simp [Ne.symm hes]
  · have := mem_drop hu hk hx
    rw [atKey_del_other (fun e1 => this.2.1 (kl_inj (hE x this.1) hs e1)), h3 x this.1]

/-- What the map says changes. -/
theorem PAt.drop {w w' : World} {S : Nat → Prop} {r b tk : Int} {Bm Mp : Nat} {E : List PE} (h : PAt w S r b tk Bm Mp E) (k : Nat) (hm : MapIs w' Mp (E.eraseIdx k)) (ho : OffS (fun j => j = Mp) w w') : PAt w' S r b tk Bm Mp (E.eraseIdx k) := by
  obtain ⟨D, ⟨es, clock, hmp, _⟩, _⟩ := h.mp
  have hne : ∀ {j : Nat} {cs : Array Value} {T : TypeId}, w.heap[j]? = some (.cells cs T (0, 0)) → w'.heap[j]? = some (.cells cs T (0, 0)) := by
    intro j cs T hj
    rw [ho.block j (Array.getElem?_eq_some_iff.1 hj).1 ?_]; exact hj
    intro e1
    subst e1
    rw [hmp] at hj
    cases hj
  have hsub := List.eraseIdx_sublist E k
  exact {
    hm := hne h.hm
    mp := hm
    me := fun e he => hne (h.me e (hsub.subset he))
    bk := fun e he => hne (h.bk e (hsub.subset he))
    gd := fun e he => h.gd e (hsub.subset he)
    ok := fun e he => h.ok e (hsub.subset he)
    ord := h.ord.sublist hsub
    age := fun e he => h.age e (hsub.subset he)
    uq := h.uq.sublist hsub
    sS := ⟨h.sS.1, h.sS.2.1, fun e he => h.sS.2.2 e (hsub.subset he)⟩
    lt := fun j hj => Nat.lt_of_lt_of_le (h.lt j hj) ho.size
    ln := Nat.le_trans hsub.length_le h.ln
    t0 := h.t0 }

theorem bel_dr {N : Nat} {w w' : World} (h : Below N w w') : Below N w w'.drew := ⟨h.os, h.tape, h.output, h.size, h.block⟩

def roomL (L : LL) (t : Int) : LL := if L.length < 32 then L else if fullP (learnL L t) < L.length then (learnL L t).eraseIdx (fullP (learnL L t)) else learnL L t
def roomB (L : LL) (t : Int) : Bool := decide (L.length < 32) || decide (fullP (learnL L t) < L.length)
theorem lra_me (E : List PE) (t : Int) : (E.map (lra t)).map PE.me = learnL (E.map PE.me) t := by
  unfold learnL
  rw [List.map_map, List.map_map]; rfl

def RoomPost (w : World) (S : Nat → Prop) (r b tk t : Int) (Bm Mp : Nat) (E : List PE) (e : Ending) (w' : World) : Prop :=
  ∃ E', e = .returned (.bool (roomB (E.map PE.me) t)) ∧ PAt w' S r b tk Bm Mp E' ∧ E'.map PE.me = roomL (E.map PE.me) t ∧ OffS S w w' ∧ (roomB (E.map PE.me) t = true → E'.length < 32) ∧ (∀ s, E.any (fun e => e.s == s) = false → E'.any (fun e => e.s == s) = false)

theorem any_lra (E : List PE) (t : Int) (s : Src) : (E.map (lra t)).any (fun e => e.s == s) = E.any (fun e => e.s == s) := by rw [List.any_map]; rfl

set_option maxHeartbeats 1000000 in
theorem room_any {w : World} {S : Nat → Prop} {r b tk : Int} {Bm Mp : Nat} {E : List PE} (h : PAt w S r b tk Bm Mp E) {t : Int} (ht : i64ok t) (htk : tk < 9223372036854775807) :
    Calls Try.prog 19 #[.pointer (some ⟨Bm, 0, none⟩), .int .i64 t] w (RoomPost w S r b tk t Bm Mp E) := by
  have hlen := len_any h
  have hsp := spare_any h ht htk
  have hln := h.ln
  have hLL : (E.map PE.me).length = E.length := by simp
  by_cases hl : E.length < 32
  · have FIN : RoomPost w S r b tk t Bm Mp E (.returned (.bool true)) w :=
      ⟨E, by unfold roomB; rw [hLL, decide_eq_true hl, Bool.true_or], h, by unfold roomL; rw [if_pos (by rw [hLL]; exact hl)], OffS.refl _ _, fun _ => hl, fun s h => h⟩
    have HF := Lib.hid FIN
    generalize E.length = len at *
    have hd : decide ((len : Int) < 32) = true := by simpa using (by omega : (len : Int) < 32)
    clear FIN h hsp hLL
    go_enter Try.func19, Try.ntmps19
    go_wp2_with (go_at_call 14; refine hlen.mono ?_; rintro e w1 ⟨rfl, rfl⟩)
    go_ret
    exact HF.out
  · have hlen32 : E.length = 32 := by omega
    rw [hlen32] at hlen
    have hQ : ∀ w', PAt w' S r b tk Bm Mp (E.map (lra t)) → OffS S w w' → roomB (E.map PE.me) t = false → RoomPost w S r b tk t Bm Mp E (.returned (.bool false)) w' := fun w' hp ho hb =>
      ⟨E.map (lra t), by rw [hb], hp, by
        unfold roomB at hb
        rw [hLL, Bool.or_eq_false_iff] at hb
        have hb2 := of_decide_eq_false hb.2
        unfold roomL
        rw [hLL, if_neg hl, if_neg hb2, lra_me], ho, fun e => absurd (hb.symm.trans e) (by simp), fun s hs => by rw [any_lra]; exact hs⟩
    have hrb : roomB (E.map PE.me) t = decide (fullE E t < E.length) := by
      unfold roomB
      rw [hLL, decide_eq_false hl, Bool.false_or]; rfl
    rcases hb : decide (fullE E t < E.length) with _ | _
    · have HQ := Lib.hid (fun w' hp ho => hQ w' hp ho (hrb.trans hb))
      have hsp' : Calls Try.prog 28 #[.pointer (some ⟨Bm, 0, none⟩), .int .i64 t] w fun e w' => ∃ o : Src, e = .returned (.tuple #[.agg #[.int .u64 o.1, .int .u64 o.2], .bool false]) ∧ PAt w' S r b tk Bm Mp (E.map (lra t)) ∧ OffS S w w' :=
        hsp.mono fun e w' ⟨o, he, _, hp, ho⟩ => ⟨o, by rw [he, hb], hp, ho⟩
      clear hb hsp hQ hrb hLL hlen32 hl hln h
      go_enter Try.func19, Try.ntmps19
      go_wp2_with (first
        | (go_at_call 14; refine hlen.mono ?_; rintro e w1 ⟨rfl, rfl⟩)
        | (go_at_call 28; refine hsp'.mono ?_; rintro e w2 ⟨o, rfl, hp2, ho2⟩))
      go_ret
      exact HQ.out _ (hp2.al _) (ho2.trans (offS_below ((Below.refl _ _).alloc (Nat.le_refl _) _)))
    · have hfl := of_decide_eq_true hb
      have hsp' : Calls Try.prog 28 #[.pointer (some ⟨Bm, 0, none⟩), .int .i64 t] w fun e w' => ∃ x : PE, e = .returned (.tuple #[.agg #[.int .u64 x.s.1, .int .u64 x.s.2], .bool true]) ∧ (E.map (lra t))[fullE E t]? = some x ∧ PAt w' S r b tk Bm Mp (E.map (lra t)) ∧ OffS S w w' :=
        hsp.mono fun e w' ⟨o, he, hx, hp, ho⟩ => by
          obtain ⟨x, hx1, hx2⟩ := hx hfl
          exact ⟨lra t x, by rw [he, hb, ← hx2]; rfl, by rw [List.getElem?_map, hx1]; rfl, hp, ho⟩
      have FIN : ∀ w2 w3 x, (E.map (lra t))[fullE E t]? = some x → PAt w2 S r b tk Bm Mp (E.map (lra t)) → OffS S w w2 → MapIs w3 Mp ((E.map (lra t)).eraseIdx (fullE E t)) → OffS (fun j => j = Mp) w2 w3 → RoomPost w S r b tk t Bm Mp E (.returned (.bool true)) w3 := fun w2 w3 x hx hp ho hm ho3 =>
        ⟨(E.map (lra t)).eraseIdx (fullE E t), by rw [hrb, hb], hp.drop _ hm ho3, by
          rw [Go.ChangeMaps.map_eraseIdx, lra_me]
          unfold roomL
          rw [hLL, if_neg hl]; exact (if_pos hfl).symm, ho.trans (ho3.mono (fun k _ e => by rw [e]; exact hp.sS.2.1)), fun _ => by
            rw [List.length_eraseIdx, List.length_map, if_pos hfl]; omega, fun s hs => by
            rw [← any_lra E t, any_drop hx] at hs
            exact (Bool.or_eq_false_iff.1 hs).1⟩
      have HF := Lib.hid FIN
      clear hsp hQ hrb hLL hlen32 hl hln h FIN
      generalize fullE E t = K at *
      clear hb hfl
      generalize E.map (lra t) = F at *
      go_enter Try.func19, Try.ntmps19
      go_wp2_with (first
        | (go_at_call 14; refine hlen.mono ?_; rintro e w1 ⟨rfl, rfl⟩)
        | (go_at_call 28; refine hsp'.mono ?_; rintro e w2 ⟨x, rfl, hx, hp2, ho2⟩))
      have hp3 := (hp2.al (.cells #[.int .u64 x.s.1, .int .u64 x.s.2] 25)).drew
      have c2 := hp3.c2
      obtain ⟨w3, hr3, hm3, ho3⟩ := hp3.mp.drop hp3.ok hp3.uq hx 0
      have HG := Lib.hid (HF.out _ w3 x hx hp3 (ho2.trans (offS_below (bel_dr ((Below.refl _ _).alloc (Nat.le_refl _) _)))) hm3 ho3)
      clear hp3 hm3 ho3 hx hp2 ho2 HF hsp' hlen
      go_region
      all_goals
        go_wp2
        go_ret
        exact HG.out
end Go.Proofs.Ytpkmloanbddefaa
