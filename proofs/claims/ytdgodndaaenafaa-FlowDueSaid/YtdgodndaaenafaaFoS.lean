/- Drop and Set of a table of flows; by-name template. -/
import Derived.Test.YtdgodndaaenafaaFoD
namespace Go.Proofs.Ytdgodndaaenafaa
open Go.RowKit Go.Lib Go.Maps
set_option linter.unusedVariables false
set_option linter.unusedSimpArgs false

theorem still_load_cells {P : Program} {ops : Array Oper} {w : World} {Q : Act → Prop} {a : Act} {o : Oper} {rest : List Oper} (hw : Region.wanted o (yielded ops a.tmps) = true) (ty : TypeId) (x : Operand) (ho : o.op = .load ty x)
    (ad : Addr) (hx : a.eval x = .pointer (some ad)) (cs : Array Value) (d : TypeDesc) (hg : ∀ j v, cs.toList[j]? = some v → w.cell? (ad.add j) = some v)
    (hu : P.underlying ty = some d) (hd : (match d with | .struct _ | .array _ _ => true | _ => false) = true) (hi : (P.info? ty).map (·.size) = some cs.size)
    (h : wpStill P ops w Q rest (a.put o.dst (.agg cs))) : wpStill P ops w Q (o :: rest) a :=
  wpStill_step fun K hK => by
    rw [if_pos hw]
    unfold Oper.still
    rw [exec_cells ty x ho ad hx cs d hg hu hd hi]
    simp only [Oper.stillUpon]
    exact ⟨trivial, hK _ h⟩

/-! ### the wheel's list and the flows -/
theorem me_has {W : List K2} {L : List Fl} (h : W.Perm (L.map Fl.me)) (id : Int) : hasP W id = hasF L id := by
  rw [has_perm h]
  unfold hasP hasF
  rw [List.any_map]
  rfl
theorem me_rem {W : List K2} {L : List Fl} (h : W.Perm (L.map Fl.me)) (id : Int) : (remP W id).Perm ((remF L id).map Fl.me) := by
  have := rem_perm h id
  refine this.trans (List.Perm.of_eq ?_)
  unfold remP remF
  rw [List.filter_map]
  rfl
theorem me_set {L : List Fl} (g : GoodF L) {f : Fl} (hf : f ∈ L) (st en : Int) : ((setF L f.id st en).map Fl.me).Perm ((f.id, en) :: (remF L f.id).map Fl.me) := by
  have key : ∀ {M : List Fl}, M.Pairwise (fun x y => x.id < y.id) → f ∈ M → ((setF M f.id st en).map Fl.me).Perm ((f.id, en) :: (remF M f.id).map Fl.me) := by
    intro M
    induction M with
    | nil => intro _ h; simp at h
    | cons a t ih =>
      intro hr hm
      have hp := List.pairwise_cons.1 hr
      rcases List.mem_cons.1 hm with e | hm'
      · subst e
        have hno : hasF t f.id = false := by
          rw [Bool.eq_false_iff]
          intro h
          obtain ⟨x, hx, he⟩ := List.any_eq_true.1 h
          have := hp.1 x hx
          have : x.id = f.id := by simpa using he
          omega
        have e1 : setF (f :: t) f.id st en = { f with st := st, en := en } :: setF t f.id st en := by unfold setF; simp
        have e2 : remF (f :: t) f.id = remF t f.id := by unfold remF; rw [List.filter_cons, if_neg (by simp)]
        rw [e1, e2, set_no hno, rem_no hno]
        exact List.Perm.refl _
      · have hlt := hp.1 f hm'
        have e1 : setF (a :: t) f.id st en = a :: setF t f.id st en := by unfold setF; rw [List.map_cons, if_neg (by omega)]
        have e2 : remF (a :: t) f.id = a :: remF t f.id := by unfold remF; rw [List.filter_cons, if_pos (by simp; omega)]
        rw [e1, e2, List.map_cons, List.map_cons]
        exact (List.Perm.cons _ (ih hp.2 hm')).trans (List.Perm.swap _ _ _)
  exact key g.ris hf
theorem me_ins (L : List Fl) (f : Fl) : ((insF L f).map Fl.me).Perm (((preF 0 L : Int) + 1, f.en) :: L.map Fl.me) := by
  unfold insF
  rw [List.map_append, List.map_cons]
  refine List.perm_middle.trans ?_
  rw [← List.map_append, List.take_append_drop]
  exact List.Perm.refl _
theorem W_set {W : List K2} {L : List Fl} (h : W.Perm (L.map Fl.me)) (g : GoodF L) {f : Fl} (hf : f ∈ L) (st en : Int) : (setP W f.id en).Perm ((setF L f.id st en).map Fl.me) := by
  have hh : hasP W f.id = true := by rw [me_has h]; exact List.any_eq_true.2 ⟨f, hf, by simp⟩
  unfold setP
  rw [if_pos hh]
  exact ((ins_perm _ _).trans (List.Perm.cons _ (me_rem h f.id))).trans (me_set g hf st en).symm
theorem W_ins {W : List K2} {L : List Fl} (h : W.Perm (L.map Fl.me)) (g : GoodF L) (f : Fl) : (setP W ((preF 0 L : Int) + 1) f.en).Perm ((insF L f).map Fl.me) := by
  have hh : hasP W ((preF 0 L : Int) + 1) = false := by rw [me_has h]; exact pre_not g
  have hl : W.length = L.length := by simpa using h.length_eq
  have := g.ln
  unfold setP
  rw [hh, if_neg (by simp), if_neg (by omega)]
  exact ((ins_perm _ _).trans (List.Perm.cons _ h)).trans (me_ins L f).symm

section
variable {w w' : World} {T Tw : Nat → Prop} {TB Bw Mo Mk co ck : Nat} {go : Int → Option Fl} {gk : Ky → Option Int} {W : List K2} {L : List Fl}
theorem TRaw.wheel (h : TRaw w T Tw TB Bw Mo Mk go co gk ck W) {W' : List K2} (hw : WAt w' Tw Bw W') (ho : OffS Tw w w') : TRaw w' T Tw TB Bw Mo Mk go co gk ck W' where
  tb := by rw [ho.block _ (h.lt _ h.tT) h.nT]; exact h.tb
  mo := h.mo.keep (ho.block _ (h.lt _ h.tO) h.nO)
  mK := h.mK.keep (ho.block _ (h.lt _ h.tK) h.nK)
  wh := hw
  tT := h.tT
  tO := h.tO
  tK := h.tK
  tW := h.tW
  nT := h.nT
  nO := h.nO
  nK := h.nK
  ne := h.ne
  lt k hk := Nat.lt_of_lt_of_le (h.lt k hk) ho.size

set_option maxRecDepth 100000 in
set_option maxHeartbeats 2000000 in
theorem drop_any (h : TAt w T TB L) {id : Int} (hid : i64ok id) :
    Calls Try.prog 16 #[.pointer (some ⟨TB, 0, none⟩), .int .i64 id] w fun e w' => e = .returned (.bool (hasF L id)) ∧ TAt w' T TB (remF L id) ∧ OffS T w w' := by
  obtain ⟨g, W, hp, Bw, Mo, Mk, Tw, h⟩ := h
  have c0 := h.c0
  have hD := wdrop_any h.wh hid
  have FW := fun w1 (h1 : WAt w1 Tw Bw (remP W id)) (o1 : OffS Tw w w1) => h.wheel h1 o1
  have oW := fun w1 (o1 : OffS Tw w w1) => o1.mono (S' := T) (fun k _ hk => h.tW k hk)
  rw [me_has hp] at hD
  have hp' := me_rem hp id
  rcases hb : hasF L id with _ | _
  · rw [hb] at hD
    have e := rem_no hb
    have FIN : ∀ w1, WAt w1 Tw Bw (remP W id) → OffS Tw w w1 → TAt w1 T TB (remF L id) ∧ OffS T w w1 := fun w1 h1 o1 => by
      refine ⟨⟨by rw [e]; exact g, remP W id, hp', Bw, Mo, Mk, Tw, ?_⟩, oW w1 o1⟩
      rw [e]
      exact FW w1 h1 o1
    have HF := Lib.hid FIN
    clear FIN FW oW h g hp hp' hb e
    go_enter Try.func16, Try.ntmps16
    go_wp2_with (go_at_call 33; refine hD.mono ?_; rintro e w1 ⟨rfl, h1, o1⟩)
    go_ret
    exact ⟨rfl, HF.out _ h1 o1⟩
  · rw [hb] at hD
    obtain ⟨f, hf, he⟩ := List.any_eq_true.1 hb
    have he : f.id = id := by simpa using he
    subst he
    have hG := fun w1 (h1 : WAt w1 Tw Bw (remP W f.id)) (o1 : OffS Tw w w1) => forget_any g ⟨Bw, Mo, Mk, Tw, FW w1 h1 o1⟩ hf
    have FIN : ∀ w1 w2, OffS Tw w w1 → TW w2 T TB (remF L f.id) (remP W f.id) → OffS T w1 w2 → TAt w2 T TB (remF L f.id) ∧ OffS T w w2 := fun w1 w2 o1 h2 o2 =>
      ⟨⟨rem_good g _, _, hp', h2⟩, (oW w1 o1).trans o2⟩
    have HF := Lib.hid FIN
    have HG := Lib.hid hG
    clear FIN FW oW h g hp hp' hb hG hf
    generalize f.id = id at *
    go_enter Try.func16, Try.ntmps16
    go_wp2_with (first
      | (go_at_call 33; refine hD.mono ?_; rintro e w1 ⟨rfl, h1, o1⟩)
      | (go_at_call 32; refine (HG.out _ h1 o1).mono ?_; rintro e w2 ⟨rfl, h2, o2⟩))
    go_ret
    exact ⟨rfl, HF.out _ _ o1 h2 o2⟩

theorem put_set {f' : Fl} (h : PutPost w T TB Bw Mo Mk (goF L) L.length (gkF L) (2 * L.length) W f' w') (g : GoodF L) (hp : W.Perm (L.map Fl.me)) {f : Fl} (hf : f ∈ L) {st en : Int} (hs : i64k st) (he : i64k en) (e : f' = { f with st := st, en := en }) : FPost w T TB (setF L f.id st en) w' := by
  subst e
  obtain ⟨T', Tw', h, o, ht⟩ := h
  have e4 : (goF L f.id).isSome = true := by rw [go_mem g hf]; rfl
  have el : (setF L f.id st en).length = L.length := by unfold setF; rw [List.length_map]
  refine ⟨T', ⟨set_good g hs he, _, W_set hp g hf st en, Bw, Mo, Mk, Tw', ?_⟩, o, ht⟩
  have h1 : upO (goF L) { f with st := st, en := en } = goF (setF L f.id st en) := by
    funext id
    rw [go_set]
    unfold upO
    by_cases q : id = f.id
    · rw [if_pos q, if_pos q, go_mem g hf]; rfl
    · rw [if_neg q, if_neg q]
  have h2 : gkF (setF L f.id st en) = gkF L := funext fun k => gk_set L _ _ _ k
  rw [h1, if_pos e4] at h
  rw [el, h2]
  exact h
end
end Go.Proofs.Ytdgodndaaenafaa
