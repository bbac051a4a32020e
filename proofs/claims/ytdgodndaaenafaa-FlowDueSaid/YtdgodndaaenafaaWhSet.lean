/- Set of a wheel; by-name template. -/
import Derived.Test.YtdgodndaaenafaaWhTake
namespace Go.Proofs.Ytdgodndaaenafaa
open Go.RowKit Go.Lib Go.Maps
set_option linter.unusedVariables false
set_option linter.unusedSimpArgs false

section
variable {w : World} {T S : Nat → Prop} {Bw Mp : Nat} {A : Option Addr} {cap : Nat} {E : List DE} {L : List K2}

def WPost (w : World) (T : Nat → Prop) (Bw : Nat) (L' : List K2) (w' : World) : Prop :=
  ∃ T', WAt w' T' Bw L' ∧ OffS T w w' ∧ ∀ k, T' k → T k ∨ w.heap.size ≤ k

theorem getD_set {E : List DE} {p k : Nat} {x : DE} (hp : p < E.length) : ge (E.set p x) k = if k = p then x else ge E k := by
  unfold ge
  rw [List.getD_eq_getElem?_getD, List.getElem?_set]
  by_cases e : p = k
  · subst e; rw [if_pos rfl, if_pos hp, if_pos rfl]; rfl
  · rw [if_neg e, if_neg (fun q => e q.symm), List.getD_eq_getElem?_getD]

theorem HQ.setTm (h : HQ w S Bw Mp A cap E) {p : Nat} (hp : p < E.length) (t : Int) :
    HQ (w.setCell ⟨(ge E p).B, 1, none⟩ (.int .i64 t)) S Bw Mp A cap (E.set p { ge E p with tm := t }) ∧ OffS S w (w.setCell ⟨(ge E p).B, 1, none⟩ (.int .i64 t)) := by
  have dp := h.de p _ (ge_get hp)
  have hnew : (w.setCell ⟨(ge E p).B, 1, none⟩ (.int .i64 t)).heap[(ge E p).B]? = some (.cells (dc { ge E p with tm := t } p) 86 (0, 0)) := heap_set dp 1 _
  have ho : OffS S w (w.setCell ⟨(ge E p).B, 1, none⟩ (.int .i64 t)) := offS_set (OffS.refl _ _) (h.sE _ (ge_mem hp)) 1 _
  have hpv : (E.set p { ge E p with tm := t }).map DE.pv = E.map DE.pv := by
    rw [List.map_set]
    refine List.ext_getElem? fun j => ?_
    rw [List.getElem?_set]
    split
    · rename_i e
      subst e
      rw [if_pos (by simpa using hp), List.getElem?_map, ge_get hp]; rfl
    · rfl
  refine ⟨{
    hw := by rw [set_other (ne_cells h.hw dp (by decide)), List.length_set]; exact h.hw
    row := ?_
    de := fun k e he => ?_
    sA := h.sA
    sE := fun e he => ?_
    nB := h.nB
    nM := h.nM
    lt := fun k hk => Nat.lt_of_lt_of_le (h.lt k hk) ho.size
    big := by rw [List.length_set]; exact h.big }, ho⟩
  · rw [hpv, List.length_set]
    obtain ⟨q0, q | ⟨g, c, cur, hv, hb, hg, rest⟩⟩ := h.row
    · exact ⟨q0, .inl q⟩
    · exact ⟨q0, .inr ⟨g, c, cur, hv, hb, by rw [set_other (ne_cells hg dp (by decide))]; exact hg, rest⟩⟩
  · by_cases e1 : k = p
    · subst e1
      rw [List.getElem?_set, if_pos rfl, if_pos hp] at he
      cases he
      exact hnew
    · rw [List.getElem?_set, if_neg (Ne.symm e1)] at he
      have dk := h.de k e he
      have hk := (List.getElem?_eq_some_iff.1 he).1
      have ek := ge_of he
      subst ek
      rw [set_other (h.neB hk hp e1)]
      exact dk
  · rcases List.mem_or_eq_of_mem_set he with he | rfl
    · exact h.sE e he
    · exact h.sE (ge E p) (ge_mem hp)

theorem set_split {p : Nat} (hp : p < E.length) (x : DE) : (x :: E.eraseIdx p).Perm (E.set p x) := by
  have h := erase_perm (E := E.set p x) (i := p) (by simpa using hp)
  rw [getD_set hp, if_pos rfl, List.eraseIdx_set_eq] at h
  exact h

/-- Behind Fix: the deadline is another one. -/
theorem set_fin (h : WIn w T S Bw Mp A cap E) (hr : Ris L) (hpm : (E.map DE.me).Perm L) {p : Nat} (hp : p < E.length) (t : Int) {w0 w2 : World} (o0 : OffS S (w.setCell ⟨(ge E p).B, 1, none⟩ (.int .i64 t)) w0)
    (h2 : HeapPost w0 S Bw Mp A cap (E.set p { ge E p with tm := t }) E.length w2) : WPost w T Bw (insP (remP L (ge E p).id) ((ge E p).id, t)) w2 := by
  obtain ⟨q1, o1⟩ := h.q.setTm hp t
  obtain ⟨E', q2, p2, f2, _, o2⟩ := h2
  have oS : OffS S w w2 := (o1.trans o0).trans o2
  have hs : ({ ge E p with tm := t } :: E.eraseIdx p).Perm E' := (set_split hp _).trans p2.symm
  have he := erase_perm hp
  have hl : E'.length = E.length := by rw [p2.length_eq, List.length_set]
  -- keys
  have k1 : ((ge E p).me :: (E.eraseIdx p).map DE.me).Perm L := by
    have := (he.map DE.me).trans hpm
    rwa [List.map_cons] at this
  have hu : UId ((ge E p).me :: (E.eraseIdx p).map DE.me) := uid_perm k1.symm (uid_perm hpm (uid_of h.un))
  have k2 := rem_perm k1 (ge E p).id
  have k3 := rem_cons hu
  rw [show (ge E p).me.1 = (ge E p).id from rfl] at k3
  rw [k3] at k2
  have k4 : (E'.map DE.me).Perm (insP (remP L (ge E p).id) ((ge E p).id, t)) := by
    refine (hs.symm.map DE.me).trans ?_
    rw [List.map_cons]
    exact (List.Perm.cons _ k2).trans (ins_perm _ _).symm
  have hu' : UId (insP (remP L (ge E p).id) ((ge E p).id, t)) := ins_uid (rem_uid (uid_perm hpm (uid_of h.un)) _) (x := ((ge E p).id, t)) rem_not
  refine ⟨T, ⟨ins_ris (rem_ris hr _) (x := ((ge E p).id, t)) rem_not, S, Mp, A, cap, E', {
    q := q2
    mp := (h.mp.keep (oS.block Mp h.mp.lt h.q.nM)).perm ?_
    hp := by rw [hl]; exact f2
    tB := h.tB
    tM := h.tM
    tS := h.tS
    lt := fun k hk => Nat.lt_of_lt_of_le (h.lt k hk) oS.size
    un := uid_to (uid_perm k4.symm hu')
    ok := fun e hm => ?_ }, k4⟩, oS.mono (fun k _ hk => h.tS k hk), fun k hk => .inl hk⟩
  · refine (hs.symm.map _).trans (List.Perm.trans ?_ (he.map _))
    rw [List.map_cons, List.map_cons]
  · rcases List.mem_cons.1 (hs.symm.subset hm) with rfl | hm
    · exact h.ok (ge E p) (ge_mem hp)
    · exact h.ok e (he.subset (List.mem_cons_of_mem _ hm))

set_option maxHeartbeats 2000000 in
set_option maxRecDepth 100000 in
theorem set_old (h : WIn w T S Bw Mp A cap E) (hr : Ris L) (hpm : (E.map DE.me).Perm L) {p : Nat} (hp : p < E.length) (t : Int) :
    Calls Try.prog 38 #[.pointer (some ⟨Bw, 0, none⟩), .int .i64 (ge E p).id, .int .i64 t] w fun e w' => e = .returned (.int .i64 0) ∧ WPost w T Bw (insP (remP L (ge E p).id) ((ge E p).id, t)) w' := by
  have hl := look_in h.mp (ge_mem hp) (h.ok _ (ge_mem hp))
  have hne : (ge E p).B ≠ Bw := ne_cells (h.q.de p _ (ge_get hp)) h.q.hw (by decide)
  have d1 := h.q.d1 hp
  have d2 := h.q.d2 hp
  have df := free_of (h.q.de p _ (ge_get hp)) 1
  have c0 := h.q.c0
  have c1 := h.q.c1
  have q1 := (h.q.setTm hp t).1
  have hD : DownF (gk (E.set p { ge E p with tm := t })) p p E.length := down_of_heap h.hp fun k hk => by unfold gk; rw [getD_set hp, if_neg hk]
  have hF : Calls Try.prog 41 #[.iface 91 (qp Bw), .int .i64 (p : Int)] (w.setCell ⟨(ge E p).B, 1, none⟩ (.int .i64 t)).drew fun e w' => e = .returned (.tuple #[]) ∧ WPost w T Bw (insP (remP L (ge E p).id) ((ge E p).id, t)) w' :=
    (fix_any q1.drew (i := p) (by rw [List.length_set]; exact hp) (by rw [List.length_set]; exact hD)).mono fun e w' ⟨he, k⟩ => by
      rw [List.length_set] at k
      exact ⟨he, set_fin h hr hpm hp t (OffS.dr (OffS.refl _ _)) k⟩
  unfold qp at hF
  generalize WPost w T Bw (insP (remP L (ge E p).id) ((ge E p).id, t)) = M at *
  clear h hpm hr q1 hD
  generalize (ge E p).B = b at *
  generalize (ge E p).id = id at *
  go_enter Try.func38, Try.ntmps38
  go_upto_region 4 with fail
  obtain ⟨w1, hw1⟩ : ∃ w1, w1 = w.setCell ⟨b, 1, none⟩ (.int .i64 t) := ⟨_, rfl⟩
  have e2 : w1.cell? ⟨b, 2, none⟩ = some (.int .i64 (p : Int)) := by subst hw1; simpa [go_sem] using d2
  rw [← hw1] at hF ⊢
  clear hw1 d1 d2 df c0 c1 hl
  go_still_tail 8, (by kernel_rfl)
  change wpList _ _ _ _ _ w1.drew
  go_wp2_with (go_at_call 41; refine hF.mono ?_; rintro e w2 ⟨rfl, h2⟩)
  go_ret
  exact ⟨rfl, h2⟩

/-- Behind Push: one deadline more. -/
theorem new_fin (h : WIn w T S Bw Mp A cap E) (hr : Ris L) (hpm : (E.map DE.me).Perm L) {id t : Int} (hid : i64ok id) (hn : hasE E id = false) {w1 w2 w3 : World} {Bd : Nat} (hBd : w.heap.size ≤ Bd) (b1 : Below w.heap.size w w1) (hs1 : Bd < w1.heap.size)
    (hm2 : MapIs w2 Mp (E ++ [⟨Bd, id, t⟩])) (o2 : OffS (fun j => j = Mp) w1 w2) (h3 : PushPost w2 S Bw Mp E ⟨Bd, id, t⟩ w3) : WPost w T Bw (insP L (id, t)) w3 := by
  obtain ⟨A', cap', E', q3, p3, f3, o3⟩ := h3
  have hs2 := o2.size
  have hb := h.q.blt
  have hMB : Mp ≠ Bw := h.mp.ne h.q.hw
  have oT : OffS T w w3 := ((offS_below b1).trans (o2.mono (fun k _ e => by rw [e]; exact h.tM))).andThen o3 (fun i hi hS => by
    rcases hS with q | q | q
    · exact h.tS i q
    · rw [q]; exact h.tB
    · have q' : i = Bd := q; omega)
  have hx : ∀ y ∈ L, y.1 ≠ id := has_false.1 (by rw [← has_perm hpm, hasE_me]; exact hn)
  have k4 : (E'.map DE.me).Perm (insP L (id, t)) := by
    refine (p3.map DE.me).trans ?_
    rw [List.map_append]
    refine (List.perm_append_singleton _ _).trans ?_
    exact (List.Perm.cons _ hpm).trans (ins_perm _ _).symm
  have hu' : UId (insP L (id, t)) := ins_uid (uid_perm hpm (uid_of h.un)) (x := (id, t)) hx
  have h23 := o3.size
  have hw1 := b1.size
  refine ⟨fun k => T k ∨ (w.heap.size ≤ k ∧ k < w3.heap.size), ⟨ins_ris hr (x := (id, t)) hx, _, Mp, A', cap', E', {
    q := q3
    mp := (hm2.keep (o3.block Mp hm2.lt ?_)).perm (p3.map _)
    hp := f3
    tB := .inl h.tB
    tM := .inl h.tM
    tS := fun k hk => ?_
    lt := fun k hk => ?_
    un := uid_to (uid_perm k4.symm hu')
    ok := fun e hm => ?_ }, k4⟩, oT, fun k hk => hk.imp (fun q => q) fun q => q.1⟩
  · rintro (q | q | q)
    · exact h.q.nM q
    · exact hMB q
    · have q' : Mp = Bd := q
      have := h.mp.lt
      omega
  · rcases hk with q | q | q
    · exact .inl (h.tS k q)
    · have q' : k = Bd := q
      exact .inr ⟨by omega, by omega⟩
    · exact .inr ⟨by omega, q.2⟩
  · rcases hk with q | q
    · exact Nat.lt_of_lt_of_le (h.lt k q) oT.size
    · exact q.2
  · rcases List.mem_append.1 (p3.subset hm) with he | he
    · exact h.ok e he
    · obtain rfl : e = ⟨Bd, id, t⟩ := by simpa using he
      exact hid

set_option maxHeartbeats 2000000 in
set_option maxRecDepth 100000 in
theorem set_full (h : WIn w T S Bw Mp A cap E) {id t : Int} (hid : i64ok id) (hn : hasE E id = false) (hl : E.length = 256) :
    Calls Try.prog 38 #[.pointer (some ⟨Bw, 0, none⟩), .int .i64 id, .int .i64 t] w fun e w' => e = .returned (.int .i64 120) ∧ w' = w := by
  have hl0 := look_out h.mp hid hn
  have c1 := h.q.c1
  have hL := wlen_in h
  rw [hl] at hL
  clear h hl
  go_enter Try.func38, Try.ntmps38
  go_wp2_with (go_at_call 27; refine hL.mono ?_; rintro e w1 ⟨rfl, rfl⟩)
  go_ret
  exact ⟨rfl, rfl⟩

set_option maxHeartbeats 2000000 in
set_option maxRecDepth 100000 in
theorem set_new (h : WIn w T S Bw Mp A cap E) (hr : Ris L) (hpm : (E.map DE.me).Perm L) {id t : Int} (hid : i64ok id) (hn : hasE E id = false) (hl : E.length < 256) :
    Calls Try.prog 38 #[.pointer (some ⟨Bw, 0, none⟩), .int .i64 id, .int .i64 t] w fun e w' => e = .returned (.int .i64 0) ∧ WPost w T Bw (insP L (id, t)) w' := by
  have hl0 := look_out h.mp hid hn
  have c0 := h.q.c0
  have c1 := h.q.c1
  have hL := wlen_in h
  have hd1 : decide ((256 : Int) ≤ (E.length : Int)) = false := decide_eq_false (by omega)
  have hd2' : decide (256 ≤ E.length) = false := decide_eq_false (by omega)
  have hd3 := hl
  have b1 : Below w.heap.size w (w.alloc (.cells #[.int .i64 id, .int .i64 t, .int .i64 0] 86)) := (Below.refl _ _).alloc (Nat.le_refl _) _
  have hdA : (w.alloc (.cells #[.int .i64 id, .int .i64 t, .int .i64 0] 86)).heap[w.heap.size]? = some (.cells #[.int .i64 id, .int .i64 t, .int .i64 0] 86 (0, 0)) := heap_alloc_new w _
  have hs1 : w.heap.size < (w.alloc (.cells #[.int .i64 id, .int .i64 t, .int .i64 0] 86)).heap.size := by rw [al_size]; omega
  obtain ⟨w1, hw1⟩ : ∃ w1, w1 = w.alloc (.cells #[.int .i64 id, .int .i64 t, .int .i64 0] 86) := ⟨_, rfl⟩
  rw [← hw1] at b1 hdA hs1
  have hm1 : MapIs w1 Mp E := h.mp.keep (b1.block Mp h.mp.lt)
  obtain ⟨w2, hr2, hm2, o2⟩ := hm1.put hl (e := ⟨w.heap.size, id, t⟩) hid hn
  have hMB : Mp ≠ Bw := h.mp.ne h.q.hw
  have hq2 : HQ w2 S Bw Mp A cap E := (h.q.below b1).off o2 (fun k hk e => by
    subst e
    rcases hk with e | e
    · exact hMB e
    · exact h.q.nM e)
  have hMd : Mp ≠ w.heap.size := by have := h.mp.lt; omega
  have hd2 : w2.heap[w.heap.size]? = some (.cells #[.int .i64 id, .int .i64 t, .int .i64 0] 86 (0, 0)) := by
    rw [o2.block _ hs1 (fun e => hMd e.symm)]; exact hdA
  have hP := hpush_any hq2 hl h.hp hd2 (fun e => by have := h.q.lt _ e; omega) hm2.lt hMd
  have FIN := fun w3 (h3 : PushPost w2 S Bw Mp E ⟨w.heap.size, id, t⟩ w3) => new_fin h hr hpm hid hn (Nat.le_refl _) b1 hs1 hm2 o2 h3
  have d1 : w1.cell? ⟨Bw, 1, none⟩ = some (.map (some Mp)) := (h.q.below b1).c1
  have HF := Lib.hid FIN
  unfold qp at hP
  simp only at hr2
  generalize PushPost w2 S Bw Mp E ⟨w.heap.size, id, t⟩ = R at *
  generalize WPost w T Bw (insP L (id, t)) = M at *
  have hltB : w.heap.size < w1.heap.size := hs1
  clear FIN h hr hpm hn hl hm1 hm2 hq2 hMd hd2 hMB b1 o2 hdA hs1
  generalize E.length = n at *
  go_enter Try.func38, Try.ntmps38
  go_upto_region 8 with (go_at_call 27; refine hL.mono ?_; rintro e w8 ⟨rfl, rfl⟩)
  go_upto_region 9 with fail
  rw [← hw1]
  have HW := Lib.hid hw1
  clear hw1 c0 c1 hL hl0
  generalize w.heap.size = Bd at *
  go_wp2_with (go_at_call 42; refine hP.mono ?_; rintro e w5 ⟨rfl, h5⟩)
  go_ret
  exact ⟨rfl, HF.out _ h5⟩

theorem wset_any (h : WAt w T Bw L) {id t : Int} (hid : i64ok id) :
    Calls Try.prog 38 #[.pointer (some ⟨Bw, 0, none⟩), .int .i64 id, .int .i64 t] w fun e w' => e = .returned (.int .i64 (setR L id)) ∧ WPost w T Bw (setP L id t) w' := by
  have h0 := h
  obtain ⟨hr, S, Mp, A, cap, E, hi, hp⟩ := h
  have e1 : hasP L id = hasE E id := by rw [← has_perm hp, hasE_me]
  have hl : E.length = L.length := by simpa using hp.length_eq
  unfold setR setP
  rcases hb : hasE E id with _ | _
  · rw [e1, hb]
    by_cases h256 : L.length = 256
    · rw [if_neg (by simp), if_pos h256, if_neg (by simp), if_pos h256]
      refine (set_full hi hid hb (by omega)).mono fun e w' ⟨he, hw⟩ => ?_
      subst hw
      exact ⟨he, T, h0, OffS.refl _ _, fun k hk => .inl hk⟩
    · rw [if_neg (by simp), if_neg h256, if_neg (by simp), if_neg h256]
      exact set_new hi hr hp hid hb (by have := hi.q.big; omega)
  · rw [e1, hb, if_pos rfl, if_pos rfl]
    obtain ⟨p, hpl, hpe⟩ := hi.at hb
    have := set_old hi hr hp hpl t
    rw [hpe] at this
    exact this
end
end Go.Proofs.Ytdgodndaaenafaa
