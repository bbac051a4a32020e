/- The document's Set and Due, whole; two rows of numbers held against each other; by-name template. -/
import Derived.Test.YtcmdelmgklidjaaWhRSetG
namespace Go.Proofs.Ytcmdelmgklidjaa
open Go.RowKit Go.Lib Go.Maps
set_option linter.unusedVariables false
set_option linter.unusedSimpArgs false

section
variable {w : World} {R : Nat → Prop} {Br : Nat} {A : Option Addr} {c : Nat} {L : List K2}
theorem rem_lt {L : List K2} {id : Int} (h : hasP L id = true) : (remP L id).length < L.length := by
  obtain ⟨x, hx, he⟩ := has_iff.1 h
  unfold remP
  exact List.length_filter_lt_length_iff_exists.2 ⟨x, hx, by simp [he]⟩
theorem rset_any (h : RAt w R Br L) (hu : UId L) {id t : Int} :
    Calls Try.prog 13 #[.pointer (some ⟨Br, 0, none⟩), .int .i64 id, .int .i64 t] w fun e w' => e = .returned (.int .i64 (setR L id)) ∧ RPost w R Br (setP L id t) w' := by
  have hD := rdrop_any h hu (id := id)
  have hl := h.len
  unfold setR setP
  rcases hb : hasP L id with _ | _
  · by_cases h256 : L.length = 256
    · rw [if_neg (by simp), if_pos h256, if_neg (by simp), if_pos h256]
      exact rset_full h hu hb h256
    · rw [if_neg (by simp), if_neg h256, if_neg (by simp), if_neg h256]
      rw [hb, rem_id (has_false.1 hb)] at hD
      exact rset_go false (by omega) hD
  · rw [if_pos rfl, if_pos rfl]
    rw [hb] at hD
    have := rem_lt hb
    exact rset_go true (by omega) hD

def RDuePost (w : World) (R : Nat → Prop) (Br : Nat) (L : List K2) (now : Int) (e : Ending) (w' : World) : Prop :=
  ∃ v, e = .returned v ∧ w'.ownsRow w.heap.size 3 1 v (dueP L now).length ((dueP L now).map vI) ∧ RAt w' R Br (lefP L now) ∧ OffS (fun k => k = Br) w w'

set_option maxRecDepth 100000 in
set_option maxHeartbeats 4000000 in
theorem rdue_any (h : RAt w R Br L) {now : Int} : Calls Try.prog 15 #[.pointer (some ⟨Br, 0, none⟩), .int .i64 now] w (RDuePost w R Br L now) := by
  obtain ⟨D, t1, t2, t3, t4, t5⟩ := tw_spec (fun x : K2 => decide (x.2 ≤ now)) L
  have hlt := h.lt
  have hL := h.len
  have eD : dueP L now = (L.take D).map Prod.fst := by unfold dueP; rw [t1]
  have eL : lefP L now = L.drop D := t2
  have eDl : (dueP L now).length = D := by rw [eD, List.length_map, List.length_take]; omega
  obtain ⟨M, hM⟩ : ∃ M, M = RDuePost w R Br L now := ⟨_, rfl⟩
  have FIN : ∀ v w', w'.ownsRow w.heap.size 3 1 v D (((L.take D).map Prod.fst).map vI) → RAt w' R Br (L.drop D) → OffS (fun k => k = Br) w w' → M (.returned v) w' := fun v w' a b c => by
    rw [hM]
    exact ⟨v, rfl, by rw [eDl, eD]; exact a, by rw [eL]; exact b, c⟩
  rw [← hM]
  have HF := Lib.hid FIN
  obtain ⟨i0, hi, hz0, hz1, hz2⟩ := info_parts infoI
  have HT := Lib.hid hlt
  have H4 := Lib.hid t4
  have H5 := Lib.hid t5
  have hown0 : (w.alloc (.cells #[] 3)).ownsRow w.heap.size 3 1 (.slice (some ⟨w.heap.size, 0, none⟩) 0 0) 0 ([] : List Value) := World.ownsRow_made w #[] 0 (Nat.le_refl _) (by unfold maxLen; omega) rfl
  have b0 := (Below.refl w.heap.size w).alloc (Nat.le_refl _) (.cells #[] 3)
  have h1 := h.below b0
  have hB : Br < w.heap.size := by obtain ⟨_, A, c, hi⟩ := h; exact hi.lt _ hi.rB
  have H1 := Lib.hid (And.intro h1 (And.intro hown0 b0))
  clear FIN hM eD eL eDl t1 t2 h hlt t4 t5 h1 hown0 b0
  go_enter Try.func15, Try.ntmps15
  go_wp2
  go_loopw [5] (fun v wr => ∃ k, k ≤ D ∧ wr.ownsRow w.heap.size 3 1 v k (((L.take k).map Prod.fst).map vI) ∧ RAt wr R Br (L.drop k) ∧ OffS (fun k => k = Br) w wr) (fun v _ => D - sliceLen v)
  case atStart => exact ⟨0, Nat.zero_le _, by simpa using H1.out.2.1, H1.out.1, offS_below H1.out.2.2⟩
  case round =>
    obtain ⟨k, hk, hown, hw, ho⟩ := hrel
    obtain ⟨hl256, Ak, ck, hik⟩ := hw
    have c0 := hik.c0
    have f0 := free_of hik.hm 0
    clear H1
    by_cases hkD : k < D
    · have hkL : k < L.length := by omega
      have ed : L.drop k = L[k] :: L.drop (k + 1) := List.drop_eq_getElem_cons hkL
      have hx2 := of_decide_eq_true (H4.out k L[k] hkD (List.getElem?_eq_getElem hkL))
      have et : L.take (k + 1) = L.take k ++ [L[k]] := List.take_succ_eq_append_getElem hkL
      generalize hx : L[k] = x at *
      rw [ed] at hik c0 hl256
      have hdl : ((x :: L.drop (k + 1)).length : Int) > 0 := by rw [List.length_cons]; omega
      obtain ⟨m, hm⟩ : ∃ m, m = (L.drop (k + 1)).length := ⟨_, rfl⟩
      have hm1 : (x :: L.drop (k + 1)).length = m + 1 := by rw [hm]; rfl
      obtain ⟨b, off, rfl, hbl, hrow⟩ := hik.sl.row (by simp)
      have r0 := hrow 0 x rfl 0 _ rfl
      have r1 := hrow 0 x rfl 1 _ rfl
      simp only [Nat.zero_mul, Nat.add_zero] at r0 r1
      have hcap := hik.cap
      have hx2' : decide (x.2 ≤ now) = true := decide_eq_true hx2
      obtain ⟨A0, c00, rfl⟩ : ∃ A0 c0, u5 = .slice A0 k c0 := by
        obtain ⟨_, ⟨q1, q2⟩ | ⟨g, c, cur, hv, _⟩⟩ := hown
        · subst q2; exact ⟨_, _, q1⟩
        · exact ⟨_, _, hv⟩
      have hbz := ho.size
      have hBr : Br < wr.heap.size := by omega
      have NEXT : ∀ w3 v3 V A2 c2, w3.ownsRow w.heap.size 3 1 v3 (k + 1) (((L.take k).map Prod.fst).map vI ++ [.int .i64 x.1]) → (wr.alloc (.cells #[V] 3)).grownBy w3 (Value.slice A0 k c00).ownBlock → (A2 = none → c2 = 0) → m ≤ c2 → (∀ b' off' sp, A2 = some ⟨b', off', sp⟩ → b' = b ∧ sp = none) → (∀ W, Sl W 2 k2c (some ⟨b, off, none⟩) (m + 1) (x :: L.drop (k + 1)) → Sl W 2 k2c A2 m (L.drop (k + 1))) →
          ((w3.setCell ⟨Br, 0, none⟩ (.slice A2 m c2)).ownsRow w.heap.size 3 1 v3 (k + 1) (((L.take (k + 1)).map Prod.fst).map vI) ∧ RAt (w3.setCell ⟨Br, 0, none⟩ (.slice A2 m c2)) R Br (L.drop (k + 1)) ∧ OffS (fun k => k = Br) w (w3.setCell ⟨Br, 0, none⟩ (.slice A2 m c2))) ∧ D - sliceLen v3 < D - k ∧ w3.cell? ⟨Br, 0, none⟩ = some (.slice (some ⟨b, off, none⟩) (m + 1) ck) ∧ w3.frozen? ⟨Br, 0, none⟩ = false := fun w3 v3 V A2 c2 h3 g3 hn2 hc2 hb2 hs2 => by
        have b3 : Below wr.heap.size wr (wr.alloc (.cells #[V] 3)) := (Below.refl _ _).alloc (Nat.le_refl _) _
        have hob : ∀ q, (Value.slice A0 k c00).ownBlock = some q → w.heap.size ≤ q := fun q hq => (hown.lt q hq).1
        have hRw : ∀ q, R q → q < w.heap.size := HT.out
        have o3 : OffS (fun i => w.heap.size ≤ i) wr w3 := (offS_below b3).trans ⟨g3.os, g3.tape, g3.output, g3.size, fun i hi hn => g3.block i hi (fun e => hn (hob i e.symm))⟩
        have hi3 := hik.off o3 (fun i hi hn => by have := hRw i hi; omega)
        have o4 : OffS (fun k => k = Br) w3 (w3.setCell ⟨Br, 0, none⟩ (.slice A2 m c2)) := ((Off.refl Br w3).set 0 _).toS (.inl rfl)
        have hs3 := hi3.sl
        rw [hm1] at hs3
        have hmL : (L.drop (k + 1)).length = m := hm.symm
        have hbBr : b ≠ Br := (hi3.rA b off none rfl).2.1
        refine ⟨⟨?_, ⟨by rw [hmL]; omega, A2, c2, {
          hm := by rw [hmL]; exact heap_set hi3.hm 0 _
          sl := by
            rw [hmL]
            refine (hs2 w3 hs3).off o4 (fun b' off' sp e q => ?_)
            have := (hb2 b' off' sp e).1
            exact hbBr (this.symm.trans q)
          nil := hn2
          cap := by rw [hmL]; exact hc2
          rB := hik.rB
          rA := fun b' off' sp e => by
            obtain ⟨rfl, rfl⟩ := hb2 b' off' sp e
            exact ⟨(hi3.rA b' off none rfl).1, hbBr, rfl⟩
          lt := fun q hq => by rw [set_size]; exact hi3.lt q hq }⟩, ?_⟩, ?_, ?_, ?_⟩
        · rw [et, List.map_append, List.map_append]
          exact own_off h3 o4 (fun i hi => by rw [hi]; exact hB)
        · exact (ho.andThen o3 (fun i hi hn => by omega)).trans o4
        · have : sliceLen v3 = k + 1 := by
            obtain ⟨_, ⟨q1, q2⟩ | ⟨g, c, cur, hv, _⟩⟩ := h3
            · omega
            · rw [hv]; rfl
          omega
        · have := hi3.c0
          rw [hm1] at this
          exact this
        · exact free_of hi3.hm 0
      rw [hm1] at c0 hdl hcap
      have hmI : ((m + 1 : Nat) : Int) = (m : Int) + 1 := by omega
      have hm0 : (0 : Int) < ((m + 1 : Nat) : Int) := by omega
      have hm1I : (1 : Int) ≤ ((m + 1 : Nat) : Int) := by omega
      have hck : 1 ≤ ck := by omega
      have HNX := Lib.hid NEXT
      clear NEXT ed et hik hx H4 H5 HF hrow ho hm hm1 hl256
      generalize ((L.take k).map Prod.fst).map vI = XS at *
      by_cases hc1 : ck = 1
      · subst hc1
        have hm2 : m = 0 := by omega
        subst hm2
        go_wp2_with (at_builtin; refine wpList_append_own _ rfl _ _ 22 rfl w.heap.size 3 i0 (.int .i64 0) 1 8 Try.underlying22 hi hz0 hz1 hz2 rfl (by decide) _ _ _ rfl (hown.alloc _) ⟨wr.heap.size, 0, none⟩ 1 1 [Value.int .i64 x.1] rfl rfl (by intro j u' hj; match j, hj with | 0, hj => simp at hj; subst hj; simp [Addr.add]) (by intro u' hu'; simp at hu'; subst hu'; rfl) (by unfold maxLen; omega) (by omega) (by rw [al_size]; omega) ?_)
        intro v3 w3 h3 g3 _
        obtain ⟨q1, q2, q3, q4⟩ := HNX.out w3 v3 _ (some ⟨b, off, none⟩) 0 h3 g3 (fun e => by cases e) (by omega) (fun b' off' sp e => by cases e; exact ⟨rfl, rfl⟩) (fun W hS => by
          have : L.drop (k + 1) = [] := List.eq_nil_of_length_eq_zero (by have := hS.len; simp at this; simpa using this)
          rw [this]; exact Sl.none _)
        have HQ := Lib.hid (And.intro q1 q2)
        clear q1 q2 h3 g3 HNX hown c0 f0 r0 r1
        go_wp2
        exact ⟨⟨k + 1, by omega, HQ.out.1⟩, HQ.out.2⟩
      · have hc1' : ¬ ck = 1 := hc1
        go_wp2_with (at_builtin; refine wpList_append_own _ rfl _ _ 22 rfl w.heap.size 3 i0 (.int .i64 0) 1 8 Try.underlying22 hi hz0 hz1 hz2 rfl (by decide) _ _ _ rfl (hown.alloc _) ⟨wr.heap.size, 0, none⟩ 1 1 [Value.int .i64 x.1] rfl rfl (by intro j u' hj; match j, hj with | 0, hj => simp at hj; subst hj; simp [Addr.add]) (by intro u' hu'; simp at hu'; subst hu'; rfl) (by unfold maxLen; omega) (by omega) (by rw [al_size]; omega) ?_)
        intro v3 w3 h3 g3 _
        obtain ⟨q1, q2, q3, q4⟩ := HNX.out w3 v3 _ (some ⟨b, off + 2, none⟩) (ck - 1) h3 g3 (fun e => by cases e) (by omega) (fun b' off' sp e => by cases e; exact ⟨rfl, rfl⟩) (fun W hS => by
          have := hS.dropG (i := 1) (by omega)
          simpa using this)
        have HQ := Lib.hid (And.intro q1 q2)
        clear q1 q2 h3 g3 HNX hown c0 f0 r0 r1
        go_wp2
        exact ⟨⟨k + 1, by omega, HQ.out.1⟩, HQ.out.2⟩
    · have ek : k = D := by omega
      subst ek
      have HG := Lib.hid (HF.out u5 wr hown ⟨hl256, Ak, ck, hik⟩ ho)
      by_cases hkL : k < L.length
      · have ed : L.drop k = L[k] :: L.drop (k + 1) := List.drop_eq_getElem_cons hkL
        have hx2 := of_decide_eq_false (H5.out L[k] (List.getElem?_eq_getElem hkL))
        generalize hx : L[k] = x at *
        rw [ed] at hik c0
        obtain ⟨b, off, rfl, hbl, hrow⟩ := hik.sl.row (by simp)
        have r1 := hrow 0 x rfl 1 _ rfl
        simp only [Nat.zero_mul, Nat.add_zero] at r1
        have hx2' : decide (x.2 ≤ now) = false := decide_eq_false hx2
        have hdl : (0 : Int) < ((x :: L.drop (k + 1)).length : Int) := by rw [List.length_cons]; omega
        generalize (x :: L.drop (k + 1)).length = n at *
        clear hown hik hrow ho ed hx H4 H5 HF hl256
        go_wp2
        first | exact HG.out | (go_ret; exact HG.out)
      · have ed : L.drop k = [] := List.drop_eq_nil_of_le (by omega)
        rw [ed] at c0
        clear hown hik ho ed H4 H5 HF hl256
        go_wp2
        first | exact HG.out | (go_ret; exact HG.out)
end
end Go.Proofs.Ytcmdelmgklidjaa
