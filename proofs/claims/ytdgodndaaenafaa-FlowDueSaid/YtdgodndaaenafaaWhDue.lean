/- Due of a wheel; by-name template. -/
import Derived.Test.YtdgodndaaenafaaWhSet
namespace Go.Proofs.Ytdgodndaaenafaa
open Go.RowKit Go.Lib Go.Maps
set_option linter.unusedVariables false
set_option linter.unusedSimpArgs false

theorem infoI : (Try.prog.info? 3).map (fun i => (i.zero, i.size, i.bytes)) = some (some (.int .i64 0), 1, 8) := by kernel_rfl
def sliceLen : Value → Nat
  | .slice _ n _ => n
  | _ => 0
def vI (n : Int) : Value := .int .i64 n

theorem tw_spec {α : Type} (p : α → Bool) : ∀ L : List α, ∃ D, L.takeWhile p = L.take D ∧ L.dropWhile p = L.drop D ∧ D ≤ L.length ∧ (∀ i x, i < D → L[i]? = some x → p x = true) ∧ (∀ x, L[D]? = some x → p x = false)
  | [] => ⟨0, rfl, rfl, Nat.le_refl _, fun i x h => absurd h (Nat.not_lt_zero _), fun x h => by simp at h⟩
  | a :: t => by
    obtain ⟨D, h1, h2, h3, h4, h5⟩ := tw_spec p t
    rcases hb : p a with _ | _
    · exact ⟨0, by simp [List.takeWhile_cons, hb], by simp [List.dropWhile_cons, hb], Nat.zero_le _, fun i x h => absurd h (Nat.not_lt_zero _), fun x h => by simp at h; subst h; exact hb⟩
    · refine ⟨D + 1, by simp [List.takeWhile_cons, hb, h1], by simp [List.dropWhile_cons, hb, h2], by simp; omega, fun i x hi hx => ?_, fun x hx => h5 x (by simpa using hx)⟩
      cases i with
      | zero => simp at hx; subst hx; exact hb
      | succ i => exact h4 i x (by omega) (by simpa using hx)

section
variable {w : World} {T S : Nat → Prop} {Bw Mp : Nat} {A : Option Addr} {cap : Nat} {E : List DE} {L : List K2}

theorem own_off {w' : World} {b k n : Nat} {e : TypeId} {v : Value} {xs : List Value} {T : Nat → Prop} (h : w.ownsRow b e k v n xs) (o : OffS T w w') (hT : ∀ i, T i → i < b) : w'.ownsRow b e k v n xs := by
  obtain ⟨q0, q | ⟨g, c, cur, hv, hb, hg, rest⟩⟩ := h
  · exact ⟨q0, .inl q⟩
  · exact ⟨q0, .inr ⟨g, c, cur, hv, hb, by rw [o.block g (blk_lt hg) (fun q => by have := hT g q; omega)]; exact hg, rest⟩⟩
theorem own_below {w' : World} {b k n : Nat} {e : TypeId} {v : Value} {xs : List Value} (h : w.ownsRow b e k v n xs) (o : Below w.heap.size w w') : w'.ownsRow b e k v n xs := by
  obtain ⟨q0, q | ⟨g, c, cur, hv, hb, hg, rest⟩⟩ := h
  · exact ⟨q0, .inl q⟩
  · exact ⟨q0, .inr ⟨g, c, cur, hv, hb, by rw [o.block g (blk_lt hg)]; exact hg, rest⟩⟩

theorem take0_any {x : K2} {M : List K2} (h : WAt w T Bw (x :: M)) :
    Calls Try.prog 40 #[.pointer (some ⟨Bw, 0, none⟩), .int .i64 0] w fun e w' => ∃ b, e = .returned (.pointer (some ⟨b, 0, none⟩)) ∧ WAt w' T Bw M ∧ OffS T w w' ∧ w'.cell? ⟨b, 0, none⟩ = some (.int .i64 x.1) := by
  have hu := h.uid
  obtain ⟨hr, S, Mp, A, cap, E, hi, hp⟩ := h
  have hn : 0 < E.length := by have := hp.length_eq; simp at this; omega
  obtain ⟨y, N, e, hy⟩ := hi.head hr hp hn
  cases e
  refine (take_any hi hn).mono fun e w' ⟨he, hk⟩ => ?_
  obtain ⟨a, b, c⟩ := hk.wat hi hr hp hn
  have e1 : (ge E 0).id = x.1 := by rw [← hy]; rfl
  rw [e1, rem_cons hu] at a
  rw [e1] at c
  exact ⟨_, he, a, b, c⟩

def DuePost (w : World) (T : Nat → Prop) (Bw : Nat) (L : List K2) (now : Int) (e : Ending) (w' : World) : Prop :=
  ∃ v, e = .returned v ∧ w'.ownsRow w.heap.size 3 1 v (dueP L now).length ((dueP L now).map vI) ∧ WAt w' T Bw (lefP L now) ∧ OffS T w w'

set_option maxHeartbeats 2000000 in
theorem wdue_any (h : WAt w T Bw L) {now : Int} : Calls Try.prog 31 #[.pointer (some ⟨Bw, 0, none⟩), .int .i64 now] w (DuePost w T Bw L now) := by
  obtain ⟨D, t1, t2, t3, t4, t5⟩ := tw_spec (fun x : K2 => decide (x.2 ≤ now)) L
  have hlt := h.tlt
  have hL := h.len
  have eD : dueP L now = (L.take D).map Prod.fst := by unfold dueP; rw [t1]
  have eL : lefP L now = L.drop D := t2
  have eDl : (dueP L now).length = D := by rw [eD, List.length_map, List.length_take]; omega
  obtain ⟨M, hM⟩ : ∃ M, M = DuePost w T Bw L now := ⟨_, rfl⟩
  have FIN : ∀ v w', w'.ownsRow w.heap.size 3 1 v D (((L.take D).map Prod.fst).map vI) → WAt w' T Bw (L.drop D) → OffS T w w' → M (.returned v) w' := fun v w' a b c => by
    rw [hM]
    exact ⟨v, rfl, by rw [eDl, eD]; exact a, by rw [eL]; exact b, c⟩
  rw [← hM]
  have HF := Lib.hid FIN
  obtain ⟨i0, hi, hz0, hz1, hz2⟩ := info_parts infoI
  have HT := Lib.hid hlt
  have H4 := Lib.hid t4
  have H5 := Lib.hid t5
  have HH := Lib.hid h
  clear FIN hM eD eL eDl t1 t2 h hlt t4 t5
  go_enter Try.func31, Try.ntmps31
  go_wp2
  go_loopw [5] (fun v wr => ∃ k, k ≤ D ∧ wr.ownsRow w.heap.size 3 1 v k (((L.take k).map Prod.fst).map vI) ∧ WAt wr T Bw (L.drop k) ∧ OffS T w wr) (fun v _ => D - sliceLen v)
  case atStart => exact ⟨0, Nat.zero_le _, World.ownsRow_nil _ _ _ _, HH.out, OffS.refl _ _⟩
  case round =>
    obtain ⟨k, hk, hown, hw, ho⟩ := hrel
    have hN := wnext_any hw
    by_cases hkD : k < D
    · have hkL : k < L.length := by omega
      have ed : L.drop k = L[k] :: L.drop (k + 1) := List.drop_eq_getElem_cons hkL
      have hx2 := of_decide_eq_true (H4.out k L[k] hkD (List.getElem?_eq_getElem hkL))
      have et : L.take (k + 1) = L.take k ++ [L[k]] := List.take_succ_eq_append_getElem hkL
      generalize hx : L[k] = x at *
      rw [ed] at hN hw
      have HW := Lib.hid hw
      have hTk := fun w2 (b : Below wr.heap.size wr w2) => take0_any (hw.below b)
      have HTK := Lib.hid hTk
      have hdl : decide (0 < (x :: L.drop (k + 1)).length) = true := by simp
      rw [hdl] at hN
      unfold nid nat' at hN
      simp only [List.headD_cons] at hN
      have hx2' : decide (now < x.2) = false := decide_eq_false (by omega)
      obtain ⟨A0, c0, rfl⟩ : ∃ A0 c0, u5 = .slice A0 k c0 := by
        obtain ⟨_, ⟨q1, q2⟩ | ⟨g, c, cur, hv, _⟩⟩ := hown
        · subst q2; exact ⟨_, _, q1⟩
        · exact ⟨_, _, hv⟩
      have NEXT : ∀ w1 w2 w3 v3 V, Below wr.heap.size wr w1 → OffS T w1 w2 → WAt w2 T Bw (L.drop (k + 1)) → w3.ownsRow w.heap.size 3 1 v3 (k + 1) (((L.take k).map Prod.fst).map vI ++ [.int .i64 x.1]) → (w2.alloc (.cells #[V] 3)).grownBy w3 (Value.slice A0 k c0).ownBlock →
          (w3.ownsRow w.heap.size 3 1 v3 (k + 1) (((L.take (k + 1)).map Prod.fst).map vI) ∧ WAt w3 T Bw (L.drop (k + 1)) ∧ OffS T w w3) ∧ D - sliceLen v3 < D - k := fun w1 w2 w3 v3 V b1 o2 h2 h3 g3 => by
        have b3 : Below w2.heap.size w2 (w2.alloc (.cells #[V] 3)) := (Below.refl _ _).alloc (Nat.le_refl _) _
        have hTi : ∀ i, T i → i < w.heap.size := HT.out
        have hob : ∀ b, (Value.slice A0 k c0).ownBlock = some b → w.heap.size ≤ b := fun b hb => (hown.lt b hb).1
        have o3 : OffS (fun i => w.heap.size ≤ i) w2 w3 := (offS_below b3).trans ⟨g3.os, g3.tape, g3.output, g3.size, fun i hi hn => g3.block i hi (fun e => hn (hob i e.symm))⟩
        refine ⟨⟨by rw [et, List.map_append, List.map_append]; exact h3, h2.off o3 (fun i hi hn => by have := hTi i hi; omega), ((ho.trans (offS_below b1)).trans o2).andThen o3 (fun i hi hn => by omega)⟩, ?_⟩
        have : sliceLen v3 = k + 1 := by
          obtain ⟨_, ⟨q1, q2⟩ | ⟨g, c, cur, hv, _⟩⟩ := h3
          · omega
          · rw [hv]; rfl
        omega
      have hbz := ho.size
      have OWN : ∀ w1 w2, Below wr.heap.size wr w1 → OffS T w1 w2 → w2.ownsRow w.heap.size 3 1 (.slice A0 k c0) k (((L.take k).map Prod.fst).map vI) ∧ w.heap.size ≤ w2.heap.size := fun w1 w2 b1 o2 =>
        ⟨own_off (own_below hown b1) o2 HT.out, Nat.le_trans hbz (Nat.le_trans b1.size o2.size)⟩
      have HNX := Lib.hid NEXT
      have HOW := Lib.hid OWN
      clear NEXT OWN hown hw ho ed et hTk hx H4 H5
      generalize ((L.take k).map Prod.fst).map vI = XS at *
      go_wp2_with (first
        | (go_at_call 39; refine hN.mono ?_; rintro e w1 ⟨rfl, b1⟩)
        | (go_at_call 40; refine (HTK.out _ b1).mono ?_; rintro e w2 ⟨b, rfl, h2, o2, cb⟩; obtain ⟨hown2, hz2'⟩ := HOW.out _ _ b1 o2)
        | (at_builtin; refine wpList_append_own _ rfl _ _ 45 rfl w.heap.size 3 i0 (.int .i64 0) 1 8 Try.underlying45 hi hz0 hz1 hz2 rfl (by decide) _ _ _ rfl (hown2.alloc _) ⟨w2.heap.size, 0, none⟩ 1 1 [Value.int .i64 x.1] rfl rfl (by intro j u' hj; match j, hj with | 0, hj => simp at hj; subst hj; simp [Addr.add]) (by intro u' hu'; simp at hu'; subst hu'; rfl) (by unfold maxLen; omega) (by omega) (by rw [al_size]; omega) ?_))
      intro v3 w3 hown3 hg3 _
      have HQ := HNX.out _ _ _ _ _ b1 o2 h2 hown3 hg3
      have HQ := Lib.hid HQ
      clear hown3 hg3 HNX HOW hown2 HTK hN
      go_wp2
      exact ⟨⟨k + 1, by omega, HQ.out.1⟩, HQ.out.2⟩
    · have ek : k = D := by omega
      subst ek
      have HG := Lib.hid (fun w2 (b : Below wr.heap.size wr w2) => HF.out u5 w2 (own_below hown b) (hw.below b) (ho.trans (offS_below b)))
      by_cases hkL : k < L.length
      · have ed : L.drop k = L[k] :: L.drop (k + 1) := List.drop_eq_getElem_cons hkL
        have hx2 := of_decide_eq_false (H5.out L[k] (List.getElem?_eq_getElem hkL))
        generalize hx : L[k] = x at *
        rw [ed] at hN
        have hdl : decide (0 < (x :: L.drop (k + 1)).length) = true := by simp
        rw [hdl] at hN
        unfold nid nat' at hN
        simp only [List.headD_cons] at hN
        have hx2' : decide (now < x.2) = true := decide_eq_true (by omega)
        clear hown hw ho ed hx H4 H5 HF
        go_wp2_with (go_at_call 39; refine hN.mono ?_; rintro e w1 ⟨rfl, b1⟩)
        exact HG.out _ b1
      · have ed : L.drop k = [] := List.drop_eq_nil_of_le (by omega)
        rw [ed] at hN
        clear hown hw ho ed H4 H5 HF
        go_wp2_with (go_at_call 39; refine hN.mono ?_; rintro e w1 ⟨rfl, b1⟩)
        exact HG.out _ b1
end
end Go.Proofs.Ytdgodndaaenafaa
