/- container/heap's Fix, Push and Remove on the queue; by-name template. -/
import Derived.Test.YtdgodndaaenafaaWhPush
namespace Go.Proofs.Ytdgodndaaenafaa
open Go.RowKit Go.Lib Go.Maps
set_option linter.unusedVariables false
set_option linter.unusedSimpArgs false

section
variable {w : World} {S : Nat → Prop} {Bw Mp : Nat} {A : Option Addr} {cap : Nat} {E : List DE}

theorem HeapPost.off {m : Nat} {w0 w' : World} (h : HeapPost w S Bw Mp A cap E m w') (o : OffS S w0 w) : HeapPost w0 S Bw Mp A cap E m w' := by
  obtain ⟨E', a, b, c, d, e⟩ := h
  exact ⟨E', a, b, c, d, o.trans e⟩

set_option maxHeartbeats 1000000 in
theorem fix_any (h : HQ w S Bw Mp A cap E) {i : Nat} (hi : i < E.length) (hd : DownF (gk E) i i E.length) :
    Calls Try.prog 41 #[.iface 91 (qp Bw), .int .i64 (i : Int)] w fun e w' => e = .returned (.tuple #[]) ∧ HeapPost w S Bw Mp A cap E E.length w' := by
  have m0 := fun (w : World) (x : Value) (k : Nat) => hm_len k w x
  have hL := qlen_any h
  have hD := down_any h hi (Nat.le_refl _) hd
  have hU := fun w2 (h2 : HQ w2 S Bw Mp A cap E) hu => up_any (m := E.length) h2 hi (Nat.le_refl _) hu
  have HU := Lib.hid hU
  clear hU h hd
  unfold DownPost at hD
  generalize hQ : qp Bw = Q at *
  have HQ' := Lib.hid hQ
  obtain ⟨M, hM⟩ : ∃ M : World → Prop, M = HeapPost w S Bw Mp A cap E E.length := ⟨_, rfl⟩
  have HM := Lib.hid hM
  rw [← hM] at hD ⊢
  clear hM hQ
  generalize hn : E.length = n at *
  have HN := Lib.hid hn
  clear hn
  go_enter Try.func41, Try.ntmps41
  go_wp2_with (first
    | (go_at_call 62; refine hL.mono ?_; rintro e w1 ⟨rfl, rfl⟩)
    | (go_at_call 44; refine hD.mono ?_; rintro e w2 ⟨b, rfl, h1, h2⟩))
  · have hb : b = false := by first | assumption | simp_all
    refine (HU.out _ (h2 hb).1 (h2 hb).2.1).mono ?_
    rintro e w3 ⟨rfl, h3⟩
    have FIN : M w3 := by rw [HM.out]; exact h3.off (h2 hb).2.2
    go_wp2
    simp [bodyPost, results, Try.results41, go_sem]
    exact FIN
  · have hb : b = true := by first | assumption | simp_all
    have FIN := h1 hb
    simp [bodyPost, results, Try.results41, go_sem]
    exact FIN

/-! ### Push -/
theorem HQ.grow {T : Nat → Prop} (h : HQ w S Bw Mp A cap E) (hs : ∀ k, S k → T k) (hl : ∀ k, T k → k < w.heap.size) (hb : ¬ T Bw) (hm : ¬ T Mp) : HQ w T Bw Mp A cap E :=
  { h with sA := fun a ha => hs _ (h.sA a ha), sE := fun e he => hs _ (h.sE e he), nB := hb, nM := hm, lt := hl }
theorem gk_append {E : List DE} {x : DE} {k : Nat} (h : k < E.length) : gk (E ++ [x]) k = gk E k := by
  unfold gk ge
  rw [List.getD_eq_getElem?_getD, List.getD_eq_getElem?_getD, List.getElem?_append_left h]

def PushPost (w : World) (S : Nat → Prop) (Bw Mp : Nat) (E : List DE) (x : DE) (w' : World) : Prop :=
  ∃ A' cap' E', HQ w' (ext w w' S x.B) Bw Mp A' cap' E' ∧ E'.Perm (E ++ [x]) ∧ HeapF (gk E') E'.length ∧ OffS (fun k => S k ∨ k = Bw ∨ k = x.B) w w'

set_option maxHeartbeats 1000000 in
theorem hpush_any {Bd : Nat} {id tm pl : Int} (h : HQ w S Bw Mp A cap E) (hb : E.length < 256) (hh : HeapF (gk E) E.length) (hd : w.heap[Bd]? = some (.cells #[.int .i64 id, .int .i64 tm, .int .i64 pl] 86 (0, 0))) (hdS : ¬ S Bd) (hMp : Mp < w.heap.size) (hMd : Mp ≠ Bd) :
    Calls Try.prog 42 #[.iface 91 (qp Bw), .iface 87 (.pointer (some ⟨Bd, 0, none⟩))] w fun e w' => e = .returned (.tuple #[]) ∧ PushPost w S Bw Mp E ⟨Bd, id, tm⟩ w' := by
  have m0 := fun (w : World) (x : Value) (k : Nat) => hm_len k w x
  have m1 := fun (w : World) (x : Value) (k : Nat) => hm_push k w x
  have hP := qpush_any h hb hd hdS hMp hMd
  have hne : Bd ≠ Bw := ne_cells hd h.hw (by decide)
  have hbw := h.blt
  have hlen : (E ++ [(⟨Bd, id, tm⟩ : DE)]).length = E.length + 1 := by simp
  have hu : UpF (gk (E ++ [(⟨Bd, id, tm⟩ : DE)])) E.length (E.length + 1) := up_of_heap (heap_congr hh fun k hk => gk_append hk)
  obtain ⟨M, hM⟩ : ∃ M : World → Prop, M = PushPost w S Bw Mp E ⟨Bd, id, tm⟩ := ⟨_, rfl⟩
  rw [← hM]
  have LN : ∀ A' cap' w2, HQ w2 (ext w w2 S Bd) Bw Mp A' cap' (E ++ [(⟨Bd, id, tm⟩ : DE)]) → Calls Try.prog 62 #[qp Bw] w2 fun e w' => e = .returned (.int .i64 ((E.length : Int) + 1)) ∧ w2 = w' := fun A' cap' w2 h2 =>
    (qlen_any h2).mono fun e w' ⟨he, hw⟩ => ⟨by rw [he, hlen]; simp, hw⟩
  have UP : ∀ A' cap' w2, HQ w2 (ext w w2 S Bd) Bw Mp A' cap' (E ++ [(⟨Bd, id, tm⟩ : DE)]) → OffS (fun k => S k ∨ k = Bw ∨ k = Bd) w w2 → Calls Try.prog 45 #[.iface 91 (qp Bw), .int .i64 (E.length : Int)] w2 fun e w' => e = .returned (.tuple #[]) ∧ M w' := fun A' cap' w2 h2 o2 =>
    (up_any h2 (j := E.length) (m := E.length + 1) (by omega) (by omega) hu).mono fun e w3 ⟨he, E', h3, p3, f3, _, o3⟩ => by
      refine ⟨he, ?_⟩
      rw [hM]
      have hl3 := p3.length_eq
      rw [hlen] at hl3
      refine ⟨A', cap', E', h3.grow (fun k hk => ?_) (fun k hk => ?_) ?_ ?_, p3, by rw [hl3]; exact f3, o2.andThen o3 (fun i hi hS => ?_)⟩
      · rcases hk with q | q | q
        · exact .inl q
        · exact .inr (.inl q)
        · exact .inr (.inr ⟨q.1, Nat.lt_of_lt_of_le q.2 o3.size⟩)
      · have := o2.size
        have := o3.size
        rcases hk with q | q | q
        · have := h.lt k q; omega
        · have := blk_lt hd; have q' : k = Bd := q; omega
        · exact q.2
      · rintro (q | q | q)
        · exact h.nB q
        · exact hne q.symm
        · omega
      · rintro (q | q | q)
        · exact h.nM q
        · exact hMd q
        · omega
      · rcases hS with q | q | q
        · exact .inl q
        · exact .inr (.inr q)
        · omega
  have HL := Lib.hid LN
  have HU := Lib.hid UP
  clear LN UP hu hh h hd hdS hMp hMd hM hlen
  have e1 : (E.length : Int) + 1 - 1 = (E.length : Int) := by omega
  generalize hQ : qp Bw = Q at *
  have HQ' := Lib.hid hQ
  clear hQ
  generalize E ++ [(⟨Bd, id, tm⟩ : DE)] = F at *
  generalize E.length = n at *
  go_enter Try.func42, Try.ntmps42
  go_wp2_with (first
    | (go_at_call 65; refine hP.mono ?_; rintro e w2 ⟨rfl, A', cap', h2, o2⟩)
    | (go_at_call 62; refine (HL.out _ _ _ h2).mono ?_; rintro e w3 ⟨rfl, rfl⟩)
    | (go_at_call 45; refine (HU.out _ _ _ h2 o2).mono ?_; rintro e w4 ⟨rfl, h4⟩))
  simp [bodyPost, results, Try.results42, go_sem]
  exact h4

/-! ### Remove -/
theorem gk_take {E : List DE} {n k : Nat} (h : k < n) : gk (E.take n) k = gk E k := by
  unfold gk ge
  rw [List.getD_eq_getElem?_getD, List.getD_eq_getElem?_getD, List.getElem?_take, if_pos h]
theorem take_last {E : List DE} (h : 0 < E.length) : E = E.take (E.length - 1) ++ [ge E (E.length - 1)] := by
  have e := ge_get (E := E) (k := E.length - 1) (by omega)
  have e2 : ge E (E.length - 1) = E[E.length - 1] := ge_of (List.getElem?_eq_getElem (by omega))
  rw [e2]
  conv => lhs; rw [← List.take_append_drop (E.length - 1) E]
  congr 1
  rw [List.drop_eq_getElem_cons (by omega), show E.length - 1 + 1 = E.length by omega, List.drop_length]
theorem erase_perm {E : List DE} {i : Nat} (hi : i < E.length) : (ge E i :: E.eraseIdx i).Perm E := by
  have e2 : ge E i = E[i] := ge_of (List.getElem?_eq_getElem hi)
  rw [List.eraseIdx_eq_take_drop_succ, e2]
  have e3 : E = E.take i ++ E[i] :: E.drop (i + 1) := by
    conv => lhs; rw [← List.take_append_drop i E]
    rw [← List.drop_eq_getElem_cons hi]
  conv => rhs; rw [e3]
  exact List.perm_middle.symm
theorem rem_perm_last {E E2 : List DE} {i : Nat} (hi : i < E.length) (hp : E2.Perm E) (hl : ge E2 (E.length - 1) = ge E i) : (E2.take (E.length - 1)).Perm (E.eraseIdx i) := by
  have hlen := hp.length_eq
  have h1 := take_last (E := E2) (by omega)
  rw [hlen, hl] at h1
  have h2 : (ge E i :: E2.take (E.length - 1)).Perm E2 := by
    conv => rhs; rw [h1]
    exact (List.perm_append_singleton _ _).symm
  have h3 := (erase_perm hi).symm
  exact List.Perm.cons_inv ((h2.trans hp).trans h3)

def RemPost (w : World) (S : Nat → Prop) (Bw Mp : Nat) (A : Option Addr) (cap : Nat) (E : List DE) (i : Nat) (w' : World) : Prop :=
  ∃ E', HQ w' S Bw Mp A cap E' ∧ E'.Perm (E.eraseIdx i) ∧ HeapF (gk E') E'.length ∧ OffS (fun k => S k ∨ k = Bw) w w' ∧ ∃ q, w'.heap[(ge E i).B]? = some (.cells (dc (ge E i) q) 86 (0, 0))

theorem HQ.poppy (n : Nat) (hn : E.length - 1 = n) (i : Nat) {w2 : World} {E2 : List DE} (h2 : HQ w2 S Bw Mp A cap E2) (p2 : E2.Perm E) (f2 : HeapF (gk E2) n) (hi : i < E.length) (hl : ge E2 n = ge E i) (o2 : OffS S w w2) :
    Calls Try.prog 64 #[qp Bw] w2 fun e w' => e = .returned (.iface 87 (.pointer (some ⟨(ge E i).B, 0, none⟩))) ∧ RemPost w S Bw Mp A cap E i w' := by
  subst hn
  have hlen := p2.length_eq
  refine (qpop_any h2 (by omega)).mono fun e w' ⟨he, h3, o3, d3⟩ => ?_
  rw [hlen] at he h3 d3
  rw [hl] at he d3
  refine ⟨he, _, h3, rem_perm_last hi p2 hl, ?_, (o2.mono (fun k _ q => .inl q)).trans o3, _, d3⟩
  have e1 : (E2.take (E.length - 1)).length = E.length - 1 := by rw [List.length_take]; omega
  rw [e1]
  exact heap_congr f2 fun k hk => gk_take hk

set_option maxHeartbeats 2000000 in
theorem remove_any (h : HQ w S Bw Mp A cap E) {i : Nat} (hi : i < E.length) (hh : HeapF (gk E) E.length) :
    Calls Try.prog 43 #[.iface 91 (qp Bw), .int .i64 (i : Int)] w fun e w' => e = .returned (.iface 87 (.pointer (some ⟨(ge E i).B, 0, none⟩))) ∧ RemPost w S Bw Mp A cap E i w' := by
  have m0 := fun (w : World) (x : Value) (k : Nat) => hm_len k w x
  have m1 := fun (w : World) (x : Value) (k : Nat) => hm_swap k w x
  have m2 := fun (w : World) (x : Value) (k : Nat) => hm_pop k w x
  have hL := qlen_any h
  have hbig := h.big
  obtain ⟨n, hn⟩ : ∃ n, n = E.length - 1 := ⟨_, rfl⟩
  have POP := fun (w2 : World) (E2 : List DE) (h2 : HQ w2 S Bw Mp A cap E2) p2 f2 hl o2 => HQ.poppy (w := w) (E := E) n hn.symm i h2 p2 f2 hi hl o2
  obtain ⟨M, hM⟩ : ∃ M : World → Prop, M = RemPost w S Bw Mp A cap E i := ⟨_, rfl⟩
  rw [← hM] at POP ⊢
  have HPOP := Lib.hid POP
  have e1 : (E.length : Int) - 1 = (n : Int) := by omega
  clear POP hM
  by_cases hin : n = i
  · subst hin
    have hP := HPOP.out _ _ h (List.Perm.refl _) (heap_le hh (by omega)) rfl (OffS.refl _ _)
    have HX := Lib.hid hn
    clear h hh hi hn HPOP
    generalize hQ : qp Bw = Q at *
    have HQ' := Lib.hid hQ
    clear hQ
    generalize (ge E n).B = x at *
    generalize E.length = l at *
    go_enter Try.func43, Try.ntmps43
    go_wp2_with (first
      | (go_at_call 62; refine hL.mono ?_; rintro e w1 ⟨rfl, rfl⟩)
      | (go_at_call 64; refine hP.mono ?_; rintro e w2 ⟨rfl, h2⟩))
    first | exact ⟨rfl, h2⟩ | (go_ret; exact ⟨rfl, h2⟩)
  · have hnE : n < E.length := by omega
    have hne : i ≠ n := fun e => hin e.symm
    have hinI : ¬ (n : Int) = (i : Int) := by omega
    have hltI : i < n := by omega
    have hS := qswap_any h hi hnE hne
    have hlenS := swap_len E i n
    have hpS := swap_perm hi hnE
    have hdn : DownF (gk (swapL E i n)) i i n := by
      have hf := swap_f hi hnE hne
      have h1 : HeapF (fun k => if k = n then gk (swapL E i n) n else gk E k) n := heap_congr (heap_le hh (by omega)) fun k hk => by
        show (if k = n then _ else _) = _
        rw [if_neg (by omega)]
      refine down_of_heap h1 fun k hk => ?_
      show _ = (if k = n then _ else _)
      split
      · rename_i e; rw [e]
      · rename_i e; exact hf.2.2 k hk e
    have hlast : ge (swapL E i n) n = ge E i := ge_of (swap_j hnE)
    have HD := Lib.hid (fun w2 (h2 : HQ w2 S Bw Mp A cap (swapL E i n)) => down_any h2 hltI (by omega) hdn)
    have HU := Lib.hid (fun w2 (h2 : HQ w2 S Bw Mp A cap (swapL E i n)) hu => up_any (m := n) h2 hltI (by omega) hu)
    have PP : ∀ w2 w3, OffS S w w2 → HeapPost w2 S Bw Mp A cap (swapL E i n) n w3 → Calls Try.prog 64 #[qp Bw] w3 fun e w' => e = .returned (.iface 87 (.pointer (some ⟨(ge E i).B, 0, none⟩))) ∧ M w' := fun w2 w3 o2 hp => by
      obtain ⟨E3, h3, p3, f3, t3, o3⟩ := hp
      refine HPOP.out _ _ h3 (p3.trans hpS) f3 ?_ (o2.trans o3)
      rw [← hlast]
      unfold ge
      rw [List.getD_eq_getElem?_getD, List.getD_eq_getElem?_getD, t3 n (Nat.le_refl _)]
    have HPP := Lib.hid PP
    clear PP h hh hi hn HPOP hdn hlast hpS hlenS hnE
    unfold DownPost at HD
    generalize hQ : qp Bw = Q at *
    have HQ' := Lib.hid hQ
    clear hQ
    generalize (ge E i).B = x at *
    generalize swapL E i n = F at *
    generalize E.length = l at *
    go_enter Try.func43, Try.ntmps43
    go_wp2_with (first
      | (go_at_call 62; refine hL.mono ?_; rintro e w1 ⟨rfl, rfl⟩)
      | (go_at_call 66; refine hS.mono ?_; rintro e w2 ⟨rfl, h2, o2⟩)
      | (go_at_call 44; refine (HD.out _ h2).mono ?_; rintro e w3 ⟨b, rfl, d1, d2⟩))
    · have hb : b = false := by first | assumption | simp_all
      obtain ⟨k1, k2, k3⟩ := d2 hb
      refine (HU.out _ k1 k2).mono ?_
      rintro e w4 ⟨rfl, h4⟩
      have hP := HPP.out w2 w4 o2 (h4.off k3)
      go_wp2_with (go_at_call 64; refine hP.mono ?_; rintro e w5 ⟨rfl, h5⟩)
      first | exact ⟨rfl, h5⟩ | (go_ret; exact ⟨rfl, h5⟩)
    · have hb : b = true := by first | assumption | simp_all
      have hP := HPP.out w2 w3 o2 (d1 hb)
      refine hP.mono ?_
      rintro e w5 ⟨rfl, h5⟩
      go_wp2
      first | exact ⟨rfl, h5⟩ | (go_ret; exact ⟨rfl, h5⟩)
end
end Go.Proofs.Ytdgodndaaenafaa
