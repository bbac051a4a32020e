/- Add of a table of flows; by-name template (gen_foa.py). -/
import Derived.Test.YtdgodndaaenafaaFoQ
import Derived.Test.YtdgodndaaenafaaFoV
namespace Go.Proofs.Ytdgodndaaenafaa
open Go.RowKit Go.Lib Go.Maps
set_option linter.unusedVariables false
set_option linter.unusedSimpArgs false

theorem klawK : Go.WideMaps.KeyLaw Try.prog 36 := deep_law_gate (P := Try.prog) (by kernel_rfl) (of_decide_eq_true (by kernel_rfl)) (of_decide_eq_true (by kernel_rfl)) (by kernel_rfl) (by kernel_rfl)
theorem setBlock_twice (w : World) (b : Nat) (x y : Obj) : ChangeMaps.setBlock (ChangeMaps.setBlock w b x) b y = ChangeMaps.setBlock w b y := by
  unfold ChangeMaps.setBlock
  simp
theorem off_setBlock {w : World} {b : Nat} {es : Array MapEntry} {clock : Nat} (hb : w.heap[b]? = some (.map es clock)) (o : Obj) : OffS (fun j => j = b) w (ChangeMaps.setBlock w b o) :=
  ⟨rfl, rfl, rfl, by simp [ChangeMaps.setBlock], fun k _ hk => ChangeMaps.heap_setBlock_other hb _ hk⟩
theorem MapK.put2 {w : World} {Mp c : Nat} {gk : Ky → Option Int} (h : MapK w Mp gk c) (hl : c < 1000000) {k : Ky} (hs : KyOk k) {n : Int} (hn : i64ok n) :
    ∃ v0 st u1 u2, (Instr.mapEntry 58 (.map (some Mp)) (.agg (KA k))).run Try.prog w = .ok (.tuple #[v0, .int .i64 st]) u1 ∧ (Instr.entryStore 58 (.map (some Mp)) (.int .i64 st) (.int .i64 n)).run Try.prog u1 = .ok () u2 ∧
      MapK u2 Mp (upK gk k n) (if (gk k).isSome then c else c + 1) ∧ OffS (fun j => j = Mp) w u1 ∧ OffS (fun j => j = Mp) w u2 := by
  obtain ⟨w', hr, hm, ho⟩ := h.put hl hs hn
  obtain ⟨D, ⟨es, clock, hb, F, _, _⟩, _⟩ := h
  obtain ⟨v0, st, es1, clock1, h1, _, h2⟩ := WideElems.entry_then_store klawK Try.underlying58 (z := .int .i64 0) (fun u => zeroI u) hb F (keyOf_ky hs)
  obtain ⟨es', clock', r2, r3⟩ := h2 (ChangeMaps.setBlock w Mp (.map es1 clock1)) (.int .i64 n) (ChangeMaps.heap_setBlock_same hb _)
  unfold kv at r3 h1
  rw [hr] at r3
  cases r3
  refine ⟨v0, st, _, _, h1, r2, ?_, off_setBlock hb _, ?_⟩
  · rw [setBlock_twice]; exact hm
  · rw [setBlock_twice]; exact ho

section
variable {w w' : World} {T Tw : Nat → Prop} {TB Bw Mo Mk co ck : Nat} {go : Int → Option Fl} {gk : Ky → Option Int} {W : List K2} {L : List Fl}
/-- What Add's end makes of a table that has room. -/
theorem add_fin (g : GoodF L) (hp : W.Perm (L.map Fl.me)) (hl : L.length < 48) {f : Fl} (hb : badF L f = false) (hf : FlOk f) {w5 w6 : World} (h : TRaw w5 T Tw TB Bw Mo Mk (goF L) L.length (gkF L) (2 * L.length) W) (o5 : OffS T w w5)
    (hP : PutPost w5 T TB Bw Mo Mk (goF L) L.length (gkF L) (2 * L.length) W { f with id := (preF 0 L : Int) + 1 } w6) :
    ∃ v1 st1 u1 u2 v2 st2 u3 u4, (Instr.mapEntry 58 (.map (some Mk)) (.agg (KA f.op))).run Try.prog w6.drew = .ok (.tuple #[v1, .int .i64 st1]) u1 ∧
      (Instr.entryStore 58 (.map (some Mk)) (.int .i64 st1) (.int .i64 ((preF 0 L : Int) + 1))).run Try.prog u1 = .ok () u2 ∧
      (Instr.mapEntry 58 (.map (some Mk)) (.agg (KA f.bk))).run Try.prog u2 = .ok (.tuple #[v2, .int .i64 st2]) u3 ∧
      (Instr.entryStore 58 (.map (some Mk)) (.int .i64 st2) (.int .i64 ((preF 0 L : Int) + 1))).run Try.prog u3 = .ok () u4 ∧
      OffS (fun j => j = Mk) w6.drew u1 ∧ OffS (fun j => j = Mk) w6.drew u2 ∧ OffS (fun j => j = Mk) w6.drew u3 ∧ OffS (fun j => j = Mk) w6.drew u4 ∧
      FPost w T TB (insF L f) u4 ∧ (∀ k, k < w5.heap.size → ¬ T k → w6.drew.heap[k]? = w5.heap[k]?) ∧ TB ≠ Mk ∧ T Mk ∧ w6.drew.cell? ⟨TB, 2, none⟩ = some (.map (some Mk)) := by
  obtain ⟨T', Tw', hR, o6, ht⟩ := hP
  obtain ⟨b1, b2, b3⟩ := bad_false hb
  have e4 : (goF L ((preF 0 L : Int) + 1)).isSome = false := by rw [has_go]; exact pre_not g
  have hgo : upO (goF L) { f with id := (preF 0 L : Int) + 1 } = goF (insF L f) := by
    funext id
    rw [go_ins g hl hb hf]
    rfl
  have nid : i64ok ((preF 0 L : Int) + 1) := by have := pre_48 g hl; unfold i64ok; omega
  have e1 := gk_none b2
  have e2 : upK (gkF L) f.op ((preF 0 L : Int) + 1) f.bk = none := by unfold upK; rw [if_neg (Ne.symm b1), gk_none b3]
  obtain ⟨v1, st1, u1, u2, r1, r2, m2, o1, o2⟩ := (hR.mK.keep (w' := w6.drew) rfl).put2 (by omega) hf.op nid
  rw [e1] at m2
  obtain ⟨v2, st2, u3, u4, r3, r4, m4, o3, o4⟩ := m2.put2 (by simp; omega) hf.bk nid
  rw [e2] at m4
  have hgk : upK (upK (gkF L) f.op ((preF 0 L : Int) + 1)) f.bk ((preF 0 L : Int) + 1) = gkF (insF L f) := by
    funext k
    rw [gk_ins g hl hb hf]
    unfold upK hitF
    by_cases h1 : k = f.bk
    · rw [if_pos h1, if_pos (by simp [h1])]
    · rw [if_neg h1]
      by_cases h2 : k = f.op
      · rw [if_pos h2, if_pos (by simp [h2])]
      · rw [if_neg h2, if_neg]
        simp
        exact ⟨fun e => h2 e.symm, fun e => h1 e.symm⟩
  rw [hgk] at m4
  simp only [Option.isSome_none, Bool.false_eq_true, if_false] at m4
  have oA : OffS (fun j => j = Mk) w6.drew u3 := o2.trans o3
  have oB : OffS (fun j => j = Mk) w6.drew u4 := o2.trans o4
  have oB6 : OffS (fun j => j = Mk) w6 u4 := ⟨oB.os, oB.tape, oB.output, oB.size, oB.block⟩
  have hTK : TB ≠ Mk := fun e => hR.mK.ne hR.tb e.symm
  rw [hgo, e4, if_neg (by simp)] at hR
  have hlen := ins_flen L f
  have s5 := o5.size
  refine ⟨v1, st1, u1, u2, v2, st2, u3, u4, r1, r2, r3, r4, o1, o2, oA, oB, ⟨T', ⟨ins_good g hl hb hf, _, W_ins hp g f, Bw, Mo, Mk, Tw', ?_⟩, ?_, ?_⟩, fun k hk hn => o6.block k hk hn, hTK, h.tK, hR.c2⟩
  · exact {
      tb := by rw [oB6.block _ (hR.lt _ hR.tT) hTK]; exact hR.tb
      mo := by rw [hlen]; exact hR.mo.keep (oB6.block _ (hR.lt _ hR.tO) hR.ne)
      mK := by rw [hlen, show 2 * (L.length + 1) = 2 * L.length + 1 + 1 by omega]; exact m4
      wh := hR.wh.off oB6 (fun k hk e => hR.nK (by rw [← e]; exact hk))
      tT := hR.tT
      tO := hR.tO
      tK := hR.tK
      tW := hR.tW
      nT := hR.nT
      nO := hR.nO
      nK := hR.nK
      ne := hR.ne
      lt := fun k hk => Nat.lt_of_lt_of_le (hR.lt k hk) oB6.size }
  · refine (o5.trans o6).andThen oB6 (fun k hk e => ?_)
    rw [e]; exact h.tK
  · intro k hk
    rcases ht k hk with q | q
    · exact .inl q
    · exact .inr (by omega)

def AddPost (w : World) (T : Nat → Prop) (TB : Nat) (a : AddR) (e : Ending) (w' : World) : Prop :=
  e = .returned (.tuple #[.int .i64 a.id, .int .i64 a.gone, .int .i64 a.e]) ∧ FPost w T TB a.L w'
set_option maxRecDepth 100000 in
set_option maxHeartbeats 8000000 in
theorem add_any (h : TAt w T TB L) {f : Fl} (hf : FlOk f) : Calls Try.prog 9 #[.pointer (some ⟨TB, 0, none⟩), .agg (FA f)] w (AddPost w T TB (addF L f)) := by
  have h0 := h
  obtain ⟨g, W, hp, hW⟩ := h
  have hW0 := hW
  obtain ⟨Bw, Mo, Mk, Tw, hR⟩ := hW
  have b1 : Below w.heap.size w (w.alloc (.cells (FA f) 38)) := Below.al (Below.refl _ _) _
  have A1 : (w.alloc (.cells (FA f) 38)).heap[w.heap.size]? = some (.cells (FA f) 38 (0, 0)) := heap_alloc_new w _
  have cT1 := fun (W1 : World) (b : Below w.heap.size w W1) => taken_any (hR.below b) hf.op
  have cT2 := fun (W1 : World) (b : Below w.heap.size w W1) => taken_any (hR.below b) hf.bk
  rw [tak_gk] at cT1 cT2
  have ek := fun W1 => eql_ky f.op f.bk W1
  have k_i1 := Lib.hid (k_inf f.op)
  have k_i2 := Lib.hid (k_inf f.bk)
  have HOP := Lib.hid (fun (W1 : World) (hh : W1.heap[w.heap.size]? = some (.cells (FA f) 38 (0, 0))) => fa_op hh)
  have HBK := Lib.hid (fun (W1 : World) (hh : W1.heap[w.heap.size]? = some (.cells (FA f) 38 (0, 0))) => fa_bk hh)
  have HXC := Lib.hid (fun (W1 : World) (hh : W1.heap[w.heap.size]? = some (.cells (FA f) 38 (0, 0))) => fa_id hh)
  have HTL := Lib.hid hR.lt
  obtain ⟨M, hM⟩ : ∃ M, M = AddPost w T TB (addF L f) := ⟨_, rfl⟩
  rw [← hM]
  have HM := Lib.hid hM
  clear hM
  have hbad : badF L f = ((f.op == f.bk) || (takF L f.op || takF L f.bk)) := rfl
  obtain ⟨w1, hw1⟩ : ∃ x, x = w.alloc (.cells (FA f) 38) := ⟨_, rfl⟩
  rw [← hw1] at b1 A1
  have HW1 := Lib.hid hw1
  clear hw1
  have HBAD : Hid (badF L f = true → ∀ W1, Below w.heap.size w W1 → M (.returned (.tuple #[.int .i64 0, .int .i64 0, .int .i64 63])) W1) := Lib.hid (fun hb W1 b => by
    rw [HM.out]
    unfold AddPost addF
    rw [if_pos hb]
    exact ⟨rfl, FPost.same h0 b⟩)
  rcases hb : badF L f with _ | _
  · rw [hb] at hbad
    have hb3' : f.op ≠ f.bk ∧ takF L f.op = false ∧ takF L f.bk = false := bad_false hb
    have he0 : (f.op == f.bk) = false := by simpa using hb3'.1
    rw [he0] at ek
    rw [hb3'.2.1] at cT1
    rw [hb3'.2.2] at cT2
    have hn : W.length = L.length := by simpa using hp.length_eq
    have cL := fun (W1 : World) (b : Below w.heap.size w W1) => wlen_any (hR.below b).wh
    rw [hn] at cL
    have c0 := fun (W1 : World) (b : Below w.heap.size w W1) => (hR.below b).c0
    have HC0 := Lib.hid c0
    clear hbad HBAD hb3' he0 c0
    by_cases hl : L.length < 48
    · have HEND : Hid (∀ u4, FPost w T TB (insF L f) u4 → M (.returned (.tuple #[.int .i64 ((preF 0 L : Int) + 1), .int .i64 0, .int .i64 0])) u4) := Lib.hid (fun u4 h4 => by
        rw [HM.out]
        unfold AddPost addF
        rw [if_neg (by simp [hb]), if_pos hl]
        exact ⟨rfl, h4⟩)
      have hlI : ¬ (48 : Int) ≤ (L.length : Int) := by omega
      have hlD : decide ((48 : Int) ≤ (L.length : Int)) = false := decide_eq_false hlI
      have hlD2 : decide (48 ≤ L.length) = false := decide_eq_false (by omega)
      have HA := Lib.hid (fun (W1 : World) (b : Below w.heap.size w W1) => h0.below b)
      have hlN : L.length < 48 := hl
      clear h0 hW0 hR hn hp g HM
      obtain ⟨K1, hK1⟩ : ∃ K, K = KA f.op := ⟨_, rfl⟩
      obtain ⟨K2, hK2⟩ : ∃ K, K = KA f.bk := ⟨_, rfl⟩
      obtain ⟨F, hF⟩ : ∃ K, K = FA f := ⟨_, rfl⟩
      rw [← hF] at A1
      simp only [← hF, ← hK1, ← hK2] at ek k_i1 k_i2 HOP HBK HXC HW1 cT1 cT2
      have HgF := Lib.hid hF
      have HgK1 := Lib.hid hK1
      have HgK2 := Lib.hid hK2
      rw [← hF]
      clear hF hK1 hK2
      go_enter Try.func9, Try.ntmps9
      go_upto_region 1 with fail
      rw [← HW1.out]
      go_upto_region 4 with (first
        | (refine wpList_load_cells rfl 36 (.tmp 8) rfl ⟨w.heap.size, 1, none⟩ rfl K1 _ (HOP.out _ A1) Try.underlying36 rfl k_i1.out ?_)
        | (refine wpList_load_cells rfl 36 (.tmp 10) rfl ⟨w.heap.size, 8, none⟩ rfl K2 _ (HBK.out _ A1) Try.underlying36 rfl k_i2.out ?_)
        | (refine wpList_load_cells_on (by rfl) 36 (.tmp 15) rfl ⟨w.heap.size, 1, none⟩ rfl K1 _ (HOP.out _ A1) Try.underlying36 rfl k_i1.out ?_)
        | (refine wpList_load_cells_on (by rfl) 36 (.tmp 21) rfl ⟨w.heap.size, 8, none⟩ rfl K2 _ (HBK.out _ A1) Try.underlying36 rfl k_i2.out ?_)
        | ((go_at_call_of 17 (Value.agg K1)); with_reducible refine (cT1 _ b1).mono ?_; rintro e w2 ⟨rfl, bt⟩; replace A1 := blkB bt A1; replace b1 := bel_via b1 bt; clear bt)
        | ((go_at_call_of 17 (Value.agg K2)); with_reducible refine (cT2 _ b1).mono ?_; rintro e w2 ⟨rfl, bt⟩; replace A1 := blkB bt A1; replace b1 := bel_via b1 bt; clear bt)
        | fail)
      have c0 := HC0.out _ b1
      have cL' := cL _ b1
      clear cT1 cT2 cL
      go_upto_region 8 with (go_at_call 27; refine cL'.mono ?_; rintro e w9 ⟨rfl, rfl⟩)
      obtain rfl : F = FA f := HgF.out
      obtain rfl : K1 = KA f.op := HgK1.out
      obtain rfl : K2 = KA f.bk := HgK2.out
      obtain ⟨w3, hw3⟩ : ∃ x, x = w2 := ⟨_, rfl⟩
      subst hw3
      have H3 := Lib.hid (HA.out _ b1)
      have A3 := A1
      have HO3 : Hid (OffS T w _) := Lib.hid (offS_below b1)
      have hl3 := hlN
      have hb3 := hb
      clear HA c0 cL' HC0 HgF HgK1 HgK2 b1 A1 HW1 ek HOP HBK hlI hlD hlD2 hl hlN hb
      have H3o := H3.out
      obtain ⟨g3, W, hp3, Bw, Mo, Mk, Tw, h3⟩ := H3o
      have hp48 := pre_48 g3 hl3
      have cF := free_any (Bw := Bw) g3 h3.mo
      have fid : i64ok ((preF 0 L : Int) + 1) := by unfold i64ok; omega
      have c0 := h3.c0
      have c1 := h3.c1
      have HBK5 : Hid (∀ w4, Below w3.heap.size w3 w4 → TRaw (w4.setCell ⟨w.heap.size, 0, none⟩ (.int .i64 ((preF 0 L : Int) + 1))).drew T Tw TB Bw Mo Mk (goF L) L.length (gkF L) (2 * L.length) W ∧ OffS T w (w4.setCell ⟨w.heap.size, 0, none⟩ (.int .i64 ((preF 0 L : Int) + 1))).drew) := Lib.hid (fun w4 b4 => by
        have oo : OffS (fun k => k = w.heap.size) w4 (w4.setCell ⟨w.heap.size, 0, none⟩ (.int .i64 ((preF 0 L : Int) + 1))).drew := (offS_set (S := fun k => k = w.heap.size) (OffS.refl _ _) rfl 0 _).dr
        exact ⟨(h3.below b4).off oo (fun k hk e => by have := HTL.out k hk; omega), (HO3.out.trans (offS_below b4)).andThen oo (fun k hk e => by omega)⟩)
      have HP := Lib.hid (fun (w5 : World) (h5 : TRaw w5 T Tw TB Bw Mo Mk (goF L) L.length (gkF L) (2 * L.length) W) => put_any h5 (by omega) (f := { f with id := (preF 0 L : Int) + 1 }) fid)
      have HF := Lib.hid (fun (w5 w6 : World) (h5 : TRaw w5 T Tw TB Bw Mo Mk (goF L) L.length (gkF L) (2 * L.length) W) (o5 : OffS T w w5) (hP : PutPost w5 T TB Bw Mo Mk (goF L) L.length (gkF L) (2 * L.length) W { f with id := (preF 0 L : Int) + 1 } w6) => add_fin g3 hp3 hl3 hb3 hf h5 o5 hP)
      have HND := Lib.hid (HEND.out)
      have HNT : Hid (¬ T w.heap.size) := Lib.hid (fun hk => by have := HTL.out _ hk; omega)
      have HTT : Hid (T TB) := Lib.hid h3.tT
      clear h3 hp3 g3 hl3 hb3 H3 HEND hp48 fid
      generalize (preF 0 L : Int) = p at *
      have q0 := fun (W1 : World) (hh : W1.heap[w.heap.size]? = some (.cells (FA f) 38 (0, 0))) => fa_setid hh (p + 1)
      have q1 := fun (W1 : World) (hh : W1.heap[w.heap.size]? = some (.cells (FA { f with id := p + 1 }) 38 (0, 0))) => fa_id hh
      have q2 := fun (W1 : World) (hh : W1.heap[w.heap.size]? = some (.cells (FA { f with id := p + 1 }) 38 (0, 0))) => fa_op hh
      have q3 := fun (W1 : World) (hh : W1.heap[w.heap.size]? = some (.cells (FA { f with id := p + 1 }) 38 (0, 0))) => fa_bk hh
      have f_i2 := Lib.hid (f_inf { f with id := p + 1 })
      simp only at q1 q2 q3
      have HSID := Lib.hid q0
      have HIDC := Lib.hid q1
      have HOPN := Lib.hid q2
      have HBCK := Lib.hid q3
      clear q0 q1 q2 q3 hf
      generalize hF1 : FA f = F at *
      generalize hF2 : FA { f with id := p + 1 } = F2 at *
      generalize hK1 : KA f.op = K1 at *
      generalize hK2 : KA f.bk = K2 at *
      clear hF1 hF2 hK1 hK2
      go_upto_region 9 with (go_at_call 29; refine cF.mono ?_; rintro e w4 ⟨rfl, b4⟩; have A4 := blkB b4 A3; have x0 : ∃ u, w4.cell? ⟨w.heap.size, 0, none⟩ = some u := ⟨_, HXC.out _ A4⟩; obtain ⟨u0, x0⟩ := x0; have x1 := free_of A4 0)
      have A5 := HSID.out _ A4
      obtain ⟨h5, o5⟩ := HBK5.out _ b4
      obtain ⟨w5, hw5⟩ : ∃ x, x = w4.setCell ⟨w.heap.size, 0, none⟩ (.int .i64 (p + 1)) := ⟨_, rfl⟩
      rw [← hw5] at A5 h5 o5 ⊢
      clear hw5 x0 x1 A4 A3 b4 cF c0 c1
      have d0 : w5.cell? ⟨TB, 0, none⟩ = _ := h5.c0
      have d1 : w5.cell? ⟨TB, 1, none⟩ = _ := h5.c1
      have d2 : ∀ j v, F2.toList[j]? = some v → w5.drew.cell? ((⟨w.heap.size, 0, none⟩ : Addr).add j) = some v := fa_all A5
      have cP := HP.out _ h5
      have hTBl : w5.drew.heap.size = w5.drew.heap.size := rfl
      have l5 : w.heap.size < w5.drew.heap.size := blk_lt A5
      have H5 := Lib.hid h5
      have O5 := Lib.hid o5
      clear h5 o5
      refine wp_region_still_tail 5 (by kernel_rfl) (by kernel_rfl) ?_
      simp only [List.take_succ_cons, List.take_zero, List.drop_succ_cons, List.drop_zero]
      repeat (first | (refine still_load_cells (by rfl) 38 (.tmp 3) rfl ⟨w.heap.size, 0, none⟩ rfl F2 _ d2 Try.underlying38 rfl f_i2.out ?_; try simp only [Act.put, List.setIfInBounds_toArray, List.set_cons_zero, List.set_cons_succ]) | still_step)
      try refine wpStill_nil ?_
      change wpList _ _ _ _ _ w5.drew
      clear d0 d1 d2
      go_upto_region 10 with (go_at_call 30; refine cP.mono ?_; rintro e w6 ⟨rfl, h6⟩)
      obtain ⟨v1, st1, u1, u2, v2, st2, u3, u4, r1, r2, r3, r4, o1, o2, o3, o4, hPost, hkeep, hTBM, hTM, ct⟩ := HF.out _ _ H5.out O5.out h6
      have A6 : w6.drew.heap[w.heap.size]? = some (.cells F2 38 (0, 0)) := (hkeep _ l5 HNT.out).trans A5
      have nB : w.heap.size ≠ Mk := fun e => HNT.out (by rw [e]; exact hTM)
      have hTl : TB < w6.drew.heap.size := World.block_lt_of_cell? w6.drew _ ct
      have l6 : w.heap.size < w6.drew.heap.size := blk_lt A6
      have mk1 : ∀ u, OffS (fun j => j = Mk) w6.drew u → u.cell? ⟨TB, 2, none⟩ = some (.map (some Mk)) ∧ u.heap[w.heap.size]? = some (.cells F2 38 (0, 0)) := fun u o => ⟨(World.cell?_of_block (o.block _ hTl hTBM)).trans ct, (o.block _ l6 nB).trans A6⟩
      have hS0 : w6.drew.cell? ⟨TB, 2, none⟩ = some (.map (some Mk)) ∧ w6.drew.heap[w.heap.size]? = some (.cells F2 38 (0, 0)) := ⟨ct, A6⟩
      have hS1 := mk1 _ o1
      have hS2 := mk1 _ o2
      have hS3 := mk1 _ o3
      have hS4 := mk1 _ o4
      have HPO := Lib.hid hPost
      clear mk1 o1 o2 o3 o4 hPost hkeep hTBM hTM ct A6 nB hTl l6 h6 cP H5 O5 A5 HF HP HBK5
      refine wp_region_held_drew (S := fun W1 : World => W1.cell? ⟨TB, 2, none⟩ = some (.map (some Mk)) ∧ W1.heap[w.heap.size]? = some (.cells F2 38 (0, 0))) (by kernel_rfl) hS0 (fun hH => ?_)
      clear hS0
      generalize w6.drew = wd at *
      refine wpAnyH_take (i := 0) (oi := ⟨some 50, _, _, _, _, _⟩) (v := .pointer (some ⟨TB, 0, none⟩)) rfl (by kernel_rfl) (by kernel_rfl) (by kernel_rfl) (fun _ _ _ h => h) (.inl ⟨by rfl, fun W hW => by go_simp⟩) hH ?_
      try simp only [Act.put, List.setIfInBounds_toArray, List.set_cons_zero, List.set_cons_succ]
      refine wpAnyH_take (i := 1) (oi := ⟨some 51, _, _, _, _, _⟩) (v := .pointer (some ⟨TB, 0, none⟩)) rfl (by kernel_rfl) (by kernel_rfl) (by kernel_rfl) (fun _ _ _ h => h) (.inl ⟨by rfl, fun W hW => by go_simp⟩) hH ?_
      try simp only [Act.put, List.setIfInBounds_toArray, List.set_cons_zero, List.set_cons_succ]
      refine wpAnyH_take (i := 2) (oi := ⟨some 52, _, _, _, _, _⟩) (v := .pointer (some ⟨TB, 2, none⟩)) rfl (by kernel_rfl) (by kernel_rfl) (by kernel_rfl) (fun _ _ _ h => h) (.inl ⟨by rfl, fun W hW => by go_simp⟩) hH ?_
      try simp only [Act.put, List.setIfInBounds_toArray, List.set_cons_zero, List.set_cons_succ]
      refine wpAnyH_take (i := 3) (oi := ⟨some 53, _, _, _, _, _⟩) (v := .map (some Mk)) rfl (by kernel_rfl) (by kernel_rfl) (by kernel_rfl) (fun _ _ _ h => h) (.inl ⟨by rfl, fun W hW => by have h := hW.1; go_simp⟩) hH ?_
      try simp only [Act.put, List.setIfInBounds_toArray, List.set_cons_zero, List.set_cons_succ]
      refine wpAnyH_take (i := 4) (oi := ⟨some 54, _, _, _, _, _⟩) (v := .pointer (some ⟨w.heap.size, 1, none⟩)) rfl (by kernel_rfl) (by kernel_rfl) (by kernel_rfl) (fun _ _ _ h => h) (.inl ⟨by rfl, fun W hW => by go_simp⟩) hH ?_
      try simp only [Act.put, List.setIfInBounds_toArray, List.set_cons_zero, List.set_cons_succ]
      refine wpAnyH_take (i := 5) (oi := ⟨some 55, _, _, _, _, _⟩) (v := .agg K1) rfl (by kernel_rfl) (by kernel_rfl) (by kernel_rfl) (fun _ _ _ h => h) (yields_cells (by rfl) 36 _ rfl ⟨w.heap.size, 1, none⟩ rfl K1 _ (fun W hW => HOPN.out W hW.2) Try.underlying36 rfl k_i1.out) hH ?_
      try simp only [Act.put, List.setIfInBounds_toArray, List.set_cons_zero, List.set_cons_succ]
      refine wpAnyH_take (i := 6) (oi := ⟨some 56, _, _, _, _, _⟩) (v := .pointer (some ⟨TB, 0, none⟩)) rfl (by kernel_rfl) (by kernel_rfl) (by kernel_rfl) (fun _ _ _ h => h) (.inl ⟨by rfl, fun W hW => by go_simp⟩) hH ?_
      try simp only [Act.put, List.setIfInBounds_toArray, List.set_cons_zero, List.set_cons_succ]
      refine wpAnyH_take (i := 7) (oi := ⟨some 57, _, _, _, _, _⟩) (v := .pointer (some ⟨TB, 0, none⟩)) rfl (by kernel_rfl) (by kernel_rfl) (by kernel_rfl) (fun _ _ _ h => h) (.inl ⟨by rfl, fun W hW => by go_simp⟩) hH ?_
      try simp only [Act.put, List.setIfInBounds_toArray, List.set_cons_zero, List.set_cons_succ]
      refine wpAnyH_take (i := 8) (oi := ⟨some 58, _, _, _, _, _⟩) (v := .pointer (some ⟨TB, 2, none⟩)) rfl (by kernel_rfl) (by kernel_rfl) (by kernel_rfl) (fun _ _ _ h => h) (.inl ⟨by rfl, fun W hW => by go_simp⟩) hH ?_
      try simp only [Act.put, List.setIfInBounds_toArray, List.set_cons_zero, List.set_cons_succ]
      refine wpAnyH_take (i := 9) (oi := ⟨some 59, _, _, _, _, _⟩) (v := .map (some Mk)) rfl (by kernel_rfl) (by kernel_rfl) (by kernel_rfl) (fun _ _ _ h => h) (.inl ⟨by rfl, fun W hW => by have h := hW.1; go_simp⟩) hH ?_
      try simp only [Act.put, List.setIfInBounds_toArray, List.set_cons_zero, List.set_cons_succ]
      refine wpAnyH_take (i := 10) (oi := ⟨some 60, _, _, _, _, _⟩) (v := .pointer (some ⟨w.heap.size, 8, none⟩)) rfl (by kernel_rfl) (by kernel_rfl) (by kernel_rfl) (fun _ _ _ h => h) (.inl ⟨by rfl, fun W hW => by go_simp⟩) hH ?_
      try simp only [Act.put, List.setIfInBounds_toArray, List.set_cons_zero, List.set_cons_succ]
      refine wpAnyH_take (i := 11) (oi := ⟨some 61, _, _, _, _, _⟩) (v := .agg K2) rfl (by kernel_rfl) (by kernel_rfl) (by kernel_rfl) (fun _ _ _ h => h) (yields_cells (by rfl) 36 _ rfl ⟨w.heap.size, 8, none⟩ rfl K2 _ (fun W hW => HBCK.out W hW.2) Try.underlying36 rfl k_i2.out) hH ?_
      try simp only [Act.put, List.setIfInBounds_toArray, List.set_cons_zero, List.set_cons_succ]
      refine wpAnyH_take (i := 12) (oi := ⟨some 62, _, _, _, _, _⟩) (v := .pointer (some ⟨w.heap.size, 0, none⟩)) rfl (by kernel_rfl) (by kernel_rfl) (by kernel_rfl) (fun _ _ _ h => h) (.inl ⟨by rfl, fun W hW => by go_simp⟩) hH ?_
      try simp only [Act.put, List.setIfInBounds_toArray, List.set_cons_zero, List.set_cons_succ]
      refine wpAnyH_take (i := 13) (oi := ⟨some 63, _, _, _, _, _⟩) (v := .int .i64 (p + 1)) rfl (by kernel_rfl) (by kernel_rfl) (by kernel_rfl) (fun _ _ _ h => h) (.inl ⟨by rfl, fun W hW => by have h := HIDC.out W hW.2; go_simp⟩) hH ?_
      try simp only [Act.put, List.setIfInBounds_toArray, List.set_cons_zero, List.set_cons_succ]
      refine wpAnyH_take (i := 14) (oi := ⟨some 64, _, _, _, _, _⟩) (v := .pointer (some ⟨w.heap.size, 0, none⟩)) rfl (by kernel_rfl) (by kernel_rfl) (by kernel_rfl) (fun _ _ _ h => h) (.inl ⟨by rfl, fun W hW => by go_simp⟩) hH ?_
      try simp only [Act.put, List.setIfInBounds_toArray, List.set_cons_zero, List.set_cons_succ]
      refine wpAnyH_take (i := 15) (oi := ⟨some 65, _, _, _, _, _⟩) (v := .int .i64 (p + 1)) rfl (by kernel_rfl) (by kernel_rfl) (by kernel_rfl) (fun _ _ _ h => h) (.inl ⟨by rfl, fun W hW => by have h := HIDC.out W hW.2; go_simp⟩) hH ?_
      try simp only [Act.put, List.setIfInBounds_toArray, List.set_cons_zero, List.set_cons_succ]
      refine wpAnyH_ready (rs := [16]) (by kernel_rfl) (by simp) ?_
      refine AllReadyH.cons (o := ⟨some 66, _, _, _, _, _⟩) rfl (fun K hK => ?_) AllReadyH.nil
      go_simp
      refine hK.out _ _ hS1 (fun _ => ?_)
      clear hK K
      try simp only [Act.put, List.setIfInBounds_toArray, List.set_cons_zero, List.set_cons_succ]
      refine wpAnyH_ready (rs := [17]) (by kernel_rfl) (by simp) ?_
      refine AllReadyH.cons (o := ⟨some 67, _, _, _, _, _⟩) rfl (fun K hK => ?_) AllReadyH.nil
      go_simp
      refine hK.out _ _ hS1 (fun _ => ?_)
      clear hK K
      try simp only [Act.put, List.setIfInBounds_toArray, List.set_cons_zero, List.set_cons_succ]
      refine wpAnyH_ready (rs := [18]) (by kernel_rfl) (by simp) ?_
      refine AllReadyH.cons (o := ⟨none, _, _, _, _, _⟩) rfl (fun K hK => ?_) AllReadyH.nil
      go_simp
      refine hK.out _ _ hS2 (fun _ => ?_)
      clear hK K
      try simp only [Act.put, List.setIfInBounds_toArray, List.set_cons_zero, List.set_cons_succ]
      refine wpAnyH_ready (rs := [19]) (by kernel_rfl) (by simp) ?_
      refine AllReadyH.cons (o := ⟨some 68, _, _, _, _, _⟩) rfl (fun K hK => ?_) AllReadyH.nil
      go_simp
      refine hK.out _ _ hS3 (fun _ => ?_)
      clear hK K
      try simp only [Act.put, List.setIfInBounds_toArray, List.set_cons_zero, List.set_cons_succ]
      refine wpAnyH_ready (rs := [20]) (by kernel_rfl) (by simp) ?_
      refine AllReadyH.cons (o := ⟨some 69, _, _, _, _, _⟩) rfl (fun K hK => ?_) AllReadyH.nil
      go_simp
      refine hK.out _ _ hS3 (fun _ => ?_)
      clear hK K
      try simp only [Act.put, List.setIfInBounds_toArray, List.set_cons_zero, List.set_cons_succ]
      refine wpAnyH_ready (rs := [21]) (by kernel_rfl) (by simp) ?_
      refine AllReadyH.cons (o := ⟨none, _, _, _, _, _⟩) rfl (fun K hK => ?_) AllReadyH.nil
      go_simp
      refine hK.out _ _ hS4 (fun _ => ?_)
      clear hK K
      try simp only [Act.put, List.setIfInBounds_toArray, List.set_cons_zero, List.set_cons_succ]
      refine wpAnyH_done (by kernel_rfl) ?_ _
      have z0 := HIDC.out _ hS4.2
      clear hS1 hS2 hS3 r1 r2 r3 r4
      go_wp2_with fail
      simp [bodyPost, results, Try.results9, go_sem]
      exact HND.out _ HPO.out
    · have hl48 : L.length = 48 := by have := g.ln; omega
      have hlI : (48 : Int) ≤ (L.length : Int) := by omega
      have hlD : decide ((48 : Int) ≤ (L.length : Int)) = true := decide_eq_true hlI
      have hlD2 : decide (48 ≤ L.length) = true := decide_eq_true (by omega)
      have cK := fun (W1 : World) (b : Below w.heap.size w W1) => weakest_any g (hW0.below b)
      obtain ⟨K1, hK1⟩ : ∃ K, K = KA f.op := ⟨_, rfl⟩
      obtain ⟨K2, hK2⟩ : ∃ K, K = KA f.bk := ⟨_, rfl⟩
      obtain ⟨F, hF⟩ : ∃ K, K = FA f := ⟨_, rfl⟩
      rw [← hF] at A1
      simp only [← hF, ← hK1, ← hK2] at ek k_i1 k_i2 HOP HBK HXC HW1 cT1 cT2
      have HgF := Lib.hid hF
      have HgK1 := Lib.hid hK1
      have HgK2 := Lib.hid hK2
      rw [← hF]
      clear hF hK1 hK2
      rcases hwk : weakF L with _ | x
      · have cD := fun (W1 : World) (b : Below w.heap.size w W1) => drop_any (h0.below b) (id := 0) (by unfold i64ok; omega)
        have hno : hasF L 0 = false := by
          rw [Bool.eq_false_iff]
          intro hh
          obtain ⟨y, hy, he⟩ := List.any_eq_true.1 hh
          have he : y.id = 0 := by simpa using he
          have := (g.lo y hy).1
          omega
        rw [hno, rem_no hno] at cD
        simp only [hwk, wid] at cK
        have HFULL : Hid (∀ W1 W2, Below w.heap.size w W1 → TAt W2 T TB L → OffS T W1 W2 → M (.returned (.tuple #[.int .i64 0, .int .i64 0, .int .i64 120])) W2) := Lib.hid (fun W1 W2 b h2 o2 => by
          rw [HM.out]
          unfold AddPost addF
          rw [if_neg (by simp [hb]), if_neg hl, hwk]
          exact ⟨rfl, T, h2, (offS_below b).trans o2, fun k hk => .inl hk⟩)
        have HK := Lib.hid cK
        have HD := Lib.hid cD
        clear h0 hW0 hR hn hp g HM cK cD hno hwk hl48 hl hf hb
        go_enter Try.func9, Try.ntmps9
        go_upto_region 1 with fail
        rw [← HW1.out]
        go_upto_region 4 with (first
          | (refine wpList_load_cells rfl 36 (.tmp 8) rfl ⟨w.heap.size, 1, none⟩ rfl K1 _ (HOP.out _ A1) Try.underlying36 rfl k_i1.out ?_)
          | (refine wpList_load_cells rfl 36 (.tmp 10) rfl ⟨w.heap.size, 8, none⟩ rfl K2 _ (HBK.out _ A1) Try.underlying36 rfl k_i2.out ?_)
          | (refine wpList_load_cells_on (by rfl) 36 (.tmp 15) rfl ⟨w.heap.size, 1, none⟩ rfl K1 _ (HOP.out _ A1) Try.underlying36 rfl k_i1.out ?_)
          | (refine wpList_load_cells_on (by rfl) 36 (.tmp 21) rfl ⟨w.heap.size, 8, none⟩ rfl K2 _ (HBK.out _ A1) Try.underlying36 rfl k_i2.out ?_)
          | ((go_at_call_of 17 (Value.agg K1)); with_reducible refine (cT1 _ b1).mono ?_; rintro e w2 ⟨rfl, bt⟩; replace A1 := blkB bt A1; replace b1 := bel_via b1 bt; clear bt)
          | ((go_at_call_of 17 (Value.agg K2)); with_reducible refine (cT2 _ b1).mono ?_; rintro e w2 ⟨rfl, bt⟩; replace A1 := blkB bt A1; replace b1 := bel_via b1 bt; clear bt)
          | fail)
        have c0 := HC0.out _ b1
        have cL' := cL _ b1
        clear cT1 cT2 cL
        generalize L.length = nl at *
        go_wp2_with (first
          | (go_at_call 27; refine cL'.mono ?_; rintro e w9 ⟨rfl, rfl⟩)
          | (go_at_call 28; refine (HK.out _ b1).mono ?_; rintro e w4 ⟨rfl, b4⟩; replace b1 := bel_via b1 b4)
          | (go_at_call 16; refine (HD.out _ b1).mono ?_; rintro e w5 ⟨rfl, h5, o5⟩))
        simp [bodyPost, results, Try.results9, go_sem]
        exact HFULL.out _ _ b1 h5 o5
      · have hxm := (weak_mem hwk).1
        have hxl := g.lo x hxm
        have cD := fun (W1 : World) (b : Below w.heap.size w W1) => drop_any (h0.below b) (id := x.id) (by unfold i64ok; omega)
        have hyes : hasF L x.id = true := List.any_eq_true.2 ⟨x, hxm, by simp⟩
        rw [hyes] at cD
        simp only [hwk, wid] at cK
        have hrl := rem_len g hxm
        have hb3 := bad_rem hb x.id
        have HEND : Hid (∀ u4, FPost w T TB (insF (remF L x.id) f) u4 → M (.returned (.tuple #[.int .i64 ((preF 0 (remF L x.id) : Int) + 1), .int .i64 x.id, .int .i64 0])) u4) := Lib.hid (fun u4 h4 => by
          rw [HM.out]
          unfold AddPost addF
          rw [if_neg (by simp [hb]), if_neg hl, hwk]
          exact ⟨rfl, h4⟩)
        obtain ⟨gone, hgone⟩ : ∃ n, n = x.id := ⟨_, rfl⟩
        rw [← hgone] at cK cD hb3 HEND hrl
        obtain ⟨LR, hLR⟩ : ∃ n, n = remF L gone := ⟨_, rfl⟩
        rw [← hLR] at hb3 HEND hrl
        simp only [← hLR] at cD
        have hl3 : LR.length < 48 := by omega
        have HK := Lib.hid cK
        have HD := Lib.hid cD
        clear h0 hW0 hR hn hp g HM cK cD hyes hwk hl48 hl hxm hxl hgone hLR hrl hb
        go_enter Try.func9, Try.ntmps9
        go_upto_region 1 with fail
        rw [← HW1.out]
        go_upto_region 4 with (first
          | (refine wpList_load_cells rfl 36 (.tmp 8) rfl ⟨w.heap.size, 1, none⟩ rfl K1 _ (HOP.out _ A1) Try.underlying36 rfl k_i1.out ?_)
          | (refine wpList_load_cells rfl 36 (.tmp 10) rfl ⟨w.heap.size, 8, none⟩ rfl K2 _ (HBK.out _ A1) Try.underlying36 rfl k_i2.out ?_)
          | (refine wpList_load_cells_on (by rfl) 36 (.tmp 15) rfl ⟨w.heap.size, 1, none⟩ rfl K1 _ (HOP.out _ A1) Try.underlying36 rfl k_i1.out ?_)
          | (refine wpList_load_cells_on (by rfl) 36 (.tmp 21) rfl ⟨w.heap.size, 8, none⟩ rfl K2 _ (HBK.out _ A1) Try.underlying36 rfl k_i2.out ?_)
          | ((go_at_call_of 17 (Value.agg K1)); with_reducible refine (cT1 _ b1).mono ?_; rintro e w2 ⟨rfl, bt⟩; replace A1 := blkB bt A1; replace b1 := bel_via b1 bt; clear bt)
          | ((go_at_call_of 17 (Value.agg K2)); with_reducible refine (cT2 _ b1).mono ?_; rintro e w2 ⟨rfl, bt⟩; replace A1 := blkB bt A1; replace b1 := bel_via b1 bt; clear bt)
          | fail)
        have c0 := HC0.out _ b1
        have cL' := cL _ b1
        clear cT1 cT2 cL
        generalize L.length = nl at *
        go_upto_region 8 with (first
          | (go_at_call 27; refine cL'.mono ?_; rintro e w9 ⟨rfl, rfl⟩)
          | (go_at_call 28; refine (HK.out _ b1).mono ?_; rintro e w4 ⟨rfl, b4⟩; replace b1 := bel_via b1 b4; replace A1 := blkB b4 A1)
          | (go_at_call 16; refine (HD.out _ b1).mono ?_; rintro e w3 ⟨rfl, h5, o5⟩))
        obtain rfl : F = FA f := HgF.out
        obtain rfl : K1 = KA f.op := HgK1.out
        obtain rfl : K2 = KA f.bk := HgK2.out
        have H3 := Lib.hid h5
        have A3 : w3.heap[w.heap.size]? = some (.cells (FA f) 38 (0, 0)) := (o5.block _ (blk_lt A1) (fun hk => by have := HTL.out _ hk; omega)).trans A1
        have HO3 : Hid (OffS T w w3) := Lib.hid ((offS_below b1).trans o5)
        clear HK HD h5 o5 b4 c0 cL' HC0 HgF HgK1 HgK2 b1 A1 HW1 ek HOP HBK hlI hlD hlD2
        have H3o := H3.out
        obtain ⟨g3, W, hp3, Bw, Mo, Mk, Tw, h3⟩ := H3o
        have hp48 := pre_48 g3 hl3
        have cF := free_any (Bw := Bw) g3 h3.mo
        have fid : i64ok ((preF 0 LR : Int) + 1) := by unfold i64ok; omega
        have c0 := h3.c0
        have c1 := h3.c1
        have HBK5 : Hid (∀ w4, Below w3.heap.size w3 w4 → TRaw (w4.setCell ⟨w.heap.size, 0, none⟩ (.int .i64 ((preF 0 LR : Int) + 1))).drew T Tw TB Bw Mo Mk (goF LR) LR.length (gkF LR) (2 * LR.length) W ∧ OffS T w (w4.setCell ⟨w.heap.size, 0, none⟩ (.int .i64 ((preF 0 LR : Int) + 1))).drew) := Lib.hid (fun w4 b4 => by
          have oo : OffS (fun k => k = w.heap.size) w4 (w4.setCell ⟨w.heap.size, 0, none⟩ (.int .i64 ((preF 0 LR : Int) + 1))).drew := (offS_set (S := fun k => k = w.heap.size) (OffS.refl _ _) rfl 0 _).dr
          exact ⟨(h3.below b4).off oo (fun k hk e => by have := HTL.out k hk; omega), (HO3.out.trans (offS_below b4)).andThen oo (fun k hk e => by omega)⟩)
        have HP := Lib.hid (fun (w5 : World) (h5 : TRaw w5 T Tw TB Bw Mo Mk (goF LR) LR.length (gkF LR) (2 * LR.length) W) => put_any h5 (by omega) (f := { f with id := (preF 0 LR : Int) + 1 }) fid)
        have HF := Lib.hid (fun (w5 w6 : World) (h5 : TRaw w5 T Tw TB Bw Mo Mk (goF LR) LR.length (gkF LR) (2 * LR.length) W) (o5 : OffS T w w5) (hP : PutPost w5 T TB Bw Mo Mk (goF LR) LR.length (gkF LR) (2 * LR.length) W { f with id := (preF 0 LR : Int) + 1 } w6) => add_fin g3 hp3 hl3 hb3 hf h5 o5 hP)
        have HND := Lib.hid (HEND.out)
        have HNT : Hid (¬ T w.heap.size) := Lib.hid (fun hk => by have := HTL.out _ hk; omega)
        have HTT : Hid (T TB) := Lib.hid h3.tT
        clear h3 hp3 g3 hl3 hb3 H3 HEND hp48 fid
        generalize (preF 0 LR : Int) = p at *
        have q0 := fun (W1 : World) (hh : W1.heap[w.heap.size]? = some (.cells (FA f) 38 (0, 0))) => fa_setid hh (p + 1)
        have q1 := fun (W1 : World) (hh : W1.heap[w.heap.size]? = some (.cells (FA { f with id := p + 1 }) 38 (0, 0))) => fa_id hh
        have q2 := fun (W1 : World) (hh : W1.heap[w.heap.size]? = some (.cells (FA { f with id := p + 1 }) 38 (0, 0))) => fa_op hh
        have q3 := fun (W1 : World) (hh : W1.heap[w.heap.size]? = some (.cells (FA { f with id := p + 1 }) 38 (0, 0))) => fa_bk hh
        have f_i2 := Lib.hid (f_inf { f with id := p + 1 })
        simp only at q1 q2 q3
        have HSID := Lib.hid q0
        have HIDC := Lib.hid q1
        have HOPN := Lib.hid q2
        have HBCK := Lib.hid q3
        clear q0 q1 q2 q3 hf
        generalize hF1 : FA f = F at *
        generalize hF2 : FA { f with id := p + 1 } = F2 at *
        generalize hK1 : KA f.op = K1 at *
        generalize hK2 : KA f.bk = K2 at *
        clear hF1 hF2 hK1 hK2
        go_upto_region 9 with (go_at_call 29; refine cF.mono ?_; rintro e w4 ⟨rfl, b4⟩; have A4 := blkB b4 A3; have x0 : ∃ u, w4.cell? ⟨w.heap.size, 0, none⟩ = some u := ⟨_, HXC.out _ A4⟩; obtain ⟨u0, x0⟩ := x0; have x1 := free_of A4 0)
        have A5 := HSID.out _ A4
        obtain ⟨h5, o5⟩ := HBK5.out _ b4
        obtain ⟨w5, hw5⟩ : ∃ x, x = w4.setCell ⟨w.heap.size, 0, none⟩ (.int .i64 (p + 1)) := ⟨_, rfl⟩
        rw [← hw5] at A5 h5 o5 ⊢
        clear hw5 x0 x1 A4 A3 b4 cF c0 c1
        have d0 : w5.cell? ⟨TB, 0, none⟩ = _ := h5.c0
        have d1 : w5.cell? ⟨TB, 1, none⟩ = _ := h5.c1
        have d2 : ∀ j v, F2.toList[j]? = some v → w5.drew.cell? ((⟨w.heap.size, 0, none⟩ : Addr).add j) = some v := fa_all A5
        have cP := HP.out _ h5
        have hTBl : w5.drew.heap.size = w5.drew.heap.size := rfl
        have l5 : w.heap.size < w5.drew.heap.size := blk_lt A5
        have H5 := Lib.hid h5
        have O5 := Lib.hid o5
        clear h5 o5
        refine wp_region_still_tail 5 (by kernel_rfl) (by kernel_rfl) ?_
        simp only [List.take_succ_cons, List.take_zero, List.drop_succ_cons, List.drop_zero]
        repeat (first | (refine still_load_cells (by rfl) 38 (.tmp 3) rfl ⟨w.heap.size, 0, none⟩ rfl F2 _ d2 Try.underlying38 rfl f_i2.out ?_; try simp only [Act.put, List.setIfInBounds_toArray, List.set_cons_zero, List.set_cons_succ]) | still_step)
        try refine wpStill_nil ?_
        change wpList _ _ _ _ _ w5.drew
        clear d0 d1 d2
        go_upto_region 10 with (go_at_call 30; refine cP.mono ?_; rintro e w6 ⟨rfl, h6⟩)
        obtain ⟨v1, st1, u1, u2, v2, st2, u3, u4, r1, r2, r3, r4, o1, o2, o3, o4, hPost, hkeep, hTBM, hTM, ct⟩ := HF.out _ _ H5.out O5.out h6
        have A6 : w6.drew.heap[w.heap.size]? = some (.cells F2 38 (0, 0)) := (hkeep _ l5 HNT.out).trans A5
        have nB : w.heap.size ≠ Mk := fun e => HNT.out (by rw [e]; exact hTM)
        have hTl : TB < w6.drew.heap.size := World.block_lt_of_cell? w6.drew _ ct
        have l6 : w.heap.size < w6.drew.heap.size := blk_lt A6
        have mk1 : ∀ u, OffS (fun j => j = Mk) w6.drew u → u.cell? ⟨TB, 2, none⟩ = some (.map (some Mk)) ∧ u.heap[w.heap.size]? = some (.cells F2 38 (0, 0)) := fun u o => ⟨(World.cell?_of_block (o.block _ hTl hTBM)).trans ct, (o.block _ l6 nB).trans A6⟩
        have hS0 : w6.drew.cell? ⟨TB, 2, none⟩ = some (.map (some Mk)) ∧ w6.drew.heap[w.heap.size]? = some (.cells F2 38 (0, 0)) := ⟨ct, A6⟩
        have hS1 := mk1 _ o1
        have hS2 := mk1 _ o2
        have hS3 := mk1 _ o3
        have hS4 := mk1 _ o4
        have HPO := Lib.hid hPost
        clear mk1 o1 o2 o3 o4 hPost hkeep hTBM hTM ct A6 nB hTl l6 h6 cP H5 O5 A5 HF HP HBK5
        refine wp_region_held_drew (S := fun W1 : World => W1.cell? ⟨TB, 2, none⟩ = some (.map (some Mk)) ∧ W1.heap[w.heap.size]? = some (.cells F2 38 (0, 0))) (by kernel_rfl) hS0 (fun hH => ?_)
        clear hS0
        generalize w6.drew = wd at *
        refine wpAnyH_take (i := 0) (oi := ⟨some 50, _, _, _, _, _⟩) (v := .pointer (some ⟨TB, 0, none⟩)) rfl (by kernel_rfl) (by kernel_rfl) (by kernel_rfl) (fun _ _ _ h => h) (.inl ⟨by rfl, fun W hW => by go_simp⟩) hH ?_
        try simp only [Act.put, List.setIfInBounds_toArray, List.set_cons_zero, List.set_cons_succ]
        refine wpAnyH_take (i := 1) (oi := ⟨some 51, _, _, _, _, _⟩) (v := .pointer (some ⟨TB, 0, none⟩)) rfl (by kernel_rfl) (by kernel_rfl) (by kernel_rfl) (fun _ _ _ h => h) (.inl ⟨by rfl, fun W hW => by go_simp⟩) hH ?_
        try simp only [Act.put, List.setIfInBounds_toArray, List.set_cons_zero, List.set_cons_succ]
        refine wpAnyH_take (i := 2) (oi := ⟨some 52, _, _, _, _, _⟩) (v := .pointer (some ⟨TB, 2, none⟩)) rfl (by kernel_rfl) (by kernel_rfl) (by kernel_rfl) (fun _ _ _ h => h) (.inl ⟨by rfl, fun W hW => by go_simp⟩) hH ?_
        try simp only [Act.put, List.setIfInBounds_toArray, List.set_cons_zero, List.set_cons_succ]
        refine wpAnyH_take (i := 3) (oi := ⟨some 53, _, _, _, _, _⟩) (v := .map (some Mk)) rfl (by kernel_rfl) (by kernel_rfl) (by kernel_rfl) (fun _ _ _ h => h) (.inl ⟨by rfl, fun W hW => by have h := hW.1; go_simp⟩) hH ?_
        try simp only [Act.put, List.setIfInBounds_toArray, List.set_cons_zero, List.set_cons_succ]
        refine wpAnyH_take (i := 4) (oi := ⟨some 54, _, _, _, _, _⟩) (v := .pointer (some ⟨w.heap.size, 1, none⟩)) rfl (by kernel_rfl) (by kernel_rfl) (by kernel_rfl) (fun _ _ _ h => h) (.inl ⟨by rfl, fun W hW => by go_simp⟩) hH ?_
        try simp only [Act.put, List.setIfInBounds_toArray, List.set_cons_zero, List.set_cons_succ]
        refine wpAnyH_take (i := 5) (oi := ⟨some 55, _, _, _, _, _⟩) (v := .agg K1) rfl (by kernel_rfl) (by kernel_rfl) (by kernel_rfl) (fun _ _ _ h => h) (yields_cells (by rfl) 36 _ rfl ⟨w.heap.size, 1, none⟩ rfl K1 _ (fun W hW => HOPN.out W hW.2) Try.underlying36 rfl k_i1.out) hH ?_
        try simp only [Act.put, List.setIfInBounds_toArray, List.set_cons_zero, List.set_cons_succ]
        refine wpAnyH_take (i := 6) (oi := ⟨some 56, _, _, _, _, _⟩) (v := .pointer (some ⟨TB, 0, none⟩)) rfl (by kernel_rfl) (by kernel_rfl) (by kernel_rfl) (fun _ _ _ h => h) (.inl ⟨by rfl, fun W hW => by go_simp⟩) hH ?_
        try simp only [Act.put, List.setIfInBounds_toArray, List.set_cons_zero, List.set_cons_succ]
        refine wpAnyH_take (i := 7) (oi := ⟨some 57, _, _, _, _, _⟩) (v := .pointer (some ⟨TB, 0, none⟩)) rfl (by kernel_rfl) (by kernel_rfl) (by kernel_rfl) (fun _ _ _ h => h) (.inl ⟨by rfl, fun W hW => by go_simp⟩) hH ?_
        try simp only [Act.put, List.setIfInBounds_toArray, List.set_cons_zero, List.set_cons_succ]
        refine wpAnyH_take (i := 8) (oi := ⟨some 58, _, _, _, _, _⟩) (v := .pointer (some ⟨TB, 2, none⟩)) rfl (by kernel_rfl) (by kernel_rfl) (by kernel_rfl) (fun _ _ _ h => h) (.inl ⟨by rfl, fun W hW => by go_simp⟩) hH ?_
        try simp only [Act.put, List.setIfInBounds_toArray, List.set_cons_zero, List.set_cons_succ]
        refine wpAnyH_take (i := 9) (oi := ⟨some 59, _, _, _, _, _⟩) (v := .map (some Mk)) rfl (by kernel_rfl) (by kernel_rfl) (by kernel_rfl) (fun _ _ _ h => h) (.inl ⟨by rfl, fun W hW => by have h := hW.1; go_simp⟩) hH ?_
        try simp only [Act.put, List.setIfInBounds_toArray, List.set_cons_zero, List.set_cons_succ]
        refine wpAnyH_take (i := 10) (oi := ⟨some 60, _, _, _, _, _⟩) (v := .pointer (some ⟨w.heap.size, 8, none⟩)) rfl (by kernel_rfl) (by kernel_rfl) (by kernel_rfl) (fun _ _ _ h => h) (.inl ⟨by rfl, fun W hW => by go_simp⟩) hH ?_
        try simp only [Act.put, List.setIfInBounds_toArray, List.set_cons_zero, List.set_cons_succ]
        refine wpAnyH_take (i := 11) (oi := ⟨some 61, _, _, _, _, _⟩) (v := .agg K2) rfl (by kernel_rfl) (by kernel_rfl) (by kernel_rfl) (fun _ _ _ h => h) (yields_cells (by rfl) 36 _ rfl ⟨w.heap.size, 8, none⟩ rfl K2 _ (fun W hW => HBCK.out W hW.2) Try.underlying36 rfl k_i2.out) hH ?_
        try simp only [Act.put, List.setIfInBounds_toArray, List.set_cons_zero, List.set_cons_succ]
        refine wpAnyH_take (i := 12) (oi := ⟨some 62, _, _, _, _, _⟩) (v := .pointer (some ⟨w.heap.size, 0, none⟩)) rfl (by kernel_rfl) (by kernel_rfl) (by kernel_rfl) (fun _ _ _ h => h) (.inl ⟨by rfl, fun W hW => by go_simp⟩) hH ?_
        try simp only [Act.put, List.setIfInBounds_toArray, List.set_cons_zero, List.set_cons_succ]
        refine wpAnyH_take (i := 13) (oi := ⟨some 63, _, _, _, _, _⟩) (v := .int .i64 (p + 1)) rfl (by kernel_rfl) (by kernel_rfl) (by kernel_rfl) (fun _ _ _ h => h) (.inl ⟨by rfl, fun W hW => by have h := HIDC.out W hW.2; go_simp⟩) hH ?_
        try simp only [Act.put, List.setIfInBounds_toArray, List.set_cons_zero, List.set_cons_succ]
        refine wpAnyH_take (i := 14) (oi := ⟨some 64, _, _, _, _, _⟩) (v := .pointer (some ⟨w.heap.size, 0, none⟩)) rfl (by kernel_rfl) (by kernel_rfl) (by kernel_rfl) (fun _ _ _ h => h) (.inl ⟨by rfl, fun W hW => by go_simp⟩) hH ?_
        try simp only [Act.put, List.setIfInBounds_toArray, List.set_cons_zero, List.set_cons_succ]
        refine wpAnyH_take (i := 15) (oi := ⟨some 65, _, _, _, _, _⟩) (v := .int .i64 (p + 1)) rfl (by kernel_rfl) (by kernel_rfl) (by kernel_rfl) (fun _ _ _ h => h) (.inl ⟨by rfl, fun W hW => by have h := HIDC.out W hW.2; go_simp⟩) hH ?_
        try simp only [Act.put, List.setIfInBounds_toArray, List.set_cons_zero, List.set_cons_succ]
        refine wpAnyH_ready (rs := [16]) (by kernel_rfl) (by simp) ?_
        refine AllReadyH.cons (o := ⟨some 66, _, _, _, _, _⟩) rfl (fun K hK => ?_) AllReadyH.nil
        go_simp
        refine hK.out _ _ hS1 (fun _ => ?_)
        clear hK K
        try simp only [Act.put, List.setIfInBounds_toArray, List.set_cons_zero, List.set_cons_succ]
        refine wpAnyH_ready (rs := [17]) (by kernel_rfl) (by simp) ?_
        refine AllReadyH.cons (o := ⟨some 67, _, _, _, _, _⟩) rfl (fun K hK => ?_) AllReadyH.nil
        go_simp
        refine hK.out _ _ hS1 (fun _ => ?_)
        clear hK K
        try simp only [Act.put, List.setIfInBounds_toArray, List.set_cons_zero, List.set_cons_succ]
        refine wpAnyH_ready (rs := [18]) (by kernel_rfl) (by simp) ?_
        refine AllReadyH.cons (o := ⟨none, _, _, _, _, _⟩) rfl (fun K hK => ?_) AllReadyH.nil
        go_simp
        refine hK.out _ _ hS2 (fun _ => ?_)
        clear hK K
        try simp only [Act.put, List.setIfInBounds_toArray, List.set_cons_zero, List.set_cons_succ]
        refine wpAnyH_ready (rs := [19]) (by kernel_rfl) (by simp) ?_
        refine AllReadyH.cons (o := ⟨some 68, _, _, _, _, _⟩) rfl (fun K hK => ?_) AllReadyH.nil
        go_simp
        refine hK.out _ _ hS3 (fun _ => ?_)
        clear hK K
        try simp only [Act.put, List.setIfInBounds_toArray, List.set_cons_zero, List.set_cons_succ]
        refine wpAnyH_ready (rs := [20]) (by kernel_rfl) (by simp) ?_
        refine AllReadyH.cons (o := ⟨some 69, _, _, _, _, _⟩) rfl (fun K hK => ?_) AllReadyH.nil
        go_simp
        refine hK.out _ _ hS3 (fun _ => ?_)
        clear hK K
        try simp only [Act.put, List.setIfInBounds_toArray, List.set_cons_zero, List.set_cons_succ]
        refine wpAnyH_ready (rs := [21]) (by kernel_rfl) (by simp) ?_
        refine AllReadyH.cons (o := ⟨none, _, _, _, _, _⟩) rfl (fun K hK => ?_) AllReadyH.nil
        go_simp
        refine hK.out _ _ hS4 (fun _ => ?_)
        clear hK K
        try simp only [Act.put, List.setIfInBounds_toArray, List.set_cons_zero, List.set_cons_succ]
        refine wpAnyH_done (by kernel_rfl) ?_ _
        have z0 := HIDC.out _ hS4.2
        clear hS1 hS2 hS3 r1 r2 r3 r4
        go_wp2_with fail
        simp [bodyPost, results, Try.results9, go_sem]
        exact HND.out _ HPO.out
  · have BAD := Lib.hid (HBAD.out hb)
    rw [hb] at hbad
    clear HBAD hb h0 g hp hW0 hR HM hf
    generalize (f.op == f.bk) = e0 at *
    generalize takF L f.op = t1 at *
    generalize takF L f.bk = t2 at *
    generalize FA f = F at *
    generalize KA f.op = K1 at *
    generalize KA f.bk = K2 at *
    cases e0 with
    | true =>
      clear hbad
      go_enter Try.func9, Try.ntmps9
      go_upto_region 1 with fail
      rw [← HW1.out]
      go_wp2_with (first
        | (refine wpList_load_cells rfl 36 (.tmp 8) rfl ⟨w.heap.size, 1, none⟩ rfl K1 _ (HOP.out _ A1) Try.underlying36 rfl k_i1.out ?_)
        | (refine wpList_load_cells rfl 36 (.tmp 10) rfl ⟨w.heap.size, 8, none⟩ rfl K2 _ (HBK.out _ A1) Try.underlying36 rfl k_i2.out ?_)
        | (refine wpList_load_cells_on (by rfl) 36 (.tmp 15) rfl ⟨w.heap.size, 1, none⟩ rfl K1 _ (HOP.out _ A1) Try.underlying36 rfl k_i1.out ?_)
        | (refine wpList_load_cells_on (by rfl) 36 (.tmp 21) rfl ⟨w.heap.size, 8, none⟩ rfl K2 _ (HBK.out _ A1) Try.underlying36 rfl k_i2.out ?_)
        | ((go_at_call_of 17 (Value.agg K1)); with_reducible refine (cT1 _ b1).mono ?_; rintro e w2 ⟨rfl, bt⟩; replace A1 := blkB bt A1; replace b1 := bel_via b1 bt; clear bt)
        | ((go_at_call_of 17 (Value.agg K2)); with_reducible refine (cT2 _ b1).mono ?_; rintro e w2 ⟨rfl, bt⟩; replace A1 := blkB bt A1; replace b1 := bel_via b1 bt; clear bt))
      simp [bodyPost, results, Try.results9, go_sem]
      exact BAD.out _ b1
    | false =>
      cases t1 with
      | true =>
        clear hbad
        go_enter Try.func9, Try.ntmps9
        go_upto_region 1 with fail
        rw [← HW1.out]
        go_wp2_with (first
          | (refine wpList_load_cells rfl 36 (.tmp 8) rfl ⟨w.heap.size, 1, none⟩ rfl K1 _ (HOP.out _ A1) Try.underlying36 rfl k_i1.out ?_)
          | (refine wpList_load_cells rfl 36 (.tmp 10) rfl ⟨w.heap.size, 8, none⟩ rfl K2 _ (HBK.out _ A1) Try.underlying36 rfl k_i2.out ?_)
          | (refine wpList_load_cells_on (by rfl) 36 (.tmp 15) rfl ⟨w.heap.size, 1, none⟩ rfl K1 _ (HOP.out _ A1) Try.underlying36 rfl k_i1.out ?_)
          | (refine wpList_load_cells_on (by rfl) 36 (.tmp 21) rfl ⟨w.heap.size, 8, none⟩ rfl K2 _ (HBK.out _ A1) Try.underlying36 rfl k_i2.out ?_)
          | ((go_at_call_of 17 (Value.agg K1)); with_reducible refine (cT1 _ b1).mono ?_; rintro e w2 ⟨rfl, bt⟩; replace A1 := blkB bt A1; replace b1 := bel_via b1 bt; clear bt)
          | ((go_at_call_of 17 (Value.agg K2)); with_reducible refine (cT2 _ b1).mono ?_; rintro e w2 ⟨rfl, bt⟩; replace A1 := blkB bt A1; replace b1 := bel_via b1 bt; clear bt))
        simp [bodyPost, results, Try.results9, go_sem]
        exact BAD.out _ b1
      | false =>
        cases t2 with
        | false => cases hbad
        | true =>
          clear hbad
          go_enter Try.func9, Try.ntmps9
          go_upto_region 1 with fail
          rw [← HW1.out]
          go_wp2_with (first
            | (refine wpList_load_cells rfl 36 (.tmp 8) rfl ⟨w.heap.size, 1, none⟩ rfl K1 _ (HOP.out _ A1) Try.underlying36 rfl k_i1.out ?_)
            | (refine wpList_load_cells rfl 36 (.tmp 10) rfl ⟨w.heap.size, 8, none⟩ rfl K2 _ (HBK.out _ A1) Try.underlying36 rfl k_i2.out ?_)
            | (refine wpList_load_cells_on (by rfl) 36 (.tmp 15) rfl ⟨w.heap.size, 1, none⟩ rfl K1 _ (HOP.out _ A1) Try.underlying36 rfl k_i1.out ?_)
            | (refine wpList_load_cells_on (by rfl) 36 (.tmp 21) rfl ⟨w.heap.size, 8, none⟩ rfl K2 _ (HBK.out _ A1) Try.underlying36 rfl k_i2.out ?_)
            | ((go_at_call_of 17 (Value.agg K1)); with_reducible refine (cT1 _ b1).mono ?_; rintro e w2 ⟨rfl, bt⟩; replace A1 := blkB bt A1; replace b1 := bel_via b1 bt; clear bt)
            | ((go_at_call_of 17 (Value.agg K2)); with_reducible refine (cT2 _ b1).mono ?_; rintro e w2 ⟨rfl, bt⟩; replace A1 := blkB bt A1; replace b1 := bel_via b1 bt; clear bt))
          simp [bodyPost, results, Try.results9, go_sem]
          exact BAD.out _ b1
end
end Go.Proofs.Ytdgodndaaenafaa
