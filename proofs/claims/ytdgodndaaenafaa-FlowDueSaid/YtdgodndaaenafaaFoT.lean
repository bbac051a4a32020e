/- Set, Due of a table of flows; by-name template (gen_fot.py). -/
import Derived.Test.YtdgodndaaenafaaFoS
namespace Go.Proofs.Ytdgodndaaenafaa
open Go.RowKit Go.Lib Go.Maps
set_option linter.unusedVariables false
set_option linter.unusedSimpArgs false

section
variable {w w' : World} {T Tw : Nat → Prop} {TB Bw Mo Mk co ck : Nat} {go : Int → Option Fl} {gk : Ky → Option Int} {W : List K2} {L : List Fl}
set_option maxRecDepth 100000 in
set_option maxHeartbeats 4000000 in
theorem fset_any (h : TAt w T TB L) {id st en : Int} (hid : i64ok id) (hs : i64k st) (he : i64k en) :
    Calls Try.prog 18 #[.pointer (some ⟨TB, 0, none⟩), .int .i64 id, .int .i64 st, .int .i64 en] w fun e w' => e = .returned (.bool (hasF L id)) ∧ FPost w T TB (setF L id st en) w' := by
  have h0 := h
  obtain ⟨g, W, hp, Bw, Mo, Mk, Tw, h⟩ := h
  have cG := get_any h hid
  rw [has_go] at cG
  rcases hb : hasF L id with _ | _
  · rw [hb] at cG
    have FIN : ∀ w1, Below w.heap.size w w1 → FPost w T TB (setF L id st en) w1 := fun w1 b1 => by
      rw [set_no hb]
      exact FPost.same h0 b1
    have HF := Lib.hid FIN
    have f_i := Lib.hid (f_inf ((goF L id).getD zf))
    have f_1 := Lib.hid (f_one ((goF L id).getD zf))
    have f_s := Lib.hid (show (FA zf).size = (FA ((goF L id).getD zf)).size from rfl)
    clear FIN h0 h hp g hb
    generalize FA ((goF L id).getD zf) = F at *
    have hA := fun (w1 : World) => heap_alloc_new w1 (.cells #[.int .i64 0, .int .i64 0, .int .u64 0, .int .u64 0, .int .u64 0, .int .u64 0, .int .i64 0, .int .i64 0, .int .i64 0, .int .u64 0, .int .u64 0, .int .u64 0, .int .u64 0, .int .i64 0, .int .i64 0, .int .i64 0, .int .i64 0, .int .i64 0, .int .i64 0, .int .i64 0] 38)
    have HA : ∀ w1 : World, (w1.alloc (.cells #[.int .i64 0, .int .i64 0, .int .u64 0, .int .u64 0, .int .u64 0, .int .u64 0, .int .i64 0, .int .i64 0, .int .i64 0, .int .u64 0, .int .u64 0, .int .u64 0, .int .u64 0, .int .i64 0, .int .i64 0, .int .i64 0, .int .i64 0, .int .i64 0, .int .i64 0, .int .i64 0] 38)).heap[w1.heap.size]? = some (.cells (FA zf) 38 (0, 0)) := fun w1 => hA w1
    have HA := Lib.hid HA
    clear hA
    go_enter Try.func18, Try.ntmps18
    go_wp2_with (first
      | (go_at_call 25; refine cG.mono ?_; rintro e w1 ⟨rfl, b1⟩)
      | (refine wpList_store_row rfl 38 (.tmp 9) (.tmp 15) rfl w1.heap.size F rfl rfl 38 (FA zf) (HA.out w1) f_i.out f_s.out f_1.out ?_))
    rw [World.setRow_alloc_new]
    go_ret
    exact ⟨rfl, HF.out _ (Below.al b1 _)⟩
  · rw [hb] at cG
    obtain ⟨f, hf, hfi⟩ := List.any_eq_true.1 hb
    have hfi : f.id = id := by simpa using hfi
    subst hfi
    rw [go_mem g hf, Option.getD_some] at cG
    have cP := fun (w2 : World) (b2 : Below w.heap.size w w2) => put_any (h.below b2) (by have := g.ln; omega) (f := { f with st := st, en := en }) hid
    have FIN : ∀ w2 w3, Below w.heap.size w w2 → PutPost w2 T TB Bw Mo Mk (goF L) L.length (gkF L) (2 * L.length) W { f with st := st, en := en } w3 → FPost w T TB (setF L f.id st en) w3 := fun w2 w3 b2 hP => by
      obtain ⟨T', h3, o3, ht⟩ := put_set hP g hp hf hs he rfl
      exact ⟨T', h3, (offS_below b2).trans o3, fun k hk => (ht k hk).imp (fun q => q) fun q => by have := b2.size; omega⟩
    have HF := Lib.hid FIN
    have HP := Lib.hid cP
    have c0 := fun (w2 : World) (b2 : Below w.heap.size w w2) => (h.below b2).c0
    have c1 := fun (w2 : World) (b2 : Below w.heap.size w w2) => (h.below b2).c1
    have tb := fun (w2 : World) (b2 : Below w.heap.size w w2) => (h.below b2).tb
    have HC0 := Lib.hid c0
    have HC1 := Lib.hid c1
    have f_i := Lib.hid (f_inf f)
    have f_1 := Lib.hid (f_one f)
    have f_s := Lib.hid (show (FA zf).size = (FA f).size from rfl)
    have f_i2 := Lib.hid (f_inf { f with st := st, en := en })
    have hA := fun (w1 : World) => heap_alloc_new w1 (.cells #[.int .i64 0, .int .i64 0, .int .u64 0, .int .u64 0, .int .u64 0, .int .u64 0, .int .i64 0, .int .i64 0, .int .i64 0, .int .u64 0, .int .u64 0, .int .u64 0, .int .u64 0, .int .i64 0, .int .i64 0, .int .i64 0, .int .i64 0, .int .i64 0, .int .i64 0, .int .i64 0] 38)
    have HA : ∀ w1 : World, (w1.alloc (.cells #[.int .i64 0, .int .i64 0, .int .u64 0, .int .u64 0, .int .u64 0, .int .u64 0, .int .i64 0, .int .i64 0, .int .i64 0, .int .u64 0, .int .u64 0, .int .u64 0, .int .u64 0, .int .i64 0, .int .i64 0, .int .i64 0, .int .i64 0, .int .i64 0, .int .i64 0, .int .i64 0] 38)).heap[w1.heap.size]? = some (.cells (FA zf) 38 (0, 0)) := fun w1 => hA w1
    have HA := Lib.hid HA
    have HSET := Lib.hid (fun (w2 : World) (B : Nat) (hh : w2.heap[B]? = some (.cells (FA f) 38 (0, 0))) => fa_setse hh st en)
    have FST := Lib.hid (fun (w2 : World) (B : Nat) (hh : w2.heap[B]? = some (.cells (FA f) 38 (0, 0))) => And.intro (fa_st hh) (fa_en hh))
    clear FIN cP h0 h hp g hb hA hf c0 c1 tb
    go_enter Try.func18, Try.ntmps18
    generalize hF2 : FA { f with st := st, en := en } = F2 at *
    generalize hF : FA f = F at *
    clear hF2 hF
    go_upto_region 3 with (first
      | (go_at_call 25; refine cG.mono ?_; rintro e w1 ⟨rfl, b1⟩)
      | (refine wpList_store_row rfl 38 (.tmp 9) (.tmp 15) rfl w1.heap.size F rfl rfl 38 (FA zf) (HA.out w1) f_i.out f_s.out f_1.out ?_))
    try simp only [Act.put, List.setIfInBounds_toArray, List.set_cons_succ, List.set_cons_zero]
    rw [World.setRow_alloc_new]
    obtain ⟨w2, hw2⟩ : ∃ x, x = w1.alloc (.cells F 38) := ⟨_, rfl⟩
    have b2 : Below w.heap.size w w2 := by rw [hw2]; exact Below.al b1 _
    have A2 : w2.heap[w1.heap.size]? = some (.cells F 38 (0, 0)) := by rw [hw2]; exact heap_alloc_new w1 _
    have hg1 : w.heap.size ≤ w1.heap.size := b1.size
    rw [← hw2]
    clear hw2 cG
    generalize w1.heap.size = gB at *
    obtain ⟨q1, q2⟩ := FST.out _ _ A2
    have qf1 := free_of A2 18
    have qf2 := free_of A2 19
    have A3 := HSET.out _ _ A2
    have b3 : Below w.heap.size w ((w2.setCell ⟨gB, 18, none⟩ (.int .i64 st)).setCell ⟨gB, 19, none⟩ (.int .i64 en)) := below_set (below_set b2 hg1 _ _) hg1 _ _
    go_upto_region 4 with fail
    obtain ⟨w3, hw3⟩ : ∃ x, x = (w2.setCell ⟨gB, 18, none⟩ (.int .i64 st)).setCell ⟨gB, 19, none⟩ (.int .i64 en) := ⟨_, rfl⟩
    rw [← hw3] at A3 b3 ⊢
    clear hw3 q1 q2 qf1 qf2 A2 b2 FST HSET HA
    have d0 := HC0.out _ b3
    have d1 := HC1.out _ b3
    have d2 : ∀ j v, F2.toList[j]? = some v → w3.drew.cell? ((⟨gB, 0, none⟩ : Addr).add j) = some v := fa_all A3
    have bd := bel_dr b3
    have cP := HP.out _ bd
    refine wp_region_still_tail 5 (by kernel_rfl) (by kernel_rfl) ?_
    simp only [List.take_succ_cons, List.take_zero, List.drop_succ_cons, List.drop_zero]
    repeat (first | (refine still_load_cells (by rfl) 38 (.tmp 9) rfl ⟨gB, 0, none⟩ rfl F2 _ d2 Try.underlying38 rfl f_i2.out ?_; simp only [Act.put, List.setIfInBounds_toArray, List.set_cons_succ, List.set_cons_zero]) | still_step)
    try refine wpStill_nil ?_
    change wpList _ _ _ _ _ w3.drew
    go_wp2_with (go_at_call 30; refine cP.mono ?_; rintro e w4 ⟨rfl, h4⟩)
    go_ret
    exact ⟨rfl, HF.out _ _ bd h4⟩
end
end Go.Proofs.Ytdgodndaaenafaa
