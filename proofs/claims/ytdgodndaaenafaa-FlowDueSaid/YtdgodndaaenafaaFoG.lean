/- Get, Taken, has and free of a table of flows; by-name template (gen_fog.py). -/
import Derived.Test.YtdgodndaaenafaaFoB
namespace Go.Proofs.Ytdgodndaaenafaa
open Go.RowKit Go.Lib Go.Maps
set_option linter.unusedVariables false
set_option linter.unusedSimpArgs false

theorem dn_cells {w1 : World} {ad : Addr} {cs : Array Value} (h : ∀ j v, cs.toList[j]? = some v → w1.cell? (ad.add j) = some v) : ∀ w', (∃ n, w' = w1.drewN n) → ∀ j v, cs.toList[j]? = some v → w'.cell? (ad.add j) = some v := fun w' ⟨n, hn⟩ j v hj => by
  rw [hn]; exact h j v hj
section
variable {w w' : World} {T Tw : Nat → Prop} {TB Bw Mo Mk co ck : Nat} {go : Int → Option Fl} {gk : Ky → Option Int} {W : List K2} {L : List Fl}

set_option maxRecDepth 100000 in
set_option maxHeartbeats 2000000 in
theorem get_any (h : TRaw w T Tw TB Bw Mo Mk go co gk ck W) {id : Int} (hid : i64ok id) :
    Calls Try.prog 25 #[.pointer (some ⟨TB, 0, none⟩), .int .i64 id] w fun e w' => e = .returned (.tuple #[.agg (FA ((go id).getD zf)), .bool (go id).isSome]) ∧ Below w.heap.size w w' := by
  have f_i := Lib.hid (f_inf ((go id).getD zf))
  have f_1 := Lib.hid (f_one ((go id).getD zf))
  have f_s := Lib.hid (show (FA zf).size = (FA ((go id).getD zf)).size from rfl)
  have hl := fun (w1 : World) (hb : Below w.heap.size w w1) => (h.below hb).mo.look hid
  have c1 := fun (w1 : World) (hb : Below w.heap.size w w1) => (h.below hb).c1
  have b0 : Below w.heap.size w (w.alloc (.cells #[.int .i64 0, .int .i64 0, .int .u64 0, .int .u64 0, .int .u64 0, .int .u64 0, .int .i64 0, .int .i64 0, .int .i64 0, .int .u64 0, .int .u64 0, .int .u64 0, .int .u64 0, .int .i64 0, .int .i64 0, .int .i64 0, .int .i64 0, .int .i64 0, .int .i64 0, .int .i64 0] 38)) := (Below.refl _ _).alloc (Nat.le_refl _) _
  have A0 : (w.alloc (.cells #[.int .i64 0, .int .i64 0, .int .u64 0, .int .u64 0, .int .u64 0, .int .u64 0, .int .i64 0, .int .i64 0, .int .i64 0, .int .u64 0, .int .u64 0, .int .u64 0, .int .u64 0, .int .i64 0, .int .i64 0, .int .i64 0, .int .i64 0, .int .i64 0, .int .i64 0, .int .i64 0] 38)).heap[w.heap.size]? = some (.cells (FA zf) 38 (0, 0)) := heap_alloc_new w _
  have s0 : (w.alloc (.cells #[.int .i64 0, .int .i64 0, .int .u64 0, .int .u64 0, .int .u64 0, .int .u64 0, .int .i64 0, .int .i64 0, .int .i64 0, .int .u64 0, .int .u64 0, .int .u64 0, .int .u64 0, .int .i64 0, .int .i64 0, .int .i64 0, .int .i64 0, .int .i64 0, .int .i64 0, .int .i64 0] 38)).heap.size = w.heap.size + 1 := al_size _ _
  generalize (go id).isSome = b at *
  generalize FA ((go id).getD zf) = F at *
  clear h
  go_enter Try.func25, Try.ntmps25
  go_upto_region 1 with fail
  obtain ⟨w1, hw1⟩ : ∃ x, x = w.alloc (.cells #[.int .i64 0, .int .i64 0, .int .u64 0, .int .u64 0, .int .u64 0, .int .u64 0, .int .i64 0, .int .i64 0, .int .i64 0, .int .u64 0, .int .u64 0, .int .u64 0, .int .u64 0, .int .i64 0, .int .i64 0, .int .i64 0, .int .i64 0, .int .i64 0, .int .i64 0, .int .i64 0] 38) := ⟨_, rfl⟩
  rw [← hw1] at b0 A0 s0 ⊢
  clear hw1
  have hl1 := hl w1 b0
  have c11 := c1 w1 b0
  have hA1 : (w1.alloc (.cells #[.int .i64 0, .int .i64 0, .int .u64 0, .int .u64 0, .int .u64 0, .int .u64 0, .int .i64 0, .int .i64 0, .int .i64 0, .int .u64 0, .int .u64 0, .int .u64 0, .int .u64 0, .int .i64 0, .int .i64 0, .int .i64 0, .int .i64 0, .int .i64 0, .int .i64 0, .int .i64 0] 38)).heap[w1.heap.size]? = some (.cells (FA zf) 38 (0, 0)) := heap_alloc_new w1 _
  have HS := Lib.hid s0
  clear s0
  go_upto_region 2 with (refine wpList_store_row rfl 38 (.tmp 6) (.tmp 16) rfl w1.heap.size F rfl rfl 38 (FA zf) hA1 f_i.out f_s.out f_1.out ?_)
  rw [World.setRow_alloc_new]
  obtain ⟨w2, hw2⟩ : ∃ x, x = w1.alloc (.cells F 38) := ⟨_, rfl⟩
  have b2 : Below w.heap.size w w2 := by rw [hw2]; exact Below.al b0 _
  have hA2 : w2.heap[w1.heap.size]? = some (.cells F 38 (0, 0)) := by rw [hw2]; exact heap_alloc_new w1 _
  have hA0 : w2.heap[w.heap.size]? = some (.cells (FA zf) 38 (0, 0)) := by rw [hw2]; exact blk_al A0 _
  rw [← hw2]
  clear hw2 hl1 c11 hA1 A0
  generalize w1.heap.size = g at *
  go_wp2_with (first
    | (refine wpList_load_cells rfl 38 (.tmp 6) rfl ⟨g, 0, none⟩ rfl F _ (fa_all hA2) Try.underlying38 rfl f_i.out ?_)
    | (refine wpList_store_row rfl 38 (.tmp 4) (.tmp 18) rfl w.heap.size F rfl rfl 38 (FA zf) hA0 f_i.out f_s.out f_1.out ?_))
  refine bodyPost_ret_by (res_row Try.results25 _ _ w.heap.size 38 F _ rfl (blk_setRow hA0 F) Try.underlying38 f_i.out) rfl ⟨rfl, Below.setRow b2 (Nat.le_refl _) _⟩

set_option maxRecDepth 100000 in
set_option maxHeartbeats 2000000 in
theorem taken_any (h : TRaw w T Tw TB Bw Mo Mk go co gk ck W) {k : Ky} (hk : KyOk k) :
    Calls Try.prog 17 #[.pointer (some ⟨TB, 0, none⟩), .agg (KA k)] w fun e w' => e = .returned (.bool (gk k).isSome) ∧ Below w.heap.size w w' := by
  have k_i := Lib.hid (k_inf k)
  have hl := fun (w1 : World) (hb : Below w.heap.size w w1) => (h.below hb).mK.look hk
  have c2 := fun (w1 : World) (hb : Below w.heap.size w w1) => (h.below hb).c2
  have b0 : Below w.heap.size w (w.alloc (.cells (KA k) 36)) := (Below.refl _ _).alloc (Nat.le_refl _) _
  have A0 : (w.alloc (.cells (KA k) 36)).heap[w.heap.size]? = some (.cells (KA k) 36 (0, 0)) := heap_alloc_new w _
  generalize (gk k).isSome = b at *
  generalize (gk k).getD 0 = n at *
  generalize KA k = K at *
  clear h
  go_enter Try.func17, Try.ntmps17
  go_upto_region 1 with fail
  obtain ⟨w1, hw1⟩ : ∃ x, x = w.alloc (.cells K 36) := ⟨_, rfl⟩
  rw [← hw1] at b0 A0 ⊢
  clear hw1
  have hl1 := fun n => hl (w1.drewN n) (bel_dn b0 n)
  have c21 := c2 w1 b0
  have a1 := fa_all A0
  refine wp_region_quiet_lit (by kernel_rfl) (by kernel_rfl) ?_
  repeat (first | go_big_quiet_skip | (refine quiet_load_cells (by rfl) 36 (.tmp 3) rfl ⟨w.heap.size, 0, none⟩ rfl K _ (dn_cells a1) Try.underlying36 rfl k_i.out ?_; simp only [Act.put, List.setIfInBounds_toArray, List.set_cons_succ, List.set_cons_zero]) | (quiet_step (fail)))
  refine wpQuiet_nil ?_
  intro _ hw'
  obtain ⟨nq, hw''⟩ := hw'
  subst hw''
  go_wp2
  go_ret
  exact ⟨rfl, bel_dn b0 _⟩

set_option maxRecDepth 100000 in
set_option maxHeartbeats 2000000 in
theorem hasid_any (h : MapO w Mo go co) {id : Int} (hid : i64ok id) :
    Calls Try.prog 37 #[.agg #[.pointer (some ⟨Bw, 0, none⟩), .map (some Mo)], .int .i64 id] w fun e w' => e = .returned (.bool (go id).isSome) ∧ Below w.heap.size w w' := by
  have hl := fun (w1 : World) (hb : Below w.heap.size w w1) => (h.keep (w' := w1) (hb.block _ h.lt)).look hid
  have f_i := Lib.hid (f_inf ((go id).getD zf))
  have f_1 := Lib.hid (f_one ((go id).getD zf))
  have f_s := Lib.hid (show (FA zf).size = (FA ((go id).getD zf)).size from rfl)
  have b0 : Below w.heap.size w (w.alloc (.cells #[.pointer (some ⟨Bw, 0, none⟩), .map (some Mo)] 65)) := (Below.refl _ _).alloc (Nat.le_refl _) _
  have A0 : (w.alloc (.cells #[.pointer (some ⟨Bw, 0, none⟩), .map (some Mo)] 65)).heap[w.heap.size]? = some (.cells #[.pointer (some ⟨Bw, 0, none⟩), .map (some Mo)] 65 (0, 0)) := heap_alloc_new w _
  generalize (go id).isSome = b at *
  generalize FA ((go id).getD zf) = F at *
  clear h
  go_enter Try.func37, Try.ntmps37
  go_upto_region 1 with fail
  obtain ⟨w1, hw1⟩ : ∃ x, x = w.alloc (.cells #[.pointer (some ⟨Bw, 0, none⟩), .map (some Mo)] 65) := ⟨_, rfl⟩
  rw [← hw1] at b0 A0 ⊢
  clear hw1
  have hl1 := hl w1 b0
  have c11 := cell_of_row _ _ 1 _ _ _ A0
  have hA1 : (w1.alloc (.cells #[.int .i64 0, .int .i64 0, .int .u64 0, .int .u64 0, .int .u64 0, .int .u64 0, .int .i64 0, .int .i64 0, .int .i64 0, .int .u64 0, .int .u64 0, .int .u64 0, .int .u64 0, .int .i64 0, .int .i64 0, .int .i64 0, .int .i64 0, .int .i64 0, .int .i64 0, .int .i64 0] 38)).heap[w1.heap.size]? = some (.cells (FA zf) 38 (0, 0)) := heap_alloc_new w1 _
  go_upto_region 2 with (refine wpList_store_row rfl 38 (.tmp 5) (.tmp 12) rfl w1.heap.size F rfl rfl 38 (FA zf) hA1 f_i.out f_s.out f_1.out ?_)
  rw [World.setRow_alloc_new]
  go_wp2
  go_ret
  exact ⟨rfl, Below.al b0 _⟩
end
end Go.Proofs.Ytdgodndaaenafaa
