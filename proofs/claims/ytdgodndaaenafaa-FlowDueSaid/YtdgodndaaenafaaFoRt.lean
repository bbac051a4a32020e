/- The document's Taken; by-name template (gen_forg.py). -/
import Derived.Test.YtdgodndaaenafaaFoRg
namespace Go.Proofs.Ytdgodndaaenafaa
open Go.RowKit Go.Lib Go.Maps
set_option linter.unusedVariables false
set_option linter.unusedSimpArgs false

set_option maxRecDepth 100000 in
set_option maxHeartbeats 2000000 in
theorem rtaken_any {w : World} {R : Nat → Prop} {RB : Nat} {A : Option Addr} {c : Nat} {L : List Fl} (h : RIn w R RB A c L) (hn : L.length ≤ 48) (k : Ky) :
    Calls Try.prog 22 #[.pointer (some ⟨RB, 0, none⟩), .agg (KA k)] w fun e w' => e = .returned (.bool (takF L k)) ∧ Below w.heap.size w w' := by
  have b1 : Below w.heap.size w (w.alloc (.cells (KA k) 36)) := Below.al (Below.refl _ _) _
  have A0 : (w.alloc (.cells (KA k) 36)).heap[w.heap.size]? = some (.cells (KA k) 36 (0, 0)) := heap_alloc_new w _
  have cF := rfind_any (h.below b1) hn k
  have k_i := Lib.hid (k_inf k)
  have hA := fun (w1 : World) => heap_alloc_new w1 (.cells #[.int .i64 0, .int .i64 0, .int .u64 0, .int .u64 0, .int .u64 0, .int .u64 0, .int .i64 0, .int .i64 0, .int .i64 0, .int .u64 0, .int .u64 0, .int .u64 0, .int .u64 0, .int .i64 0, .int .i64 0, .int .i64 0, .int .i64 0, .int .i64 0, .int .i64 0, .int .i64 0] 42)
  have HA : ∀ w1 : World, (w1.alloc (.cells #[.int .i64 0, .int .i64 0, .int .u64 0, .int .u64 0, .int .u64 0, .int .u64 0, .int .i64 0, .int .i64 0, .int .i64 0, .int .u64 0, .int .u64 0, .int .u64 0, .int .u64 0, .int .i64 0, .int .i64 0, .int .i64 0, .int .i64 0, .int .i64 0, .int .i64 0, .int .i64 0] 42)).heap[w1.heap.size]? = some (.cells (FA zf) 42 (0, 0)) := fun w1 => hA w1
  have HA := Lib.hid HA
  have HI := Lib.hid rf_inf
  have H1 := Lib.hid f_one
  have HZ : Hid (∀ f : Fl, (FA zf).size = (FA f).size) := Lib.hid (fun _ => rfl)
  have a0 := Lib.hid (fa_all A0)
  obtain ⟨w1, hw1⟩ : ∃ x, x = w.alloc (.cells (KA k) 36) := ⟨_, rfl⟩
  rw [← hw1] at b1 cF a0
  have HW1 := Lib.hid hw1
  have HB1 := Lib.hid b1
  clear hw1 hA h A0
  generalize takF L k = tk at *
  generalize KA k = K at *
  go_enter Try.func22, Try.ntmps22
  go_upto_region 1 with fail
  rw [← HW1.out]
  go_wp2_with (first
    | ((with_reducible refine stop_op (o := ⟨some 10, _, _, _, _, _⟩) ?_); refine Lib.hid ?_; refine wpList_load_cells rfl 36 (.tmp 3) rfl ⟨w.heap.size, 0, none⟩ rfl K _ a0.out Try.underlying36 rfl k_i.out ?_)
    | (go_at_call 35; refine cF.mono ?_; rintro e w2 ⟨f, b, rfl, b2⟩)
    | ((with_reducible refine stop_op (o := ⟨none, _, _, _, _, _⟩) ?_); refine Lib.hid ?_; refine wpList_store_row rfl 42 (.tmp 5) (.tmp 12) rfl w2.heap.size (FA f) rfl rfl 42 (FA zf) (HA.out w2) (HI.out f) (HZ.out f) (H1.out f) ?_; rw [World.setRow_alloc_new]))
  go_ret
  exact ⟨rfl, HB1.out.trans ((Below.al b2 _).mono HB1.out.size)⟩
end Go.Proofs.Ytdgodndaaenafaa
