/- Boxes: which point is in; both sides; by-name template (gen_chas.py). -/
import Derived.Test.YtomennaekjklbaaCEmpty
namespace Go.Proofs.Ytomennaekjklbaa
open Go.RowKit Go.Lib Go.Sort
set_option linter.unusedVariables false
set_option linter.unusedSimpArgs false

def inR (r : R4) (p : P2) : Bool := hasI r.fh r.fl r.th r.tl p.h p.l
def hpB (b : Nat → R4) (p : Nat → P2) : Bool := inR (b 0) (p 0) && inR (b 1) (p 1) && inR (b 2) (p 2) && inR (b 3) (p 3) && inR (b 4) (p 4) && inR (b 5) (p 5)
theorem hpB_false {b : Nat → R4} {p : Nat → P2} {k : Nat} (hk : k < 6) (h : inR (b k) (p k) = false) : hpB b p = false := by
  unfold hpB
  match k, hk with
  | 0, _ => simp [h]
  | 1, _ => simp [h]
  | 2, _ => simp [h]
  | 3, _ => simp [h]
  | 4, _ => simp [h]
  | 5, _ => simp [h]
theorem hpB_true {b : Nat → R4} {p : Nat → P2} (h : ∀ k, k < 6 → inR (b k) (p k) = true) : hpB b p = true := by
  unfold hpB; simp [h 0 (by omega), h 1 (by omega), h 2 (by omega), h 3 (by omega), h 4 (by omega), h 5 (by omega)]
theorem hasP_any (r : R4) (p : P2) (w : World) : Calls Try.prog 56 #[.agg #[.int .u64 r.fh, .int .u64 r.fl, .int .u64 r.th, .int .u64 r.tl], .agg #[.int .u64 p.h, .int .u64 p.l]] w fun e w' => e = .returned (.bool (inR r p)) ∧ Below w.heap.size w w' := has_any r.fh r.fl r.th r.tl p.h p.l w
theorem rhasP_any (r : R4) (p : P2) (w : World) : Calls Try.prog 42 #[.agg #[.int .u64 r.fh, .int .u64 r.fl, .int .u64 r.th, .int .u64 r.tl], .agg #[.int .u64 p.h, .int .u64 p.l]] w fun e w' => e = .returned (.bool (inR r p)) ∧ Below w.heap.size w w' := rhas_any r.fh r.fl r.th r.tl p.h p.l w
theorem al_r4 (w : World) (a b c d : Value) (t : TypeId) : (w.alloc (.cells #[a, b, c, d] t)).cell? ⟨w.heap.size, 0, none⟩ = some a ∧ (w.alloc (.cells #[a, b, c, d] t)).cell? ⟨w.heap.size, 1, none⟩ = some b ∧ (w.alloc (.cells #[a, b, c, d] t)).cell? ⟨w.heap.size, 2, none⟩ = some c ∧ (w.alloc (.cells #[a, b, c, d] t)).cell? ⟨w.heap.size, 3, none⟩ = some d := by
  have h := heap_alloc_new w (.cells #[a, b, c, d] t)
  generalize w.alloc (.cells #[a, b, c, d] t) = w1 at *
  refine ⟨?_, ?_, ?_, ?_⟩ <;> simp [World.cell?, h]

theorem al_size (w : World) (o : Obj) : (w.alloc o).heap.size = w.heap.size + 1 := by show (w.heap.push o).size = _; simp
set_option maxRecDepth 100000 in
set_option maxHeartbeats 2000000 in
theorem hasPoint_any (b : Nat → R4) (p : Nat → P2) (w : World) : Calls Try.prog 108 #[.agg (bxc b), .agg (ptc p)] w fun e w' => e = .returned (.bool (hpB b p)) ∧ Below w.heap.size w w' := by
  obtain ⟨R, hR⟩ : ∃ R, R = hpB b p := ⟨_, rfl⟩
  rw [← hR]
  have HR := Lib.hid hR; clear hR
  obtain ⟨C, hC⟩ : ∃ C, C = bxc b := ⟨_, rfl⟩
  obtain ⟨D, hD⟩ : ∃ D, D = ptc p := ⟨_, rfl⟩
  have IX := ix_b b
  have i27 := inf27 b
  have HB : ∀ w : World, BoxAt (w.alloc (.cells C 30)) w.heap.size b := fun w => BoxAt.of (t := 30) (by rw [← hC]; exact heap_alloc_new w _)
  have HP : ∀ w : World, PtAt (w.alloc (.cells D 68)) w.heap.size p := fun w => PtAt.of (t := 68) (by rw [← hD]; exact heap_alloc_new w _)
  rw [← hC] at IX i27 ⊢
  rw [← hD]
  clear hC hD
  have HI := Lib.hid IX; clear IX
  have i27 := Lib.hid i27
  have hB := (HB w).keep (Below.al (Below.refl _ _) (.cells D 68))
  have hP := HP (w.alloc (.cells C 30))
  have hz : (w.alloc (.cells C 30)).heap.size = w.heap.size + 1 := al_size _ _
  rw [hz] at hP
  clear hz HB HP
  go_enter Try.func108, Try.ntmps108
  have hr : (World.alloc (w.alloc (.cells C 30)) (.cells D 68)).heap[w.heap.size]? = some (.cells C 30) := by rw [al_old (al_lt _ _)]; exact heap_alloc_new w _
  go_wp2_with (refine wpList_load_row rfl 28 (.tmp 7) rfl w.heap.size rfl 30 C (0, 0) _ hr Try.underlying28 rfl i27.out ?_)
  clear hr
  obtain ⟨w0, hw0⟩ : ∃ w0, w0 = (w.alloc (.cells C 30)).alloc (.cells D 68) := ⟨_, rfl⟩
  have b0 : Below w.heap.size w w0 := by rw [hw0]; exact Below.al (Below.al (Below.refl _ _) _) _
  rw [← hw0] at hB hP ⊢
  clear hw0 hB
  go_loopw [9] (fun v9 wr => ∃ k : Nat, v9 = .int .i64 k ∧ k ≤ 6 ∧ Hid (∀ i, i < k → inR (b i) (p i) = true) ∧ Below w0.heap.size w0 wr) (fun v9 _ => 6 - (intOf v9).toNat)
  case atStart => exact ⟨0, rfl, by omega, upto_zero, Below.refl _ _⟩
  case round =>
    obtain ⟨k, rfl, hk, hF, bw⟩ := hrel
    by_cases hk6 : k < 6
    · have ix := HI.out k hk6
      have ce := hasP_any (b k) (p k)
      generalize hX : inR (b k) (p k) = X at ce
      have HX := Lib.hid hX; clear hX
      go_wp2_with fail
      obtain ⟨w4, hw4⟩ : ∃ w4, w4 = wr.alloc (.cells #[.int .u64 (b k).fh, .int .u64 (b k).fl, .int .u64 (b k).th, .int .u64 (b k).tl] 27) := ⟨_, rfl⟩
      have b4 : Below w0.heap.size w0 w4 := by rw [hw4]; exact Below.al bw _
      obtain ⟨x0, x1, x2, x3⟩ := al_r4 wr (.int .u64 (b k).fh) (.int .u64 (b k).fl) (.int .u64 (b k).th) (.int .u64 (b k).tl) 27
      rw [← hw4] at x0 x1 x2 x3 ⊢
      obtain ⟨y0, y1⟩ := hP.keep b4 k hk6
      clear hw4
      cases X with
      | false =>
        obtain rfl : R = false := by rw [HR.out]; exact hpB_false hk6 HX.out
        clear HX hF HR
        have k_x0 := cell_regrown x0
        have k_x1 := cell_regrown x1
        have k_x2 := cell_regrown x2
        have k_x3 := cell_regrown x3
        have k_y0 := cell_regrown y0
        have k_y1 := cell_regrown y1
        have q := fun d os => Calls.regrown_of (ce (grow (redrawn w4 d) os))
        clear x0 x1 x2 x3 y0 y1
        refine wp_region_quiet_below (by kernel_rfl) (by kernel_rfl) ?_
        repeat (first | go_big_quiet_skip | quiet_step (first | (go_at_call 56; with_reducible exact q _ _)))
        refine wpQuiet_nil ?_
        intro _ hw'
        obtain ⟨⟨dq, osq⟩, hw''⟩ := hw'
        subst hw''
        go_wp2
        go_ret
        exact ⟨rfl, bel_via b0 (bel_via b4 (below_regrown w4 dq osq))⟩
      | true =>
        have H := upto_succ hF HX.out; clear HX hF
        have k_x0 := cell_regrown x0
        have k_x1 := cell_regrown x1
        have k_x2 := cell_regrown x2
        have k_x3 := cell_regrown x3
        have k_y0 := cell_regrown y0
        have k_y1 := cell_regrown y1
        have q := fun d os => Calls.regrown_of (ce (grow (redrawn w4 d) os))
        clear x0 x1 x2 x3 y0 y1
        refine wp_region_quiet_below (by kernel_rfl) (by kernel_rfl) ?_
        repeat (first | go_big_quiet_skip | quiet_step (first | (go_at_call 56; with_reducible exact q _ _)))
        refine wpQuiet_nil ?_
        intro _ hw'
        obtain ⟨⟨dq, osq⟩, hw''⟩ := hw'
        subst hw''
        go_wp2
        exact ⟨⟨k + 1, by simp, by omega, H, bel_via b4 (below_regrown w4 dq osq)⟩, by simp [intOf]; omega⟩
    · obtain rfl : k = 6 := by omega
      obtain rfl : R = true := by rw [HR.out]; exact hpB_true hF.out
      clear hF HR
      go_wp2
      go_ret
      exact ⟨rfl, bel_via b0 bw⟩

set_option maxRecDepth 100000 in
set_option maxHeartbeats 2000000 in
theorem rhasPoint_any (b : Nat → R4) (p : Nat → P2) (w : World) : Calls Try.prog 30 #[.agg (bxc b), .agg (ptc p)] w fun e w' => e = .returned (.bool (hpB b p)) ∧ Below w.heap.size w w' := by
  obtain ⟨R, hR⟩ : ∃ R, R = hpB b p := ⟨_, rfl⟩
  rw [← hR]
  have HR := Lib.hid hR; clear hR
  obtain ⟨C, hC⟩ : ∃ C, C = bxc b := ⟨_, rfl⟩
  obtain ⟨D, hD⟩ : ∃ D, D = ptc p := ⟨_, rfl⟩
  have IX := ix_b b
  have i27 := inf27 b
  have HB : ∀ w : World, BoxAt (w.alloc (.cells C 30)) w.heap.size b := fun w => BoxAt.of (t := 30) (by rw [← hC]; exact heap_alloc_new w _)
  have HP : ∀ w : World, PtAt (w.alloc (.cells D 68)) w.heap.size p := fun w => PtAt.of (t := 68) (by rw [← hD]; exact heap_alloc_new w _)
  rw [← hC] at IX i27 ⊢
  rw [← hD]
  clear hC hD
  have HI := Lib.hid IX; clear IX
  have i27 := Lib.hid i27
  have hB := (HB w).keep (Below.al (Below.refl _ _) (.cells D 68))
  have hP := HP (w.alloc (.cells C 30))
  have hz : (w.alloc (.cells C 30)).heap.size = w.heap.size + 1 := al_size _ _
  rw [hz] at hP
  clear hz HB HP
  go_enter Try.func30, Try.ntmps30
  go_wp2_with fail
  obtain ⟨w0, hw0⟩ : ∃ w0, w0 = (w.alloc (.cells C 30)).alloc (.cells D 68) := ⟨_, rfl⟩
  have b0 : Below w.heap.size w w0 := by rw [hw0]; exact Below.al (Below.al (Below.refl _ _) _) _
  rw [← hw0] at hB hP ⊢
  clear hw0
  go_loopw [5] (fun v5 wr => ∃ k : Nat, v5 = .int .i64 k ∧ k ≤ 6 ∧ Hid (∀ i, i < k → inR (b i) (p i) = true) ∧ Below w0.heap.size w0 wr) (fun v5 _ => 6 - (intOf v5).toNat)
  case atStart => exact ⟨0, rfl, by omega, upto_zero, Below.refl _ _⟩
  case round =>
    obtain ⟨k, rfl, hk, hF, bw⟩ := hrel
    by_cases hk6 : k < 6
    · have ce := rhasP_any (b k) (p k)
      generalize hX : inR (b k) (p k) = X at ce
      have HX := Lib.hid hX; clear hX
      obtain ⟨x0, x1, x2, x3⟩ := hB.keep bw k hk6
      obtain ⟨y0, y1⟩ := hP.keep bw k hk6
      cases X with
      | false =>
        obtain rfl : R = false := by rw [HR.out]; exact hpB_false hk6 HX.out
        clear HX hF HR
        go_wp2
        have k_x0 := cell_regrown x0
        have k_x1 := cell_regrown x1
        have k_x2 := cell_regrown x2
        have k_x3 := cell_regrown x3
        have k_y0 := cell_regrown y0
        have k_y1 := cell_regrown y1
        have q := fun d os => Calls.regrown_of (ce (grow (redrawn wr d) os))
        clear x0 x1 x2 x3 y0 y1
        refine wp_region_quiet_below (by kernel_rfl) (by kernel_rfl) ?_
        repeat (first | go_big_quiet_skip | quiet_step (first | (go_at_call 42; with_reducible exact q _ _)))
        refine wpQuiet_nil ?_
        intro _ hw'
        obtain ⟨⟨dq, osq⟩, hw''⟩ := hw'
        subst hw''
        go_wp2
        go_ret
        exact ⟨rfl, bel_via b0 (bel_via bw (below_regrown wr dq osq))⟩
      | true =>
        have H := upto_succ hF HX.out; clear HX hF
        go_wp2
        have k_x0 := cell_regrown x0
        have k_x1 := cell_regrown x1
        have k_x2 := cell_regrown x2
        have k_x3 := cell_regrown x3
        have k_y0 := cell_regrown y0
        have k_y1 := cell_regrown y1
        have q := fun d os => Calls.regrown_of (ce (grow (redrawn wr d) os))
        clear x0 x1 x2 x3 y0 y1
        refine wp_region_quiet_below (by kernel_rfl) (by kernel_rfl) ?_
        repeat (first | go_big_quiet_skip | quiet_step (first | (go_at_call 42; with_reducible exact q _ _)))
        refine wpQuiet_nil ?_
        intro _ hw'
        obtain ⟨⟨dq, osq⟩, hw''⟩ := hw'
        subst hw''
        go_wp2
        exact ⟨⟨k + 1, by simp, by omega, H, bel_via bw (below_regrown wr dq osq)⟩, by simp [intOf]; omega⟩
    · obtain rfl : k = 6 := by omega
      obtain rfl : R = true := by rw [HR.out]; exact hpB_true hF.out
      clear hF HR
      go_wp2
      go_ret
      exact ⟨rfl, bel_via b0 bw⟩

end Go.Proofs.Ytomennaekjklbaa
