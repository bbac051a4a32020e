/- Boxes: which is empty; both sides; by-name template (gen_cempty.py). -/
import Derived.Test.YtomennaekjklbaaCNum
namespace Go.Proofs.Ytomennaekjklbaa
open Go.RowKit Go.Lib Go.Sort
set_option linter.unusedVariables false
set_option linter.unusedSimpArgs false

structure R4 where
  fh : Int
  fl : Int
  th : Int
  tl : Int
  deriving Inhabited
structure P2 where
  h : Int
  l : Int
  deriving Inhabited
/-- A box, a point as cells. -/
def bxc (b : Nat → R4) : Array Value := #[.int .u64 (b 0).fh, .int .u64 (b 0).fl, .int .u64 (b 0).th, .int .u64 (b 0).tl, .int .u64 (b 1).fh, .int .u64 (b 1).fl, .int .u64 (b 1).th, .int .u64 (b 1).tl, .int .u64 (b 2).fh, .int .u64 (b 2).fl, .int .u64 (b 2).th, .int .u64 (b 2).tl, .int .u64 (b 3).fh, .int .u64 (b 3).fl, .int .u64 (b 3).th, .int .u64 (b 3).tl, .int .u64 (b 4).fh, .int .u64 (b 4).fl, .int .u64 (b 4).th, .int .u64 (b 4).tl, .int .u64 (b 5).fh, .int .u64 (b 5).fl, .int .u64 (b 5).th, .int .u64 (b 5).tl]
def ptc (p : Nat → P2) : Array Value := #[.int .u64 (p 0).h, .int .u64 (p 0).l, .int .u64 (p 1).h, .int .u64 (p 1).l, .int .u64 (p 2).h, .int .u64 (p 2).l, .int .u64 (p 3).h, .int .u64 (p 3).l, .int .u64 (p 4).h, .int .u64 (p 4).l, .int .u64 (p 5).h, .int .u64 (p 5).l]
/-- A box in memory, a point. -/
def BoxAt (w : World) (B : Nat) (b : Nat → R4) : Prop := ∀ k, k < 6 → w.cell? ⟨B, k * 4, none⟩ = some (.int .u64 (b k).fh) ∧ w.cell? ⟨B, k * 4 + 1, none⟩ = some (.int .u64 (b k).fl) ∧ w.cell? ⟨B, k * 4 + 2, none⟩ = some (.int .u64 (b k).th) ∧ w.cell? ⟨B, k * 4 + 3, none⟩ = some (.int .u64 (b k).tl)
def PtAt (w : World) (B : Nat) (p : Nat → P2) : Prop := ∀ k, k < 6 → w.cell? ⟨B, k * 2, none⟩ = some (.int .u64 (p k).h) ∧ w.cell? ⟨B, k * 2 + 1, none⟩ = some (.int .u64 (p k).l)
theorem BoxAt.keep {w0 w' : World} {B : Nat} {b : Nat → R4} (h : BoxAt w0 B b) (k : Below w0.heap.size w0 w') : BoxAt w' B b := fun i hi => ⟨keepc k (h i hi).1, keepc k (h i hi).2.1, keepc k (h i hi).2.2.1, keepc k (h i hi).2.2.2⟩
theorem PtAt.keep {w0 w' : World} {B : Nat} {b : Nat → P2} (h : PtAt w0 B b) (k : Below w0.heap.size w0 w') : PtAt w' B b := fun i hi => ⟨keepc k (h i hi).1, keepc k (h i hi).2⟩
theorem BoxAt.of {w : World} {B : Nat} {b : Nat → R4} {t : TypeId} (h : w.heap[B]? = some (.cells (bxc b) t (0, 0))) : BoxAt w B b := by
  unfold bxc at h
  intro k hk
  match k, hk with
  | 0, _ => refine ⟨?_, ?_, ?_, ?_⟩ <;> simp [World.cell?, h]
  | 1, _ => refine ⟨?_, ?_, ?_, ?_⟩ <;> simp [World.cell?, h]
  | 2, _ => refine ⟨?_, ?_, ?_, ?_⟩ <;> simp [World.cell?, h]
  | 3, _ => refine ⟨?_, ?_, ?_, ?_⟩ <;> simp [World.cell?, h]
  | 4, _ => refine ⟨?_, ?_, ?_, ?_⟩ <;> simp [World.cell?, h]
  | 5, _ => refine ⟨?_, ?_, ?_, ?_⟩ <;> simp [World.cell?, h]
theorem PtAt.of {w : World} {B : Nat} {p : Nat → P2} {t : TypeId} (h : w.heap[B]? = some (.cells (ptc p) t (0, 0))) : PtAt w B p := by
  unfold ptc at h
  intro k hk
  match k, hk with
  | 0, _ => refine ⟨?_, ?_⟩ <;> simp [World.cell?, h]
  | 1, _ => refine ⟨?_, ?_⟩ <;> simp [World.cell?, h]
  | 2, _ => refine ⟨?_, ?_⟩ <;> simp [World.cell?, h]
  | 3, _ => refine ⟨?_, ?_⟩ <;> simp [World.cell?, h]
  | 4, _ => refine ⟨?_, ?_⟩ <;> simp [World.cell?, h]
  | 5, _ => refine ⟨?_, ?_⟩ <;> simp [World.cell?, h]
theorem inf29 (b : Nat → R4) : (Try.prog.info? 30).map (·.size) = some (bxc b).size := by rw [show (bxc b).size = 24 from rfl]; kernel_rfl
theorem inf27 (b : Nat → R4) : (Try.prog.info? 28).map (·.size) = some (bxc b).size := by rw [show (bxc b).size = 24 from rfl]; kernel_rfl
theorem inf38 (p : Nat → P2) : (Try.prog.info? 68).map (·.size) = some (ptc p).size := by rw [show (ptc p).size = 12 from rfl]; kernel_rfl
theorem bx_one (b : Nat → R4) : (bxc b).all (·.oneCell') = true := by unfold bxc; simp [Value.oneCell']
theorem pt_one (b : Nat → P2) : (ptc b).all (·.oneCell') = true := by unfold ptc; simp [Value.oneCell']
/-- An index of a box's value. -/
theorem ix_b0 (b : Nat → R4) (x : World) : Sem.run Try.prog (Instr.index 28 (.agg (bxc b)) (.int .i64 (0 : Nat))) x = .ok (.agg #[.int .u64 (b 0).fh, .int .u64 (b 0).fl, .int .u64 (b 0).th, .int .u64 (b 0).tl]) x := by kernel_rfl
theorem ix_b1 (b : Nat → R4) (x : World) : Sem.run Try.prog (Instr.index 28 (.agg (bxc b)) (.int .i64 (1 : Nat))) x = .ok (.agg #[.int .u64 (b 1).fh, .int .u64 (b 1).fl, .int .u64 (b 1).th, .int .u64 (b 1).tl]) x := by kernel_rfl
theorem ix_b2 (b : Nat → R4) (x : World) : Sem.run Try.prog (Instr.index 28 (.agg (bxc b)) (.int .i64 (2 : Nat))) x = .ok (.agg #[.int .u64 (b 2).fh, .int .u64 (b 2).fl, .int .u64 (b 2).th, .int .u64 (b 2).tl]) x := by kernel_rfl
theorem ix_b3 (b : Nat → R4) (x : World) : Sem.run Try.prog (Instr.index 28 (.agg (bxc b)) (.int .i64 (3 : Nat))) x = .ok (.agg #[.int .u64 (b 3).fh, .int .u64 (b 3).fl, .int .u64 (b 3).th, .int .u64 (b 3).tl]) x := by kernel_rfl
theorem ix_b4 (b : Nat → R4) (x : World) : Sem.run Try.prog (Instr.index 28 (.agg (bxc b)) (.int .i64 (4 : Nat))) x = .ok (.agg #[.int .u64 (b 4).fh, .int .u64 (b 4).fl, .int .u64 (b 4).th, .int .u64 (b 4).tl]) x := by kernel_rfl
theorem ix_b5 (b : Nat → R4) (x : World) : Sem.run Try.prog (Instr.index 28 (.agg (bxc b)) (.int .i64 (5 : Nat))) x = .ok (.agg #[.int .u64 (b 5).fh, .int .u64 (b 5).fl, .int .u64 (b 5).th, .int .u64 (b 5).tl]) x := by kernel_rfl
theorem ix_b (b : Nat → R4) (k : Nat) (hk : k < 6) (x : World) : Sem.run Try.prog (Instr.index 28 (.agg (bxc b)) (.int .i64 k)) x = .ok (.agg #[.int .u64 (b k).fh, .int .u64 (b k).fl, .int .u64 (b k).th, .int .u64 (b k).tl]) x := by
  match k, hk with
  | 0, _ => exact ix_b0 b x
  | 1, _ => exact ix_b1 b x
  | 2, _ => exact ix_b2 b x
  | 3, _ => exact ix_b3 b x
  | 4, _ => exact ix_b4 b x
  | 5, _ => exact ix_b5 b x
/-- Whether a range is empty. -/
def emR (r : R4) : Bool := decide (0 < cmpA r.fh r.fl r.th r.tl)
/-- Whether a box is empty. -/
def emB (b : Nat → R4) : Bool := emR (b 0) || emR (b 1) || emR (b 2) || emR (b 3) || emR (b 4) || emR (b 5)

theorem isEmpty_any (r : R4) (w : World) : Calls Try.prog 66 #[.agg #[.int .u64 r.fh, .int .u64 r.fl, .int .u64 r.th, .int .u64 r.tl]] w fun e w' => e = .returned (.bool (emR r)) ∧ Below w.heap.size w w' := by
  unfold emR
  have c1 := cmp_any r.fh r.fl r.th r.tl
  generalize cmpA r.fh r.fl r.th r.tl = X at *
  go_enter Try.func66, Try.ntmps66
  go_wp2_with (go_at_call 63; refine (c1 _).mono ?_; rintro e w1 ⟨rfl, hb⟩)
  go_ret
  exact ⟨rfl, bel_via (Below.al (Below.refl _ _) _) hb⟩

theorem emB_true {b : Nat → R4} {k : Nat} (hk : k < 6) (h : emR (b k) = true) : emB b = true := by
  unfold emB
  match k, hk with
  | 0, _ => simp [h]
  | 1, _ => simp [h]
  | 2, _ => simp [h]
  | 3, _ => simp [h]
  | 4, _ => simp [h]
  | 5, _ => simp [h]
theorem emB_false {b : Nat → R4} (h : ∀ k, k < 6 → emR (b k) = false) : emB b = false := by
  unfold emB; simp [h 0 (by omega), h 1 (by omega), h 2 (by omega), h 3 (by omega), h 4 (by omega), h 5 (by omega)]
theorem upto_succ {P : Nat → Prop} {k : Nat} (h : Hid (∀ i, i < k → P i)) (hk : P k) : Hid (∀ i, i < k + 1 → P i) := Lib.hid fun i hi => by
  by_cases e : i = k
  · rw [e]; exact hk
  · exact h.out i (by omega)
theorem upto_zero {P : Nat → Prop} : Hid (∀ i, i < 0 → P i) := Lib.hid fun i hi => absurd hi (Nat.not_lt_zero _)
theorem al_lt (w : World) (o : Obj) : w.heap.size < (w.alloc o).heap.size := by show _ < (w.heap.push o).size; simp

set_option maxRecDepth 100000 in
set_option maxHeartbeats 2000000 in
theorem empty_any (b : Nat → R4) (w : World) : Calls Try.prog 55 #[.agg (bxc b)] w fun e w' => e = .returned (.bool (emB b)) ∧ Below w.heap.size w w' := by
  obtain ⟨R, hR⟩ : ∃ R, R = emB b := ⟨_, rfl⟩
  rw [← hR]
  have HR := Lib.hid hR; clear hR
  obtain ⟨C, hC⟩ : ∃ C, C = bxc b := ⟨_, rfl⟩
  have IX := ix_b b
  have i27 := inf27 b
  have HB : ∀ w : World, BoxAt (w.alloc (.cells C 30)) w.heap.size b := fun w => BoxAt.of (t := 30) (by rw [← hC]; exact heap_alloc_new w _)
  rw [← hC] at IX i27 ⊢
  clear hC
  have HI := Lib.hid IX; clear IX
  have i27 := Lib.hid i27
  have HB := Lib.hid HB
  go_enter Try.func55, Try.ntmps55
  go_wp2_with (refine wpList_load_row rfl 28 (.tmp 5) rfl w.heap.size rfl 30 C (0, 0) _ (heap_alloc_new w _) Try.underlying28 rfl i27.out ?_)
  go_loopw [7] (fun v7 wr => ∃ k : Nat, v7 = .int .i64 k ∧ k ≤ 6 ∧ Hid (∀ i, i < k → emR (b i) = false) ∧ Below w.heap.size w wr) (fun v7 _ => 6 - (intOf v7).toNat)
  case atStart => exact ⟨0, rfl, by omega, upto_zero, Below.al (Below.refl _ _) _⟩
  case round =>
    obtain ⟨k, rfl, hk, hF, bw⟩ := hrel
    by_cases hk6 : k < 6
    · have ix := HI.out k hk6
      have ce := isEmpty_any (b k)
      generalize hX : emR (b k) = X at ce
      cases X with
      | true =>
        obtain rfl : R = true := by rw [HR.out]; exact emB_true hk6 hX
        clear hX hF HR
        go_wp2_with (go_at_call 66; refine (ce _).mono ?_; rintro e w1 ⟨rfl, hb⟩)
        go_ret
        exact ⟨rfl, bel_via (Below.al bw _) hb⟩
      | false =>
        have H := upto_succ hF hX; clear hX hF
        go_wp2_with (go_at_call 66; refine (ce _).mono ?_; rintro e w1 ⟨rfl, hb⟩)
        exact ⟨⟨k + 1, by simp, by omega, H, bel_via (Below.al bw _) hb⟩, by simp [intOf]; omega⟩
    · obtain rfl : k = 6 := by omega
      obtain rfl : R = false := by rw [HR.out]; exact emB_false hF.out
      clear hF HR
      go_wp2
      go_ret
      exact ⟨rfl, bw⟩

/-- The document: less. -/
theorem rless_em (r : R4) (w : World) : Calls Try.prog 36 #[.agg #[.int .u64 r.th, .int .u64 r.tl], .agg #[.int .u64 r.fh, .int .u64 r.fl]] w fun e w' => e = .returned (.bool (emR r)) ∧ Below w.heap.size w w' :=
  (rless_any r.th r.tl r.fh r.fl w).mono fun e w' ⟨he, hb⟩ => ⟨by rw [he]; unfold emR; rw [cmpA_swap r.fh r.fl r.th r.tl]; congr 2; simp, hb⟩

set_option maxRecDepth 100000 in
set_option maxHeartbeats 2000000 in
theorem rempty_any (b : Nat → R4) (w : World) : Calls Try.prog 46 #[.agg (bxc b)] w fun e w' => e = .returned (.bool (emB b)) ∧ Below w.heap.size w w' := by
  obtain ⟨R, hR⟩ : ∃ R, R = emB b := ⟨_, rfl⟩
  rw [← hR]
  have HR := Lib.hid hR; clear hR
  obtain ⟨C, hC⟩ : ∃ C, C = bxc b := ⟨_, rfl⟩
  have IX := ix_b b
  have i27 := inf27 b
  have HB : ∀ w : World, BoxAt (w.alloc (.cells C 30)) w.heap.size b := fun w => BoxAt.of (t := 30) (by rw [← hC]; exact heap_alloc_new w _)
  rw [← hC] at IX i27 ⊢
  clear hC
  have HI := Lib.hid IX; clear IX
  have i27 := Lib.hid i27
  have HB := Lib.hid HB
  go_enter Try.func46, Try.ntmps46
  have hB := HB.out w
  clear HB
  go_wp2_with fail
  obtain ⟨w0, hw0⟩ : ∃ w0, w0 = w.alloc (.cells C 30) := ⟨_, rfl⟩
  have b0 : Below w.heap.size w w0 := by rw [hw0]; exact Below.al (Below.refl _ _) _
  rw [← hw0] at hB ⊢
  have hs : w.heap.size < w0.heap.size := by rw [hw0]; exact al_lt _ _
  clear hw0
  go_loopw [3] (fun v3 wr => ∃ k : Nat, v3 = .int .i64 k ∧ k ≤ 6 ∧ Hid (∀ i, i < k → emR (b i) = false) ∧ Below w0.heap.size w0 wr) (fun v3 _ => 6 - (intOf v3).toNat)
  case atStart => exact ⟨0, rfl, by omega, upto_zero, Below.refl _ _⟩
  case round =>
    obtain ⟨k, rfl, hk, hF, bw⟩ := hrel
    by_cases hk6 : k < 6
    · have ce := rless_em (b k)
      obtain ⟨y0, y1, y2, y3⟩ := hB.keep bw k hk6
      generalize hX : emR (b k) = X at ce
      cases X with
      | true =>
        obtain rfl : R = true := by rw [HR.out]; exact emB_true hk6 hX
        clear hX hF HR
        go_wp2
        have k_y0 := cell_regrown y0
        have k_y1 := cell_regrown y1
        have k_y2 := cell_regrown y2
        have k_y3 := cell_regrown y3
        have q := fun d os => Calls.regrown_of (ce (grow (redrawn wr d) os))
        clear y0 y1 y2 y3
        refine wp_region_quiet_below (by kernel_rfl) (by kernel_rfl) ?_
        repeat (first | go_big_quiet_skip | quiet_step (first | (go_at_call 36; with_reducible exact q _ _)))
        refine wpQuiet_nil ?_
        intro _ hw'
        obtain ⟨⟨dq, osq⟩, hw''⟩ := hw'
        subst hw''
        go_wp2
        go_ret
        exact ⟨rfl, bel_via b0 (bel_via bw (below_regrown wr dq osq))⟩
      | false =>
        have H := upto_succ hF hX; clear hX hF
        go_wp2
        have k_y0 := cell_regrown y0
        have k_y1 := cell_regrown y1
        have k_y2 := cell_regrown y2
        have k_y3 := cell_regrown y3
        have q := fun d os => Calls.regrown_of (ce (grow (redrawn wr d) os))
        clear y0 y1 y2 y3
        refine wp_region_quiet_below (by kernel_rfl) (by kernel_rfl) ?_
        repeat (first | go_big_quiet_skip | quiet_step (first | (go_at_call 36; with_reducible exact q _ _)))
        refine wpQuiet_nil ?_
        intro _ hw'
        obtain ⟨⟨dq, osq⟩, hw''⟩ := hw'
        subst hw''
        go_wp2
        exact ⟨⟨k + 1, by simp, by omega, H, bel_via bw (below_regrown wr dq osq)⟩, by simp [intOf]; omega⟩
    · obtain rfl : k = 6 := by omega
      obtain rfl : R = false := by rw [HR.out]; exact emB_false hF.out
      clear hF HR
      go_wp2
      go_ret
      exact ⟨rfl, bel_via b0 bw⟩

end Go.Proofs.Ytomennaekjklbaa
