/- A range that may not be printed: the program's way; by-name template. -/
import Derived.Test.YtmnnjkdmnfadhaaGreatDoorARngB
import Derived.Lib.QuietBelow
namespace Go.Proofs.YtmnnjkdmnfadhaaGreatDoor
open Go.RowKit Go.Sort
set_option linter.unusedVariables false
set_option linter.unusedSimpArgs false

set_option maxHeartbeats 400000 in
set_option maxRecDepth 100000 in
theorem prange_bad (fh fl th tl : Nat) (h0 : fh < 18446744073709551616) (h1 : fl < 18446744073709551616) (h2 : th < 18446744073709551616) (h3 : tl < 18446744073709551616) (hc : 0 < cmpA (fh : Int) fl th tl ∨ is4I (fh : Int) fl ≠ is4I (th : Int) tl) (w : World) : Calls Tryz.prog 52 #[.agg #[.int .u64 (fh : Nat), .int .u64 (fl : Nat), .int .u64 (th : Nat), .int .u64 (tl : Nat)]] w fun e w' => e = .returned (.tuple #[.string ByteArray.empty, .int .i64 31]) ∧ Below w.heap.size w w' := by
  have cb := fun W => pbits_any (fh : Int) (fl : Int) (th : Int) (tl : Int) ⟨by omega, by omega⟩ ⟨by omega, by omega⟩ W
  have ccm := cmp_any (fh : Int) (fl : Int) (th : Int) (tl : Int)
  have ci1 := is4_any (fh : Int) (fl : Int) ⟨by omega, by omega⟩ ⟨by omega, by omega⟩
  have ci2 := is4_any (th : Int) (tl : Int) ⟨by omega, by omega⟩ ⟨by omega, by omega⟩
  obtain ⟨c, hce⟩ : ∃ c, c = cmpA (fh : Int) fl th tl := ⟨_, rfl⟩
  rw [← hce] at ccm hc
  obtain ⟨i1, hie⟩ : ∃ i, i = is4I (fh : Int) fl := ⟨_, rfl⟩
  obtain ⟨i2, hie2⟩ : ∃ i, i = is4I (th : Int) tl := ⟨_, rfl⟩
  rw [← hie] at ci1 hc
  rw [← hie2] at ci2 hc
  clear hce hie hie2
  have f0 : (fh : Int) < 18446744073709551616 := by omega
  have f1 : (fl : Int) < 18446744073709551616 := by omega
  have f2 : (th : Int) < 18446744073709551616 := by omega
  have f3 : (tl : Int) < 18446744073709551616 := by omega
  go_enter Tryz.func52, Tryz.ntmps52
  go_wp2_with (go_at_call 103; refine (cb _).mono ?_; rintro e w1 ⟨n, ok, rfl, hok, hb1, -, -⟩; refine Hid.out ?_)
  have bw1 : Below w.heap.size w w1 := bel_via (Below.al (Below.refl _ _) _) hb1
  have hR1 : w1.heap[w.heap.size]? = some (.cells #[.int .u64 (fh : Nat), .int .u64 (fl : Nat), .int .u64 (th : Nat), .int .u64 (tl : Nat)] 45 (0, 0)) := by rw [hb1.block _ (by simp)]; exact al_new rfl _
  obtain ⟨BR, hBR⟩ : ∃ b, b = w.heap.size := ⟨_, rfl⟩
  rw [← hBR] at hR1
  rw [← hBR]
  have hlt1 : BR < w1.heap.size := (Array.getElem?_eq_some_iff.1 hR1).1
  obtain ⟨c0, c1, c2, c3⟩ := rcells_of hR1
  have hC1 : ∀ w', Below w1.heap.size w1 w' → w'.cell? ⟨BR, 0, none⟩ = some (.int .u64 (fh : Nat)) ∧ w'.cell? ⟨BR, 1, none⟩ = some (.int .u64 (fl : Nat)) ∧ w'.cell? ⟨BR, 2, none⟩ = some (.int .u64 (th : Nat)) ∧ w'.cell? ⟨BR, 3, none⟩ = some (.int .u64 (tl : Nat)) :=
    fun w' h => ⟨keepc h c0, keepc h c1, keepc h c2, keepc h c3⟩
  clear hBR c0 c1 c2 c3 hb1 hR1 cb
  refine Lib.hid ?_
  go_wp2
  obtain ⟨c0, c1, c2, c3⟩ := hC1 w1 (Below.refl _ _)
  have k0 := cell_regrown c0
  have k1 := cell_regrown c1
  have k2 := cell_regrown c2
  have k3 := cell_regrown c3
  have qm := fun d os => Calls.regrown_of (ccm (grow (redrawn w1 d) os))
  have q1 := fun d os => Calls.regrown_of (ci1 (grow (redrawn w1 d) os))
  have q2 := fun d os => Calls.regrown_of (ci2 (grow (redrawn w1 d) os))
  clear c0 c1 c2 c3 hC1
  by_cases hcp : 0 < c
  · have hcd : decide (0 < c) = true := by simp; exact hcp
    clear hc
    refine wp_region_quiet_below (by kernel_rfl) (by kernel_rfl) ?_
    repeat (first | go_big_quiet_skip | quiet_step (first | (go_at_call 104; with_reducible exact qm _ _) | (go_at_call_of 105 (Value.agg #[Value.int IntKind.u64 (fh : Int), Value.int IntKind.u64 (fl : Int)]); with_reducible exact q1 _ _) | (go_at_call 105; with_reducible exact q2 _ _)))
    refine wpQuiet_nil ?_
    intro _ hw'
    obtain ⟨⟨dq, osq⟩, hw''⟩ := hw'
    subst hw''
    go_wp2
    go_ret2
    exact ⟨rfl, bel_via bw1 (below_regrown w1 dq osq)⟩
  · have hcd : decide (0 < c) = false := by simp; omega
    have hne : i1 ≠ i2 := by rcases hc with h | h; exact absurd h hcp; exact h
    clear hc hcp
    cases i1 with
    | false =>
      cases i2 with
      | false => exact absurd rfl hne
      | true =>
        clear hne
        refine wp_region_quiet_below (by kernel_rfl) (by kernel_rfl) ?_
        repeat (first | go_big_quiet_skip | quiet_step (first | (go_at_call 104; with_reducible exact qm _ _) | (go_at_call_of 105 (Value.agg #[Value.int IntKind.u64 (fh : Int), Value.int IntKind.u64 (fl : Int)]); with_reducible exact q1 _ _) | (go_at_call 105; with_reducible exact q2 _ _)))
        refine wpQuiet_nil ?_
        intro _ hw'
        obtain ⟨⟨dq, osq⟩, hw''⟩ := hw'
        subst hw''
        go_wp2
        go_ret2
        exact ⟨rfl, bel_via bw1 (below_regrown w1 dq osq)⟩
    | true =>
      cases i2 with
      | true => exact absurd rfl hne
      | false =>
        clear hne
        refine wp_region_quiet_below (by kernel_rfl) (by kernel_rfl) ?_
        repeat (first | go_big_quiet_skip | quiet_step (first | (go_at_call 104; with_reducible exact qm _ _) | (go_at_call_of 105 (Value.agg #[Value.int IntKind.u64 (fh : Int), Value.int IntKind.u64 (fl : Int)]); with_reducible exact q1 _ _) | (go_at_call 105; with_reducible exact q2 _ _)))
        refine wpQuiet_nil ?_
        intro _ hw'
        obtain ⟨⟨dq, osq⟩, hw''⟩ := hw'
        subst hw''
        go_wp2
        go_ret2
        exact ⟨rfl, bel_via bw1 (below_regrown w1 dq osq)⟩
end Go.Proofs.YtmnnjkdmnfadhaaGreatDoor
