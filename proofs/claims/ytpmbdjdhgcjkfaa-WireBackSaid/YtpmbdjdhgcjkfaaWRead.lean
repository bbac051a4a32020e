/- A body's ports read; by-name template (gen_wread.py). -/
import Derived.Test.YtpmbdjdhgcjkfaaWPorts
namespace Go.Proofs.Ytpmbdjdhgcjkfaa
open Go.RowKit Go.Sort
set_option linter.unusedVariables false
set_option linter.unusedSimpArgs false

set_option maxHeartbeats 2000000 in
set_option maxRecDepth 100000 in
theorem read_any (g o c n a b : Nat) (l : List UInt8) (hn : l.length = n) (ha : a + 2 ≤ n) (hb2 : b + 2 ≤ n) (ha8 : a ≤ 8) (hb8 : b ≤ 8) (hc : n ≤ c) (hcm : c ≤ 9223372036854775807) {w : World} (hb : Byt w g o l) :
    Calls Try.prog 78 #[.agg #[.int .i64 (a : Nat), .int .i64 (b : Nat)], .slice (some ⟨g, o, none⟩) n c] w fun e w' => e = .returned (.tuple #[.int .i64 (nbN l a 2 : Nat), .int .i64 (nbN l b 2 : Nat)]) ∧ Below w.heap.size w w' := by
  have sa := cut_lh g o n c a (a + 2) (by omega) (by omega) (by omega) hcm
  have sb := cut_lh g o n c b (b + 2) (by omega) (by omega) (by omega) hcm
  rw [show ((a + 2 : Nat) : Int) = (a : Int) + 2 by omega, show a + 2 - a = 2 by omega] at sa
  rw [show ((b + 2 : Nat) : Int) = (b : Int) + 2 by omega, show b + 2 - b = 2 by omega] at sb
  have na := nb_eq g o n c a 2 l hn (by omega) (by omega) hb
  have nb := nb_eq g o n c b 2 l hn (by omega) (by omega) hb
  have hA := nb2_lt l a
  have hB := nb2_lt l b
  generalize nbN l a 2 = VA at *
  generalize nbN l b 2 = VB at *
  have wA : IntKind.i64.wrap (VA : Int) = (VA : Int) := by rw [IntKind.wrap_i64]; omega
  have wB : IntKind.i64.wrap (VB : Int) = (VB : Int) := by rw [IntKind.wrap_i64]; omega
  have wa : IntKind.i64.wrap ((a : Int) + 2) = (a : Int) + 2 := by rw [IntKind.wrap_i64]; omega
  have wb : IntKind.i64.wrap ((b : Int) + 2) = (b : Int) + 2 := by rw [IntKind.wrap_i64]; omega
  clear hb hn
  go_enter Try.func78, Try.ntmps78
  go_wp2
  go_loopw [8] (fun v8 wr => ∃ k : Nat, v8 = .int .i64 k ∧ k ≤ 2 ∧ Below w.heap.size w wr ∧ wr.heap[w.heap.size]? = some (.cells #[.int .i64 (a : Nat), .int .i64 (b : Nat)] 76 (0, 0)) ∧ wr.heap[w.heap.size + 1]? = some (.cells #[.int .i64 (if k = 0 then 0 else (VA : Int)), .int .i64 (if k = 2 then (VB : Int) else 0)] 75 (0, 0))) (fun v8 _ => 2 - (intOf v8).toNat)
  case atStart => exact ⟨0, rfl, by omega, by repeat (first | exact Below.refl _ _ | apply Below.dr | apply Below.al), (al_oldw (by first | (simp; done) | (simp; omega)) _).trans (al_neww rfl _), al_neww (by simp) _⟩
  case round =>
    obtain ⟨k, rfl, hk, hbr, hP, hL⟩ := hrel
    match k, hk with
    | 0, _ =>
      obtain ⟨p0, p1, _⟩ := cells2 hP
      obtain ⟨l0, l1, m0, m1⟩ := cells2 hL
      go_wp2_with fail
      have cn := (na wr.drew (Below.dr hbr)).mono (fun e w' h => (⟨h.1, h.2.symm⟩ : e = .returned (.int .u64 (VA : Nat)) ∧ w' = wr.drew))
      refine wp_region_still_tail 13 (by kernel_rfl) (by kernel_rfl) ?_
      simp only [List.take_succ_cons, List.take_zero, List.drop_succ_cons, List.drop_zero]
      repeat (first | still_step | still_call cn)
      try refine wpStill_nil ?_
      change wpList _ _ _ _ _ wr.drew
      have hbd : Below w.heap.size w wr.drew := Below.dr hbr
      have hPd : wr.drew.heap[w.heap.size]? = some (.cells #[.int .i64 (a : Nat), .int .i64 (b : Nat)] 76 (0, 0)) := hP
      have hLd : wr.drew.heap[w.heap.size + 1]? = _ := hL
      clear hbr hP hL p0 p1 l0 l1 m0 m1 cn
      generalize wr.drew = wd at *
      obtain ⟨l0, l1, m0, m1⟩ := cells2 hLd
      go_wp2
      refine ⟨⟨1, by simp, by omega, below_set (B := w.heap.size + 1) hbd (by omega) 0 _, ?_, ?_⟩, by simp [intOf]⟩
      · rw [set_other (by omega)]; exact hPd
      · simp [World.setCell, Array.getElem?_modify, hLd]
    | 1, _ =>
      obtain ⟨p0, p1, _⟩ := cells2 hP
      obtain ⟨l0, l1, m0, m1⟩ := cells2 hL
      go_wp2_with fail
      have cn := (nb wr.drew (Below.dr hbr)).mono (fun e w' h => (⟨h.1, h.2.symm⟩ : e = .returned (.int .u64 (VB : Nat)) ∧ w' = wr.drew))
      refine wp_region_still_tail 13 (by kernel_rfl) (by kernel_rfl) ?_
      simp only [List.take_succ_cons, List.take_zero, List.drop_succ_cons, List.drop_zero]
      repeat (first | still_step | still_call cn)
      try refine wpStill_nil ?_
      change wpList _ _ _ _ _ wr.drew
      have hbd : Below w.heap.size w wr.drew := Below.dr hbr
      have hPd : wr.drew.heap[w.heap.size]? = some (.cells #[.int .i64 (a : Nat), .int .i64 (b : Nat)] 76 (0, 0)) := hP
      have hLd : wr.drew.heap[w.heap.size + 1]? = _ := hL
      clear hbr hP hL p0 p1 l0 l1 m0 m1 cn
      generalize wr.drew = wd at *
      obtain ⟨l0, l1, m0, m1⟩ := cells2 hLd
      go_wp2
      refine ⟨⟨2, by simp, by omega, below_set (B := w.heap.size + 1) hbd (by omega) 1 _, ?_, ?_⟩, by simp [intOf]⟩
      · rw [set_other (by omega)]; exact hPd
      · simp [World.setCell, Array.getElem?_modify, hLd]
    | 2, _ =>
      have hL2 : wr.heap[w.heap.size + 1]? = some (.cells #[.int .i64 (VA : Int), .int .i64 (VB : Int)] 75 (0, 0)) := by simpa using hL
      obtain ⟨l0, l1, _⟩ := cells2 hL2
      clear na nb sa sb hP hL
      go_wp2_with fail
      have k0 := cell_regrown l0
      have k1 := cell_regrown l1
      refine wp_region_quiet_below (by kernel_rfl) (by kernel_rfl) ?_
      repeat (first | go_big_quiet_skip | quiet_step (fail))
      refine wpQuiet_nil ?_
      intro _ hw'
      obtain ⟨⟨dq, osq⟩, hw''⟩ := hw'
      subst hw''
      go_wp2
      go_ret2
      exact ⟨rfl, hbr.trans ((below_regrown wr dq osq).mono hbr.size)⟩
end Go.Proofs.Ytpmbdjdhgcjkfaa
