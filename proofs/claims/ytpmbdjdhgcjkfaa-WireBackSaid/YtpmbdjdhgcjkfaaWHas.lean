/- Whether addresses are of a family; by-name template (gen_whas.py). -/
import Derived.Test.YtpmbdjdhgcjkfaaWView
namespace Go.Proofs.Ytpmbdjdhgcjkfaa
open Go.RowKit Go.Sort
set_option linter.unusedVariables false
set_option linter.unusedSimpArgs false

def hasP (v6 : Bool) (zs : List (Int × Int)) : Bool := zs.all fun a => is4I a.1 a.2 != v6
def AdrsAt (w : World) (g o : Nat) (zs : List (Int × Int)) : Prop := ∀ (k : Nat) (a : Int × Int), zs[k]? = some a → w.cell? ⟨g, o + k * 2, none⟩ = some (.int .u64 a.1) ∧ w.cell? ⟨g, o + k * 2 + 1, none⟩ = some (.int .u64 a.2) ∧ Word a.1 ∧ Word a.2

theorem hasP_snoc (v6 : Bool) (zs : List (Int × Int)) (k : Nat) (a : Int × Int) (h : zs[k]? = some a) : hasP v6 (zs.take (k + 1)) = (hasP v6 (zs.take k) && (is4I a.1 a.2 != v6)) := by
  unfold hasP
  rw [List.take_add_one, h, List.all_append]; simp
theorem hasP_no (v6 : Bool) (zs : List (Int × Int)) (k : Nat) (a : Int × Int) (h : zs[k]? = some a) (hx : is4I a.1 a.2 = v6) : hasP v6 zs = false := by
  unfold hasP
  rw [List.all_eq_false]
  exact ⟨a, List.mem_of_getElem? h, by simp [hx]⟩

set_option maxHeartbeats 2000000 in
set_option maxRecDepth 100000 in
theorem has_false (g o n c : Nat) (zs : List (Int × Int)) (hn : zs.length = n) (hnm : n ≤ 1000) {w : World} (hA : AdrsAt w g o zs) :
    Calls Try.prog 29 #[.agg (famCells false), .slice (some ⟨g, o, none⟩) n c] w fun e w' => e = .returned (.bool (hasP false zs)) ∧ Below w.heap.size w w' := by
  have HN := Lib.hid hn
  have HA := Lib.hid hA
  clear hn hA
  have hni : (n : Int) ≤ 1000 := by omega
  simp only [famCells, if_true, if_false, Bool.false_eq_true]
  go_enter Try.func29, Try.ntmps29
  go_wp2
  go_loopw [9] (fun v9 wr => ∃ k : Nat, v9 = .int .i64 k ∧ k ≤ n ∧ Below w.heap.size w wr ∧ wr.heap[w.heap.size]? = some (.cells #[.bool false, .int .i64 20, .int .i64 8, .int .i64 9, .int .i64 12, .int .i64 4] 69 (0, 0)) ∧ Hid (hasP false (zs.take k) = true)) (fun v9 _ => n - (intOf v9).toNat)
  case atStart => exact ⟨0, rfl, by omega, by repeat (first | exact Below.refl _ _ | apply Below.dr | apply Below.al), al_neww rfl _, Lib.hid rfl⟩
  case round =>
    obtain ⟨k, rfl, hk, hbr, hF, hh⟩ := hrel
    have hsz : w.heap.size < wr.heap.size := (Array.getElem?_eq_some_iff.1 hF).1
    by_cases hlt : k < n
    · obtain ⟨a, ha⟩ : ∃ a, zs[k]? = some a := ⟨zs[k]'(by have := HN.out; omega), List.getElem?_eq_getElem _⟩
      obtain ⟨d0, d1, wX, wY⟩ := HA.out k a ha
      have c0 := keepc hbr d0
      have c1 := keepc hbr d1
      have hki : (k : Int) < (n : Int) := by omega
      clear d0 d1
      obtain ⟨X, Y⟩ := a
      simp only at c0 c1 wX wY
      have hs1 := hasP_snoc false zs k _ ha
      have hs2 := hasP_no false zs k _ ha
      simp only at hs1 hs2
      by_cases hx : is4I X Y = true
      · rw [hx, hh.out] at hs1
        have H1 := Lib.hid hs1
        clear hs1 hs2 ha hh
        go_wp2
        obtain ⟨w5, hw5⟩ : ∃ v, v = wr.alloc (.cells #[.int .u64 X, .int .u64 Y] 25) := ⟨_, rfl⟩
        have hL5 : w5.heap[wr.heap.size]? = some (.cells #[.int .u64 X, .int .u64 Y] 25 (0, 0)) := by rw [hw5]; exact al_neww rfl _
        have hF5 : w5.heap[w.heap.size]? = some (.cells #[.bool false, .int .i64 20, .int .i64 8, .int .i64 9, .int .i64 12, .int .i64 4] 69 (0, 0)) := by rw [hw5, al_oldw hsz]; exact hF
        have hz5 : w.heap.size < w5.heap.size := (Array.getElem?_eq_some_iff.1 hF5).1
        have bw5 : Below w.heap.size w w5 := by rw [hw5]; exact Below.al hbr _
        obtain ⟨⟨f0, _⟩, _⟩ := cells6 hF5
        obtain ⟨a0, a1, _⟩ := cells2 hL5
        have k0 := cell_regrown f0
        have k1 := cell_regrown a0
        have k2 := cell_regrown a1
        have q1 := fun d os => Calls.regrown_of (is4_any X Y wX wY (grow (redrawn w5 d) os))
        simp only [hx] at q1
        rw [← hw5]
        clear hw5 hL5 f0 a0 a1 c0 c1 hx
        refine wp_region_quiet_below (by kernel_rfl) (by kernel_rfl) ?_
        repeat (first | go_big_quiet_skip | quiet_step (first | (go_at_call 59; with_reducible exact q1 _ _)))
        refine wpQuiet_nil ?_
        intro _ hw'
        obtain ⟨⟨dq, osq⟩, hw''⟩ := hw'
        subst hw''
        go_wp2
        exact ⟨⟨k + 1, by simp, by omega, bw5.trans ((below_regrown w5 dq osq).mono bw5.size), by rw [(below_regrown w5 dq osq).block _ hz5]; exact hF5, Lib.hid (by rw [H1.out]; rfl)⟩, by simp [intOf]; omega⟩
      · have hx2 : is4I X Y = false := by simpa using hx
        clear hx
        have hx := hx2
        clear hx2
        have H1 := Lib.hid (hs2 hx)
        clear hs1 hs2 ha hh
        go_wp2
        obtain ⟨w5, hw5⟩ : ∃ v, v = wr.alloc (.cells #[.int .u64 X, .int .u64 Y] 25) := ⟨_, rfl⟩
        have hL5 : w5.heap[wr.heap.size]? = some (.cells #[.int .u64 X, .int .u64 Y] 25 (0, 0)) := by rw [hw5]; exact al_neww rfl _
        have hF5 : w5.heap[w.heap.size]? = some (.cells #[.bool false, .int .i64 20, .int .i64 8, .int .i64 9, .int .i64 12, .int .i64 4] 69 (0, 0)) := by rw [hw5, al_oldw hsz]; exact hF
        have hz5 : w.heap.size < w5.heap.size := (Array.getElem?_eq_some_iff.1 hF5).1
        have bw5 : Below w.heap.size w w5 := by rw [hw5]; exact Below.al hbr _
        obtain ⟨⟨f0, _⟩, _⟩ := cells6 hF5
        obtain ⟨a0, a1, _⟩ := cells2 hL5
        have k0 := cell_regrown f0
        have k1 := cell_regrown a0
        have k2 := cell_regrown a1
        have q1 := fun d os => Calls.regrown_of (is4_any X Y wX wY (grow (redrawn w5 d) os))
        simp only [hx] at q1
        rw [← hw5]
        clear hw5 hL5 f0 a0 a1 c0 c1 hx
        refine wp_region_quiet_below (by kernel_rfl) (by kernel_rfl) ?_
        repeat (first | go_big_quiet_skip | quiet_step (first | (go_at_call 59; with_reducible exact q1 _ _)))
        refine wpQuiet_nil ?_
        intro _ hw'
        obtain ⟨⟨dq, osq⟩, hw''⟩ := hw'
        subst hw''
        go_wp2
        go_ret
        exact ⟨by rw [H1.out]; rfl, bw5.trans ((below_regrown w5 dq osq).mono bw5.size)⟩
    · have hkn : k = n := by omega
      have hki : decide ((k : Int) < (n : Int)) = false := by simp; omega
      have e : hasP false zs = true := by have h9 := hh.out; rwa [List.take_of_length_le (by have := HN.out; omega)] at h9
      have H2 := Lib.hid e
      clear e hh hkn
      go_wp2
      go_ret
      exact ⟨by rw [H2.out]; rfl, hbr⟩

set_option maxHeartbeats 2000000 in
set_option maxRecDepth 100000 in
theorem has_true (g o n c : Nat) (zs : List (Int × Int)) (hn : zs.length = n) (hnm : n ≤ 1000) {w : World} (hA : AdrsAt w g o zs) :
    Calls Try.prog 29 #[.agg (famCells true), .slice (some ⟨g, o, none⟩) n c] w fun e w' => e = .returned (.bool (hasP true zs)) ∧ Below w.heap.size w w' := by
  have HN := Lib.hid hn
  have HA := Lib.hid hA
  clear hn hA
  have hni : (n : Int) ≤ 1000 := by omega
  simp only [famCells, if_true, if_false, Bool.false_eq_true]
  go_enter Try.func29, Try.ntmps29
  go_wp2
  go_loopw [9] (fun v9 wr => ∃ k : Nat, v9 = .int .i64 k ∧ k ≤ n ∧ Below w.heap.size w wr ∧ wr.heap[w.heap.size]? = some (.cells #[.bool true, .int .i64 40, .int .i64 7, .int .i64 6, .int .i64 8, .int .i64 16] 69 (0, 0)) ∧ Hid (hasP true (zs.take k) = true)) (fun v9 _ => n - (intOf v9).toNat)
  case atStart => exact ⟨0, rfl, by omega, by repeat (first | exact Below.refl _ _ | apply Below.dr | apply Below.al), al_neww rfl _, Lib.hid rfl⟩
  case round =>
    obtain ⟨k, rfl, hk, hbr, hF, hh⟩ := hrel
    have hsz : w.heap.size < wr.heap.size := (Array.getElem?_eq_some_iff.1 hF).1
    by_cases hlt : k < n
    · obtain ⟨a, ha⟩ : ∃ a, zs[k]? = some a := ⟨zs[k]'(by have := HN.out; omega), List.getElem?_eq_getElem _⟩
      obtain ⟨d0, d1, wX, wY⟩ := HA.out k a ha
      have c0 := keepc hbr d0
      have c1 := keepc hbr d1
      have hki : (k : Int) < (n : Int) := by omega
      clear d0 d1
      obtain ⟨X, Y⟩ := a
      simp only at c0 c1 wX wY
      have hs1 := hasP_snoc true zs k _ ha
      have hs2 := hasP_no true zs k _ ha
      simp only at hs1 hs2
      by_cases hx : is4I X Y = false
      · rw [hx, hh.out] at hs1
        have H1 := Lib.hid hs1
        clear hs1 hs2 ha hh
        go_wp2
        obtain ⟨w5, hw5⟩ : ∃ v, v = wr.alloc (.cells #[.int .u64 X, .int .u64 Y] 25) := ⟨_, rfl⟩
        have hL5 : w5.heap[wr.heap.size]? = some (.cells #[.int .u64 X, .int .u64 Y] 25 (0, 0)) := by rw [hw5]; exact al_neww rfl _
        have hF5 : w5.heap[w.heap.size]? = some (.cells #[.bool true, .int .i64 40, .int .i64 7, .int .i64 6, .int .i64 8, .int .i64 16] 69 (0, 0)) := by rw [hw5, al_oldw hsz]; exact hF
        have hz5 : w.heap.size < w5.heap.size := (Array.getElem?_eq_some_iff.1 hF5).1
        have bw5 : Below w.heap.size w w5 := by rw [hw5]; exact Below.al hbr _
        obtain ⟨⟨f0, _⟩, _⟩ := cells6 hF5
        obtain ⟨a0, a1, _⟩ := cells2 hL5
        have k0 := cell_regrown f0
        have k1 := cell_regrown a0
        have k2 := cell_regrown a1
        have q1 := fun d os => Calls.regrown_of (is4_any X Y wX wY (grow (redrawn w5 d) os))
        simp only [hx] at q1
        rw [← hw5]
        clear hw5 hL5 f0 a0 a1 c0 c1 hx
        refine wp_region_quiet_below (by kernel_rfl) (by kernel_rfl) ?_
        repeat (first | go_big_quiet_skip | quiet_step (first | (go_at_call 59; with_reducible exact q1 _ _)))
        refine wpQuiet_nil ?_
        intro _ hw'
        obtain ⟨⟨dq, osq⟩, hw''⟩ := hw'
        subst hw''
        go_wp2
        exact ⟨⟨k + 1, by simp, by omega, bw5.trans ((below_regrown w5 dq osq).mono bw5.size), by rw [(below_regrown w5 dq osq).block _ hz5]; exact hF5, Lib.hid (by rw [H1.out]; rfl)⟩, by simp [intOf]; omega⟩
      · have hx2 : is4I X Y = true := by simpa using hx
        clear hx
        have hx := hx2
        clear hx2
        have H1 := Lib.hid (hs2 hx)
        clear hs1 hs2 ha hh
        go_wp2
        obtain ⟨w5, hw5⟩ : ∃ v, v = wr.alloc (.cells #[.int .u64 X, .int .u64 Y] 25) := ⟨_, rfl⟩
        have hL5 : w5.heap[wr.heap.size]? = some (.cells #[.int .u64 X, .int .u64 Y] 25 (0, 0)) := by rw [hw5]; exact al_neww rfl _
        have hF5 : w5.heap[w.heap.size]? = some (.cells #[.bool true, .int .i64 40, .int .i64 7, .int .i64 6, .int .i64 8, .int .i64 16] 69 (0, 0)) := by rw [hw5, al_oldw hsz]; exact hF
        have hz5 : w.heap.size < w5.heap.size := (Array.getElem?_eq_some_iff.1 hF5).1
        have bw5 : Below w.heap.size w w5 := by rw [hw5]; exact Below.al hbr _
        obtain ⟨⟨f0, _⟩, _⟩ := cells6 hF5
        obtain ⟨a0, a1, _⟩ := cells2 hL5
        have k0 := cell_regrown f0
        have k1 := cell_regrown a0
        have k2 := cell_regrown a1
        have q1 := fun d os => Calls.regrown_of (is4_any X Y wX wY (grow (redrawn w5 d) os))
        simp only [hx] at q1
        rw [← hw5]
        clear hw5 hL5 f0 a0 a1 c0 c1 hx
        refine wp_region_quiet_below (by kernel_rfl) (by kernel_rfl) ?_
        repeat (first | go_big_quiet_skip | quiet_step (first | (go_at_call 59; with_reducible exact q1 _ _)))
        refine wpQuiet_nil ?_
        intro _ hw'
        obtain ⟨⟨dq, osq⟩, hw''⟩ := hw'
        subst hw''
        go_wp2
        go_ret
        exact ⟨by rw [H1.out]; rfl, bw5.trans ((below_regrown w5 dq osq).mono bw5.size)⟩
    · have hkn : k = n := by omega
      have hki : decide ((k : Int) < (n : Int)) = false := by simp; omega
      have e : hasP true zs = true := by have h9 := hh.out; rwa [List.take_of_length_le (by have := HN.out; omega)] at h9
      have H2 := Lib.hid e
      clear e hh hkn
      go_wp2
      go_ret
      exact ⟨by rw [H2.out]; rfl, hbr⟩

theorem has_any (v6 : Bool) (g o n c : Nat) (zs : List (Int × Int)) (hn : zs.length = n) (hnm : n ≤ 1000) {w : World} (hA : AdrsAt w g o zs) :
    Calls Try.prog 29 #[.agg (famCells v6), .slice (some ⟨g, o, none⟩) n c] w fun e w' => e = .returned (.bool (hasP v6 zs)) ∧ Below w.heap.size w w' := by
  cases v6
  · exact has_false g o n c zs hn hnm hA
  · exact has_true g o n c zs hn hnm hA
end Go.Proofs.Ytpmbdjdhgcjkfaa
