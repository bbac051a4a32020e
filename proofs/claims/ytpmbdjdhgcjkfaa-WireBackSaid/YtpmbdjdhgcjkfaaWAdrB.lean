/- Addresses laid down as bytes; by-name template (gen_wadrb.py). -/
import Derived.Test.YtpmbdjdhgcjkfaaWPair
namespace Go.Proofs.Ytpmbdjdhgcjkfaa
open Go.RowKit Go.Sort
set_option linter.unusedVariables false
set_option linter.unusedSimpArgs false

theorem blkKeep {X w' : World} {B : Nat} {o : Obj} (hb : Below X.heap.size X w') (h : X.heap[B]? = some o) : w'.heap[B]? = some o :=
  (hb.block _ (Array.getElem?_eq_some_iff.1 h).1).trans h

theorem room_new (w : World) (n : Nat) (z : Value) (t : TypeId) : Room (w.alloc (.cells (Array.replicate n z) t)) w.heap.size 0 n := by
  intro j hj
  have h : (w.alloc (.cells (Array.replicate n z) t)).heap[w.heap.size]? = some (.cells (Array.replicate n z) t (0, 0)) := al_neww rfl _
  refine ⟨⟨z, ?_⟩, ?_⟩
  · simp only [World.cell?, h]; simp [Array.getElem?_replicate, hj]
  · simp only [World.frozen?, h]; simp

set_option maxHeartbeats 2000000 in
set_option maxRecDepth 100000 in
theorem paddr4 (g o c ah al : Nat) (hc : 4 ≤ c) (hcm : c ≤ 9223372036854775807) (ha : al < 18446744073709551616) {w : World} (hr : Room w g o 4) :
    Calls Try.prog 79 #[.slice (some ⟨g, o, none⟩) 4 c, .agg #[.int .u64 (ah : Nat), .int .u64 (al : Nat)]] w fun e w' => e = .returned (.tuple #[]) ∧ Wr w g o (beB 4 al) w' := by
  have hg := hr.lt (by omega)
  have hW0 := Wr.nil (Below.al (Below.refl w.heap.size w) (.cells #[.int .u64 (ah : Nat), .int .u64 (al : Nat)] 25)) hg o
  have cp := put_any g o c 4 al (by omega) hc hcm ha (hr.wr hW0)
  have HW0 := Lib.hid hW0
  clear hr hW0 ha
  go_enter Try.func79, Try.ntmps79
  go_wp2_with (go_at_call 60; refine cp.mono ?_; rintro e w2 ⟨rfl, hW2⟩; have HW2 := Lib.hid hW2; clear hW2)
  simp [bodyPost, results, Try.results79, go_sem]
  have := HW0.out.app (by simpa using HW2.out.wr)
  simpa using this

set_option maxHeartbeats 2000000 in
set_option maxRecDepth 100000 in
theorem paddr16 (g o c ah al : Nat) (hc : 16 ≤ c) (hcm : c ≤ 9223372036854775807) (ha : ah < 18446744073709551616) (hb : al < 18446744073709551616) {w : World} (hr : Room w g o 16) :
    Calls Try.prog 79 #[.slice (some ⟨g, o, none⟩) 16 c, .agg #[.int .u64 (ah : Nat), .int .u64 (al : Nat)]] w fun e w' => e = .returned (.tuple #[]) ∧ Wr w g o (beB 8 ah ++ beB 8 al) w' := by
  have hg := hr.lt (by omega)
  have hW0 := Wr.nil (Below.al (Below.refl w.heap.size w) (.cells #[.int .u64 (ah : Nat), .int .u64 (al : Nat)] 25)) hg o
  have cp := ppair8 g o c 16 ah al (by omega) hc hcm ha hb (hr.wr hW0)
  have HW0 := Lib.hid hW0
  clear hr hW0 ha hb
  go_enter Try.func79, Try.ntmps79
  go_wp2_with (go_at_call 64; refine cp.mono ?_; rintro e w2 ⟨rfl, hW2⟩; have HW2 := Lib.hid hW2; clear hW2)
  simp [bodyPost, results, Try.results79, go_sem]
  have := HW0.out.app (by simpa using HW2.out)
  simpa using this

set_option maxHeartbeats 2000000 in
set_option maxRecDepth 100000 in
theorem addrb4 (ah al : Nat) (ha : ah < 18446744073709551616) (hb : al < 18446744073709551616) (h4 : is4I (ah : Int) (al : Int) = true) (w : World) :
    Calls Try.prog 86 #[.agg #[.int .u64 (ah : Nat), .int .u64 (al : Nat)]] w fun e w' => ∃ B, e = .returned (.slice (some ⟨B, 0, none⟩) 4 4) ∧ w.heap.size ≤ B ∧ B < w'.heap.size ∧ Byt w' B 0 (beB 4 al) ∧ Below w.heap.size w w' := by
  have ci := fun (W : World) => is4_any (ah : Int) (al : Int) ⟨by omega, by omega⟩ ⟨by omega, by omega⟩ W
  rw [h4] at ci
  have cf := fam_any false
  simp only [famCells, if_false, Bool.false_eq_true] at cf
  have hmk : ∀ w, (Instr.makeSlice 22 (.int .i64 4) (.int .i64 4)).run Try.prog w = .ok (.slice (some ⟨w.heap.size, 0, none⟩) 4 4) (w.alloc (.cells (Array.replicate 4 (.int .u8 0)) 5)) := fun _ => by kernel_rfl
  have hfd : ∀ W, (Instr.field 69 (.agg #[.bool false, .int .i64 20, .int .i64 8, .int .i64 9, .int .i64 12, .int .i64 4]) 5).run Try.prog W = .ok (.int .i64 4) W := fun _ => by kernel_rfl
  have HA := Lib.hid ha
  have HB := Lib.hid hb
  clear h4 ha hb
  go_enter Try.func86, Try.ntmps86
  go_wp2_with (first | (go_at_call 59; refine (ci _).mono ?_; rintro e w2 ⟨rfl, hb2⟩) | (go_at_call 28; refine (cf _).mono ?_; rintro e w3 ⟨rfl, hb3⟩; refine Hid.out ?_))
  have bw2 : Below w.heap.size w w2 := bel_via (Below.al (Below.refl _ _) _) hb2
  have bw3 : Below w.heap.size w w3 := bw2.trans (hb3.mono bw2.size)
  have hX2 : w2.heap[w.heap.size]? = some (.cells #[.int .u64 (ah : Nat), .int .u64 (al : Nat)] 25 (0, 0)) := by rw [hb2.block _ (by simp)]; exact al_neww rfl _
  have hX3 := blkKeep hb3 hX2
  have hz3 : w.heap.size < w3.heap.size := (Array.getElem?_eq_some_iff.1 hX3).1
  clear hb2 hb3 hX2 ci cf bw2
  refine Lib.hid ?_
  go_wp2_with (with_reducible refine stop_op (o := ⟨some 11, _, _, _, _, _⟩) ?_)
  obtain ⟨w5, hw5⟩ : ∃ x, x = w3.alloc (.cells (Array.replicate 4 (.int .u8 0)) 5) := ⟨_, rfl⟩
  have hX5 : w5.heap[w.heap.size]? = some (.cells #[.int .u64 (ah : Nat), .int .u64 (al : Nat)] 25 (0, 0)) := by rw [hw5, al_oldw hz3]; exact hX3
  have bw5 : Below w.heap.size w w5 := by rw [hw5]; exact Below.al bw3 _
  have cp := paddr4 w3.heap.size 0 4 ah al (by omega) (by omega) HB.out (by rw [hw5]; exact room_new w3 4 _ _ : Room w5 w3.heap.size 0 4)
  have hz5 : w3.heap.size < w5.heap.size := by rw [hw5]; simp
  first | rw [← hw5] | (simp only [Array.replicate] at hw5; rw [← hw5])
  obtain ⟨x0, x1, _, _⟩ := cells2 hX5
  clear hw5 hX3 hX5 hmk
  refine Lib.hid ?_
  go_wp2_with (go_at_call 79; refine cp.mono ?_; rintro e w6 ⟨rfl, hW6⟩; have HW6 := Lib.hid hW6; clear hW6)
  go_ret
  exact ⟨w3.heap.size, rfl, by omega, Nat.lt_of_lt_of_le hz5 HW6.out.size, HW6.out.inn, HW6.out.bel bw5 (by omega) hz5⟩

set_option maxHeartbeats 2000000 in
set_option maxRecDepth 100000 in
theorem addrb16 (ah al : Nat) (ha : ah < 18446744073709551616) (hb : al < 18446744073709551616) (h4 : is4I (ah : Int) (al : Int) = false) (w : World) :
    Calls Try.prog 86 #[.agg #[.int .u64 (ah : Nat), .int .u64 (al : Nat)]] w fun e w' => ∃ B, e = .returned (.slice (some ⟨B, 0, none⟩) 16 16) ∧ w.heap.size ≤ B ∧ B < w'.heap.size ∧ Byt w' B 0 (beB 8 ah ++ beB 8 al) ∧ Below w.heap.size w w' := by
  have ci := fun (W : World) => is4_any (ah : Int) (al : Int) ⟨by omega, by omega⟩ ⟨by omega, by omega⟩ W
  rw [h4] at ci
  have cf := fam_any true
  simp only [famCells, if_true] at cf
  have hmk : ∀ w, (Instr.makeSlice 22 (.int .i64 16) (.int .i64 16)).run Try.prog w = .ok (.slice (some ⟨w.heap.size, 0, none⟩) 16 16) (w.alloc (.cells (Array.replicate 16 (.int .u8 0)) 5)) := fun _ => by kernel_rfl
  have hfd : ∀ W, (Instr.field 69 (.agg #[.bool true, .int .i64 40, .int .i64 7, .int .i64 6, .int .i64 8, .int .i64 16]) 5).run Try.prog W = .ok (.int .i64 16) W := fun _ => by kernel_rfl
  have HA := Lib.hid ha
  have HB := Lib.hid hb
  clear h4 ha hb
  go_enter Try.func86, Try.ntmps86
  go_wp2_with (first | (go_at_call 59; refine (ci _).mono ?_; rintro e w2 ⟨rfl, hb2⟩) | (go_at_call 28; refine (cf _).mono ?_; rintro e w3 ⟨rfl, hb3⟩; refine Hid.out ?_))
  have bw2 : Below w.heap.size w w2 := bel_via (Below.al (Below.refl _ _) _) hb2
  have bw3 : Below w.heap.size w w3 := bw2.trans (hb3.mono bw2.size)
  have hX2 : w2.heap[w.heap.size]? = some (.cells #[.int .u64 (ah : Nat), .int .u64 (al : Nat)] 25 (0, 0)) := by rw [hb2.block _ (by simp)]; exact al_neww rfl _
  have hX3 := blkKeep hb3 hX2
  have hz3 : w.heap.size < w3.heap.size := (Array.getElem?_eq_some_iff.1 hX3).1
  clear hb2 hb3 hX2 ci cf bw2
  refine Lib.hid ?_
  go_wp2_with (with_reducible refine stop_op (o := ⟨some 11, _, _, _, _, _⟩) ?_)
  obtain ⟨w5, hw5⟩ : ∃ x, x = w3.alloc (.cells (Array.replicate 16 (.int .u8 0)) 5) := ⟨_, rfl⟩
  have hX5 : w5.heap[w.heap.size]? = some (.cells #[.int .u64 (ah : Nat), .int .u64 (al : Nat)] 25 (0, 0)) := by rw [hw5, al_oldw hz3]; exact hX3
  have bw5 : Below w.heap.size w w5 := by rw [hw5]; exact Below.al bw3 _
  have cp := paddr16 w3.heap.size 0 16 ah al (by omega) (by omega) HA.out HB.out (by rw [hw5]; exact room_new w3 16 _ _ : Room w5 w3.heap.size 0 16)
  have hz5 : w3.heap.size < w5.heap.size := by rw [hw5]; simp
  first | rw [← hw5] | (simp only [Array.replicate] at hw5; rw [← hw5])
  obtain ⟨x0, x1, _, _⟩ := cells2 hX5
  clear hw5 hX3 hX5 hmk
  refine Lib.hid ?_
  go_wp2_with (go_at_call 79; refine cp.mono ?_; rintro e w6 ⟨rfl, hW6⟩; have HW6 := Lib.hid hW6; clear hW6)
  go_ret
  exact ⟨w3.heap.size, rfl, by omega, Nat.lt_of_lt_of_le hz5 HW6.out.size, HW6.out.inn, HW6.out.bel bw5 (by omega) hz5⟩
end Go.Proofs.Ytpmbdjdhgcjkfaa
