/- Addresses out of bytes: the program's reading, and the document's; by-name template. -/
import Derived.Test.YtpmbdjdhgcjkfaaWBase
import Derived.Test.YtpmbdjdhgcjkfaaWVP
import Derived.Lib.QuietBelow
namespace Go.Proofs.Ytpmbdjdhgcjkfaa
open Go.RowKit Go.Sort
set_option linter.unusedVariables false
set_option linter.unusedSimpArgs false

theorem numB_app (a b : List UInt8) : numB (a ++ b) = numB a * 256 ^ b.length + numB b := by
  refine snoc_ind (P := fun b => numB (a ++ b) = numB a * 256 ^ b.length + numB b) ?_ ?_ b
  · simp [numB]
  · intro l x ih
    rw [← List.append_assoc, numB_snoc, ih, numB_snoc, List.length_append, List.length_singleton, Nat.pow_succ, Nat.add_mul, ← Nat.mul_assoc]
    omega

theorem heap_set2w {w : World} {B : Nat} {x y : Value} {t : TypeId} {fz : Nat × Nat} (h : w.heap[B]? = some (.cells #[x, y] t fz)) (a b : Value) :
    ((w.setCell ⟨B, 0, none⟩ a).setCell ⟨B, 1, none⟩ b).heap[B]? = some (.cells #[a, b] t fz) := by
  simp [World.setCell, Array.getElem?_modify, h]
theorem al_neww {w : World} {k : Nat} (h : k = w.heap.size) (o : Obj) : (w.alloc o).heap[k]? = some o := by
  subst h; exact heap_alloc_new w o
theorem al_oldw {w : World} {k : Nat} (h : k < w.heap.size) (o : Obj) : (w.alloc o).heap[k]? = w.heap[k]? := by
  show (w.heap.push o)[k]? = _
  rw [Array.getElem?_push, if_neg (Nat.ne_of_lt h)]

set_option maxHeartbeats 1000000 in
/-- The document's own number out of bytes. -/
theorem get_any (g o c n : Nat) (l : List UInt8) (hn : l.length = n) (h7 : n ≤ 4) {w : World} (hb : Byt w g o l) :
    Calls Try.prog 44 #[.slice (some ⟨g, o, none⟩) n c] w fun e w' => e = .returned (.int .i64 (numB l : Nat)) ∧ w = w' := by
  have HB := Lib.hid hb
  have HN := Lib.hid hn
  clear hb hn
  have hni : (n : Int) ≤ 4 := by omega
  go_enter Try.func44, Try.ntmps44
  go_wp2
  go_loopw [3, 4] (fun v3 v4 wr => ∃ (k m : Nat), v3 = .int .i64 m ∧ v4 = .int .i64 k ∧ k ≤ n ∧ m < 256 ^ k ∧ wr = w ∧ Hid (m = numB (l.take k))) (fun _ v4 _ => n - (intOf v4).toNat)
  case atStart => exact ⟨0, 0, rfl, rfl, by omega, by simp, rfl, Lib.hid (by simp [numB])⟩
  case round =>
    obtain ⟨k, m, rfl, rfl, hk, hm, hw, hh⟩ := hrel
    subst hw
    by_cases hlt : k < n
    · obtain ⟨x, hx⟩ : ∃ x, l[k]? = some x := ⟨l[k]'(by have := HN.out; omega), List.getElem?_eq_getElem _⟩
      have hc := HB.out k x hx
      have hki : (k : Int) < (n : Int) := by omega
      have hm7 : m < 16777216 := Nat.lt_of_lt_of_le hm (Nat.le_trans (Nat.pow_le_pow_right (by omega) (show k ≤ 3 by omega)) (by decide))
      have hx8 := x.toNat_lt
      have hmi : (m : Int) < 16777216 := by omega
      have e1 : numB (l.take (k + 1)) = numB (l.take k) * 256 + x.toNat := by rw [List.take_add_one, hx, Option.toList_some, numB_snoc]
      have H2 : Hid (m * 256 + x.toNat = numB (l.take (k + 1))) := Lib.hid (by rw [e1, hh.out])
      have hp : Hid (m * 256 + x.toNat < 256 ^ (k + 1)) := Lib.hid (by
        rw [Nat.pow_succ]; have := Nat.mul_le_mul_right 256 hm; omega)
      clear hx e1 hh hm
      generalize x.toNat = X at hc hx8 H2 hp
      have hX : (X : Int) < 256 := by omega
      go_wp2
      exact ⟨⟨k + 1, m * 256 + X, by simp, by simp, by omega, hp.out, trivial, H2⟩, by simp [intOf]; omega⟩
    · have hkn : k = n := by omega
      have hki : decide ((k : Int) < (n : Int)) = false := by simp; omega
      have hkn2 : decide (k < n) = false := by simp; omega
      have e : m = numB l := by rw [hh.out, List.take_of_length_le (by have := HN.out; omega)]
      have H2 := Lib.hid e
      clear e hh hkn hm
      go_wp2
      go_ret
      exact ⟨by rw [H2.out]; rfl, rfl⟩

set_option maxHeartbeats 1000000 in
set_option maxRecDepth 100000 in
theorem rpair8 (g o c n : Nat) (l : List UInt8) (hn : l.length = n) (h2 : 16 ≤ n) (hc : n ≤ c) (hcm : c ≤ 9223372036854775807) {w : World} (hb : Byt w g o l) :
    Calls Try.prog 77 #[.slice (some ⟨g, o, none⟩) n c, .int .i64 8] w fun e w' => e = .returned (.agg #[.int .u64 (numB (l.take 8) : Nat), .int .u64 (numB ((l.drop 8).take 8) : Nat)]) ∧ Below w.heap.size w w' := by
  have s1 : ∀ W, (Instr.slice 22 (.slice (some ⟨g, o, none⟩) n c) (some (.int .i64 0)) (some (.int .i64 8)) none).run Try.prog W = .ok (.slice (some ⟨g, o, none⟩) 8 c) W := cut_lh g o n c 0 8 (by omega) (by omega) (by omega) hcm
  have s2 : ∀ W, (Instr.slice 22 (.slice (some ⟨g, o, none⟩) n c) (some (.int .i64 8)) (some (.int .i64 16)) none).run Try.prog W = .ok (.slice (some ⟨g, o + 8, none⟩) 8 (c - 8)) W := cut_lh g o n c 8 16 (by omega) (by omega) (by omega) hcm
  have b1 := fun (W : World) (h : Below w.heap.size w W) => (hb.below h).sub 0 8
  have b2 := fun (W : World) (h : Below w.heap.size w W) => (hb.below h).sub 8 8
  simp only [List.drop_zero, Nat.add_zero] at b1
  have n1 := fun (W : World) (h : Below w.heap.size w W) => number_any g o c 8 (l.take 8) (by rw [List.length_take]; omega) (by omega) (b1 W h)
  have n2 := fun (W : World) (h : Below w.heap.size w W) => number_any g (o + 8) (c - 8) 8 ((l.drop 8).take 8) (by rw [List.length_take, List.length_drop]; omega) (by omega) (b2 W h)
  obtain ⟨X, hX⟩ : ∃ X, X = numB (l.take 8) := ⟨_, rfl⟩
  obtain ⟨Y, hY⟩ : ∃ X, X = numB ((l.drop 8).take 8) := ⟨_, rfl⟩
  rw [← hX] at n1 ⊢
  rw [← hY] at n2 ⊢
  clear hX hY b1 b2 hb hn
  have hci : (16 : Int) ≤ (c : Int) := by omega
  go_enter Try.func77, Try.ntmps77
  go_wp2
  go_loopw [7] (fun v7 wr => ∃ k : Nat, v7 = .int .i64 k ∧ k ≤ 2 ∧ Below w.heap.size w wr ∧ wr.heap[w.heap.size]? = some (.cells #[.int .u64 0, .int .u64 0] 102 (0, 0)) ∧ wr.heap[w.heap.size + 1]? = some (.cells #[.int .u64 (if k = 0 then 0 else (X : Int)), .int .u64 (if k = 2 then (Y : Int) else 0)] 102 (0, 0))) (fun v7 _ => 2 - (intOf v7).toNat)
  case atStart => exact ⟨0, rfl, by omega, by repeat (first | exact Below.refl _ _ | apply Below.dr | apply Below.al), (al_oldw (by simp) _).trans (al_neww rfl _), al_neww (by simp) _⟩
  case round =>
    obtain ⟨k, rfl, hk, hbr, hA, hB⟩ := hrel
    have m1 := n1 wr hbr
    have m2 := n2 wr hbr
    clear n1 n2
    have hsz : w.heap.size + 1 < wr.heap.size := (Array.getElem?_eq_some_iff.1 hB).1
    have frB0 : wr.frozen? ⟨w.heap.size + 1, 0, none⟩ = false := by simp [World.frozen?, hB]
    have frB1 : wr.frozen? ⟨w.heap.size + 1, 1, none⟩ = false := by simp [World.frozen?, hB]
    match k, hk with
    | 0, _ =>
      have cB0 : wr.cell? ⟨w.heap.size + 1, 0, none⟩ = some (.int .u64 0) := by simp [World.cell?, hB]
      go_wp2_with (go_at_call 69; refine m1.mono ?_; rintro e w' ⟨rfl, rfl⟩)
      refine ⟨⟨1, by simp, by omega, below_set (B := w.heap.size + 1) hbr (by omega) 0 _, ?_, ?_⟩, by simp [intOf]⟩
      · simp only [World.setCell, Array.getElem?_modify]; rw [if_neg (by omega)]; exact hA
      · simp [World.setCell, Array.getElem?_modify, hB]
    | 1, _ =>
      have cB1 : wr.cell? ⟨w.heap.size + 1, 1, none⟩ = some (.int .u64 0) := by simp [World.cell?, hB]
      go_wp2_with (go_at_call 69; refine m2.mono ?_; rintro e w' ⟨rfl, rfl⟩)
      refine ⟨⟨2, by simp, by omega, below_set (B := w.heap.size + 1) hbr (by omega) 1 _, ?_, ?_⟩, by simp [intOf]⟩
      · simp only [World.setCell, Array.getElem?_modify]; rw [if_neg (by omega)]; exact hA
      · simp [World.setCell, Array.getElem?_modify, hB]
    | 2, _ =>
      have hB2 : wr.heap[w.heap.size + 1]? = some (.cells #[.int .u64 (X : Int), .int .u64 (Y : Int)] 102 (0, 0)) := by simpa using hB
      have cB0 : wr.cell? ⟨w.heap.size + 1, 0, none⟩ = some (.int .u64 (X : Int)) := by simp [World.cell?, hB2]
      have cB1 : wr.cell? ⟨w.heap.size + 1, 1, none⟩ = some (.int .u64 (Y : Int)) := by simp [World.cell?, hB2]
      have cA0 : wr.cell? ⟨w.heap.size, 0, none⟩ = some (.int .u64 0) := by simp [World.cell?, hA]
      have cA1 : wr.cell? ⟨w.heap.size, 1, none⟩ = some (.int .u64 0) := by simp [World.cell?, hA]
      have frA0 : wr.frozen? ⟨w.heap.size, 0, none⟩ = false := by simp [World.frozen?, hA]
      have frA1 : wr.frozen? ⟨w.heap.size, 1, none⟩ = false := by simp [World.frozen?, hA]
      clear m1 m2 s1 s2
      go_wp2
      refine bodyPost_ret_by (results_cell_row Try.results77 _ _ w.heap.size 102 #[.int .u64 (X : Int), .int .u64 (Y : Int)] (0, 0) _ rfl (heap_set2w hA (.int .u64 (X : Int)) (.int .u64 (Y : Int))) Try.underlying102 rfl (by kernel_rfl)) rfl ⟨rfl, ?_⟩
      exact below_set (B := w.heap.size) (below_set (B := w.heap.size) hbr (Nat.le_refl _) 0 _) (Nat.le_refl _) 1 _

set_option maxHeartbeats 1000000 in
set_option maxRecDepth 100000 in
theorem rpair4 (g o c n : Nat) (l : List UInt8) (hn : l.length = n) (h2 : 8 ≤ n) (hc : n ≤ c) (hcm : c ≤ 9223372036854775807) {w : World} (hb : Byt w g o l) :
    Calls Try.prog 77 #[.slice (some ⟨g, o, none⟩) n c, .int .i64 4] w fun e w' => e = .returned (.agg #[.int .u64 (numB (l.take 4) : Nat), .int .u64 (numB ((l.drop 4).take 4) : Nat)]) ∧ Below w.heap.size w w' := by
  have s1 : ∀ W, (Instr.slice 22 (.slice (some ⟨g, o, none⟩) n c) (some (.int .i64 0)) (some (.int .i64 4)) none).run Try.prog W = .ok (.slice (some ⟨g, o, none⟩) 4 c) W := cut_lh g o n c 0 4 (by omega) (by omega) (by omega) hcm
  have s2 : ∀ W, (Instr.slice 22 (.slice (some ⟨g, o, none⟩) n c) (some (.int .i64 4)) (some (.int .i64 8)) none).run Try.prog W = .ok (.slice (some ⟨g, o + 4, none⟩) 4 (c - 4)) W := cut_lh g o n c 4 8 (by omega) (by omega) (by omega) hcm
  have b1 := fun (W : World) (h : Below w.heap.size w W) => (hb.below h).sub 0 4
  have b2 := fun (W : World) (h : Below w.heap.size w W) => (hb.below h).sub 4 4
  simp only [List.drop_zero, Nat.add_zero] at b1
  have n1 := fun (W : World) (h : Below w.heap.size w W) => number_any g o c 4 (l.take 4) (by rw [List.length_take]; omega) (by omega) (b1 W h)
  have n2 := fun (W : World) (h : Below w.heap.size w W) => number_any g (o + 4) (c - 4) 4 ((l.drop 4).take 4) (by rw [List.length_take, List.length_drop]; omega) (by omega) (b2 W h)
  obtain ⟨X, hX⟩ : ∃ X, X = numB (l.take 4) := ⟨_, rfl⟩
  obtain ⟨Y, hY⟩ : ∃ X, X = numB ((l.drop 4).take 4) := ⟨_, rfl⟩
  rw [← hX] at n1 ⊢
  rw [← hY] at n2 ⊢
  clear hX hY b1 b2 hb hn
  have hci : (8 : Int) ≤ (c : Int) := by omega
  go_enter Try.func77, Try.ntmps77
  go_wp2
  go_loopw [7] (fun v7 wr => ∃ k : Nat, v7 = .int .i64 k ∧ k ≤ 2 ∧ Below w.heap.size w wr ∧ wr.heap[w.heap.size]? = some (.cells #[.int .u64 0, .int .u64 0] 102 (0, 0)) ∧ wr.heap[w.heap.size + 1]? = some (.cells #[.int .u64 (if k = 0 then 0 else (X : Int)), .int .u64 (if k = 2 then (Y : Int) else 0)] 102 (0, 0))) (fun v7 _ => 2 - (intOf v7).toNat)
  case atStart => exact ⟨0, rfl, by omega, by repeat (first | exact Below.refl _ _ | apply Below.dr | apply Below.al), (al_oldw (by simp) _).trans (al_neww rfl _), al_neww (by simp) _⟩
  case round =>
    obtain ⟨k, rfl, hk, hbr, hA, hB⟩ := hrel
    have m1 := n1 wr hbr
    have m2 := n2 wr hbr
    clear n1 n2
    have hsz : w.heap.size + 1 < wr.heap.size := (Array.getElem?_eq_some_iff.1 hB).1
    have frB0 : wr.frozen? ⟨w.heap.size + 1, 0, none⟩ = false := by simp [World.frozen?, hB]
    have frB1 : wr.frozen? ⟨w.heap.size + 1, 1, none⟩ = false := by simp [World.frozen?, hB]
    match k, hk with
    | 0, _ =>
      have cB0 : wr.cell? ⟨w.heap.size + 1, 0, none⟩ = some (.int .u64 0) := by simp [World.cell?, hB]
      go_wp2_with (go_at_call 69; refine m1.mono ?_; rintro e w' ⟨rfl, rfl⟩)
      refine ⟨⟨1, by simp, by omega, below_set (B := w.heap.size + 1) hbr (by omega) 0 _, ?_, ?_⟩, by simp [intOf]⟩
      · simp only [World.setCell, Array.getElem?_modify]; rw [if_neg (by omega)]; exact hA
      · simp [World.setCell, Array.getElem?_modify, hB]
    | 1, _ =>
      have cB1 : wr.cell? ⟨w.heap.size + 1, 1, none⟩ = some (.int .u64 0) := by simp [World.cell?, hB]
      go_wp2_with (go_at_call 69; refine m2.mono ?_; rintro e w' ⟨rfl, rfl⟩)
      refine ⟨⟨2, by simp, by omega, below_set (B := w.heap.size + 1) hbr (by omega) 1 _, ?_, ?_⟩, by simp [intOf]⟩
      · simp only [World.setCell, Array.getElem?_modify]; rw [if_neg (by omega)]; exact hA
      · simp [World.setCell, Array.getElem?_modify, hB]
    | 2, _ =>
      have hB2 : wr.heap[w.heap.size + 1]? = some (.cells #[.int .u64 (X : Int), .int .u64 (Y : Int)] 102 (0, 0)) := by simpa using hB
      have cB0 : wr.cell? ⟨w.heap.size + 1, 0, none⟩ = some (.int .u64 (X : Int)) := by simp [World.cell?, hB2]
      have cB1 : wr.cell? ⟨w.heap.size + 1, 1, none⟩ = some (.int .u64 (Y : Int)) := by simp [World.cell?, hB2]
      have cA0 : wr.cell? ⟨w.heap.size, 0, none⟩ = some (.int .u64 0) := by simp [World.cell?, hA]
      have cA1 : wr.cell? ⟨w.heap.size, 1, none⟩ = some (.int .u64 0) := by simp [World.cell?, hA]
      have frA0 : wr.frozen? ⟨w.heap.size, 0, none⟩ = false := by simp [World.frozen?, hA]
      have frA1 : wr.frozen? ⟨w.heap.size, 1, none⟩ = false := by simp [World.frozen?, hA]
      clear m1 m2 s1 s2
      go_wp2
      refine bodyPost_ret_by (results_cell_row Try.results77 _ _ w.heap.size 102 #[.int .u64 (X : Int), .int .u64 (Y : Int)] (0, 0) _ rfl (heap_set2w hA (.int .u64 (X : Int)) (.int .u64 (Y : Int))) Try.underlying102 rfl (by kernel_rfl)) rfl ⟨rfl, ?_⟩
      exact below_set (B := w.heap.size) (below_set (B := w.heap.size) hbr (Nat.le_refl _) 0 _) (Nat.le_refl _) 1 _

end Go.Proofs.Ytpmbdjdhgcjkfaa
