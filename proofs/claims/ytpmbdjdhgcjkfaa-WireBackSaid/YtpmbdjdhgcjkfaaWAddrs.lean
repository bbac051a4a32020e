/- A packet's addresses; by-name template (gen_waddrs.py). -/
import Derived.Test.YtpmbdjdhgcjkfaaWIs4
namespace Go.Proofs.Ytpmbdjdhgcjkfaa
open Go.RowKit Go.Sort
set_option linter.unusedVariables false
set_option linter.unusedSimpArgs false

theorem heap_set4w {w : World} {B : Nat} {x0 x1 x2 x3 : Value} {t : TypeId} {fz : Nat × Nat} (h : w.heap[B]? = some (.cells #[x0, x1, x2, x3] t fz)) (a b c d : Value) :
    ((((w.setCell ⟨B, 0, none⟩ a).setCell ⟨B, 1, none⟩ b).setCell ⟨B, 2, none⟩ c).setCell ⟨B, 3, none⟩ d).heap[B]? = some (.cells #[a, b, c, d] t fz) := by
  simp [World.setCell, Array.getElem?_modify, h]
theorem cells4 {w : World} {B : Nat} {x0 x1 x2 x3 : Value} {t : TypeId} (h : w.heap[B]? = some (.cells #[x0, x1, x2, x3] t (0, 0))) : (w.cell? ⟨B, 0, none⟩ = some x0 ∧ w.cell? ⟨B, 1, none⟩ = some x1 ∧ w.cell? ⟨B, 2, none⟩ = some x2 ∧ w.cell? ⟨B, 3, none⟩ = some x3) ∧ (w.frozen? ⟨B, 0, none⟩ = false ∧ w.frozen? ⟨B, 1, none⟩ = false ∧ w.frozen? ⟨B, 2, none⟩ = false ∧ w.frozen? ⟨B, 3, none⟩ = false) := by
  refine ⟨⟨?_, ?_, ?_, ?_⟩, ?_, ?_, ?_, ?_⟩ <;> simp [World.cell?, World.frozen?, h]
theorem set_other {w : World} {B C : Nat} {o : Nat} {v : Value} (h : B ≠ C) : (w.setCell ⟨B, o, none⟩ v).heap[C]? = w.heap[C]? := by
  simp only [World.setCell, Array.getElem?_modify]; rw [if_neg h]

theorem bel_of {w w1 w2 : World} (h : Below w.heap.size w w1) (k : Below w1.heap.size w1 w2) : Below w.heap.size w w2 := bel_via h k

set_option maxHeartbeats 2000000 in
set_option maxRecDepth 100000 in
theorem addrs4 (g o c n : Nat) (l : List UInt8) (hn : l.length = n) (h2 : 20 ≤ n) (hc : n ≤ c) (hcm : c ≤ 9223372036854775807) {w : World} (hb : Byt w g o l) :
    Calls Try.prog 87 #[.agg (famCells false), .slice (some ⟨g, o, none⟩) n c] w fun e w' => e = .returned (.agg #[.int .u64 (adrH ((l.drop 12).take 4) : Nat), .int .u64 (adrL ((l.drop 12).take 4) : Nat), .int .u64 (adrH ((l.drop 16).take 4) : Nat), .int .u64 (adrL ((l.drop 16).take 4) : Nat)]) ∧ Below w.heap.size w w' := by
  have s1 : ∀ W, (Instr.slice 22 (.slice (some ⟨g, o, none⟩) n c) (some (.int .i64 12)) (some (.int .i64 16)) none).run Try.prog W = .ok (.slice (some ⟨g, o + 12, none⟩) 4 (c - 12)) W := cut_lh g o n c 12 16 (by omega) (by omega) (by omega) hcm
  have s2 : ∀ W, (Instr.slice 22 (.slice (some ⟨g, o, none⟩) n c) (some (.int .i64 16)) (some (.int .i64 20)) none).run Try.prog W = .ok (.slice (some ⟨g, o + 16, none⟩) 4 (c - 16)) W := cut_lh g o n c 16 20 (by omega) (by omega) (by omega) hcm
  have n1 := fun (W : World) (h : Below w.heap.size w W) => raddr4 g (o + 12) (c - 12) ((l.drop 12).take 4) (by rw [List.length_take, List.length_drop]; omega) ((hb.below h).sub 12 4)
  have n2 := fun (W : World) (h : Below w.heap.size w W) => raddr4 g (o + 16) (c - 16) ((l.drop 16).take 4) (by rw [List.length_take, List.length_drop]; omega) ((hb.below h).sub 16 4)
  generalize adrH ((l.drop 12).take 4) = X0 at n1 ⊢
  generalize adrL ((l.drop 12).take 4) = X1 at n1 ⊢
  generalize adrH ((l.drop 16).take 4) = Y0 at n2 ⊢
  generalize adrL ((l.drop 16).take 4) = Y1 at n2 ⊢
  clear hb hn
  have hci : (20 : Int) ≤ (c : Int) := by omega
  simp only [famCells, if_true, if_false, Bool.false_eq_true]
  go_enter Try.func87, Try.ntmps87
  go_wp2
  go_loopw [8] (fun v8 wr => ∃ k : Nat, v8 = .int .i64 k ∧ k ≤ 2 ∧ Below w.heap.size w wr ∧ wr.heap[w.heap.size]? = some (.cells #[.bool false, .int .i64 20, .int .i64 8, .int .i64 9, .int .i64 12, .int .i64 4] 69 (0, 0)) ∧ wr.heap[w.heap.size + 1]? = some (.cells #[.int .u64 0, .int .u64 0, .int .u64 0, .int .u64 0] 98 (0, 0)) ∧ wr.heap[w.heap.size + 2]? = some (.cells #[.int .u64 (if k = 0 then 0 else (X0 : Int)), .int .u64 (if k = 0 then 0 else (X1 : Int)), .int .u64 (if k = 2 then (Y0 : Int) else 0), .int .u64 (if k = 2 then (Y1 : Int) else 0)] 98 (0, 0))) (fun v8 _ => 2 - (intOf v8).toNat)
  case atStart => exact ⟨0, rfl, by omega, by repeat (first | exact Below.refl _ _ | apply Below.dr | apply Below.al), (al_oldw (by first | (simp; done) | (simp; omega)) _).trans ((al_oldw (by first | (simp; done) | (simp; omega)) _).trans (al_neww rfl _)), (al_oldw (by first | (simp; done) | (simp; omega)) _).trans (al_neww (by first | (simp; done) | (simp; omega)) _), al_neww (by simp) _⟩
  case round =>
    obtain ⟨k, rfl, hk, hbr, hF, hA, hB⟩ := hrel
    have m1 := n1 wr hbr
    have m2 := n2 wr hbr
    clear n1 n2
    have hsz : w.heap.size + 2 < wr.heap.size := (Array.getElem?_eq_some_iff.1 hB).1
    obtain ⟨⟨f0, f1, f2, f3, f4, f5⟩, _⟩ := cells6 hF
    match k, hk with
    | 0, _ =>
      go_wp2_with (go_at_call 88; refine m1.mono ?_; rintro e w2 ⟨rfl, hb2⟩; refine Hid.out ?_)
      have bw2 : Below w.heap.size w w2 := bel_of hbr hb2
      have hF2 := (hb2.block w.heap.size (by omega)).trans hF
      have hA2 := (hb2.block (w.heap.size + 1) (by omega)).trans hA
      have hB2 := (hb2.block (w.heap.size + 2) (by omega)).trans hB
      obtain ⟨⟨b0, b1, b2, b3⟩, g0, g1, g2, g3⟩ := cells4 hB2
      clear hb2 hF hA hB hbr f0 f1 f2 f3 f4 f5 m1 m2
      refine Lib.hid ?_
      go_wp2
      refine ⟨⟨1, by simp, by omega, below_set (B := w.heap.size + 2) (below_set (B := w.heap.size + 2) bw2 (by omega) 0 _) (by omega) 1 _, ?_, ?_, ?_⟩, by simp [intOf]⟩
      · rw [set_other (by omega), set_other (by omega)]; exact hF2
      · rw [set_other (by omega), set_other (by omega)]; exact hA2
      · simp [World.setCell, Array.getElem?_modify, hB2]
    | 1, _ =>
      go_wp2_with (go_at_call 88; refine m2.mono ?_; rintro e w2 ⟨rfl, hb2⟩; refine Hid.out ?_)
      have bw2 : Below w.heap.size w w2 := bel_of hbr hb2
      have hF2 := (hb2.block w.heap.size (by omega)).trans hF
      have hA2 := (hb2.block (w.heap.size + 1) (by omega)).trans hA
      have hB2 := (hb2.block (w.heap.size + 2) (by omega)).trans hB
      obtain ⟨⟨b0, b1, b2, b3⟩, g0, g1, g2, g3⟩ := cells4 hB2
      clear hb2 hF hA hB hbr f0 f1 f2 f3 f4 f5 m1 m2
      refine Lib.hid ?_
      go_wp2
      refine ⟨⟨2, by simp, by omega, below_set (B := w.heap.size + 2) (below_set (B := w.heap.size + 2) bw2 (by omega) 2 _) (by omega) 3 _, ?_, ?_, ?_⟩, by simp [intOf]⟩
      · rw [set_other (by omega), set_other (by omega)]; exact hF2
      · rw [set_other (by omega), set_other (by omega)]; exact hA2
      · simp [World.setCell, Array.getElem?_modify, hB2]
    | 2, _ =>
      have hB2 : wr.heap[w.heap.size + 2]? = some (.cells #[.int .u64 (X0 : Int), .int .u64 (X1 : Int), .int .u64 (Y0 : Int), .int .u64 (Y1 : Int)] 98 (0, 0)) := by simpa using hB
      obtain ⟨⟨b0, b1, b2, b3⟩, _⟩ := cells4 hB2
      obtain ⟨⟨a0, a1, a2, a3⟩, g0, g1, g2, g3⟩ := cells4 hA
      clear m1 m2 s1 s2
      go_wp2
      refine bodyPost_ret_by (results_cell_row Try.results87 _ _ (w.heap.size + 1) 98 #[.int .u64 (X0 : Int), .int .u64 (X1 : Int), .int .u64 (Y0 : Int), .int .u64 (Y1 : Int)] (0, 0) _ rfl (heap_set4w hA (.int .u64 (X0 : Int)) (.int .u64 (X1 : Int)) (.int .u64 (Y0 : Int)) (.int .u64 (Y1 : Int))) Try.underlying98 rfl (by kernel_rfl)) rfl ⟨rfl, ?_⟩
      exact below_set (B := w.heap.size + 1) (below_set (B := w.heap.size + 1) (below_set (B := w.heap.size + 1) (below_set (B := w.heap.size + 1) hbr (by omega) 0 _) (by omega) 1 _) (by omega) 2 _) (by omega) 3 _

set_option maxHeartbeats 2000000 in
set_option maxRecDepth 100000 in
theorem addrs6 (g o c n : Nat) (l : List UInt8) (hn : l.length = n) (h2 : 40 ≤ n) (hc : n ≤ c) (hcm : c ≤ 9223372036854775807) {w : World} (hb : Byt w g o l) :
    Calls Try.prog 87 #[.agg (famCells true), .slice (some ⟨g, o, none⟩) n c] w fun e w' => e = .returned (.agg #[.int .u64 (adrH ((l.drop 8).take 16) : Nat), .int .u64 (adrL ((l.drop 8).take 16) : Nat), .int .u64 (adrH ((l.drop 24).take 16) : Nat), .int .u64 (adrL ((l.drop 24).take 16) : Nat)]) ∧ Below w.heap.size w w' := by
  have s1 : ∀ W, (Instr.slice 22 (.slice (some ⟨g, o, none⟩) n c) (some (.int .i64 8)) (some (.int .i64 24)) none).run Try.prog W = .ok (.slice (some ⟨g, o + 8, none⟩) 16 (c - 8)) W := cut_lh g o n c 8 24 (by omega) (by omega) (by omega) hcm
  have s2 : ∀ W, (Instr.slice 22 (.slice (some ⟨g, o, none⟩) n c) (some (.int .i64 24)) (some (.int .i64 40)) none).run Try.prog W = .ok (.slice (some ⟨g, o + 24, none⟩) 16 (c - 24)) W := cut_lh g o n c 24 40 (by omega) (by omega) (by omega) hcm
  have n1 := fun (W : World) (h : Below w.heap.size w W) => raddr16 g (o + 8) (c - 8) ((l.drop 8).take 16) (by rw [List.length_take, List.length_drop]; omega) (by omega) (by omega) ((hb.below h).sub 8 16)
  have n2 := fun (W : World) (h : Below w.heap.size w W) => raddr16 g (o + 24) (c - 24) ((l.drop 24).take 16) (by rw [List.length_take, List.length_drop]; omega) (by omega) (by omega) ((hb.below h).sub 24 16)
  generalize adrH ((l.drop 8).take 16) = X0 at n1 ⊢
  generalize adrL ((l.drop 8).take 16) = X1 at n1 ⊢
  generalize adrH ((l.drop 24).take 16) = Y0 at n2 ⊢
  generalize adrL ((l.drop 24).take 16) = Y1 at n2 ⊢
  clear hb hn
  have hci : (40 : Int) ≤ (c : Int) := by omega
  simp only [famCells, if_true, if_false, Bool.false_eq_true]
  go_enter Try.func87, Try.ntmps87
  go_wp2
  go_loopw [8] (fun v8 wr => ∃ k : Nat, v8 = .int .i64 k ∧ k ≤ 2 ∧ Below w.heap.size w wr ∧ wr.heap[w.heap.size]? = some (.cells #[.bool true, .int .i64 40, .int .i64 7, .int .i64 6, .int .i64 8, .int .i64 16] 69 (0, 0)) ∧ wr.heap[w.heap.size + 1]? = some (.cells #[.int .u64 0, .int .u64 0, .int .u64 0, .int .u64 0] 98 (0, 0)) ∧ wr.heap[w.heap.size + 2]? = some (.cells #[.int .u64 (if k = 0 then 0 else (X0 : Int)), .int .u64 (if k = 0 then 0 else (X1 : Int)), .int .u64 (if k = 2 then (Y0 : Int) else 0), .int .u64 (if k = 2 then (Y1 : Int) else 0)] 98 (0, 0))) (fun v8 _ => 2 - (intOf v8).toNat)
  case atStart => exact ⟨0, rfl, by omega, by repeat (first | exact Below.refl _ _ | apply Below.dr | apply Below.al), (al_oldw (by first | (simp; done) | (simp; omega)) _).trans ((al_oldw (by first | (simp; done) | (simp; omega)) _).trans (al_neww rfl _)), (al_oldw (by first | (simp; done) | (simp; omega)) _).trans (al_neww (by first | (simp; done) | (simp; omega)) _), al_neww (by simp) _⟩
  case round =>
    obtain ⟨k, rfl, hk, hbr, hF, hA, hB⟩ := hrel
    have m1 := n1 wr hbr
    have m2 := n2 wr hbr
    clear n1 n2
    have hsz : w.heap.size + 2 < wr.heap.size := (Array.getElem?_eq_some_iff.1 hB).1
    obtain ⟨⟨f0, f1, f2, f3, f4, f5⟩, _⟩ := cells6 hF
    match k, hk with
    | 0, _ =>
      go_wp2_with (go_at_call 88; refine m1.mono ?_; rintro e w2 ⟨rfl, hb2⟩; refine Hid.out ?_)
      have bw2 : Below w.heap.size w w2 := bel_of hbr hb2
      have hF2 := (hb2.block w.heap.size (by omega)).trans hF
      have hA2 := (hb2.block (w.heap.size + 1) (by omega)).trans hA
      have hB2 := (hb2.block (w.heap.size + 2) (by omega)).trans hB
      obtain ⟨⟨b0, b1, b2, b3⟩, g0, g1, g2, g3⟩ := cells4 hB2
      clear hb2 hF hA hB hbr f0 f1 f2 f3 f4 f5 m1 m2
      refine Lib.hid ?_
      go_wp2
      refine ⟨⟨1, by simp, by omega, below_set (B := w.heap.size + 2) (below_set (B := w.heap.size + 2) bw2 (by omega) 0 _) (by omega) 1 _, ?_, ?_, ?_⟩, by simp [intOf]⟩
      · rw [set_other (by omega), set_other (by omega)]; exact hF2
      · rw [set_other (by omega), set_other (by omega)]; exact hA2
      · simp [World.setCell, Array.getElem?_modify, hB2]
    | 1, _ =>
      go_wp2_with (go_at_call 88; refine m2.mono ?_; rintro e w2 ⟨rfl, hb2⟩; refine Hid.out ?_)
      have bw2 : Below w.heap.size w w2 := bel_of hbr hb2
      have hF2 := (hb2.block w.heap.size (by omega)).trans hF
      have hA2 := (hb2.block (w.heap.size + 1) (by omega)).trans hA
      have hB2 := (hb2.block (w.heap.size + 2) (by omega)).trans hB
      obtain ⟨⟨b0, b1, b2, b3⟩, g0, g1, g2, g3⟩ := cells4 hB2
      clear hb2 hF hA hB hbr f0 f1 f2 f3 f4 f5 m1 m2
      refine Lib.hid ?_
      go_wp2
      refine ⟨⟨2, by simp, by omega, below_set (B := w.heap.size + 2) (below_set (B := w.heap.size + 2) bw2 (by omega) 2 _) (by omega) 3 _, ?_, ?_, ?_⟩, by simp [intOf]⟩
      · rw [set_other (by omega), set_other (by omega)]; exact hF2
      · rw [set_other (by omega), set_other (by omega)]; exact hA2
      · simp [World.setCell, Array.getElem?_modify, hB2]
    | 2, _ =>
      have hB2 : wr.heap[w.heap.size + 2]? = some (.cells #[.int .u64 (X0 : Int), .int .u64 (X1 : Int), .int .u64 (Y0 : Int), .int .u64 (Y1 : Int)] 98 (0, 0)) := by simpa using hB
      obtain ⟨⟨b0, b1, b2, b3⟩, _⟩ := cells4 hB2
      obtain ⟨⟨a0, a1, a2, a3⟩, g0, g1, g2, g3⟩ := cells4 hA
      clear m1 m2 s1 s2
      go_wp2
      refine bodyPost_ret_by (results_cell_row Try.results87 _ _ (w.heap.size + 1) 98 #[.int .u64 (X0 : Int), .int .u64 (X1 : Int), .int .u64 (Y0 : Int), .int .u64 (Y1 : Int)] (0, 0) _ rfl (heap_set4w hA (.int .u64 (X0 : Int)) (.int .u64 (X1 : Int)) (.int .u64 (Y0 : Int)) (.int .u64 (Y1 : Int))) Try.underlying98 rfl (by kernel_rfl)) rfl ⟨rfl, ?_⟩
      exact below_set (B := w.heap.size + 1) (below_set (B := w.heap.size + 1) (below_set (B := w.heap.size + 1) (below_set (B := w.heap.size + 1) hbr (by omega) 0 _) (by omega) 1 _) (by omega) 2 _) (by omega) 3 _
end Go.Proofs.Ytpmbdjdhgcjkfaa
