/- Addresses out of bytes; by-name template. -/
import Derived.Test.YtpmbdjdhgcjkfaaWAddr
namespace Go.Proofs.Ytpmbdjdhgcjkfaa
open Go.RowKit Go.Sort
set_option linter.unusedVariables false
set_option linter.unusedSimpArgs false

theorem of4w (n : Nat) (h1 : n < 4294967296) (w : World) : Calls Try.prog 89 #[.int .u32 (n : Nat)] w fun e w' => e = .returned (.agg #[.int .u64 0, .int .u64 ((281470681743360 + n : Nat) : Int)]) ∧ Below w.heap.size w w' := by
  have ho : bits .or .u64 281470681743360 (n : Int) = ((281470681743360 + n : Nat) : Int) := by
    rw [bits_join .u64 64 (Nat.le_refl _) (fun n h0 h1 => by rw [IntKind.wrap_u64]; omega) 32 281470681743360 (n : Int) (by omega) (by decide) (by omega) (by omega) (by omega) (by omega)]
    omega
  have hni : (n : Int) < 4294967296 := by omega
  go_enter Try.func89, Try.ntmps89
  go_wp2
  simp [bodyPost, results, Try.results89, go_sem, ho]
  repeat (first | exact Below.refl _ _ | apply Below.dr | apply Below.al)

theorem rof4w (n : Nat) (h1 : n < 4294967296) (w : World) : Calls Try.prog 85 #[.int .u32 (n : Nat)] w fun e w' => e = .returned (.agg #[.int .u64 0, .int .u64 ((281470681743360 + n : Nat) : Int)]) ∧ Below w.heap.size w w' := by
  have hni : (n : Int) < 4294967296 := by omega
  go_enter Try.func85, Try.ntmps85
  go_wp2
  simp [bodyPost, results, Try.results85, go_sem]
  repeat (first | exact Below.refl _ _ | apply Below.dr | apply Below.al)

theorem cells2 {w : World} {B : Nat} {x y : Value} {t : TypeId} (h : w.heap[B]? = some (.cells #[x, y] t (0, 0))) : w.cell? ⟨B, 0, none⟩ = some x ∧ w.cell? ⟨B, 1, none⟩ = some y ∧ w.frozen? ⟨B, 0, none⟩ = false ∧ w.frozen? ⟨B, 1, none⟩ = false := by
  refine ⟨?_, ?_, ?_, ?_⟩ <;> simp [World.cell?, World.frozen?, h]

set_option maxHeartbeats 1000000 in
set_option maxRecDepth 100000 in
/-- readAddr of four bytes. -/
theorem raddr4 (g o c : Nat) (l : List UInt8) (hn : l.length = 4) {w : World} (hb : Byt w g o l) :
    Calls Try.prog 88 #[.slice (some ⟨g, o, none⟩) 4 c] w fun e w' => e = .returned (.agg #[.int .u64 (adrH l : Nat), .int .u64 (adrL l : Nat)]) ∧ Below w.heap.size w w' := by
  have e1 : adrH l = 0 := by unfold adrH; rw [if_pos hn]
  have e2 : adrL l = 281470681743360 + numB l := by unfold adrL; rw [if_pos hn]
  have hlt := numB_lt l
  rw [hn] at hlt
  rw [e1, e2]
  have cn := fun (W : World) (h : Below w.heap.size w W) => number_any g o c 4 l hn (by omega) (hb.below h)
  obtain ⟨N, hN⟩ : ∃ N, N = numB l := ⟨_, rfl⟩
  rw [← hN] at cn hlt ⊢
  have hN32 : N < 4294967296 := by omega
  have hNi : (N : Int) < 4294967296 := by omega
  have co := of4w N hN32
  obtain ⟨M, hM⟩ : ∃ M, M = 281470681743360 + N := ⟨_, rfl⟩
  rw [← hM] at co ⊢
  clear hN hlt e1 e2 hb hn hM
  go_enter Try.func88, Try.ntmps88
  go_wp2_with (first | (go_at_call 69; refine (cn _ (Below.al (Below.refl _ _) _)).mono ?_; rintro e w' ⟨rfl, rfl⟩) | (go_at_call 89; refine (co _).mono ?_; rintro e w2 ⟨rfl, hb2⟩; refine Hid.out ?_))
  have bw2 : Below w.heap.size w w2 := bel_via (Below.al (Below.refl _ _) _) hb2
  have hH2 : w2.heap[w.heap.size]? = some (.cells #[.int .u64 0, .int .u64 0] 25 (0, 0)) := by rw [hb2.block _ (by simp)]; exact al_neww rfl _
  obtain ⟨c0, c1, g0, g1⟩ := cells2 hH2
  clear hb2 cn co
  refine Lib.hid ?_
  go_wp2
  refine bodyPost_ret_by (results_cell_row Try.results88 _ _ w.heap.size 25 #[.int .u64 0, .int .u64 (M : Int)] (0, 0) _ rfl (heap_set2w hH2 (.int .u64 0) (.int .u64 (M : Int))) Try.underlying25 rfl (by kernel_rfl)) rfl ⟨rfl, ?_⟩
  exact below_set (below_set bw2 (Nat.le_refl _) 0 _) (Nat.le_refl _) 1 _

set_option maxHeartbeats 1000000 in
set_option maxRecDepth 100000 in
/-- The document's own address of four bytes. -/
theorem wide4 (g o c : Nat) (l : List UInt8) (hn : l.length = 4) {w : World} (hb : Byt w g o l) :
    Calls Try.prog 76 #[.slice (some ⟨g, o, none⟩) 4 c] w fun e w' => e = .returned (.agg #[.int .u64 (adrH l : Nat), .int .u64 (adrL l : Nat)]) ∧ Below w.heap.size w w' := by
  have e1 : adrH l = 0 := by unfold adrH; rw [if_pos hn]
  have e2 : adrL l = 281470681743360 + numB l := by unfold adrL; rw [if_pos hn]
  have hlt := numB_lt l
  rw [hn] at hlt
  rw [e1, e2]
  have cn := fun (W : World) (h : Below w.heap.size w W) => get_any g o c 4 l hn (by omega) (hb.below h)
  obtain ⟨N, hN⟩ : ∃ N, N = numB l := ⟨_, rfl⟩
  rw [← hN] at cn hlt ⊢
  have hN32 : N < 4294967296 := by omega
  have hNi : (N : Int) < 4294967296 := by omega
  have co := rof4w N hN32
  obtain ⟨M, hM⟩ : ∃ M, M = 281470681743360 + N := ⟨_, rfl⟩
  rw [← hM] at co ⊢
  clear hN hlt e1 e2 hb hn hM
  go_enter Try.func76, Try.ntmps76
  go_wp2_with (first | (go_at_call 44; refine (cn _ (Below.al (Below.refl _ _) _)).mono ?_; rintro e w' ⟨rfl, rfl⟩) | (go_at_call 85; refine (co _).mono ?_; rintro e w2 ⟨rfl, hb2⟩; refine Hid.out ?_))
  have bw2 : Below w.heap.size w w2 := bel_via (Below.al (Below.refl _ _) _) hb2
  have hH2 : w2.heap[w.heap.size]? = some (.cells #[.int .u64 0, .int .u64 0] 25 (0, 0)) := by rw [hb2.block _ (by simp)]; exact al_neww rfl _
  obtain ⟨c0, c1, g0, g1⟩ := cells2 hH2
  clear hb2 cn co
  refine Lib.hid ?_
  go_wp2
  refine bodyPost_ret_by (results_cell_row Try.results76 _ _ w.heap.size 25 #[.int .u64 0, .int .u64 (M : Int)] (0, 0) _ rfl (heap_set2w hH2 (.int .u64 0) (.int .u64 (M : Int))) Try.underlying25 rfl (by kernel_rfl)) rfl ⟨rfl, ?_⟩
  exact below_set (below_set bw2 (Nat.le_refl _) 0 _) (Nat.le_refl _) 1 _

set_option maxHeartbeats 1000000 in
set_option maxRecDepth 100000 in
/-- readAddr of sixteen bytes. -/
theorem raddr16 (g o c : Nat) (l : List UInt8) (hn : l.length = 16) (hc : 16 ≤ c) (hcm : c ≤ 9223372036854775807) {w : World} (hb : Byt w g o l) :
    Calls Try.prog 88 #[.slice (some ⟨g, o, none⟩) 16 c] w fun e w' => e = .returned (.agg #[.int .u64 (adrH l : Nat), .int .u64 (adrL l : Nat)]) ∧ Below w.heap.size w w' := by
  have e1 : adrH l = numB (l.take 8) := by unfold adrH; rw [if_neg (by omega)]
  have e2 : adrL l = numB ((l.drop 8).take 8) := by unfold adrL; rw [if_neg (by omega)]
  have cp := fun (W : World) (h : Below w.heap.size w W) => rpair8 g o c 16 l hn (by omega) hc hcm (hb.below h)
  have h1 := numB_lt (l.take 8)
  have h2 := numB_lt ((l.drop 8).take 8)
  rw [show (l.take 8).length = 8 by rw [List.length_take]; omega] at h1
  rw [show ((l.drop 8).take 8).length = 8 by rw [List.length_take, List.length_drop]; omega] at h2
  rw [e1, e2]
  obtain ⟨X, hX⟩ : ∃ X, X = numB (l.take 8) := ⟨_, rfl⟩
  obtain ⟨Y, hY⟩ : ∃ X, X = numB ((l.drop 8).take 8) := ⟨_, rfl⟩
  rw [← hX] at cp h1 ⊢
  rw [← hY] at cp h2 ⊢
  have hXi : (X : Int) < 18446744073709551616 := by omega
  have hYi : (Y : Int) < 18446744073709551616 := by omega
  clear hX hY e1 e2 hb hn h1 h2
  go_enter Try.func88, Try.ntmps88
  go_wp2_with (go_at_call 77; refine (cp _ (Below.al (Below.refl _ _) _)).mono ?_; rintro e w2 ⟨rfl, hb2⟩; refine Hid.out ?_)
  have bw2 : Below w.heap.size w w2 := bel_via (Below.al (Below.refl _ _) _) hb2
  have hH2 : w2.heap[w.heap.size]? = some (.cells #[.int .u64 0, .int .u64 0] 25 (0, 0)) := by rw [hb2.block _ (by simp)]; exact al_neww rfl _
  have hz2 : w.heap.size < w2.heap.size := (Array.getElem?_eq_some_iff.1 hH2).1
  clear hb2 cp
  refine Lib.hid ?_
  go_wp2_with (with_reducible refine stop_op (o := ⟨some 13, _, _, _, _, _⟩) ?_)
  obtain ⟨w3, hw3⟩ : ∃ v, v = w2.alloc (.cells #[.int .u64 (X : Int), .int .u64 (Y : Int)] 102) := ⟨_, rfl⟩
  have hP3 : w3.heap[w2.heap.size]? = some (.cells #[.int .u64 (X : Int), .int .u64 (Y : Int)] 102 (0, 0)) := by rw [hw3]; exact al_neww rfl _
  have hH3 : w3.heap[w.heap.size]? = some (.cells #[.int .u64 0, .int .u64 0] 25 (0, 0)) := by rw [hw3, al_oldw hz2]; exact hH2
  have bw3 : Below w.heap.size w w3 := by rw [hw3]; exact Below.al bw2 _
  obtain ⟨p0, p1, _, _⟩ := cells2 hP3
  obtain ⟨c0, c1, g0, g1⟩ := cells2 hH3
  rw [← hw3]
  clear hw3 hH2 bw2
  refine Lib.hid ?_
  go_wp2
  refine bodyPost_ret_by (results_cell_row Try.results88 _ _ w.heap.size 25 #[.int .u64 (X : Int), .int .u64 (Y : Int)] (0, 0) _ rfl (heap_set2w hH3 (.int .u64 (X : Int)) (.int .u64 (Y : Int))) Try.underlying25 rfl (by kernel_rfl)) rfl ⟨rfl, ?_⟩
  exact below_set (below_set bw3 (Nat.le_refl _) 0 _) (Nat.le_refl _) 1 _
end Go.Proofs.Ytpmbdjdhgcjkfaa
