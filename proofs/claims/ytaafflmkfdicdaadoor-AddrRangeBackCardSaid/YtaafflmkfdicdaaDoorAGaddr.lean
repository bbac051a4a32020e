/- Texts are read, as the program reads them; by-name template. -/
import Derived.Test.YtaafflmkfdicdaaDoorAPu
import Derived.Test.YtaafflmkfdicdaaDoorAPrint
import Derived.Laws.CopyOwn
import Derived.Lib.Index
namespace Go.Proofs.YtaafflmkfdicdaaDoor
open Go.RowKit
set_option linter.unusedVariables false
set_option linter.unusedSimpArgs false

theorem set_other {w : World} {B k : Nat} (h : k ≠ B) (o : Nat) (v : Value) : (w.setCell ⟨B, o, none⟩ v).heap[k]? = w.heap[k]? := by
  simp only [World.setCell, Array.getElem?_modify]
  rw [if_neg (fun e => h e.symm)]
theorem al_old {w : World} {k : Nat} (h : k < w.heap.size) (o : Obj) : (w.alloc o).heap[k]? = w.heap[k]? := by
  show (w.heap.push o)[k]? = _
  rw [Array.getElem?_push, if_neg (Nat.ne_of_lt h)]
theorem al_new {w : World} {k : Nat} (h : k = w.heap.size) (o : Obj) : (w.alloc o).heap[k]? = some o := by
  subst h; exact heap_alloc_new w o
theorem al_size (w : World) (o : Obj) : (w.alloc o).heap.size = w.heap.size + 1 := by simp

def hp (l : List Nat) : Nat → Nat
  | 0 => 0
  | k + 1 => hp l k * 65536 + l.getD k 0

theorem hp_lt {l : List Nat} (h : ∀ n ∈ l, n ≤ 65535) : ∀ k, hp l k < 65536 ^ k
  | 0 => by simp [hp]
  | k + 1 => by
    have ih := hp_lt h k
    have : l.getD k 0 ≤ 65535 := by
      by_cases hk : k < l.length
      · rw [List.getD_eq_getElem?_getD, List.getElem?_eq_getElem hk]; exact h _ (List.getElem_mem _)
      · rw [List.getD_eq_getElem?_getD, List.getElem?_eq_none (by omega)]; simp
    rw [hp, Nat.pow_succ]
    have := Nat.mul_le_mul_right 65536 ih
    omega

set_option maxHeartbeats 4000000 in
set_option maxRecDepth 100000 in
theorem gaddr_any (g0 g1 g2 g3 g4 g5 g6 g7 : Nat) (h : ∀ n ∈ [g0, g1, g2, g3, g4, g5, g6, g7], n ≤ 65535) (w : World) : Calls Tryd.prog 62 #[.agg #[.int .u16 (g0 : Nat), .int .u16 (g1 : Nat), .int .u16 (g2 : Nat), .int .u16 (g3 : Nat), .int .u16 (g4 : Nat), .int .u16 (g5 : Nat), .int .u16 (g6 : Nat), .int .u16 (g7 : Nat)]] w fun e w' => e = .returned (.agg #[.int .u64 (hiOf [g0, g1, g2, g3, g4, g5, g6, g7] : Nat), .int .u64 (loOf [g0, g1, g2, g3, g4, g5, g6, g7] : Nat)]) ∧ Below w.heap.size w w' := by
  have h1 := hp_lt (l := [g0, g1, g2, g3]) (fun n hn => h n (by simp at hn ⊢; rcases hn with h | h | h | h <;> simp [h]))
  have h2 := hp_lt (l := [g4, g5, g6, g7]) (fun n hn => h n (by simp at hn ⊢; rcases hn with h | h | h | h <;> simp [h]))
  have e1 : hiOf [g0, g1, g2, g3, g4, g5, g6, g7] = hp [g0, g1, g2, g3] 4 := by simp [hiOf, hp]
  have e2 : loOf [g0, g1, g2, g3, g4, g5, g6, g7] = hp [g4, g5, g6, g7] 4 := by simp [loOf, hp]
  rw [e1, e2]
  have r0 : g0 ≤ 65535 := h _ (by simp)
  have r1 : g1 ≤ 65535 := h _ (by simp)
  have r2 : g2 ≤ 65535 := h _ (by simp)
  have r3 : g3 ≤ 65535 := h _ (by simp)
  have r4 : g4 ≤ 65535 := h _ (by simp)
  have r5 : g5 ≤ 65535 := h _ (by simp)
  have r6 : g6 ≤ 65535 := h _ (by simp)
  have r7 : g7 ≤ 65535 := h _ (by simp)
  have or16 : ∀ A g : Int, 0 ≤ A → A < 281474976710656 → 0 ≤ g → g ≤ 65535 → bits .or .u64 (IntKind.u64.wrap (A * 65536)) g = A * 65536 + g := by
    intro A g a0 a1 b0 b1
    rw [IntKind.wrap_u64, orU 16 (by omega) (by omega) (by omega) (by omega) (by omega) (by omega)]
    omega
  clear h e1 e2
  go_enter Tryd.func62, Tryd.ntmps62
  go_wp2
  go_loopw [5] (fun vi wr => ∃ (k : Nat) (A B : Int), vi = .int .i64 k ∧ k ≤ 4 ∧ Hid (A = (hp [g0, g1, g2, g3] k : Nat) ∧ B = (hp [g4, g5, g6, g7] k : Nat)) ∧ wr.heap[w.heap.size + 2]? = some (.cells #[.int .u64 A, .int .u64 B] 24 (0, 0)) ∧ wr.heap[w.heap.size + 1]? = some (.cells #[.int .u64 0, .int .u64 0] 24 (0, 0)) ∧ wr.heap[w.heap.size]? = some (.cells #[.int .u16 (g0 : Nat), .int .u16 (g1 : Nat), .int .u16 (g2 : Nat), .int .u16 (g3 : Nat), .int .u16 (g4 : Nat), .int .u16 (g5 : Nat), .int .u16 (g6 : Nat), .int .u16 (g7 : Nat)] 57 (0, 0)) ∧ Below w.heap.size w wr) (fun vi _ => 4 - (intOf vi).toNat)
  case atStart => exact ⟨0, 0, 0, rfl, by omega, Lib.hid ⟨rfl, rfl⟩, al_new (by simp) _, (al_old (by simp) _).trans (al_new (by simp) _), (al_old (by simp; omega) _).trans ((al_old (by simp) _).trans (al_new rfl _)), by repeat (first | exact Below.refl _ _ | apply Below.dr | apply Below.al)⟩
  case round =>
    obtain ⟨k, A, B, rfl, hk, hh, b2, b1, b0, hbel⟩ := hrel
    have ca : wr.cell? ⟨w.heap.size + 2, 0, none⟩ = some (.int .u64 A) := by simp [World.cell?, b2]
    have cb : wr.cell? ⟨w.heap.size + 2, 1, none⟩ = some (.int .u64 B) := by simp [World.cell?, b2]
    have fa : wr.frozen? ⟨w.heap.size + 2, 0, none⟩ = false := by simp [World.frozen?, b2]
    have fb : wr.frozen? ⟨w.heap.size + 2, 1, none⟩ = false := by simp [World.frozen?, b2]
    match k, hk with
    | 0, _ =>
      have cg : wr.cell? ⟨w.heap.size, 0, none⟩ = some (.int .u16 (g0 : Nat)) := by simp [World.cell?, b0]
      have ch : wr.cell? ⟨w.heap.size, 4, none⟩ = some (.int .u16 (g4 : Nat)) := by simp [World.cell?, b0]
      have k1 := h1 0
      have k2 := h2 0
      have o1 := or16 A g0 (by rw [hh.out.1]; omega) (by rw [hh.out.1]; omega) (by omega) (by omega)
      have o2 := or16 B g4 (by rw [hh.out.2]; omega) (by rw [hh.out.2]; omega) (by omega) (by omega)
      clear or16 h1 h2 k1 k2
      go_wp2
      go_region
      go_wp2
      go_region
      go_wp2
      obtain ⟨hA, hB⟩ := hh.out
      refine ⟨⟨1, A * 65536 + g0, B * 65536 + g4, rfl, by omega, Lib.hid ⟨by rw [hA]; simp [hp], by rw [hB]; simp [hp]⟩, ?_, ?_, ?_, ?_⟩, by simp [intOf]⟩
      · exact (heap_set (heap_set b2 0 (.int .u64 (A * 65536 + g0))) 1 (.int .u64 (B * 65536 + g4)))
      · exact (set_other (B := w.heap.size + 2) (by omega) 1 (.int .u64 (B * 65536 + g4))).trans ((set_other (B := w.heap.size + 2) (by omega) 0 (.int .u64 (A * 65536 + g0))).trans b1)
      · exact (set_other (B := w.heap.size + 2) (by omega) 1 (.int .u64 (B * 65536 + g4))).trans ((set_other (B := w.heap.size + 2) (by omega) 0 (.int .u64 (A * 65536 + g0))).trans b0)
      · exact Below.dr (Below.dr (below_set (B := w.heap.size + 2) (below_set (B := w.heap.size + 2) hbel (by omega) 0 (.int .u64 (A * 65536 + g0))) (by omega) 1 (.int .u64 (B * 65536 + g4))))
    | 1, _ =>
      have cg : wr.cell? ⟨w.heap.size, 1, none⟩ = some (.int .u16 (g1 : Nat)) := by simp [World.cell?, b0]
      have ch : wr.cell? ⟨w.heap.size, 5, none⟩ = some (.int .u16 (g5 : Nat)) := by simp [World.cell?, b0]
      have k1 := h1 1
      have k2 := h2 1
      have o1 := or16 A g1 (by rw [hh.out.1]; omega) (by rw [hh.out.1]; omega) (by omega) (by omega)
      have o2 := or16 B g5 (by rw [hh.out.2]; omega) (by rw [hh.out.2]; omega) (by omega) (by omega)
      clear or16 h1 h2 k1 k2
      go_wp2
      go_region
      go_wp2
      go_region
      go_wp2
      obtain ⟨hA, hB⟩ := hh.out
      refine ⟨⟨2, A * 65536 + g1, B * 65536 + g5, rfl, by omega, Lib.hid ⟨by rw [hA]; simp [hp], by rw [hB]; simp [hp]⟩, ?_, ?_, ?_, ?_⟩, by simp [intOf]⟩
      · exact (heap_set (heap_set b2 0 (.int .u64 (A * 65536 + g1))) 1 (.int .u64 (B * 65536 + g5)))
      · exact (set_other (B := w.heap.size + 2) (by omega) 1 (.int .u64 (B * 65536 + g5))).trans ((set_other (B := w.heap.size + 2) (by omega) 0 (.int .u64 (A * 65536 + g1))).trans b1)
      · exact (set_other (B := w.heap.size + 2) (by omega) 1 (.int .u64 (B * 65536 + g5))).trans ((set_other (B := w.heap.size + 2) (by omega) 0 (.int .u64 (A * 65536 + g1))).trans b0)
      · exact Below.dr (Below.dr (below_set (B := w.heap.size + 2) (below_set (B := w.heap.size + 2) hbel (by omega) 0 (.int .u64 (A * 65536 + g1))) (by omega) 1 (.int .u64 (B * 65536 + g5))))
    | 2, _ =>
      have cg : wr.cell? ⟨w.heap.size, 2, none⟩ = some (.int .u16 (g2 : Nat)) := by simp [World.cell?, b0]
      have ch : wr.cell? ⟨w.heap.size, 6, none⟩ = some (.int .u16 (g6 : Nat)) := by simp [World.cell?, b0]
      have k1 := h1 2
      have k2 := h2 2
      have o1 := or16 A g2 (by rw [hh.out.1]; omega) (by rw [hh.out.1]; omega) (by omega) (by omega)
      have o2 := or16 B g6 (by rw [hh.out.2]; omega) (by rw [hh.out.2]; omega) (by omega) (by omega)
      clear or16 h1 h2 k1 k2
      go_wp2
      go_region
      go_wp2
      go_region
      go_wp2
      obtain ⟨hA, hB⟩ := hh.out
      refine ⟨⟨3, A * 65536 + g2, B * 65536 + g6, rfl, by omega, Lib.hid ⟨by rw [hA]; simp [hp], by rw [hB]; simp [hp]⟩, ?_, ?_, ?_, ?_⟩, by simp [intOf]⟩
      · exact (heap_set (heap_set b2 0 (.int .u64 (A * 65536 + g2))) 1 (.int .u64 (B * 65536 + g6)))
      · exact (set_other (B := w.heap.size + 2) (by omega) 1 (.int .u64 (B * 65536 + g6))).trans ((set_other (B := w.heap.size + 2) (by omega) 0 (.int .u64 (A * 65536 + g2))).trans b1)
      · exact (set_other (B := w.heap.size + 2) (by omega) 1 (.int .u64 (B * 65536 + g6))).trans ((set_other (B := w.heap.size + 2) (by omega) 0 (.int .u64 (A * 65536 + g2))).trans b0)
      · exact Below.dr (Below.dr (below_set (B := w.heap.size + 2) (below_set (B := w.heap.size + 2) hbel (by omega) 0 (.int .u64 (A * 65536 + g2))) (by omega) 1 (.int .u64 (B * 65536 + g6))))
    | 3, _ =>
      have cg : wr.cell? ⟨w.heap.size, 3, none⟩ = some (.int .u16 (g3 : Nat)) := by simp [World.cell?, b0]
      have ch : wr.cell? ⟨w.heap.size, 7, none⟩ = some (.int .u16 (g7 : Nat)) := by simp [World.cell?, b0]
      have k1 := h1 3
      have k2 := h2 3
      have o1 := or16 A g3 (by rw [hh.out.1]; omega) (by rw [hh.out.1]; omega) (by omega) (by omega)
      have o2 := or16 B g7 (by rw [hh.out.2]; omega) (by rw [hh.out.2]; omega) (by omega) (by omega)
      clear or16 h1 h2 k1 k2
      go_wp2
      go_region
      go_wp2
      go_region
      go_wp2
      obtain ⟨hA, hB⟩ := hh.out
      refine ⟨⟨4, A * 65536 + g3, B * 65536 + g7, rfl, by omega, Lib.hid ⟨by rw [hA]; simp [hp], by rw [hB]; simp [hp]⟩, ?_, ?_, ?_, ?_⟩, by simp [intOf]⟩
      · exact (heap_set (heap_set b2 0 (.int .u64 (A * 65536 + g3))) 1 (.int .u64 (B * 65536 + g7)))
      · exact (set_other (B := w.heap.size + 2) (by omega) 1 (.int .u64 (B * 65536 + g7))).trans ((set_other (B := w.heap.size + 2) (by omega) 0 (.int .u64 (A * 65536 + g3))).trans b1)
      · exact (set_other (B := w.heap.size + 2) (by omega) 1 (.int .u64 (B * 65536 + g7))).trans ((set_other (B := w.heap.size + 2) (by omega) 0 (.int .u64 (A * 65536 + g3))).trans b0)
      · exact Below.dr (Below.dr (below_set (B := w.heap.size + 2) (below_set (B := w.heap.size + 2) hbel (by omega) 0 (.int .u64 (A * 65536 + g3))) (by omega) 1 (.int .u64 (B * 65536 + g7))))
    | 4, _ =>
      obtain ⟨hA, hB⟩ := hh.out
      clear h1 h2 or16 hh
      subst hA hB
      have c10 : wr.cell? ⟨w.heap.size + 1, 0, none⟩ = some (.int .u64 0) := by simp [World.cell?, b1]
      have c11 : wr.cell? ⟨w.heap.size + 1, 1, none⟩ = some (.int .u64 0) := by simp [World.cell?, b1]
      have f10 : wr.frozen? ⟨w.heap.size + 1, 0, none⟩ = false := by simp [World.frozen?, b1]
      have f11 : wr.frozen? ⟨w.heap.size + 1, 1, none⟩ = false := by simp [World.frozen?, b1]
      go_wp2
      have hg := heap_set (heap_set b1 0 (.int .u64 (hp [g0, g1, g2, g3] 4 : Nat))) 1 (.int .u64 (hp [g4, g5, g6, g7] 4 : Nat))
      refine bodyPost_ret_by (results_cell_row Tryd.results62 _ _ (w.heap.size + 1) 24 #[.int .u64 (hp [g0, g1, g2, g3] 4 : Nat), .int .u64 (hp [g4, g5, g6, g7] 4 : Nat)] (0, 0) _ rfl hg Tryd.underlying24 rfl (by kernel_rfl)) rfl ⟨rfl, ?_⟩
      exact below_set (B := w.heap.size + 1) (below_set (B := w.heap.size + 1) hbel (by omega) 0 _) (by omega) 1 _

end Go.Proofs.YtaafflmkfdicdaaDoor
