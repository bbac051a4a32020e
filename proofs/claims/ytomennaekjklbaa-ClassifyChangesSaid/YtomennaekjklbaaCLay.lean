/- The closure of the program's Points: a number is laid down; by-name template (gen_clay.py). -/
import Derived.Test.YtomennaekjklbaaCRPtA
namespace Go.Proofs.Ytomennaekjklbaa
open Go.RowKit Go.Lib Go.Sort
set_option linter.unusedVariables false
set_option linter.unusedSimpArgs false

theorem own_setc {w : World} {base : Nat} {e : TypeId} {size : Nat} {v : Value} {n : Nat} {xs : List Value} (h : w.ownsRow base e size v n xs) {B : Nat} (hB : B < base) (o : Nat) (x : Value) : (w.setCell ⟨B, o, none⟩ x).ownsRow base e size v n xs := by
  obtain ⟨h0, h | ⟨g, cap, cur, hv, hb, hg, h1, h2, h3, h4⟩⟩ := h
  · exact ⟨h0, .inl h⟩
  · exact ⟨h0, .inr ⟨g, cap, cur, hv, hb, (set_other (by omega) o x).trans hg, h1, h2, h3, h4⟩⟩
theorem bel_via' {N : Nat} {w w1 w2 : World} (h : Below N w w1) (k : Below w1.heap.size w1 w2) (hN : N ≤ w1.heap.size := by omega) : Below N w w2 := h.trans (k.mono hN)
def LayPost (w : World) (v : Value) (P : Nat) (L : List P2) (e : Ending) (w' : World) : Prop := ∃ v', e = .returned (.tuple #[]) ∧ w'.heap[P]? = some (.cells #[v'] 74 (0, 0)) ∧ w'.ownsRow (P + 1) 25 2 v' L.length (L.flatMap p2c) ∧ Below P w w' ∧ ∀ g, g < w.heap.size → g ≠ P → v.ownBlock ≠ some g → w'.heap[g]? = w.heap[g]?

set_option maxRecDepth 100000 in
set_option maxHeartbeats 4000000 in
theorem lay_any (b : Nat → R4) (k : Nat) (hk : k < 6) (p : P2) (v : Value) (L : List P2) (hm : L.length ≤ 4096) (B F P : Nat) (hBP : B < P) (hFP : F < P) (w : World) (hB : BoxAt w B b) (hF : w.cell? ⟨F, 0, none⟩ = some (.int .i64 k)) (hP : w.heap[P]? = some (.cells #[v] 74 (0, 0))) (hown : w.ownsRow (P + 1) 25 2 v L.length (L.flatMap p2c)) :
    Calls Try.prog 59 #[.agg #[.int .u64 p.h, .int .u64 p.l], .pointer (some ⟨B, 0, none⟩), .pointer (some ⟨F, 0, none⟩), .pointer (some ⟨P, 0, none⟩)] w (LayPost w v P (L ++ icL (b k) p)) := by
  obtain ⟨iu, hiu, hu0, hu1, hu2⟩ := info_parts addr_info
  obtain ⟨M, hM⟩ : ∃ M, M = LayPost w v P (L ++ icL (b k) p) := ⟨_, rfl⟩
  rw [← hM]
  have HM := Lib.hid hM; clear hM
  have ci := isCut_any (b k) p
  generalize hX : icB (b k) p = X at ci
  have HX := Lib.hid hX; clear hX
  have hPl := blk_lt hP
  have hk0 : (0 : Int) ≤ (k : Int) := by omega
  have hk1 : (k : Int) < 6 := by omega
  go_enter Try.func59, Try.ntmps59
  go_wp2_with fail
  obtain ⟨w0, hw0⟩ : ∃ w0, w0 = w.alloc (.cells #[.int .u64 p.h, .int .u64 p.l] 25) := ⟨_, rfl⟩
  have b0 : Below w.heap.size w w0 := by rw [hw0]; exact Below.al (Below.refl _ _) _
  have hA0 : w0.heap[w.heap.size]? = some (.cells #[.int .u64 p.h, .int .u64 p.l] 25) := by rw [hw0]; exact heap_alloc_new w _
  have hP0 := blkB b0 hP
  have hown0 := own_bel hown b0
  obtain ⟨y0, y1, y2, y3⟩ := hB.keep b0 k hk
  have f0 := keepc b0 hF
  obtain ⟨z0, z1, _, _⟩ := cells2 hA0
  rw [← hw0]
  clear hw0 hB hF hP hown
  have k_y0 := cell_regrown y0
  have k_y1 := cell_regrown y1
  have k_y2 := cell_regrown y2
  have k_y3 := cell_regrown y3
  have k_f0 := cell_regrown f0
  have k_z0 := cell_regrown z0
  have k_z1 := cell_regrown z1
  have q := fun d os => Calls.regrown_of (ci (grow (redrawn w0 d) os))
  clear y0 y1 y2 y3 f0 z0 z1
  refine wp_region_quiet_below (by kernel_rfl) (by kernel_rfl) ?_
  repeat (first | go_big_quiet_skip | quiet_step (first | (go_at_call 60; with_reducible exact q _ _)))
  refine wpQuiet_nil ?_
  intro _ hw'
  obtain ⟨⟨dq, osq⟩, hw''⟩ := hw'
  subst hw''
  have u0 := k_z0 dq osq
  have u1 := k_z1 dq osq
  have hP1 := blkB (below_regrown w0 dq osq) hP0
  have hown1 := own_bel hown0 (below_regrown w0 dq osq)
  have bq := bel_via b0 (below_regrown w0 dq osq)
  obtain ⟨wq, hwq⟩ : ∃ x, x = grow (redrawn w0 dq) osq := ⟨_, rfl⟩
  rw [← hwq] at u0 u1 hP1 hown1 bq ⊢
  clear hwq k_y0 k_y1 k_y2 k_y3 k_f0 k_z0 k_z1 q ci hA0 hP0 hown0 b0
  have bqP : Below P w wq := bq.mono (by omega)
  cases X with
  | false =>
    have FIN : M (.returned (.tuple #[])) wq := by
      rw [HM.out]
      have e : icL (b k) p = [] := by unfold icL; rw [HX.out]; rfl
      rw [e, List.append_nil]
      exact ⟨v, rfl, hP1, hown1, bqP, fun g hg _ _ => bq.block g hg⟩
    have FIN := Lib.hid FIN
    go_wp2
    first | exact FIN.out | (simp [bodyPost, results, Try.results59, go_sem]; exact FIN.out)
  | true =>
    have v0 : wq.cell? ⟨P, 0, none⟩ = some v := by simp [World.cell?, hP1]
    have hby : (L.length + 1) * 16 ≤ 140737488355328 := by omega
    have h63 : L.length + 1 ≤ maxLen := by unfold maxLen; omega
    have hbs : P + 1 ≤ (wq.alloc (.cells #[.int .u64 p.h, .int .u64 p.l] 25)).heap.size := by rw [al_size]; have := blk_lt hP1; omega
    have hownA := own_bel hown1 (Below.al (Below.refl _ wq) (.cells #[.int .u64 p.h, .int .u64 p.l] 25))
    have h1 := p2_news wq p 25
    have h2 := p2_one p
    have h1 := Lib.hid h1
    have h2 := Lib.hid h2
    go_wp2_with (at_builtin; go_loud (refine wpList_append_own _ rfl _ _ 74 rfl (P + 1) 25 iu (.agg #[.int .u64 0, .int .u64 0]) 2 16 Try.underlying74 hiu hu0 hu1 hu2 rfl (by decide) _ _ _ rfl hownA ⟨wq.heap.size, 0, none⟩ 1 1 (p2c p) rfl rfl h1.out h2.out h63 hby hbs ?_))
    intro v' w' hown' hg' _
    have h5 : w'.ownsRow (P + 1) 25 2 v' (L.length + 1) ((L ++ [p]).flatMap p2c) := by simpa using hown'
    obtain ⟨A', cap', rfl, -, -⟩ := sl_of_own (k := 2) (enc := p2c) (fun _ => rfl) h5 (by simp)
    clear hown'
    have H5 := Lib.hid h5; clear h5
    have hP2 : w'.heap[P]? = some (.cells #[v] 74 (0, 0)) := by
      rw [hg'.block P (by rw [al_size]; have := blk_lt hP1; omega) (fun e => by have := own_gt hownA P e.symm; omega)]; exact blk_al hP1 _
    have b2 : Below P w w' := (bel_via' bqP (Below.al (Below.refl _ wq) _) (by have := blk_lt hP1; omega)).grown hg' (by rw [al_size]; have := blk_lt hP1; omega) (fun q hq => by have := own_gt hownA q hq; omega)
    have hG : ∀ g, g < w.heap.size → v.ownBlock ≠ some g → w'.heap[g]? = w.heap[g]? := fun g hg hgv => by
      rw [hg'.block g (by rw [al_size]; have := bq.size; omega) (fun e => hgv e.symm), al_old (by have := bq.size; omega)]
      exact bq.block g hg
    have HG := Lib.hid hG
    clear hg' hownA h1 h2 hG
    have x0 : w'.cell? ⟨P, 0, none⟩ = some v := by simp [World.cell?, hP2]
    have xf : w'.frozen? ⟨P, 0, none⟩ = false := by simp [World.frozen?, hP2]
    have FIN : M (.returned (.tuple #[])) (w'.setCell ⟨P, 0, none⟩ (.slice A' (L.length + 1) cap')) := by
      rw [HM.out]
      have e : icL (b k) p = [p] := by unfold icL; rw [HX.out]; rfl
      rw [e]
      refine ⟨.slice A' (L.length + 1) cap', rfl, by simp [World.setCell, Array.getElem?_modify, hP2], ?_, below_set b2 (Nat.le_refl _) _ _, fun g hg hgP hgv => ?_⟩
      · rw [show (L ++ [p]).length = L.length + 1 by simp]; exact own_setc H5.out (by omega) 0 _
      · rw [set_other hgP]; exact HG.out g hg hgv
    have FIN := Lib.hid FIN
    go_wp2
    first | exact FIN.out | (simp [bodyPost, results, Try.results59, go_sem]; exact FIN.out)
end Go.Proofs.Ytomennaekjklbaa
