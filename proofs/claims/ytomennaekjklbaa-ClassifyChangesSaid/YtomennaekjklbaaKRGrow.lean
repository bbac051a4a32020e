/- The document's tree grows; by-name template (gen_krgrow.py). -/
import Derived.Test.YtomennaekjklbaaKRNode
import Derived.Test.YtomennaekjklbaaKRLeft
import Derived.Test.YtomennaekjklbaaKGrow
import Derived.Test.YtomennaekjklbaaCRSplit
namespace Go.Proofs.Ytomennaekjklbaa
open Go.RowKit Go.Lib Go.Sort
set_option linter.unusedVariables false
set_option linter.unusedSimpArgs false

theorem Sl.notAt2 {w : World} {A : Option Addr} {n : Nat} {l : List EN} {G : Nat} (h : Sl w 25 enc25 A n l) (hG : w.heap.size ≤ G) : 0 < n → NotAt G A := fun hn b off sp e => by
  obtain ⟨b', off', e', hlt, _⟩ := h.row hn
  rw [e] at e'
  cases e'
  omega
def RGrowPost (w : World) (r : Option (TN × Nat)) (e : Ending) (w' : World) : Prop := match r with
  | none => e = .returned (.tuple #[.pointer none, .int .i64 0]) ∧ Below w.heap.size w w'
  | some (t, m) => ∃ B, e = .returned (.tuple #[.pointer (some ⟨B, 0, none⟩), .int .i64 (m : Nat)]) ∧ RNode w.heap.size w' t B ∧ Below w.heap.size w w'
theorem cells6 {w : World} {B : Nat} {x0 x1 x2 x3 x4 x5 : Value} {t : TypeId} (h : w.heap[B]? = some (.cells #[x0, x1, x2, x3, x4, x5] t (0, 0))) :
    w.cell? ⟨B, 2, none⟩ = some x2 ∧ w.cell? ⟨B, 3, none⟩ = some x3 ∧ w.cell? ⟨B, 4, none⟩ = some x4 ∧ w.cell? ⟨B, 5, none⟩ = some x5 ∧ w.frozen? ⟨B, 4, none⟩ = false ∧ w.frozen? ⟨B, 5, none⟩ = false := by
  refine ⟨?_, ?_, ?_, ?_, ?_, ?_⟩ <;> simp [World.cell?, World.frozen?, h]
theorem set4 {w : World} {B : Nat} {x0 x1 x2 x3 x4 x5 : Value} {t : TypeId} (h : w.heap[B]? = some (.cells #[x0, x1, x2, x3, x4, x5] t (0, 0))) (a : Value) : (w.setCell ⟨B, 4, none⟩ a).heap[B]? = some (.cells #[x0, x1, x2, x3, a, x5] t (0, 0)) := by simp [World.setCell, Array.getElem?_modify, h]
theorem set5 {w : World} {B : Nat} {x0 x1 x2 x3 x4 x5 : Value} {t : TypeId} (h : w.heap[B]? = some (.cells #[x0, x1, x2, x3, x4, x5] t (0, 0))) (a : Value) : (w.setCell ⟨B, 5, none⟩ a).heap[B]? = some (.cells #[x0, x1, x2, x3, x4, a] t (0, 0)) := by simp [World.setCell, Array.getElem?_modify, h]

set_option maxRecDepth 100000 in
set_option maxHeartbeats 16000000 in
theorem rgrow_any : ∀ (d dep : Nat) (hd : dep + d = 24) (b : Nat → R4) (wb : WB b) (l : List EN) (hw : ∀ e ∈ l, WB e.bx) (may : Nat) (hmay : may ≤ 512) (A : Option Addr) (n c : Nat) (hn : n ≤ 4096) (hl5 : (leftP b l).length ≤ 512) (w : World) (hS : Sl w 25 enc25 A n l),
    Calls Try.prog 15 #[.slice A n c, .agg (bxc b), .int .i64 dep, .int .i64 may] w (RGrowPost w (growP d b l may)) := by
  intro d
  induction d with
  | zero =>
    intro dep hd b wb l hw may hmay A n c hn hl5 w hS
    obtain ⟨M, hM⟩ : ∃ M, M = RGrowPost w (growP 0 b l may) := ⟨_, rfl⟩
    rw [← hM]
    have HM := Lib.hid hM; clear hM
    have iC := inf29 b
    have la := fun (W : World) (h : Sl W 25 enc25 A n l) => rleft_any A n c l b hn W h
    have LPx := fun (W : World) (A' : Option Addr) (n' c' : Nat) (k : Nat) (hk : k < 6) (hn' : n' ≤ 512) (hwl : ∀ e ∈ leftP b l, WB e.bx) (h : Sl W 25 enc25 A' n' (leftP b l)) => rpts_any A' n' c' (leftP b l) b k hk hn' hwl W h
    obtain ⟨C, hC⟩ : ∃ C, C = bxc b := ⟨_, rfl⟩
    simp only [← hC] at la LPx
    rw [← hC] at iC ⊢
    have iC := Lib.hid iC
    have HC := Lib.hid hC; clear hC
    have HLEN := Lib.hid hl5
    have hA0 := heap_alloc_new w (.cells C 30)
    have b0 := Below.al (Below.refl w.heap.size w) (.cells C 30)
    obtain ⟨wz, hwz⟩ : ∃ w0, w0 = w.alloc (.cells C 30) := ⟨_, rfl⟩
    rw [← hwz] at hA0 b0
    have hwzs : wz.heap.size = w.heap.size + 1 := by rw [hwz, al_size]
    have Hw0 := Lib.hid hwz; clear hwz
    replace hS := hS.keep b0
    go_enter Try.func15, Try.ntmps15
    go_upto_region 1 with fail
    rw [← Hw0.out]
    clear Hw0
    go_upto_region 2 with (first | (refine wpList_load_row rfl 30 (.tmp 5) rfl w.heap.size rfl 30 C (0, 0) _ hA0 Try.underlying30 rfl iC.out ?_) | (go_at_call 24; go_loud (with_reducible refine (la _ hS).mono ?_); rintro e wy ⟨A8, c8, rfl, hc8, hS8, hnil8, hnew8, hb⟩; replace hA0 := blkB hb hA0; have hA8a : Above w.heap.size A8 := (fun b' off sp h => by have h1 := hnew8 b' off sp h; omega); replace b0 := bel_via b0 hb; clear hb hnew8 hnil8 la hwzs; obtain ⟨wz, hwz⟩ : ∃ x, x = wy := ⟨_, rfl⟩; subst hwz))
    obtain ⟨m8, hm8'⟩ : ∃ m, m = (leftP b l).length := ⟨_, rfl⟩
    rw [← hm8'] at hS8 hc8 ⊢
    have HM8 := Lib.hid hm8'; clear hm8'
    clear hS
    by_cases h0 : may = 0
    · have FIN : M (.returned (.tuple #[.pointer none, .int .i64 0])) wz := by rw [HM.out, h0, grow_zero]; exact ⟨rfl, b0⟩
      have FIN := Lib.hid FIN
      have hm0 : (may : Int) ≤ 0 := by omega
      clear h0
      go_wp2_with fail
      first | exact FIN.out | (simp [bodyPost, results, Try.results15, go_sem]; exact FIN.out) | (go_ret2; exact FIN.out)
    have hmp : ¬ (may : Int) ≤ 0 := by omega
    by_cases h8 : (leftP b l).length ≤ 8
    · have hgr := grow_leaf (d := 0) (b := b) (l := l) (may := may) h0 h8
      rw [← HM8.out] at h8
      have hm8 : decide (m8 ≤ 8) = true := by simp [h8]
      have hm9 : (m8 : Int) ≤ 8 := by omega
      have b1 := Below.al (Below.refl wz.heap.size wz) (.cells #[.slice A8 m8 c8, .int .i64 0, .int .u64 0, .int .u64 0, .pointer none, .pointer none] 73)
      have FIN : M (.returned (.tuple #[.pointer (some ⟨wz.heap.size, 0, none⟩), .int .i64 ((may : Int) - 1)])) (wz.alloc (.cells #[.slice A8 m8 c8, .int .i64 0, .int .u64 0, .int .u64 0, .pointer none, .pointer none] 73)) := by
        rw [HM.out, hgr]
        have hN := heap_alloc_new wz (.cells #[.slice A8 m8 c8, .int .i64 0, .int .u64 0, .int .u64 0, .pointer none, .pointer none] 73)
        have hS9 := hS8.keep b1
        have hc9 := hc8
        rw [HM8.out] at hN hS9 hc9
        refine ⟨wz.heap.size, by rw [show ((may - 1 : Nat) : Int) = (may : Int) - 1 by omega], ⟨b0.size, A8, c8, ?_, hc9, fun _ => hA8a, ?_⟩, ?_⟩
        · rw [HM8.out]; exact hN
        · rw [HM8.out]; exact hS9
        · exact bel_via b0 b1
      have FIN := Lib.hid FIN
      clear hgr b1
      go_wp2_with fail
      first | exact FIN.out | (simp [bodyPost, results, Try.results15, go_sem]; exact FIN.out) | (go_ret2; exact FIN.out)
    have h8m : ¬ m8 ≤ 8 := by rw [HM8.out]; exact h8
    have hm8 : decide (m8 ≤ 8) = false := by simp; omega
    have hm9 : ¬ (m8 : Int) ≤ 8 := by omega
    have hgr := grow_deep (b := b) (l := l) (may := may) h0 h8
    have hdd : (dep : Int) = 24 := by omega
    have hdq : ((dep : Int) == 24) = true := by rw [hdd]; rfl
    have FIN : M (.returned (.tuple #[.pointer none, .int .i64 0])) wz := by rw [HM.out, hgr]; exact ⟨rfl, b0⟩
    have FIN := Lib.hid FIN
    clear hgr hdd
    go_wp2_with fail
    first | exact FIN.out | (simp [bodyPost, results, Try.results15, go_sem]; exact FIN.out) | (go_ret2; exact FIN.out)
  | succ d ih =>
    intro dep hd b wb l hw may hmay A n c hn hl5 w hS
    obtain ⟨M, hM⟩ : ∃ M, M = RGrowPost w (growP (d + 1) b l may) := ⟨_, rfl⟩
    rw [← hM]
    have HM := Lib.hid hM; clear hM
    have iC := inf29 b
    have la := fun (W : World) (h : Sl W 25 enc25 A n l) => rleft_any A n c l b hn W h
    have LPx := fun (W : World) (A' : Option Addr) (n' c' : Nat) (k : Nat) (hk : k < 6) (hn' : n' ≤ 512) (hwl : ∀ e ∈ leftP b l, WB e.bx) (h : Sl W 25 enc25 A' n' (leftP b l)) => rpts_any A' n' c' (leftP b l) b k hk hn' hwl W h
    obtain ⟨C, hC⟩ : ∃ C, C = bxc b := ⟨_, rfl⟩
    simp only [← hC] at la LPx
    rw [← hC] at iC ⊢
    have iC := Lib.hid iC
    have HC := Lib.hid hC; clear hC
    have HLEN := Lib.hid hl5
    have hA0 := heap_alloc_new w (.cells C 30)
    have b0 := Below.al (Below.refl w.heap.size w) (.cells C 30)
    obtain ⟨wz, hwz⟩ : ∃ w0, w0 = w.alloc (.cells C 30) := ⟨_, rfl⟩
    rw [← hwz] at hA0 b0
    have hwzs : wz.heap.size = w.heap.size + 1 := by rw [hwz, al_size]
    have Hw0 := Lib.hid hwz; clear hwz
    replace hS := hS.keep b0
    go_enter Try.func15, Try.ntmps15
    go_upto_region 1 with fail
    rw [← Hw0.out]
    clear Hw0
    go_upto_region 2 with (first | (refine wpList_load_row rfl 30 (.tmp 5) rfl w.heap.size rfl 30 C (0, 0) _ hA0 Try.underlying30 rfl iC.out ?_) | (go_at_call 24; go_loud (with_reducible refine (la _ hS).mono ?_); rintro e wy ⟨A8, c8, rfl, hc8, hS8, hnil8, hnew8, hb⟩; replace hA0 := blkB hb hA0; have hA8a : Above w.heap.size A8 := (fun b' off sp h => by have h1 := hnew8 b' off sp h; omega); replace b0 := bel_via b0 hb; clear hb hnew8 hnil8 la hwzs; obtain ⟨wz, hwz⟩ : ∃ x, x = wy := ⟨_, rfl⟩; subst hwz))
    obtain ⟨m8, hm8'⟩ : ∃ m, m = (leftP b l).length := ⟨_, rfl⟩
    rw [← hm8'] at hS8 hc8 ⊢
    have HM8 := Lib.hid hm8'; clear hm8'
    clear hS
    by_cases h0 : may = 0
    · have FIN : M (.returned (.tuple #[.pointer none, .int .i64 0])) wz := by rw [HM.out, h0, grow_zero]; exact ⟨rfl, b0⟩
      have FIN := Lib.hid FIN
      have hm0 : (may : Int) ≤ 0 := by omega
      clear h0
      go_wp2_with fail
      first | exact FIN.out | (simp [bodyPost, results, Try.results15, go_sem]; exact FIN.out) | (go_ret2; exact FIN.out)
    have hmp : ¬ (may : Int) ≤ 0 := by omega
    by_cases h8 : (leftP b l).length ≤ 8
    · have hgr := grow_leaf (d := (d + 1)) (b := b) (l := l) (may := may) h0 h8
      rw [← HM8.out] at h8
      have hm8 : decide (m8 ≤ 8) = true := by simp [h8]
      have hm9 : (m8 : Int) ≤ 8 := by omega
      have b1 := Below.al (Below.refl wz.heap.size wz) (.cells #[.slice A8 m8 c8, .int .i64 0, .int .u64 0, .int .u64 0, .pointer none, .pointer none] 73)
      have FIN : M (.returned (.tuple #[.pointer (some ⟨wz.heap.size, 0, none⟩), .int .i64 ((may : Int) - 1)])) (wz.alloc (.cells #[.slice A8 m8 c8, .int .i64 0, .int .u64 0, .int .u64 0, .pointer none, .pointer none] 73)) := by
        rw [HM.out, hgr]
        have hN := heap_alloc_new wz (.cells #[.slice A8 m8 c8, .int .i64 0, .int .u64 0, .int .u64 0, .pointer none, .pointer none] 73)
        have hS9 := hS8.keep b1
        have hc9 := hc8
        rw [HM8.out] at hN hS9 hc9
        refine ⟨wz.heap.size, by rw [show ((may - 1 : Nat) : Int) = (may : Int) - 1 by omega], ⟨b0.size, A8, c8, ?_, hc9, fun _ => hA8a, ?_⟩, ?_⟩
        · rw [HM8.out]; exact hN
        · rw [HM8.out]; exact hS9
        · exact bel_via b0 b1
      have FIN := Lib.hid FIN
      clear hgr b1
      go_wp2_with fail
      first | exact FIN.out | (simp [bodyPost, results, Try.results15, go_sem]; exact FIN.out) | (go_ret2; exact FIN.out)
    have h8m : ¬ m8 ≤ 8 := by rw [HM8.out]; exact h8
    have hm8 : decide (m8 ≤ 8) = false := by simp; omega
    have hm9 : ¬ (m8 : Int) ≤ 8 := by omega
    have hgr := grow_inner (d := d) (b := b) (l := l) (may := may) h0 h8
    have hd1 : ¬ (dep : Int) = 24 := by omega
    have hdq : ((dep : Int) == 24) = false := by simp; omega
    obtain ⟨g0, g1, g2, g3, g4⟩ := best_good hw wb (by omega : 8 < (leftP b l).length)
    have wl := wb_lo wb g3 g4
    have wh := wb_hi wb g3 g4
    have hwl : ∀ e ∈ leftP b l, WB e.bx := fun e he => hw e (left_mem he).1
    have hm512 : m8 ≤ 512 := by rw [HM8.out]; exact HLEN.out
    have LP := fun (W : World) (k : Nat) (hk : k < 6) (h : Sl W 25 enc25 A8 m8 (leftP b l)) => LPx W A8 m8 c8 k hk hm512 hwl h
    have hcs := fun W : World => rsplit_any b (fldP b (leftP b l) : Nat) (atP b (leftP b l)) wb g4.1 g4.2 W
    rw [g3] at hcs
    have HCS : ∀ W : World, Calls Try.prog 26 #[.agg C, .int .i64 (fldP b (leftP b l) : Nat), .agg #[.int .u64 (atP b (leftP b l)).h, .int .u64 (atP b (leftP b l)).l]] W fun e w' => e = .returned (.tuple #[.agg (bxc (loP b (leftP b l))), .agg (bxc (hiP b (leftP b l))), .bool true]) ∧ Below W.heap.size W w' := by rw [HC.out]; exact hcs
    clear hcs LPx
    have iL := inf29 (loP b (leftP b l))
    have oL := bx_one (loP b (leftP b l))
    have zL : (#[.int .u64 0, .int .u64 0, .int .u64 0, .int .u64 0, .int .u64 0, .int .u64 0, .int .u64 0, .int .u64 0, .int .u64 0, .int .u64 0, .int .u64 0, .int .u64 0, .int .u64 0, .int .u64 0, .int .u64 0, .int .u64 0, .int .u64 0, .int .u64 0, .int .u64 0, .int .u64 0, .int .u64 0, .int .u64 0, .int .u64 0, .int .u64 0] : Array Value).size = (bxc (loP b (leftP b l))).size := rfl
    have iH := inf29 (hiP b (leftP b l))
    have oH := bx_one (hiP b (leftP b l))
    have zH : (#[.int .u64 0, .int .u64 0, .int .u64 0, .int .u64 0, .int .u64 0, .int .u64 0, .int .u64 0, .int .u64 0, .int .u64 0, .int .u64 0, .int .u64 0, .int .u64 0, .int .u64 0, .int .u64 0, .int .u64 0, .int .u64 0, .int .u64 0, .int .u64 0, .int .u64 0, .int .u64 0, .int .u64 0, .int .u64 0, .int .u64 0, .int .u64 0] : Array Value).size = (bxc (hiP b (leftP b l))).size := rfl
    have r1 := fun (W : World) (hs : Sl W 25 enc25 A8 m8 (leftP b l)) => ih (dep + 1) (by omega) (loP b (leftP b l)) wl (leftP b l) hwl (may - 1) (by omega) A8 m8 c8 (by omega) (Nat.le_trans (left_len _ _) HLEN.out) W hs
    have r2 := fun (W : World) (m1 : Nat) (h1 : m1 ≤ 512) (hs : Sl W 25 enc25 A8 m8 (leftP b l)) => ih (dep + 1) (by omega) (hiP b (leftP b l)) wh (leftP b l) hwl m1 h1 A8 m8 c8 (by omega) (Nat.le_trans (left_len _ _) HLEN.out) W hs
    have hgc := fun t m => grow_count d (loP b (leftP b l)) (leftP b l) (may - 1) t m
    generalize bxc (loP b (leftP b l)) = LV at *
    generalize bxc (hiP b (leftP b l)) = HV at *
    have iL := Lib.hid iL
    have oL := Lib.hid oL
    have zL := Lib.hid zL
    have iH := Lib.hid iH
    have oH := Lib.hid oH
    have zH := Lib.hid zH
    obtain ⟨R1, hR1⟩ : ∃ R1, R1 = growP d (loP b (leftP b l)) (leftP b l) (may - 1) := ⟨_, rfl⟩
    simp only [← hR1] at r1 hgr hgc
    clear hR1
    have HGR := Lib.hid hgr; clear hgr
    have HGC := Lib.hid hgc; clear hgc
    have dp1 : ((dep + 1 : Nat) : Int) = (dep : Int) + 1 := by omega
    have dp2 : ((may - 1 : Nat) : Int) = (may : Int) - 1 := by omega
    simp only [dp1, dp2] at r1 r2
    have HD2 := Lib.hid dp2
    clear dp1 dp2 g3 g4 wl wh ih
    have LP0 : ∀ (W : World) (h : Sl W 25 enc25 A8 m8 (leftP b l)), Calls Try.prog 25 #[.slice A8 m8 c8, .agg C, .int .i64 0] W (PtsPost W (rptsL (leftP b l) b 0)) := fun W h => LP W 0 (by omega) h
    obtain ⟨P0, hP0⟩ : ∃ P0, P0 = rptsL (leftP b l) b 0 := ⟨_, rfl⟩
    simp only [← hP0] at LP0
    have hb1 := best_one (leftP b l) b
    rw [← hP0] at hb1
    have HB1 := Lib.hid hb1
    clear hP0 hb1
    go_upto_region 10 with (first | (refine wpList_load_row rfl 30 (.tmp 5) rfl w.heap.size rfl 30 C (0, 0) _ hA0 Try.underlying30 rfl iC.out ?_) | (go_at_call 25; go_loud (with_reducible refine (LP0 _ hS8).mono ?_); rintro e wy ⟨A7, c7, rfl, hc7, hn7, hS7, hb⟩; replace hA0 := blkB hb hA0; replace hS8 := hS8.keep hb; replace b0 := bel_via b0 hb; clear hb hc7 hn7 LP0; obtain ⟨wz, hwz⟩ : ∃ x, x = wy := ⟨_, rfl⟩; subst hwz))
    go_wp2_with fail
    obtain ⟨w9, hw9⟩ : ∃ x, x = wz := ⟨_, rfl⟩
    rw [← hw9] at hA0 hS8 b0 hS7 ⊢
    clear hw9
    go_loopw [10, 11, 12] (fun v10 v11 v12 wr => ∃ i : Nat, v12 = .int .i64 i ∧ 1 ≤ i ∧ i ≤ 6 ∧ (∃ f A7 c7 LL, v10 = .int .i64 (f : Nat) ∧ v11 = .slice A7 LL.length c7 ∧ Hid (best (leftP b l) b i = (f, LL)) ∧ Sl wr 2 p2c A7 LL.length LL) ∧ Below w9.heap.size w9 wr) (fun _ _ v12 _ => 6 - (intOf v12).toNat)
    case atStart => exact ⟨1, rfl, by omega, by omega, ⟨0, A7, c7, P0, rfl, rfl, HB1, hS7⟩, Below.refl _ _⟩
    case round =>
      clear hS7 HB1
      obtain ⟨i, rfl, hi1, hi, ⟨f, A7, c7, LL, rfl, rfl, HB, hS7⟩, bw⟩ := hrel
      by_cases hlt : i < 6
      · have hlti : (i : Int) < 6 := by omega
        have hdn : decide (i < 6) = true := by simp [hlt]
        have lp := fun (W : World) (h : Sl W 25 enc25 A8 m8 (leftP b l)) => LP W i hlt h
        have hst := best_succ (leftP b l) b i
        rw [HB.out] at hst
        unfold bestS at hst
        obtain ⟨PP, hPP⟩ : ∃ PP, PP = rptsL (leftP b l) b i := ⟨_, rfl⟩
        simp only [← hPP] at lp hst
        have HST := Lib.hid hst
        clear hPP hst
        have hA' := blkB bw hA0
        have hSw := hS8.keep bw
        have bz := bw
        obtain ⟨wz, hwz⟩ : ∃ x, x = wr := ⟨_, rfl⟩
        rw [← hwz] at hA' hSw bz hS7 ⊢
        clear hwz
        obtain ⟨nl, hnl⟩ : ∃ nl, nl = LL.length := ⟨_, rfl⟩
        rw [← hnl] at hS7 ⊢
        have HNL := Lib.hid hnl; clear hnl
        go_upto_region 14 with (first | (refine wpList_load_row rfl 30 (.tmp 5) rfl w.heap.size rfl 30 C (0, 0) _ hA' Try.underlying30 rfl iC.out ?_) | (go_at_call 25; go_loud (with_reducible refine (lp _ hSw).mono ?_); rintro e wy ⟨AT9, cT9, rfl, hcT, hnT, hST, hb⟩; replace hS7 := hS7.keep hb; replace bz := bel_via bz hb; clear hb hSw lp hA' hcT hnT))
        obtain ⟨np, hnp⟩ : ∃ nl, nl = PP.length := ⟨_, rfl⟩
        rw [← hnp] at hST ⊢
        have HNP := Lib.hid hnp; clear hnp
        by_cases hcmp : nl < np
        · have hd1 : decide (nl < np) = true := by simp [hcmp]
          have hd2 : (nl : Int) < (np : Int) := by omega
          have hR : Hid (best (leftP b l) b (i + 1) = (i, PP)) := Lib.hid (by rw [HST.out, if_pos (by rw [← HNL.out, ← HNP.out]; exact hcmp)])
          go_wp2_with fail
          exact ⟨⟨i + 1, by simp, by omega, by omega, ⟨i, AT9, cT9, PP, rfl, by rw [HNP.out], hR, by rw [← HNP.out]; exact hST⟩, bz⟩, by simp [intOf]; omega⟩
        · have hd1 : decide (nl < np) = false := by simp; omega
          have hd2 : ¬ (nl : Int) < (np : Int) := by omega
          have hR : Hid (best (leftP b l) b (i + 1) = (f, LL)) := Lib.hid (by rw [HST.out, if_neg (by rw [← HNL.out, ← HNP.out]; exact hcmp)])
          go_wp2_with fail
          exact ⟨⟨i + 1, by simp, by omega, by omega, ⟨f, A7, c7, LL, rfl, by rw [HNL.out], hR, by rw [← HNL.out]; exact hS7⟩, bz⟩, by simp [intOf]; omega⟩
      · obtain rfl : i = 6 := by omega
        have hd0 : decide (6 < 6) = false := by simp
        have hf : fldP b (leftP b l) = f := by unfold fldP; rw [HB.out]
        have hpos : 0 < LL.length := by rw [HB.out] at g0; exact g0
        have hat : LL[LL.length / 2]? = some (atP b (leftP b l)) := by
          unfold atP
          rw [HB.out]
          simp only
          rw [List.getD_eq_getElem?_getD, List.getElem?_eq_getElem (by omega)]
          rfl
        rw [hf] at HCS
        have HFL := Lib.hid hf
        obtain ⟨AT, hAT⟩ : ∃ AT, AT = atP b (leftP b l) := ⟨_, rfl⟩
        simp only [← hAT] at HCS hat
        have HAT := Lib.hid hAT
        have cs := HCS
        clear hAT hf HCS
        obtain ⟨b1, o1, hA7, _, hr1⟩ := hS7.row hpos
        have e0 := hr1 _ AT hat 0 _ rfl
        have e1 := hr1 _ AT hat 1 _ rfl
        simp only [Nat.add_zero] at e0
        subst hA7
        clear hr1 hat
        have hlen : LL.length ≤ 1024 := by
          have h1 : LL = (best (leftP b l) b 6).2 := by rw [HB.out]
          rcases (best_is (leftP b l) b 6).2 with h | h
          · rw [h1, h]; simp
          · rw [h1, h]
            have := rpts_len (leftP b l) b (best (leftP b l) b 6).1 (leftP b l).length (Nat.le_refl _)
            rw [List.take_length] at this
            have := HLEN.out
            omega
        obtain ⟨nl, hnl⟩ : ∃ nl, nl = LL.length := ⟨_, rfl⟩
        rw [← hnl] at hpos e0 e1 hlen ⊢
        clear hnl hS7 HB
        obtain ⟨K2, hK2⟩ : ∃ K, K = nl / 2 := ⟨_, rfl⟩
        rw [← hK2] at e0 e1
        have hk1 : K2 < nl := by omega
        have hk2 : (K2 : Int) < (nl : Int) := by omega
        have hk3 : decide (K2 < nl) = true := by simp [hk1]
        have hk4 : (0 : Int) ≤ (K2 : Int) := by omega
        have hq1 : (nl : Int) / 2 = (K2 : Int) := by omega
        have hq2 : Int.tdiv (nl : Int) 2 = (K2 : Int) := by rw [Int.tdiv_eq_ediv_of_nonneg (by omega)]; exact hq1
        have hq3 : IntKind.i64.wrap (K2 : Int) = (K2 : Int) := IntWalk.i64_in _ (by omega)
        clear hK2
        have e2 := blkB bw hA0
        have hS9 := hS8.keep bw
        have hNA := hS9.notAt2 (Nat.le_refl wr.heap.size)
        have bz := bel_via b0 bw
        clear LP g0 g1 bw hA0 hS8 b0
        go_upto_region 18 with fail
        obtain ⟨w4, hw4⟩ : ∃ x, x = wr.alloc (.cells #[.slice none 0 0, .int .i64 (f : Nat), .int .u64 AT.h, .int .u64 AT.l, .pointer none, .pointer none] 73) := ⟨_, rfl⟩
        have hNode : w4.heap[wr.heap.size]? = some (.cells #[.slice none 0 0, .int .i64 (f : Nat), .int .u64 AT.h, .int .u64 AT.l, .pointer none, .pointer none] 73 (0, 0)) := by rw [hw4]; exact heap_alloc_new wr _
        replace e2 := blk_al2 hw4 e2
        have hS9 : Sl w4 25 enc25 A8 m8 (leftP b l) := by rw [hw4]; exact hS9.keep (Below.al (Below.refl _ _) _)
        have hNw : w.heap.size ≤ wr.heap.size := bz.size
        replace bz := bel_al2 hw4 bz
        obtain ⟨N, hN⟩ : ∃ N, N = wr.heap.size := ⟨_, rfl⟩
        rw [← hw4]
        rw [← hN] at hNode hNw hNA ⊢
        clear hw4 hN e0 e1 hk1 hk2 hk3 hk4 hq1 hq2 hq3
        obtain ⟨e0, e1, _, _, _, _⟩ := cells6 hNode
        have hC1 : ∀ w', Below w4.heap.size w4 w' → (w'.heap[w.heap.size]? = some (.cells C 30) ∧ w'.cell? ⟨N, 2, none⟩ = some (.int .u64 AT.h) ∧ w'.cell? ⟨N, 3, none⟩ = some (.int .u64 AT.l)) := fun w' h => ⟨blkB h e2, keepc h e0, keepc h e1⟩
        have HC1 := Lib.hid hC1; clear hC1
        go_cut [15, 16] from 60 to 71 (fun v15 v16 wx => ∃ P Q, v15 = .pointer (some ⟨P, 0, none⟩) ∧ v16 = .pointer (some ⟨Q, 0, none⟩) ∧ P ≠ Q ∧ w4.heap.size ≤ P ∧ w4.heap.size ≤ Q ∧ wx.heap[P]? = some (.cells LV 30) ∧ wx.heap[Q]? = some (.cells HV 30) ∧ Below w4.heap.size w4 wx)
        case first =>
          have hC1 := HC1.out
          have hz : ∀ w, (zeroValue 30).run Try.prog w = .ok (.agg #[.int .u64 0, .int .u64 0, .int .u64 0, .int .u64 0, .int .u64 0, .int .u64 0, .int .u64 0, .int .u64 0, .int .u64 0, .int .u64 0, .int .u64 0, .int .u64 0, .int .u64 0, .int .u64 0, .int .u64 0, .int .u64 0, .int .u64 0, .int .u64 0, .int .u64 0, .int .u64 0, .int .u64 0, .int .u64 0, .int .u64 0, .int .u64 0]) w := fun w => by kernel_rfl
          clear HC1 e0 e1 e2 hS9 bz r1 r2 HGR HGC HM hNode
          refine wp_region_held (S := fun w' => Below w4.heap.size w4 w' ∧ (w'.heap[w.heap.size]? = some (.cells C 30) ∧ w'.cell? ⟨N, 2, none⟩ = some (.int .u64 AT.h) ∧ w'.cell? ⟨N, 3, none⟩ = some (.int .u64 AT.l))) (by kernel_rfl) ?_
          change wpAnyH _ _ _ _ _ _ _ _ (World.drew _)
          have hS0 := keep0 hC1
          generalize w4.drew = wd at hS0 ⊢
          refine wpAnyH_take (i := 0) (oi := ⟨some 61, _, _, _, _, _⟩) (v := .agg C) rfl (by kernel_rfl) (by kernel_rfl) (by kernel_rfl) (fun _ _ _ h => h) (Or.inl ⟨by rfl, fun W hW => exec_row 30 (.tmp 5) rfl w.heap.size rfl 30 C (0, 0) _ hW.2.1 Try.underlying30 rfl iC.out⟩) hS0 ?_
          refine wpAnyH_take (i := 1) (oi := ⟨some 62, _, _, _, _, _⟩) (v := ?_) rfl (by kernel_rfl) (by kernel_rfl) (by kernel_rfl) (fun _ _ _ h => h) (Or.inl ⟨by rfl, ?_⟩) hS0 ?_
          rotate_left 1
          · intro W hW
            obtain ⟨hW0, hW1, hW2, hW3⟩ := hW
            go_simp
            with_reducible rfl
          refine wpAnyH_take (i := 2) (oi := ⟨some 63, _, _, _, _, _⟩) (v := ?_) rfl (by kernel_rfl) (by kernel_rfl) (by kernel_rfl) (fun _ _ _ h => h) (Or.inl ⟨by rfl, ?_⟩) hS0 ?_
          rotate_left 1
          · intro W hW
            obtain ⟨hW0, hW1, hW2, hW3⟩ := hW
            go_simp
            with_reducible rfl
          refine wpAnyH_take (i := 3) (oi := ⟨some 64, _, _, _, _, _⟩) (v := ?_) rfl (by kernel_rfl) (by kernel_rfl) (by kernel_rfl) (fun _ _ _ h => h) (Or.inl ⟨by rfl, ?_⟩) hS0 ?_
          rotate_left 1
          · intro W hW
            obtain ⟨hW0, hW1, hW2, hW3⟩ := hW
            go_simp
            with_reducible rfl
          refine wpAnyH_take (i := 4) (oi := ⟨some 65, _, _, _, _, _⟩) (v := ?_) rfl (by kernel_rfl) (by kernel_rfl) (by kernel_rfl) (fun _ _ _ h => h) (Or.inl ⟨by rfl, ?_⟩) hS0 ?_
          rotate_left 1
          · intro W hW
            obtain ⟨hW0, hW1, hW2, hW3⟩ := hW
            go_simp
            with_reducible rfl
          refine wpAnyH_take (i := 5) (oi := ⟨some 66, _, _, _, _, _⟩) (v := ?_) rfl (by kernel_rfl) (by kernel_rfl) (by kernel_rfl) (fun _ _ _ h => h) (Or.inl ⟨by rfl, ?_⟩) hS0 ?_
          rotate_left 1
          · intro W hW
            obtain ⟨hW0, hW1, hW2, hW3⟩ := hW
            go_simp
            with_reducible rfl
          simp only [Act.put, List.setIfInBounds_toArray, List.set_cons_succ, List.set_cons_zero]
          refine wpAnyH_ready (rs := [6, 11, 12]) (by kernel_rfl) (by simp) ?_
          refine AllReadyH.cons (o := ⟨some 67, _, _, _, _, _⟩) rfl (fun K hK => ?_) (AllReadyH.cons (o := ⟨some 15, _, _, _, _, _⟩) rfl (fun K hK => ?_) (AllReadyH.cons (o := ⟨some 16, _, _, _, _, _⟩) rfl (fun K hK => ?_) AllReadyH.nil))
          · go_simp
            go_at_call 26
            refine (cs _).mono ?_
            rintro e w20 ⟨rfl, hb20⟩
            have hS20 := keepB hC1 hb20 hS0
            refine hK.out _ _ hS20 (fun _ => ?_)
            clear hK K
            refine wpAnyH_take (i := 7) (oi := ⟨some 60, _, _, _, _, _⟩) (v := ?_) rfl (by kernel_rfl) (by kernel_rfl) (by kernel_rfl) (fun _ _ _ h => h) (Or.inl ⟨by rfl, ?_⟩) hS20 ?_
            rotate_left 1
            · intro W hW
              obtain ⟨hW0, hW1, hW2, hW3⟩ := hW
              go_simp
              with_reducible rfl
            refine wpAnyH_take (i := 8) (oi := ⟨some 68, _, _, _, _, _⟩) (v := ?_) rfl (by kernel_rfl) (by kernel_rfl) (by kernel_rfl) (fun _ _ _ h => h) (Or.inl ⟨by rfl, ?_⟩) hS20 ?_
            rotate_left 1
            · intro W hW
              obtain ⟨hW0, hW1, hW2, hW3⟩ := hW
              go_simp
              with_reducible rfl
            refine wpAnyH_take (i := 9) (oi := ⟨some 69, _, _, _, _, _⟩) (v := ?_) rfl (by kernel_rfl) (by kernel_rfl) (by kernel_rfl) (fun _ _ _ h => h) (Or.inl ⟨by rfl, ?_⟩) hS20 ?_
            rotate_left 1
            · intro W hW
              obtain ⟨hW0, hW1, hW2, hW3⟩ := hW
              go_simp
              with_reducible rfl
            refine wpAnyH_take (i := 10) (oi := ⟨some 70, _, _, _, _, _⟩) (v := ?_) rfl (by kernel_rfl) (by kernel_rfl) (by kernel_rfl) (fun _ _ _ h => h) (Or.inl ⟨by rfl, ?_⟩) hS20 ?_
            rotate_left 1
            · intro W hW
              obtain ⟨hW0, hW1, hW2, hW3⟩ := hW
              go_simp
              with_reducible rfl
            simp only [Act.put, List.setIfInBounds_toArray, List.set_cons_succ, List.set_cons_zero]
            refine wpAnyH_ready (rs := [11, 12]) (by kernel_rfl) (by simp) ?_
            refine AllReadyH.cons (o := ⟨some 15, _, _, _, _, _⟩) rfl (fun K hK => ?_) (AllReadyH.cons (o := ⟨some 16, _, _, _, _, _⟩) rfl (fun K hK => ?_) AllReadyH.nil)
            · refine step_alloc rfl 30 rfl #[.int .u64 0, .int .u64 0, .int .u64 0, .int .u64 0, .int .u64 0, .int .u64 0, .int .u64 0, .int .u64 0, .int .u64 0, .int .u64 0, .int .u64 0, .int .u64 0, .int .u64 0, .int .u64 0, .int .u64 0, .int .u64 0, .int .u64 0, .int .u64 0, .int .u64 0, .int .u64 0, .int .u64 0, .int .u64 0, .int .u64 0, .int .u64 0] hz (fun w21 B0 hV0 hb21 hg21 => ?_)
              have hS21 := keepB hC1 hb21 hS20
              have hBs0 : w4.heap.size ≤ B0 := Nat.le_trans hS20.1.size hg21
              refine hK.out _ _ hS21 (fun _ => ?_)
              clear hK K
              simp only [Act.put, List.setIfInBounds_toArray, List.set_cons_succ, List.set_cons_zero]
              refine wpAnyH_ready (rs := [12]) (by kernel_rfl) (by simp) ?_
              refine AllReadyH.cons (o := ⟨some 16, _, _, _, _, _⟩) rfl (fun K hK => ?_) AllReadyH.nil
              refine step_alloc rfl 30 rfl #[.int .u64 0, .int .u64 0, .int .u64 0, .int .u64 0, .int .u64 0, .int .u64 0, .int .u64 0, .int .u64 0, .int .u64 0, .int .u64 0, .int .u64 0, .int .u64 0, .int .u64 0, .int .u64 0, .int .u64 0, .int .u64 0, .int .u64 0, .int .u64 0, .int .u64 0, .int .u64 0, .int .u64 0, .int .u64 0, .int .u64 0, .int .u64 0] hz (fun w22 B1 hV1 hb22 hg22 => ?_)
              have hne : B0 ≠ B1 := by have := blk_lt hV0; omega
              have hS22 := keepB hC1 hb22 hS21
              have hBs1 : w4.heap.size ≤ B1 := Nat.le_trans hS21.1.size hg22
              replace hV0 := hV_keep hb22 hV0
              refine hK.out _ _ hS22 (fun _ => ?_)
              clear hK K
              simp only [Act.put, List.setIfInBounds_toArray, List.set_cons_succ, List.set_cons_zero]
              refine wpAnyH_ready (rs := [13]) (by kernel_rfl) (by simp) ?_
              refine AllReadyH.cons (o := ⟨none, _, _, _, _, _⟩) rfl (fun K hK => ?_) AllReadyH.nil
              refine step_store_row rfl 30 (.tmp 15) (.tmp 68) rfl B0 LV rfl rfl 30 #[.int .u64 0, .int .u64 0, .int .u64 0, .int .u64 0, .int .u64 0, .int .u64 0, .int .u64 0, .int .u64 0, .int .u64 0, .int .u64 0, .int .u64 0, .int .u64 0, .int .u64 0, .int .u64 0, .int .u64 0, .int .u64 0, .int .u64 0, .int .u64 0, .int .u64 0, .int .u64 0, .int .u64 0, .int .u64 0, .int .u64 0, .int .u64 0] hV0 iL.out zL.out oL.out ?_
              have hSa := keepS hC1 (Below.setRow hS22.1 hBs0 LV)
              have hV1' := (setRow_other (C := LV) (Ne.symm hne)).trans hV1
              have hX0 := blk_setRow hV0 LV
              refine hK.out _ _ hSa (fun _ => ?_)
              clear hK K
              refine wpAnyH_ready (rs := [14]) (by kernel_rfl) (by simp) ?_
              refine AllReadyH.cons (o := ⟨none, _, _, _, _, _⟩) rfl (fun K hK => ?_) AllReadyH.nil
              refine step_store_row rfl 30 (.tmp 16) (.tmp 69) rfl B1 HV rfl rfl 30 #[.int .u64 0, .int .u64 0, .int .u64 0, .int .u64 0, .int .u64 0, .int .u64 0, .int .u64 0, .int .u64 0, .int .u64 0, .int .u64 0, .int .u64 0, .int .u64 0, .int .u64 0, .int .u64 0, .int .u64 0, .int .u64 0, .int .u64 0, .int .u64 0, .int .u64 0, .int .u64 0, .int .u64 0, .int .u64 0, .int .u64 0, .int .u64 0] hV1' iH.out zH.out oH.out ?_
              have hSb := keepS hC1 (Below.setRow hSa.1 hBs1 HV)
              have hX0' := (setRow_other (C := HV) hne).trans hX0
              have hX1 := blk_setRow hV1' HV
              refine hK.out _ _ hSb (fun _ => ?_)
              clear hK K
              refine wpAnyH_take (i := 15) (oi := ⟨some 17, _, _, _, _, _⟩) (v := ?_) rfl (by kernel_rfl) (by kernel_rfl) (by kernel_rfl) (fun _ _ _ h => h) (Or.inl ⟨by rfl, ?_⟩) hSb ?_
              rotate_left 1
              · intro W hW
                obtain ⟨hW0, hW1, hW2, hW3⟩ := hW
                go_simp
                with_reducible rfl
              refine wpAnyH_done (by kernel_rfl) ?_ _
              simp only [Act.put, List.setIfInBounds_toArray, List.set_cons_succ, List.set_cons_zero]
              go_wp2_with fail
              go_meet
              exact ⟨_, _, rfl, rfl, hne, hBs0, hBs1, hX0', hX1, hSb.1⟩
            · refine step_alloc rfl 30 rfl #[.int .u64 0, .int .u64 0, .int .u64 0, .int .u64 0, .int .u64 0, .int .u64 0, .int .u64 0, .int .u64 0, .int .u64 0, .int .u64 0, .int .u64 0, .int .u64 0, .int .u64 0, .int .u64 0, .int .u64 0, .int .u64 0, .int .u64 0, .int .u64 0, .int .u64 0, .int .u64 0, .int .u64 0, .int .u64 0, .int .u64 0, .int .u64 0] hz (fun w23 B1 hV1 hb23 hg23 => ?_)
              have hS23 := keepB hC1 hb23 hS20
              have hBs1 : w4.heap.size ≤ B1 := Nat.le_trans hS20.1.size hg23
              refine hK.out _ _ hS23 (fun _ => ?_)
              clear hK K
              simp only [Act.put, List.setIfInBounds_toArray, List.set_cons_succ, List.set_cons_zero]
              refine wpAnyH_ready (rs := [11]) (by kernel_rfl) (by simp) ?_
              refine AllReadyH.cons (o := ⟨some 15, _, _, _, _, _⟩) rfl (fun K hK => ?_) AllReadyH.nil
              refine step_alloc rfl 30 rfl #[.int .u64 0, .int .u64 0, .int .u64 0, .int .u64 0, .int .u64 0, .int .u64 0, .int .u64 0, .int .u64 0, .int .u64 0, .int .u64 0, .int .u64 0, .int .u64 0, .int .u64 0, .int .u64 0, .int .u64 0, .int .u64 0, .int .u64 0, .int .u64 0, .int .u64 0, .int .u64 0, .int .u64 0, .int .u64 0, .int .u64 0, .int .u64 0] hz (fun w24 B0 hV0 hb24 hg24 => ?_)
              have hne : B0 ≠ B1 := by have := blk_lt hV1; omega
              have hS24 := keepB hC1 hb24 hS23
              have hBs0 : w4.heap.size ≤ B0 := Nat.le_trans hS23.1.size hg24
              replace hV1 := hV_keep hb24 hV1
              refine hK.out _ _ hS24 (fun _ => ?_)
              clear hK K
              simp only [Act.put, List.setIfInBounds_toArray, List.set_cons_succ, List.set_cons_zero]
              refine wpAnyH_ready (rs := [13]) (by kernel_rfl) (by simp) ?_
              refine AllReadyH.cons (o := ⟨none, _, _, _, _, _⟩) rfl (fun K hK => ?_) AllReadyH.nil
              refine step_store_row rfl 30 (.tmp 15) (.tmp 68) rfl B0 LV rfl rfl 30 #[.int .u64 0, .int .u64 0, .int .u64 0, .int .u64 0, .int .u64 0, .int .u64 0, .int .u64 0, .int .u64 0, .int .u64 0, .int .u64 0, .int .u64 0, .int .u64 0, .int .u64 0, .int .u64 0, .int .u64 0, .int .u64 0, .int .u64 0, .int .u64 0, .int .u64 0, .int .u64 0, .int .u64 0, .int .u64 0, .int .u64 0, .int .u64 0] hV0 iL.out zL.out oL.out ?_
              have hSa := keepS hC1 (Below.setRow hS24.1 hBs0 LV)
              have hV1' := (setRow_other (C := LV) (Ne.symm hne)).trans hV1
              have hX0 := blk_setRow hV0 LV
              refine hK.out _ _ hSa (fun _ => ?_)
              clear hK K
              refine wpAnyH_ready (rs := [14]) (by kernel_rfl) (by simp) ?_
              refine AllReadyH.cons (o := ⟨none, _, _, _, _, _⟩) rfl (fun K hK => ?_) AllReadyH.nil
              refine step_store_row rfl 30 (.tmp 16) (.tmp 69) rfl B1 HV rfl rfl 30 #[.int .u64 0, .int .u64 0, .int .u64 0, .int .u64 0, .int .u64 0, .int .u64 0, .int .u64 0, .int .u64 0, .int .u64 0, .int .u64 0, .int .u64 0, .int .u64 0, .int .u64 0, .int .u64 0, .int .u64 0, .int .u64 0, .int .u64 0, .int .u64 0, .int .u64 0, .int .u64 0, .int .u64 0, .int .u64 0, .int .u64 0, .int .u64 0] hV1' iH.out zH.out oH.out ?_
              have hSb := keepS hC1 (Below.setRow hSa.1 hBs1 HV)
              have hX0' := (setRow_other (C := HV) hne).trans hX0
              have hX1 := blk_setRow hV1' HV
              refine hK.out _ _ hSb (fun _ => ?_)
              clear hK K
              refine wpAnyH_take (i := 15) (oi := ⟨some 17, _, _, _, _, _⟩) (v := ?_) rfl (by kernel_rfl) (by kernel_rfl) (by kernel_rfl) (fun _ _ _ h => h) (Or.inl ⟨by rfl, ?_⟩) hSb ?_
              rotate_left 1
              · intro W hW
                obtain ⟨hW0, hW1, hW2, hW3⟩ := hW
                go_simp
                with_reducible rfl
              refine wpAnyH_done (by kernel_rfl) ?_ _
              simp only [Act.put, List.setIfInBounds_toArray, List.set_cons_succ, List.set_cons_zero]
              go_wp2_with fail
              go_meet
              exact ⟨_, _, rfl, rfl, hne, hBs0, hBs1, hX0', hX1, hSb.1⟩
          · refine step_alloc rfl 30 rfl #[.int .u64 0, .int .u64 0, .int .u64 0, .int .u64 0, .int .u64 0, .int .u64 0, .int .u64 0, .int .u64 0, .int .u64 0, .int .u64 0, .int .u64 0, .int .u64 0, .int .u64 0, .int .u64 0, .int .u64 0, .int .u64 0, .int .u64 0, .int .u64 0, .int .u64 0, .int .u64 0, .int .u64 0, .int .u64 0, .int .u64 0, .int .u64 0] hz (fun w25 B0 hV0 hb25 hg25 => ?_)
            have hS25 := keepB hC1 hb25 hS0
            have hBs0 : w4.heap.size ≤ B0 := Nat.le_trans hS0.1.size hg25
            refine hK.out _ _ hS25 (fun _ => ?_)
            clear hK K
            simp only [Act.put, List.setIfInBounds_toArray, List.set_cons_succ, List.set_cons_zero]
            refine wpAnyH_ready (rs := [6, 12]) (by kernel_rfl) (by simp) ?_
            refine AllReadyH.cons (o := ⟨some 67, _, _, _, _, _⟩) rfl (fun K hK => ?_) (AllReadyH.cons (o := ⟨some 16, _, _, _, _, _⟩) rfl (fun K hK => ?_) AllReadyH.nil)
            · go_simp
              go_at_call 26
              refine (cs _).mono ?_
              rintro e w26 ⟨rfl, hb26⟩
              have hS26 := keepB hC1 hb26 hS25
              have hV0 := hV_keep hb26 hV0
              refine hK.out _ _ hS26 (fun _ => ?_)
              clear hK K
              refine wpAnyH_take (i := 7) (oi := ⟨some 60, _, _, _, _, _⟩) (v := ?_) rfl (by kernel_rfl) (by kernel_rfl) (by kernel_rfl) (fun _ _ _ h => h) (Or.inl ⟨by rfl, ?_⟩) hS26 ?_
              rotate_left 1
              · intro W hW
                obtain ⟨hW0, hW1, hW2, hW3⟩ := hW
                go_simp
                with_reducible rfl
              refine wpAnyH_take (i := 8) (oi := ⟨some 68, _, _, _, _, _⟩) (v := ?_) rfl (by kernel_rfl) (by kernel_rfl) (by kernel_rfl) (fun _ _ _ h => h) (Or.inl ⟨by rfl, ?_⟩) hS26 ?_
              rotate_left 1
              · intro W hW
                obtain ⟨hW0, hW1, hW2, hW3⟩ := hW
                go_simp
                with_reducible rfl
              refine wpAnyH_take (i := 9) (oi := ⟨some 69, _, _, _, _, _⟩) (v := ?_) rfl (by kernel_rfl) (by kernel_rfl) (by kernel_rfl) (fun _ _ _ h => h) (Or.inl ⟨by rfl, ?_⟩) hS26 ?_
              rotate_left 1
              · intro W hW
                obtain ⟨hW0, hW1, hW2, hW3⟩ := hW
                go_simp
                with_reducible rfl
              refine wpAnyH_take (i := 10) (oi := ⟨some 70, _, _, _, _, _⟩) (v := ?_) rfl (by kernel_rfl) (by kernel_rfl) (by kernel_rfl) (fun _ _ _ h => h) (Or.inl ⟨by rfl, ?_⟩) hS26 ?_
              rotate_left 1
              · intro W hW
                obtain ⟨hW0, hW1, hW2, hW3⟩ := hW
                go_simp
                with_reducible rfl
              simp only [Act.put, List.setIfInBounds_toArray, List.set_cons_succ, List.set_cons_zero]
              refine wpAnyH_ready (rs := [12]) (by kernel_rfl) (by simp) ?_
              refine AllReadyH.cons (o := ⟨some 16, _, _, _, _, _⟩) rfl (fun K hK => ?_) AllReadyH.nil
              refine step_alloc rfl 30 rfl #[.int .u64 0, .int .u64 0, .int .u64 0, .int .u64 0, .int .u64 0, .int .u64 0, .int .u64 0, .int .u64 0, .int .u64 0, .int .u64 0, .int .u64 0, .int .u64 0, .int .u64 0, .int .u64 0, .int .u64 0, .int .u64 0, .int .u64 0, .int .u64 0, .int .u64 0, .int .u64 0, .int .u64 0, .int .u64 0, .int .u64 0, .int .u64 0] hz (fun w27 B1 hV1 hb27 hg27 => ?_)
              have hne : B0 ≠ B1 := by have := blk_lt hV0; omega
              have hS27 := keepB hC1 hb27 hS26
              have hBs1 : w4.heap.size ≤ B1 := Nat.le_trans hS26.1.size hg27
              replace hV0 := hV_keep hb27 hV0
              refine hK.out _ _ hS27 (fun _ => ?_)
              clear hK K
              simp only [Act.put, List.setIfInBounds_toArray, List.set_cons_succ, List.set_cons_zero]
              refine wpAnyH_ready (rs := [13]) (by kernel_rfl) (by simp) ?_
              refine AllReadyH.cons (o := ⟨none, _, _, _, _, _⟩) rfl (fun K hK => ?_) AllReadyH.nil
              refine step_store_row rfl 30 (.tmp 15) (.tmp 68) rfl B0 LV rfl rfl 30 #[.int .u64 0, .int .u64 0, .int .u64 0, .int .u64 0, .int .u64 0, .int .u64 0, .int .u64 0, .int .u64 0, .int .u64 0, .int .u64 0, .int .u64 0, .int .u64 0, .int .u64 0, .int .u64 0, .int .u64 0, .int .u64 0, .int .u64 0, .int .u64 0, .int .u64 0, .int .u64 0, .int .u64 0, .int .u64 0, .int .u64 0, .int .u64 0] hV0 iL.out zL.out oL.out ?_
              have hSa := keepS hC1 (Below.setRow hS27.1 hBs0 LV)
              have hV1' := (setRow_other (C := LV) (Ne.symm hne)).trans hV1
              have hX0 := blk_setRow hV0 LV
              refine hK.out _ _ hSa (fun _ => ?_)
              clear hK K
              refine wpAnyH_ready (rs := [14]) (by kernel_rfl) (by simp) ?_
              refine AllReadyH.cons (o := ⟨none, _, _, _, _, _⟩) rfl (fun K hK => ?_) AllReadyH.nil
              refine step_store_row rfl 30 (.tmp 16) (.tmp 69) rfl B1 HV rfl rfl 30 #[.int .u64 0, .int .u64 0, .int .u64 0, .int .u64 0, .int .u64 0, .int .u64 0, .int .u64 0, .int .u64 0, .int .u64 0, .int .u64 0, .int .u64 0, .int .u64 0, .int .u64 0, .int .u64 0, .int .u64 0, .int .u64 0, .int .u64 0, .int .u64 0, .int .u64 0, .int .u64 0, .int .u64 0, .int .u64 0, .int .u64 0, .int .u64 0] hV1' iH.out zH.out oH.out ?_
              have hSb := keepS hC1 (Below.setRow hSa.1 hBs1 HV)
              have hX0' := (setRow_other (C := HV) hne).trans hX0
              have hX1 := blk_setRow hV1' HV
              refine hK.out _ _ hSb (fun _ => ?_)
              clear hK K
              refine wpAnyH_take (i := 15) (oi := ⟨some 17, _, _, _, _, _⟩) (v := ?_) rfl (by kernel_rfl) (by kernel_rfl) (by kernel_rfl) (fun _ _ _ h => h) (Or.inl ⟨by rfl, ?_⟩) hSb ?_
              rotate_left 1
              · intro W hW
                obtain ⟨hW0, hW1, hW2, hW3⟩ := hW
                go_simp
                with_reducible rfl
              refine wpAnyH_done (by kernel_rfl) ?_ _
              simp only [Act.put, List.setIfInBounds_toArray, List.set_cons_succ, List.set_cons_zero]
              go_wp2_with fail
              go_meet
              exact ⟨_, _, rfl, rfl, hne, hBs0, hBs1, hX0', hX1, hSb.1⟩
            · refine step_alloc rfl 30 rfl #[.int .u64 0, .int .u64 0, .int .u64 0, .int .u64 0, .int .u64 0, .int .u64 0, .int .u64 0, .int .u64 0, .int .u64 0, .int .u64 0, .int .u64 0, .int .u64 0, .int .u64 0, .int .u64 0, .int .u64 0, .int .u64 0, .int .u64 0, .int .u64 0, .int .u64 0, .int .u64 0, .int .u64 0, .int .u64 0, .int .u64 0, .int .u64 0] hz (fun w28 B1 hV1 hb28 hg28 => ?_)
              have hne : B0 ≠ B1 := by have := blk_lt hV0; omega
              have hS28 := keepB hC1 hb28 hS25
              have hBs1 : w4.heap.size ≤ B1 := Nat.le_trans hS25.1.size hg28
              replace hV0 := hV_keep hb28 hV0
              refine hK.out _ _ hS28 (fun _ => ?_)
              clear hK K
              simp only [Act.put, List.setIfInBounds_toArray, List.set_cons_succ, List.set_cons_zero]
              refine wpAnyH_ready (rs := [6]) (by kernel_rfl) (by simp) ?_
              refine AllReadyH.cons (o := ⟨some 67, _, _, _, _, _⟩) rfl (fun K hK => ?_) AllReadyH.nil
              go_simp
              go_at_call 26
              refine (cs _).mono ?_
              rintro e w29 ⟨rfl, hb29⟩
              have hS29 := keepB hC1 hb29 hS28
              have hV0 := hV_keep hb29 hV0
              have hV1 := hV_keep hb29 hV1
              refine hK.out _ _ hS29 (fun _ => ?_)
              clear hK K
              refine wpAnyH_take (i := 7) (oi := ⟨some 60, _, _, _, _, _⟩) (v := ?_) rfl (by kernel_rfl) (by kernel_rfl) (by kernel_rfl) (fun _ _ _ h => h) (Or.inl ⟨by rfl, ?_⟩) hS29 ?_
              rotate_left 1
              · intro W hW
                obtain ⟨hW0, hW1, hW2, hW3⟩ := hW
                go_simp
                with_reducible rfl
              refine wpAnyH_take (i := 8) (oi := ⟨some 68, _, _, _, _, _⟩) (v := ?_) rfl (by kernel_rfl) (by kernel_rfl) (by kernel_rfl) (fun _ _ _ h => h) (Or.inl ⟨by rfl, ?_⟩) hS29 ?_
              rotate_left 1
              · intro W hW
                obtain ⟨hW0, hW1, hW2, hW3⟩ := hW
                go_simp
                with_reducible rfl
              refine wpAnyH_take (i := 9) (oi := ⟨some 69, _, _, _, _, _⟩) (v := ?_) rfl (by kernel_rfl) (by kernel_rfl) (by kernel_rfl) (fun _ _ _ h => h) (Or.inl ⟨by rfl, ?_⟩) hS29 ?_
              rotate_left 1
              · intro W hW
                obtain ⟨hW0, hW1, hW2, hW3⟩ := hW
                go_simp
                with_reducible rfl
              refine wpAnyH_take (i := 10) (oi := ⟨some 70, _, _, _, _, _⟩) (v := ?_) rfl (by kernel_rfl) (by kernel_rfl) (by kernel_rfl) (fun _ _ _ h => h) (Or.inl ⟨by rfl, ?_⟩) hS29 ?_
              rotate_left 1
              · intro W hW
                obtain ⟨hW0, hW1, hW2, hW3⟩ := hW
                go_simp
                with_reducible rfl
              simp only [Act.put, List.setIfInBounds_toArray, List.set_cons_succ, List.set_cons_zero]
              refine wpAnyH_ready (rs := [13]) (by kernel_rfl) (by simp) ?_
              refine AllReadyH.cons (o := ⟨none, _, _, _, _, _⟩) rfl (fun K hK => ?_) AllReadyH.nil
              refine step_store_row rfl 30 (.tmp 15) (.tmp 68) rfl B0 LV rfl rfl 30 #[.int .u64 0, .int .u64 0, .int .u64 0, .int .u64 0, .int .u64 0, .int .u64 0, .int .u64 0, .int .u64 0, .int .u64 0, .int .u64 0, .int .u64 0, .int .u64 0, .int .u64 0, .int .u64 0, .int .u64 0, .int .u64 0, .int .u64 0, .int .u64 0, .int .u64 0, .int .u64 0, .int .u64 0, .int .u64 0, .int .u64 0, .int .u64 0] hV0 iL.out zL.out oL.out ?_
              have hSa := keepS hC1 (Below.setRow hS29.1 hBs0 LV)
              have hV1' := (setRow_other (C := LV) (Ne.symm hne)).trans hV1
              have hX0 := blk_setRow hV0 LV
              refine hK.out _ _ hSa (fun _ => ?_)
              clear hK K
              refine wpAnyH_ready (rs := [14]) (by kernel_rfl) (by simp) ?_
              refine AllReadyH.cons (o := ⟨none, _, _, _, _, _⟩) rfl (fun K hK => ?_) AllReadyH.nil
              refine step_store_row rfl 30 (.tmp 16) (.tmp 69) rfl B1 HV rfl rfl 30 #[.int .u64 0, .int .u64 0, .int .u64 0, .int .u64 0, .int .u64 0, .int .u64 0, .int .u64 0, .int .u64 0, .int .u64 0, .int .u64 0, .int .u64 0, .int .u64 0, .int .u64 0, .int .u64 0, .int .u64 0, .int .u64 0, .int .u64 0, .int .u64 0, .int .u64 0, .int .u64 0, .int .u64 0, .int .u64 0, .int .u64 0, .int .u64 0] hV1' iH.out zH.out oH.out ?_
              have hSb := keepS hC1 (Below.setRow hSa.1 hBs1 HV)
              have hX0' := (setRow_other (C := HV) hne).trans hX0
              have hX1 := blk_setRow hV1' HV
              refine hK.out _ _ hSb (fun _ => ?_)
              clear hK K
              refine wpAnyH_take (i := 15) (oi := ⟨some 17, _, _, _, _, _⟩) (v := ?_) rfl (by kernel_rfl) (by kernel_rfl) (by kernel_rfl) (fun _ _ _ h => h) (Or.inl ⟨by rfl, ?_⟩) hSb ?_
              rotate_left 1
              · intro W hW
                obtain ⟨hW0, hW1, hW2, hW3⟩ := hW
                go_simp
                with_reducible rfl
              refine wpAnyH_done (by kernel_rfl) ?_ _
              simp only [Act.put, List.setIfInBounds_toArray, List.set_cons_succ, List.set_cons_zero]
              go_wp2_with fail
              go_meet
              exact ⟨_, _, rfl, rfl, hne, hBs0, hBs1, hX0', hX1, hSb.1⟩
          · refine step_alloc rfl 30 rfl #[.int .u64 0, .int .u64 0, .int .u64 0, .int .u64 0, .int .u64 0, .int .u64 0, .int .u64 0, .int .u64 0, .int .u64 0, .int .u64 0, .int .u64 0, .int .u64 0, .int .u64 0, .int .u64 0, .int .u64 0, .int .u64 0, .int .u64 0, .int .u64 0, .int .u64 0, .int .u64 0, .int .u64 0, .int .u64 0, .int .u64 0, .int .u64 0] hz (fun w30 B1 hV1 hb30 hg30 => ?_)
            have hS30 := keepB hC1 hb30 hS0
            have hBs1 : w4.heap.size ≤ B1 := Nat.le_trans hS0.1.size hg30
            refine hK.out _ _ hS30 (fun _ => ?_)
            clear hK K
            simp only [Act.put, List.setIfInBounds_toArray, List.set_cons_succ, List.set_cons_zero]
            refine wpAnyH_ready (rs := [6, 11]) (by kernel_rfl) (by simp) ?_
            refine AllReadyH.cons (o := ⟨some 67, _, _, _, _, _⟩) rfl (fun K hK => ?_) (AllReadyH.cons (o := ⟨some 15, _, _, _, _, _⟩) rfl (fun K hK => ?_) AllReadyH.nil)
            · go_simp
              go_at_call 26
              refine (cs _).mono ?_
              rintro e w31 ⟨rfl, hb31⟩
              have hS31 := keepB hC1 hb31 hS30
              have hV1 := hV_keep hb31 hV1
              refine hK.out _ _ hS31 (fun _ => ?_)
              clear hK K
              refine wpAnyH_take (i := 7) (oi := ⟨some 60, _, _, _, _, _⟩) (v := ?_) rfl (by kernel_rfl) (by kernel_rfl) (by kernel_rfl) (fun _ _ _ h => h) (Or.inl ⟨by rfl, ?_⟩) hS31 ?_
              rotate_left 1
              · intro W hW
                obtain ⟨hW0, hW1, hW2, hW3⟩ := hW
                go_simp
                with_reducible rfl
              refine wpAnyH_take (i := 8) (oi := ⟨some 68, _, _, _, _, _⟩) (v := ?_) rfl (by kernel_rfl) (by kernel_rfl) (by kernel_rfl) (fun _ _ _ h => h) (Or.inl ⟨by rfl, ?_⟩) hS31 ?_
              rotate_left 1
              · intro W hW
                obtain ⟨hW0, hW1, hW2, hW3⟩ := hW
                go_simp
                with_reducible rfl
              refine wpAnyH_take (i := 9) (oi := ⟨some 69, _, _, _, _, _⟩) (v := ?_) rfl (by kernel_rfl) (by kernel_rfl) (by kernel_rfl) (fun _ _ _ h => h) (Or.inl ⟨by rfl, ?_⟩) hS31 ?_
              rotate_left 1
              · intro W hW
                obtain ⟨hW0, hW1, hW2, hW3⟩ := hW
                go_simp
                with_reducible rfl
              refine wpAnyH_take (i := 10) (oi := ⟨some 70, _, _, _, _, _⟩) (v := ?_) rfl (by kernel_rfl) (by kernel_rfl) (by kernel_rfl) (fun _ _ _ h => h) (Or.inl ⟨by rfl, ?_⟩) hS31 ?_
              rotate_left 1
              · intro W hW
                obtain ⟨hW0, hW1, hW2, hW3⟩ := hW
                go_simp
                with_reducible rfl
              simp only [Act.put, List.setIfInBounds_toArray, List.set_cons_succ, List.set_cons_zero]
              refine wpAnyH_ready (rs := [11]) (by kernel_rfl) (by simp) ?_
              refine AllReadyH.cons (o := ⟨some 15, _, _, _, _, _⟩) rfl (fun K hK => ?_) AllReadyH.nil
              refine step_alloc rfl 30 rfl #[.int .u64 0, .int .u64 0, .int .u64 0, .int .u64 0, .int .u64 0, .int .u64 0, .int .u64 0, .int .u64 0, .int .u64 0, .int .u64 0, .int .u64 0, .int .u64 0, .int .u64 0, .int .u64 0, .int .u64 0, .int .u64 0, .int .u64 0, .int .u64 0, .int .u64 0, .int .u64 0, .int .u64 0, .int .u64 0, .int .u64 0, .int .u64 0] hz (fun w32 B0 hV0 hb32 hg32 => ?_)
              have hne : B0 ≠ B1 := by have := blk_lt hV1; omega
              have hS32 := keepB hC1 hb32 hS31
              have hBs0 : w4.heap.size ≤ B0 := Nat.le_trans hS31.1.size hg32
              replace hV1 := hV_keep hb32 hV1
              refine hK.out _ _ hS32 (fun _ => ?_)
              clear hK K
              simp only [Act.put, List.setIfInBounds_toArray, List.set_cons_succ, List.set_cons_zero]
              refine wpAnyH_ready (rs := [13]) (by kernel_rfl) (by simp) ?_
              refine AllReadyH.cons (o := ⟨none, _, _, _, _, _⟩) rfl (fun K hK => ?_) AllReadyH.nil
              refine step_store_row rfl 30 (.tmp 15) (.tmp 68) rfl B0 LV rfl rfl 30 #[.int .u64 0, .int .u64 0, .int .u64 0, .int .u64 0, .int .u64 0, .int .u64 0, .int .u64 0, .int .u64 0, .int .u64 0, .int .u64 0, .int .u64 0, .int .u64 0, .int .u64 0, .int .u64 0, .int .u64 0, .int .u64 0, .int .u64 0, .int .u64 0, .int .u64 0, .int .u64 0, .int .u64 0, .int .u64 0, .int .u64 0, .int .u64 0] hV0 iL.out zL.out oL.out ?_
              have hSa := keepS hC1 (Below.setRow hS32.1 hBs0 LV)
              have hV1' := (setRow_other (C := LV) (Ne.symm hne)).trans hV1
              have hX0 := blk_setRow hV0 LV
              refine hK.out _ _ hSa (fun _ => ?_)
              clear hK K
              refine wpAnyH_ready (rs := [14]) (by kernel_rfl) (by simp) ?_
              refine AllReadyH.cons (o := ⟨none, _, _, _, _, _⟩) rfl (fun K hK => ?_) AllReadyH.nil
              refine step_store_row rfl 30 (.tmp 16) (.tmp 69) rfl B1 HV rfl rfl 30 #[.int .u64 0, .int .u64 0, .int .u64 0, .int .u64 0, .int .u64 0, .int .u64 0, .int .u64 0, .int .u64 0, .int .u64 0, .int .u64 0, .int .u64 0, .int .u64 0, .int .u64 0, .int .u64 0, .int .u64 0, .int .u64 0, .int .u64 0, .int .u64 0, .int .u64 0, .int .u64 0, .int .u64 0, .int .u64 0, .int .u64 0, .int .u64 0] hV1' iH.out zH.out oH.out ?_
              have hSb := keepS hC1 (Below.setRow hSa.1 hBs1 HV)
              have hX0' := (setRow_other (C := HV) hne).trans hX0
              have hX1 := blk_setRow hV1' HV
              refine hK.out _ _ hSb (fun _ => ?_)
              clear hK K
              refine wpAnyH_take (i := 15) (oi := ⟨some 17, _, _, _, _, _⟩) (v := ?_) rfl (by kernel_rfl) (by kernel_rfl) (by kernel_rfl) (fun _ _ _ h => h) (Or.inl ⟨by rfl, ?_⟩) hSb ?_
              rotate_left 1
              · intro W hW
                obtain ⟨hW0, hW1, hW2, hW3⟩ := hW
                go_simp
                with_reducible rfl
              refine wpAnyH_done (by kernel_rfl) ?_ _
              simp only [Act.put, List.setIfInBounds_toArray, List.set_cons_succ, List.set_cons_zero]
              go_wp2_with fail
              go_meet
              exact ⟨_, _, rfl, rfl, hne, hBs0, hBs1, hX0', hX1, hSb.1⟩
            · refine step_alloc rfl 30 rfl #[.int .u64 0, .int .u64 0, .int .u64 0, .int .u64 0, .int .u64 0, .int .u64 0, .int .u64 0, .int .u64 0, .int .u64 0, .int .u64 0, .int .u64 0, .int .u64 0, .int .u64 0, .int .u64 0, .int .u64 0, .int .u64 0, .int .u64 0, .int .u64 0, .int .u64 0, .int .u64 0, .int .u64 0, .int .u64 0, .int .u64 0, .int .u64 0] hz (fun w33 B0 hV0 hb33 hg33 => ?_)
              have hne : B0 ≠ B1 := by have := blk_lt hV1; omega
              have hS33 := keepB hC1 hb33 hS30
              have hBs0 : w4.heap.size ≤ B0 := Nat.le_trans hS30.1.size hg33
              replace hV1 := hV_keep hb33 hV1
              refine hK.out _ _ hS33 (fun _ => ?_)
              clear hK K
              simp only [Act.put, List.setIfInBounds_toArray, List.set_cons_succ, List.set_cons_zero]
              refine wpAnyH_ready (rs := [6]) (by kernel_rfl) (by simp) ?_
              refine AllReadyH.cons (o := ⟨some 67, _, _, _, _, _⟩) rfl (fun K hK => ?_) AllReadyH.nil
              go_simp
              go_at_call 26
              refine (cs _).mono ?_
              rintro e w34 ⟨rfl, hb34⟩
              have hS34 := keepB hC1 hb34 hS33
              have hV1 := hV_keep hb34 hV1
              have hV0 := hV_keep hb34 hV0
              refine hK.out _ _ hS34 (fun _ => ?_)
              clear hK K
              refine wpAnyH_take (i := 7) (oi := ⟨some 60, _, _, _, _, _⟩) (v := ?_) rfl (by kernel_rfl) (by kernel_rfl) (by kernel_rfl) (fun _ _ _ h => h) (Or.inl ⟨by rfl, ?_⟩) hS34 ?_
              rotate_left 1
              · intro W hW
                obtain ⟨hW0, hW1, hW2, hW3⟩ := hW
                go_simp
                with_reducible rfl
              refine wpAnyH_take (i := 8) (oi := ⟨some 68, _, _, _, _, _⟩) (v := ?_) rfl (by kernel_rfl) (by kernel_rfl) (by kernel_rfl) (fun _ _ _ h => h) (Or.inl ⟨by rfl, ?_⟩) hS34 ?_
              rotate_left 1
              · intro W hW
                obtain ⟨hW0, hW1, hW2, hW3⟩ := hW
                go_simp
                with_reducible rfl
              refine wpAnyH_take (i := 9) (oi := ⟨some 69, _, _, _, _, _⟩) (v := ?_) rfl (by kernel_rfl) (by kernel_rfl) (by kernel_rfl) (fun _ _ _ h => h) (Or.inl ⟨by rfl, ?_⟩) hS34 ?_
              rotate_left 1
              · intro W hW
                obtain ⟨hW0, hW1, hW2, hW3⟩ := hW
                go_simp
                with_reducible rfl
              refine wpAnyH_take (i := 10) (oi := ⟨some 70, _, _, _, _, _⟩) (v := ?_) rfl (by kernel_rfl) (by kernel_rfl) (by kernel_rfl) (fun _ _ _ h => h) (Or.inl ⟨by rfl, ?_⟩) hS34 ?_
              rotate_left 1
              · intro W hW
                obtain ⟨hW0, hW1, hW2, hW3⟩ := hW
                go_simp
                with_reducible rfl
              simp only [Act.put, List.setIfInBounds_toArray, List.set_cons_succ, List.set_cons_zero]
              refine wpAnyH_ready (rs := [13]) (by kernel_rfl) (by simp) ?_
              refine AllReadyH.cons (o := ⟨none, _, _, _, _, _⟩) rfl (fun K hK => ?_) AllReadyH.nil
              refine step_store_row rfl 30 (.tmp 15) (.tmp 68) rfl B0 LV rfl rfl 30 #[.int .u64 0, .int .u64 0, .int .u64 0, .int .u64 0, .int .u64 0, .int .u64 0, .int .u64 0, .int .u64 0, .int .u64 0, .int .u64 0, .int .u64 0, .int .u64 0, .int .u64 0, .int .u64 0, .int .u64 0, .int .u64 0, .int .u64 0, .int .u64 0, .int .u64 0, .int .u64 0, .int .u64 0, .int .u64 0, .int .u64 0, .int .u64 0] hV0 iL.out zL.out oL.out ?_
              have hSa := keepS hC1 (Below.setRow hS34.1 hBs0 LV)
              have hV1' := (setRow_other (C := LV) (Ne.symm hne)).trans hV1
              have hX0 := blk_setRow hV0 LV
              refine hK.out _ _ hSa (fun _ => ?_)
              clear hK K
              refine wpAnyH_ready (rs := [14]) (by kernel_rfl) (by simp) ?_
              refine AllReadyH.cons (o := ⟨none, _, _, _, _, _⟩) rfl (fun K hK => ?_) AllReadyH.nil
              refine step_store_row rfl 30 (.tmp 16) (.tmp 69) rfl B1 HV rfl rfl 30 #[.int .u64 0, .int .u64 0, .int .u64 0, .int .u64 0, .int .u64 0, .int .u64 0, .int .u64 0, .int .u64 0, .int .u64 0, .int .u64 0, .int .u64 0, .int .u64 0, .int .u64 0, .int .u64 0, .int .u64 0, .int .u64 0, .int .u64 0, .int .u64 0, .int .u64 0, .int .u64 0, .int .u64 0, .int .u64 0, .int .u64 0, .int .u64 0] hV1' iH.out zH.out oH.out ?_
              have hSb := keepS hC1 (Below.setRow hSa.1 hBs1 HV)
              have hX0' := (setRow_other (C := HV) hne).trans hX0
              have hX1 := blk_setRow hV1' HV
              refine hK.out _ _ hSb (fun _ => ?_)
              clear hK K
              refine wpAnyH_take (i := 15) (oi := ⟨some 17, _, _, _, _, _⟩) (v := ?_) rfl (by kernel_rfl) (by kernel_rfl) (by kernel_rfl) (fun _ _ _ h => h) (Or.inl ⟨by rfl, ?_⟩) hSb ?_
              rotate_left 1
              · intro W hW
                obtain ⟨hW0, hW1, hW2, hW3⟩ := hW
                go_simp
                with_reducible rfl
              refine wpAnyH_done (by kernel_rfl) ?_ _
              simp only [Act.put, List.setIfInBounds_toArray, List.set_cons_succ, List.set_cons_zero]
              go_wp2_with fail
              go_meet
              exact ⟨_, _, rfl, rfl, hne, hBs0, hBs1, hX0', hX1, hSb.1⟩
        case rest =>
          obtain ⟨P, Q, rfl, rfl, hPQ, hPs, hQs, hL, hH, hbx⟩ := hcut
          have hN4 : N < w4.heap.size := blk_lt hNode
          replace hNode := blkB hbx hNode
          replace hS9 := hS9.keep hbx
          replace bz := bel_via bz hbx
          have hNP : P ≠ N := by omega
          have hNQ : Q ≠ N := by omega
          have hm1 : (1 : Int) ≤ (may : Int) := by omega
          clear HC1 e0 e1 e2 cs hbx hPs hQs
          obtain ⟨wz, hwz⟩ : ∃ x, x = wc := ⟨_, rfl⟩
          rw [← hwz] at hL hH hNode hS9 bz ⊢
          clear hwz
          cases R1 with
          | none =>
            have hgr : growP (d + 1) b l may = none := HGR.out
            go_upto_region 21 with (first | (refine wpList_load_row rfl 30 (.tmp 15) rfl P rfl 30 LV (0, 0) _ hL Try.underlying30 rfl iL.out ?_) | (go_at_call 15; go_loud (with_reducible refine (r1 _ hS9).mono ?_); rintro e w1 ⟨rfl, hb⟩; have hN1 := blkB hb hNode; obtain ⟨_, _, c4, c5, z4, z5⟩ := cells6 hN1))
            have FIN : M (.returned (.tuple #[.pointer none, .int .i64 0])) (w1.setCell ⟨N, 4, none⟩ (.pointer none)) := by rw [HM.out, hgr]; exact ⟨rfl, below_set (bel_via bz hb) hNw _ _⟩
            have FIN := Lib.hid FIN
            have hN2 := set4 hN1 (.pointer none)
            clear hgr c4 c5 z4 z5
            obtain ⟨w2, hw2⟩ : ∃ x, x = w1.setCell ⟨N, 4, none⟩ (.pointer none) := ⟨_, rfl⟩
            rw [← hw2] at hN2 FIN ⊢
            clear hw2
            obtain ⟨_, _, c4, _, _, _⟩ := cells6 hN2
            go_wp2_with fail
            first | exact FIN.out | (simp [bodyPost, results, Try.results15, go_sem]; exact FIN.out) | (go_ret2; exact FIN.out)
          | some p1 =>
            obtain ⟨t1, m1⟩ := p1
            have hm1' : m1 ≤ 512 := by have := HGC.out t1 m1 rfl; omega
            have hgr : growP (d + 1) b l may = match growP d (hiP b (leftP b l)) (leftP b l) m1 with
              | none => none
              | some (t2, m2) => some (.inner (fldP b (leftP b l)) (atP b (leftP b l)) (loP b (leftP b l)) t1 t2, m2) := HGR.out
            clear HGR HGC
            replace r2 := fun (W : World) (hs : Sl W 25 enc25 A8 m8 (leftP b l)) => r2 W m1 hm1' hs
            obtain ⟨R2, hR2⟩ : ∃ R2, R2 = growP d (hiP b (leftP b l)) (leftP b l) m1 := ⟨_, rfl⟩
            rw [← hR2] at hgr
            simp only [← hR2] at r2
            clear hR2
            have HGR := Lib.hid hgr; clear hgr
            have hNz := blk_lt hNode
            go_upto_region 21 with (first | (refine wpList_load_row rfl 30 (.tmp 15) rfl P rfl 30 LV (0, 0) _ hL Try.underlying30 rfl iL.out ?_) | (go_at_call 15; go_loud (with_reducible refine (r1 _ hS9).mono ?_); rintro e w1 ⟨B1, rfl, hn1, hb⟩; have hN1 := blkB hb hNode; obtain ⟨_, _, c4, c5, z4, z5⟩ := cells6 hN1))
            have hN2 := set4 hN1 (.pointer (some ⟨B1, 0, none⟩))
            have ho : OffG N w1 (w1.setCell ⟨N, 4, none⟩ (.pointer (some ⟨B1, 0, none⟩))) := OffG.set _ _
            have bz2 := below_set (bel_via bz hb) hNw 4 (.pointer (some ⟨B1, 0, none⟩))
            have hbs := bz.size
            obtain ⟨w2, hw2⟩ : ∃ x, x = w1.setCell ⟨N, 4, none⟩ (.pointer (some ⟨B1, 0, none⟩)) := ⟨_, rfl⟩
            rw [← hw2] at hN2 ho bz2 ⊢
            have hn1b := hn1.off hNz ho
            have hn1w : Hid (∀ w3 w5 : World, Below w2.heap.size w2 w3 → OffG N w3 w5 → RNode w.heap.size w5 t1 B1) := Lib.hid fun w3 w5 hb' ho' => ((hn1b.keep hb').off hNz ho').mono hbs
            replace hH := blkO ho hNQ (blkB hb hH)
            replace hS9 := (hS9.keep hb).off hNA ho
            have hNz2 := blk_lt hN2
            clear hw2 c4 c5 z4 z5 hb ho r1 hL hN1 hNode bz hn1 hn1b
            obtain ⟨_, _, c4, _, _, _⟩ := cells6 hN2
            cases R2 with
            | none =>
              have hgr : growP (d + 1) b l may = none := HGR.out
              go_upto_region 24 with (first | (refine wpList_load_row rfl 30 (.tmp 16) rfl Q rfl 30 HV (0, 0) _ hH Try.underlying30 rfl iH.out ?_) | (go_at_call 15; go_loud (with_reducible refine (r2 _ hS9).mono ?_); rintro e w3 ⟨rfl, hb⟩; have hN3 := blkB hb hN2; obtain ⟨_, _, c4, c5, z4, z5⟩ := cells6 hN3))
              have FIN : M (.returned (.tuple #[.pointer none, .int .i64 0])) (w3.setCell ⟨N, 5, none⟩ (.pointer none)) := by rw [HM.out, hgr]; exact ⟨rfl, below_set (bel_via bz2 hb) hNw _ _⟩
              have FIN := Lib.hid FIN
              have hN4' := set5 hN3 (.pointer none)
              clear hgr c4 c5 z4 z5
              obtain ⟨w5, hw5⟩ : ∃ x, x = w3.setCell ⟨N, 5, none⟩ (.pointer none) := ⟨_, rfl⟩
              rw [← hw5] at hN4' FIN ⊢
              clear hw5
              obtain ⟨_, _, _, c5, _, _⟩ := cells6 hN4'
              go_wp2_with fail
              first | exact FIN.out | (simp [bodyPost, results, Try.results15, go_sem]; exact FIN.out) | (go_ret2; exact FIN.out)
            | some p2 =>
              obtain ⟨t2, m2⟩ := p2
              have hgr : growP (d + 1) b l may = some (.inner (fldP b (leftP b l)) (atP b (leftP b l)) (loP b (leftP b l)) t1 t2, m2) := HGR.out
              have HGR2 := Lib.hid hgr; clear hgr HGR
              go_upto_region 24 with (first | (refine wpList_load_row rfl 30 (.tmp 16) rfl Q rfl 30 HV (0, 0) _ hH Try.underlying30 rfl iH.out ?_) | (go_at_call 15; go_loud (with_reducible refine (r2 _ hS9).mono ?_); rintro e w3 ⟨B2, rfl, hn2, hb⟩; have hN3 := blkB hb hN2; obtain ⟨_, _, c4, c5, z4, z5⟩ := cells6 hN3))
              have ho : OffG N w3 (w3.setCell ⟨N, 5, none⟩ (.pointer (some ⟨B2, 0, none⟩))) := OffG.set _ _
              have hN4' := set5 hN3 (.pointer (some ⟨B2, 0, none⟩))
              have bz3 := below_set (bel_via bz2 hb) hNw 5 (.pointer (some ⟨B2, 0, none⟩))
              obtain ⟨w5, hw5⟩ : ∃ x, x = w3.setCell ⟨N, 5, none⟩ (.pointer (some ⟨B2, 0, none⟩)) := ⟨_, rfl⟩
              rw [← hw5] at hN4' bz3 ho ⊢
              have hn1' : RNode w.heap.size w5 t1 B1 := hn1w.out _ _ hb ho
              have FIN : M (.returned (.tuple #[.pointer (some ⟨N, 0, none⟩), .int .i64 (m2 : Nat)])) w5 := by
                rw [HM.out, HGR2.out]
                refine ⟨N, rfl, ⟨hNw, B1, B2, ?_, hn1', (hn2.off hNz2 ho).mono bz2.size⟩, bz3⟩
                rw [HFL.out, ← HAT.out]; exact hN4'
              have FIN := Lib.hid FIN
              clear hw5 HGR2 c4 c5 z4 z5 hn2 hn1' hb ho
              obtain ⟨_, _, _, c5, _, _⟩ := cells6 hN4'
              go_wp2_with fail
              first | exact FIN.out | (simp [bodyPost, results, Try.results15, go_sem]; exact FIN.out) | (go_ret2; exact FIN.out)
end Go.Proofs.Ytomennaekjklbaa
