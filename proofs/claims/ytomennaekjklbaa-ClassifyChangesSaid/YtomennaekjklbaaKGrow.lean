/- The program's tree grows; by-name template (gen_kgrow.py). -/
import Derived.Test.YtomennaekjklbaaKNode
import Derived.Test.YtomennaekjklbaaKLeft
import Derived.Test.YtomennaekjklbaaKHalves
namespace Go.Proofs.Ytomennaekjklbaa
open Go.RowKit Go.Lib Go.Sort
set_option linter.unusedVariables false
set_option linter.unusedSimpArgs false

theorem heap_set1 {w : World} {B : Nat} {x : Value} {t : TypeId} {fz : Nat × Nat} (h : w.heap[B]? = some (.cells #[x] t fz)) (a : Value) : (w.setCell ⟨B, 0, none⟩ a).heap[B]? = some (.cells #[a] t fz) := by
  simp [World.setCell, Array.getElem?_modify, h]
theorem fr1 {w : World} {B : Nat} {x : Value} {t : TypeId} (h : w.heap[B]? = some (.cells #[x] t (0, 0))) : w.frozen? ⟨B, 0, none⟩ = false := by simp [World.frozen?, h]
def GrowPost (w : World) (G : Nat) (r : Option (TN × Nat)) (e : Ending) (w' : World) : Prop := match r with
  | none => e = .returned (.tuple #[.nilIface, .bool false]) ∧ OffG G w w'
  | some (t, m) => ∃ ty x, e = .returned (.tuple #[.iface ty x, .bool true]) ∧ NodeAt G w' t (.iface ty x) ∧ w'.heap[G]? = some (.cells #[.int .i64 (512 - (m : Int))] 85 (0, 0)) ∧ OffG G w w'
theorem grow_zero {d : Nat} {b : Nat → R4} {l : List EN} : growP d b l 0 = none := by unfold growP; rw [if_pos rfl]
theorem grow_leaf {d : Nat} {b : Nat → R4} {l : List EN} {may : Nat} (h : may ≠ 0) (h8 : (leftP b l).length ≤ 8) : growP d b l may = some (.leaf (leftP b l), may - 1) := by unfold growP; rw [if_neg h, if_pos h8]
theorem grow_deep {b : Nat → R4} {l : List EN} {may : Nat} (h : may ≠ 0) (h8 : ¬ (leftP b l).length ≤ 8) : growP 0 b l may = none := by unfold growP; rw [if_neg h, if_neg h8]
theorem grow_inner {d : Nat} {b : Nat → R4} {l : List EN} {may : Nat} (h : may ≠ 0) (h8 : ¬ (leftP b l).length ≤ 8) : growP (d + 1) b l may = match growP d (loP b (leftP b l)) (leftP b l) (may - 1) with
      | none => none
      | some (t1, m1) => match growP d (hiP b (leftP b l)) (leftP b l) m1 with
        | none => none
        | some (t2, m2) => some (.inner (fldP b (leftP b l)) (atP b (leftP b l)) (loP b (leftP b l)) t1 t2, m2) := by
  conv => lhs; unfold growP
  rw [if_neg h, if_neg h8]
  rfl
theorem wb_lo {b : Nat → R4} {m : List EN} (wb : WB b) (hsp : spO b (fldP b m : Nat) (atP b m) = true) (wa : Word (atP b m).h ∧ Word (atP b m).l) : WB (loP b m) := by
  unfold loP spL
  rw [hsp, if_pos rfl, Int.toNat_natCast]
  intro k hk
  unfold upd
  by_cases e : k = fldP b m
  · rw [if_pos e]; obtain ⟨a1, a2, a3, a4⟩ := wb _ (e ▸ hk : fldP b m < 6); exact ⟨a1, a2, wa.1, wa.2⟩
  · rw [if_neg e]; exact wb k hk
theorem wb_hi {b : Nat → R4} {m : List EN} (wb : WB b) (hsp : spO b (fldP b m : Nat) (atP b m) = true) (wa : Word (atP b m).h ∧ Word (atP b m).l) : WB (hiP b m) := by
  unfold hiP spH
  rw [hsp, if_pos rfl, Int.toNat_natCast]
  intro k hk
  unfold upd
  by_cases e : k = fldP b m
  · rw [if_pos e]
    obtain ⟨a1, a2, a3, a4⟩ := wb _ (e ▸ hk : fldP b m < 6)
    have hic : icB (b (fldP b m)) (atP b m) = true := by
      unfold spO at hsp
      rw [Int.toNat_natCast] at hsp
      simp only [Bool.and_eq_true] at hsp
      exact hsp.2
    have h1 : ((atP b m).h < (b (fldP b m)).th ∨ (atP b m).h = (b (fldP b m)).th ∧ (atP b m).l < (b (fldP b m)).tl) := by
      unfold icB at hic
      simp only [Bool.and_eq_true, decide_eq_true_eq, cmp_lt0] at hic
      exact hic.2
    obtain ⟨⟨p1, p2⟩, ⟨p3, p4⟩⟩ := wa
    obtain ⟨q1, q2⟩ := a3
    obtain ⟨q3, q4⟩ := a4
    unfold nx
    split
    · exact ⟨⟨by simp only; omega, by simp only; omega⟩, ⟨by simp only; omega, by simp only; omega⟩, ⟨q1, q2⟩, ⟨q3, q4⟩⟩
    · exact ⟨⟨p1, p2⟩, ⟨by simp only; omega, by simp only; omega⟩, ⟨q1, q2⟩, ⟨q3, q4⟩⟩
  · rw [if_neg e]; exact wb k hk

set_option maxRecDepth 100000 in
set_option maxHeartbeats 16000000 in
theorem grow_any : ∀ (d dep : Nat) (hd : dep + d = 24) (b : Nat → R4) (wb : WB b) (l : List EN) (hw : ∀ e ∈ l, WB e.bx) (may : Nat) (hmay : may ≤ 512) (A : Option Addr) (n c : Nat) (hn : n ≤ 4096) (hl5 : (leftP b l).length ≤ 512) (hnc : n ≤ c) (G : Nat) (w : World)
    (hG : w.heap[G]? = some (.cells #[.int .i64 (512 - (may : Int))] 85 (0, 0))) (hA : 0 < n → NotAt G A) (hS : Sl w 25 enc25 A n l),
    Calls Try.prog 31 #[.pointer (some ⟨G, 0, none⟩), .slice A n c, .agg (bxc b), .int .i64 dep] w (GrowPost w G (growP d b l may)) := by
  intro d
  induction d with
  | zero =>
    intro dep hd b wb l hw may hmay A n c hn hl5 hnc G w hG hA hS
    obtain ⟨M, hM⟩ : ∃ M, M = GrowPost w G (growP 0 b l may) := ⟨_, rfl⟩
    rw [← hM]
    have HM := Lib.hid hM; clear hM
    have iC := inf29 b
    have la := fun (W : World) (h : Sl W 25 enc25 A n l) => left_any A n c l b hn hnc W h
    obtain ⟨C, hC⟩ : ∃ C, C = bxc b := ⟨_, rfl⟩
    simp only [← hC] at la
    rw [← hC] at iC ⊢
    have iC := Lib.hid iC
    have HC := Lib.hid hC; clear hC
    have HLEN := Lib.hid hl5
    have hGl := blk_lt hG
    have hA0 := heap_alloc_new w (.cells C 30)
    have b0 := Below.al (Below.refl w.heap.size w) (.cells C 30)
    obtain ⟨w0, hw0⟩ : ∃ w0, w0 = w.alloc (.cells C 30) := ⟨_, rfl⟩
    rw [← hw0] at hA0 b0
    have Hw0 := Lib.hid hw0; clear hw0
    replace hG := blkB b0 hG
    replace hS := hS.keep b0
    have hoff : OffG G w w0 := OffG.of b0 (Nat.le_of_lt hGl)
    have hne0 : w.heap.size ≠ G := by omega
    have g00 : w0.cell? ⟨G, 0, none⟩ = some (.int .i64 (512 - (may : Int))) := by simp [World.cell?, hG]
    have g0f := fr1 hG
    go_enter Try.func31, Try.ntmps31
    go_upto_region 1 with fail
    rw [← Hw0.out]
    clear Hw0
    go_upto_region 2 with fail
    obtain ⟨wz, hwz⟩ : ∃ x, x = w0.setCell ⟨G, 0, none⟩ (.int .i64 (512 - (may : Int) + 1)) := ⟨_, rfl⟩
    have hGz : wz.heap[G]? = some (.cells #[.int .i64 (512 - (may : Int) + 1)] 85 (0, 0)) := by rw [hwz]; exact heap_set1 hG _
    have hof1 : OffG G w0 wz := by rw [hwz]; exact OffG.set _ _
    rw [← hwz]
    clear hwz g00 g0f
    replace hA0 := blkO hof1 hne0 hA0
    replace hS := hS.off hA hof1
    replace hoff := hoff.trans hof1
    have g00 : wz.cell? ⟨G, 0, none⟩ = some (.int .i64 (512 - (may : Int) + 1)) := by simp [World.cell?, hGz]
    clear hof1 hG b0
    by_cases h0 : may = 0
    · subst h0
      have FIN : M (.returned (.tuple #[.nilIface, .bool false])) wz := by rw [HM.out, grow_zero]; exact ⟨rfl, hoff⟩
      have FIN := Lib.hid FIN
      go_wp2_with fail
      first | exact FIN.out | (simp [bodyPost, results, Try.results31, go_sem]; exact FIN.out) | (go_ret2; exact FIN.out)
    have hmm : (512 : Int) - (may : Int) + 1 = 512 - ((may - 1 : Nat) : Int) := by omega
    rw [hmm] at hGz g00
    have hle : ¬ (512 : Int) < 512 - ((may - 1 : Nat) : Int) := by omega
    have hled : decide ((512 : Int) < 512 - ((may - 1 : Nat) : Int)) = false := by simp; omega
    rw [hmm]
    clear hmm
    go_upto_region 5 with (first | (refine wpList_load_row rfl 30 (.tmp 6) rfl w.heap.size rfl 30 C (0, 0) _ hA0 Try.underlying30 rfl iC.out ?_) | (go_at_call 43; go_loud (with_reducible refine (la _ hS).mono ?_); rintro e wy ⟨A8, c8, rfl, hc8, hS8, hnil8, hnew8, hb⟩; replace hA0 := blkB hb hA0; have hA8a : Above G A8 := (fun b off sp h => by have h1 := hnew8 b off sp h; have h2 := blk_lt hGz; omega); have hA8 : NotAt G A8 := hA8a.notAt (Nat.le_refl _); have hGz0 := hGz; replace hGz := blkB hb hGz; replace hoff := hoff.trans (OffG.of hb (Nat.le_of_lt (blk_lt hGz0))); replace hGz0 := hGz; clear hb hnew8 hnil8 g00 la; obtain ⟨wz, hwz⟩ : ∃ x, x = wy := ⟨_, rfl⟩; subst hwz))
    obtain ⟨m8, hm8'⟩ : ∃ m, m = (leftP b l).length := ⟨_, rfl⟩
    rw [← hm8'] at hS8 hc8 ⊢
    have HM8 := Lib.hid hm8'; clear hm8'
    clear hS
    by_cases h8 : (leftP b l).length ≤ 8
    · have hgr := grow_leaf (d := 0) (b := b) (l := l) (may := may) h0 h8
      rw [← HM8.out] at h8
      have hm8 : decide (m8 ≤ 8) = true := by simp [h8]
      have hm9 : (m8 : Int) ≤ 8 := by omega
      have FIN : M (.returned (.tuple #[.iface 99 (.agg #[.slice A8 m8 c8]), .bool true])) wz := by
        rw [HM.out, hgr, HM8.out]
        rw [HM8.out] at hS8 hc8
        exact ⟨_, _, rfl, ⟨A8, c8, rfl, hc8, fun _ => hA8a, hS8⟩, hGz, hoff⟩
      have FIN := Lib.hid FIN
      clear hgr
      go_wp2_with fail
      first | exact FIN.out | (simp [bodyPost, results, Try.results31, go_sem]; exact FIN.out) | (go_ret2; exact FIN.out)
    · -- a node that is too deep
      have hgr := grow_deep (b := b) (l := l) (may := may) h0 h8
      have h8m : ¬ m8 ≤ 8 := by rw [HM8.out]; exact h8
      have hm8 : decide (m8 ≤ 8) = false := by simp; omega
      have hm9 : ¬ (m8 : Int) ≤ 8 := by omega
      have hdd : (dep : Int) = 24 := by omega
      have hdq : ((dep : Int) == 24) = true := by rw [hdd]; rfl
      have FIN : M (.returned (.tuple #[.nilIface, .bool false])) wz := by rw [HM.out, hgr]; exact ⟨rfl, hoff⟩
      have FIN := Lib.hid FIN
      clear hgr hdd
      go_wp2_with fail
      first | exact FIN.out | (simp [bodyPost, results, Try.results31, go_sem]; exact FIN.out) | (go_ret2; exact FIN.out)
  | succ d ih =>
    intro dep hd b wb l hw may hmay A n c hn hl5 hnc G w hG hA hS
    obtain ⟨M, hM⟩ : ∃ M, M = GrowPost w G (growP (d + 1) b l may) := ⟨_, rfl⟩
    rw [← hM]
    have HM := Lib.hid hM; clear hM
    have iC := inf29 b
    have la := fun (W : World) (h : Sl W 25 enc25 A n l) => left_any A n c l b hn hnc W h
    obtain ⟨C, hC⟩ : ∃ C, C = bxc b := ⟨_, rfl⟩
    simp only [← hC] at la
    rw [← hC] at iC ⊢
    have iC := Lib.hid iC
    have HC := Lib.hid hC; clear hC
    have HLEN := Lib.hid hl5
    have hGl := blk_lt hG
    have hA0 := heap_alloc_new w (.cells C 30)
    have b0 := Below.al (Below.refl w.heap.size w) (.cells C 30)
    obtain ⟨w0, hw0⟩ : ∃ w0, w0 = w.alloc (.cells C 30) := ⟨_, rfl⟩
    rw [← hw0] at hA0 b0
    have Hw0 := Lib.hid hw0; clear hw0
    replace hG := blkB b0 hG
    replace hS := hS.keep b0
    have hoff : OffG G w w0 := OffG.of b0 (Nat.le_of_lt hGl)
    have hne0 : w.heap.size ≠ G := by omega
    have g00 : w0.cell? ⟨G, 0, none⟩ = some (.int .i64 (512 - (may : Int))) := by simp [World.cell?, hG]
    have g0f := fr1 hG
    go_enter Try.func31, Try.ntmps31
    go_upto_region 1 with fail
    rw [← Hw0.out]
    clear Hw0
    go_upto_region 2 with fail
    obtain ⟨wz, hwz⟩ : ∃ x, x = w0.setCell ⟨G, 0, none⟩ (.int .i64 (512 - (may : Int) + 1)) := ⟨_, rfl⟩
    have hGz : wz.heap[G]? = some (.cells #[.int .i64 (512 - (may : Int) + 1)] 85 (0, 0)) := by rw [hwz]; exact heap_set1 hG _
    have hof1 : OffG G w0 wz := by rw [hwz]; exact OffG.set _ _
    rw [← hwz]
    clear hwz g00 g0f
    replace hA0 := blkO hof1 hne0 hA0
    replace hS := hS.off hA hof1
    replace hoff := hoff.trans hof1
    have g00 : wz.cell? ⟨G, 0, none⟩ = some (.int .i64 (512 - (may : Int) + 1)) := by simp [World.cell?, hGz]
    clear hof1 hG b0
    by_cases h0 : may = 0
    · subst h0
      have FIN : M (.returned (.tuple #[.nilIface, .bool false])) wz := by rw [HM.out, grow_zero]; exact ⟨rfl, hoff⟩
      have FIN := Lib.hid FIN
      go_wp2_with fail
      first | exact FIN.out | (simp [bodyPost, results, Try.results31, go_sem]; exact FIN.out) | (go_ret2; exact FIN.out)
    have hmm : (512 : Int) - (may : Int) + 1 = 512 - ((may - 1 : Nat) : Int) := by omega
    rw [hmm] at hGz g00
    have hle : ¬ (512 : Int) < 512 - ((may - 1 : Nat) : Int) := by omega
    have hled : decide ((512 : Int) < 512 - ((may - 1 : Nat) : Int)) = false := by simp; omega
    rw [hmm]
    clear hmm
    go_upto_region 5 with (first | (refine wpList_load_row rfl 30 (.tmp 6) rfl w.heap.size rfl 30 C (0, 0) _ hA0 Try.underlying30 rfl iC.out ?_) | (go_at_call 43; go_loud (with_reducible refine (la _ hS).mono ?_); rintro e wy ⟨A8, c8, rfl, hc8, hS8, hnil8, hnew8, hb⟩; replace hA0 := blkB hb hA0; have hA8a : Above G A8 := (fun b off sp h => by have h1 := hnew8 b off sp h; have h2 := blk_lt hGz; omega); have hA8 : NotAt G A8 := hA8a.notAt (Nat.le_refl _); have hGz0 := hGz; replace hGz := blkB hb hGz; replace hoff := hoff.trans (OffG.of hb (Nat.le_of_lt (blk_lt hGz0))); replace hGz0 := hGz; clear hb hnew8 hnil8 g00 la; obtain ⟨wz, hwz⟩ : ∃ x, x = wy := ⟨_, rfl⟩; subst hwz))
    obtain ⟨m8, hm8'⟩ : ∃ m, m = (leftP b l).length := ⟨_, rfl⟩
    rw [← hm8'] at hS8 hc8 ⊢
    have HM8 := Lib.hid hm8'; clear hm8'
    clear hS
    by_cases h8 : (leftP b l).length ≤ 8
    · have hgr := grow_leaf (d := (d + 1)) (b := b) (l := l) (may := may) h0 h8
      rw [← HM8.out] at h8
      have hm8 : decide (m8 ≤ 8) = true := by simp [h8]
      have hm9 : (m8 : Int) ≤ 8 := by omega
      have FIN : M (.returned (.tuple #[.iface 99 (.agg #[.slice A8 m8 c8]), .bool true])) wz := by
        rw [HM.out, hgr, HM8.out]
        rw [HM8.out] at hS8 hc8
        exact ⟨_, _, rfl, ⟨A8, c8, rfl, hc8, fun _ => hA8a, hS8⟩, hGz, hoff⟩
      have FIN := Lib.hid FIN
      clear hgr
      go_wp2_with fail
      first | exact FIN.out | (simp [bodyPost, results, Try.results31, go_sem]; exact FIN.out) | (go_ret2; exact FIN.out)
    · have hgr := grow_inner (d := d) (b := b) (l := l) (may := may) h0 h8
      have h8m : ¬ m8 ≤ 8 := by rw [HM8.out]; exact h8
      have hm8 : decide (m8 ≤ 8) = false := by simp; omega
      have hm9 : ¬ (m8 : Int) ≤ 8 := by omega
      have hd1 : ¬ (dep : Int) = 24 := by omega
      have hdq : ((dep : Int) == 24) = false := by simp; omega
      obtain ⟨g0, g1, g2, g3, g4⟩ := best_good hw wb (by omega : 8 < (leftP b l).length)
      have wl := wb_lo wb g3 g4
      have wh := wb_hi wb g3 g4
      have hwl : ∀ e ∈ leftP b l, WB e.bx := fun e he => hw e (left_mem he).1
      -- points of the children
      have hm512 : m8 ≤ 512 := by rw [HM8.out]; exact HLEN.out
      have hh := fun (W : World) (h : Sl W 25 enc25 A8 m8 (leftP b l)) => halves_any A8 m8 c8 (leftP b l) b hm512 hwl wb g0 g3 g4 W h
      have iL := inf29 (loP b (leftP b l))
      have oL := bx_one (loP b (leftP b l))
      have zL : (#[.int .u64 0, .int .u64 0, .int .u64 0, .int .u64 0, .int .u64 0, .int .u64 0, .int .u64 0, .int .u64 0, .int .u64 0, .int .u64 0, .int .u64 0, .int .u64 0, .int .u64 0, .int .u64 0, .int .u64 0, .int .u64 0, .int .u64 0, .int .u64 0, .int .u64 0, .int .u64 0, .int .u64 0, .int .u64 0, .int .u64 0, .int .u64 0] : Array Value).size = (bxc (loP b (leftP b l))).size := rfl
      have iH := inf29 (hiP b (leftP b l))
      have oH := bx_one (hiP b (leftP b l))
      have zH : (#[.int .u64 0, .int .u64 0, .int .u64 0, .int .u64 0, .int .u64 0, .int .u64 0, .int .u64 0, .int .u64 0, .int .u64 0, .int .u64 0, .int .u64 0, .int .u64 0, .int .u64 0, .int .u64 0, .int .u64 0, .int .u64 0, .int .u64 0, .int .u64 0, .int .u64 0, .int .u64 0, .int .u64 0, .int .u64 0, .int .u64 0, .int .u64 0] : Array Value).size = (bxc (hiP b (leftP b l))).size := rfl
      have r1 := fun (W : World) (h : W.heap[G]? = some (.cells #[.int .i64 (512 - ((may - 1 : Nat) : Int))] 85 (0, 0))) (hs : Sl W 25 enc25 A8 m8 (leftP b l)) => ih (dep + 1) (by omega) (loP b (leftP b l)) wl (leftP b l) hwl (may - 1) (by omega) A8 m8 c8 (by omega) (Nat.le_trans (left_len _ _) HLEN.out) hc8 G W h (fun _ => hA8) hs
      have r2 := fun (W : World) (m1 : Nat) (h1 : m1 ≤ 512) (h : W.heap[G]? = some (.cells #[.int .i64 (512 - (m1 : Int))] 85 (0, 0))) (hs : Sl W 25 enc25 A8 m8 (leftP b l)) => ih (dep + 1) (by omega) (hiP b (leftP b l)) wh (leftP b l) hwl m1 h1 A8 m8 c8 (by omega) (Nat.le_trans (left_len _ _) HLEN.out) hc8 G W h (fun _ => hA8) hs
      have hgc := fun t m => grow_count d (loP b (leftP b l)) (leftP b l) (may - 1) t m
      unfold HalvesPost at hh
      obtain ⟨LV, hLV⟩ : ∃ LV, LV = bxc (loP b (leftP b l)) := ⟨_, rfl⟩
      obtain ⟨HV, hHV⟩ : ∃ HV, HV = bxc (hiP b (leftP b l)) := ⟨_, rfl⟩
      simp only [← hLV, ← hHV, ← HC.out] at hh r1 r2 iL oL zL iH oH zH
      have HLV := Lib.hid hLV
      clear hLV hHV
      have iL := Lib.hid iL
      have oL := Lib.hid oL
      have zL := Lib.hid zL
      have iH := Lib.hid iH
      have oH := Lib.hid oH
      have zH := Lib.hid zH
      clear g0 g3 g4 wl wh hwl ih
      obtain ⟨R1, hR1⟩ : ∃ R1, R1 = growP d (loP b (leftP b l)) (leftP b l) (may - 1) := ⟨_, rfl⟩
      simp only [← hR1] at r1 hgr hgc
      clear hR1
      have HGR := Lib.hid hgr; clear hgr
      have HGC := Lib.hid hgc; clear hgc
      have dp1 : ((dep + 1 : Nat) : Int) = (dep : Int) + 1 := by omega
      simp only [dp1] at r1 r2
      clear dp1
      go_upto_region 10 with (first | (refine wpList_load_row rfl 30 (.tmp 6) rfl w.heap.size rfl 30 C (0, 0) _ hA0 Try.underlying30 rfl iC.out ?_) | (go_at_call 44; go_loud (with_reducible refine (hh _ hS8).mono ?_); rintro e wy ⟨rfl, hb⟩; replace hA0 := blkB hb hA0; replace hS8 := hS8.keep hb; replace hGz := blkB hb hGz; replace hoff := hoff.trans (OffG.of hb (Nat.le_of_lt (blk_lt hGz0))); clear hb; obtain ⟨wz, hwz⟩ : ∃ x, x = wy := ⟨_, rfl⟩; subst hwz) | (refine wpList_store_row rfl 30 (.tmp 10) (.tmp 42) rfl wz.heap.size LV rfl rfl 30 #[.int .u64 0, .int .u64 0, .int .u64 0, .int .u64 0, .int .u64 0, .int .u64 0, .int .u64 0, .int .u64 0, .int .u64 0, .int .u64 0, .int .u64 0, .int .u64 0, .int .u64 0, .int .u64 0, .int .u64 0, .int .u64 0, .int .u64 0, .int .u64 0, .int .u64 0, .int .u64 0, .int .u64 0, .int .u64 0, .int .u64 0, .int .u64 0] (blk_al (heap_alloc_new wz _) _) iL.out zL.out oL.out ?_) | (refine wpList_store_row rfl 30 (.tmp 11) (.tmp 43) rfl (wz.heap.size + 1) HV rfl rfl 30 #[.int .u64 0, .int .u64 0, .int .u64 0, .int .u64 0, .int .u64 0, .int .u64 0, .int .u64 0, .int .u64 0, .int .u64 0, .int .u64 0, .int .u64 0, .int .u64 0, .int .u64 0, .int .u64 0, .int .u64 0, .int .u64 0, .int .u64 0, .int .u64 0, .int .u64 0, .int .u64 0, .int .u64 0, .int .u64 0, .int .u64 0, .int .u64 0] (two_mid wz LV 30 #[.int .u64 0, .int .u64 0, .int .u64 0, .int .u64 0, .int .u64 0, .int .u64 0, .int .u64 0, .int .u64 0, .int .u64 0, .int .u64 0, .int .u64 0, .int .u64 0, .int .u64 0, .int .u64 0, .int .u64 0, .int .u64 0, .int .u64 0, .int .u64 0, .int .u64 0, .int .u64 0, .int .u64 0, .int .u64 0, .int .u64 0, .int .u64 0]) iH.out zH.out oH.out ?_; obtain ⟨wy, hwy⟩ : ∃ x, x = World.setRow (World.setRow ((wz.alloc (.cells #[.int .u64 0, .int .u64 0, .int .u64 0, .int .u64 0, .int .u64 0, .int .u64 0, .int .u64 0, .int .u64 0, .int .u64 0, .int .u64 0, .int .u64 0, .int .u64 0, .int .u64 0, .int .u64 0, .int .u64 0, .int .u64 0, .int .u64 0, .int .u64 0, .int .u64 0, .int .u64 0, .int .u64 0, .int .u64 0, .int .u64 0, .int .u64 0] 30)).alloc (.cells #[.int .u64 0, .int .u64 0, .int .u64 0, .int .u64 0, .int .u64 0, .int .u64 0, .int .u64 0, .int .u64 0, .int .u64 0, .int .u64 0, .int .u64 0, .int .u64 0, .int .u64 0, .int .u64 0, .int .u64 0, .int .u64 0, .int .u64 0, .int .u64 0, .int .u64 0, .int .u64 0, .int .u64 0, .int .u64 0, .int .u64 0, .int .u64 0] 30)) wz.heap.size LV) (wz.heap.size + 1) HV := ⟨_, rfl⟩; rw [← hwy]))
      obtain ⟨hL, hH, hK, hBB⟩ := two_end hwy
      have hoff1 : OffG G wz wy := OffG.of (hBB wz (Below.refl _ _)) (Nat.le_of_lt (blk_lt hGz))
      replace hA0 := hK _ _ hA0
      replace hGy := hK _ _ hGz
      replace hS8 := hS8.off (fun _ => hA8) hoff1
      replace hoff := hoff.trans hoff1
      obtain ⟨P, hP⟩ : ∃ P, P = wz.heap.size := ⟨_, rfl⟩
      have hPG : P ≠ G := by have := blk_lt hGz; omega
      have hPG1 : P + 1 ≠ G := by have := blk_lt hGz; omega
      rw [← hP] at hL hH ⊢
      clear hwy hK hBB hP hoff1 hh hGz
      cases R1 with
      | none =>
        have hgr : growP (d + 1) b l may = none := HGR.out
        go_upto_region 11 with (first | (refine wpList_load_row rfl 30 (.tmp 10) rfl P rfl 30 LV (0, 0) _ hL Try.underlying30 rfl iL.out ?_) | (go_at_call 31; go_loud (with_reducible refine (r1 _ hGy hS8).mono ?_); rintro e w1 ⟨rfl, hof⟩))
        have FIN : M (.returned (.tuple #[.nilIface, .bool false])) w1 := by rw [HM.out, hgr]; exact ⟨rfl, hoff.trans hof⟩
        have FIN := Lib.hid FIN
        clear hgr
        go_wp2_with fail
        first | exact FIN.out | (simp [bodyPost, results, Try.results31, go_sem]; exact FIN.out) | (go_ret2; exact FIN.out)
      | some p1 =>
        obtain ⟨t1, m1⟩ := p1
        have hm1 : m1 ≤ 512 := by have := HGC.out t1 m1 rfl; omega
        have hgr : growP (d + 1) b l may = match growP d (hiP b (leftP b l)) (leftP b l) m1 with
          | none => none
          | some (t2, m2) => some (.inner (fldP b (leftP b l)) (atP b (leftP b l)) (loP b (leftP b l)) t1 t2, m2) := HGR.out
        clear HGR HGC
        replace r2 := fun (W : World) (h : W.heap[G]? = some (.cells #[.int .i64 (512 - (m1 : Int))] 85 (0, 0))) (hs : Sl W 25 enc25 A8 m8 (leftP b l)) => r2 W m1 hm1 h hs
        obtain ⟨R2, hR2⟩ : ∃ R2, R2 = growP d (hiP b (leftP b l)) (leftP b l) m1 := ⟨_, rfl⟩
        rw [← hR2] at hgr
        simp only [← hR2] at r2
        clear hR2
        have HGR := Lib.hid hgr; clear hgr
        go_upto_region 11 with (first | (refine wpList_load_row rfl 30 (.tmp 10) rfl P rfl 30 LV (0, 0) _ hL Try.underlying30 rfl iL.out ?_) | (go_at_call 31; go_loud (with_reducible refine (r1 _ hGy hS8).mono ?_); rintro e w1 ⟨ty1, x1, rfl, hn1, hG1, hof⟩))
        replace hL := blkO hof hPG hL
        replace hH := blkO hof hPG1 hH
        replace hS8 := hS8.off (fun _ => hA8) hof
        replace hoff := hoff.trans hof
        clear r1 hGy hof hA0
        cases R2 with
        | none =>
          have hgr : growP (d + 1) b l may = none := HGR.out
          go_upto_region 14 with (first | (refine wpList_load_row rfl 30 (.tmp 11) rfl (P + 1) rfl 30 HV (0, 0) _ hH Try.underlying30 rfl iH.out ?_) | (go_at_call 31; go_loud (with_reducible refine (r2 _ hG1 hS8).mono ?_); rintro e w2 ⟨rfl, hof⟩))
          have FIN : M (.returned (.tuple #[.nilIface, .bool false])) w2 := by rw [HM.out, hgr]; exact ⟨rfl, hoff.trans hof⟩
          have FIN := Lib.hid FIN
          clear hgr
          go_wp2_with fail
          first | exact FIN.out | (simp [bodyPost, results, Try.results31, go_sem]; exact FIN.out) | (go_ret2; exact FIN.out)
        | some p2 =>
          obtain ⟨t2, m2⟩ := p2
          have hgr : growP (d + 1) b l may = some (.inner (fldP b (leftP b l)) (atP b (leftP b l)) (loP b (leftP b l)) t1 t2, m2) := HGR.out
          have HGR2 := Lib.hid hgr; clear hgr HGR
          go_upto_region 14 with (first | (refine wpList_load_row rfl 30 (.tmp 11) rfl (P + 1) rfl 30 HV (0, 0) _ hH Try.underlying30 rfl iH.out ?_) | (go_at_call 31; go_loud (with_reducible refine (r2 _ hG1 hS8).mono ?_); rintro e w2 ⟨ty2, x2, rfl, hn2, hG2, hof⟩))
          replace hL := blkO hof hPG hL
          replace hn1 := hn1.off (Nat.le_refl _) hof
          replace hoff := hoff.trans hof
          have FIN : M (.returned (.tuple #[.iface 103 (.agg (inA (loP b (leftP b l)) (.iface ty1 x1) (.iface ty2 x2))), .bool true])) w2 := by
            rw [HM.out, HGR2.out]
            exact ⟨_, _, rfl, ⟨_, _, rfl, hn1, hn2⟩, hG2, hoff⟩
          have FIN := Lib.hid FIN
          have HLV2 := HLV
          clear HGR2 hn1 hn2 r2 hof
          go_wp2_with (first | (refine wpList_load_row rfl 30 (.tmp 10) rfl P rfl 30 LV (0, 0) _ hL Try.underlying30 rfl iL.out ?_) | (refine wpList_inner rfl (.tmp 66) (.tmp 67) (.tmp 68) (loP b (leftP b l)) LV HLV2.out _ _ _ _ rfl rfl rfl rfl ?_))
          first | exact FIN.out | (simp [bodyPost, results, Try.results31, go_sem]; exact FIN.out) | (go_ret2; exact FIN.out)
end Go.Proofs.Ytomennaekjklbaa
