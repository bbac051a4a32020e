/- Check sums set, and addresses laid down: the program's; by-name template (gen_wset.py). -/
import Derived.Test.YtpmbdjdhgcjkfaaZA
import Derived.StillTailTactics
namespace Go.Proofs.Ytpmbdjdhgcjkfaa
open Go.RowKit Go.Sort
set_option linter.unusedVariables false
set_option linter.unusedSimpArgs false

theorem Wr.over {w w1 w2 : World} {g o : Nat} {bs cs : List UInt8} (h : Wr w g o bs w1) (k : Wr w1 g o cs w2) (hl : bs.length = cs.length) : Wr w g o cs w2 :=
  ⟨by rw [k.os, h.os], by rw [k.tape, h.tape], by rw [k.output, h.output], Nat.le_trans h.size k.size, fun j hj hk => by rw [k.block j hj (Nat.lt_of_lt_of_le hk h.size), h.block j hj hk], fun x => by rw [k.frozen, h.frozen], k.inn, fun x hx => by rw [k.out x hx, h.out x (by omega)],
    fun cs t fz hc => by obtain ⟨c1, e1, h1⟩ := h.kind cs t fz hc; obtain ⟨c2, e2, h2⟩ := k.kind _ _ _ h1; exact ⟨c2, by rw [e2, e1], h2⟩⟩
theorem clr_wr {w : World} {B o : Nat} (hr : Room w B o 2) : Wr w B o [0, 0] (w.setCells B o [.int .u8 0, .int .u8 0]) := by
  have h1 := ((Wrote.nil w B (o + 1)).cons (0 : UInt8) (by have := (hr 0 (by omega)).1; simpa using this)).wr
  have hr2 := hr.wr h1
  have h2 := ((Wrote.nil (w.setCell ⟨B, o, none⟩ (.int .u8 ((0 : UInt8).toNat : Nat))) B (o + 1 + 1)).cons (0 : UInt8) (by have := (hr2 1 (by omega)).1; simpa using this)).wr
  exact h1.app (bs := [0]) (cs := [0]) h2
theorem clr_run (B o c : Nat) {w : World} (hr : Room w B o 2) : ∀ ty, (Builtin.clear_ #[22] ty #[.slice (some ⟨B, o, none⟩) 2 c]).run Try.prog w = .ok (.tuple #[]) (w.setCells B o [.int .u8 0, .int .u8 0]) := fun ty =>
  Lib.run_clear_slice w 22 5 ty (.int .u8 0) Try.underlying22 (fun w => by kernel_rfl) rfl rfl B o 2 c (by omega) (fun j hj => by obtain ⟨⟨v, hv⟩, _⟩ := hr j hj; rw [hv]; rfl) (fun j hj => (hr j hj).2)
theorem Byt.front' {w : World} {g : Nat} {l m : List UInt8} (h : Byt w g 0 (l ++ m)) : Byt w g 0 l := by
  have := h.sub 0 l.length
  simpa using this
/-- What was there, but for one block, is there. -/
def Kept (w : World) (B : Nat) (w' : World) : Prop := ∀ (N : Nat) (w0 : World), Below N w0 w → N ≤ B → Below N w0 w'
theorem Wr.keptB {w w' : World} {B o : Nat} {bs : List UInt8} (h : Wr w B o bs w') (hB : B < w.heap.size) : Kept w B w' := fun N w0 h0 hN => h.bel h0 hN hB
theorem Kept.trans {w w1 w2 : World} {B : Nat} (h : Kept w B w1) (k : Kept w1 B w2) : Kept w B w2 := fun N w0 h0 hN => k N w0 (h N w0 h0 hN) hN
theorem Below.keptB {w w' : World} (h : Below w.heap.size w w') {B : Nat} (hB : B ≤ w.heap.size) : Kept w B w' := fun N w0 h0 hN => h0.trans (h.mono (by omega))

set_option maxHeartbeats 2000000 in
set_option maxRecDepth 100000 in
theorem setsum_any (B C : Nat) (a b c t : List UInt8) (ha : a.length = 10) (hb : b.length = 2) (hc : c.length = 8) (hC : 20 ≤ C) (hCm : C ≤ 9223372036854775807) {w : World} (hR : Row w B (a ++ b ++ c ++ t)) :
    Calls Try.prog 80 #[.slice (some ⟨B, 0, none⟩) 20 C, .int .i64 10] w fun e w' => e = .returned (.tuple #[]) ∧ Wr w B 10 (beB 2 (sumP (a ++ [0, 0] ++ c))) w' := by
  have s1 : ∀ W, (Instr.slice 22 (.slice (some ⟨B, 0, none⟩) 20 C) (some (.int .i64 10)) (some (.int .i64 12)) none).run Try.prog W = .ok (.slice (some ⟨B, 10, none⟩) 2 (C - 10)) W := by have := cut_lh B 0 20 C 10 12 (by omega) (by omega) (by omega) hCm; simpa using this
  have hr : Room w B 10 2 := hR.room (by simp only [List.length_append, ha, hb, hc]; omega)
  have hcl := clr_run B 10 (C - 10) hr
  have hW := clr_wr hr
  have hR1 := hR.wr hW (L' := a ++ [0, 0] ++ (c ++ t)) (a := a) (b := b) (c := c ++ t) (by simp [List.append_assoc]) ha (by simp [hb]) rfl
  have hb1 : Byt (w.setCells B 10 [.int .u8 0, .int .u8 0]) B 0 (a ++ [0, 0] ++ c) := by
    have := hR1.byt
    rw [← List.append_assoc] at this
    exact this.front'
  have hlen : (a ++ [0, 0] ++ c).length = 20 := by simp [ha, hc]
  have hS := sumP_le (a ++ [0, 0] ++ c)
  generalize a ++ [0, 0] ++ c = HL at *
  obtain ⟨S, hSe⟩ : ∃ S, S = sumP HL := ⟨_, rfl⟩
  have hr2 : Room (w.setCells B 10 [.int .u8 0, .int .u8 0]).drew B 10 2 := by have := hr.wr hW; exact this
  have cs := (sum_any B 0 C 20 HL hlen hC hCm (by omega) (w := (w.setCells B 10 [.int .u8 0, .int .u8 0]).drew) hb1).mono (fun e w' h => (⟨h.1, h.2.symm⟩ : e = .returned (.int .i64 (sumP HL : Nat)) ∧ w' = (w.setCells B 10 [.int .u8 0, .int .u8 0]).drew))
  rw [← hSe] at cs ⊢
  have cp := put_any B 10 (C - 10) 2 S (by omega) (by omega) (by omega) (by omega) hr2
  have wS : IntKind.u64.wrap (S : Int) = (S : Int) := by rw [IntKind.wrap_u64]; omega
  have hSi : (S : Int) ≤ 65535 := by omega
  have w12 : IntKind.i64.wrap 12 = 12 := by decide
  have HW := Lib.hid hW
  clear hR hR1 hb1 hlen hr hr2 hSe ha hb hc hW
  go_enter Try.func80, Try.ntmps80
  go_wp2_with fail
  obtain ⟨w1, hw1⟩ : ∃ x, x = w.setCells B 10 [.int .u8 0, .int .u8 0] := ⟨_, rfl⟩
  have H1 : Hid (Wr w B 10 [0, 0] w1) := Lib.hid (by rw [hw1]; exact HW.out)
  rw [← hw1] at cs cp ⊢
  clear hw1 hcl HW
  refine wp_region_still_tail 8 (by kernel_rfl) (by kernel_rfl) ?_
  simp only [List.take_succ_cons, List.take_zero, List.drop_succ_cons, List.drop_zero]
  still_step
  still_step
  still_step
  still_step
  still_step
  still_step
  still_call cs
  still_step
  try refine wpStill_nil ?_
  change wpList _ _ _ _ _ w1.drew
  go_wp2_with (go_at_call 60; refine cp.mono ?_; rintro e w2 ⟨rfl, hW2⟩; have H2 := Lib.hid hW2; clear hW2)
  simp [bodyPost, results, Try.results80, go_sem]
  have h2 : Wr w1 B 10 (beB 2 S) w2 := ⟨H2.out.os, H2.out.tape, H2.out.output, Nat.le_of_eq H2.out.size.symm, fun k hk _ => H2.out.block k hk, fun x => H2.out.frozen _, H2.out.inn, H2.out.out, H2.out.kind⟩
  exact H1.out.over h2 (by simp [beB_len])
end Go.Proofs.Ytpmbdjdhgcjkfaa

namespace Go.Proofs.Ytpmbdjdhgcjkfaa
open Go.RowKit Go.Sort
set_option linter.unusedVariables false
set_option linter.unusedSimpArgs false


set_option maxHeartbeats 2000000 in
set_option maxRecDepth 100000 in
theorem setaddr4 (B N sh sl dh dl : Nat) (a b s d t : List UInt8) (hsh : sh < 18446744073709551616) (hsl : sl < 18446744073709551616) (hdh : dh < 18446744073709551616) (hdl : dl < 18446744073709551616) (ha : a.length = 10) (hb : b.length = 2) (hs : s.length = 4) (hd : d.length = 4) (hN : N = 20 + t.length) (hNm : N ≤ 100000) {w : World} (hR : Row w B (a ++ b ++ s ++ d ++ t)) :
    Calls Try.prog 61 #[.agg (famCells false), .slice (some ⟨B, 0, none⟩) N N, .agg #[.int .u64 (sh : Nat), .int .u64 (sl : Nat), .int .u64 (dh : Nat), .int .u64 (dl : Nat)]] w fun e w' => e = .returned (.tuple #[]) ∧ Row w' B (a ++ beB 2 (sumP (a ++ [0, 0] ++ ((beB 4 sl) ++ (beB 4 dl)))) ++ ((beB 4 sl) ++ (beB 4 dl)) ++ t) ∧ Kept w B w' := by
  have hX : (beB 4 sl).length = 4 := by simp [beB_len]
  have hX2 : (beB 4 dl).length = 4 := by simp [beB_len]
  have p1 := fun (W : World) (hr : Room W B 12 4) => paddr4 B 12 (N - 12) sh sl (by omega) (by omega) (by omega) hr
  have p2 := fun (W : World) (hr : Room W B 16 4) => paddr4 B 16 (N - 16) dh dl (by omega) (by omega) (by omega) hr
  have s1 : ∀ W, (Instr.slice 22 (.slice (some ⟨B, 0, none⟩) N N) (some (.int .i64 12)) (some (.int .i64 16)) none).run Try.prog W = .ok (.slice (some ⟨B, 12, none⟩) 4 (N - 12)) W := by have := cut_lh B 0 N N 12 16 (by omega) (by omega) (by omega) (by omega); simpa using this
  have s2 : ∀ W, (Instr.slice 22 (.slice (some ⟨B, 0, none⟩) N N) (some (.int .i64 16)) (some (.int .i64 20)) none).run Try.prog W = .ok (.slice (some ⟨B, 16, none⟩) 4 (N - 16)) W := by have := cut_lh B 0 N N 16 20 (by omega) (by omega) (by omega) (by omega); simpa using this
  have s3 : ∀ W, (Instr.slice 22 (.slice (some ⟨B, 0, none⟩) N N) none (some (.int .i64 20)) none).run Try.prog W = .ok (.slice (some ⟨B, 0, none⟩) 20 N) W := cut_h B 0 N N 20 (by omega) (by omega)
  have wk1 : IntKind.i64.wrap 12 = 12 := by decide
  have wk2 : IntKind.i64.wrap 16 = 16 := by decide
  have wk3 : IntKind.i64.wrap 20 = 20 := by decide
  generalize (beB 4 sl) = SX at *
  generalize (beB 4 dl) = DX at *
  have hBs := hR.lt
  have HL : Hid (a.length = 10 ∧ b.length = 2 ∧ s.length = 4 ∧ d.length = 4) := Lib.hid ⟨ha, hb, hs, hd⟩
  have HX := Lib.hid hX
  have HX2 := Lib.hid hX2
  have HN := Lib.hid hN
  clear hsh hsl hdh hdl hs hd hX hX2 hN ha hb
  simp only [famCells, if_true, if_false, Bool.false_eq_true]
  go_enter Try.func61, Try.ntmps61
  go_wp2
  go_loopw [8] (fun v8 wr => ∃ k : Nat, v8 = .int .i64 k ∧ k ≤ 2 ∧ Row wr B (if k = 0 then (a ++ b ++ s ++ d ++ t) else if k = 1 then (a ++ b ++ SX ++ d ++ t) else (a ++ b ++ SX ++ DX ++ t)) ∧ Kept w B wr ∧ wr.heap[w.heap.size]? = some (.cells #[.bool false, .int .i64 20, .int .i64 8, .int .i64 9, .int .i64 12, .int .i64 4] 69 (0, 0)) ∧ wr.heap[w.heap.size + 1]? = some (.cells #[.int .u64 (sh : Nat), .int .u64 (sl : Nat), .int .u64 (dh : Nat), .int .u64 (dl : Nat)] 98 (0, 0))) (fun v8 _ => 2 - (intOf v8).toNat)
  case atStart =>
    refine ⟨0, rfl, by omega, ?_, Below.keptB (Below.al (Below.al (Below.refl _ _) _) _) (by omega), (al_oldw (by first | (simp; done) | (simp; omega)) _).trans (al_neww rfl _), al_neww (by simp) _⟩
    rw [if_pos rfl]
    exact hR.below (Below.al (Below.al (Below.refl _ _) _) _)
  case round =>
    obtain ⟨k, rfl, hk, hR, hK, hF, hA⟩ := hrel
    match k, hk with
    | 0, _ =>
      have hR : Row wr B (a ++ b ++ s ++ d ++ t) := by simpa using hR
      obtain ⟨⟨f0, f1, f2, f3, f4, f5⟩, _⟩ := cells6 hF
      obtain ⟨⟨a0, a1, a2, a3⟩, _⟩ := cells4 hA
      have hrm : Room wr.drew B 12 4 := by have := hR.room (o := 12) (m := 4) (by simp only [List.length_append, HL.out.1, HL.out.2.1, HL.out.2.2.1, HL.out.2.2.2, HX.out]; omega); exact this
      have cp := p1 wr.drew hrm
      clear hrm
      go_wp2_with fail
      refine wp_region_still_tail 10 (by kernel_rfl) (by kernel_rfl) ?_
      simp only [List.take_succ_cons, List.take_zero, List.drop_succ_cons, List.drop_zero]
      repeat still_step
      try refine wpStill_nil ?_
      change wpList _ _ _ _ _ wr.drew
      have hRd : Row wr.drew B (a ++ b ++ s ++ d ++ t) := hR
      have hFd : wr.drew.heap[w.heap.size]? = _ := hF
      have hAd : wr.drew.heap[w.heap.size + 1]? = _ := hA
      have hKd : Kept w B wr.drew := fun N w0 h0 hN => (hK N w0 h0 hN).drew
      clear hR hF hA hK f0 f1 f2 f3 f4 f5 a0 a1 a2 a3
      generalize wr.drew = wd at *
      go_wp2_with (go_at_call 79; refine cp.mono ?_; rintro e w2 ⟨rfl, hW⟩; have HW := Lib.hid hW; clear hW)
      have hR2 := hRd.wr HW.out (L' := (a ++ b ++ SX ++ d ++ t)) (a := a ++ b) (b := s) (c := (d ++ t)) (by simp [List.append_assoc]) (by simp only [List.length_append, HL.out.1, HL.out.2.1, HX.out]) (by first | rw [HX.out, HL.out.2.2.1] | rw [HX2.out, HL.out.2.2.2]) (by simp [List.append_assoc])
      refine ⟨⟨1, by simp, by omega, by simpa using hR2, hKd.trans (HW.out.keptB hRd.lt), ?_, ?_⟩, by simp [intOf]⟩
      · rw [HW.out.block _ (by have := hBs; omega) (Array.getElem?_eq_some_iff.1 hFd).1]; exact hFd
      · rw [HW.out.block _ (by have := hBs; omega) (Array.getElem?_eq_some_iff.1 hAd).1]; exact hAd
    | 1, _ =>
      have hR : Row wr B (a ++ b ++ SX ++ d ++ t) := by simpa using hR
      obtain ⟨⟨f0, f1, f2, f3, f4, f5⟩, _⟩ := cells6 hF
      obtain ⟨⟨a0, a1, a2, a3⟩, _⟩ := cells4 hA
      have hrm : Room wr.drew B 16 4 := by have := hR.room (o := 16) (m := 4) (by simp only [List.length_append, HL.out.1, HL.out.2.1, HL.out.2.2.1, HL.out.2.2.2, HX.out]; omega); exact this
      have cp := p2 wr.drew hrm
      clear hrm
      go_wp2_with fail
      refine wp_region_still_tail 10 (by kernel_rfl) (by kernel_rfl) ?_
      simp only [List.take_succ_cons, List.take_zero, List.drop_succ_cons, List.drop_zero]
      repeat still_step
      try refine wpStill_nil ?_
      change wpList _ _ _ _ _ wr.drew
      have hRd : Row wr.drew B (a ++ b ++ SX ++ d ++ t) := hR
      have hFd : wr.drew.heap[w.heap.size]? = _ := hF
      have hAd : wr.drew.heap[w.heap.size + 1]? = _ := hA
      have hKd : Kept w B wr.drew := fun N w0 h0 hN => (hK N w0 h0 hN).drew
      clear hR hF hA hK f0 f1 f2 f3 f4 f5 a0 a1 a2 a3
      generalize wr.drew = wd at *
      go_wp2_with (go_at_call 79; refine cp.mono ?_; rintro e w2 ⟨rfl, hW⟩; have HW := Lib.hid hW; clear hW)
      have hR2 := hRd.wr HW.out (L' := (a ++ b ++ SX ++ DX ++ t)) (a := a ++ b ++ SX) (b := d) (c := t) (by simp [List.append_assoc]) (by simp only [List.length_append, HL.out.1, HL.out.2.1, HX.out]) (by first | rw [HX.out, HL.out.2.2.1] | rw [HX2.out, HL.out.2.2.2]) (by simp [List.append_assoc])
      refine ⟨⟨2, by simp, by omega, by simpa using hR2, hKd.trans (HW.out.keptB hRd.lt), ?_, ?_⟩, by simp [intOf]⟩
      · rw [HW.out.block _ (by have := hBs; omega) (Array.getElem?_eq_some_iff.1 hFd).1]; exact hFd
      · rw [HW.out.block _ (by have := hBs; omega) (Array.getElem?_eq_some_iff.1 hAd).1]; exact hAd
    | 2, _ =>
      have hR : Row wr B (a ++ b ++ SX ++ DX ++ t) := by simpa using hR
      obtain ⟨⟨f0, f1, f2, f3, f4, f5⟩, _⟩ := cells6 hF
      have cS := setsum_any B N a b (SX ++ DX) t HL.out.1 HL.out.2.1 (by rw [List.length_append, HX.out, HX2.out]) (by have := HN.out; omega) (by omega) (w := wr) (by have := hR; simpa [List.append_assoc] using this)
      have HR := Lib.hid hR
      have HK := Lib.hid hK
      clear hR hK p1 p2 s1 s2 hA
      go_wp2_with (go_at_call 80; refine cS.mono ?_; rintro e w2 ⟨rfl, hW⟩; have HW := Lib.hid hW; clear hW)
      simp [bodyPost, results, Try.results61, go_sem]
      refine ⟨HR.out.wr HW.out (a := a) (b := b) (c := SX ++ DX ++ t) (by simp [List.append_assoc]) HL.out.1 (by rw [beB_len, HL.out.2.1]) (by simp [List.append_assoc]), HK.out.trans (HW.out.keptB HR.out.lt)⟩

set_option maxHeartbeats 2000000 in
set_option maxRecDepth 100000 in
theorem setaddr16 (B N sh sl dh dl : Nat) (a s d t : List UInt8) (hsh : sh < 18446744073709551616) (hsl : sl < 18446744073709551616) (hdh : dh < 18446744073709551616) (hdl : dl < 18446744073709551616) (ha : a.length = 8) (hs : s.length = 16) (hd : d.length = 16) (hN : N = 40 + t.length) (hNm : N ≤ 100000) {w : World} (hR : Row w B (a ++ s ++ d ++ t)) :
    Calls Try.prog 61 #[.agg (famCells true), .slice (some ⟨B, 0, none⟩) N N, .agg #[.int .u64 (sh : Nat), .int .u64 (sl : Nat), .int .u64 (dh : Nat), .int .u64 (dl : Nat)]] w fun e w' => e = .returned (.tuple #[]) ∧ Row w' B (a ++ (beB 8 sh ++ beB 8 sl) ++ (beB 8 dh ++ beB 8 dl) ++ t) ∧ Kept w B w' := by
  have hX : (beB 8 sh ++ beB 8 sl).length = 16 := by simp [beB_len]
  have hX2 : (beB 8 dh ++ beB 8 dl).length = 16 := by simp [beB_len]
  have p1 := fun (W : World) (hr : Room W B 8 16) => paddr16 B 8 (N - 8) sh sl (by omega) (by omega) (by omega) (by omega) hr
  have p2 := fun (W : World) (hr : Room W B 24 16) => paddr16 B 24 (N - 24) dh dl (by omega) (by omega) (by omega) (by omega) hr
  have s1 : ∀ W, (Instr.slice 22 (.slice (some ⟨B, 0, none⟩) N N) (some (.int .i64 8)) (some (.int .i64 24)) none).run Try.prog W = .ok (.slice (some ⟨B, 8, none⟩) 16 (N - 8)) W := by have := cut_lh B 0 N N 8 24 (by omega) (by omega) (by omega) (by omega); simpa using this
  have s2 : ∀ W, (Instr.slice 22 (.slice (some ⟨B, 0, none⟩) N N) (some (.int .i64 24)) (some (.int .i64 40)) none).run Try.prog W = .ok (.slice (some ⟨B, 24, none⟩) 16 (N - 24)) W := by have := cut_lh B 0 N N 24 40 (by omega) (by omega) (by omega) (by omega); simpa using this
  have s3 : ∀ W, (Instr.slice 22 (.slice (some ⟨B, 0, none⟩) N N) none (some (.int .i64 40)) none).run Try.prog W = .ok (.slice (some ⟨B, 0, none⟩) 40 N) W := cut_h B 0 N N 40 (by omega) (by omega)
  have wk1 : IntKind.i64.wrap 8 = 8 := by decide
  have wk2 : IntKind.i64.wrap 24 = 24 := by decide
  have wk3 : IntKind.i64.wrap 40 = 40 := by decide
  generalize (beB 8 sh ++ beB 8 sl) = SX at *
  generalize (beB 8 dh ++ beB 8 dl) = DX at *
  have hBs := hR.lt
  have HL : Hid (a.length = 8 ∧ True ∧ s.length = 16 ∧ d.length = 16) := Lib.hid ⟨ha, trivial, hs, hd⟩
  have HX := Lib.hid hX
  have HX2 := Lib.hid hX2
  have HN := Lib.hid hN
  clear hsh hsl hdh hdl hs hd hX hX2 hN ha
  simp only [famCells, if_true, if_false, Bool.false_eq_true]
  go_enter Try.func61, Try.ntmps61
  go_wp2
  go_loopw [8] (fun v8 wr => ∃ k : Nat, v8 = .int .i64 k ∧ k ≤ 2 ∧ Row wr B (if k = 0 then (a ++ s ++ d ++ t) else if k = 1 then (a ++ SX ++ d ++ t) else (a ++ SX ++ DX ++ t)) ∧ Kept w B wr ∧ wr.heap[w.heap.size]? = some (.cells #[.bool true, .int .i64 40, .int .i64 7, .int .i64 6, .int .i64 8, .int .i64 16] 69 (0, 0)) ∧ wr.heap[w.heap.size + 1]? = some (.cells #[.int .u64 (sh : Nat), .int .u64 (sl : Nat), .int .u64 (dh : Nat), .int .u64 (dl : Nat)] 98 (0, 0))) (fun v8 _ => 2 - (intOf v8).toNat)
  case atStart =>
    refine ⟨0, rfl, by omega, ?_, Below.keptB (Below.al (Below.al (Below.refl _ _) _) _) (by omega), (al_oldw (by first | (simp; done) | (simp; omega)) _).trans (al_neww rfl _), al_neww (by simp) _⟩
    rw [if_pos rfl]
    exact hR.below (Below.al (Below.al (Below.refl _ _) _) _)
  case round =>
    obtain ⟨k, rfl, hk, hR, hK, hF, hA⟩ := hrel
    match k, hk with
    | 0, _ =>
      have hR : Row wr B (a ++ s ++ d ++ t) := by simpa using hR
      obtain ⟨⟨f0, f1, f2, f3, f4, f5⟩, _⟩ := cells6 hF
      obtain ⟨⟨a0, a1, a2, a3⟩, _⟩ := cells4 hA
      have hrm : Room wr.drew B 8 16 := by have := hR.room (o := 8) (m := 16) (by simp only [List.length_append, HL.out.1, HL.out.2.1, HL.out.2.2.1, HL.out.2.2.2, HX.out]; omega); exact this
      have cp := p1 wr.drew hrm
      clear hrm
      go_wp2_with fail
      refine wp_region_still_tail 10 (by kernel_rfl) (by kernel_rfl) ?_
      simp only [List.take_succ_cons, List.take_zero, List.drop_succ_cons, List.drop_zero]
      repeat still_step
      try refine wpStill_nil ?_
      change wpList _ _ _ _ _ wr.drew
      have hRd : Row wr.drew B (a ++ s ++ d ++ t) := hR
      have hFd : wr.drew.heap[w.heap.size]? = _ := hF
      have hAd : wr.drew.heap[w.heap.size + 1]? = _ := hA
      have hKd : Kept w B wr.drew := fun N w0 h0 hN => (hK N w0 h0 hN).drew
      clear hR hF hA hK f0 f1 f2 f3 f4 f5 a0 a1 a2 a3
      generalize wr.drew = wd at *
      go_wp2_with (go_at_call 79; refine cp.mono ?_; rintro e w2 ⟨rfl, hW⟩; have HW := Lib.hid hW; clear hW)
      have hR2 := hRd.wr HW.out (L' := (a ++ SX ++ d ++ t)) (a := a) (b := s) (c := (d ++ t)) (by simp [List.append_assoc]) (by simp only [List.length_append, HL.out.1, HL.out.2.1, HX.out]) (by first | rw [HX.out, HL.out.2.2.1] | rw [HX2.out, HL.out.2.2.2]) (by simp [List.append_assoc])
      refine ⟨⟨1, by simp, by omega, by simpa using hR2, hKd.trans (HW.out.keptB hRd.lt), ?_, ?_⟩, by simp [intOf]⟩
      · rw [HW.out.block _ (by have := hBs; omega) (Array.getElem?_eq_some_iff.1 hFd).1]; exact hFd
      · rw [HW.out.block _ (by have := hBs; omega) (Array.getElem?_eq_some_iff.1 hAd).1]; exact hAd
    | 1, _ =>
      have hR : Row wr B (a ++ SX ++ d ++ t) := by simpa using hR
      obtain ⟨⟨f0, f1, f2, f3, f4, f5⟩, _⟩ := cells6 hF
      obtain ⟨⟨a0, a1, a2, a3⟩, _⟩ := cells4 hA
      have hrm : Room wr.drew B 24 16 := by have := hR.room (o := 24) (m := 16) (by simp only [List.length_append, HL.out.1, HL.out.2.1, HL.out.2.2.1, HL.out.2.2.2, HX.out]; omega); exact this
      have cp := p2 wr.drew hrm
      clear hrm
      go_wp2_with fail
      refine wp_region_still_tail 10 (by kernel_rfl) (by kernel_rfl) ?_
      simp only [List.take_succ_cons, List.take_zero, List.drop_succ_cons, List.drop_zero]
      repeat still_step
      try refine wpStill_nil ?_
      change wpList _ _ _ _ _ wr.drew
      have hRd : Row wr.drew B (a ++ SX ++ d ++ t) := hR
      have hFd : wr.drew.heap[w.heap.size]? = _ := hF
      have hAd : wr.drew.heap[w.heap.size + 1]? = _ := hA
      have hKd : Kept w B wr.drew := fun N w0 h0 hN => (hK N w0 h0 hN).drew
      clear hR hF hA hK f0 f1 f2 f3 f4 f5 a0 a1 a2 a3
      generalize wr.drew = wd at *
      go_wp2_with (go_at_call 79; refine cp.mono ?_; rintro e w2 ⟨rfl, hW⟩; have HW := Lib.hid hW; clear hW)
      have hR2 := hRd.wr HW.out (L' := (a ++ SX ++ DX ++ t)) (a := a ++ SX) (b := d) (c := t) (by simp [List.append_assoc]) (by simp only [List.length_append, HL.out.1, HL.out.2.1, HX.out]) (by first | rw [HX.out, HL.out.2.2.1] | rw [HX2.out, HL.out.2.2.2]) (by simp [List.append_assoc])
      refine ⟨⟨2, by simp, by omega, by simpa using hR2, hKd.trans (HW.out.keptB hRd.lt), ?_, ?_⟩, by simp [intOf]⟩
      · rw [HW.out.block _ (by have := hBs; omega) (Array.getElem?_eq_some_iff.1 hFd).1]; exact hFd
      · rw [HW.out.block _ (by have := hBs; omega) (Array.getElem?_eq_some_iff.1 hAd).1]; exact hAd
    | 2, _ =>
      have hR : Row wr B (a ++ SX ++ DX ++ t) := by simpa using hR
      obtain ⟨⟨f0, f1, f2, f3, f4, f5⟩, _⟩ := cells6 hF
      have HR := Lib.hid hR
      have HK := Lib.hid hK
      clear hR hK p1 p2 s1 s2 s3 hA
      go_wp2
      simp [bodyPost, results, Try.results61, go_sem]
      refine ⟨?_, HK.out⟩
      have := HR.out
      simpa [List.append_assoc] using this
end Go.Proofs.Ytpmbdjdhgcjkfaa

namespace Go.Proofs.Ytpmbdjdhgcjkfaa
open Go.RowKit Go.Sort
set_option linter.unusedVariables false
set_option linter.unusedSimpArgs false

/-- Bytes of which some are others. -/
def putL (l : List UInt8) (o : Nat) (bs : List UInt8) : List UInt8 := l.take o ++ bs ++ l.drop (o + bs.length)
theorem putL_len {l bs : List UInt8} {o : Nat} (h : o + bs.length ≤ l.length) : (putL l o bs).length = l.length := by
  unfold putL; rw [List.length_append, List.length_append, List.length_take, List.length_drop]; omega
theorem Wr.splice {w w' : World} {g o i : Nat} {bs l : List UInt8} (h : Wr w g (o + i) bs w') (hb : Byt w g o l) (hi : i + bs.length ≤ l.length) : Byt w' g o (putL l i bs) := by
  unfold putL
  intro k x hk
  by_cases h1 : k < i
  · rw [List.append_assoc, List.getElem?_append_left (by rw [List.length_take]; omega), List.getElem?_take_of_lt h1] at hk
    rw [h.out (o + k) (by omega)]; exact hb k x hk
  · by_cases h2 : k < i + bs.length
    · rw [List.append_assoc, List.getElem?_append_right (by rw [List.length_take]; omega), List.length_take, Nat.min_eq_left (by omega), List.getElem?_append_left (by omega)] at hk
      have := h.inn (k - i) x hk
      rw [show o + i + (k - i) = o + k by omega] at this; exact this
    · rw [List.getElem?_append_right (by rw [List.length_append, List.length_take]; omega), List.length_append, List.length_take, Nat.min_eq_left (by omega), List.getElem?_drop] at hk
      rw [h.out (o + k) (by omega)]
      exact hb k x (by rw [← hk]; congr 1; omega)
theorem putL_over {l bs cs : List UInt8} {o : Nat} (hl : bs.length = cs.length) (h : o + bs.length ≤ l.length) : putL (putL l o bs) o cs = putL l o cs := by
  unfold putL
  have e1 : (l.take o ++ bs ++ l.drop (o + bs.length)).take o = l.take o := by
    rw [List.append_assoc, List.take_append_of_le_length (by rw [List.length_take]; omega), List.take_take, Nat.min_self]
  have e2 : (l.take o ++ bs ++ l.drop (o + bs.length)).drop (o + cs.length) = l.drop (o + cs.length) := by
    rw [← hl, List.drop_append_of_le_length (by rw [List.length_append, List.length_take]; omega)]
    rw [List.drop_eq_nil_of_le (by rw [List.length_append, List.length_take]; omega), List.nil_append]
  rw [e1, e2]
/-- What a body's check sum is set to. -/
def sumVal (v : VW) (z : List UInt8) : Nat := if bsP v z = 0 ∧ v.proto = 17 then 65535 else bsP v z
/-- A body with its check sum. -/
def setB (v : VW) (l : List UInt8) : List UInt8 :=
  if (layP v.proto).1 = 0 ∨ (l.length : Int) < (layP v.proto).1 then l
  else putL l (layP v.proto).2.toNat (beB 2 (sumVal v (putL l (layP v.proto).2.toNat [0, 0])))
/-- The check sum was set. -/
def SetBy (w : World) (A : Option Addr) (l : List UInt8) (v : VW) (w' : World) : Prop :=
  (setB v l = l ∧ Below w.heap.size w w') ∨ ∃ g o k bs, A = some ⟨g, o, none⟩ ∧ Wr w g (o + k) bs w' ∧ k + bs.length ≤ l.length ∧ setB v l = putL l k bs
theorem beB2_zero : beB 2 0 = [0, 0] := rfl
theorem bsP_le (v : VW) (l : List UInt8) : bsP v l ≤ 65535 := by unfold bsP; split <;> exact sumP_le _

set_option maxHeartbeats 2000000 in
set_option maxRecDepth 100000 in
theorem setbody_no (A : Option Addr) (m c : Nat) (vv : Bool) (vhd vtt vttl vp vsH vsL vdH vdL : Int) (vfr : Bool) (vid voff : Int) (vmo : Bool) (hm : m ≤ 9223372036854775807) (h : (layP vp).1 = 0 ∨ (m : Int) < (layP vp).1) {w : World} :
    Calls Try.prog 38 #[.slice A m c, .agg #[.bool vv, .int .i64 vhd, .int .i64 vtt, .int .i64 vttl, .int .i64 vp, .int .u64 vsH, .int .u64 vsL, .int .u64 vdH, .int .u64 vdL, .bool vfr, .int .u32 vid, .int .i64 voff, .bool vmo]] w fun e w' => e = .returned (.tuple #[]) ∧ Below w.heap.size w w' := by
  have cl := fun (W : World) => layout_any vp W
  generalize layP vp = q at *
  obtain ⟨z, p⟩ := q
  simp only at *
  by_cases hz : z = 0
  · subst hz
    clear h
    go_enter Try.func38, Try.ntmps38
    go_wp2_with (go_at_call 70; refine (cl _).mono ?_; rintro e w' ⟨rfl, rfl⟩)
    simp [bodyPost, results, Try.results38, go_sem]
    exact Below.al (Below.refl _ _) _
  · have h0 : (z == 0) = false := by simp [hz]
    have h1 : decide ((m : Int) < z) = true := by simp; omega
    have h2 : (m : Int) < z := by omega
    clear h
    go_enter Try.func38, Try.ntmps38
    go_wp2_with (go_at_call 70; refine (cl _).mono ?_; rintro e w' ⟨rfl, rfl⟩)
    simp [bodyPost, results, Try.results38, go_sem]
    exact Below.al (Below.refl _ _) _

set_option maxHeartbeats 2000000 in
set_option maxRecDepth 100000 in
theorem setbody_a (g o m c z p : Nat) (l : List UInt8) (vv : Bool) (vhd vtt vttl vp vsH vsL vdH vdL : Int) (vfr : Bool) (vid voff : Int) (vmo : Bool) (hv : VOk ⟨vv, vhd, vtt, vttl, vp, vsH, vsL, vdH, vdL, vfr, vid, voff, vmo⟩) (hz : layP vp = ((z : Int), (p : Int))) (hz0 : z ≠ 0) (hzm : z ≤ m) (hpz : p + 2 ≤ z) (hn : l.length = m) (hm : m < 65536) (hc : m ≤ c) (hcm : c ≤ 9223372036854775807) (S : Nat) (hS : S = bsP ⟨vv, vhd, vtt, vttl, vp, vsH, vsL, vdH, vdL, vfr, vid, voff, vmo⟩ (putL l p [0, 0])) (hSn : S ≠ 0) {w : World} (hb : Byt w g o l) (hr : Room w g o m) :
    Calls Try.prog 38 #[.slice (some ⟨g, o, none⟩) m c, .agg #[.bool vv, .int .i64 vhd, .int .i64 vtt, .int .i64 vttl, .int .i64 vp, .int .u64 vsH, .int .u64 vsL, .int .u64 vdH, .int .u64 vdL, .bool vfr, .int .u32 vid, .int .i64 voff, .bool vmo]] w fun e w' => e = .returned (.tuple #[]) ∧ Wr w g (o + p) (beB 2 S) w' := by
  have cl := fun (W : World) => layout_any vp W
  rw [hz] at cl
  simp only at cl
  have hgl := hr.lt (by omega)
  have hS5 : S ≤ 65535 := by rw [hS]; exact bsP_le _ _
  have sa := cut_lh g o m c p (p + 2) (by omega) (by omega) (by omega) hcm
  rw [show ((p + 2 : Nat) : Int) = (p : Int) + 2 by omega, show p + 2 - p = 2 by omega] at sa
  have wa : IntKind.i64.wrap ((p : Int) + 2) = (p : Int) + 2 := by rw [IntKind.wrap_i64]; omega
  have z0 : ((z : Int) == 0) = false := by simp; omega
  have z1 : decide ((m : Int) < (z : Int)) = false := by simp; omega
  have z2 : ¬ (m : Int) < (z : Int) := by omega
  have z3 : decide (m < z) = false := by simp; omega
  have pi : (p : Int) < 65536 := by omega
  have hS0 : ((S : Int) == 0) = false := by simp; omega
  have wS : IntKind.u64.wrap (S : Int) = (S : Int) := by rw [IntKind.wrap_u64]; omega
  have wM : IntKind.u64.wrap 65535 = 65535 := by decide
  have hlen : (putL l p [0, 0]).length = m := by rw [putL_len (by simp; omega), hn]
  have HZ := Lib.hid (show l.length = m ∧ p + 2 ≤ m from ⟨hn, by omega⟩)
  have HB := Lib.hid hb
  have HR := Lib.hid hr
  have HV := Lib.hid hv
  have HS := Lib.hid hS
  have HL := Lib.hid hlen
  clear hb hr hv hz hn hS hlen hz0 hzm hpz
  go_enter Try.func38, Try.ntmps38
  go_wp2_with (with_reducible refine stop_op (o := ⟨some 10, _, _, _, _, _⟩) ?_)
  obtain ⟨w1, hw1⟩ : ∃ x, x = w.alloc (.cells #[.bool vv, .int .i64 vhd, .int .i64 vtt, .int .i64 vttl, .int .i64 vp, .int .u64 vsH, .int .u64 vsL, .int .u64 vdH, .int .u64 vdL, .bool vfr, .int .u32 vid, .int .i64 voff, .bool vmo] 40) := ⟨_, rfl⟩
  have hV1 : w1.heap[w.heap.size]? = some (.cells #[.bool vv, .int .i64 vhd, .int .i64 vtt, .int .i64 vttl, .int .i64 vp, .int .u64 vsH, .int .u64 vsL, .int .u64 vdH, .int .u64 vdL, .bool vfr, .int .u32 vid, .int .i64 voff, .bool vmo] 40 (0, 0)) := by rw [hw1]; exact al_neww rfl _
  have b1 : Below w.heap.size w w1 := by rw [hw1]; exact Below.al (Below.refl _ _) _
  rw [← hw1]
  clear hw1
  have W1 := Wr.nil b1 hgl (o + p)
  have r1 : Room w1 g (o + p) 2 := (HR.out.wr W1).sub (by have := HZ.out; omega)
  have hcl := clr_run g (o + p) (c - p) r1
  have hW := clr_wr r1
  obtain ⟨w2, hw2⟩ : ∃ x, x = w1.setCells g (o + p) [.int .u8 0, .int .u8 0] := ⟨_, rfl⟩
  rw [← hw2] at hcl hW
  clear hw2
  have hV2 : w2.heap[w.heap.size]? = some (.cells #[.bool vv, .int .i64 vhd, .int .i64 vtt, .int .i64 vttl, .int .i64 vp, .int .u64 vsH, .int .u64 vsL, .int .u64 vdH, .int .u64 vdL, .bool vfr, .int .u32 vid, .int .i64 voff, .bool vmo] 40 (0, 0)) := by rw [hW.block _ (by omega) (Array.getElem?_eq_some_iff.1 hV1).1]; exact hV1
  have hb2 : Byt w2 g o (putL l p [0, 0]) := hW.splice (HB.out.below b1) (by have := HZ.out; simp; omega)
  have cb := bsum_any g o c m (putL l p [0, 0]) _ HV.out HL.out (by have := HZ.out; omega) hm hc hcm hb2
  rw [← HS.out] at cb
  simp only [vcells] at cb
  have W2 := Lib.hid (W1.app (bs := []) (by simpa using hW))
  have HW := Lib.hid hW
  obtain ⟨⟨v0, v1, v2, v3, v4, v5, v6, v7, v8, v9, v10, v11, v12⟩, _⟩ := cells13 hV1
  obtain ⟨⟨u0, u1, u2, u3, u4, u5, u6, u7, u8, u9, u10, u11, u12⟩, _⟩ := cells13 hV2
  clear hW W1 hb2 b1 r1 hV1
  refine Lib.hid ?_
  go_wp2_with (first | (go_at_call 70; refine (cl _).mono ?_; rintro e w' ⟨rfl, hw'⟩; subst hw') | (go_at_call 71; refine cb.mono ?_; rintro e w3 ⟨rfl, hb3⟩; refine Hid.out ?_))
  have W3 := Lib.hid (W2.out.below hgl hb3)
  have hV3 := blkKeep2 hb3 hV2
  obtain ⟨⟨x0, x1, x2, x3, x4, x5, x6, x7, x8, x9, x10, x11, x12⟩, _⟩ := cells13 hV3
  have cp := put_any g (o + p) (c - p) 2 S (by omega) (by have := HZ.out; omega) (by omega) (by omega) ((HR.out.wr W3.out).sub (by have := HZ.out; omega))
  clear hb3 hV2 hV3 cb cl hcl W2 HW v0 u0 v1 u1 v2 u2 v3 u3 v4 u4 v5 u5 v6 u6 v7 u7 v8 u8 v9 u9 v10 u10 v11 u11 v12 u12
  refine Lib.hid ?_
  go_wp2_with (go_at_call 60; refine cp.mono ?_; rintro e w4 ⟨rfl, hW4⟩; have H4 := Lib.hid hW4; clear hW4)
  simp [bodyPost, results, Try.results38, go_sem]
  exact W3.out.over H4.out.wr (by simp [beB_len])

set_option maxHeartbeats 2000000 in
set_option maxRecDepth 100000 in
theorem setbody_b (g o m c z p : Nat) (l : List UInt8) (vv : Bool) (vhd vtt vttl vp vsH vsL vdH vdL : Int) (vfr : Bool) (vid voff : Int) (vmo : Bool) (hv : VOk ⟨vv, vhd, vtt, vttl, vp, vsH, vsL, vdH, vdL, vfr, vid, voff, vmo⟩) (hz : layP vp = ((z : Int), (p : Int))) (hz0 : z ≠ 0) (hzm : z ≤ m) (hpz : p + 2 ≤ z) (hn : l.length = m) (hm : m < 65536) (hc : m ≤ c) (hcm : c ≤ 9223372036854775807) (S : Nat) (hS : S = bsP ⟨vv, vhd, vtt, vttl, vp, vsH, vsL, vdH, vdL, vfr, vid, voff, vmo⟩ (putL l p [0, 0])) (hSn : S = 0 ∧ vp ≠ 17) {w : World} (hb : Byt w g o l) (hr : Room w g o m) :
    Calls Try.prog 38 #[.slice (some ⟨g, o, none⟩) m c, .agg #[.bool vv, .int .i64 vhd, .int .i64 vtt, .int .i64 vttl, .int .i64 vp, .int .u64 vsH, .int .u64 vsL, .int .u64 vdH, .int .u64 vdL, .bool vfr, .int .u32 vid, .int .i64 voff, .bool vmo]] w fun e w' => e = .returned (.tuple #[]) ∧ Wr w g (o + p) (beB 2 S) w' := by
  have cl := fun (W : World) => layout_any vp W
  rw [hz] at cl
  simp only at cl
  have hgl := hr.lt (by omega)
  have hS5 : S ≤ 65535 := by rw [hS]; exact bsP_le _ _
  have sa := cut_lh g o m c p (p + 2) (by omega) (by omega) (by omega) hcm
  rw [show ((p + 2 : Nat) : Int) = (p : Int) + 2 by omega, show p + 2 - p = 2 by omega] at sa
  have wa : IntKind.i64.wrap ((p : Int) + 2) = (p : Int) + 2 := by rw [IntKind.wrap_i64]; omega
  have z0 : ((z : Int) == 0) = false := by simp; omega
  have z1 : decide ((m : Int) < (z : Int)) = false := by simp; omega
  have z2 : ¬ (m : Int) < (z : Int) := by omega
  have z3 : decide (m < z) = false := by simp; omega
  have pi : (p : Int) < 65536 := by omega
  have hS0 : ((S : Int) == 0) = true := by simp; omega
  have h17 : (vp == 17) = false := by simp [hSn.2]
  clear hSn
  have wS : IntKind.u64.wrap (S : Int) = (S : Int) := by rw [IntKind.wrap_u64]; omega
  have wM : IntKind.u64.wrap 65535 = 65535 := by decide
  have hlen : (putL l p [0, 0]).length = m := by rw [putL_len (by simp; omega), hn]
  have HZ := Lib.hid (show l.length = m ∧ p + 2 ≤ m from ⟨hn, by omega⟩)
  have HB := Lib.hid hb
  have HR := Lib.hid hr
  have HV := Lib.hid hv
  have HS := Lib.hid hS
  have HL := Lib.hid hlen
  clear hb hr hv hz hn hS hlen hz0 hzm hpz
  go_enter Try.func38, Try.ntmps38
  go_wp2_with (with_reducible refine stop_op (o := ⟨some 10, _, _, _, _, _⟩) ?_)
  obtain ⟨w1, hw1⟩ : ∃ x, x = w.alloc (.cells #[.bool vv, .int .i64 vhd, .int .i64 vtt, .int .i64 vttl, .int .i64 vp, .int .u64 vsH, .int .u64 vsL, .int .u64 vdH, .int .u64 vdL, .bool vfr, .int .u32 vid, .int .i64 voff, .bool vmo] 40) := ⟨_, rfl⟩
  have hV1 : w1.heap[w.heap.size]? = some (.cells #[.bool vv, .int .i64 vhd, .int .i64 vtt, .int .i64 vttl, .int .i64 vp, .int .u64 vsH, .int .u64 vsL, .int .u64 vdH, .int .u64 vdL, .bool vfr, .int .u32 vid, .int .i64 voff, .bool vmo] 40 (0, 0)) := by rw [hw1]; exact al_neww rfl _
  have b1 : Below w.heap.size w w1 := by rw [hw1]; exact Below.al (Below.refl _ _) _
  rw [← hw1]
  clear hw1
  have W1 := Wr.nil b1 hgl (o + p)
  have r1 : Room w1 g (o + p) 2 := (HR.out.wr W1).sub (by have := HZ.out; omega)
  have hcl := clr_run g (o + p) (c - p) r1
  have hW := clr_wr r1
  obtain ⟨w2, hw2⟩ : ∃ x, x = w1.setCells g (o + p) [.int .u8 0, .int .u8 0] := ⟨_, rfl⟩
  rw [← hw2] at hcl hW
  clear hw2
  have hV2 : w2.heap[w.heap.size]? = some (.cells #[.bool vv, .int .i64 vhd, .int .i64 vtt, .int .i64 vttl, .int .i64 vp, .int .u64 vsH, .int .u64 vsL, .int .u64 vdH, .int .u64 vdL, .bool vfr, .int .u32 vid, .int .i64 voff, .bool vmo] 40 (0, 0)) := by rw [hW.block _ (by omega) (Array.getElem?_eq_some_iff.1 hV1).1]; exact hV1
  have hb2 : Byt w2 g o (putL l p [0, 0]) := hW.splice (HB.out.below b1) (by have := HZ.out; simp; omega)
  have cb := bsum_any g o c m (putL l p [0, 0]) _ HV.out HL.out (by have := HZ.out; omega) hm hc hcm hb2
  rw [← HS.out] at cb
  simp only [vcells] at cb
  have W2 := Lib.hid (W1.app (bs := []) (by simpa using hW))
  have HW := Lib.hid hW
  obtain ⟨⟨v0, v1, v2, v3, v4, v5, v6, v7, v8, v9, v10, v11, v12⟩, _⟩ := cells13 hV1
  obtain ⟨⟨u0, u1, u2, u3, u4, u5, u6, u7, u8, u9, u10, u11, u12⟩, _⟩ := cells13 hV2
  clear hW W1 hb2 b1 r1 hV1
  refine Lib.hid ?_
  go_wp2_with (first | (go_at_call 70; refine (cl _).mono ?_; rintro e w' ⟨rfl, hw'⟩; subst hw') | (go_at_call 71; refine cb.mono ?_; rintro e w3 ⟨rfl, hb3⟩; refine Hid.out ?_))
  have W3 := Lib.hid (W2.out.below hgl hb3)
  have hV3 := blkKeep2 hb3 hV2
  obtain ⟨⟨x0, x1, x2, x3, x4, x5, x6, x7, x8, x9, x10, x11, x12⟩, _⟩ := cells13 hV3
  have cp := put_any g (o + p) (c - p) 2 S (by omega) (by have := HZ.out; omega) (by omega) (by omega) ((HR.out.wr W3.out).sub (by have := HZ.out; omega))
  clear hb3 hV2 hV3 cb cl hcl W2 HW v0 u0 v1 u1 v2 u2 v3 u3 v4 u4 v5 u5 v6 u6 v7 u7 v8 u8 v9 u9 v10 u10 v11 u11 v12 u12
  refine Lib.hid ?_
  go_wp2_with (go_at_call 60; refine cp.mono ?_; rintro e w4 ⟨rfl, hW4⟩; have H4 := Lib.hid hW4; clear hW4)
  simp [bodyPost, results, Try.results38, go_sem]
  exact W3.out.over H4.out.wr (by simp [beB_len])

set_option maxHeartbeats 2000000 in
set_option maxRecDepth 100000 in
theorem setbody_c (g o m c z p : Nat) (l : List UInt8) (vv : Bool) (vhd vtt vttl vsH vsL vdH vdL : Int) (vfr : Bool) (vid voff : Int) (vmo : Bool) (hv : VOk ⟨vv, vhd, vtt, vttl, 17, vsH, vsL, vdH, vdL, vfr, vid, voff, vmo⟩) (hz : layP 17 = ((z : Int), (p : Int))) (hz0 : z ≠ 0) (hzm : z ≤ m) (hpz : p + 2 ≤ z) (hn : l.length = m) (hm : m < 65536) (hc : m ≤ c) (hcm : c ≤ 9223372036854775807) (S : Nat) (hS : S = bsP ⟨vv, vhd, vtt, vttl, 17, vsH, vsL, vdH, vdL, vfr, vid, voff, vmo⟩ (putL l p [0, 0])) (hSn : S = 0) {w : World} (hb : Byt w g o l) (hr : Room w g o m) :
    Calls Try.prog 38 #[.slice (some ⟨g, o, none⟩) m c, .agg #[.bool vv, .int .i64 vhd, .int .i64 vtt, .int .i64 vttl, .int .i64 17, .int .u64 vsH, .int .u64 vsL, .int .u64 vdH, .int .u64 vdL, .bool vfr, .int .u32 vid, .int .i64 voff, .bool vmo]] w fun e w' => e = .returned (.tuple #[]) ∧ Wr w g (o + p) (beB 2 65535) w' := by
  have cl := fun (W : World) => layout_any 17 W
  rw [hz] at cl
  simp only at cl
  have hgl := hr.lt (by omega)
  have hS5 : S ≤ 65535 := by rw [hS]; exact bsP_le _ _
  have sa := cut_lh g o m c p (p + 2) (by omega) (by omega) (by omega) hcm
  rw [show ((p + 2 : Nat) : Int) = (p : Int) + 2 by omega, show p + 2 - p = 2 by omega] at sa
  have wa : IntKind.i64.wrap ((p : Int) + 2) = (p : Int) + 2 := by rw [IntKind.wrap_i64]; omega
  have z0 : ((z : Int) == 0) = false := by simp; omega
  have z1 : decide ((m : Int) < (z : Int)) = false := by simp; omega
  have z2 : ¬ (m : Int) < (z : Int) := by omega
  have z3 : decide (m < z) = false := by simp; omega
  have pi : (p : Int) < 65536 := by omega
  have hS0 : ((S : Int) == 0) = true := by simp; omega
  clear hSn
  have wS : IntKind.u64.wrap (S : Int) = (S : Int) := by rw [IntKind.wrap_u64]; omega
  have wM : IntKind.u64.wrap 65535 = 65535 := by decide
  have hlen : (putL l p [0, 0]).length = m := by rw [putL_len (by simp; omega), hn]
  have HZ := Lib.hid (show l.length = m ∧ p + 2 ≤ m from ⟨hn, by omega⟩)
  have HB := Lib.hid hb
  have HR := Lib.hid hr
  have HV := Lib.hid hv
  have HS := Lib.hid hS
  have HL := Lib.hid hlen
  clear hb hr hv hz hn hS hlen hz0 hzm hpz
  go_enter Try.func38, Try.ntmps38
  go_wp2_with (with_reducible refine stop_op (o := ⟨some 10, _, _, _, _, _⟩) ?_)
  obtain ⟨w1, hw1⟩ : ∃ x, x = w.alloc (.cells #[.bool vv, .int .i64 vhd, .int .i64 vtt, .int .i64 vttl, .int .i64 17, .int .u64 vsH, .int .u64 vsL, .int .u64 vdH, .int .u64 vdL, .bool vfr, .int .u32 vid, .int .i64 voff, .bool vmo] 40) := ⟨_, rfl⟩
  have hV1 : w1.heap[w.heap.size]? = some (.cells #[.bool vv, .int .i64 vhd, .int .i64 vtt, .int .i64 vttl, .int .i64 17, .int .u64 vsH, .int .u64 vsL, .int .u64 vdH, .int .u64 vdL, .bool vfr, .int .u32 vid, .int .i64 voff, .bool vmo] 40 (0, 0)) := by rw [hw1]; exact al_neww rfl _
  have b1 : Below w.heap.size w w1 := by rw [hw1]; exact Below.al (Below.refl _ _) _
  rw [← hw1]
  clear hw1
  have W1 := Wr.nil b1 hgl (o + p)
  have r1 : Room w1 g (o + p) 2 := (HR.out.wr W1).sub (by have := HZ.out; omega)
  have hcl := clr_run g (o + p) (c - p) r1
  have hW := clr_wr r1
  obtain ⟨w2, hw2⟩ : ∃ x, x = w1.setCells g (o + p) [.int .u8 0, .int .u8 0] := ⟨_, rfl⟩
  rw [← hw2] at hcl hW
  clear hw2
  have hV2 : w2.heap[w.heap.size]? = some (.cells #[.bool vv, .int .i64 vhd, .int .i64 vtt, .int .i64 vttl, .int .i64 17, .int .u64 vsH, .int .u64 vsL, .int .u64 vdH, .int .u64 vdL, .bool vfr, .int .u32 vid, .int .i64 voff, .bool vmo] 40 (0, 0)) := by rw [hW.block _ (by omega) (Array.getElem?_eq_some_iff.1 hV1).1]; exact hV1
  have hb2 : Byt w2 g o (putL l p [0, 0]) := hW.splice (HB.out.below b1) (by have := HZ.out; simp; omega)
  have cb := bsum_any g o c m (putL l p [0, 0]) _ HV.out HL.out (by have := HZ.out; omega) hm hc hcm hb2
  rw [← HS.out] at cb
  simp only [vcells] at cb
  have W2 := Lib.hid (W1.app (bs := []) (by simpa using hW))
  have HW := Lib.hid hW
  obtain ⟨⟨v0, v1, v2, v3, v4, v5, v6, v7, v8, v9, v10, v11, v12⟩, _⟩ := cells13 hV1
  obtain ⟨⟨u0, u1, u2, u3, u4, u5, u6, u7, u8, u9, u10, u11, u12⟩, _⟩ := cells13 hV2
  clear hW W1 hb2 b1 r1 hV1
  refine Lib.hid ?_
  go_wp2_with (first | (go_at_call 70; refine (cl _).mono ?_; rintro e w' ⟨rfl, hw'⟩; subst hw') | (go_at_call 71; refine cb.mono ?_; rintro e w3 ⟨rfl, hb3⟩; refine Hid.out ?_))
  have W3 := Lib.hid (W2.out.below hgl hb3)
  have hV3 := blkKeep2 hb3 hV2
  obtain ⟨⟨x0, x1, x2, x3, x4, x5, x6, x7, x8, x9, x10, x11, x12⟩, _⟩ := cells13 hV3
  have cp := put_any g (o + p) (c - p) 2 65535 (by omega) (by have := HZ.out; omega) (by omega) (by omega) ((HR.out.wr W3.out).sub (by have := HZ.out; omega))
  clear hb3 hV2 hV3 cb cl hcl W2 HW v0 u0 v1 u1 v2 u2 v3 u3 v4 u4 v5 u5 v6 u6 v7 u7 v8 u8 v9 u9 v10 u10 v11 u11 v12 u12
  refine Lib.hid ?_
  go_wp2_with (go_at_call 60; refine cp.mono ?_; rintro e w4 ⟨rfl, hW4⟩; have H4 := Lib.hid hW4; clear hW4)
  simp [bodyPost, results, Try.results38, go_sem]
  exact W3.out.over H4.out.wr (by simp [beB_len])

theorem layP_ok {p : Int} (h : (layP p).1 ≠ 0) : ∃ z q : Nat, layP p = ((z : Int), (q : Int)) ∧ z ≠ 0 ∧ q + 2 ≤ z ∧ (p = 6 ∧ z = 20 ∧ q = 16 ∨ p = 17 ∧ z = 8 ∧ q = 6 ∨ (p = 1 ∨ p = 58) ∧ z = 8 ∧ q = 2) := by
  unfold layP at h ⊢
  by_cases h6 : p = 6
  · subst h6; exact ⟨20, 16, rfl, by decide, by decide, Or.inl ⟨rfl, rfl, rfl⟩⟩
  by_cases h17 : p = 17
  · subst h17; exact ⟨8, 6, rfl, by decide, by decide, Or.inr (Or.inl ⟨rfl, rfl, rfl⟩)⟩
  by_cases h1 : p = 1
  · subst h1; exact ⟨8, 2, rfl, by decide, by decide, Or.inr (Or.inr ⟨Or.inl rfl, rfl, rfl⟩)⟩
  by_cases h58 : p = 58
  · subst h58; exact ⟨8, 2, rfl, by decide, by decide, Or.inr (Or.inr ⟨Or.inr rfl, rfl, rfl⟩)⟩
  simp [h6, h17, h1, h58] at h

theorem sumVal_ne {v : VW} {z : List UInt8} (h : bsP v z ≠ 0) : sumVal v z = bsP v z := by unfold sumVal; rw [if_neg (fun e => h e.1)]
theorem sumVal_np {v : VW} {z : List UInt8} (h : v.proto ≠ 17) : sumVal v z = bsP v z := by unfold sumVal; rw [if_neg (fun e => h e.2)]
theorem sumVal_u {v : VW} {z : List UInt8} (h : bsP v z = 0) (hp : v.proto = 17) : sumVal v z = 65535 := by unfold sumVal; rw [if_pos ⟨h, hp⟩]
theorem setbody_any (A : Option Addr) (m c : Nat) (l : List UInt8) (v : VW) (hv : VOk v) {w : World} (h : BytArg w A m c l) (hr : ∀ g o, A = some ⟨g, o, none⟩ → 0 < m → Room w g o m) (hm : m < 65536) :
    Calls Try.prog 38 #[.slice A m c, .agg (vcells v)] w fun e w' => e = .returned (.tuple #[]) ∧ SetBy w A l v w' := by
  have hn := h.1
  have hcm := h.2.2.1
  unfold maxLen at hcm
  by_cases h0 : (layP v.proto).1 = 0 ∨ (l.length : Int) < (layP v.proto).1
  · have e : setB v l = l := by unfold setB; rw [if_pos h0]
    obtain ⟨vv, vhd, vtt, vttl, vp, vsH, vsL, vdH, vdL, vfr, vid, voff, vmo⟩ := v
    simp only [vcells]
    exact (setbody_no A m c vv vhd vtt vttl vp vsH vsL vdH vdL vfr vid voff vmo (by have := h.2.1; omega) (by rw [← hn]; exact h0)).mono fun e' w' ⟨h1, h2⟩ => ⟨h1, Or.inl ⟨e, h2⟩⟩
  · have h1 : (layP v.proto).1 ≠ 0 := fun e => h0 (Or.inl e)
    have h2 : ¬ (l.length : Int) < (layP v.proto).1 := fun e => h0 (Or.inr e)
    obtain ⟨z, q, hz, hz0, hq, _⟩ := layP_ok h1
    rw [hz] at h2
    simp only at h2
    obtain ⟨g, o, rfl, hb⟩ := h.2.2.2 (by omega)
    have e : setB v l = putL l q (beB 2 (sumVal v (putL l q [0, 0]))) := by
      unfold setB; rw [if_neg h0, hz]; rfl
    have key : Calls Try.prog 38 #[.slice (some ⟨g, o, none⟩) m c, .agg (vcells v)] w fun e w' => e = .returned (.tuple #[]) ∧ Wr w g (o + q) (beB 2 (sumVal v (putL l q [0, 0]))) w' := by
      obtain ⟨vv, vhd, vtt, vttl, vp, vsH, vsL, vdH, vdL, vfr, vid, voff, vmo⟩ := v
      simp only [vcells]
      by_cases hS : bsP ⟨vv, vhd, vtt, vttl, vp, vsH, vsL, vdH, vdL, vfr, vid, voff, vmo⟩ (putL l q [0, 0]) = 0
      · by_cases hp : vp = 17
        · subst hp
          rw [sumVal_u hS rfl]
          exact setbody_c g o m c z q l vv vhd vtt vttl vsH vsL vdH vdL vfr vid voff vmo hv hz hz0 (by omega) hq hn hm h.2.1 hcm _ rfl hS hb (hr g o rfl (by omega))
        · rw [sumVal_np hp]
          exact setbody_b g o m c z q l vv vhd vtt vttl vp vsH vsL vdH vdL vfr vid voff vmo hv hz hz0 (by omega) hq hn hm h.2.1 hcm _ rfl ⟨hS, hp⟩ hb (hr g o rfl (by omega))
      · rw [sumVal_ne hS]
        exact setbody_a g o m c z q l vv vhd vtt vttl vp vsH vsL vdH vdL vfr vid voff vmo hv hz hz0 (by omega) hq hn hm h.2.1 hcm _ rfl hS hb (hr g o rfl (by omega))
    exact key.mono fun e' w' ⟨h1, h2⟩ => ⟨h1, Or.inr ⟨g, o, q, _, rfl, h2, by rw [beB_len]; omega, e⟩⟩
end Go.Proofs.Ytpmbdjdhgcjkfaa

namespace Go.Proofs.Ytpmbdjdhgcjkfaa
open Go.RowKit Go.Sort
set_option linter.unusedVariables false
set_option linter.unusedSimpArgs false


set_option maxHeartbeats 2000000 in
set_option maxRecDepth 100000 in
theorem sat_6  (m : Nat) (h : 20 ≤ m) (w : World) : Calls Try.prog 72 #[.int .i64 6, .int .i64 (m : Nat)] w fun e w' => e = .returned (.int .i64 16) ∧ w = w' := by
  have h1 : decide ((20 : Int) ≤ (m : Int)) = true := by simp; omega
  have h2 : (20 : Int) ≤ (m : Int) := by omega
  have h3 : decide (20 ≤ m) = true := by simp; omega
  go_enter Try.func72, Try.ntmps72
  go_wp2
  go_ret
  exact ⟨rfl, rfl⟩

set_option maxHeartbeats 2000000 in
set_option maxRecDepth 100000 in
theorem sat_6x  (m : Nat) (h : m < 20) (w : World) : Calls Try.prog 72 #[.int .i64 6, .int .i64 (m : Nat)] w fun e w' => e = .returned (.int .i64 (-1)) ∧ w = w' := by
  have h1 : decide ((20 : Int) ≤ (m : Int)) = false := by simp; omega
  have h2 : ¬ (20 : Int) ≤ (m : Int) := by omega
  have h3 : decide (20 ≤ m) = false := by simp; omega
  go_enter Try.func72, Try.ntmps72
  go_wp2
  go_ret
  exact ⟨rfl, rfl⟩

set_option maxHeartbeats 2000000 in
set_option maxRecDepth 100000 in
theorem sat_17  (m : Nat) (h : 8 ≤ m) (w : World) : Calls Try.prog 72 #[.int .i64 17, .int .i64 (m : Nat)] w fun e w' => e = .returned (.int .i64 6) ∧ w = w' := by
  have h1 : decide ((8 : Int) ≤ (m : Int)) = true := by simp; omega
  have h2 : (8 : Int) ≤ (m : Int) := by omega
  have h3 : decide (8 ≤ m) = true := by simp; omega
  go_enter Try.func72, Try.ntmps72
  go_wp2
  go_ret
  exact ⟨rfl, rfl⟩

set_option maxHeartbeats 2000000 in
set_option maxRecDepth 100000 in
theorem sat_17x  (m : Nat) (h : m < 8) (w : World) : Calls Try.prog 72 #[.int .i64 17, .int .i64 (m : Nat)] w fun e w' => e = .returned (.int .i64 (-1)) ∧ w = w' := by
  have h1 : decide ((8 : Int) ≤ (m : Int)) = false := by simp; omega
  have h2 : ¬ (8 : Int) ≤ (m : Int) := by omega
  have h3 : decide (8 ≤ m) = false := by simp; omega
  go_enter Try.func72, Try.ntmps72
  go_wp2
  go_ret
  exact ⟨rfl, rfl⟩

set_option maxHeartbeats 2000000 in
set_option maxRecDepth 100000 in
theorem sat_1  (m : Nat) (h : 8 ≤ m) (w : World) : Calls Try.prog 72 #[.int .i64 1, .int .i64 (m : Nat)] w fun e w' => e = .returned (.int .i64 2) ∧ w = w' := by
  have h1 : decide ((8 : Int) ≤ (m : Int)) = true := by simp; omega
  have h2 : (8 : Int) ≤ (m : Int) := by omega
  have h3 : decide (8 ≤ m) = true := by simp; omega
  go_enter Try.func72, Try.ntmps72
  go_wp2
  go_ret
  exact ⟨rfl, rfl⟩

set_option maxHeartbeats 2000000 in
set_option maxRecDepth 100000 in
theorem sat_1x  (m : Nat) (h : m < 8) (w : World) : Calls Try.prog 72 #[.int .i64 1, .int .i64 (m : Nat)] w fun e w' => e = .returned (.int .i64 (-1)) ∧ w = w' := by
  have h1 : decide ((8 : Int) ≤ (m : Int)) = false := by simp; omega
  have h2 : ¬ (8 : Int) ≤ (m : Int) := by omega
  have h3 : decide (8 ≤ m) = false := by simp; omega
  go_enter Try.func72, Try.ntmps72
  go_wp2
  go_ret
  exact ⟨rfl, rfl⟩

set_option maxHeartbeats 2000000 in
set_option maxRecDepth 100000 in
theorem sat_58  (m : Nat) (h : 8 ≤ m) (w : World) : Calls Try.prog 72 #[.int .i64 58, .int .i64 (m : Nat)] w fun e w' => e = .returned (.int .i64 2) ∧ w = w' := by
  have h1 : decide ((8 : Int) ≤ (m : Int)) = true := by simp; omega
  have h2 : (8 : Int) ≤ (m : Int) := by omega
  have h3 : decide (8 ≤ m) = true := by simp; omega
  go_enter Try.func72, Try.ntmps72
  go_wp2
  go_ret
  exact ⟨rfl, rfl⟩

set_option maxHeartbeats 2000000 in
set_option maxRecDepth 100000 in
theorem sat_58x  (m : Nat) (h : m < 8) (w : World) : Calls Try.prog 72 #[.int .i64 58, .int .i64 (m : Nat)] w fun e w' => e = .returned (.int .i64 (-1)) ∧ w = w' := by
  have h1 : decide ((8 : Int) ≤ (m : Int)) = false := by simp; omega
  have h2 : ¬ (8 : Int) ≤ (m : Int) := by omega
  have h3 : decide (8 ≤ m) = false := by simp; omega
  go_enter Try.func72, Try.ntmps72
  go_wp2
  go_ret
  exact ⟨rfl, rfl⟩

set_option maxHeartbeats 2000000 in
set_option maxRecDepth 100000 in
theorem sat_o (p : Int) (m : Nat) (h6 : p ≠ 6) (h17 : p ≠ 17) (h1 : p ≠ 1) (h58 : p ≠ 58) (w : World) : Calls Try.prog 72 #[.int .i64 p, .int .i64 (m : Nat)] w fun e w' => e = .returned (.int .i64 (-1)) ∧ w = w' := by
  have b6 : (p == 6) = false := by simp [h6]
  have b17 : (p == 17) = false := by simp [h17]
  have b1 : (p == 1) = false := by simp [h1]
  have b58 : (p == 58) = false := by simp [h58]
  go_enter Try.func72, Try.ntmps72
  go_wp2
  go_ret
  exact ⟨rfl, rfl⟩

theorem sat_any (p : Int) (m : Nat) (w : World) : Calls Try.prog 72 #[.int .i64 p, .int .i64 (m : Nat)] w fun e w' => e = .returned (.int .i64 (if (layP p).1 = 0 ∨ (m : Int) < (layP p).1 then -1 else (layP p).2)) ∧ w = w' := by
  by_cases h : (layP p).1 = 0
  · rw [if_pos (Or.inl h)]
    unfold layP at h
    by_cases h6 : p = 6
    · simp [h6] at h
    by_cases h17 : p = 17
    · simp [h17] at h
    by_cases h1 : p = 1
    · simp [h1] at h
    by_cases h58 : p = 58
    · simp [h58] at h
    exact sat_o p m h6 h17 h1 h58 w
  · obtain ⟨z, q, hz, hz0, hq, hc⟩ := layP_ok h
    rw [hz]
    simp only
    by_cases hm : m < z
    · rw [if_pos (Or.inr (by omega))]
      rcases hc with ⟨rfl, rfl, rfl⟩ | ⟨rfl, rfl, rfl⟩ | ⟨rfl | rfl, rfl, rfl⟩
      · exact sat_6x m hm w
      · exact sat_17x m hm w
      · exact sat_1x m hm w
      · exact sat_58x m hm w
    · rw [if_neg (by omega)]
      rcases hc with ⟨rfl, rfl, rfl⟩ | ⟨rfl, rfl, rfl⟩ | ⟨rfl | rfl, rfl, rfl⟩
      · exact sat_6 m (by omega) w
      · exact sat_17 m (by omega) w
      · exact sat_1 m (by omega) w
      · exact sat_58 m (by omega) w

set_option maxHeartbeats 2000000 in
set_option maxRecDepth 100000 in
theorem rset_no (A : Option Addr) (m c : Nat) (vp vsH vsL vdH vdL : Int) (hm : m ≤ 9223372036854775807) (h : (layP vp).1 = 0 ∨ (m : Int) < (layP vp).1) {w : World} :
    Calls Try.prog 46 #[.agg #[.int .u64 vsH, .int .u64 vsL], .agg #[.int .u64 vdH, .int .u64 vdL], .int .i64 vp, .slice A m c] w fun e w' => e = .returned (.tuple #[]) ∧ Below w.heap.size w w' := by
  have cl := fun (W : World) => sat_any vp m W
  rw [if_pos h] at cl
  clear h
  go_enter Try.func46, Try.ntmps46
  go_wp2_with (go_at_call 72; refine (cl _).mono ?_; rintro e w' ⟨rfl, rfl⟩)
  simp [bodyPost, results, Try.results46, go_sem]
  exact Below.al (Below.al (Below.refl _ _) _) _

set_option maxHeartbeats 2000000 in
set_option maxRecDepth 100000 in
theorem rset_a (g o m c z p : Nat) (l : List UInt8) (vp vsH vsL vdH vdL : Int) (hv : VOk { zvw with proto := vp, srcH := vsH, srcL := vsL, dstH := vdH, dstL := vdL }) (hz : layP vp = ((z : Int), (p : Int))) (hz0 : z ≠ 0) (hzm : z ≤ m) (hpz : p + 2 ≤ z) (hn : l.length = m) (hm : m < 65536) (hc : m ≤ c) (hcm : c ≤ 9223372036854775807) (S : Nat) (hS : S = bsP { zvw with proto := vp, srcH := vsH, srcL := vsL, dstH := vdH, dstL := vdL } (putL l p [0, 0])) (hSn : S ≠ 0) {w : World} (hb : Byt w g o l) (hr : Room w g o m) :
    Calls Try.prog 46 #[.agg #[.int .u64 vsH, .int .u64 vsL], .agg #[.int .u64 vdH, .int .u64 vdL], .int .i64 vp, .slice (some ⟨g, o, none⟩) m c] w fun e w' => e = .returned (.tuple #[]) ∧ Wr w g (o + p) (beB 2 S) w' := by
  have cl := fun (W : World) => sat_any vp m W
  rw [hz] at cl
  simp only at cl
  rw [if_neg (by omega)] at cl
  have hgl := hr.lt (by omega)
  have hS5 : S ≤ 65535 := by rw [hS]; exact bsP_le _ _
  have sa := cut_lh g o m c p (p + 2) (by omega) (by omega) (by omega) hcm
  rw [show ((p + 2 : Nat) : Int) = (p : Int) + 2 by omega, show p + 2 - p = 2 by omega] at sa
  have wa : IntKind.i64.wrap ((p : Int) + 2) = (p : Int) + 2 := by rw [IntKind.wrap_i64]; omega
  have pn : decide ((p : Int) < 0) = false := by simp
  have pn2 : ¬ (p : Int) < 0 := by omega
  have pi : (p : Int) < 65536 := by omega
  have hS0 : ((S : Int) == 0) = false := by simp; omega
  have hlen : (putL l p [0, 0]).length = m := by rw [putL_len (by simp; omega), hn]
  have HZ := Lib.hid (show l.length = m ∧ p + 2 ≤ m ∧ 0 < m from ⟨hn, by omega, by omega⟩)
  have HB := Lib.hid hb
  have HR := Lib.hid hr
  have HV := Lib.hid hv
  have HS := Lib.hid hS
  have HL := Lib.hid hlen
  clear hb hr hv hz hn hS hlen hz0 hzm hpz
  go_enter Try.func46, Try.ntmps46
  go_wp2_with (with_reducible refine stop_op (o := ⟨some 12, _, _, _, _, _⟩) ?_)
  obtain ⟨w1, hw1⟩ : ∃ x, x = (w.alloc (.cells #[.int .u64 vsH, .int .u64 vsL] 25)).alloc (.cells #[.int .u64 vdH, .int .u64 vdL] 25) := ⟨_, rfl⟩
  have hX1 : w1.heap[w.heap.size]? = some (.cells #[.int .u64 vsH, .int .u64 vsL] 25 (0, 0)) := by rw [hw1, al_oldw (by simp)]; exact al_neww rfl _
  have hY1 : w1.heap[w.heap.size + 1]? = some (.cells #[.int .u64 vdH, .int .u64 vdL] 25 (0, 0)) := by rw [hw1]; exact al_neww (by simp) _
  have b1 : Below w.heap.size w w1 := by rw [hw1]; exact Below.al (Below.al (Below.refl _ _) _) _
  rw [← hw1]
  clear hw1
  have W1 := Wr.nil b1 hgl (o + p)
  have r1 : Room w1 g (o + p) 2 := (HR.out.wr W1).sub (by have := HZ.out; omega)
  have c0 := rput_any g (o + p) (c - p) 2 0 (by omega) (by have := HZ.out; omega) (by omega) ⟨by omega, by omega⟩ r1
  rw [show lowN 0 = 0 from rfl, beB2_zero] at c0
  clear r1
  refine Lib.hid ?_
  go_wp2_with (first | (go_at_call 72; refine (cl _).mono ?_; rintro e w' ⟨rfl, hw'⟩; subst hw') | (go_at_call 42; refine c0.mono ?_; rintro e w2 ⟨rfl, hW⟩; refine Hid.out ?_))
  have hX2 : w2.heap[w.heap.size]? = some (.cells #[.int .u64 vsH, .int .u64 vsL] 25 (0, 0)) := by rw [hW.block _ (by omega)]; exact hX1
  have hY2 : w2.heap[w.heap.size + 1]? = some (.cells #[.int .u64 vdH, .int .u64 vdL] 25 (0, 0)) := by rw [hW.block _ (by omega)]; exact hY1
  have hb2 : Byt w2 g o (putL l p [0, 0]) := hW.wr.splice (HB.out.below b1) (by have := HZ.out; simp; omega)
  have cb := rtotal_any g o c m (putL l p [0, 0]) _ HV.out HL.out (by have := HZ.out; omega) hm hc hcm hb2
  rw [← HS.out] at cb
  simp only at cb
  have W2 := Lib.hid (W1.app (bs := []) (by simpa using hW.wr))
  obtain ⟨s0, s1, _, _⟩ := cells2 hX2
  obtain ⟨d0, d1, _, _⟩ := cells2 hY2
  clear hW W1 hb2 b1 hX1 hY1 c0 cl
  refine Lib.hid ?_
  go_wp2_with (go_at_call 73; refine cb.mono ?_; rintro e w3 ⟨rfl, hb3⟩; refine Hid.out ?_)
  have W3 := Lib.hid (W2.out.below hgl hb3)
  have cp := rput_any g (o + p) (c - p) 2 S (by omega) (by have := HZ.out; omega) (by omega) ⟨by omega, by omega⟩ ((HR.out.wr W3.out).sub (by have := HZ.out; omega))
  rw [show lowN S = S from low_small S (by omega)] at cp
  clear hb3 hX2 hY2 cb W2 s0 s1 d0 d1
  refine Lib.hid ?_
  go_wp2_with (go_at_call 42; refine cp.mono ?_; rintro e w4 ⟨rfl, hW4⟩; have H4 := Lib.hid hW4; clear hW4)
  simp [bodyPost, results, Try.results46, go_sem]
  exact W3.out.over H4.out.wr (by simp [beB_len])

set_option maxHeartbeats 2000000 in
set_option maxRecDepth 100000 in
theorem rset_b (g o m c z p : Nat) (l : List UInt8) (vp vsH vsL vdH vdL : Int) (hv : VOk { zvw with proto := vp, srcH := vsH, srcL := vsL, dstH := vdH, dstL := vdL }) (hz : layP vp = ((z : Int), (p : Int))) (hz0 : z ≠ 0) (hzm : z ≤ m) (hpz : p + 2 ≤ z) (hn : l.length = m) (hm : m < 65536) (hc : m ≤ c) (hcm : c ≤ 9223372036854775807) (S : Nat) (hS : S = bsP { zvw with proto := vp, srcH := vsH, srcL := vsL, dstH := vdH, dstL := vdL } (putL l p [0, 0])) (hSn : S = 0 ∧ vp ≠ 17) {w : World} (hb : Byt w g o l) (hr : Room w g o m) :
    Calls Try.prog 46 #[.agg #[.int .u64 vsH, .int .u64 vsL], .agg #[.int .u64 vdH, .int .u64 vdL], .int .i64 vp, .slice (some ⟨g, o, none⟩) m c] w fun e w' => e = .returned (.tuple #[]) ∧ Wr w g (o + p) (beB 2 S) w' := by
  have cl := fun (W : World) => sat_any vp m W
  rw [hz] at cl
  simp only at cl
  rw [if_neg (by omega)] at cl
  have hgl := hr.lt (by omega)
  have hS5 : S ≤ 65535 := by rw [hS]; exact bsP_le _ _
  have sa := cut_lh g o m c p (p + 2) (by omega) (by omega) (by omega) hcm
  rw [show ((p + 2 : Nat) : Int) = (p : Int) + 2 by omega, show p + 2 - p = 2 by omega] at sa
  have wa : IntKind.i64.wrap ((p : Int) + 2) = (p : Int) + 2 := by rw [IntKind.wrap_i64]; omega
  have pn : decide ((p : Int) < 0) = false := by simp
  have pn2 : ¬ (p : Int) < 0 := by omega
  have pi : (p : Int) < 65536 := by omega
  have hS0 : ((S : Int) == 0) = true := by simp; omega
  have h17 : (vp == 17) = false := by simp [hSn.2]
  clear hSn
  have hlen : (putL l p [0, 0]).length = m := by rw [putL_len (by simp; omega), hn]
  have HZ := Lib.hid (show l.length = m ∧ p + 2 ≤ m ∧ 0 < m from ⟨hn, by omega, by omega⟩)
  have HB := Lib.hid hb
  have HR := Lib.hid hr
  have HV := Lib.hid hv
  have HS := Lib.hid hS
  have HL := Lib.hid hlen
  clear hb hr hv hz hn hS hlen hz0 hzm hpz
  go_enter Try.func46, Try.ntmps46
  go_wp2_with (with_reducible refine stop_op (o := ⟨some 12, _, _, _, _, _⟩) ?_)
  obtain ⟨w1, hw1⟩ : ∃ x, x = (w.alloc (.cells #[.int .u64 vsH, .int .u64 vsL] 25)).alloc (.cells #[.int .u64 vdH, .int .u64 vdL] 25) := ⟨_, rfl⟩
  have hX1 : w1.heap[w.heap.size]? = some (.cells #[.int .u64 vsH, .int .u64 vsL] 25 (0, 0)) := by rw [hw1, al_oldw (by simp)]; exact al_neww rfl _
  have hY1 : w1.heap[w.heap.size + 1]? = some (.cells #[.int .u64 vdH, .int .u64 vdL] 25 (0, 0)) := by rw [hw1]; exact al_neww (by simp) _
  have b1 : Below w.heap.size w w1 := by rw [hw1]; exact Below.al (Below.al (Below.refl _ _) _) _
  rw [← hw1]
  clear hw1
  have W1 := Wr.nil b1 hgl (o + p)
  have r1 : Room w1 g (o + p) 2 := (HR.out.wr W1).sub (by have := HZ.out; omega)
  have c0 := rput_any g (o + p) (c - p) 2 0 (by omega) (by have := HZ.out; omega) (by omega) ⟨by omega, by omega⟩ r1
  rw [show lowN 0 = 0 from rfl, beB2_zero] at c0
  clear r1
  refine Lib.hid ?_
  go_wp2_with (first | (go_at_call 72; refine (cl _).mono ?_; rintro e w' ⟨rfl, hw'⟩; subst hw') | (go_at_call 42; refine c0.mono ?_; rintro e w2 ⟨rfl, hW⟩; refine Hid.out ?_))
  have hX2 : w2.heap[w.heap.size]? = some (.cells #[.int .u64 vsH, .int .u64 vsL] 25 (0, 0)) := by rw [hW.block _ (by omega)]; exact hX1
  have hY2 : w2.heap[w.heap.size + 1]? = some (.cells #[.int .u64 vdH, .int .u64 vdL] 25 (0, 0)) := by rw [hW.block _ (by omega)]; exact hY1
  have hb2 : Byt w2 g o (putL l p [0, 0]) := hW.wr.splice (HB.out.below b1) (by have := HZ.out; simp; omega)
  have cb := rtotal_any g o c m (putL l p [0, 0]) _ HV.out HL.out (by have := HZ.out; omega) hm hc hcm hb2
  rw [← HS.out] at cb
  simp only at cb
  have W2 := Lib.hid (W1.app (bs := []) (by simpa using hW.wr))
  obtain ⟨s0, s1, _, _⟩ := cells2 hX2
  obtain ⟨d0, d1, _, _⟩ := cells2 hY2
  clear hW W1 hb2 b1 hX1 hY1 c0 cl
  refine Lib.hid ?_
  go_wp2_with (go_at_call 73; refine cb.mono ?_; rintro e w3 ⟨rfl, hb3⟩; refine Hid.out ?_)
  have W3 := Lib.hid (W2.out.below hgl hb3)
  have cp := rput_any g (o + p) (c - p) 2 S (by omega) (by have := HZ.out; omega) (by omega) ⟨by omega, by omega⟩ ((HR.out.wr W3.out).sub (by have := HZ.out; omega))
  rw [show lowN S = S from low_small S (by omega)] at cp
  clear hb3 hX2 hY2 cb W2 s0 s1 d0 d1
  refine Lib.hid ?_
  go_wp2_with (go_at_call 42; refine cp.mono ?_; rintro e w4 ⟨rfl, hW4⟩; have H4 := Lib.hid hW4; clear hW4)
  simp [bodyPost, results, Try.results46, go_sem]
  exact W3.out.over H4.out.wr (by simp [beB_len])

set_option maxHeartbeats 2000000 in
set_option maxRecDepth 100000 in
theorem rset_c (g o m c z p : Nat) (l : List UInt8) (vsH vsL vdH vdL : Int) (hv : VOk { zvw with proto := 17, srcH := vsH, srcL := vsL, dstH := vdH, dstL := vdL }) (hz : layP 17 = ((z : Int), (p : Int))) (hz0 : z ≠ 0) (hzm : z ≤ m) (hpz : p + 2 ≤ z) (hn : l.length = m) (hm : m < 65536) (hc : m ≤ c) (hcm : c ≤ 9223372036854775807) (S : Nat) (hS : S = bsP { zvw with proto := 17, srcH := vsH, srcL := vsL, dstH := vdH, dstL := vdL } (putL l p [0, 0])) (hSn : S = 0) {w : World} (hb : Byt w g o l) (hr : Room w g o m) :
    Calls Try.prog 46 #[.agg #[.int .u64 vsH, .int .u64 vsL], .agg #[.int .u64 vdH, .int .u64 vdL], .int .i64 17, .slice (some ⟨g, o, none⟩) m c] w fun e w' => e = .returned (.tuple #[]) ∧ Wr w g (o + p) (beB 2 65535) w' := by
  have cl := fun (W : World) => sat_any 17 m W
  rw [hz] at cl
  simp only at cl
  rw [if_neg (by omega)] at cl
  have hgl := hr.lt (by omega)
  have hS5 : S ≤ 65535 := by rw [hS]; exact bsP_le _ _
  have sa := cut_lh g o m c p (p + 2) (by omega) (by omega) (by omega) hcm
  rw [show ((p + 2 : Nat) : Int) = (p : Int) + 2 by omega, show p + 2 - p = 2 by omega] at sa
  have wa : IntKind.i64.wrap ((p : Int) + 2) = (p : Int) + 2 := by rw [IntKind.wrap_i64]; omega
  have pn : decide ((p : Int) < 0) = false := by simp
  have pn2 : ¬ (p : Int) < 0 := by omega
  have pi : (p : Int) < 65536 := by omega
  have hS0 : ((S : Int) == 0) = true := by simp; omega
  clear hSn
  have hlen : (putL l p [0, 0]).length = m := by rw [putL_len (by simp; omega), hn]
  have HZ := Lib.hid (show l.length = m ∧ p + 2 ≤ m ∧ 0 < m from ⟨hn, by omega, by omega⟩)
  have HB := Lib.hid hb
  have HR := Lib.hid hr
  have HV := Lib.hid hv
  have HS := Lib.hid hS
  have HL := Lib.hid hlen
  clear hb hr hv hz hn hS hlen hz0 hzm hpz
  go_enter Try.func46, Try.ntmps46
  go_wp2_with (with_reducible refine stop_op (o := ⟨some 12, _, _, _, _, _⟩) ?_)
  obtain ⟨w1, hw1⟩ : ∃ x, x = (w.alloc (.cells #[.int .u64 vsH, .int .u64 vsL] 25)).alloc (.cells #[.int .u64 vdH, .int .u64 vdL] 25) := ⟨_, rfl⟩
  have hX1 : w1.heap[w.heap.size]? = some (.cells #[.int .u64 vsH, .int .u64 vsL] 25 (0, 0)) := by rw [hw1, al_oldw (by simp)]; exact al_neww rfl _
  have hY1 : w1.heap[w.heap.size + 1]? = some (.cells #[.int .u64 vdH, .int .u64 vdL] 25 (0, 0)) := by rw [hw1]; exact al_neww (by simp) _
  have b1 : Below w.heap.size w w1 := by rw [hw1]; exact Below.al (Below.al (Below.refl _ _) _) _
  rw [← hw1]
  clear hw1
  have W1 := Wr.nil b1 hgl (o + p)
  have r1 : Room w1 g (o + p) 2 := (HR.out.wr W1).sub (by have := HZ.out; omega)
  have c0 := rput_any g (o + p) (c - p) 2 0 (by omega) (by have := HZ.out; omega) (by omega) ⟨by omega, by omega⟩ r1
  rw [show lowN 0 = 0 from rfl, beB2_zero] at c0
  clear r1
  refine Lib.hid ?_
  go_wp2_with (first | (go_at_call 72; refine (cl _).mono ?_; rintro e w' ⟨rfl, hw'⟩; subst hw') | (go_at_call 42; refine c0.mono ?_; rintro e w2 ⟨rfl, hW⟩; refine Hid.out ?_))
  have hX2 : w2.heap[w.heap.size]? = some (.cells #[.int .u64 vsH, .int .u64 vsL] 25 (0, 0)) := by rw [hW.block _ (by omega)]; exact hX1
  have hY2 : w2.heap[w.heap.size + 1]? = some (.cells #[.int .u64 vdH, .int .u64 vdL] 25 (0, 0)) := by rw [hW.block _ (by omega)]; exact hY1
  have hb2 : Byt w2 g o (putL l p [0, 0]) := hW.wr.splice (HB.out.below b1) (by have := HZ.out; simp; omega)
  have cb := rtotal_any g o c m (putL l p [0, 0]) _ HV.out HL.out (by have := HZ.out; omega) hm hc hcm hb2
  rw [← HS.out] at cb
  simp only at cb
  have W2 := Lib.hid (W1.app (bs := []) (by simpa using hW.wr))
  obtain ⟨s0, s1, _, _⟩ := cells2 hX2
  obtain ⟨d0, d1, _, _⟩ := cells2 hY2
  clear hW W1 hb2 b1 hX1 hY1 c0 cl
  refine Lib.hid ?_
  go_wp2_with (go_at_call 73; refine cb.mono ?_; rintro e w3 ⟨rfl, hb3⟩; refine Hid.out ?_)
  have W3 := Lib.hid (W2.out.below hgl hb3)
  have cp := rput_any g (o + p) (c - p) 2 65535 (by omega) (by have := HZ.out; omega) (by omega) ⟨by omega, by omega⟩ ((HR.out.wr W3.out).sub (by have := HZ.out; omega))
  rw [show lowN 65535 = 65535 from low_small 65535 (by omega)] at cp
  clear hb3 hX2 hY2 cb W2 s0 s1 d0 d1
  refine Lib.hid ?_
  go_wp2_with (go_at_call 42; refine cp.mono ?_; rintro e w4 ⟨rfl, hW4⟩; have H4 := Lib.hid hW4; clear hW4)
  simp [bodyPost, results, Try.results46, go_sem]
  exact W3.out.over H4.out.wr (by simp [beB_len])
theorem rset_any (A : Option Addr) (m c : Nat) (l : List UInt8) (v : VW) (hv : VOk v) {w : World} (h : BytArg w A m c l) (hr : ∀ g o, A = some ⟨g, o, none⟩ → 0 < m → Room w g o m) (hm : m < 65536) :
    Calls Try.prog 46 #[.agg #[.int .u64 v.srcH, .int .u64 v.srcL], .agg #[.int .u64 v.dstH, .int .u64 v.dstL], .int .i64 v.proto, .slice A m c] w fun e w' => e = .returned (.tuple #[]) ∧ SetBy w A l v w' := by
  have hn := h.1
  have hcm := h.2.2.1
  unfold maxLen at hcm
  by_cases h0 : (layP v.proto).1 = 0 ∨ (l.length : Int) < (layP v.proto).1
  · have e : setB v l = l := by unfold setB; rw [if_pos h0]
    obtain ⟨vv, vhd, vtt, vttl, vp, vsH, vsL, vdH, vdL, vfr, vid, voff, vmo⟩ := v
    simp only
    exact (rset_no A m c vp vsH vsL vdH vdL (by have := h.2.1; omega) (by rw [← hn]; exact h0)).mono fun e' w' ⟨h1, h2⟩ => ⟨h1, Or.inl ⟨e, h2⟩⟩
  · have h1 : (layP v.proto).1 ≠ 0 := fun e => h0 (Or.inl e)
    have h2 : ¬ (l.length : Int) < (layP v.proto).1 := fun e => h0 (Or.inr e)
    obtain ⟨z, q, hz, hz0, hq, _⟩ := layP_ok h1
    rw [hz] at h2
    simp only at h2
    obtain ⟨g, o, rfl, hb⟩ := h.2.2.2 (by omega)
    have e : setB v l = putL l q (beB 2 (sumVal v (putL l q [0, 0]))) := by
      unfold setB; rw [if_neg h0, hz]; rfl
    have key : Calls Try.prog 46 #[.agg #[.int .u64 v.srcH, .int .u64 v.srcL], .agg #[.int .u64 v.dstH, .int .u64 v.dstL], .int .i64 v.proto, .slice (some ⟨g, o, none⟩) m c] w fun e w' => e = .returned (.tuple #[]) ∧ Wr w g (o + q) (beB 2 (sumVal v (putL l q [0, 0]))) w' := by
      obtain ⟨vv, vhd, vtt, vttl, vp, vsH, vsL, vdH, vdL, vfr, vid, voff, vmo⟩ := v
      simp only
      by_cases hS : bsP ⟨vv, vhd, vtt, vttl, vp, vsH, vsL, vdH, vdL, vfr, vid, voff, vmo⟩ (putL l q [0, 0]) = 0
      · by_cases hp : vp = 17
        · subst hp
          rw [sumVal_u hS rfl]
          exact rset_c g o m c z q l vsH vsL vdH vdL ⟨hv.p0, hv.p1, hv.sh, hv.sl, hv.dh, hv.dl, hv.fam⟩ hz hz0 (by omega) hq hn hm h.2.1 hcm _ rfl hS hb (hr g o rfl (by omega))
        · rw [sumVal_np hp]
          exact rset_b g o m c z q l vp vsH vsL vdH vdL ⟨hv.p0, hv.p1, hv.sh, hv.sl, hv.dh, hv.dl, hv.fam⟩ hz hz0 (by omega) hq hn hm h.2.1 hcm _ rfl ⟨hS, hp⟩ hb (hr g o rfl (by omega))
      · rw [sumVal_ne hS]
        exact rset_a g o m c z q l vp vsH vsL vdH vdL ⟨hv.p0, hv.p1, hv.sh, hv.sl, hv.dh, hv.dl, hv.fam⟩ hz hz0 (by omega) hq hn hm h.2.1 hcm _ rfl hS hb (hr g o rfl (by omega))
    exact key.mono fun e' w' ⟨h1, h2⟩ => ⟨h1, Or.inr ⟨g, o, q, _, rfl, h2, by rw [beB_len]; omega, e⟩⟩
end Go.Proofs.Ytpmbdjdhgcjkfaa
