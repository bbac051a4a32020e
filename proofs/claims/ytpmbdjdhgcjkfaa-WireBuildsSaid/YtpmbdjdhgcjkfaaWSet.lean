/- Check sums set, and addresses laid down: the program's; by-name template (gen_wset.py). -/
import Derived.Test.YtpmbdjdhgcjkfaaWMake
import Derived.StillTailTactics
namespace Go.Proofs.Ytpmbdjdhgcjkfaa
open Go.RowKit Go.Sort
set_option linter.unusedVariables false
set_option linter.unusedSimpArgs false

theorem Wr.over {w w1 w2 : World} {g o : Nat} {bs cs : List UInt8} (h : Wr w g o bs w1) (k : Wr w1 g o cs w2) (hl : bs.length = cs.length) : Wr w g o cs w2 :=
  ⟨by rw [k.os, h.os], by rw [k.tape, h.tape], by rw [k.output, h.output], Nat.le_trans h.size k.size, fun j hj hk => by rw [k.block j hj (Nat.lt_of_lt_of_le hk h.size), h.block j hj hk], fun x => by rw [k.frozen, h.frozen], k.inn, fun x hx => by rw [k.out x hx, h.out x (by omega)],
    fun cs t fz hc => by obtain ⟨c1, e1, h1⟩ := h.kind cs t fz hc; obtain ⟨c2, e2, h2⟩ := k.kind _ _ _ h1; exact ⟨c2, by rw [e2, e1], h2⟩⟩
theorem clr_wr {w : World} {B o : Nat} (hr : Room w B o 2) : Wr w B o [0, 0] (w.setCells B o [.int .u8 0, .int .u8 0]) := by
  have h1 := ((Wrote.nil w B (o + 1)).cons (0 : UInt8) (by have := (hr 0 (by omega)).1; simpa using this)).wr
  have hr2 := hr.wr h1
  have h2 := ((Wrote.nil (w.setCell ⟨B, o, none⟩ (.int .u8 ((0 : UInt8).toNat : Nat))) B (o + 1 + 1)).cons (0 : UInt8) (by have := (hr2 1 (by omega)).1; simpa using this)).wr
  exact h1.app (bs := [0]) (cs := [0]) h2
theorem clr_run (B o c : Nat) {w : World} (hr : Room w B o 2) : ∀ ty, (Builtin.clear_ #[22] ty #[.slice (some ⟨B, o, none⟩) 2 c]).run Try.prog w = .ok (.tuple #[]) (w.setCells B o [.int .u8 0, .int .u8 0]) := fun ty =>
  Lib.run_clear_slice w 22 5 ty (.int .u8 0) Try.underlying22 (fun w => by kernel_rfl) rfl rfl B o 2 c (by omega) (fun j hj => by obtain ⟨⟨v, hv⟩, _⟩ := hr j hj; rw [hv]; rfl) (fun j hj => (hr j hj).2)
theorem Byt.front' {w : World} {g : Nat} {l m : List UInt8} (h : Byt w g 0 (l ++ m)) : Byt w g 0 l := by
  have := h.sub 0 l.length
  simpa using this
/-- What was there, but for one block, is there. -/
def Kept (w : World) (B : Nat) (w' : World) : Prop := ∀ (N : Nat) (w0 : World), Below N w0 w → N ≤ B → Below N w0 w'
theorem Wr.keptB {w w' : World} {B o : Nat} {bs : List UInt8} (h : Wr w B o bs w') (hB : B < w.heap.size) : Kept w B w' := fun N w0 h0 hN => h.bel h0 hN hB
theorem Kept.trans {w w1 w2 : World} {B : Nat} (h : Kept w B w1) (k : Kept w1 B w2) : Kept w B w2 := fun N w0 h0 hN => k N w0 (h N w0 h0 hN) hN
theorem Below.keptB {w w' : World} (h : Below w.heap.size w w') {B : Nat} (hB : B ≤ w.heap.size) : Kept w B w' := fun N w0 h0 hN => h0.trans (h.mono (by omega))

set_option maxHeartbeats 2000000 in
set_option maxRecDepth 100000 in
theorem setsum_any (B C : Nat) (a b c t : List UInt8) (ha : a.length = 10) (hb : b.length = 2) (hc : c.length = 8) (hC : 20 ≤ C) (hCm : C ≤ 9223372036854775807) {w : World} (hR : Row w B (a ++ b ++ c ++ t)) :
    Calls Try.prog 80 #[.slice (some ⟨B, 0, none⟩) 20 C, .int .i64 10] w fun e w' => e = .returned (.tuple #[]) ∧ Wr w B 10 (beB 2 (sumP (a ++ [0, 0] ++ c))) w' := by
  have s1 : ∀ W, (Instr.slice 22 (.slice (some ⟨B, 0, none⟩) 20 C) (some (.int .i64 10)) (some (.int .i64 12)) none).run Try.prog W = .ok (.slice (some ⟨B, 10, none⟩) 2 (C - 10)) W := by have := cut_lh B 0 20 C 10 12 (by omega) (by omega) (by omega) hCm; simpa using this
  have hr : Room w B 10 2 := hR.room (by simp only [List.length_append, ha, hb, hc]; omega)
  have hcl := clr_run B 10 (C - 10) hr
  have hW := clr_wr hr
  have hR1 := hR.wr hW (L' := a ++ [0, 0] ++ (c ++ t)) (a := a) (b := b) (c := c ++ t) (by simp [List.append_assoc]) ha (by simp [hb]) rfl
  have hb1 : Byt (w.setCells B 10 [.int .u8 0, .int .u8 0]) B 0 (a ++ [0, 0] ++ c) := by
    have := hR1.byt
    rw [← List.append_assoc] at this
    exact this.front'
  have hlen : (a ++ [0, 0] ++ c).length = 20 := by simp [ha, hc]
  have hS := sumP_le (a ++ [0, 0] ++ c)
  generalize a ++ [0, 0] ++ c = HL at *
  obtain ⟨S, hSe⟩ : ∃ S, S = sumP HL := ⟨_, rfl⟩
  have hr2 : Room (w.setCells B 10 [.int .u8 0, .int .u8 0]).drew B 10 2 := by have := hr.wr hW; exact this
  have cs := (sum_any B 0 C 20 HL hlen hC hCm (by omega) (w := (w.setCells B 10 [.int .u8 0, .int .u8 0]).drew) hb1).mono (fun e w' h => (⟨h.1, h.2.symm⟩ : e = .returned (.int .i64 (sumP HL : Nat)) ∧ w' = (w.setCells B 10 [.int .u8 0, .int .u8 0]).drew))
  rw [← hSe] at cs ⊢
  have cp := put_any B 10 (C - 10) 2 S (by omega) (by omega) (by omega) (by omega) hr2
  have wS : IntKind.u64.wrap (S : Int) = (S : Int) := by rw [IntKind.wrap_u64]; omega
  have hSi : (S : Int) ≤ 65535 := by omega
  have w12 : IntKind.i64.wrap 12 = 12 := by decide
  have HW := Lib.hid hW
  clear hR hR1 hb1 hlen hr hr2 hSe ha hb hc hW
  go_enter Try.func80, Try.ntmps80
  go_wp2_with fail
  obtain ⟨w1, hw1⟩ : ∃ x, x = w.setCells B 10 [.int .u8 0, .int .u8 0] := ⟨_, rfl⟩
  have H1 : Hid (Wr w B 10 [0, 0] w1) := Lib.hid (by rw [hw1]; exact HW.out)
  rw [← hw1] at cs cp ⊢
  clear hw1 hcl HW
  refine wp_region_still_tail 8 (by kernel_rfl) (by kernel_rfl) ?_
  simp only [List.take_succ_cons, List.take_zero, List.drop_succ_cons, List.drop_zero]
  still_step
  still_step
  still_step
  still_step
  still_step
  still_step
  still_call cs
  still_step
  try refine wpStill_nil ?_
  change wpList _ _ _ _ _ w1.drew
  go_wp2_with (go_at_call 60; refine cp.mono ?_; rintro e w2 ⟨rfl, hW2⟩; have H2 := Lib.hid hW2; clear hW2)
  simp [bodyPost, results, Try.results80, go_sem]
  have h2 : Wr w1 B 10 (beB 2 S) w2 := ⟨H2.out.os, H2.out.tape, H2.out.output, Nat.le_of_eq H2.out.size.symm, fun k hk _ => H2.out.block k hk, fun x => H2.out.frozen _, H2.out.inn, H2.out.out, H2.out.kind⟩
  exact H1.out.over h2 (by simp [beB_len])
end Go.Proofs.Ytpmbdjdhgcjkfaa
