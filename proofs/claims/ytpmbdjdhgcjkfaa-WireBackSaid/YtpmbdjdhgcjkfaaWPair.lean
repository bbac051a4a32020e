/- Pairs of numbers and addresses laid down; by-name template (gen_wpair.py). -/
import Derived.Test.YtpmbdjdhgcjkfaaWRPut
import Derived.StillTailTactics
namespace Go.Proofs.Ytpmbdjdhgcjkfaa
open Go.RowKit Go.Sort
set_option linter.unusedVariables false
set_option linter.unusedSimpArgs false

/-- Bytes were written, and memory may have been made; nothing else. -/
structure Wr (w : World) (g o : Nat) (bs : List UInt8) (w' : World) : Prop where
  os : w'.os = w.os
  tape : w'.tape = w.tape
  output : w'.output = w.output
  size : w.heap.size ≤ w'.heap.size
  block : ∀ k, k ≠ g → k < w.heap.size → w'.heap[k]? = w.heap[k]?
  frozen : ∀ x, w'.frozen? ⟨g, x, none⟩ = w.frozen? ⟨g, x, none⟩
  inn : Byt w' g o bs
  out : ∀ x : Nat, (x < o ∨ o + bs.length ≤ x) → w'.cell? ⟨g, x, none⟩ = w.cell? ⟨g, x, none⟩
  kind : ∀ cs t fz, w.heap[g]? = some (.cells cs t fz) → ∃ cs' : Array Value, cs'.size = cs.size ∧ w'.heap[g]? = some (.cells cs' t fz)

theorem Wrote.wr {w w' : World} {g o : Nat} {bs : List UInt8} (h : Wrote w g o bs w') : Wr w g o bs w' :=
  ⟨h.os, h.tape, h.output, Nat.le_of_eq h.size.symm, fun k hk _ => h.block k hk, fun x => h.frozen _, h.inn, h.out, h.kind⟩
theorem Wr.nil {w w' : World} {g : Nat} (h : Below w.heap.size w w') (hg : g < w.heap.size) (o : Nat) : Wr w g o [] w' :=
  ⟨h.os, h.tape, h.output, h.size, fun k _ hk => h.block k hk, fun x => h.frozen (p := ⟨g, x, none⟩) hg, fun k x hx => by simp at hx, fun x _ => h.cell (p := ⟨g, x, none⟩) hg, fun cs t fz hc => ⟨cs, rfl, by rw [h.block g hg]; exact hc⟩⟩
theorem Wr.app {w w1 w2 : World} {g o : Nat} {bs cs : List UInt8} (h : Wr w g o bs w1) (k : Wr w1 g (o + bs.length) cs w2) : Wr w g o (bs ++ cs) w2 := by
  refine ⟨by rw [k.os, h.os], by rw [k.tape, h.tape], by rw [k.output, h.output], Nat.le_trans h.size k.size, fun j hj hl => by rw [k.block j hj (Nat.lt_of_lt_of_le hl h.size), h.block j hj hl], fun x => by rw [k.frozen, h.frozen], fun j x hx => ?_, fun x hx => ?_, fun cs t fz hc => by obtain ⟨c1, e1, h1⟩ := h.kind cs t fz hc; obtain ⟨c2, e2, h2⟩ := k.kind _ _ _ h1; exact ⟨c2, by rw [e2, e1], h2⟩⟩
  · by_cases hj : j < bs.length
    · rw [List.getElem?_append_left hj] at hx
      rw [k.out (o + j) (by omega)]; exact h.inn j x hx
    · rw [List.getElem?_append_right (by omega)] at hx
      have := k.inn (j - bs.length) x hx
      rw [show o + bs.length + (j - bs.length) = o + j by omega] at this; exact this
  · rw [List.length_append] at hx
    rw [k.out x (by omega), h.out x (by omega)]
theorem Wr.below {w w1 w2 : World} {g o : Nat} {bs : List UInt8} (h : Wr w g o bs w1) (hg : g < w.heap.size) (k : Below w1.heap.size w1 w2) : Wr w g o bs w2 := by
  have := h.app (Wr.nil k (Nat.lt_of_lt_of_le hg h.size) (o + bs.length))
  rwa [List.append_nil] at this
theorem Wr.bel {w w1 : World} {g o : Nat} {bs : List UInt8} {N : Nat} {w0 : World} (h0 : Below N w0 w) (h : Wr w g o bs w1) (hN : N ≤ g) (hg : g < w.heap.size) : Below N w0 w1 :=
  ⟨by rw [h.os]; exact h0.os, by rw [h.tape]; exact h0.tape, by rw [h.output]; exact h0.output, Nat.le_trans h0.size h.size, fun k hk => by rw [h.block k (by omega) (by omega)]; exact h0.block k hk⟩
theorem Room.wr {w w' : World} {g o m p : Nat} {bs : List UInt8} (hr : Room w g o m) (h : Wr w g p bs w') : Room w' g o m := by
  intro j hj
  obtain ⟨⟨v, hv⟩, hf⟩ := hr j hj
  refine ⟨?_, by rw [h.frozen]; exact hf⟩
  by_cases hi : o + j < p ∨ p + bs.length ≤ o + j
  · exact ⟨v, by rw [h.out _ hi]; exact hv⟩
  · have hx : bs[o + j - p]? = some (bs[o + j - p]'(by omega)) := List.getElem?_eq_getElem _
    exact ⟨_, by have := h.inn _ _ hx; rw [show p + (o + j - p) = o + j by omega] at this; exact this⟩
theorem Room.sub {w : World} {g o m : Nat} (hr : Room w g o m) {f k : Nat} (h : f + k ≤ m) : Room w g (o + f) k := fun j hj => by
  have := hr (f + j) (by omega)
  rw [show o + (f + j) = o + f + j by omega] at this; exact this
theorem Room.lt {w : World} {g o m : Nat} (hr : Room w g o m) (h : 0 < m) : g < w.heap.size := by
  obtain ⟨⟨v, hv⟩, _⟩ := hr 0 h
  exact World.block_lt_of_cell? _ _ hv

set_option maxHeartbeats 2000000 in
set_option maxRecDepth 100000 in
theorem ppair2 (g o c n a b : Nat) (h2 : 4 ≤ n) (hc : n ≤ c) (hcm : c ≤ 9223372036854775807) (ha : a < 18446744073709551616) (hb : b < 18446744073709551616) {w : World} (hr : Room w g o 4) :
    Calls Try.prog 64 #[.slice (some ⟨g, o, none⟩) n c, .int .i64 2, .agg #[.int .u64 (a : Nat), .int .u64 (b : Nat)]] w fun e w' => e = .returned (.tuple #[]) ∧ Wr w g o (beB 2 a ++ beB 2 b) w' := by
  have s1 : ∀ W, (Instr.slice 22 (.slice (some ⟨g, o, none⟩) n c) (some (.int .i64 0)) (some (.int .i64 2)) none).run Try.prog W = .ok (.slice (some ⟨g, o, none⟩) 2 c) W := cut_lh g o n c 0 2 (by omega) (by omega) (by omega) hcm
  have s2 : ∀ W, (Instr.slice 22 (.slice (some ⟨g, o, none⟩) n c) (some (.int .i64 2)) (some (.int .i64 4)) none).run Try.prog W = .ok (.slice (some ⟨g, o + 2, none⟩) 2 (c - 2)) W := cut_lh g o n c 2 4 (by omega) (by omega) (by omega) hcm
  have e0 : IntKind.i64.wrap 0 = 0 := by decide
  have e1 : IntKind.i64.wrap 1 = 1 := by decide
  have e2 : IntKind.i64.wrap 2 = 2 := by decide
  have e4 : IntKind.i64.wrap 4 = 4 := by decide
  have e8 : IntKind.i64.wrap 8 = 8 := by decide
  have e16 : IntKind.i64.wrap 16 = 16 := by decide
  have hg := hr.lt (by omega)
  have HR := Lib.hid hr
  have la := beB_len 2 a
  have HA := Lib.hid ha
  have HB := Lib.hid hb
  have HL := Lib.hid la
  clear hr ha hb la
  go_enter Try.func64, Try.ntmps64
  go_wp2
  go_loopw [7] (fun v7 wr => ∃ k : Nat, v7 = .int .i64 k ∧ k ≤ 2 ∧ wr.heap[w.heap.size]? = some (.cells #[.int .u64 (a : Nat), .int .u64 (b : Nat)] 102 (0, 0)) ∧ Hid (Wr w g o (if k = 0 then [] else if k = 1 then beB 2 a else beB 2 a ++ beB 2 b) wr)) (fun v7 _ => 2 - (intOf v7).toNat)
  case atStart => exact ⟨0, rfl, by omega, al_neww rfl _, Lib.hid (Wr.nil (Below.al (Below.refl _ _) _) hg o)⟩
  case round =>
    obtain ⟨k, rfl, hk, hB, hW⟩ := hrel
    match k, hk with
    | 0, _ =>
      obtain ⟨p0, p1, _⟩ := cells2 hB
      go_wp2_with fail
      go_still_tail 12, (by kernel_rfl)
      change wpList _ _ _ _ _ wr.drew
      have hBd : wr.drew.heap[w.heap.size]? = some (.cells #[.int .u64 (a : Nat), .int .u64 (b : Nat)] 102 (0, 0)) := hB
      have hWd : Wr w g o [] wr.drew := (hW.out).below hg (Below.dr (Below.refl _ _))
      have cp := put_any g o c 2 a (by omega) (by omega) hcm HA.out ((HR.out.wr hWd).sub (f := 0) (k := 2) (by omega))
      generalize wr.drew = wd at hBd hWd cp ⊢
      clear hB hW p0 p1
      have HWd := Lib.hid hWd
      clear hWd
      go_wp2_with (go_at_call 60; refine cp.mono ?_; rintro e w2 ⟨rfl, hW2⟩; have HW2 := Lib.hid hW2; clear hW2; have hB2 := (HW2.out.block w.heap.size (by omega)).trans hBd)
      exact ⟨⟨1, by simp, by omega, hB2, Lib.hid (by have := HWd.out.app (by simpa using HW2.out.wr); simpa using this)⟩, by simp [intOf]⟩
    | 1, _ =>
      obtain ⟨p0, p1, _⟩ := cells2 hB
      go_wp2_with fail
      go_still_tail 12, (by kernel_rfl)
      change wpList _ _ _ _ _ wr.drew
      have hBd : wr.drew.heap[w.heap.size]? = some (.cells #[.int .u64 (a : Nat), .int .u64 (b : Nat)] 102 (0, 0)) := hB
      have hWd : Wr w g o (beB 2 a) wr.drew := (hW.out).below hg (Below.dr (Below.refl _ _))
      have cp := put_any g (o + 2) (c - 2) 2 b (by omega) (by omega) (by omega) HB.out ((HR.out.wr hWd).sub (f := 2) (k := 2) (by omega))
      generalize wr.drew = wd at hBd hWd cp ⊢
      clear hB hW p0 p1
      have HWd := Lib.hid hWd
      clear hWd
      go_wp2_with (go_at_call 60; refine cp.mono ?_; rintro e w2 ⟨rfl, hW2⟩; have HW2 := Lib.hid hW2; clear hW2; have hB2 := (HW2.out.block w.heap.size (by omega)).trans hBd)
      exact ⟨⟨2, by simp, by omega, hB2, Lib.hid (by have := HWd.out.app (by rw [HL.out]; exact HW2.out.wr); simpa using this)⟩, by simp [intOf]⟩
    | 2, _ =>
      have HF : Hid (Wr w g o (beB 2 a ++ beB 2 b) wr) := hW
      clear hW
      go_wp2
      simp [bodyPost, results, Try.results64, go_sem]
      exact HF.out

set_option maxHeartbeats 2000000 in
set_option maxRecDepth 100000 in
theorem ppair4 (g o c n a b : Nat) (h2 : 8 ≤ n) (hc : n ≤ c) (hcm : c ≤ 9223372036854775807) (ha : a < 18446744073709551616) (hb : b < 18446744073709551616) {w : World} (hr : Room w g o 8) :
    Calls Try.prog 64 #[.slice (some ⟨g, o, none⟩) n c, .int .i64 4, .agg #[.int .u64 (a : Nat), .int .u64 (b : Nat)]] w fun e w' => e = .returned (.tuple #[]) ∧ Wr w g o (beB 4 a ++ beB 4 b) w' := by
  have s1 : ∀ W, (Instr.slice 22 (.slice (some ⟨g, o, none⟩) n c) (some (.int .i64 0)) (some (.int .i64 4)) none).run Try.prog W = .ok (.slice (some ⟨g, o, none⟩) 4 c) W := cut_lh g o n c 0 4 (by omega) (by omega) (by omega) hcm
  have s2 : ∀ W, (Instr.slice 22 (.slice (some ⟨g, o, none⟩) n c) (some (.int .i64 4)) (some (.int .i64 8)) none).run Try.prog W = .ok (.slice (some ⟨g, o + 4, none⟩) 4 (c - 4)) W := cut_lh g o n c 4 8 (by omega) (by omega) (by omega) hcm
  have e0 : IntKind.i64.wrap 0 = 0 := by decide
  have e1 : IntKind.i64.wrap 1 = 1 := by decide
  have e2 : IntKind.i64.wrap 2 = 2 := by decide
  have e4 : IntKind.i64.wrap 4 = 4 := by decide
  have e8 : IntKind.i64.wrap 8 = 8 := by decide
  have e16 : IntKind.i64.wrap 16 = 16 := by decide
  have hg := hr.lt (by omega)
  have HR := Lib.hid hr
  have la := beB_len 4 a
  have HA := Lib.hid ha
  have HB := Lib.hid hb
  have HL := Lib.hid la
  clear hr ha hb la
  go_enter Try.func64, Try.ntmps64
  go_wp2
  go_loopw [7] (fun v7 wr => ∃ k : Nat, v7 = .int .i64 k ∧ k ≤ 2 ∧ wr.heap[w.heap.size]? = some (.cells #[.int .u64 (a : Nat), .int .u64 (b : Nat)] 102 (0, 0)) ∧ Hid (Wr w g o (if k = 0 then [] else if k = 1 then beB 4 a else beB 4 a ++ beB 4 b) wr)) (fun v7 _ => 2 - (intOf v7).toNat)
  case atStart => exact ⟨0, rfl, by omega, al_neww rfl _, Lib.hid (Wr.nil (Below.al (Below.refl _ _) _) hg o)⟩
  case round =>
    obtain ⟨k, rfl, hk, hB, hW⟩ := hrel
    match k, hk with
    | 0, _ =>
      obtain ⟨p0, p1, _⟩ := cells2 hB
      go_wp2_with fail
      go_still_tail 12, (by kernel_rfl)
      change wpList _ _ _ _ _ wr.drew
      have hBd : wr.drew.heap[w.heap.size]? = some (.cells #[.int .u64 (a : Nat), .int .u64 (b : Nat)] 102 (0, 0)) := hB
      have hWd : Wr w g o [] wr.drew := (hW.out).below hg (Below.dr (Below.refl _ _))
      have cp := put_any g o c 4 a (by omega) (by omega) hcm HA.out ((HR.out.wr hWd).sub (f := 0) (k := 4) (by omega))
      generalize wr.drew = wd at hBd hWd cp ⊢
      clear hB hW p0 p1
      have HWd := Lib.hid hWd
      clear hWd
      go_wp2_with (go_at_call 60; refine cp.mono ?_; rintro e w2 ⟨rfl, hW2⟩; have HW2 := Lib.hid hW2; clear hW2; have hB2 := (HW2.out.block w.heap.size (by omega)).trans hBd)
      exact ⟨⟨1, by simp, by omega, hB2, Lib.hid (by have := HWd.out.app (by simpa using HW2.out.wr); simpa using this)⟩, by simp [intOf]⟩
    | 1, _ =>
      obtain ⟨p0, p1, _⟩ := cells2 hB
      go_wp2_with fail
      go_still_tail 12, (by kernel_rfl)
      change wpList _ _ _ _ _ wr.drew
      have hBd : wr.drew.heap[w.heap.size]? = some (.cells #[.int .u64 (a : Nat), .int .u64 (b : Nat)] 102 (0, 0)) := hB
      have hWd : Wr w g o (beB 4 a) wr.drew := (hW.out).below hg (Below.dr (Below.refl _ _))
      have cp := put_any g (o + 4) (c - 4) 4 b (by omega) (by omega) (by omega) HB.out ((HR.out.wr hWd).sub (f := 4) (k := 4) (by omega))
      generalize wr.drew = wd at hBd hWd cp ⊢
      clear hB hW p0 p1
      have HWd := Lib.hid hWd
      clear hWd
      go_wp2_with (go_at_call 60; refine cp.mono ?_; rintro e w2 ⟨rfl, hW2⟩; have HW2 := Lib.hid hW2; clear hW2; have hB2 := (HW2.out.block w.heap.size (by omega)).trans hBd)
      exact ⟨⟨2, by simp, by omega, hB2, Lib.hid (by have := HWd.out.app (by rw [HL.out]; exact HW2.out.wr); simpa using this)⟩, by simp [intOf]⟩
    | 2, _ =>
      have HF : Hid (Wr w g o (beB 4 a ++ beB 4 b) wr) := hW
      clear hW
      go_wp2
      simp [bodyPost, results, Try.results64, go_sem]
      exact HF.out

set_option maxHeartbeats 2000000 in
set_option maxRecDepth 100000 in
theorem ppair8 (g o c n a b : Nat) (h2 : 16 ≤ n) (hc : n ≤ c) (hcm : c ≤ 9223372036854775807) (ha : a < 18446744073709551616) (hb : b < 18446744073709551616) {w : World} (hr : Room w g o 16) :
    Calls Try.prog 64 #[.slice (some ⟨g, o, none⟩) n c, .int .i64 8, .agg #[.int .u64 (a : Nat), .int .u64 (b : Nat)]] w fun e w' => e = .returned (.tuple #[]) ∧ Wr w g o (beB 8 a ++ beB 8 b) w' := by
  have s1 : ∀ W, (Instr.slice 22 (.slice (some ⟨g, o, none⟩) n c) (some (.int .i64 0)) (some (.int .i64 8)) none).run Try.prog W = .ok (.slice (some ⟨g, o, none⟩) 8 c) W := cut_lh g o n c 0 8 (by omega) (by omega) (by omega) hcm
  have s2 : ∀ W, (Instr.slice 22 (.slice (some ⟨g, o, none⟩) n c) (some (.int .i64 8)) (some (.int .i64 16)) none).run Try.prog W = .ok (.slice (some ⟨g, o + 8, none⟩) 8 (c - 8)) W := cut_lh g o n c 8 16 (by omega) (by omega) (by omega) hcm
  have e0 : IntKind.i64.wrap 0 = 0 := by decide
  have e1 : IntKind.i64.wrap 1 = 1 := by decide
  have e2 : IntKind.i64.wrap 2 = 2 := by decide
  have e4 : IntKind.i64.wrap 4 = 4 := by decide
  have e8 : IntKind.i64.wrap 8 = 8 := by decide
  have e16 : IntKind.i64.wrap 16 = 16 := by decide
  have hg := hr.lt (by omega)
  have HR := Lib.hid hr
  have la := beB_len 8 a
  have HA := Lib.hid ha
  have HB := Lib.hid hb
  have HL := Lib.hid la
  clear hr ha hb la
  go_enter Try.func64, Try.ntmps64
  go_wp2
  go_loopw [7] (fun v7 wr => ∃ k : Nat, v7 = .int .i64 k ∧ k ≤ 2 ∧ wr.heap[w.heap.size]? = some (.cells #[.int .u64 (a : Nat), .int .u64 (b : Nat)] 102 (0, 0)) ∧ Hid (Wr w g o (if k = 0 then [] else if k = 1 then beB 8 a else beB 8 a ++ beB 8 b) wr)) (fun v7 _ => 2 - (intOf v7).toNat)
  case atStart => exact ⟨0, rfl, by omega, al_neww rfl _, Lib.hid (Wr.nil (Below.al (Below.refl _ _) _) hg o)⟩
  case round =>
    obtain ⟨k, rfl, hk, hB, hW⟩ := hrel
    match k, hk with
    | 0, _ =>
      obtain ⟨p0, p1, _⟩ := cells2 hB
      go_wp2_with fail
      go_still_tail 12, (by kernel_rfl)
      change wpList _ _ _ _ _ wr.drew
      have hBd : wr.drew.heap[w.heap.size]? = some (.cells #[.int .u64 (a : Nat), .int .u64 (b : Nat)] 102 (0, 0)) := hB
      have hWd : Wr w g o [] wr.drew := (hW.out).below hg (Below.dr (Below.refl _ _))
      have cp := put_any g o c 8 a (by omega) (by omega) hcm HA.out ((HR.out.wr hWd).sub (f := 0) (k := 8) (by omega))
      generalize wr.drew = wd at hBd hWd cp ⊢
      clear hB hW p0 p1
      have HWd := Lib.hid hWd
      clear hWd
      go_wp2_with (go_at_call 60; refine cp.mono ?_; rintro e w2 ⟨rfl, hW2⟩; have HW2 := Lib.hid hW2; clear hW2; have hB2 := (HW2.out.block w.heap.size (by omega)).trans hBd)
      exact ⟨⟨1, by simp, by omega, hB2, Lib.hid (by have := HWd.out.app (by simpa using HW2.out.wr); simpa using this)⟩, by simp [intOf]⟩
    | 1, _ =>
      obtain ⟨p0, p1, _⟩ := cells2 hB
      go_wp2_with fail
      go_still_tail 12, (by kernel_rfl)
      change wpList _ _ _ _ _ wr.drew
      have hBd : wr.drew.heap[w.heap.size]? = some (.cells #[.int .u64 (a : Nat), .int .u64 (b : Nat)] 102 (0, 0)) := hB
      have hWd : Wr w g o (beB 8 a) wr.drew := (hW.out).below hg (Below.dr (Below.refl _ _))
      have cp := put_any g (o + 8) (c - 8) 8 b (by omega) (by omega) (by omega) HB.out ((HR.out.wr hWd).sub (f := 8) (k := 8) (by omega))
      generalize wr.drew = wd at hBd hWd cp ⊢
      clear hB hW p0 p1
      have HWd := Lib.hid hWd
      clear hWd
      go_wp2_with (go_at_call 60; refine cp.mono ?_; rintro e w2 ⟨rfl, hW2⟩; have HW2 := Lib.hid hW2; clear hW2; have hB2 := (HW2.out.block w.heap.size (by omega)).trans hBd)
      exact ⟨⟨2, by simp, by omega, hB2, Lib.hid (by have := HWd.out.app (by rw [HL.out]; exact HW2.out.wr); simpa using this)⟩, by simp [intOf]⟩
    | 2, _ =>
      have HF : Hid (Wr w g o (beB 8 a ++ beB 8 b) wr) := hW
      clear hW
      go_wp2
      simp [bodyPost, results, Try.results64, go_sem]
      exact HF.out
end Go.Proofs.Ytpmbdjdhgcjkfaa
