/- Addresses laid down: the program's; by-name template (gen_wset.py). -/
import Derived.Test.YtpmbdjdhgcjkfaaWSet
import Derived.StillTailTactics
namespace Go.Proofs.Ytpmbdjdhgcjkfaa
open Go.RowKit Go.Sort
set_option linter.unusedVariables false
set_option linter.unusedSimpArgs false


set_option maxHeartbeats 2000000 in
set_option maxRecDepth 100000 in
theorem setaddr4 (B N sh sl dh dl : Nat) (a b s d t : List UInt8) (hsh : sh < 18446744073709551616) (hsl : sl < 18446744073709551616) (hdh : dh < 18446744073709551616) (hdl : dl < 18446744073709551616) (ha : a.length = 10) (hb : b.length = 2) (hs : s.length = 4) (hd : d.length = 4) (hN : N = 20 + t.length) (hNm : N ≤ 100000) {w : World} (hR : Row w B (a ++ b ++ s ++ d ++ t)) :
    Calls Try.prog 61 #[.agg (famCells false), .slice (some ⟨B, 0, none⟩) N N, .agg #[.int .u64 (sh : Nat), .int .u64 (sl : Nat), .int .u64 (dh : Nat), .int .u64 (dl : Nat)]] w fun e w' => e = .returned (.tuple #[]) ∧ Row w' B (a ++ beB 2 (sumP (a ++ [0, 0] ++ ((beB 4 sl) ++ (beB 4 dl)))) ++ ((beB 4 sl) ++ (beB 4 dl)) ++ t) ∧ Kept w B w' := by
  have hX : (beB 4 sl).length = 4 := by simp [beB_len]
  have hX2 : (beB 4 dl).length = 4 := by simp [beB_len]
  have p1 := fun (W : World) (hr : Room W B 12 4) => paddr4 B 12 (N - 12) sh sl (by omega) (by omega) (by omega) hr
  have p2 := fun (W : World) (hr : Room W B 16 4) => paddr4 B 16 (N - 16) dh dl (by omega) (by omega) (by omega) hr
  have s1 : ∀ W, (Instr.slice 22 (.slice (some ⟨B, 0, none⟩) N N) (some (.int .i64 12)) (some (.int .i64 16)) none).run Try.prog W = .ok (.slice (some ⟨B, 12, none⟩) 4 (N - 12)) W := by have := cut_lh B 0 N N 12 16 (by omega) (by omega) (by omega) (by omega); simpa using this
  have s2 : ∀ W, (Instr.slice 22 (.slice (some ⟨B, 0, none⟩) N N) (some (.int .i64 16)) (some (.int .i64 20)) none).run Try.prog W = .ok (.slice (some ⟨B, 16, none⟩) 4 (N - 16)) W := by have := cut_lh B 0 N N 16 20 (by omega) (by omega) (by omega) (by omega); simpa using this
  have s3 : ∀ W, (Instr.slice 22 (.slice (some ⟨B, 0, none⟩) N N) none (some (.int .i64 20)) none).run Try.prog W = .ok (.slice (some ⟨B, 0, none⟩) 20 N) W := cut_h B 0 N N 20 (by omega) (by omega)
  have wk1 : IntKind.i64.wrap 12 = 12 := by decide
  have wk2 : IntKind.i64.wrap 16 = 16 := by decide
  have wk3 : IntKind.i64.wrap 20 = 20 := by decide
  generalize (beB 4 sl) = SX at *
  generalize (beB 4 dl) = DX at *
  have hBs := hR.lt
  have HL : Hid (a.length = 10 ∧ b.length = 2 ∧ s.length = 4 ∧ d.length = 4) := Lib.hid ⟨ha, hb, hs, hd⟩
  have HX := Lib.hid hX
  have HX2 := Lib.hid hX2
  have HN := Lib.hid hN
  clear hsh hsl hdh hdl hs hd hX hX2 hN ha hb
  simp only [famCells, if_true, if_false, Bool.false_eq_true]
  go_enter Try.func61, Try.ntmps61
  go_wp2
  go_loopw [8] (fun v8 wr => ∃ k : Nat, v8 = .int .i64 k ∧ k ≤ 2 ∧ Row wr B (if k = 0 then (a ++ b ++ s ++ d ++ t) else if k = 1 then (a ++ b ++ SX ++ d ++ t) else (a ++ b ++ SX ++ DX ++ t)) ∧ Kept w B wr ∧ wr.heap[w.heap.size]? = some (.cells #[.bool false, .int .i64 20, .int .i64 8, .int .i64 9, .int .i64 12, .int .i64 4] 69 (0, 0)) ∧ wr.heap[w.heap.size + 1]? = some (.cells #[.int .u64 (sh : Nat), .int .u64 (sl : Nat), .int .u64 (dh : Nat), .int .u64 (dl : Nat)] 98 (0, 0))) (fun v8 _ => 2 - (intOf v8).toNat)
  case atStart =>
    refine ⟨0, rfl, by omega, ?_, Below.keptB (Below.al (Below.al (Below.refl _ _) _) _) (by omega), (al_oldw (by first | (simp; done) | (simp; omega)) _).trans (al_neww rfl _), al_neww (by simp) _⟩
    rw [if_pos rfl]
    exact hR.below (Below.al (Below.al (Below.refl _ _) _) _)
  case round =>
    obtain ⟨k, rfl, hk, hR, hK, hF, hA⟩ := hrel
    match k, hk with
    | 0, _ =>
      have hR : Row wr B (a ++ b ++ s ++ d ++ t) := by simpa using hR
      obtain ⟨⟨f0, f1, f2, f3, f4, f5⟩, _⟩ := cells6 hF
      obtain ⟨⟨a0, a1, a2, a3⟩, _⟩ := cells4 hA
      have hrm : Room wr.drew B 12 4 := by have := hR.room (o := 12) (m := 4) (by simp only [List.length_append, HL.out.1, HL.out.2.1, HL.out.2.2.1, HL.out.2.2.2, HX.out]; omega); exact this
      have cp := p1 wr.drew hrm
      clear hrm
      go_wp2_with fail
      refine wp_region_still_tail 10 (by kernel_rfl) (by kernel_rfl) ?_
      simp only [List.take_succ_cons, List.take_zero, List.drop_succ_cons, List.drop_zero]
      repeat still_step
      try refine wpStill_nil ?_
      change wpList _ _ _ _ _ wr.drew
      have hRd : Row wr.drew B (a ++ b ++ s ++ d ++ t) := hR
      have hFd : wr.drew.heap[w.heap.size]? = _ := hF
      have hAd : wr.drew.heap[w.heap.size + 1]? = _ := hA
      have hKd : Kept w B wr.drew := fun N w0 h0 hN => (hK N w0 h0 hN).drew
      clear hR hF hA hK f0 f1 f2 f3 f4 f5 a0 a1 a2 a3
      generalize wr.drew = wd at *
      go_wp2_with (go_at_call 79; refine cp.mono ?_; rintro e w2 ⟨rfl, hW⟩; have HW := Lib.hid hW; clear hW)
      have hR2 := hRd.wr HW.out (L' := (a ++ b ++ SX ++ d ++ t)) (a := a ++ b) (b := s) (c := (d ++ t)) (by simp [List.append_assoc]) (by simp only [List.length_append, HL.out.1, HL.out.2.1, HX.out]) (by first | rw [HX.out, HL.out.2.2.1] | rw [HX2.out, HL.out.2.2.2]) (by simp [List.append_assoc])
      refine ⟨⟨1, by simp, by omega, by simpa using hR2, hKd.trans (HW.out.keptB hRd.lt), ?_, ?_⟩, by simp [intOf]⟩
      · rw [HW.out.block _ (by have := hBs; omega) (Array.getElem?_eq_some_iff.1 hFd).1]; exact hFd
      · rw [HW.out.block _ (by have := hBs; omega) (Array.getElem?_eq_some_iff.1 hAd).1]; exact hAd
    | 1, _ =>
      have hR : Row wr B (a ++ b ++ SX ++ d ++ t) := by simpa using hR
      obtain ⟨⟨f0, f1, f2, f3, f4, f5⟩, _⟩ := cells6 hF
      obtain ⟨⟨a0, a1, a2, a3⟩, _⟩ := cells4 hA
      have hrm : Room wr.drew B 16 4 := by have := hR.room (o := 16) (m := 4) (by simp only [List.length_append, HL.out.1, HL.out.2.1, HL.out.2.2.1, HL.out.2.2.2, HX.out]; omega); exact this
      have cp := p2 wr.drew hrm
      clear hrm
      go_wp2_with fail
      refine wp_region_still_tail 10 (by kernel_rfl) (by kernel_rfl) ?_
      simp only [List.take_succ_cons, List.take_zero, List.drop_succ_cons, List.drop_zero]
      repeat still_step
      try refine wpStill_nil ?_
      change wpList _ _ _ _ _ wr.drew
      have hRd : Row wr.drew B (a ++ b ++ SX ++ d ++ t) := hR
      have hFd : wr.drew.heap[w.heap.size]? = _ := hF
      have hAd : wr.drew.heap[w.heap.size + 1]? = _ := hA
      have hKd : Kept w B wr.drew := fun N w0 h0 hN => (hK N w0 h0 hN).drew
      clear hR hF hA hK f0 f1 f2 f3 f4 f5 a0 a1 a2 a3
      generalize wr.drew = wd at *
      go_wp2_with (go_at_call 79; refine cp.mono ?_; rintro e w2 ⟨rfl, hW⟩; have HW := Lib.hid hW; clear hW)
      have hR2 := hRd.wr HW.out (L' := (a ++ b ++ SX ++ DX ++ t)) (a := a ++ b ++ SX) (b := d) (c := t) (by simp [List.append_assoc]) (by simp only [List.length_append, HL.out.1, HL.out.2.1, HX.out]) (by first | rw [HX.out, HL.out.2.2.1] | rw [HX2.out, HL.out.2.2.2]) (by simp [List.append_assoc])
      refine ⟨⟨2, by simp, by omega, by simpa using hR2, hKd.trans (HW.out.keptB hRd.lt), ?_, ?_⟩, by simp [intOf]⟩
      · rw [HW.out.block _ (by have := hBs; omega) (Array.getElem?_eq_some_iff.1 hFd).1]; exact hFd
      · rw [HW.out.block _ (by have := hBs; omega) (Array.getElem?_eq_some_iff.1 hAd).1]; exact hAd
    | 2, _ =>
      have hR : Row wr B (a ++ b ++ SX ++ DX ++ t) := by simpa using hR
      obtain ⟨⟨f0, f1, f2, f3, f4, f5⟩, _⟩ := cells6 hF
      have cS := setsum_any B N a b (SX ++ DX) t HL.out.1 HL.out.2.1 (by rw [List.length_append, HX.out, HX2.out]) (by have := HN.out; omega) (by omega) (w := wr) (by have := hR; simpa [List.append_assoc] using this)
      have HR := Lib.hid hR
      have HK := Lib.hid hK
      clear hR hK p1 p2 s1 s2 hA
      go_wp2_with (go_at_call 80; refine cS.mono ?_; rintro e w2 ⟨rfl, hW⟩; have HW := Lib.hid hW; clear hW)
      simp [bodyPost, results, Try.results61, go_sem]
      refine ⟨HR.out.wr HW.out (a := a) (b := b) (c := SX ++ DX ++ t) (by simp [List.append_assoc]) HL.out.1 (by rw [beB_len, HL.out.2.1]) (by simp [List.append_assoc]), HK.out.trans (HW.out.keptB HR.out.lt)⟩

set_option maxHeartbeats 2000000 in
set_option maxRecDepth 100000 in
theorem setaddr16 (B N sh sl dh dl : Nat) (a s d t : List UInt8) (hsh : sh < 18446744073709551616) (hsl : sl < 18446744073709551616) (hdh : dh < 18446744073709551616) (hdl : dl < 18446744073709551616) (ha : a.length = 8) (hs : s.length = 16) (hd : d.length = 16) (hN : N = 40 + t.length) (hNm : N ≤ 100000) {w : World} (hR : Row w B (a ++ s ++ d ++ t)) :
    Calls Try.prog 61 #[.agg (famCells true), .slice (some ⟨B, 0, none⟩) N N, .agg #[.int .u64 (sh : Nat), .int .u64 (sl : Nat), .int .u64 (dh : Nat), .int .u64 (dl : Nat)]] w fun e w' => e = .returned (.tuple #[]) ∧ Row w' B (a ++ (beB 8 sh ++ beB 8 sl) ++ (beB 8 dh ++ beB 8 dl) ++ t) ∧ Kept w B w' := by
  have hX : (beB 8 sh ++ beB 8 sl).length = 16 := by simp [beB_len]
  have hX2 : (beB 8 dh ++ beB 8 dl).length = 16 := by simp [beB_len]
  have p1 := fun (W : World) (hr : Room W B 8 16) => paddr16 B 8 (N - 8) sh sl (by omega) (by omega) (by omega) (by omega) hr
  have p2 := fun (W : World) (hr : Room W B 24 16) => paddr16 B 24 (N - 24) dh dl (by omega) (by omega) (by omega) (by omega) hr
  have s1 : ∀ W, (Instr.slice 22 (.slice (some ⟨B, 0, none⟩) N N) (some (.int .i64 8)) (some (.int .i64 24)) none).run Try.prog W = .ok (.slice (some ⟨B, 8, none⟩) 16 (N - 8)) W := by have := cut_lh B 0 N N 8 24 (by omega) (by omega) (by omega) (by omega); simpa using this
  have s2 : ∀ W, (Instr.slice 22 (.slice (some ⟨B, 0, none⟩) N N) (some (.int .i64 24)) (some (.int .i64 40)) none).run Try.prog W = .ok (.slice (some ⟨B, 24, none⟩) 16 (N - 24)) W := by have := cut_lh B 0 N N 24 40 (by omega) (by omega) (by omega) (by omega); simpa using this
  have s3 : ∀ W, (Instr.slice 22 (.slice (some ⟨B, 0, none⟩) N N) none (some (.int .i64 40)) none).run Try.prog W = .ok (.slice (some ⟨B, 0, none⟩) 40 N) W := cut_h B 0 N N 40 (by omega) (by omega)
  have wk1 : IntKind.i64.wrap 8 = 8 := by decide
  have wk2 : IntKind.i64.wrap 24 = 24 := by decide
  have wk3 : IntKind.i64.wrap 40 = 40 := by decide
  generalize (beB 8 sh ++ beB 8 sl) = SX at *
  generalize (beB 8 dh ++ beB 8 dl) = DX at *
  have hBs := hR.lt
  have HL : Hid (a.length = 8 ∧ True ∧ s.length = 16 ∧ d.length = 16) := Lib.hid ⟨ha, trivial, hs, hd⟩
  have HX := Lib.hid hX
  have HX2 := Lib.hid hX2
  have HN := Lib.hid hN
  clear hsh hsl hdh hdl hs hd hX hX2 hN ha
  simp only [famCells, if_true, if_false, Bool.false_eq_true]
  go_enter Try.func61, Try.ntmps61
  go_wp2
  go_loopw [8] (fun v8 wr => ∃ k : Nat, v8 = .int .i64 k ∧ k ≤ 2 ∧ Row wr B (if k = 0 then (a ++ s ++ d ++ t) else if k = 1 then (a ++ SX ++ d ++ t) else (a ++ SX ++ DX ++ t)) ∧ Kept w B wr ∧ wr.heap[w.heap.size]? = some (.cells #[.bool true, .int .i64 40, .int .i64 7, .int .i64 6, .int .i64 8, .int .i64 16] 69 (0, 0)) ∧ wr.heap[w.heap.size + 1]? = some (.cells #[.int .u64 (sh : Nat), .int .u64 (sl : Nat), .int .u64 (dh : Nat), .int .u64 (dl : Nat)] 98 (0, 0))) (fun v8 _ => 2 - (intOf v8).toNat)
  case atStart =>
    refine ⟨0, rfl, by omega, ?_, Below.keptB (Below.al (Below.al (Below.refl _ _) _) _) (by omega), (al_oldw (by first | (simp; done) | (simp; omega)) _).trans (al_neww rfl _), al_neww (by simp) _⟩
    rw [if_pos rfl]
    exact hR.below (Below.al (Below.al (Below.refl _ _) _) _)
  case round =>
    obtain ⟨k, rfl, hk, hR, hK, hF, hA⟩ := hrel
    match k, hk with
    | 0, _ =>
      have hR : Row wr B (a ++ s ++ d ++ t) := by simpa using hR
      obtain ⟨⟨f0, f1, f2, f3, f4, f5⟩, _⟩ := cells6 hF
      obtain ⟨⟨a0, a1, a2, a3⟩, _⟩ := cells4 hA
      have hrm : Room wr.drew B 8 16 := by have := hR.room (o := 8) (m := 16) (by simp only [List.length_append, HL.out.1, HL.out.2.1, HL.out.2.2.1, HL.out.2.2.2, HX.out]; omega); exact this
      have cp := p1 wr.drew hrm
      clear hrm
      go_wp2_with fail
      refine wp_region_still_tail 10 (by kernel_rfl) (by kernel_rfl) ?_
      simp only [List.take_succ_cons, List.take_zero, List.drop_succ_cons, List.drop_zero]
      repeat still_step
      try refine wpStill_nil ?_
      change wpList _ _ _ _ _ wr.drew
      have hRd : Row wr.drew B (a ++ s ++ d ++ t) := hR
      have hFd : wr.drew.heap[w.heap.size]? = _ := hF
      have hAd : wr.drew.heap[w.heap.size + 1]? = _ := hA
      have hKd : Kept w B wr.drew := fun N w0 h0 hN => (hK N w0 h0 hN).drew
      clear hR hF hA hK f0 f1 f2 f3 f4 f5 a0 a1 a2 a3
      generalize wr.drew = wd at *
      go_wp2_with (go_at_call 79; refine cp.mono ?_; rintro e w2 ⟨rfl, hW⟩; have HW := Lib.hid hW; clear hW)
      have hR2 := hRd.wr HW.out (L' := (a ++ SX ++ d ++ t)) (a := a) (b := s) (c := (d ++ t)) (by simp [List.append_assoc]) (by simp only [List.length_append, HL.out.1, HL.out.2.1, HX.out]) (by first | rw [HX.out, HL.out.2.2.1] | rw [HX2.out, HL.out.2.2.2]) (by simp [List.append_assoc])
      refine ⟨⟨1, by simp, by omega, by simpa using hR2, hKd.trans (HW.out.keptB hRd.lt), ?_, ?_⟩, by simp [intOf]⟩
      · rw [HW.out.block _ (by have := hBs; omega) (Array.getElem?_eq_some_iff.1 hFd).1]; exact hFd
      · rw [HW.out.block _ (by have := hBs; omega) (Array.getElem?_eq_some_iff.1 hAd).1]; exact hAd
    | 1, _ =>
      have hR : Row wr B (a ++ SX ++ d ++ t) := by simpa using hR
      obtain ⟨⟨f0, f1, f2, f3, f4, f5⟩, _⟩ := cells6 hF
      obtain ⟨⟨a0, a1, a2, a3⟩, _⟩ := cells4 hA
      have hrm : Room wr.drew B 24 16 := by have := hR.room (o := 24) (m := 16) (by simp only [List.length_append, HL.out.1, HL.out.2.1, HL.out.2.2.1, HL.out.2.2.2, HX.out]; omega); exact this
      have cp := p2 wr.drew hrm
      clear hrm
      go_wp2_with fail
      refine wp_region_still_tail 10 (by kernel_rfl) (by kernel_rfl) ?_
      simp only [List.take_succ_cons, List.take_zero, List.drop_succ_cons, List.drop_zero]
      repeat still_step
      try refine wpStill_nil ?_
      change wpList _ _ _ _ _ wr.drew
      have hRd : Row wr.drew B (a ++ SX ++ d ++ t) := hR
      have hFd : wr.drew.heap[w.heap.size]? = _ := hF
      have hAd : wr.drew.heap[w.heap.size + 1]? = _ := hA
      have hKd : Kept w B wr.drew := fun N w0 h0 hN => (hK N w0 h0 hN).drew
      clear hR hF hA hK f0 f1 f2 f3 f4 f5 a0 a1 a2 a3
      generalize wr.drew = wd at *
      go_wp2_with (go_at_call 79; refine cp.mono ?_; rintro e w2 ⟨rfl, hW⟩; have HW := Lib.hid hW; clear hW)
      have hR2 := hRd.wr HW.out (L' := (a ++ SX ++ DX ++ t)) (a := a ++ SX) (b := d) (c := t) (by simp [List.append_assoc]) (by simp only [List.length_append, HL.out.1, HL.out.2.1, HX.out]) (by first | rw [HX.out, HL.out.2.2.1] | rw [HX2.out, HL.out.2.2.2]) (by simp [List.append_assoc])
      refine ⟨⟨2, by simp, by omega, by simpa using hR2, hKd.trans (HW.out.keptB hRd.lt), ?_, ?_⟩, by simp [intOf]⟩
      · rw [HW.out.block _ (by have := hBs; omega) (Array.getElem?_eq_some_iff.1 hFd).1]; exact hFd
      · rw [HW.out.block _ (by have := hBs; omega) (Array.getElem?_eq_some_iff.1 hAd).1]; exact hAd
    | 2, _ =>
      have hR : Row wr B (a ++ SX ++ DX ++ t) := by simpa using hR
      obtain ⟨⟨f0, f1, f2, f3, f4, f5⟩, _⟩ := cells6 hF
      have HR := Lib.hid hR
      have HK := Lib.hid hK
      clear hR hK p1 p2 s1 s2 s3 hA
      go_wp2
      simp [bodyPost, results, Try.results61, go_sem]
      refine ⟨?_, HK.out⟩
      have := HR.out
      simpa [List.append_assoc] using this
end Go.Proofs.Ytpmbdjdhgcjkfaa
