/- Texts of ranges are read, as they were printed: the program's way; by-name template. -/
import Derived.Test.YtaafflmkfdicdaaDoorARngD
namespace Go.Proofs.YtaafflmkfdicdaaDoor
open Go.RowKit Go.Sort
set_option linter.unusedVariables false
set_option linter.unusedSimpArgs false

theorem heap_set4 {w : World} {B : Nat} {x y z u : Value} {t : TypeId} {fz : Nat × Nat} (h : w.heap[B]? = some (.cells #[x, y, z, u] t fz)) (a b c d : Value) :
    ((((w.setCell ⟨B, 0, none⟩ a).setCell ⟨B, 1, none⟩ b).setCell ⟨B, 2, none⟩ c).setCell ⟨B, 3, none⟩ d).heap[B]? = some (.cells #[a, b, c, d] t fz) := by
  have := heap_set (heap_set (heap_set (heap_set h 0 a) 1 b) 2 c) 3 d
  simpa using this

theorem below_set4 {N B : Nat} {w w1 : World} (h : Below N w w1) (hB : N ≤ B) (a b c d : Value) : Below N w ((((w1.setCell ⟨B, 0, none⟩ a).setCell ⟨B, 1, none⟩ b).setCell ⟨B, 2, none⟩ c).setCell ⟨B, 3, none⟩ d) :=
  below_set (below_set (below_set (below_set h hB 0 a) hB 1 b) hB 2 c) hB 3 d

theorem frz_of {w : World} {B : Nat} {x y z u : Value} {t : TypeId} (h : w.heap[B]? = some (.cells #[x, y, z, u] t (0, 0))) : w.frozen? ⟨B, 0, none⟩ = false ∧ w.frozen? ⟨B, 1, none⟩ = false ∧ w.frozen? ⟨B, 2, none⟩ = false ∧ w.frozen? ⟨B, 3, none⟩ = false := by
  refine ⟨?_, ?_, ?_, ?_⟩ <;> simp [World.frozen?, h]

theorem res_quad {fn : Func} {p u : Tmp} (h : fn.results = #[.cell p 26, .tmp u]) (tmps : Array Value) (W : World) (g : Nat) (A B C D : Value) (hp : tmps.getD p undef = .pointer (some ⟨g, 0, none⟩)) (hg : W.heap[g]? = some (.cells #[A, B, C, D] 26 (0, 0))) :
    (results fn tmps).run Tryd.prog W = .ok (.tuple #[.agg #[A, B, C, D], tmps.getD u undef]) W := by
  rw [results_cell_tmp h, hp]
  have e : (asAddr (.pointer (some ⟨g, 0, none⟩))).run Tryd.prog W = .ok ⟨g, 0, none⟩ W := rfl
  rw [e]
  simp only [Result.andThen]
  rw [run_loadVar_row W g 26 26 #[A, B, C, D] (0, 0) _ hg Tryd.underlying26 rfl (by kernel_rfl)]

set_option maxHeartbeats 400000 in
set_option maxRecDepth 100000 in
theorem pnum_any (n : Nat) (hn : n ≤ 128) {w : World} (hG : Glob w) : Calls Tryd.prog 36 #[.string ⟨(digs 10 n).toArray⟩] w fun e w' => e = .returned (.tuple #[.int .i64 (n : Nat), .bool true]) ∧ Below w.heap.size w w' := by
  have ld := digs10_len (n := n) 2 (by omega)
  have ha := atoi_digs (n := n) (by omega)
  have ci := fun (W : World) (hg : Glob W) => itoa_any n hn hg
  obtain ⟨S, hS⟩ : ∃ S : ByteArray, S = ⟨(digs 10 n).toArray⟩ := ⟨_, rfl⟩
  have hSd : S.data.toList = digs 10 n := by rw [hS]
  have hSs : S.size ≤ 3 := by rw [← hSd, ← Lib.size_eq] at ld; exact ld
  rw [← hSd] at ha
  rw [← hS] at ci ⊢
  have cat := fun W => (Tryd.strconv_Atoi_ok S (by omega) (n : Int) ha W).mono (fun e w' ⟨h1, h2⟩ => show e = _ ∧ Below W.heap.size W w' from ⟨h1, by rcases h2 with h2 | ⟨t, h2⟩ <;> rw [h2]; exact Below.refl _ _; exact Lib.bytesWorld_below _ _ _⟩)
  have hSi : (S.size : Int) ≤ 3 := by omega
  have hSt : ¬ (10 : Int) < (S.size : Int) := by omega
  have hSd2 : decide (10 < S.size) = false := by simp; omega
  have hni : (n : Int) ≤ 128 := by omega
  have hn0 : decide ((n : Int) < 0) = false := by simp
  clear hS hSd ha ld
  go_enter Tryd.func36, Tryd.ntmps36
  go_wp2_with (first
    | (go_at_call 44; refine (cat _).mono ?_; rintro e w2 ⟨rfl, hb2⟩)
    | (go_at_call 12; refine (ci _ (hG.on hb2)).mono ?_; rintro e w3 ⟨rfl, hb3⟩))
  go_ret2
  exact ⟨rfl, bel_via hb2 hb3⟩

set_option maxHeartbeats 1000000 in
set_option maxRecDepth 100000 in
theorem ppre_any (A : ByteArray) (hA : A.size ≤ 281474976) (fh fl : Nat) (hp : parseP A.data.toList = some (fh, fl)) (n : Nat) (hn : n ≤ 128) (th tl : Int) (hv : preV (fh : Int) (fl : Int) (n : Int) = some (th, tl)) {w : World} (hG : Glob w) :
    Calls Tryd.prog 19 #[.string A, .string ⟨(digs 10 n).toArray⟩] w fun e w' => e = .returned (.tuple #[.agg #[.int .u64 (fh : Nat), .int .u64 (fl : Nat), .int .u64 th, .int .u64 tl], .int .i64 0]) ∧ Below w.heap.size w w' := by
  have hw := (parseP_some hp).2
  have cpa := fun (W : World) (hg : Glob W) => parse_any A hA hg
  rw [hp] at cpa
  simp only [parseT] at cpa
  have cn := fun (W : World) (hg : Glob W) => pnum_any n hn hg
  have cpf := pre_any (fh : Int) (fl : Int) (n : Int) ⟨by omega, by omega⟩ ⟨by omega, by omega⟩ (by omega) (by omega)
  have e : preT (fh : Int) (fl : Int) (n : Int) = .tuple #[.agg #[.int .u64 (fh : Int), .int .u64 (fl : Int), .int .u64 th, .int .u64 tl], .int .i64 0] := by unfold preT; rw [hv]
  rw [e] at cpf
  obtain ⟨S, hS⟩ : ∃ S : ByteArray, S = ⟨(digs 10 n).toArray⟩ := ⟨_, rfl⟩
  rw [← hS] at cn ⊢
  have f0 : (fh : Int) < 18446744073709551616 := by omega
  have f1 : (fl : Int) < 18446744073709551616 := by omega
  clear hS e hv hp hw
  go_enter Tryd.func19, Tryd.ntmps19
  go_wp2_with (go_at_call 21; refine (cpa _ (hG.on (Below.al (Below.refl _ _) _))).mono ?_; rintro e w2 ⟨rfl, hb2⟩; refine Hid.out ?_)
  have bw2 : Below w.heap.size w w2 := bel_via (Below.al (Below.refl _ w) _) hb2
  have hz2 : w.heap.size < w2.heap.size := by have := hb2.size; simp at this; omega
  have hH2 : w2.heap[w.heap.size]? = some (.cells #[.int .u64 0, .int .u64 0, .int .u64 0, .int .u64 0] 26 (0, 0)) := by rw [hb2.block _ (by simp)]; exact al_new rfl _
  clear hb2 cpa
  refine Lib.hid ?_
  go_wp2_with (go_at_call 36; refine (cn _ (hG.on (bel_via bw2 (Below.al (Below.refl _ _) _)))).mono ?_; rintro e w3 ⟨rfl, hb3⟩; refine Hid.out ?_)
  have hz3 : w2.heap.size < w3.heap.size := by have := hb3.size; simp at this; omega
  have hA3 : w3.heap[w2.heap.size]? = some (.cells #[.int .u64 (fh : Nat), .int .u64 (fl : Nat)] 24 (0, 0)) := by rw [hb3.block _ (by simp)]; exact al_new rfl _
  have hH3 : w3.heap[w.heap.size]? = some (.cells #[.int .u64 0, .int .u64 0, .int .u64 0, .int .u64 0] 26 (0, 0)) := by rw [hb3.block _ (by simp; omega), al_old hz2]; exact hH2
  have bw3 : Below w.heap.size w w3 := bel_via (Below.al bw2 _) hb3
  obtain ⟨a0, a1, _, _⟩ := cells_of hA3
  clear hb3 cn hH2 bw2
  refine Lib.hid ?_
  go_wp2_with (go_at_call 24; refine (cpf _).mono ?_; rintro e w4 ⟨rfl, hb4⟩; refine Hid.out ?_)
  have hH4 : w4.heap[w.heap.size]? = some (.cells #[.int .u64 0, .int .u64 0, .int .u64 0, .int .u64 0] 26 (0, 0)) := by rw [hb4.block _ (by omega)]; exact hH3
  have bw4 := bel_via bw3 hb4
  obtain ⟨c0, c1, c2, c3⟩ := rcells_of hH4
  obtain ⟨g0, g1, g2, g3⟩ := frz_of hH4
  clear hb4 cpf hH3 bw3 a0 a1 hA3
  refine Lib.hid ?_
  go_wp2
  refine bodyPost_ret_by (res_quad Tryd.results19 _ _ w.heap.size (.int .u64 (fh : Nat)) (.int .u64 (fl : Nat)) (.int .u64 th) (.int .u64 tl) rfl (heap_set4 hH4 _ _ _ _)) rfl ⟨rfl, below_set4 bw4 (Nat.le_refl _) _ _ _ _⟩

set_option maxHeartbeats 1000000 in
set_option maxRecDepth 100000 in
theorem pends_any (A B : ByteArray) (hA : A.size ≤ 281474976) (hB : B.size ≤ 281474976) (fh fl th tl : Nat) (hp : parseP A.data.toList = some (fh, fl)) (hq : parseP B.data.toList = some (th, tl)) (hc : cmpA (fh : Int) fl th tl ≤ 0) (hi : is4I (fh : Int) fl = is4I (th : Int) tl) {w : World} (hG : Glob w) :
    Calls Tryd.prog 20 #[.string A, .string B] w fun e w' => e = .returned (.tuple #[.agg #[.int .u64 (fh : Nat), .int .u64 (fl : Nat), .int .u64 (th : Nat), .int .u64 (tl : Nat)], .int .i64 0]) ∧ Below w.heap.size w w' := by
  have hw := (parseP_some hp).2
  have hw2 := (parseP_some hq).2
  have cpa := fun (W : World) (hg : Glob W) => parse_any A hA hg
  have cpb := fun (W : World) (hg : Glob W) => parse_any B hB hg
  rw [hp] at cpa
  rw [hq] at cpb
  simp only [parseT] at cpa cpb
  have ccm := cmp_any (fh : Int) (fl : Int) (th : Int) (tl : Int)
  have ci1 := is4_any (fh : Int) (fl : Int) ⟨by omega, by omega⟩ ⟨by omega, by omega⟩
  have ci2 := is4_any (th : Int) (tl : Int) ⟨by omega, by omega⟩ ⟨by omega, by omega⟩
  rw [← hi] at ci2
  obtain ⟨c, hce⟩ : ∃ c, c = cmpA (fh : Int) fl th tl := ⟨_, rfl⟩
  rw [← hce] at ccm hc
  obtain ⟨i1, hie⟩ : ∃ i, i = is4I (fh : Int) fl := ⟨_, rfl⟩
  rw [← hie] at ci1 ci2
  have hcd : decide (0 < c) = false := by simp; omega
  have f0 : (fh : Int) < 18446744073709551616 := by omega
  have f1 : (fl : Int) < 18446744073709551616 := by omega
  have f2 : (th : Int) < 18446744073709551616 := by omega
  have f3 : (tl : Int) < 18446744073709551616 := by omega
  clear hce hi hie hp hq hw hw2
  go_enter Tryd.func20, Tryd.ntmps20
  go_wp2_with (go_at_call_of 21 (Value.string A); refine (cpa _ (hG.on (Below.al (Below.refl _ _) _))).mono ?_; rintro e w2 ⟨rfl, hb2⟩; refine Hid.out ?_)
  have bw2 : Below w.heap.size w w2 := bel_via (Below.al (Below.refl _ w) _) hb2
  have hz2 : w.heap.size < w2.heap.size := by have := hb2.size; simp at this; omega
  have hH2 : w2.heap[w.heap.size]? = some (.cells #[.int .u64 0, .int .u64 0, .int .u64 0, .int .u64 0] 26 (0, 0)) := by rw [hb2.block _ (by simp)]; exact al_new rfl _
  clear hb2 cpa
  refine Lib.hid ?_
  go_wp2_with (go_at_call 21; refine (cpb _ (hG.on (bel_via bw2 (Below.al (Below.refl _ _) _)))).mono ?_; rintro e w3 ⟨rfl, hb3⟩; refine Hid.out ?_)
  have hz3 : w2.heap.size < w3.heap.size := by have := hb3.size; simp at this; omega
  have hA3 : w3.heap[w2.heap.size]? = some (.cells #[.int .u64 (fh : Nat), .int .u64 (fl : Nat)] 24 (0, 0)) := by rw [hb3.block _ (by simp)]; exact al_new rfl _
  have hH3 : w3.heap[w.heap.size]? = some (.cells #[.int .u64 0, .int .u64 0, .int .u64 0, .int .u64 0] 26 (0, 0)) := by rw [hb3.block _ (by simp; omega), al_old hz2]; exact hH2
  have bw3 : Below w.heap.size w w3 := bel_via (Below.al bw2 _) hb3
  clear hb3 cpb hH2 bw2
  refine Lib.hid ?_
  go_wp2
  obtain ⟨w4, hw4⟩ : ∃ v, v = w3.alloc (.cells #[.int .u64 (th : Nat), .int .u64 (tl : Nat)] 24) := ⟨_, rfl⟩
  have hA4 : w4.heap[w2.heap.size]? = some (.cells #[.int .u64 (fh : Nat), .int .u64 (fl : Nat)] 24 (0, 0)) := by rw [hw4, al_old hz3]; exact hA3
  have hB4 : w4.heap[w3.heap.size]? = some (.cells #[.int .u64 (th : Nat), .int .u64 (tl : Nat)] 24 (0, 0)) := by rw [hw4]; exact al_new rfl _
  have hH4 : w4.heap[w.heap.size]? = some (.cells #[.int .u64 0, .int .u64 0, .int .u64 0, .int .u64 0] 26 (0, 0)) := by rw [hw4, al_old (by omega)]; exact hH3
  have bw4 : Below w.heap.size w w4 := by rw [hw4]; exact Below.al bw3 _
  obtain ⟨BA, hBA⟩ : ∃ b, b = w2.heap.size := ⟨_, rfl⟩
  obtain ⟨BB, hBB⟩ : ∃ b, b = w3.heap.size := ⟨_, rfl⟩
  rw [← hw4, ← hBA, ← hBB]
  rw [← hBA] at hA4
  rw [← hBB] at hB4
  have hzA : BA < w4.heap.size := (Array.getElem?_eq_some_iff.1 hA4).1
  have hzB : BB < w4.heap.size := (Array.getElem?_eq_some_iff.1 hB4).1
  have hzH : w.heap.size < w4.heap.size := (Array.getElem?_eq_some_iff.1 hH4).1
  clear hw4 hBA hBB hA3 hH3 bw3 hz2 hz3
  obtain ⟨a0, a1, _, _⟩ := cells_of hA4
  obtain ⟨b0, b1, _, _⟩ := cells_of hB4
  have k0 := cell_regrown a0
  have k1 := cell_regrown a1
  have k2 := cell_regrown b0
  have k3 := cell_regrown b1
  have qm := fun d os => Calls.regrown_of (ccm (grow (redrawn w4 d) os))
  have q1 := fun d os => Calls.regrown_of (ci1 (grow (redrawn w4 d) os))
  have q2 := fun d os => Calls.regrown_of (ci2 (grow (redrawn w4 d) os))
  clear a0 a1 b0 b1 ccm ci1 ci2 hc
  cases i1 with
  | false =>
    refine wp_region_quiet_below (by kernel_rfl) (by kernel_rfl) ?_
    repeat (first | go_big_quiet_skip | quiet_step (first | (go_at_call 9; with_reducible exact qm _ _) | (go_at_call_of 10 (Value.agg #[Value.int IntKind.u64 (fh : Int), Value.int IntKind.u64 (fl : Int)]); with_reducible exact q1 _ _) | (go_at_call 10; with_reducible exact q2 _ _)))
    refine wpQuiet_nil ?_
    intro _ hw'
    obtain ⟨⟨dq, osq⟩, hw''⟩ := hw'
    subst hw''
    obtain ⟨w5, hw5⟩ : ∃ v, v = grow (redrawn w4 dq) osq := ⟨_, rfl⟩
    have b45 : Below w4.heap.size w4 w5 := by rw [hw5]; exact below_regrown w4 dq osq
    have hA5 : w5.heap[BA]? = some (.cells #[.int .u64 (fh : Nat), .int .u64 (fl : Nat)] 24 (0, 0)) := by rw [b45.block _ hzA]; exact hA4
    have hB5 : w5.heap[BB]? = some (.cells #[.int .u64 (th : Nat), .int .u64 (tl : Nat)] 24 (0, 0)) := by rw [b45.block _ hzB]; exact hB4
    have hH5 : w5.heap[w.heap.size]? = some (.cells #[.int .u64 0, .int .u64 0, .int .u64 0, .int .u64 0] 26 (0, 0)) := by rw [b45.block _ hzH]; exact hH4
    have bw5 := bel_via bw4 b45
    rw [← hw5]
    clear hw5 k0 k1 k2 k3 qm q1 q2
    obtain ⟨a0, a1, _, _⟩ := cells_of hA5
    obtain ⟨b0, b1, _, _⟩ := cells_of hB5
    obtain ⟨c0, c1, c2, c3⟩ := rcells_of hH5
    obtain ⟨g0, g1, g2, g3⟩ := frz_of hH5
    go_wp2
    refine bodyPost_ret_by (res_quad Tryd.results20 _ _ w.heap.size (.int .u64 (fh : Nat)) (.int .u64 (fl : Nat)) (.int .u64 (th : Nat)) (.int .u64 (tl : Nat)) rfl (heap_set4 hH5 _ _ _ _)) rfl ⟨rfl, below_set4 bw5 (Nat.le_refl _) _ _ _ _⟩
  | true =>
    refine wp_region_quiet_below (by kernel_rfl) (by kernel_rfl) ?_
    repeat (first | go_big_quiet_skip | quiet_step (first | (go_at_call 9; with_reducible exact qm _ _) | (go_at_call_of 10 (Value.agg #[Value.int IntKind.u64 (fh : Int), Value.int IntKind.u64 (fl : Int)]); with_reducible exact q1 _ _) | (go_at_call 10; with_reducible exact q2 _ _)))
    refine wpQuiet_nil ?_
    intro _ hw'
    obtain ⟨⟨dq, osq⟩, hw''⟩ := hw'
    subst hw''
    obtain ⟨w5, hw5⟩ : ∃ v, v = grow (redrawn w4 dq) osq := ⟨_, rfl⟩
    have b45 : Below w4.heap.size w4 w5 := by rw [hw5]; exact below_regrown w4 dq osq
    have hA5 : w5.heap[BA]? = some (.cells #[.int .u64 (fh : Nat), .int .u64 (fl : Nat)] 24 (0, 0)) := by rw [b45.block _ hzA]; exact hA4
    have hB5 : w5.heap[BB]? = some (.cells #[.int .u64 (th : Nat), .int .u64 (tl : Nat)] 24 (0, 0)) := by rw [b45.block _ hzB]; exact hB4
    have hH5 : w5.heap[w.heap.size]? = some (.cells #[.int .u64 0, .int .u64 0, .int .u64 0, .int .u64 0] 26 (0, 0)) := by rw [b45.block _ hzH]; exact hH4
    have bw5 := bel_via bw4 b45
    rw [← hw5]
    clear hw5 k0 k1 k2 k3 qm q1 q2
    obtain ⟨a0, a1, _, _⟩ := cells_of hA5
    obtain ⟨b0, b1, _, _⟩ := cells_of hB5
    obtain ⟨c0, c1, c2, c3⟩ := rcells_of hH5
    obtain ⟨g0, g1, g2, g3⟩ := frz_of hH5
    go_wp2
    refine bodyPost_ret_by (res_quad Tryd.results20 _ _ w.heap.size (.int .u64 (fh : Nat)) (.int .u64 (fl : Nat)) (.int .u64 (th : Nat)) (.int .u64 (tl : Nat)) rfl (heap_set4 hH5 _ _ _ _)) rfl ⟨rfl, below_set4 bw5 (Nat.le_refl _) _ _ _ _⟩
end Go.Proofs.YtaafflmkfdicdaaDoor
