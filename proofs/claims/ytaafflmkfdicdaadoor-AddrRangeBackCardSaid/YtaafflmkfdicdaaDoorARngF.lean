/- ParseRange at texts that were printed; AddrRangeBack's walk; by-name template. -/
import Derived.Test.YtaafflmkfdicdaaDoorARngE
namespace Go.Proofs.YtaafflmkfdicdaaDoor
open Go.RowKit Go.Sort
set_option linter.unusedVariables false
set_option linter.unusedSimpArgs false

theorem scut_any (s : ByteArray) (c : UInt8) (hs : s.size ≤ 281474976) {w : World} (hG : Glob w) : Calls Tryd.prog 18 #[.string s, .string ⟨#[c]⟩] w fun e w' => e = .returned (.tuple #[.string ⟨(Lib.cut s.data.toList [c]).1.toArray⟩, .string ⟨(Lib.cut s.data.toList [c]).2.1.toArray⟩, .bool (Lib.cut s.data.toList [c]).2.2]) ∧ Below w.heap.size w w' := by
  obtain ⟨m, hm⟩ := hG.ml
  exact (Tryd.strings_Cut s ⟨#[c]⟩ m w (by omega) hm).mono fun e w' ⟨h1, n, h2⟩ => ⟨h1, by rw [h2]; exact Below.drN (Below.refl _ _) n⟩

set_option maxHeartbeats 1000000 in
set_option maxRecDepth 100000 in
theorem prng_one (s : ByteArray) (hs : s.size ≤ 281474976) (fh fl : Nat) (hp : parseP s.data.toList = some (fh, fl)) (h47 : (47 : UInt8) ∉ s.data.toList) (h45 : (45 : UInt8) ∉ s.data.toList) {w : World} (hG : Glob w) :
    Calls Tryd.prog 6 #[.string s] w fun e w' => e = .returned (.tuple #[.agg #[.int .u64 (fh : Nat), .int .u64 (fl : Nat), .int .u64 (fh : Nat), .int .u64 (fl : Nat)], .int .i64 0]) ∧ Below w.heap.size w w' := by
  have c1 := fun (W : World) (hg : Glob W) => scut_any s 47 hs hg
  have c2 := fun (W : World) (hg : Glob W) => scut_any s 45 hs hg
  rw [cut_no 47 _ h47] at c1
  rw [cut_no 45 _ h45] at c2
  have cpa := fun (W : World) (hg : Glob W) => parse_any s hs hg
  have hw := (parseP_some hp).2
  rw [hp] at cpa
  simp only [parseT] at cpa
  have f0 : (fh : Int) < 18446744073709551616 := by omega
  have f1 : (fl : Int) < 18446744073709551616 := by omega
  clear hp h47 h45 hw
  simp only at c1 c2
  go_enter Tryd.func6, Tryd.ntmps6
  go_wp2_with (go_at_call_of 18 (Value.string ⟨#[47]⟩); refine (c1 _ (hG.on (Below.al (Below.refl _ _) _))).mono ?_; rintro e w2 ⟨rfl, hb2⟩; refine Hid.out ?_)
  have bw2 : Below w.heap.size w w2 := bel_via (Below.al (Below.refl _ w) _) hb2
  have hH2 : w2.heap[w.heap.size]? = some (.cells #[.int .u64 0, .int .u64 0, .int .u64 0, .int .u64 0] 26 (0, 0)) := by rw [hb2.block _ (by simp)]; exact al_new rfl _
  have hz2 : w.heap.size < w2.heap.size := (Array.getElem?_eq_some_iff.1 hH2).1
  clear hb2 c1
  refine Lib.hid ?_
  go_wp2_with (go_at_call 18; refine (c2 _ (hG.on bw2)).mono ?_; rintro e w3 ⟨rfl, hb3⟩; refine Hid.out ?_)
  have bw3 := bel_via bw2 hb3
  have hH3 : w3.heap[w.heap.size]? = some (.cells #[.int .u64 0, .int .u64 0, .int .u64 0, .int .u64 0] 26 (0, 0)) := by rw [hb3.block _ hz2]; exact hH2
  have hz3 : w.heap.size < w3.heap.size := (Array.getElem?_eq_some_iff.1 hH3).1
  clear hb3 c2 hH2 bw2 hz2
  refine Lib.hid ?_
  go_wp2_with (go_at_call 21; refine (cpa _ (hG.on bw3)).mono ?_; rintro e w4 ⟨rfl, hb4⟩; refine Hid.out ?_)
  have bw4 := bel_via bw3 hb4
  have hH4 : w4.heap[w.heap.size]? = some (.cells #[.int .u64 0, .int .u64 0, .int .u64 0, .int .u64 0] 26 (0, 0)) := by rw [hb4.block _ hz3]; exact hH3
  have hz4 : w.heap.size < w4.heap.size := (Array.getElem?_eq_some_iff.1 hH4).1
  clear hb4 cpa hH3 bw3 hz3
  refine Lib.hid ?_
  go_wp2_with (with_reducible refine stop_op (o := ⟨some 43, _, _, _, _, _⟩) ?_)
  obtain ⟨w5, hw5⟩ : ∃ v, v = w4.alloc (.cells #[.int .u64 (fh : Nat), .int .u64 (fl : Nat)] 24) := ⟨_, rfl⟩
  have hA5 : w5.heap[w4.heap.size]? = some (.cells #[.int .u64 (fh : Nat), .int .u64 (fl : Nat)] 24 (0, 0)) := by rw [hw5]; exact al_new rfl _
  have hH5 : w5.heap[w.heap.size]? = some (.cells #[.int .u64 0, .int .u64 0, .int .u64 0, .int .u64 0] 26 (0, 0)) := by rw [hw5, al_old hz4]; exact hH4
  have bw5 : Below w.heap.size w w5 := by rw [hw5]; exact Below.al bw4 _
  obtain ⟨a0, a1, _, _⟩ := cells_of hA5
  obtain ⟨d0, d1, d2, d3⟩ := rcells_of hH5
  obtain ⟨g0, g1, g2, g3⟩ := frz_of hH5
  rw [← hw5]
  clear hw5 hH4 bw4
  refine Lib.hid ?_
  go_wp2
  refine bodyPost_ret_by (res_quad Tryd.results6 _ _ w.heap.size (.int .u64 (fh : Nat)) (.int .u64 (fl : Nat)) (.int .u64 (fh : Nat)) (.int .u64 (fl : Nat)) rfl (heap_set4 hH5 _ _ _ _)) rfl ⟨rfl, below_set4 bw5 (Nat.le_refl _) _ _ _ _⟩

set_option maxHeartbeats 1000000 in
set_option maxRecDepth 100000 in
theorem prng_pre (s A : ByteArray) (hs : s.size ≤ 281474976) (hA : A.size ≤ 281474976) (n : Nat) (hn : n ≤ 128) (hcut : Lib.cut s.data.toList [47] = (A.data.toList, digs 10 n, true)) (fh fl : Nat) (hp : parseP A.data.toList = some (fh, fl)) (th tl : Nat) (h2 : th < 18446744073709551616) (h3 : tl < 18446744073709551616) (hv : preV (fh : Int) (fl : Int) (n : Int) = some ((th : Int), (tl : Int))) {w : World} (hG : Glob w) :
    Calls Tryd.prog 6 #[.string s] w fun e w' => e = .returned (.tuple #[.agg #[.int .u64 (fh : Nat), .int .u64 (fl : Nat), .int .u64 (th : Nat), .int .u64 (tl : Nat)], .int .i64 0]) ∧ Below w.heap.size w w' := by
  have c1 := fun (W : World) (hg : Glob W) => scut_any s 47 hs hg
  have c2 := fun (W : World) (hg : Glob W) => scut_any s 45 hs hg
  rw [hcut] at c1
  simp only at c1
  rw [bytes_of (s := A) rfl] at c1
  have cpp := fun (W : World) (hg : Glob W) => ppre_any A hA fh fl hp n hn th tl hv hg
  have hw := (parseP_some hp).2
  obtain ⟨S, hS⟩ : ∃ S : ByteArray, S = ⟨(digs 10 n).toArray⟩ := ⟨_, rfl⟩
  rw [← hS] at c1 cpp
  obtain ⟨X, hX⟩ : ∃ X : ByteArray, X = ⟨(Lib.cut s.data.toList [45]).1.toArray⟩ := ⟨_, rfl⟩
  obtain ⟨Y, hY⟩ : ∃ X : ByteArray, X = ⟨(Lib.cut s.data.toList [45]).2.1.toArray⟩ := ⟨_, rfl⟩
  obtain ⟨b, hb⟩ : ∃ b : Bool, b = (Lib.cut s.data.toList [45]).2.2 := ⟨_, rfl⟩
  rw [← hX, ← hY, ← hb] at c2
  have f0 : (fh : Int) < 18446744073709551616 := by omega
  have f1 : (fl : Int) < 18446744073709551616 := by omega
  have f2 : (th : Int) < 18446744073709551616 := by omega
  have f3 : (tl : Int) < 18446744073709551616 := by omega
  clear hp hcut hS hX hY hb hv hw
  go_enter Tryd.func6, Tryd.ntmps6
  go_wp2_with (go_at_call_of 18 (Value.string ⟨#[47]⟩); refine (c1 _ (hG.on (Below.al (Below.refl _ _) _))).mono ?_; rintro e w2 ⟨rfl, hb2⟩; refine Hid.out ?_)
  have bw2 : Below w.heap.size w w2 := bel_via (Below.al (Below.refl _ w) _) hb2
  have hH2 : w2.heap[w.heap.size]? = some (.cells #[.int .u64 0, .int .u64 0, .int .u64 0, .int .u64 0] 26 (0, 0)) := by rw [hb2.block _ (by simp)]; exact al_new rfl _
  have hz2 : w.heap.size < w2.heap.size := (Array.getElem?_eq_some_iff.1 hH2).1
  clear hb2 c1
  refine Lib.hid ?_
  go_wp2_with (go_at_call 18; refine (c2 _ (hG.on bw2)).mono ?_; rintro e w3 ⟨rfl, hb3⟩; refine Hid.out ?_)
  have bw3 := bel_via bw2 hb3
  have hH3 : w3.heap[w.heap.size]? = some (.cells #[.int .u64 0, .int .u64 0, .int .u64 0, .int .u64 0] 26 (0, 0)) := by rw [hb3.block _ hz2]; exact hH2
  have hz3 : w.heap.size < w3.heap.size := (Array.getElem?_eq_some_iff.1 hH3).1
  clear hb3 c2 hH2 bw2 hz2
  refine Lib.hid ?_
  go_wp2_with (go_at_call 19; refine (cpp _ (hG.on bw3)).mono ?_; rintro e w4 ⟨rfl, hb4⟩; refine Hid.out ?_)
  have bw4 := bel_via bw3 hb4
  have hH4 : w4.heap[w.heap.size]? = some (.cells #[.int .u64 0, .int .u64 0, .int .u64 0, .int .u64 0] 26 (0, 0)) := by rw [hb4.block _ hz3]; exact hH3
  clear hb4 cpp hH3 bw3 hz3
  obtain ⟨d0, d1, d2, d3⟩ := rcells_of hH4
  obtain ⟨g0, g1, g2, g3⟩ := frz_of hH4
  refine Lib.hid ?_
  go_wp2
  refine bodyPost_ret_by (res_quad Tryd.results6 _ _ w.heap.size (.int .u64 (fh : Nat)) (.int .u64 (fl : Nat)) (.int .u64 (th : Nat)) (.int .u64 (tl : Nat)) rfl (heap_set4 hH4 _ _ _ _)) rfl ⟨rfl, below_set4 bw4 (Nat.le_refl _) _ _ _ _⟩

set_option maxHeartbeats 1000000 in
set_option maxRecDepth 100000 in
theorem prng_ends (s A B : ByteArray) (hs : s.size ≤ 281474976) (hA : A.size ≤ 281474976) (hB : B.size ≤ 281474976) (h47 : (47 : UInt8) ∉ s.data.toList) (hcut : Lib.cut s.data.toList [45] = (A.data.toList, B.data.toList, true)) (fh fl th tl : Nat) (hp : parseP A.data.toList = some (fh, fl)) (hq : parseP B.data.toList = some (th, tl)) (hc : cmpA (fh : Int) fl th tl ≤ 0) (hi : is4I (fh : Int) fl = is4I (th : Int) tl) {w : World} (hG : Glob w) :
    Calls Tryd.prog 6 #[.string s] w fun e w' => e = .returned (.tuple #[.agg #[.int .u64 (fh : Nat), .int .u64 (fl : Nat), .int .u64 (th : Nat), .int .u64 (tl : Nat)], .int .i64 0]) ∧ Below w.heap.size w w' := by
  have c1 := fun (W : World) (hg : Glob W) => scut_any s 47 hs hg
  have c2 := fun (W : World) (hg : Glob W) => scut_any s 45 hs hg
  rw [cut_no 47 _ h47] at c1
  rw [hcut] at c2
  simp only at c1 c2
  rw [bytes_of (s := A) rfl, bytes_of (s := B) rfl] at c2
  have cpp := fun (W : World) (hg : Glob W) => pends_any A B hA hB fh fl th tl hp hq hc hi hg
  have hw := (parseP_some hp).2
  have hw2 := (parseP_some hq).2
  have f0 : (fh : Int) < 18446744073709551616 := by omega
  have f1 : (fl : Int) < 18446744073709551616 := by omega
  have f2 : (th : Int) < 18446744073709551616 := by omega
  have f3 : (tl : Int) < 18446744073709551616 := by omega
  clear hp hq hcut h47 hc hi hw hw2
  go_enter Tryd.func6, Tryd.ntmps6
  go_wp2_with (go_at_call_of 18 (Value.string ⟨#[47]⟩); refine (c1 _ (hG.on (Below.al (Below.refl _ _) _))).mono ?_; rintro e w2 ⟨rfl, hb2⟩; refine Hid.out ?_)
  have bw2 : Below w.heap.size w w2 := bel_via (Below.al (Below.refl _ w) _) hb2
  have hH2 : w2.heap[w.heap.size]? = some (.cells #[.int .u64 0, .int .u64 0, .int .u64 0, .int .u64 0] 26 (0, 0)) := by rw [hb2.block _ (by simp)]; exact al_new rfl _
  have hz2 : w.heap.size < w2.heap.size := (Array.getElem?_eq_some_iff.1 hH2).1
  clear hb2 c1
  refine Lib.hid ?_
  go_wp2_with (go_at_call 18; refine (c2 _ (hG.on bw2)).mono ?_; rintro e w3 ⟨rfl, hb3⟩; refine Hid.out ?_)
  have bw3 := bel_via bw2 hb3
  have hH3 : w3.heap[w.heap.size]? = some (.cells #[.int .u64 0, .int .u64 0, .int .u64 0, .int .u64 0] 26 (0, 0)) := by rw [hb3.block _ hz2]; exact hH2
  have hz3 : w.heap.size < w3.heap.size := (Array.getElem?_eq_some_iff.1 hH3).1
  clear hb3 c2 hH2 bw2 hz2
  refine Lib.hid ?_
  go_wp2_with (go_at_call 20; refine (cpp _ (hG.on bw3)).mono ?_; rintro e w4 ⟨rfl, hb4⟩; refine Hid.out ?_)
  have bw4 := bel_via bw3 hb4
  have hH4 : w4.heap[w.heap.size]? = some (.cells #[.int .u64 0, .int .u64 0, .int .u64 0, .int .u64 0] 26 (0, 0)) := by rw [hb4.block _ hz3]; exact hH3
  clear hb4 cpp hH3 bw3 hz3
  obtain ⟨d0, d1, d2, d3⟩ := rcells_of hH4
  obtain ⟨g0, g1, g2, g3⟩ := frz_of hH4
  refine Lib.hid ?_
  go_wp2
  refine bodyPost_ret_by (res_quad Tryd.results6 _ _ w.heap.size (.int .u64 (fh : Nat)) (.int .u64 (fl : Nat)) (.int .u64 (th : Nat)) (.int .u64 (tl : Nat)) rfl (heap_set4 hH4 _ _ _ _)) rfl ⟨rfl, below_set4 bw4 (Nat.le_refl _) _ _ _ _⟩
end Go.Proofs.YtaafflmkfdicdaaDoor
