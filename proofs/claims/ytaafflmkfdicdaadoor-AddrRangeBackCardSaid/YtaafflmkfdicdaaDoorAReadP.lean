/- Any text is read as an address, and Parse; by-name template (gen_areadp.py). -/
import Derived.Test.YtaafflmkfdicdaaDoorARead6
import Derived.Test.YtaafflmkfdicdaaDoorARead4
import Derived.Test.YtaafflmkfdicdaaDoorAPrint
namespace Go.Proofs.YtaafflmkfdicdaaDoor
open Go.RowKit
set_option linter.unusedVariables false
set_option linter.unusedSimpArgs false

theorem index_mem (l : List UInt8) (c : UInt8) : decide (0 ≤ Lib.indexByte l c) = decide (c ∈ l) := by
  by_cases h : c ∈ l
  · have : Lib.indexByte l c ≠ -1 := fun e => by
      obtain ⟨k, hk⟩ := List.getElem?_of_mem h
      exact Lib.indexByte_none e k hk
    have := Lib.indexByte_ge l c
    simp [h]; omega
  · have : Lib.indexByte l c = -1 := by
      by_cases e : Lib.indexByte l c = -1
      · exact e
      · have hg := Lib.indexByte_ge l c
        obtain ⟨o, ho⟩ : ∃ o : Nat, Lib.indexByte l c = o := ⟨(Lib.indexByte l c).toNat, by omega⟩
        exact absurd (List.mem_of_getElem? (Lib.indexByte_some ho).1) h
    simp [h, this]

theorem rgFrom_le : ∀ (l : List (List UInt8)) (acc r : List Nat), (∀ n ∈ acc, n ≤ 65535) → rgFrom l acc = some r → ∀ n ∈ r, n ≤ 65535
  | [], acc, r, ha, h => by
    unfold rgFrom at h
    cases h; exact ha
  | p :: l, acc, r, ha, h => by
    unfold rgFrom at h
    split at h
    · rename_i n hn
      refine rgFrom_le l (acc ++ [n]) r (fun m hm => ?_) h
      rcases List.mem_append.1 hm with h' | h'
      · exact ha m h'
      · have := hexEnd_le hn
        simp at h'; omega
    · cases h

theorem rgP_le {s : List UInt8} {r : List Nat} (h : rgP s = some r) : ∀ n ∈ r, n ≤ 65535 := by
  unfold rgP at h
  split at h
  · cases h; simp
  · exact rgFrom_le _ _ _ (by simp) h

theorem r4From_lt : ∀ (l : List (List UInt8)) (n r : Nat), n < 4294967296 → r4From l n = some r → r < 4294967296
  | [], n, r, hn, h => by
    unfold r4From at h
    cases h; exact hn
  | p :: l, n, r, hn, h => by
    unfold r4From at h
    split at h
    · rename_i b hb
      have := parseB_le hb
      exact r4From_lt l _ r (by omega) h
    · cases h

theorem readP_lt {s : List UInt8} {x : Nat × Nat} (h : readP s = some x) : x.1 < 18446744073709551616 ∧ x.2 < 18446744073709551616 := by
  unfold readP at h
  split at h
  · cases h
  split at h
  · unfold read6P at h
    split at h
    · cases h
    rename_i a h1
    split at h
    · cases h
    rename_i b h2
    split at h
    · cases h
    rename_i h8
    cases h
    have hF := fill_le (rgP_le h1) (rgP_le h2)
    have gd : ∀ k, (fillG a b).getD k 0 ≤ 65535 := by
      intro k
      rw [List.getD_eq_getElem?_getD]
      by_cases hk : k < (fillG a b).length
      · rw [List.getElem?_eq_getElem hk]; exact hF _ (List.getElem_mem _)
      · rw [List.getElem?_eq_none (by omega)]; simp
    have g0 := gd 0
    have g1 := gd 1
    have g2 := gd 2
    have g3 := gd 3
    have g4 := gd 4
    have g5 := gd 5
    have g6 := gd 6
    have g7 := gd 7
    unfold hiOf loOf
    constructor
    · show _ < _
      simp only
      omega
    · show _ < _
      simp only
      omega
  · unfold read4P at h
    split at h
    · cases hr : r4From (splitOn 46 s) 0 with
      | none => rw [hr] at h; cases h
      | some n =>
        rw [hr] at h
        cases h
        have := r4From_lt _ _ _ (by omega) hr
        constructor
        · show (0 : Nat) < _; omega
        · show 281470681743360 + n < _; omega
    · cases h

set_option maxHeartbeats 1000000 in
set_option maxRecDepth 100000 in
theorem read_any (s : ByteArray) (hs : s.size ≤ 281474976) {w : World} (hG : Glob w) : Calls Tryd.prog 37 #[.string s] w fun e w' => e = .returned (readT (readP s.data.toList)) ∧ Below w.heap.size w w' := by
  have hsl : s.data.toList.length = s.size := by rw [Lib.size_eq]
  have hG1 := hG.on (Below.al (Below.refl _ w) (.cells #[.int .u64 0, .int .u64 0] 24))
  have c6 := read6_any s hs hG1
  have c4 := read4_any s hs hG1
  have cc := Tryd.strings_Contains_one s 58 (w.alloc (.cells #[.int .u64 0, .int .u64 0] 24))
  rw [index_mem] at cc
  obtain ⟨R, hR⟩ : ∃ R, R = readP s.data.toList := ⟨_, rfl⟩
  rw [← hR]
  unfold readP at hR
  rw [hsl] at hR
  have hsi : (s.size : Int) ≤ 281474976 := by omega
  by_cases h39 : 39 < s.size
  · rw [if_pos h39] at hR
    subst hR
    have h39i : (39 : Int) < (s.size : Int) := by omega
    clear c6 c4 cc
    go_enter Tryd.func37, Tryd.ntmps37
    go_wp2
    simp [bodyPost, results, Tryd.results37, go_sem, readT]
    repeat (first | exact Below.refl _ _ | apply Below.dr | apply Below.al)
  · rw [if_neg h39] at hR
    have h39i : decide ((39 : Int) < (s.size : Int)) = false := by simp; omega
    have h39n : (s.size : Int) ≤ 39 := by omega
    by_cases h58 : (58 : UInt8) ∈ s.data.toList
    · rw [if_pos h58] at hR
      rw [decide_eq_true h58] at cc
      clear h58
      cases hp : read6P s.data.toList with
      | none =>
        rw [hp] at c6 hR
        simp only [readT] at c6
        clear hp
        go_enter Tryd.func37, Tryd.ntmps37
        go_wp2_with (first
          | (go_at_call 45; refine cc.mono ?_; rintro e w0 ⟨rfl, rfl⟩)
          | (go_at_call 46; refine c6.mono ?_; rintro e w2 ⟨rfl, hb2⟩; refine Hid.out ?_))
        have hH2 : w2.heap[w.heap.size]? = some (.cells #[.int .u64 0, .int .u64 0] 24 (0, 0)) := by rw [hb2.block _ (by simp)]; exact al_new rfl _
        have c0 : w2.cell? ⟨w.heap.size, 0, none⟩ = some (.int .u64 0) := by simp [World.cell?, hH2]
        have c1 : w2.cell? ⟨w.heap.size, 1, none⟩ = some (.int .u64 0) := by simp [World.cell?, hH2]
        have f0 : w2.frozen? ⟨w.heap.size, 0, none⟩ = false := by simp [World.frozen?, hH2]
        have f1 : w2.frozen? ⟨w.heap.size, 1, none⟩ = false := by simp [World.frozen?, hH2]
        refine Lib.hid ?_
        go_wp2
        refine bodyPost_ret_by (res_pair Tryd.results37 _ _ w.heap.size (.int .u64 0) (.int .u64 0) rfl (heap_set2 hH2 (.int .u64 0) (.int .u64 0))) rfl ⟨?_, ?_⟩
        · rw [hR]; rfl
        · exact below_set (below_set (bel_via (Below.al (Below.refl _ w) _) hb2) (Nat.le_refl _) 0 _) (Nat.le_refl _) 1 _
      | some x =>
        rw [hp] at c6 hR
        simp only [readT] at c6
        clear hp
        go_enter Tryd.func37, Tryd.ntmps37
        go_wp2_with (first
          | (go_at_call 45; refine cc.mono ?_; rintro e w0 ⟨rfl, rfl⟩)
          | (go_at_call 46; refine c6.mono ?_; rintro e w2 ⟨rfl, hb2⟩; refine Hid.out ?_))
        have hH2 : w2.heap[w.heap.size]? = some (.cells #[.int .u64 0, .int .u64 0] 24 (0, 0)) := by rw [hb2.block _ (by simp)]; exact al_new rfl _
        have c0 : w2.cell? ⟨w.heap.size, 0, none⟩ = some (.int .u64 0) := by simp [World.cell?, hH2]
        have c1 : w2.cell? ⟨w.heap.size, 1, none⟩ = some (.int .u64 0) := by simp [World.cell?, hH2]
        have f0 : w2.frozen? ⟨w.heap.size, 0, none⟩ = false := by simp [World.frozen?, hH2]
        have f1 : w2.frozen? ⟨w.heap.size, 1, none⟩ = false := by simp [World.frozen?, hH2]
        refine Lib.hid ?_
        go_wp2
        refine bodyPost_ret_by (res_pair Tryd.results37 _ _ w.heap.size (.int .u64 (x.1 : Nat)) (.int .u64 (x.2 : Nat)) rfl (heap_set2 hH2 (.int .u64 (x.1 : Nat)) (.int .u64 (x.2 : Nat)))) rfl ⟨?_, ?_⟩
        · rw [hR]; rfl
        · exact below_set (below_set (bel_via (Below.al (Below.refl _ w) _) hb2) (Nat.le_refl _) 0 _) (Nat.le_refl _) 1 _
    · rw [if_neg h58] at hR
      rw [decide_eq_false h58] at cc
      clear h58
      cases hp : read4P s.data.toList with
      | none =>
        rw [hp] at c4 hR
        simp only [readT] at c4
        clear hp
        go_enter Tryd.func37, Tryd.ntmps37
        go_wp2_with (first
          | (go_at_call 45; refine cc.mono ?_; rintro e w0 ⟨rfl, rfl⟩)
          | (go_at_call 47; refine c4.mono ?_; rintro e w2 ⟨rfl, hb2⟩; refine Hid.out ?_))
        have hH2 : w2.heap[w.heap.size]? = some (.cells #[.int .u64 0, .int .u64 0] 24 (0, 0)) := by rw [hb2.block _ (by simp)]; exact al_new rfl _
        have c0 : w2.cell? ⟨w.heap.size, 0, none⟩ = some (.int .u64 0) := by simp [World.cell?, hH2]
        have c1 : w2.cell? ⟨w.heap.size, 1, none⟩ = some (.int .u64 0) := by simp [World.cell?, hH2]
        have f0 : w2.frozen? ⟨w.heap.size, 0, none⟩ = false := by simp [World.frozen?, hH2]
        have f1 : w2.frozen? ⟨w.heap.size, 1, none⟩ = false := by simp [World.frozen?, hH2]
        refine Lib.hid ?_
        go_wp2
        refine bodyPost_ret_by (res_pair Tryd.results37 _ _ w.heap.size (.int .u64 0) (.int .u64 0) rfl (heap_set2 hH2 (.int .u64 0) (.int .u64 0))) rfl ⟨?_, ?_⟩
        · rw [hR]; rfl
        · exact below_set (below_set (bel_via (Below.al (Below.refl _ w) _) hb2) (Nat.le_refl _) 0 _) (Nat.le_refl _) 1 _
      | some x =>
        rw [hp] at c4 hR
        simp only [readT] at c4
        clear hp
        go_enter Tryd.func37, Tryd.ntmps37
        go_wp2_with (first
          | (go_at_call 45; refine cc.mono ?_; rintro e w0 ⟨rfl, rfl⟩)
          | (go_at_call 47; refine c4.mono ?_; rintro e w2 ⟨rfl, hb2⟩; refine Hid.out ?_))
        have hH2 : w2.heap[w.heap.size]? = some (.cells #[.int .u64 0, .int .u64 0] 24 (0, 0)) := by rw [hb2.block _ (by simp)]; exact al_new rfl _
        have c0 : w2.cell? ⟨w.heap.size, 0, none⟩ = some (.int .u64 0) := by simp [World.cell?, hH2]
        have c1 : w2.cell? ⟨w.heap.size, 1, none⟩ = some (.int .u64 0) := by simp [World.cell?, hH2]
        have f0 : w2.frozen? ⟨w.heap.size, 0, none⟩ = false := by simp [World.frozen?, hH2]
        have f1 : w2.frozen? ⟨w.heap.size, 1, none⟩ = false := by simp [World.frozen?, hH2]
        refine Lib.hid ?_
        go_wp2
        refine bodyPost_ret_by (res_pair Tryd.results37 _ _ w.heap.size (.int .u64 (x.1 : Nat)) (.int .u64 (x.2 : Nat)) rfl (heap_set2 hH2 (.int .u64 (x.1 : Nat)) (.int .u64 (x.2 : Nat)))) rfl ⟨?_, ?_⟩
        · rw [hR]; rfl
        · exact below_set (below_set (bel_via (Below.al (Below.refl _ w) _) hb2) (Nat.le_refl _) 0 _) (Nat.le_refl _) 1 _

/-- What Parse answers. -/
def parseP (s : List UInt8) : Option (Nat × Nat) := match readP s with
  | none => none
  | some x => if printA x.1 x.2 = s then some x else none

def parseT : Option (Nat × Nat) → Value
  | none => .tuple #[.agg #[.int .u64 0, .int .u64 0], .int .i64 30]
  | some x => .tuple #[.agg #[.int .u64 (x.1 : Nat), .int .u64 (x.2 : Nat)], .int .i64 0]

end Go.Proofs.YtaafflmkfdicdaaDoor
