/- Texts of four numbers are read; by-name template. -/
import Derived.Test.YtaafflmkfdicdaaDoorASplit
namespace Go.Proofs.YtaafflmkfdicdaaDoor
open Go.RowKit
set_option linter.unusedVariables false
set_option linter.unusedSimpArgs false
set_option maxHeartbeats 1000000 in
set_option maxRecDepth 100000 in
theorem read4_any (s : ByteArray) (hs : s.size ≤ 281474976) {w : World} (hG : Glob w) : Calls Tryd.prog 47 #[.string s] w fun e w' => e = .returned (readT (read4P s.data.toList)) ∧ Below w.heap.size w w' := by
  obtain ⟨m, hm⟩ := hG.ml
  obtain ⟨PS, hPS, hmap, hcnt, hsz⟩ := split_pieces s 46
  have hcs := fun W (hm : W.cell? ⟨0, 0, none⟩ = some (.int .i64 m)) => Tryd.strings_Split s ⟨#[46]⟩ m W (by omega) hm (by decide)
  rw [hPS, hcnt] at hcs
  obtain ⟨R, hR⟩ : ∃ R, R = read4P s.data.toList := ⟨_, rfl⟩
  rw [← hR]
  have hlen : (splitOn 46 s.data.toList).length = PS.length := by rw [← hmap]; simp
  unfold read4P at hR
  rw [hlen, ← hmap] at hR
  clear hlen hmap hcnt hPS
  by_cases h4 : PS.length = 4
  · rw [if_pos h4] at hR
    rw [h4] at hcs
    have HR := Lib.hid hR
    clear hR
    have hmb : (w.alloc (.cells #[.int .u64 0, .int .u64 0] 24)).cell? ⟨0, 0, none⟩ = some (.int .i64 m) := keepc (Below.al (Below.refl _ _) _) hm
    go_enter Tryd.func47, Tryd.ntmps47
    go_wp2_with (go_at_call 63; refine (hcs _ hmb).mono ?_; rintro e w1 ⟨rfl, rfl⟩; refine Hid.out ?_)
    obtain ⟨w1, hw1⟩ : ∃ v, v = (w.alloc (.cells #[.int .u64 0, .int .u64 0] 24)).alloc (.cells (PS.map Value.string).toArray 9) := ⟨_, rfl⟩
    have bw1 : Below w.heap.size w w1 := by rw [hw1]; repeat (first | exact Below.refl _ _ | apply Below.dr | apply Below.al)
    have hRz : w1.heap[w.heap.size]? = some (.cells #[.int .u64 0, .int .u64 0] 24 (0, 0)) := by rw [hw1]; exact (al_old (by simp) _).trans (al_new rfl _)
    have hPc : ∀ w', Below w1.heap.size w1 w' → ∀ k (h : k < PS.length), w'.cell? ⟨w.heap.size + 1, k, none⟩ = some (.string PS[k]) := by
      intro w' h k hk
      refine keepc h ?_
      have hg : w1.heap[w.heap.size + 1]? = some (.cells (PS.map Value.string).toArray 9 (0, 0)) := by rw [hw1]; exact al_new (by simp) _
      simp only [World.cell?, hg]
      simp [hk]
    have HPc := Lib.hid hPc
    clear hPc
    try rw [← hw1]
    have hsz1 : w.heap.size + 1 < w1.heap.size := by rw [hw1]; simp
    clear hw1
    refine Lib.hid ?_
    go_wp2
    go_loopw [5, 18] (fun vn vi wr => ∃ (n k : Nat), vn = .int .u32 n ∧ vi = .int .i64 k ∧ k ≤ 4 ∧ n < 4294967296 ∧ Below w1.heap.size w1 wr ∧ Hid (r4From (PS.map (·.data.toList)) 0 = r4From ((PS.drop k).map (·.data.toList)) n)) (fun _ vi _ => 4 - (intOf vi).toNat)
    case atStart => exact ⟨0, 0, rfl, rfl, by omega, by omega, Below.refl _ _, Lib.hid rfl⟩
    case round =>
      obtain ⟨n, k, rfl, rfl, hk, hn, hbr, hh⟩ := hrel
      have bwr : Below w.heap.size w wr := bel_via bw1 hbr
      have hHr : wr.heap[w.heap.size]? = some (.cells #[.int .u64 0, .int .u64 0] 24 (0, 0)) := by rw [hbr.block _ (by omega)]; exact hRz
      by_cases hk4 : k < 4
      · have hc := HPc.out wr hbr k (by omega)
        have hps := hsz _ (List.getElem_mem (show k < PS.length by omega))
        have hd : PS.drop k = PS[k]'(by omega) :: PS.drop (k + 1) := List.drop_eq_getElem_cons (by omega)
        rw [hd] at hh
        generalize PS[k]'(by omega) = p at hc hps hh
        rw [List.map_cons, r4From] at hh
        have cp := pu10_any p (by omega) (hG.on bwr)
        unfold PuPost at cp
        have kk : (k : Int) < 4 := by omega
        cases hp : Lib.parseUintB 8 p.data.toList with
        | ok b =>
          rw [hp] at cp hh
          simp only at cp hh
          have hb := parseB_le hp
          have ho : bits .or .u32 (IntKind.u32.wrap ((n : Int) * 256)) (b : Int) = ((n * 256 % 4294967296 + b : Nat) : Int) := by
            have e1 : IntKind.u32.wrap ((n : Int) * 256) = (n : Int) * 256 % 4294967296 := by simp [IntKind.wrap, IntKind.signed, IntKind.bits]
            rw [e1, orW 8 (by omega) (by omega) (by omega) (by omega) (by omega) (by omega)]; omega
          have ho2 : bits .or .u32 ((n : Int) * 256 % 4294967296) (b : Int) = (n : Int) * 256 % 4294967296 + (b : Int) := by
            rw [orW 8 (by omega) (by omega) (by omega) (by omega) (by omega) (by omega)]
          clear hp hd
          have b1 : (b : Int) ≤ 255 := by omega
          go_wp2_with (go_at_call 64; refine cp.mono ?_; rintro e w2 ⟨hb2, rfl⟩)
          refine ⟨⟨n * 256 % 4294967296 + b, k + 1, by first | rfl | rw [ho] | (simp; exact ho2), by simp, by omega, by omega, bel_via hbr hb2, hh⟩, by simp [intOf]; omega⟩
        | «syntax» =>
          rw [hp] at cp hh
          simp only at cp hh
          have HH := HR.out
          rw [hh.out] at HH
          clear hp hd
          go_wp2_with (go_at_call 64; refine cp.mono ?_; rintro e w2 ⟨hb2, x, t, pp, rfl⟩; refine Hid.out ?_)
          have hH2 : w2.heap[w.heap.size]? = some (.cells #[.int .u64 0, .int .u64 0] 24 (0, 0)) := by rw [hb2.block _ (by have := hbr.size; omega)]; exact hHr
          have c0 : w2.cell? ⟨w.heap.size, 0, none⟩ = some (.int .u64 0) := by simp [World.cell?, hH2]
          have c1 : w2.cell? ⟨w.heap.size, 1, none⟩ = some (.int .u64 0) := by simp [World.cell?, hH2]
          have f0 : w2.frozen? ⟨w.heap.size, 0, none⟩ = false := by simp [World.frozen?, hH2]
          have f1 : w2.frozen? ⟨w.heap.size, 1, none⟩ = false := by simp [World.frozen?, hH2]
          refine Lib.hid ?_
          go_wp2
          refine bodyPost_ret_by (res_pair Tryd.results47 _ _ w.heap.size (.int .u64 0) (.int .u64 0) rfl (heap_set2 hH2 (.int .u64 0) (.int .u64 0))) rfl ⟨?_, ?_⟩
          · rw [HH]; rfl
          · exact below_set (below_set (bel_via bwr hb2) (Nat.le_refl _) 0 _) (Nat.le_refl _) 1 _
        | range =>
          rw [hp] at cp hh
          simp only at cp hh
          have HH := HR.out
          rw [hh.out] at HH
          clear hp hd
          go_wp2_with (go_at_call 64; refine cp.mono ?_; rintro e w2 ⟨hb2, x, t, pp, rfl⟩; refine Hid.out ?_)
          have hH2 : w2.heap[w.heap.size]? = some (.cells #[.int .u64 0, .int .u64 0] 24 (0, 0)) := by rw [hb2.block _ (by have := hbr.size; omega)]; exact hHr
          have c0 : w2.cell? ⟨w.heap.size, 0, none⟩ = some (.int .u64 0) := by simp [World.cell?, hH2]
          have c1 : w2.cell? ⟨w.heap.size, 1, none⟩ = some (.int .u64 0) := by simp [World.cell?, hH2]
          have f0 : w2.frozen? ⟨w.heap.size, 0, none⟩ = false := by simp [World.frozen?, hH2]
          have f1 : w2.frozen? ⟨w.heap.size, 1, none⟩ = false := by simp [World.frozen?, hH2]
          refine Lib.hid ?_
          go_wp2
          refine bodyPost_ret_by (res_pair Tryd.results47 _ _ w.heap.size (.int .u64 0) (.int .u64 0) rfl (heap_set2 hH2 (.int .u64 0) (.int .u64 0))) rfl ⟨?_, ?_⟩
          · rw [HH]; rfl
          · exact below_set (below_set (bel_via bwr hb2) (Nat.le_refl _) 0 _) (Nat.le_refl _) 1 _
      · obtain rfl : k = 4 := by omega
        have HH := HR.out
        rw [hh.out, List.drop_eq_nil_of_le (by omega)] at HH
        have co := of4_any (n : Int) (by omega) (by omega)
        clear hh HR
        go_wp2_with (go_at_call 65; refine (co _).mono ?_; rintro e w2 ⟨rfl, hb2⟩; refine Hid.out ?_)
        have hH2 : w2.heap[w.heap.size]? = some (.cells #[.int .u64 0, .int .u64 0] 24 (0, 0)) := by rw [hb2.block _ (by have := hbr.size; omega)]; exact hHr
        have c0 : w2.cell? ⟨w.heap.size, 0, none⟩ = some (.int .u64 0) := by simp [World.cell?, hH2]
        have c1 : w2.cell? ⟨w.heap.size, 1, none⟩ = some (.int .u64 0) := by simp [World.cell?, hH2]
        have f0 : w2.frozen? ⟨w.heap.size, 0, none⟩ = false := by simp [World.frozen?, hH2]
        have f1 : w2.frozen? ⟨w.heap.size, 1, none⟩ = false := by simp [World.frozen?, hH2]
        refine Lib.hid ?_
        go_wp2
        refine bodyPost_ret_by (res_pair Tryd.results47 _ _ w.heap.size (.int .u64 0) (.int .u64 (281470681743360 + (n : Int))) rfl (heap_set2 hH2 (.int .u64 0) (.int .u64 (281470681743360 + (n : Int))))) rfl ⟨?_, ?_⟩
        · rw [HH]; simp [r4From, readT]
        · exact below_set (below_set (bel_via bwr hb2) (Nat.le_refl _) 0 _) (Nat.le_refl _) 1 _
  · rw [if_neg h4] at hR
    subst hR
    have hmb : (w.alloc (.cells #[.int .u64 0, .int .u64 0] 24)).cell? ⟨0, 0, none⟩ = some (.int .i64 m) := keepc (Below.al (Below.refl _ _) _) hm
    have hb4 : ((PS.length : Int) != 4) = true := by simp; omega
    go_enter Tryd.func47, Tryd.ntmps47
    go_wp2_with (go_at_call 63; refine (hcs _ hmb).mono ?_; rintro e w1 ⟨rfl, rfl⟩)
    simp [bodyPost, results, Tryd.results47, go_sem, readT]
    repeat (first | exact Below.refl _ _ | apply Below.dr | apply Below.al)
end Go.Proofs.YtaafflmkfdicdaaDoor
