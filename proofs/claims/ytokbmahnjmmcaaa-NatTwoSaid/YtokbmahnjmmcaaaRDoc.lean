/- The document's names, ports and zones; by-name template. -/
import Derived.Test.YtokbmahnjmmcaaaRWith
namespace Go.Proofs.Ytokbmahnjmmcaaa
open Go.Shelf Go.RowKit Go.Lib
set_option linter.unusedVariables false
set_option linter.unusedSimpArgs false

theorem rported_any (p : Int) (w : World) : Calls Try.prog 40 #[.int .i64 p] w fun e w' => e = .returned (.bool (portedP p)) ∧ w = w' := by
  unfold portedP
  by_cases h : p = 6
  · subst h
    go_enter Try.func40, Try.ntmps40
    go_wp2
    go_ret
    exact ⟨by simp, rfl⟩
  · have hb : (p == 6) = false := by simp [h]
    go_enter Try.func40, Try.ntmps40
    go_wp2
    go_ret
    exact ⟨by simp [hb], rfl⟩

set_option maxHeartbeats 1000000 in
theorem rnamed_any (c : CF) (x : Int) (nm : ByteArray) {w : World} (hc : c.Ok w) :
    Calls Try.prog 41 #[.agg (cfc c), .int .i64 x, .string nm] w fun e w' => e = .returned (.bool (namedP c x nm)) ∧ Below w.heap.size w w' := by
  have hbb : Below w.heap.size w (w.alloc (.cells (cfc c) 30)) := Below.al (Below.refl _ _) _
  have hlen := hc.z.len
  have hbg := hc.z.big
  by_cases hx : 0 ≤ x
  · obtain ⟨k, rfl⟩ := Int.eq_ofNat_of_zero_le hx
    by_cases hk : k < c.zs.length
    · have hg := List.getElem?_eq_getElem hk
      have hr : namedP c k nm = eqs (c.zs[k]).nm nm := by simp [namedP, hg]
      rw [hr]
      obtain ⟨b, off, hA, hlt, hrow⟩ := hc.z.row (by omega)
      have h0 : w.cell? ⟨b, off + k * 4, none⟩ = some (.string (c.zs[k]).nm) := hrow k _ hg 0 _ rfl
      have h0' := keepc hbb h0
      have hkn : k < c.zn := by omega
      generalize c.zs[k].nm = q at *
      clear hrow h0 hlen hr hg hc hbb hk
      simp only [cfc, hA, eqs] at *
      go_enter Try.func41, Try.ntmps41
      go_wp2
      go_ret
      exact ⟨by simp, Below.al (Below.refl _ _) _⟩
    · have hr : namedP c k nm = false := by simp [namedP, List.getElem?_eq_none (Nat.le_of_not_lt hk)]
      rw [hr]
      have hkn : decide (k < c.zn) = false := by simp; omega
      have hkn2 : ¬ (k : Int) < (c.zn : Int) := by omega
      clear hlen hr hc hbb hk
      simp only [cfc] at *
      go_enter Try.func41, Try.ntmps41
      go_wp2
      go_ret
      exact ⟨by simp, Below.al (Below.refl _ _) _⟩
  · have hr : namedP c x nm = false := by simp [namedP, hx]
    rw [hr]
    have hxd : decide (0 ≤ x) = false := by simp [hx]
    clear hlen hr hc hbb
    simp only [cfc] at *
    go_enter Try.func41, Try.ntmps41
    go_wp2
    go_ret
    exact ⟨by simp, Below.al (Below.refl _ _) _⟩

set_option maxHeartbeats 1000000 in
theorem rzone_any (c : CF) (x : Int) {w : World} (hc : c.Ok w) :
    Calls Try.prog 23 #[.agg (cfc c), .int .i64 x] w fun e w' => e = .returned (.int .i64 (zoneP c x)) ∧ Below w.heap.size w w' := by
  have hbb : Below w.heap.size w (w.alloc (.cells (cfc c) 30)) := Below.al (Below.refl _ _) _
  have hS := hc.z.keep hbb
  have hI := fun z hz => (hc.zi z hz).keep hbb
  have hbig := hS.big
  have hlen := hS.len
  clear hc
  obtain ⟨V, hV⟩ : ∃ V, V = zoneP c x := ⟨_, rfl⟩
  rw [← hV]
  have HV := Lib.hid hV
  have Hlen := Lib.hid hlen
  clear hV hlen
  obtain ⟨w0, hw0⟩ : ∃ w0, w0 = w.alloc (.cells (cfc c) 30) := ⟨_, rfl⟩
  have hcz : w0.cell? ⟨w.heap.size, 0, none⟩ = some (.slice c.zA c.zn c.zc) := by rw [hw0]; simp [cfc, go_sem]
  rw [← hw0] at hS hI hbb
  simp only [cfc] at *
  go_enter Try.func23, Try.ntmps23
  go_wp2
  rw [← hw0]
  clear hw0
  go_loop [5] (fun vi => ∃ k : Nat, k ≤ c.zn ∧ vi = .int .i64 k ∧ Aside (∀ (j : Nat) (z : ZR), j < k → c.zs[j]? = some z → inZ x z = false)) (fun vi => c.zn - (intOf vi).toNat)
  case atStart => exact ⟨0, by omega, rfl, fun j z hj => absurd hj (Nat.not_lt_zero _)⟩
  case round =>
    obtain ⟨k, hk, rfl, N⟩ := hrel
    by_cases hlt : k < c.zn
    · have hlti : (k : Int) < (c.zn : Int) := by omega
      obtain ⟨b, off, hA, hblt, hrow⟩ := hS.row (by omega)
      have hkl : k < c.zs.length := by rw [Hlen.out]; omega
      obtain ⟨z, hz⟩ : ∃ z, c.zs[k]? = some z := ⟨_, List.getElem?_eq_getElem hkl⟩
      have r3 := hrow k z hz 3 _ rfl
      have hR := hI z (List.mem_of_getElem? hz)
      rw [hA] at hcz
      have HZ := Lib.hid hz
      clear hz hrow hS hI hA hkl
      have hibig := hR.big
      have hilen := Lib.hid hR.len
      have hirow := hR.row
      clear hR
      go_wp2
      go_loop [6] (fun vi => ∃ m : Nat, m ≤ z.il ∧ vi = .int .i64 m ∧ Aside (∀ (j : Nat) (y : Int), j < m → z.ifs[j]? = some y → ¬ y = x)) (fun vi => z.il - (intOf vi).toNat)
      case atStart => exact ⟨0, by omega, rfl, fun j z hj => absurd hj (Nat.not_lt_zero _)⟩
      case round =>
        obtain ⟨m, hm, rfl, N2⟩ := hrel
        by_cases hl2 : m < z.il
        · have hlti2 : (m : Int) < (z.il : Int) := by omega
          obtain ⟨b2, off2, hA2, hblt2, hrow2⟩ := hirow (by omega)
          have hml : m < z.ifs.length := by rw [hilen.out]; omega
          obtain ⟨y, hy⟩ : ∃ y, z.ifs[m]? = some y := ⟨_, List.getElem?_eq_getElem hml⟩
          have q0 : w0.cell? ⟨b2, off2 + m, none⟩ = some (.int .i64 y) := by simpa using hrow2 m y hy 0 _ rfl
          rw [hA2] at r3
          have HY := Lib.hid hy
          clear hy hml hrow2 hirow
          by_cases hyx : y = x
          · have hyb : (y == x) = true := by simp [hyx]
            have HX := Lib.hid hyx
            clear hyx
            go_wp2
            go_ret
            refine ⟨?_, hbb⟩
            rw [HV.out]
            unfold zoneP
            rw [pl_hit HZ.out (by rw [inZ, List.any_eq_true]; exact ⟨y, List.mem_of_getElem? HY.out, by simp [HX.out]⟩) N.out]
            rfl
          · have hyb : (y == x) = false := by simp [hyx]
            have HX := Lib.hid hyx
            clear hyx
            go_wp2
            go_round
            case rel =>
              refine ⟨m + 1, by omega, by go_num, fun j y2 hj hy2 => ?_⟩
              by_cases e : j = m
              · subst e; rw [HY.out] at hy2; cases hy2; exact HX.out
              · exact N2.out j y2 (by omega) hy2
            case measure => simp [intOf]; omega
        · obtain rfl : m = z.il := by omega
          clear hl2
          go_wp2
          go_round
          case rel =>
            refine ⟨k + 1, by omega, by go_num, fun j z2 hj hz2 => ?_⟩
            by_cases e : j = k
            · subst e
              rw [HZ.out] at hz2; cases hz2
              rw [inZ, List.any_eq_false]
              intro y hy
              obtain ⟨i, hi⟩ := List.getElem?_of_mem hy
              have := N2.out i y (by rw [← hilen.out]; exact getE hi) hi
              simp; omega
            · exact N.out j z2 (by omega) hz2
          case measure => simp [intOf]; omega
    · obtain rfl : k = c.zn := by omega
      clear hlt
      go_wp2
      go_ret
      refine ⟨?_, hbb⟩
      rw [HV.out]
      unfold zoneP
      rw [pl_miss fun j z hz => N.out j z (by rw [← Hlen.out]; exact getE hz) hz]
      rfl
end Go.Proofs.Ytokbmahnjmmcaaa
