/- The bound on a configuration; by-name template. -/
import Derived.Test.YtokbmahnjmmcaaaRDest
import Derived.Test.YtokbmahnjmmcaaaRFrame
import Derived.WalkLawsBesides
namespace Go.Proofs.Ytokbmahnjmmcaaa
open Go.Shelf Go.RowKit Go.Lib
set_option linter.unusedVariables false
set_option linter.unusedSimpArgs false

def HeavyPost (c : CF) (w : World) (e : Ending) (w' : World) : Prop := ∃ b : Bool, e = .returned (.bool b) ∧ (b = false → c.un ≤ 4096) ∧ Below w.heap.size w w'

set_option maxHeartbeats 8000000 in
set_option maxRecDepth 100000 in
theorem heavy_any (c : CF) {w : World} (hc : c.Ok w) (hf : c.Fit) :
    Calls Try.prog 10 #[.agg (cfc c)] w (HeavyPost c w) := by
  obtain ⟨w0, hw0⟩ : ∃ w0, w0 = w.alloc (.cells (cfc c) 30) := ⟨_, rfl⟩
  have hb : Below w.heap.size w w0 := by rw [hw0]; exact Below.al (Below.refl _ _) _
  have hB : CfB w0 w.heap.size c := by rw [hw0]; exact CfB.made w c
  obtain ⟨f0, f1, f2, f3, f4, f5, f6⟩ := hf
  have hSz := hc.z.keep hb
  have hSo := hc.o.keep hb
  have hI := fun z hz => (hc.zi z hz).keep hb
  have hO := fun z hz => (hc.oi z hz).keep hb
  have hzl := Lib.hid hSz.len
  have hol := Lib.hid hSo.len
  clear hc
  obtain ⟨c0, c1, c2, c3, c4, c5, c6, c7⟩ := hB
  obtain ⟨S, hS⟩ : ∃ S : Nat, S = c.zn + c.on + c.sn + c.ln + c.tn + c.nn + c.un := ⟨_, rfl⟩
  have hSb : S ≤ 985162418487296 := by omega
  have hSi : (c.zn : Int) + c.on + c.sn + c.ln + c.tn + c.nn + c.un = (S : Int) := by omega
  have HS := Lib.hid hS
  have hSu : c.un ≤ S := by omega
  have HSi := Lib.hid hSi
  clear hS hSi
  simp only [cfc] at *
  go_enter Try.func10, Try.ntmps10
  go_wp2
  rw [← hw0, HSi.out]
  clear hw0
  go_loop [3, 4] (fun vn vi => ∃ (m : Int) (k : Nat), k ≤ c.zn ∧ vn = .int .i64 m ∧ vi = .int .i64 k ∧ (S : Int) ≤ m ∧ m ≤ (S : Int) + 69632) (fun _ vi => c.zn - (intOf vi).toNat)
  case atStart => exact ⟨S, 0, by omega, rfl, rfl, by omega, by omega⟩
  case round =>
    obtain ⟨m, k, hk, rfl, rfl, hm1, hm2⟩ := hrel
    by_cases hgo : k < c.zn ∧ m ≤ 4096
    · obtain ⟨hlt, hm⟩ := hgo
      have hlti : (k : Int) < (c.zn : Int) := by omega
      obtain ⟨b, off, hA, hblt, hrow⟩ := hSz.row (by omega)
      obtain ⟨z, hz⟩ : ∃ z, c.zs[k]? = some z := ⟨_, List.getElem?_eq_getElem (by rw [hzl.out]; omega)⟩
      have r3 := hrow k z hz 3 _ rfl
      have hil := (hI z (List.mem_of_getElem? hz)).big
      rw [hA] at c0
      clear hz hrow hSz hSo hI hO hA
      have hmin : (0 : Int) ≤ min (z.il : Int) 65536 ∧ min (z.il : Int) 65536 ≤ 65536 := by omega
      go_wp2
      exact ⟨⟨m + min (z.il : Int) 65536, k + 1, by omega, rfl, by go_num, by omega, by omega⟩, by simp [intOf]; omega⟩
    · by_cases hlt : k < c.zn
      · have hm : ¬ m ≤ 4096 := fun h => hgo ⟨hlt, h⟩
        have hmd : decide (m ≤ 4096) = false := by simp [hm]
        have hlti : (k : Int) < (c.zn : Int) := by omega
        clear hgo hI hSz
        go_wp2
        go_loop [3, 5] (fun vn vi => ∃ (m : Int) (k : Nat), k ≤ c.on ∧ vn = .int .i64 m ∧ vi = .int .i64 k ∧ (S : Int) ≤ m ∧ m ≤ (S : Int) + 139264) (fun _ vi => c.on - (intOf vi).toNat)
        case atStart => exact ⟨m, 0, by omega, rfl, rfl, by omega, by omega⟩
        case round =>
          obtain ⟨m2, k2, hk2, rfl, rfl, hm3, hm4⟩ := hrel
          by_cases hgo2 : k2 < c.on ∧ m2 ≤ 4096
          · obtain ⟨hlt2, hm2⟩ := hgo2
            have hlti2 : (k2 : Int) < (c.on : Int) := by omega
            obtain ⟨b, off, hA, hblt, hrow⟩ := hSo.row (by omega)
            obtain ⟨z, hz⟩ : ∃ z, c.os[k2]? = some z := ⟨_, List.getElem?_eq_getElem (by rw [hol.out]; omega)⟩
            have r1 := hrow k2 z hz 1 _ rfl
            have hil := (hO z (List.mem_of_getElem? hz)).big
            rw [hA] at c1
            clear hz hrow hSo hO hA
            have hmin : (0 : Int) ≤ min (z.rl : Int) 65536 ∧ min (z.rl : Int) 65536 ≤ 65536 := by omega
            go_wp2
            exact ⟨⟨m2 + min (z.rl : Int) 65536, k2 + 1, by omega, rfl, by go_num, by omega, by omega⟩, by simp [intOf]; omega⟩
          · by_cases hlt2 : k2 < c.on
            · have hm5 : ¬ m2 ≤ 4096 := fun h => hgo2 ⟨hlt2, h⟩
              have hmd2 : decide (m2 ≤ 4096) = false := by simp [hm5]
              have hlti2 : (k2 : Int) < (c.on : Int) := by omega
              clear hgo2 hO hSo
              go_wp2
              go_ret
              exact ⟨_, rfl, fun h => by first | (simp at h; done) | (simp at h; omega) | omega, hb⟩
            · obtain rfl : k2 = c.on := by omega
              clear hgo2 hO hSo hlt2
              go_wp2
              all_goals
                go_ret
                exact ⟨_, rfl, fun h => by first | (simp at h; done) | (simp at h; omega) | omega, hb⟩
      · obtain rfl : k = c.zn := by omega
        clear hgo hI hSz hlt
        go_wp2
        go_loop [3, 5] (fun vn vi => ∃ (m : Int) (k : Nat), k ≤ c.on ∧ vn = .int .i64 m ∧ vi = .int .i64 k ∧ (S : Int) ≤ m ∧ m ≤ (S : Int) + 139264) (fun _ vi => c.on - (intOf vi).toNat)
        case atStart => exact ⟨m, 0, by omega, rfl, rfl, by omega, by omega⟩
        case round =>
          obtain ⟨m2, k2, hk2, rfl, rfl, hm3, hm4⟩ := hrel
          by_cases hgo2 : k2 < c.on ∧ m2 ≤ 4096
          · obtain ⟨hlt2, hm2⟩ := hgo2
            have hlti2 : (k2 : Int) < (c.on : Int) := by omega
            obtain ⟨b, off, hA, hblt, hrow⟩ := hSo.row (by omega)
            obtain ⟨z, hz⟩ : ∃ z, c.os[k2]? = some z := ⟨_, List.getElem?_eq_getElem (by rw [hol.out]; omega)⟩
            have r1 := hrow k2 z hz 1 _ rfl
            have hil := (hO z (List.mem_of_getElem? hz)).big
            rw [hA] at c1
            clear hz hrow hSo hO hA
            have hmin : (0 : Int) ≤ min (z.rl : Int) 65536 ∧ min (z.rl : Int) 65536 ≤ 65536 := by omega
            go_wp2
            exact ⟨⟨m2 + min (z.rl : Int) 65536, k2 + 1, by omega, rfl, by go_num, by omega, by omega⟩, by simp [intOf]; omega⟩
          · by_cases hlt2 : k2 < c.on
            · have hm5 : ¬ m2 ≤ 4096 := fun h => hgo2 ⟨hlt2, h⟩
              have hmd2 : decide (m2 ≤ 4096) = false := by simp [hm5]
              have hlti2 : (k2 : Int) < (c.on : Int) := by omega
              clear hgo2 hO hSo
              go_wp2
              go_ret
              exact ⟨_, rfl, fun h => by first | (simp at h; done) | (simp at h; omega) | omega, hb⟩
            · obtain rfl : k2 = c.on := by omega
              clear hgo2 hO hSo hlt2
              go_wp2
              all_goals
                go_ret
                exact ⟨_, rfl, fun h => by first | (simp at h; done) | (simp at h; omega) | omega, hb⟩
end Go.Proofs.Ytokbmahnjmmcaaa
