/- Whether a rule matches: the document's; by-name template (gen_rrmatch.py). -/
import Derived.Test.YtplfmgcgniledaaRMatch
import Derived.Test.YtplfmgcgniledaaRDoc2
namespace Go.Proofs.Ytplfmgcgniledaa
open Go.Shelf Go.RowKit Go.Lib Go.Sort
set_option linter.unusedVariables false
set_option linter.unusedSimpArgs false

theorem UrB.made (w : World) (u : UR) : UrB (w.alloc (.cells (urc u).toArray 63)) w.heap.size 0 u := by
  constructor <;> simp [urc, go_sem]
theorem KeB.madeH (w : World) (i o : Int) (k : KR) : KeB (w.alloc (.cells (Value.int .i64 i :: .int .i64 o :: krc k).toArray 57)) w.heap.size 2 k := by
  constructor <;> simp [krc, go_sem]

set_option maxHeartbeats 16000000 in
set_option maxRecDepth 100000 in
theorem rmatch_any (c : CF) (u : UR) (hi ho : Int) (k : KR) {w : World} (hc : c.Ok w) :
    Calls Try.prog 41 #[.agg (cfc c), .agg (urc u).toArray, .agg (Value.int .i64 hi :: .int .i64 ho :: krc k).toArray] w fun e w' => e = .returned (.bool (matchP c u hi ho k)) ∧ Below w.heap.size w w' := by
  obtain ⟨w0, hw0⟩ : ∃ w0, w0 = ((w.alloc (.cells (cfc c) 35)).alloc (.cells (urc u).toArray 63)).alloc (.cells (Value.int .i64 hi :: .int .i64 ho :: krc k).toArray 57) := ⟨_, rfl⟩
  have hb : Below w.heap.size w w0 := by rw [hw0]; exact Below.al (Below.al (Below.al (Below.refl _ _) _) _) _
  have hC : ∀ w', Below w0.heap.size w0 w' → CfB w' w.heap.size c ∧ UrB w' (w.heap.size + 1) 0 u ∧ w'.cell? ⟨w.heap.size + 1 + 1, 0, none⟩ = some (.int .i64 hi) ∧ w'.cell? ⟨w.heap.size + 1 + 1, 1, none⟩ = some (.int .i64 ho) ∧ KeB w' (w.heap.size + 1 + 1) 2 k := by
    intro w' h
    refine ⟨CfB.keep ?_ h, UrB.keep ?_ h, keepc h ?_, keepc h ?_, KeB.keep ?_ h⟩
    · rw [hw0]; exact ((CfB.made w c).keep (Below.al (Below.refl _ _) _)).keep (Below.al (Below.refl _ _) _)
    · rw [hw0]; have := (UrB.made (w.alloc (.cells (cfc c) 35)) u).keep (Below.al (Below.refl _ _) (.cells (Value.int .i64 hi :: .int .i64 ho :: krc k).toArray 57)); simpa using this
    · rw [hw0]; simp [go_sem, World.cell?_alloc_past]
    · rw [hw0]; simp [go_sem, World.cell?_alloc_past]
    · rw [hw0]; have := KeB.madeH ((w.alloc (.cells (cfc c) 35)).alloc (.cells (urc u).toArray 63)) hi ho k; simpa using this
  have hok := fun (W : World) (hW : Below w0.heap.size w0 W) => (hc.keep hb).keep hW
  have r0 := fun (W : World) (hW : Below w0.heap.size w0 W) => rnamed_any c hi u.inz (hok W hW)
  have r1 := fun (W : World) (hW : Below w0.heap.size w0 W) => rnamed_any c ho u.out (hok W hW)
  have r2 := fun (W : World) (hW : Below w0.heap.size w0 W) => rwithin_any c u.src k.sh k.sl (hok W hW)
  have r3 := fun (W : World) (hW : Below w0.heap.size w0 W) => rwithin_any c u.dst k.dh k.dl (hok W hW)
  have r4 := fun (W : World) (hW : Below w0.heap.size w0 W) => rserves_any c u.svc k (hok W hW)
  obtain ⟨V, hV⟩ : ∃ V, V = matchP c u hi ho k := ⟨_, rfl⟩
  rw [← hV]
  unfold matchP zoneQ at hV
  generalize namedP c hi u.inz = N0 at *
  generalize namedP c ho u.out = N1 at *
  generalize withinP c u.src k.sh k.sl = W2 at *
  generalize withinP c u.dst k.dh k.dl = W3 at *
  generalize servesP c u.svc k = W4 at *
  have HV := Lib.hid hV
  clear hV hc hok
  obtain ⟨kp, ksh, ksl, kdh, kdl, ksp, kdp⟩ := k
  obtain ⟨n0, n1, n2, n3, n4, n5, n6, n7⟩ := u
  have hCC : ∀ w', Below w0.heap.size w0 w' → (w'.cell? ⟨w.heap.size, 0, none⟩ = some (.slice c.zA c.zn c.zc) ∧ w'.cell? ⟨w.heap.size, 1, none⟩ = some (.slice c.oA c.on c.oc) ∧ w'.cell? ⟨w.heap.size, 2, none⟩ = some (.slice c.sA c.sn c.sc) ∧ w'.cell? ⟨w.heap.size, 3, none⟩ = some (.slice c.lA c.ln c.lc) ∧ w'.cell? ⟨w.heap.size, 4, none⟩ = some (.slice c.tA c.tn c.tc) ∧ w'.cell? ⟨w.heap.size, 5, none⟩ = some (.slice c.nA c.nn c.nc) ∧ w'.cell? ⟨w.heap.size, 6, none⟩ = some (.slice c.uA c.un c.uc) ∧ w'.cell? ⟨w.heap.size, 7, none⟩ = some (.int .i64 c.dflt) ∧ w'.cell? ⟨w.heap.size + 1, 0, none⟩ = some (.string n0) ∧ w'.cell? ⟨w.heap.size + 1, 1, none⟩ = some (.string n1) ∧ w'.cell? ⟨w.heap.size + 1, 2, none⟩ = some (.string n2) ∧ w'.cell? ⟨w.heap.size + 1, 3, none⟩ = some (.string n3) ∧ w'.cell? ⟨w.heap.size + 1, 4, none⟩ = some (.string n4) ∧ w'.cell? ⟨w.heap.size + 1 + 1, 0, none⟩ = some (.int .i64 hi) ∧ w'.cell? ⟨w.heap.size + 1 + 1, 1, none⟩ = some (.int .i64 ho) ∧ w'.cell? ⟨w.heap.size + 1 + 1, 2, none⟩ = some (.int .i64 kp) ∧ w'.cell? ⟨w.heap.size + 1 + 1, 3, none⟩ = some (.int .u64 ksh) ∧ w'.cell? ⟨w.heap.size + 1 + 1, 4, none⟩ = some (.int .u64 ksl) ∧ w'.cell? ⟨w.heap.size + 1 + 1, 5, none⟩ = some (.int .u64 kdh) ∧ w'.cell? ⟨w.heap.size + 1 + 1, 6, none⟩ = some (.int .u64 kdl) ∧ w'.cell? ⟨w.heap.size + 1 + 1, 7, none⟩ = some (.int .i64 ksp) ∧ w'.cell? ⟨w.heap.size + 1 + 1, 8, none⟩ = some (.int .i64 kdp)) := by
    intro w' h
    obtain ⟨⟨c0, c1, c2, c3, c4, c5, c6, c7⟩, ⟨u0, u1, u2, u3, u4, u5, u6, u7⟩, i, o, k0, k1, k2, k3, k4, k5, k6⟩ := hC w' h
    simp only [Nat.zero_add, Nat.reduceAdd] at u0 u1 u2 u3 u4 u5 u6 u7 k0 k1 k2 k3 k4 k5 k6
    exact ⟨c0, c1, c2, c3, c4, c5, c6, c7, u0, u1, u2, u3, u4, i, o, k0, k1, k2, k3, k4, k5, k6⟩
  clear hC
  simp only [cfc, krc, urc] at *
  have hb0 := Below.refl w0.heap.size w0
  by_cases a0 : n0.toList = [97, 110, 121]
  · by_cases a1 : n1.toList = [97, 110, 121]
    · cases W2 with
      | false =>
        go_enter Try.func41, Try.ntmps41
        go_upto_region 1 with fail
        rw [← hw0]
        clear hw0
        obtain ⟨q0, q1, q2, q3, q4, q5, q6, q7, q8, q9, q10, q11, q12, q13, q14, q15, q16, q17, q18, q19, q20, q21⟩ := hCC w0 hb0
        go_wp2_with (first | (go_at_call 34; ((with_reducible refine (kept (r0 _ (by assumption)) (by assumption) hCC).mono ?_); rintro e wn ⟨rfl, ⟨q0, q1, q2, q3, q4, q5, q6, q7, q8, q9, q10, q11, q12, q13, q14, q15, q16, q17, q18, q19, q20, q21⟩, hbn⟩)) | (go_at_call 34; ((with_reducible refine (kept (r1 _ (by assumption)) (by assumption) hCC).mono ?_); rintro e wn ⟨rfl, ⟨q0, q1, q2, q3, q4, q5, q6, q7, q8, q9, q10, q11, q12, q13, q14, q15, q16, q17, q18, q19, q20, q21⟩, hbn⟩)) | (go_at_call 35; ((with_reducible refine (kept (r2 _ (by assumption)) (by assumption) hCC).mono ?_); rintro e wn ⟨rfl, ⟨q0, q1, q2, q3, q4, q5, q6, q7, q8, q9, q10, q11, q12, q13, q14, q15, q16, q17, q18, q19, q20, q21⟩, hbn⟩)) | (go_at_call 35; ((with_reducible refine (kept (r3 _ (by assumption)) (by assumption) hCC).mono ?_); rintro e wn ⟨rfl, ⟨q0, q1, q2, q3, q4, q5, q6, q7, q8, q9, q10, q11, q12, q13, q14, q15, q16, q17, q18, q19, q20, q21⟩, hbn⟩)) | (go_at_call 32; ((with_reducible refine (kept (r4 _ (by assumption)) (by assumption) hCC).mono ?_); rintro e wn ⟨rfl, ⟨q0, q1, q2, q3, q4, q5, q6, q7, q8, q9, q10, q11, q12, q13, q14, q15, q16, q17, q18, q19, q20, q21⟩, hbn⟩)))
        go_ret
        exact ⟨ret_bool (by rw [HV.out]; simp [isAny, a0, a1]), bel_via hb (by assumption)⟩
      | true =>
        cases W3 with
        | false =>
          go_enter Try.func41, Try.ntmps41
          go_upto_region 1 with fail
          rw [← hw0]
          clear hw0
          obtain ⟨q0, q1, q2, q3, q4, q5, q6, q7, q8, q9, q10, q11, q12, q13, q14, q15, q16, q17, q18, q19, q20, q21⟩ := hCC w0 hb0
          go_wp2_with (first | (go_at_call 34; ((with_reducible refine (kept (r0 _ (by assumption)) (by assumption) hCC).mono ?_); rintro e wn ⟨rfl, ⟨q0, q1, q2, q3, q4, q5, q6, q7, q8, q9, q10, q11, q12, q13, q14, q15, q16, q17, q18, q19, q20, q21⟩, hbn⟩)) | (go_at_call 34; ((with_reducible refine (kept (r1 _ (by assumption)) (by assumption) hCC).mono ?_); rintro e wn ⟨rfl, ⟨q0, q1, q2, q3, q4, q5, q6, q7, q8, q9, q10, q11, q12, q13, q14, q15, q16, q17, q18, q19, q20, q21⟩, hbn⟩)) | (go_at_call 35; ((with_reducible refine (kept (r2 _ (by assumption)) (by assumption) hCC).mono ?_); rintro e wn ⟨rfl, ⟨q0, q1, q2, q3, q4, q5, q6, q7, q8, q9, q10, q11, q12, q13, q14, q15, q16, q17, q18, q19, q20, q21⟩, hbn⟩)) | (go_at_call 35; ((with_reducible refine (kept (r3 _ (by assumption)) (by assumption) hCC).mono ?_); rintro e wn ⟨rfl, ⟨q0, q1, q2, q3, q4, q5, q6, q7, q8, q9, q10, q11, q12, q13, q14, q15, q16, q17, q18, q19, q20, q21⟩, hbn⟩)) | (go_at_call 32; ((with_reducible refine (kept (r4 _ (by assumption)) (by assumption) hCC).mono ?_); rintro e wn ⟨rfl, ⟨q0, q1, q2, q3, q4, q5, q6, q7, q8, q9, q10, q11, q12, q13, q14, q15, q16, q17, q18, q19, q20, q21⟩, hbn⟩)))
          go_ret
          exact ⟨ret_bool (by rw [HV.out]; simp [isAny, a0, a1]), bel_via hb (by assumption)⟩
        | true =>
          go_enter Try.func41, Try.ntmps41
          go_upto_region 1 with fail
          rw [← hw0]
          clear hw0
          obtain ⟨q0, q1, q2, q3, q4, q5, q6, q7, q8, q9, q10, q11, q12, q13, q14, q15, q16, q17, q18, q19, q20, q21⟩ := hCC w0 hb0
          go_wp2_with (first | (go_at_call 34; ((with_reducible refine (kept (r0 _ (by assumption)) (by assumption) hCC).mono ?_); rintro e wn ⟨rfl, ⟨q0, q1, q2, q3, q4, q5, q6, q7, q8, q9, q10, q11, q12, q13, q14, q15, q16, q17, q18, q19, q20, q21⟩, hbn⟩)) | (go_at_call 34; ((with_reducible refine (kept (r1 _ (by assumption)) (by assumption) hCC).mono ?_); rintro e wn ⟨rfl, ⟨q0, q1, q2, q3, q4, q5, q6, q7, q8, q9, q10, q11, q12, q13, q14, q15, q16, q17, q18, q19, q20, q21⟩, hbn⟩)) | (go_at_call 35; ((with_reducible refine (kept (r2 _ (by assumption)) (by assumption) hCC).mono ?_); rintro e wn ⟨rfl, ⟨q0, q1, q2, q3, q4, q5, q6, q7, q8, q9, q10, q11, q12, q13, q14, q15, q16, q17, q18, q19, q20, q21⟩, hbn⟩)) | (go_at_call 35; ((with_reducible refine (kept (r3 _ (by assumption)) (by assumption) hCC).mono ?_); rintro e wn ⟨rfl, ⟨q0, q1, q2, q3, q4, q5, q6, q7, q8, q9, q10, q11, q12, q13, q14, q15, q16, q17, q18, q19, q20, q21⟩, hbn⟩)) | (go_at_call 32; ((with_reducible refine (kept (r4 _ (by assumption)) (by assumption) hCC).mono ?_); rintro e wn ⟨rfl, ⟨q0, q1, q2, q3, q4, q5, q6, q7, q8, q9, q10, q11, q12, q13, q14, q15, q16, q17, q18, q19, q20, q21⟩, hbn⟩)))
          go_ret
          exact ⟨ret_bool (by rw [HV.out]; simp [isAny, a0, a1]), bel_via hb (by assumption)⟩
    · have a1b : (n1.toList == [97, 110, 121]) = false := by simp [a1]
      cases N1 with
      | false =>
        go_enter Try.func41, Try.ntmps41
        go_upto_region 1 with fail
        rw [← hw0]
        clear hw0
        obtain ⟨q0, q1, q2, q3, q4, q5, q6, q7, q8, q9, q10, q11, q12, q13, q14, q15, q16, q17, q18, q19, q20, q21⟩ := hCC w0 hb0
        go_wp2_with (first | (go_at_call 34; ((with_reducible refine (kept (r0 _ (by assumption)) (by assumption) hCC).mono ?_); rintro e wn ⟨rfl, ⟨q0, q1, q2, q3, q4, q5, q6, q7, q8, q9, q10, q11, q12, q13, q14, q15, q16, q17, q18, q19, q20, q21⟩, hbn⟩)) | (go_at_call 34; ((with_reducible refine (kept (r1 _ (by assumption)) (by assumption) hCC).mono ?_); rintro e wn ⟨rfl, ⟨q0, q1, q2, q3, q4, q5, q6, q7, q8, q9, q10, q11, q12, q13, q14, q15, q16, q17, q18, q19, q20, q21⟩, hbn⟩)) | (go_at_call 35; ((with_reducible refine (kept (r2 _ (by assumption)) (by assumption) hCC).mono ?_); rintro e wn ⟨rfl, ⟨q0, q1, q2, q3, q4, q5, q6, q7, q8, q9, q10, q11, q12, q13, q14, q15, q16, q17, q18, q19, q20, q21⟩, hbn⟩)) | (go_at_call 35; ((with_reducible refine (kept (r3 _ (by assumption)) (by assumption) hCC).mono ?_); rintro e wn ⟨rfl, ⟨q0, q1, q2, q3, q4, q5, q6, q7, q8, q9, q10, q11, q12, q13, q14, q15, q16, q17, q18, q19, q20, q21⟩, hbn⟩)) | (go_at_call 32; ((with_reducible refine (kept (r4 _ (by assumption)) (by assumption) hCC).mono ?_); rintro e wn ⟨rfl, ⟨q0, q1, q2, q3, q4, q5, q6, q7, q8, q9, q10, q11, q12, q13, q14, q15, q16, q17, q18, q19, q20, q21⟩, hbn⟩)))
        go_ret
        exact ⟨ret_bool (by rw [HV.out]; simp [isAny, a0, a1]), bel_via hb (by assumption)⟩
      | true =>
        cases W2 with
        | false =>
          go_enter Try.func41, Try.ntmps41
          go_upto_region 1 with fail
          rw [← hw0]
          clear hw0
          obtain ⟨q0, q1, q2, q3, q4, q5, q6, q7, q8, q9, q10, q11, q12, q13, q14, q15, q16, q17, q18, q19, q20, q21⟩ := hCC w0 hb0
          go_wp2_with (first | (go_at_call 34; ((with_reducible refine (kept (r0 _ (by assumption)) (by assumption) hCC).mono ?_); rintro e wn ⟨rfl, ⟨q0, q1, q2, q3, q4, q5, q6, q7, q8, q9, q10, q11, q12, q13, q14, q15, q16, q17, q18, q19, q20, q21⟩, hbn⟩)) | (go_at_call 34; ((with_reducible refine (kept (r1 _ (by assumption)) (by assumption) hCC).mono ?_); rintro e wn ⟨rfl, ⟨q0, q1, q2, q3, q4, q5, q6, q7, q8, q9, q10, q11, q12, q13, q14, q15, q16, q17, q18, q19, q20, q21⟩, hbn⟩)) | (go_at_call 35; ((with_reducible refine (kept (r2 _ (by assumption)) (by assumption) hCC).mono ?_); rintro e wn ⟨rfl, ⟨q0, q1, q2, q3, q4, q5, q6, q7, q8, q9, q10, q11, q12, q13, q14, q15, q16, q17, q18, q19, q20, q21⟩, hbn⟩)) | (go_at_call 35; ((with_reducible refine (kept (r3 _ (by assumption)) (by assumption) hCC).mono ?_); rintro e wn ⟨rfl, ⟨q0, q1, q2, q3, q4, q5, q6, q7, q8, q9, q10, q11, q12, q13, q14, q15, q16, q17, q18, q19, q20, q21⟩, hbn⟩)) | (go_at_call 32; ((with_reducible refine (kept (r4 _ (by assumption)) (by assumption) hCC).mono ?_); rintro e wn ⟨rfl, ⟨q0, q1, q2, q3, q4, q5, q6, q7, q8, q9, q10, q11, q12, q13, q14, q15, q16, q17, q18, q19, q20, q21⟩, hbn⟩)))
          go_ret
          exact ⟨ret_bool (by rw [HV.out]; simp [isAny, a0, a1]), bel_via hb (by assumption)⟩
        | true =>
          cases W3 with
          | false =>
            go_enter Try.func41, Try.ntmps41
            go_upto_region 1 with fail
            rw [← hw0]
            clear hw0
            obtain ⟨q0, q1, q2, q3, q4, q5, q6, q7, q8, q9, q10, q11, q12, q13, q14, q15, q16, q17, q18, q19, q20, q21⟩ := hCC w0 hb0
            go_wp2_with (first | (go_at_call 34; ((with_reducible refine (kept (r0 _ (by assumption)) (by assumption) hCC).mono ?_); rintro e wn ⟨rfl, ⟨q0, q1, q2, q3, q4, q5, q6, q7, q8, q9, q10, q11, q12, q13, q14, q15, q16, q17, q18, q19, q20, q21⟩, hbn⟩)) | (go_at_call 34; ((with_reducible refine (kept (r1 _ (by assumption)) (by assumption) hCC).mono ?_); rintro e wn ⟨rfl, ⟨q0, q1, q2, q3, q4, q5, q6, q7, q8, q9, q10, q11, q12, q13, q14, q15, q16, q17, q18, q19, q20, q21⟩, hbn⟩)) | (go_at_call 35; ((with_reducible refine (kept (r2 _ (by assumption)) (by assumption) hCC).mono ?_); rintro e wn ⟨rfl, ⟨q0, q1, q2, q3, q4, q5, q6, q7, q8, q9, q10, q11, q12, q13, q14, q15, q16, q17, q18, q19, q20, q21⟩, hbn⟩)) | (go_at_call 35; ((with_reducible refine (kept (r3 _ (by assumption)) (by assumption) hCC).mono ?_); rintro e wn ⟨rfl, ⟨q0, q1, q2, q3, q4, q5, q6, q7, q8, q9, q10, q11, q12, q13, q14, q15, q16, q17, q18, q19, q20, q21⟩, hbn⟩)) | (go_at_call 32; ((with_reducible refine (kept (r4 _ (by assumption)) (by assumption) hCC).mono ?_); rintro e wn ⟨rfl, ⟨q0, q1, q2, q3, q4, q5, q6, q7, q8, q9, q10, q11, q12, q13, q14, q15, q16, q17, q18, q19, q20, q21⟩, hbn⟩)))
            go_ret
            exact ⟨ret_bool (by rw [HV.out]; simp [isAny, a0, a1]), bel_via hb (by assumption)⟩
          | true =>
            go_enter Try.func41, Try.ntmps41
            go_upto_region 1 with fail
            rw [← hw0]
            clear hw0
            obtain ⟨q0, q1, q2, q3, q4, q5, q6, q7, q8, q9, q10, q11, q12, q13, q14, q15, q16, q17, q18, q19, q20, q21⟩ := hCC w0 hb0
            go_wp2_with (first | (go_at_call 34; ((with_reducible refine (kept (r0 _ (by assumption)) (by assumption) hCC).mono ?_); rintro e wn ⟨rfl, ⟨q0, q1, q2, q3, q4, q5, q6, q7, q8, q9, q10, q11, q12, q13, q14, q15, q16, q17, q18, q19, q20, q21⟩, hbn⟩)) | (go_at_call 34; ((with_reducible refine (kept (r1 _ (by assumption)) (by assumption) hCC).mono ?_); rintro e wn ⟨rfl, ⟨q0, q1, q2, q3, q4, q5, q6, q7, q8, q9, q10, q11, q12, q13, q14, q15, q16, q17, q18, q19, q20, q21⟩, hbn⟩)) | (go_at_call 35; ((with_reducible refine (kept (r2 _ (by assumption)) (by assumption) hCC).mono ?_); rintro e wn ⟨rfl, ⟨q0, q1, q2, q3, q4, q5, q6, q7, q8, q9, q10, q11, q12, q13, q14, q15, q16, q17, q18, q19, q20, q21⟩, hbn⟩)) | (go_at_call 35; ((with_reducible refine (kept (r3 _ (by assumption)) (by assumption) hCC).mono ?_); rintro e wn ⟨rfl, ⟨q0, q1, q2, q3, q4, q5, q6, q7, q8, q9, q10, q11, q12, q13, q14, q15, q16, q17, q18, q19, q20, q21⟩, hbn⟩)) | (go_at_call 32; ((with_reducible refine (kept (r4 _ (by assumption)) (by assumption) hCC).mono ?_); rintro e wn ⟨rfl, ⟨q0, q1, q2, q3, q4, q5, q6, q7, q8, q9, q10, q11, q12, q13, q14, q15, q16, q17, q18, q19, q20, q21⟩, hbn⟩)))
            go_ret
            exact ⟨ret_bool (by rw [HV.out]; simp [isAny, a0, a1]), bel_via hb (by assumption)⟩
  · have a0b : (n0.toList == [97, 110, 121]) = false := by simp [a0]
    cases N0 with
    | false =>
      go_enter Try.func41, Try.ntmps41
      go_upto_region 1 with fail
      rw [← hw0]
      clear hw0
      obtain ⟨q0, q1, q2, q3, q4, q5, q6, q7, q8, q9, q10, q11, q12, q13, q14, q15, q16, q17, q18, q19, q20, q21⟩ := hCC w0 hb0
      go_wp2_with (first | (go_at_call 34; ((with_reducible refine (kept (r0 _ (by assumption)) (by assumption) hCC).mono ?_); rintro e wn ⟨rfl, ⟨q0, q1, q2, q3, q4, q5, q6, q7, q8, q9, q10, q11, q12, q13, q14, q15, q16, q17, q18, q19, q20, q21⟩, hbn⟩)) | (go_at_call 34; ((with_reducible refine (kept (r1 _ (by assumption)) (by assumption) hCC).mono ?_); rintro e wn ⟨rfl, ⟨q0, q1, q2, q3, q4, q5, q6, q7, q8, q9, q10, q11, q12, q13, q14, q15, q16, q17, q18, q19, q20, q21⟩, hbn⟩)) | (go_at_call 35; ((with_reducible refine (kept (r2 _ (by assumption)) (by assumption) hCC).mono ?_); rintro e wn ⟨rfl, ⟨q0, q1, q2, q3, q4, q5, q6, q7, q8, q9, q10, q11, q12, q13, q14, q15, q16, q17, q18, q19, q20, q21⟩, hbn⟩)) | (go_at_call 35; ((with_reducible refine (kept (r3 _ (by assumption)) (by assumption) hCC).mono ?_); rintro e wn ⟨rfl, ⟨q0, q1, q2, q3, q4, q5, q6, q7, q8, q9, q10, q11, q12, q13, q14, q15, q16, q17, q18, q19, q20, q21⟩, hbn⟩)) | (go_at_call 32; ((with_reducible refine (kept (r4 _ (by assumption)) (by assumption) hCC).mono ?_); rintro e wn ⟨rfl, ⟨q0, q1, q2, q3, q4, q5, q6, q7, q8, q9, q10, q11, q12, q13, q14, q15, q16, q17, q18, q19, q20, q21⟩, hbn⟩)))
      go_ret
      exact ⟨ret_bool (by rw [HV.out]; simp [isAny, a0]), bel_via hb (by assumption)⟩
    | true =>
      by_cases a1 : n1.toList = [97, 110, 121]
      · cases W2 with
        | false =>
          go_enter Try.func41, Try.ntmps41
          go_upto_region 1 with fail
          rw [← hw0]
          clear hw0
          obtain ⟨q0, q1, q2, q3, q4, q5, q6, q7, q8, q9, q10, q11, q12, q13, q14, q15, q16, q17, q18, q19, q20, q21⟩ := hCC w0 hb0
          go_wp2_with (first | (go_at_call 34; ((with_reducible refine (kept (r0 _ (by assumption)) (by assumption) hCC).mono ?_); rintro e wn ⟨rfl, ⟨q0, q1, q2, q3, q4, q5, q6, q7, q8, q9, q10, q11, q12, q13, q14, q15, q16, q17, q18, q19, q20, q21⟩, hbn⟩)) | (go_at_call 34; ((with_reducible refine (kept (r1 _ (by assumption)) (by assumption) hCC).mono ?_); rintro e wn ⟨rfl, ⟨q0, q1, q2, q3, q4, q5, q6, q7, q8, q9, q10, q11, q12, q13, q14, q15, q16, q17, q18, q19, q20, q21⟩, hbn⟩)) | (go_at_call 35; ((with_reducible refine (kept (r2 _ (by assumption)) (by assumption) hCC).mono ?_); rintro e wn ⟨rfl, ⟨q0, q1, q2, q3, q4, q5, q6, q7, q8, q9, q10, q11, q12, q13, q14, q15, q16, q17, q18, q19, q20, q21⟩, hbn⟩)) | (go_at_call 35; ((with_reducible refine (kept (r3 _ (by assumption)) (by assumption) hCC).mono ?_); rintro e wn ⟨rfl, ⟨q0, q1, q2, q3, q4, q5, q6, q7, q8, q9, q10, q11, q12, q13, q14, q15, q16, q17, q18, q19, q20, q21⟩, hbn⟩)) | (go_at_call 32; ((with_reducible refine (kept (r4 _ (by assumption)) (by assumption) hCC).mono ?_); rintro e wn ⟨rfl, ⟨q0, q1, q2, q3, q4, q5, q6, q7, q8, q9, q10, q11, q12, q13, q14, q15, q16, q17, q18, q19, q20, q21⟩, hbn⟩)))
          go_ret
          exact ⟨ret_bool (by rw [HV.out]; simp [isAny, a0, a1]), bel_via hb (by assumption)⟩
        | true =>
          cases W3 with
          | false =>
            go_enter Try.func41, Try.ntmps41
            go_upto_region 1 with fail
            rw [← hw0]
            clear hw0
            obtain ⟨q0, q1, q2, q3, q4, q5, q6, q7, q8, q9, q10, q11, q12, q13, q14, q15, q16, q17, q18, q19, q20, q21⟩ := hCC w0 hb0
            go_wp2_with (first | (go_at_call 34; ((with_reducible refine (kept (r0 _ (by assumption)) (by assumption) hCC).mono ?_); rintro e wn ⟨rfl, ⟨q0, q1, q2, q3, q4, q5, q6, q7, q8, q9, q10, q11, q12, q13, q14, q15, q16, q17, q18, q19, q20, q21⟩, hbn⟩)) | (go_at_call 34; ((with_reducible refine (kept (r1 _ (by assumption)) (by assumption) hCC).mono ?_); rintro e wn ⟨rfl, ⟨q0, q1, q2, q3, q4, q5, q6, q7, q8, q9, q10, q11, q12, q13, q14, q15, q16, q17, q18, q19, q20, q21⟩, hbn⟩)) | (go_at_call 35; ((with_reducible refine (kept (r2 _ (by assumption)) (by assumption) hCC).mono ?_); rintro e wn ⟨rfl, ⟨q0, q1, q2, q3, q4, q5, q6, q7, q8, q9, q10, q11, q12, q13, q14, q15, q16, q17, q18, q19, q20, q21⟩, hbn⟩)) | (go_at_call 35; ((with_reducible refine (kept (r3 _ (by assumption)) (by assumption) hCC).mono ?_); rintro e wn ⟨rfl, ⟨q0, q1, q2, q3, q4, q5, q6, q7, q8, q9, q10, q11, q12, q13, q14, q15, q16, q17, q18, q19, q20, q21⟩, hbn⟩)) | (go_at_call 32; ((with_reducible refine (kept (r4 _ (by assumption)) (by assumption) hCC).mono ?_); rintro e wn ⟨rfl, ⟨q0, q1, q2, q3, q4, q5, q6, q7, q8, q9, q10, q11, q12, q13, q14, q15, q16, q17, q18, q19, q20, q21⟩, hbn⟩)))
            go_ret
            exact ⟨ret_bool (by rw [HV.out]; simp [isAny, a0, a1]), bel_via hb (by assumption)⟩
          | true =>
            go_enter Try.func41, Try.ntmps41
            go_upto_region 1 with fail
            rw [← hw0]
            clear hw0
            obtain ⟨q0, q1, q2, q3, q4, q5, q6, q7, q8, q9, q10, q11, q12, q13, q14, q15, q16, q17, q18, q19, q20, q21⟩ := hCC w0 hb0
            go_wp2_with (first | (go_at_call 34; ((with_reducible refine (kept (r0 _ (by assumption)) (by assumption) hCC).mono ?_); rintro e wn ⟨rfl, ⟨q0, q1, q2, q3, q4, q5, q6, q7, q8, q9, q10, q11, q12, q13, q14, q15, q16, q17, q18, q19, q20, q21⟩, hbn⟩)) | (go_at_call 34; ((with_reducible refine (kept (r1 _ (by assumption)) (by assumption) hCC).mono ?_); rintro e wn ⟨rfl, ⟨q0, q1, q2, q3, q4, q5, q6, q7, q8, q9, q10, q11, q12, q13, q14, q15, q16, q17, q18, q19, q20, q21⟩, hbn⟩)) | (go_at_call 35; ((with_reducible refine (kept (r2 _ (by assumption)) (by assumption) hCC).mono ?_); rintro e wn ⟨rfl, ⟨q0, q1, q2, q3, q4, q5, q6, q7, q8, q9, q10, q11, q12, q13, q14, q15, q16, q17, q18, q19, q20, q21⟩, hbn⟩)) | (go_at_call 35; ((with_reducible refine (kept (r3 _ (by assumption)) (by assumption) hCC).mono ?_); rintro e wn ⟨rfl, ⟨q0, q1, q2, q3, q4, q5, q6, q7, q8, q9, q10, q11, q12, q13, q14, q15, q16, q17, q18, q19, q20, q21⟩, hbn⟩)) | (go_at_call 32; ((with_reducible refine (kept (r4 _ (by assumption)) (by assumption) hCC).mono ?_); rintro e wn ⟨rfl, ⟨q0, q1, q2, q3, q4, q5, q6, q7, q8, q9, q10, q11, q12, q13, q14, q15, q16, q17, q18, q19, q20, q21⟩, hbn⟩)))
            go_ret
            exact ⟨ret_bool (by rw [HV.out]; simp [isAny, a0, a1]), bel_via hb (by assumption)⟩
      · have a1b : (n1.toList == [97, 110, 121]) = false := by simp [a1]
        cases N1 with
        | false =>
          go_enter Try.func41, Try.ntmps41
          go_upto_region 1 with fail
          rw [← hw0]
          clear hw0
          obtain ⟨q0, q1, q2, q3, q4, q5, q6, q7, q8, q9, q10, q11, q12, q13, q14, q15, q16, q17, q18, q19, q20, q21⟩ := hCC w0 hb0
          go_wp2_with (first | (go_at_call 34; ((with_reducible refine (kept (r0 _ (by assumption)) (by assumption) hCC).mono ?_); rintro e wn ⟨rfl, ⟨q0, q1, q2, q3, q4, q5, q6, q7, q8, q9, q10, q11, q12, q13, q14, q15, q16, q17, q18, q19, q20, q21⟩, hbn⟩)) | (go_at_call 34; ((with_reducible refine (kept (r1 _ (by assumption)) (by assumption) hCC).mono ?_); rintro e wn ⟨rfl, ⟨q0, q1, q2, q3, q4, q5, q6, q7, q8, q9, q10, q11, q12, q13, q14, q15, q16, q17, q18, q19, q20, q21⟩, hbn⟩)) | (go_at_call 35; ((with_reducible refine (kept (r2 _ (by assumption)) (by assumption) hCC).mono ?_); rintro e wn ⟨rfl, ⟨q0, q1, q2, q3, q4, q5, q6, q7, q8, q9, q10, q11, q12, q13, q14, q15, q16, q17, q18, q19, q20, q21⟩, hbn⟩)) | (go_at_call 35; ((with_reducible refine (kept (r3 _ (by assumption)) (by assumption) hCC).mono ?_); rintro e wn ⟨rfl, ⟨q0, q1, q2, q3, q4, q5, q6, q7, q8, q9, q10, q11, q12, q13, q14, q15, q16, q17, q18, q19, q20, q21⟩, hbn⟩)) | (go_at_call 32; ((with_reducible refine (kept (r4 _ (by assumption)) (by assumption) hCC).mono ?_); rintro e wn ⟨rfl, ⟨q0, q1, q2, q3, q4, q5, q6, q7, q8, q9, q10, q11, q12, q13, q14, q15, q16, q17, q18, q19, q20, q21⟩, hbn⟩)))
          go_ret
          exact ⟨ret_bool (by rw [HV.out]; simp [isAny, a0, a1]), bel_via hb (by assumption)⟩
        | true =>
          cases W2 with
          | false =>
            go_enter Try.func41, Try.ntmps41
            go_upto_region 1 with fail
            rw [← hw0]
            clear hw0
            obtain ⟨q0, q1, q2, q3, q4, q5, q6, q7, q8, q9, q10, q11, q12, q13, q14, q15, q16, q17, q18, q19, q20, q21⟩ := hCC w0 hb0
            go_wp2_with (first | (go_at_call 34; ((with_reducible refine (kept (r0 _ (by assumption)) (by assumption) hCC).mono ?_); rintro e wn ⟨rfl, ⟨q0, q1, q2, q3, q4, q5, q6, q7, q8, q9, q10, q11, q12, q13, q14, q15, q16, q17, q18, q19, q20, q21⟩, hbn⟩)) | (go_at_call 34; ((with_reducible refine (kept (r1 _ (by assumption)) (by assumption) hCC).mono ?_); rintro e wn ⟨rfl, ⟨q0, q1, q2, q3, q4, q5, q6, q7, q8, q9, q10, q11, q12, q13, q14, q15, q16, q17, q18, q19, q20, q21⟩, hbn⟩)) | (go_at_call 35; ((with_reducible refine (kept (r2 _ (by assumption)) (by assumption) hCC).mono ?_); rintro e wn ⟨rfl, ⟨q0, q1, q2, q3, q4, q5, q6, q7, q8, q9, q10, q11, q12, q13, q14, q15, q16, q17, q18, q19, q20, q21⟩, hbn⟩)) | (go_at_call 35; ((with_reducible refine (kept (r3 _ (by assumption)) (by assumption) hCC).mono ?_); rintro e wn ⟨rfl, ⟨q0, q1, q2, q3, q4, q5, q6, q7, q8, q9, q10, q11, q12, q13, q14, q15, q16, q17, q18, q19, q20, q21⟩, hbn⟩)) | (go_at_call 32; ((with_reducible refine (kept (r4 _ (by assumption)) (by assumption) hCC).mono ?_); rintro e wn ⟨rfl, ⟨q0, q1, q2, q3, q4, q5, q6, q7, q8, q9, q10, q11, q12, q13, q14, q15, q16, q17, q18, q19, q20, q21⟩, hbn⟩)))
            go_ret
            exact ⟨ret_bool (by rw [HV.out]; simp [isAny, a0, a1]), bel_via hb (by assumption)⟩
          | true =>
            cases W3 with
            | false =>
              go_enter Try.func41, Try.ntmps41
              go_upto_region 1 with fail
              rw [← hw0]
              clear hw0
              obtain ⟨q0, q1, q2, q3, q4, q5, q6, q7, q8, q9, q10, q11, q12, q13, q14, q15, q16, q17, q18, q19, q20, q21⟩ := hCC w0 hb0
              go_wp2_with (first | (go_at_call 34; ((with_reducible refine (kept (r0 _ (by assumption)) (by assumption) hCC).mono ?_); rintro e wn ⟨rfl, ⟨q0, q1, q2, q3, q4, q5, q6, q7, q8, q9, q10, q11, q12, q13, q14, q15, q16, q17, q18, q19, q20, q21⟩, hbn⟩)) | (go_at_call 34; ((with_reducible refine (kept (r1 _ (by assumption)) (by assumption) hCC).mono ?_); rintro e wn ⟨rfl, ⟨q0, q1, q2, q3, q4, q5, q6, q7, q8, q9, q10, q11, q12, q13, q14, q15, q16, q17, q18, q19, q20, q21⟩, hbn⟩)) | (go_at_call 35; ((with_reducible refine (kept (r2 _ (by assumption)) (by assumption) hCC).mono ?_); rintro e wn ⟨rfl, ⟨q0, q1, q2, q3, q4, q5, q6, q7, q8, q9, q10, q11, q12, q13, q14, q15, q16, q17, q18, q19, q20, q21⟩, hbn⟩)) | (go_at_call 35; ((with_reducible refine (kept (r3 _ (by assumption)) (by assumption) hCC).mono ?_); rintro e wn ⟨rfl, ⟨q0, q1, q2, q3, q4, q5, q6, q7, q8, q9, q10, q11, q12, q13, q14, q15, q16, q17, q18, q19, q20, q21⟩, hbn⟩)) | (go_at_call 32; ((with_reducible refine (kept (r4 _ (by assumption)) (by assumption) hCC).mono ?_); rintro e wn ⟨rfl, ⟨q0, q1, q2, q3, q4, q5, q6, q7, q8, q9, q10, q11, q12, q13, q14, q15, q16, q17, q18, q19, q20, q21⟩, hbn⟩)))
              go_ret
              exact ⟨ret_bool (by rw [HV.out]; simp [isAny, a0, a1]), bel_via hb (by assumption)⟩
            | true =>
              go_enter Try.func41, Try.ntmps41
              go_upto_region 1 with fail
              rw [← hw0]
              clear hw0
              obtain ⟨q0, q1, q2, q3, q4, q5, q6, q7, q8, q9, q10, q11, q12, q13, q14, q15, q16, q17, q18, q19, q20, q21⟩ := hCC w0 hb0
              go_wp2_with (first | (go_at_call 34; ((with_reducible refine (kept (r0 _ (by assumption)) (by assumption) hCC).mono ?_); rintro e wn ⟨rfl, ⟨q0, q1, q2, q3, q4, q5, q6, q7, q8, q9, q10, q11, q12, q13, q14, q15, q16, q17, q18, q19, q20, q21⟩, hbn⟩)) | (go_at_call 34; ((with_reducible refine (kept (r1 _ (by assumption)) (by assumption) hCC).mono ?_); rintro e wn ⟨rfl, ⟨q0, q1, q2, q3, q4, q5, q6, q7, q8, q9, q10, q11, q12, q13, q14, q15, q16, q17, q18, q19, q20, q21⟩, hbn⟩)) | (go_at_call 35; ((with_reducible refine (kept (r2 _ (by assumption)) (by assumption) hCC).mono ?_); rintro e wn ⟨rfl, ⟨q0, q1, q2, q3, q4, q5, q6, q7, q8, q9, q10, q11, q12, q13, q14, q15, q16, q17, q18, q19, q20, q21⟩, hbn⟩)) | (go_at_call 35; ((with_reducible refine (kept (r3 _ (by assumption)) (by assumption) hCC).mono ?_); rintro e wn ⟨rfl, ⟨q0, q1, q2, q3, q4, q5, q6, q7, q8, q9, q10, q11, q12, q13, q14, q15, q16, q17, q18, q19, q20, q21⟩, hbn⟩)) | (go_at_call 32; ((with_reducible refine (kept (r4 _ (by assumption)) (by assumption) hCC).mono ?_); rintro e wn ⟨rfl, ⟨q0, q1, q2, q3, q4, q5, q6, q7, q8, q9, q10, q11, q12, q13, q14, q15, q16, q17, q18, q19, q20, q21⟩, hbn⟩)))
              go_ret
              exact ⟨ret_bool (by rw [HV.out]; simp [isAny, a0, a1]), bel_via hb (by assumption)⟩
end Go.Proofs.Ytplfmgcgniledaa
