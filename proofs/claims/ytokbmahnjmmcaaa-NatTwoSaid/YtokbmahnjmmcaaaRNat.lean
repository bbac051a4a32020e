/- Translations: the program's; by-name template. -/
import Derived.Test.YtokbmahnjmmcaaaRWith
import Derived.Lib.QuietBelow
namespace Go.Proofs.Ytokbmahnjmmcaaa
open Go.Shelf Go.RowKit Go.Lib Go.Sort
set_option linter.unusedVariables false
set_option linter.unusedSimpArgs false

def calledP (c : CF) (k : KR) (n : NR) : Bool := (n.oh == k.dh && n.ol == k.dl) && if n.kind = 2 then servesP c n.sv k else n.kind == 3
def sourceP (c : CF) (ah al : Int) (n : NR) : Bool := if n.kind = 3 then (n.ih == ah && n.il == al) else if n.kind = 1 then withinP c n.ob ah al && (is4I n.oh n.ol == is4I ah al) else false

set_option maxHeartbeats 2000000 in
theorem called_any (c : CF) (n : NR) (k : KR) {w : World} (hc : c.Ok w) :
    Calls Try.prog 45 #[.agg (cfc c), .agg (nrc n).toArray, .agg (krc k).toArray] w fun e w' => e = .returned (.bool (calledP c k n)) ∧ Below w.heap.size w w' := by
  obtain ⟨w0, hw0⟩ : ∃ w0, w0 = ((w.alloc (.cells (cfc c) 30)).alloc (.cells (nrc n).toArray 49)).alloc (.cells (krc k).toArray 35) := ⟨_, rfl⟩
  have hb : Below w.heap.size w w0 := by rw [hw0]; exact Below.al (Below.al (Below.al (Below.refl _ _) _) _) _
  have cs := serves_any c n.sv k (hc.keep hb)
  unfold calledP
  clear hc
  obtain ⟨kind, zn, ob, sv, oh, ol, ih, il, frm, til⟩ := n
  obtain ⟨kp, ksh, ksl, kdh, kdl, ksp, kdp⟩ := k
  generalize servesP c sv _ = R at *
  simp only [cfc, nrc, krc] at *
  by_cases h1 : oh = kdh
  · subst h1
    by_cases h2 : ol = kdl
    · subst h2
      by_cases h3 : kind = 2
      · subst h3
        go_enter Try.func45, Try.ntmps45
        go_wp2_with (go_at_call 54; rw [← hw0]; with_reducible refine cs.mono ?_; rintro e w1 ⟨rfl, hb'⟩)
        go_ret
        exact ⟨by simp, bel_via hb hb'⟩
      · have h3b : (kind == 2) = false := by simp [h3]
        go_enter Try.func45, Try.ntmps45
        go_wp2
        go_ret
        exact ⟨by simp [h3], by repeat (first | exact Below.refl _ _ | apply Below.dr | apply Below.al)⟩
    · go_enter Try.func45, Try.ntmps45
      go_wp2
      all_goals
        go_ret
        exact ⟨by simp [h2], by repeat (first | exact Below.refl _ _ | apply Below.dr | apply Below.al)⟩
  · go_enter Try.func45, Try.ntmps45
    go_wp2
    all_goals
      go_ret
      exact ⟨by simp [h1], by repeat (first | exact Below.refl _ _ | apply Below.dr | apply Below.al)⟩

set_option maxHeartbeats 2000000 in
theorem source_is (c : CF) (n : NR) (ah al : Int) (hw : Word n.oh ∧ Word n.ol) (ha : Word ah ∧ Word al) {w : World} (hc : c.Ok w) :
    Calls Try.prog 51 #[.agg (cfc c), .agg (nrc n).toArray, .agg #[.int .u64 ah, .int .u64 al]] w fun e w' => e = .returned (.bool (sourceP c ah al n)) ∧ Below w.heap.size w w' := by
  obtain ⟨w0, hw0⟩ : ∃ w0, w0 = ((w.alloc (.cells (cfc c) 30)).alloc (.cells (nrc n).toArray 49)).alloc (.cells #[.int .u64 ah, .int .u64 al] 33) := ⟨_, rfl⟩
  have hb : Below w.heap.size w w0 := by rw [hw0]; exact Below.al (Below.al (Below.al (Below.refl _ _) _) _) _
  have cs := fun W hW => within_any (w := W) c n.ob ah al ((hc.keep hb).keep hW)
  have ci := is4_any n.oh n.ol hw.1 hw.2
  have ca := is4_any ah al ha.1 ha.2
  unfold sourceP
  clear hc hw ha
  obtain ⟨kind, zn, ob, sv, oh, ol, ih, il, frm, til⟩ := n
  generalize withinP c ob ah al = R at *
  simp only at cs ci ca ⊢
  generalize is4I oh ol = I at *
  generalize is4I ah al = J at *
  by_cases h3 : kind = 3
  · subst h3
    clear cs ci ca
    simp only [cfc, nrc] at *
    by_cases h1 : ih = ah
    · subst h1
      by_cases h2 : il = al
      · subst h2
        go_enter Try.func51, Try.ntmps51
        go_wp2
        all_goals
          go_ret
          exact ⟨by simp, by repeat (first | exact Below.refl _ _ | apply Below.dr | apply Below.al)⟩
      · go_enter Try.func51, Try.ntmps51
        go_wp2
        all_goals
          go_ret
          exact ⟨by simp [h2], by repeat (first | exact Below.refl _ _ | apply Below.dr | apply Below.al)⟩
    · go_enter Try.func51, Try.ntmps51
      go_wp2
      all_goals
        go_ret
        exact ⟨by simp [h1], by repeat (first | exact Below.refl _ _ | apply Below.dr | apply Below.al)⟩
  · have h3b : (kind == 3) = false := by simp [h3]
    by_cases h1 : kind = 1
    · subst h1
      have hC : ∀ w', Below w0.heap.size w0 w' → (w'.cell? ⟨w.heap.size, 0, none⟩ = some (.slice c.zA c.zn c.zc) ∧ w'.cell? ⟨w.heap.size, 1, none⟩ = some (.slice c.oA c.on c.oc) ∧ w'.cell? ⟨w.heap.size, 2, none⟩ = some (.slice c.sA c.sn c.sc) ∧ w'.cell? ⟨w.heap.size, 3, none⟩ = some (.slice c.lA c.ln c.lc) ∧ w'.cell? ⟨w.heap.size, 4, none⟩ = some (.slice c.tA c.tn c.tc) ∧ w'.cell? ⟨w.heap.size, 5, none⟩ = some (.slice c.nA c.nn c.nc) ∧ w'.cell? ⟨w.heap.size, 6, none⟩ = some (.slice c.uA c.un c.uc) ∧ w'.cell? ⟨w.heap.size, 7, none⟩ = some (.int .i64 c.dflt)) ∧ w'.cell? ⟨w.heap.size + 1, 2, none⟩ = some (.string ob) ∧ w'.cell? ⟨w.heap.size + 1, 4, none⟩ = some (.int .u64 oh) ∧ w'.cell? ⟨w.heap.size + 1, 5, none⟩ = some (.int .u64 ol) ∧ w'.cell? ⟨w.heap.size + 1 + 1, 0, none⟩ = some (.int .u64 ah) ∧ w'.cell? ⟨w.heap.size + 1 + 1, 1, none⟩ = some (.int .u64 al) := by
        intro w' h
        refine ⟨⟨keepc h ?_, keepc h ?_, keepc h ?_, keepc h ?_, keepc h ?_, keepc h ?_, keepc h ?_, keepc h ?_⟩, keepc h ?_, keepc h ?_, keepc h ?_, keepc h ?_, keepc h ?_⟩ <;> (rw [hw0]; simp [go_sem, cfc, nrc, World.cell?_alloc_past])
      simp only [cfc, nrc] at *
      obtain ⟨⟨g0, g1, g2, g3, g4, g5, g6, g7⟩, m2, m4, m5, a0, a1⟩ := hC w0 (Below.refl _ _)
      obtain ⟨BC, hBC⟩ : ∃ b, b = w.heap.size := ⟨_, rfl⟩
      have k0 := cell_regrown g0
      have k1 := cell_regrown g1
      have k2 := cell_regrown g2
      have k3 := cell_regrown g3
      have k4 := cell_regrown g4
      have k5 := cell_regrown g5
      have k6 := cell_regrown g6
      have k7 := cell_regrown g7
      have k8 := cell_regrown m2
      have k9 := cell_regrown m4
      have k10 := cell_regrown m5
      have k11 := cell_regrown a0
      have k12 := cell_regrown a1
      have qs := fun d os => Calls.regrown_of (cs (grow (redrawn w0 d) os) (below_regrown w0 d os))
      have qi := fun d os => Calls.regrown_of (ci (grow (redrawn w0 d) os))
      have qa := fun d os => Calls.regrown_of (ca (grow (redrawn w0 d) os))
      clear hC g0 g1 g2 g3 g4 g5 g6 g7 m2 m4 m5 a0 a1 cs ci ca hBC
      have hb0 := hb
      clear hb
      cases R with
      | true =>
        go_enter Try.func51, Try.ntmps51
        go_wp2
        rw [← hw0]
        clear hw0
        refine wp_region_quiet_below (by kernel_rfl) (by kernel_rfl) ?_
        repeat (first | go_big_quiet_skip | quiet_step (first | (go_at_call 59; with_reducible exact qs _ _) | (go_at_call_of 52 (Value.agg #[Value.int IntKind.u64 oh, Value.int IntKind.u64 ol]); with_reducible exact qi _ _) | (go_at_call 52; with_reducible exact qa _ _)))
        refine wpQuiet_nil ?_
        intro _ hw'
        obtain ⟨⟨dq, osq⟩, hw''⟩ := hw'
        subst hw''
        go_wp2
        go_ret
        exact ⟨by simp, bel_via hb0 (below_regrown _ _ _)⟩
      | false =>
        go_enter Try.func51, Try.ntmps51
        go_wp2
        rw [← hw0]
        clear hw0
        refine wp_region_quiet_below (by kernel_rfl) (by kernel_rfl) ?_
        repeat (first | go_big_quiet_skip | quiet_step (first | (go_at_call 59; with_reducible exact qs _ _)))
        refine wpQuiet_nil ?_
        intro _ hw'
        obtain ⟨⟨dq, osq⟩, hw''⟩ := hw'
        subst hw''
        go_wp2
        go_ret
        exact ⟨by simp, bel_via hb0 (below_regrown _ _ _)⟩
    · have h1b : (kind == 1) = false := by simp [h1]
      clear cs ci ca
      simp only [cfc, nrc] at *
      go_enter Try.func51, Try.ntmps51
      go_wp2
      all_goals
        go_ret
        exact ⟨by simp [h3, h1], by repeat (first | exact Below.refl _ _ | apply Below.dr | apply Below.al)⟩
end Go.Proofs.Ytokbmahnjmmcaaa
