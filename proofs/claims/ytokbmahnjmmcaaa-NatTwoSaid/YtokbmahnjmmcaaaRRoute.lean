/- Routes; by-name template (gen_rroute.py). -/
import Derived.Test.YtokbmahnjmmcaaaRDoc2
import Derived.Test.YtokbmahnjmmcaaaRDest
namespace Go.Proofs.Ytokbmahnjmmcaaa
open Go.Shelf Go.RowKit Go.Lib Go.Sort
set_option linter.unusedVariables false
set_option linter.unusedSimpArgs false

def bst (ah al : Int) (l : List TR) : Nat → Int
  | 0 => -1
  | i + 1 => match l[i]? with
    | none => bst ah al l i
    | some t => if (hasI t.r.fh t.r.fl t.r.th t.r.tl ah al = true) ∧ (bst ah al l i = -1 ∨ (match l[(bst ah al l i).toNat]? with | none => true | some u => decide (u.bits < t.bits)) = true) then (i : Int) else bst ah al l i
theorem bst_bd (ah al : Int) (l : List TR) : ∀ i, -1 ≤ bst ah al l i ∧ bst ah al l i < i
  | 0 => by simp [bst]
  | i + 1 => by
    have := bst_bd ah al l i
    unfold bst
    split
    · omega
    · split <;> omega
section
variable {ah al : Int} {l : List TR} {i : Nat} {t : TR}
theorem bst_no (h : l[i]? = some t) (hh : hasI t.r.fh t.r.fl t.r.th t.r.tl ah al = false) : bst ah al l (i + 1) = bst ah al l i := by
  rw [bst, h]; simp [hh]
theorem bst_first (h : l[i]? = some t) (hh : hasI t.r.fh t.r.fl t.r.th t.r.tl ah al = true) (hb : bst ah al l i = -1) : bst ah al l (i + 1) = i := by
  rw [bst, h]; simp [hh, hb]
theorem bst_up {q : Nat} {u : TR} (h : l[i]? = some t) (hh : hasI t.r.fh t.r.fl t.r.th t.r.tl ah al = true) (hb : bst ah al l i = q) (hu : l[q]? = some u) (hl : u.bits < t.bits) : bst ah al l (i + 1) = i := by
  rw [bst, h]; simp [hh, hb, hu, hl]
theorem bst_stay {q : Nat} {u : TR} (h : l[i]? = some t) (hh : hasI t.r.fh t.r.fl t.r.th t.r.tl ah al = true) (hb : bst ah al l i = q) (hu : l[q]? = some u) (hl : ¬ u.bits < t.bits) : bst ah al l (i + 1) = q := by
  rw [bst, h]; simp [hh, hb, hu]; omega
end
def routeP (c : CF) (ah al : Int) : Int × Int := if bst ah al c.ts c.tn = -1 then (-1, -1) else match c.ts[(bst ah al c.ts c.tn).toNat]? with | none => (-1, -1) | some t => (t.ifc, zoneP c t.ifc)
def routeT (c : CF) (ah al : Int) : Value := .tuple #[.int .i64 (routeP c ah al).1, .int .i64 (routeP c ah al).2]

set_option maxHeartbeats 8000000 in
set_option maxRecDepth 100000 in
theorem route_any (c : CF) (ah al : Int) {w : World} (hc : c.Ok w) :
    Calls Try.prog 32 #[.agg (cfc c), .agg #[.int .u64 ah, .int .u64 al]] w fun e w' => e = .returned (routeT c ah al) ∧ Below w.heap.size w w' := by
  obtain ⟨w0, hw0⟩ : ∃ w0, w0 = (w.alloc (.cells (cfc c) 30)).alloc (.cells #[.int .u64 ah, .int .u64 al] 33) := ⟨_, rfl⟩
  have hb : Below w.heap.size w w0 := by rw [hw0]; exact Below.al (Below.al (Below.refl _ _) _) _
  have hC : ∀ w', Below w0.heap.size w0 w' → CfB w' w.heap.size c ∧ w'.cell? ⟨w.heap.size + 1, 0, none⟩ = some (.int .u64 ah) ∧ w'.cell? ⟨w.heap.size + 1, 1, none⟩ = some (.int .u64 al) := by
    intro w' h
    refine ⟨CfB.keep ?_ h, keepc h ?_, keepc h ?_⟩
    · rw [hw0]; exact (CfB.made w c).keep (Below.al (Below.refl _ _) _)
    · rw [hw0]; simp [go_sem, World.cell?_alloc_past]
    · rw [hw0]; simp [go_sem, World.cell?_alloc_past]
  have hS := hc.t.keep hb
  have hbig := hS.big
  have hlen := hS.len
  have Hlen := Lib.hid hlen
  have hz := fun (W : World) (hW : Below w0.heap.size w0 W) (x : Int) => zone_any (w := W) c x ((hc.keep hb).keep hW)
  obtain ⟨V, hV⟩ : ∃ V, V = routeT c ah al := ⟨_, rfl⟩
  rw [← hV]
  have HV := Lib.hid hV
  clear hV hc hlen
  obtain ⟨⟨c0, c1, c2, c3, c4, c5, c6, c7⟩, a0, a1⟩ := hC w0 (Below.refl _ _)
  simp only [cfc] at *
  go_enter Try.func32, Try.ntmps32
  go_wp2
  rw [← hw0]
  clear hw0 c0 c1 c2 c3 c4 c5 c6 c7 a0 a1
  go_loopw [6, 13] (fun vb vi wr => ∃ i : Nat, i ≤ c.tn ∧ vb = .int .i64 (bst ah al c.ts i) ∧ vi = .int .i64 i ∧ Below w0.heap.size w0 wr) (fun _ vi _ => c.tn - (intOf vi).toNat)
  case atStart => exact ⟨0, by omega, rfl, rfl, Below.refl _ _⟩
  case round =>
    obtain ⟨i, hi, rfl, rfl, hbr⟩ := hrel
    obtain ⟨⟨c0, c1, c2, c3, c4, c5, c6, c7⟩, a0, a1⟩ := hC wr hbr
    obtain ⟨B, hB⟩ : ∃ B, B = bst ah al c.ts i := ⟨_, rfl⟩
    have hbd := bst_bd ah al c.ts i
    rw [← hB] at hbd ⊢
    have hm0 : w.heap.size < wr.heap.size := World.block_lt_of_cell? _ _ c0
    have hm1 : w.heap.size + 1 < wr.heap.size := World.block_lt_of_cell? _ _ a0
    by_cases hlt : i < c.tn
    · have hlti : (i : Int) < (c.tn : Int) := by omega
      obtain ⟨b, off, hA, hblt, hrow⟩ := hS.row (by omega)
      have hml : i < c.ts.length := by rw [Hlen.out]; omega
      obtain ⟨t, ht⟩ : ∃ s, c.ts[i]? = some s := ⟨_, List.getElem?_eq_getElem hml⟩
      have r0 : wr.cell? ⟨b, off + i * 6, none⟩ = some (.int .u64 t.r.fh) := keepc hbr (hrow i t ht 0 _ rfl)
      have r1 := keepc hbr (hrow i t ht 1 _ rfl)
      have r2 := keepc hbr (hrow i t ht 2 _ rfl)
      have r3 := keepc hbr (hrow i t ht 3 _ rfl)
      have r4 := keepc hbr (hrow i t ht 4 _ rfl)
      have r5 := keepc hbr (hrow i t ht 5 _ rfl)
      have hlt1 : b < wr.heap.size := Nat.lt_of_lt_of_le hblt hbr.size
      rw [hA] at c4
      have HT := Lib.hid ht
      clear ht hml hC hz c0 c1 c2 c3 c5 c6 c7
      have hcase : B = -1 ∨ ∃ q : Nat, q < i ∧ B = q := by
        by_cases h : B = -1
        · exact .inl h
        · exact .inr ⟨B.toNat, by omega, by omega⟩
      rw [hA]
      clear hS hA
      go_wp2
      have hb2 : Below wr.heap.size wr (wr.alloc (.cells #[.int .u64 t.r.fh, .int .u64 t.r.fl, .int .u64 t.r.th, .int .u64 t.r.tl, .int .i64 t.bits, .int .i64 t.ifc] 53)) := Below.al (Below.refl _ _) _
      have n0 : (wr.alloc (.cells #[.int .u64 t.r.fh, .int .u64 t.r.fl, .int .u64 t.r.th, .int .u64 t.r.tl, .int .i64 t.bits, .int .i64 t.ifc] 53)).cell? ⟨wr.heap.size, 0, none⟩ = some (.int .u64 t.r.fh) := by simp [go_sem]
      have n1 : (wr.alloc (.cells #[.int .u64 t.r.fh, .int .u64 t.r.fl, .int .u64 t.r.th, .int .u64 t.r.tl, .int .i64 t.bits, .int .i64 t.ifc] 53)).cell? ⟨wr.heap.size, 1, none⟩ = some (.int .u64 t.r.fl) := by simp [go_sem]
      have n2 : (wr.alloc (.cells #[.int .u64 t.r.fh, .int .u64 t.r.fl, .int .u64 t.r.th, .int .u64 t.r.tl, .int .i64 t.bits, .int .i64 t.ifc] 53)).cell? ⟨wr.heap.size, 2, none⟩ = some (.int .u64 t.r.th) := by simp [go_sem]
      have n3 : (wr.alloc (.cells #[.int .u64 t.r.fh, .int .u64 t.r.fl, .int .u64 t.r.th, .int .u64 t.r.tl, .int .i64 t.bits, .int .i64 t.ifc] 53)).cell? ⟨wr.heap.size, 3, none⟩ = some (.int .u64 t.r.tl) := by simp [go_sem]
      have n4 : (wr.alloc (.cells #[.int .u64 t.r.fh, .int .u64 t.r.fl, .int .u64 t.r.th, .int .u64 t.r.tl, .int .i64 t.bits, .int .i64 t.ifc] 53)).cell? ⟨wr.heap.size, 4, none⟩ = some (.int .i64 t.bits) := by simp [go_sem]
      generalize wr.alloc (.cells #[.int .u64 t.r.fh, .int .u64 t.r.fl, .int .u64 t.r.th, .int .u64 t.r.tl, .int .i64 t.bits, .int .i64 t.ifc] 53) = wq at *
      have k1 := cell_regrown n0
      have k2 := cell_regrown n1
      have k3 := cell_regrown n2
      have k4 := cell_regrown n3
      have k5 := cell_regrown n4
      have k6 := cell_regrown (keepc hb2 c4)
      have k7 := cell_regrown (keepc hb2 a0)
      have k8 := cell_regrown (keepc hb2 a1)
      have cq := fun d os => Calls.regrown_of (has_any t.r.fh t.r.fl t.r.th t.r.tl ah al (grow (redrawn wq d) os))
      clear n0 n1 n2 n3 n4 r0 r1 r2 r3 r4 r5 c4 a0 a1
      cases hh : hasI t.r.fh t.r.fl t.r.th t.r.tl ah al with
      | false =>
        rw [hh] at cq
        have HH := Lib.hid hh
        clear hh
        have HB := Lib.hid hB
        clear hB hcase
        refine wp_region_quiet_below (by kernel_rfl) (by kernel_rfl) ?_
        repeat (first | go_big_quiet_skip | quiet_step (first | (go_at_call 47; with_reducible exact cq _ _)))
        refine wpQuiet_nil ?_
        intro _ hw'
        obtain ⟨⟨dq, osq⟩, hw''⟩ := hw'
        subst hw''
        go_wp2
        go_roundw
        case rel => exact ⟨i + 1, by omega, by rw [bst_no HT.out HH.out, HB.out], by go_num, bel_via (bel_via hbr hb2) (below_regrown _ _ _)⟩
        case measure => simp [intOf]; omega
      | true =>
        rw [hh] at cq
        have HH := Lib.hid hh
        clear hh
        rcases hcase with hm1 | ⟨q, hq, hqe⟩
        · have HB := Lib.hid (hB.symm.trans hm1)
          subst hm1
          clear hB
          refine wp_region_quiet_below (by kernel_rfl) (by kernel_rfl) ?_
          repeat (first | go_big_quiet_skip | quiet_step (first | (go_at_call 47; with_reducible exact cq _ _)))
          refine wpQuiet_nil ?_
          intro _ hw'
          obtain ⟨⟨dq, osq⟩, hw''⟩ := hw'
          subst hw''
          go_wp2
          go_roundw
          case rel => exact ⟨i + 1, by omega, by rw [bst_first HT.out HH.out HB.out], by go_num, bel_via (bel_via hbr hb2) (below_regrown _ _ _)⟩
          case measure => simp [intOf]; omega
        · have HB := Lib.hid (hB.symm.trans hqe)
          subst hqe
          clear hB
          obtain ⟨u, hu⟩ : ∃ u, c.ts[q]? = some u := ⟨_, List.getElem?_eq_getElem (by rw [Hlen.out]; omega)⟩
          have u4 := cell_regrown (keepc hb2 (keepc hbr (hrow q u hu 4 _ rfl)))
          have HU := Lib.hid hu
          clear hu
          have hqn : (q : Int) < (c.tn : Int) := by omega
          have hq0 : ((q : Int) == -1) = false := by simp
          have hq1 : decide ((q : Int) < 0) = false := by simp
          clear hrow
          by_cases hbt : u.bits < t.bits
          · have hbd : decide (u.bits < t.bits) = true := by simp [hbt]
            have HBT := Lib.hid hbt
            clear hbt
            refine wp_region_quiet_below (by kernel_rfl) (by kernel_rfl) ?_
            repeat (first | go_big_quiet_skip | quiet_step (first | (go_at_call 47; with_reducible exact cq _ _)))
            refine wpQuiet_nil ?_
            intro _ hw'
            obtain ⟨⟨dq, osq⟩, hw''⟩ := hw'
            subst hw''
            go_wp2
            go_roundw
            case rel => exact ⟨i + 1, by omega, by rw [bst_up HT.out HH.out HB.out HU.out HBT.out], by go_num, bel_via (bel_via hbr hb2) (below_regrown _ _ _)⟩
            case measure => simp [intOf]; omega
          · have hbd : decide (u.bits < t.bits) = false := by simp [hbt]
            have HBT := Lib.hid hbt
            clear hbt
            refine wp_region_quiet_below (by kernel_rfl) (by kernel_rfl) ?_
            repeat (first | go_big_quiet_skip | quiet_step (first | (go_at_call 47; with_reducible exact cq _ _)))
            refine wpQuiet_nil ?_
            intro _ hw'
            obtain ⟨⟨dq, osq⟩, hw''⟩ := hw'
            subst hw''
            go_wp2
            go_roundw
            case rel => exact ⟨i + 1, by omega, by rw [bst_stay HT.out HH.out HB.out HU.out HBT.out], by go_num, bel_via (bel_via hbr hb2) (below_regrown _ _ _)⟩
            case measure => simp [intOf]; omega
    · obtain rfl : i = c.tn := by omega
      clear hlt
      have hb1 := bel_via hb hbr
      by_cases hm : B = -1
      · have HB := Lib.hid (hB.symm.trans hm)
        subst hm
        clear hB hC hz hS
        go_wp2
        go_ret2
        refine ⟨?_, hb1⟩
        rw [HV.out, routeT, routeP, if_pos HB.out]
        rfl
      · obtain ⟨q, hq⟩ : ∃ q : Nat, B = q := ⟨B.toNat, by omega⟩
        have HB := Lib.hid (hB.symm.trans hq)
        subst hq
        clear hB hm
        have hqn : q < c.tn := by omega
        have hqi : (q : Int) < (c.tn : Int) := by omega
        obtain ⟨b, off, hA, hblt, hrow⟩ := hS.row (by omega)
        obtain ⟨u, hu⟩ : ∃ u, c.ts[q]? = some u := ⟨_, List.getElem?_eq_getElem (by rw [Hlen.out]; omega)⟩
        have r5 := keepc hbr (hrow q u hu 5 _ rfl)
        have hlt1 : b < wr.heap.size := Nat.lt_of_lt_of_le hblt hbr.size
        have hq0 : ((q : Int) == -1) = false := by simp
        have hq1 : decide ((q : Int) < 0) = false := by simp
        have HU := Lib.hid hu
        have hR : routeT c ah al = .tuple #[.int .i64 u.ifc, .int .i64 (zoneP c u.ifc)] := by
          unfold routeT routeP
          rw [HB.out, if_neg (by omega), show (q : Int).toNat = q from rfl, HU.out]
        have HR := Lib.hid (HV.out.trans hR)
        have cz := hz wr hbr u.ifc
        have czz := fun (W : World) (hW : Below wr.heap.size wr W) => hz W (bel_via hbr hW) u.ifc
        generalize zoneP c u.ifc = Z at cz czz HR
        rw [hA] at c4 cz czz
        clear hu hR hrow hS hC hz hbd HV HB HU hA
        go_wp2_with (go_at_call 48; with_reducible refine cz.mono ?_; rintro e w' ⟨rfl, hb'⟩)
        go_ret2
        exact ⟨by rw [HR.out]; rfl, bel_via hb1 hb'⟩

set_option maxHeartbeats 8000000 in
set_option maxRecDepth 100000 in
theorem rroute_any (c : CF) (ah al : Int) {w : World} (hc : c.Ok w) :
    Calls Try.prog 12 #[.agg (cfc c), .agg #[.int .u64 ah, .int .u64 al]] w fun e w' => e = .returned (routeT c ah al) ∧ Below w.heap.size w w' := by
  obtain ⟨w0, hw0⟩ : ∃ w0, w0 = (w.alloc (.cells (cfc c) 30)).alloc (.cells #[.int .u64 ah, .int .u64 al] 33) := ⟨_, rfl⟩
  have hb : Below w.heap.size w w0 := by rw [hw0]; exact Below.al (Below.al (Below.refl _ _) _) _
  have hC : ∀ w', Below w0.heap.size w0 w' → CfB w' w.heap.size c ∧ w'.cell? ⟨w.heap.size + 1, 0, none⟩ = some (.int .u64 ah) ∧ w'.cell? ⟨w.heap.size + 1, 1, none⟩ = some (.int .u64 al) := by
    intro w' h
    refine ⟨CfB.keep ?_ h, keepc h ?_, keepc h ?_⟩
    · rw [hw0]; exact (CfB.made w c).keep (Below.al (Below.refl _ _) _)
    · rw [hw0]; simp [go_sem, World.cell?_alloc_past]
    · rw [hw0]; simp [go_sem, World.cell?_alloc_past]
  have hS := hc.t.keep hb
  have hbig := hS.big
  have hlen := hS.len
  have Hlen := Lib.hid hlen
  have hz := fun (W : World) (hW : Below w0.heap.size w0 W) (x : Int) => rzone_any (w := W) c x ((hc.keep hb).keep hW)
  obtain ⟨V, hV⟩ : ∃ V, V = routeT c ah al := ⟨_, rfl⟩
  rw [← hV]
  have HV := Lib.hid hV
  clear hV hc hlen
  obtain ⟨⟨c0, c1, c2, c3, c4, c5, c6, c7⟩, a0, a1⟩ := hC w0 (Below.refl _ _)
  simp only [cfc] at *
  go_enter Try.func12, Try.ntmps12
  go_wp2
  rw [← hw0]
  clear hw0 c0 c1 c2 c3 c4 c5 c6 c7 a0 a1
  go_loopw [6, 7] (fun vb vi wr => ∃ i : Nat, i ≤ c.tn ∧ vb = .int .i64 (bst ah al c.ts i) ∧ vi = .int .i64 i ∧ Below w0.heap.size w0 wr) (fun _ vi _ => c.tn - (intOf vi).toNat)
  case atStart => exact ⟨0, by omega, rfl, rfl, Below.refl _ _⟩
  case round =>
    obtain ⟨i, hi, rfl, rfl, hbr⟩ := hrel
    obtain ⟨⟨c0, c1, c2, c3, c4, c5, c6, c7⟩, a0, a1⟩ := hC wr hbr
    obtain ⟨B, hB⟩ : ∃ B, B = bst ah al c.ts i := ⟨_, rfl⟩
    have hbd := bst_bd ah al c.ts i
    rw [← hB] at hbd ⊢
    have hm0 : w.heap.size < wr.heap.size := World.block_lt_of_cell? _ _ c0
    have hm1 : w.heap.size + 1 < wr.heap.size := World.block_lt_of_cell? _ _ a0
    by_cases hlt : i < c.tn
    · have hlti : (i : Int) < (c.tn : Int) := by omega
      obtain ⟨b, off, hA, hblt, hrow⟩ := hS.row (by omega)
      have hml : i < c.ts.length := by rw [Hlen.out]; omega
      obtain ⟨t, ht⟩ : ∃ s, c.ts[i]? = some s := ⟨_, List.getElem?_eq_getElem hml⟩
      have r0 : wr.cell? ⟨b, off + i * 6, none⟩ = some (.int .u64 t.r.fh) := keepc hbr (hrow i t ht 0 _ rfl)
      have r1 := keepc hbr (hrow i t ht 1 _ rfl)
      have r2 := keepc hbr (hrow i t ht 2 _ rfl)
      have r3 := keepc hbr (hrow i t ht 3 _ rfl)
      have r4 := keepc hbr (hrow i t ht 4 _ rfl)
      have r5 := keepc hbr (hrow i t ht 5 _ rfl)
      have hlt1 : b < wr.heap.size := Nat.lt_of_lt_of_le hblt hbr.size
      rw [hA] at c4
      have HT := Lib.hid ht
      clear ht hml hC hz c0 c1 c2 c3 c5 c6 c7
      have hcase : B = -1 ∨ ∃ q : Nat, q < i ∧ B = q := by
        by_cases h : B = -1
        · exact .inl h
        · exact .inr ⟨B.toNat, by omega, by omega⟩
      clear hS hA
      go_wp2
      have k1 := cell_regrown r0
      have k2 := cell_regrown r1
      have k3 := cell_regrown r2
      have k4 := cell_regrown r3
      have k5 := cell_regrown r4
      have k6 := cell_regrown c4
      have k7 := cell_regrown a0
      have k8 := cell_regrown a1
      have cq := fun d os => Calls.regrown_of (rhas_any t.r.fh t.r.fl t.r.th t.r.tl ah al (grow (redrawn wr d) os))
      clear r0 r1 r2 r3 r4 r5 c4 a0 a1
      cases hh : hasI t.r.fh t.r.fl t.r.th t.r.tl ah al with
      | false =>
        rw [hh] at cq
        have HH := Lib.hid hh
        clear hh
        have HB := Lib.hid hB
        clear hB hcase
        refine wp_region_quiet_below (by kernel_rfl) (by kernel_rfl) ?_
        repeat (first | go_big_quiet_skip | quiet_step (first | (go_at_call 22; with_reducible exact cq _ _)))
        refine wpQuiet_nil ?_
        intro _ hw'
        obtain ⟨⟨dq, osq⟩, hw''⟩ := hw'
        subst hw''
        go_wp2
        go_roundw
        case rel => exact ⟨i + 1, by omega, by rw [bst_no HT.out HH.out, HB.out], by go_num, bel_via hbr (below_regrown _ _ _)⟩
        case measure => simp [intOf]; omega
      | true =>
        rw [hh] at cq
        have HH := Lib.hid hh
        clear hh
        rcases hcase with hm1 | ⟨q, hq, hqe⟩
        · have HB := Lib.hid (hB.symm.trans hm1)
          subst hm1
          clear hB
          refine wp_region_quiet_below (by kernel_rfl) (by kernel_rfl) ?_
          repeat (first | go_big_quiet_skip | quiet_step (first | (go_at_call 22; with_reducible exact cq _ _)))
          refine wpQuiet_nil ?_
          intro _ hw'
          obtain ⟨⟨dq, osq⟩, hw''⟩ := hw'
          subst hw''
          go_wp2
          go_roundw
          case rel => exact ⟨i + 1, by omega, by rw [bst_first HT.out HH.out HB.out], by go_num, bel_via hbr (below_regrown _ _ _)⟩
          case measure => simp [intOf]; omega
        · have HB := Lib.hid (hB.symm.trans hqe)
          subst hqe
          clear hB
          obtain ⟨u, hu⟩ : ∃ u, c.ts[q]? = some u := ⟨_, List.getElem?_eq_getElem (by rw [Hlen.out]; omega)⟩
          have u4 := cell_regrown ((keepc hbr (hrow q u hu 4 _ rfl)))
          have HU := Lib.hid hu
          clear hu
          have hqn : (q : Int) < (c.tn : Int) := by omega
          have hq0 : ((q : Int) == -1) = false := by simp
          have hq1 : decide ((q : Int) < 0) = false := by simp
          clear hrow
          by_cases hbt : u.bits < t.bits
          · have hbd : decide (u.bits < t.bits) = true := by simp [hbt]
            have HBT := Lib.hid hbt
            clear hbt
            refine wp_region_quiet_below (by kernel_rfl) (by kernel_rfl) ?_
            repeat (first | go_big_quiet_skip | quiet_step (first | (go_at_call 22; with_reducible exact cq _ _)))
            refine wpQuiet_nil ?_
            intro _ hw'
            obtain ⟨⟨dq, osq⟩, hw''⟩ := hw'
            subst hw''
            go_wp2
            go_roundw
            case rel => exact ⟨i + 1, by omega, by rw [bst_up HT.out HH.out HB.out HU.out HBT.out], by go_num, bel_via hbr (below_regrown _ _ _)⟩
            case measure => simp [intOf]; omega
          · have hbd : decide (u.bits < t.bits) = false := by simp [hbt]
            have HBT := Lib.hid hbt
            clear hbt
            refine wp_region_quiet_below (by kernel_rfl) (by kernel_rfl) ?_
            repeat (first | go_big_quiet_skip | quiet_step (first | (go_at_call 22; with_reducible exact cq _ _)))
            refine wpQuiet_nil ?_
            intro _ hw'
            obtain ⟨⟨dq, osq⟩, hw''⟩ := hw'
            subst hw''
            go_wp2
            go_roundw
            case rel => exact ⟨i + 1, by omega, by rw [bst_stay HT.out HH.out HB.out HU.out HBT.out], by go_num, bel_via hbr (below_regrown _ _ _)⟩
            case measure => simp [intOf]; omega
    · obtain rfl : i = c.tn := by omega
      clear hlt
      have hb1 := bel_via hb hbr
      by_cases hm : B = -1
      · have HB := Lib.hid (hB.symm.trans hm)
        subst hm
        clear hB hC hz hS
        go_wp2
        go_ret2
        refine ⟨?_, hb1⟩
        rw [HV.out, routeT, routeP, if_pos HB.out]
        rfl
      · obtain ⟨q, hq⟩ : ∃ q : Nat, B = q := ⟨B.toNat, by omega⟩
        have HB := Lib.hid (hB.symm.trans hq)
        subst hq
        clear hB hm
        have hqn : q < c.tn := by omega
        have hqi : (q : Int) < (c.tn : Int) := by omega
        obtain ⟨b, off, hA, hblt, hrow⟩ := hS.row (by omega)
        obtain ⟨u, hu⟩ : ∃ u, c.ts[q]? = some u := ⟨_, List.getElem?_eq_getElem (by rw [Hlen.out]; omega)⟩
        have r5 := keepc hbr (hrow q u hu 5 _ rfl)
        have hlt1 : b < wr.heap.size := Nat.lt_of_lt_of_le hblt hbr.size
        have hq0 : ((q : Int) == -1) = false := by simp
        have hq1 : decide ((q : Int) < 0) = false := by simp
        have HU := Lib.hid hu
        have hR : routeT c ah al = .tuple #[.int .i64 u.ifc, .int .i64 (zoneP c u.ifc)] := by
          unfold routeT routeP
          rw [HB.out, if_neg (by omega), show (q : Int).toNat = q from rfl, HU.out]
        have HR := Lib.hid (HV.out.trans hR)
        have cz := hz wr hbr u.ifc
        have czz := fun (W : World) (hW : Below wr.heap.size wr W) => hz W (bel_via hbr hW) u.ifc
        generalize zoneP c u.ifc = Z at cz czz HR
        rw [hA] at c4 cz czz
        clear hu hR hrow hS hC hz hbd HV HB HU hA
        have k0 := cell_regrown c0
        have k1 := cell_regrown c1
        have k2 := cell_regrown c2
        have k3 := cell_regrown c3
        have k4 := cell_regrown c4
        have k5 := cell_regrown c5
        have k6 := cell_regrown c6
        have k7 := cell_regrown c7
        have k8 := cell_regrown r5
        have cq := fun d os => Calls.regrown_of (czz (grow (redrawn wr d) os) (below_regrown _ _ _))
        clear cz czz
        go_wp2
        clear c0 c1 c2 c3 c4 c5 c6 c7 a0 a1 r5
        refine wp_region_quiet_below (by kernel_rfl) (by kernel_rfl) ?_
        repeat (first | go_big_quiet_skip | quiet_step (first | (go_at_call 23; with_reducible exact cq _ _)))
        refine wpQuiet_nil ?_
        intro _ hw'
        obtain ⟨⟨dq, osq⟩, hw''⟩ := hw'
        subst hw''
        go_wp2
        go_ret2
        exact ⟨by rw [HR.out]; rfl, bel_via hb1 (below_regrown _ _ _)⟩
end Go.Proofs.Ytokbmahnjmmcaaa
