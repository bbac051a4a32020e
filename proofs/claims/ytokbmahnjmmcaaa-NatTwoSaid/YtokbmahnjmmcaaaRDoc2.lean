/- The document's services and objects; by-name template. -/
import Derived.Test.YtokbmahnjmmcaaaRDoc
import Derived.Test.YtokbmahnjmmcaaaRNat
namespace Go.Proofs.Ytokbmahnjmmcaaa
open Go.Shelf Go.RowKit Go.Lib Go.Sort
set_option linter.unusedVariables false
set_option linter.unusedSimpArgs false

set_option maxHeartbeats 4000000 in
theorem rserves_any (c : CF) (sv : ByteArray) (k : KR) {w : World} (hc : c.Ok w) :
    Calls Try.prog 39 #[.agg (cfc c), .string sv, .agg (krc k).toArray] w fun e w' => e = .returned (.bool (servesP c sv k)) ∧ Below w.heap.size w w' := by
  by_cases ha : sv.toList = [97, 110, 121]
  · have hr : servesP c sv k = true := by simp [servesP, isAny, ha]
    rw [hr]
    simp only [cfc, krc]
    clear hr
    go_enter Try.func39, Try.ntmps39
    go_wp2
    go_ret
    exact ⟨rfl, by repeat (first | exact Below.refl _ _ | apply Below.dr | apply Below.al)⟩
  · have hab : (sv.toList == [97, 110, 121]) = false := by simp [ha]
    obtain ⟨w0, hw0⟩ : ∃ w0, w0 = (w.alloc (.cells (cfc c) 30)).alloc (.cells (krc k).toArray 35) := ⟨_, rfl⟩
    have hb : Below w.heap.size w w0 := by rw [hw0]; exact Below.al (Below.al (Below.refl _ _) _) _
    have hC : ∀ w', Below w0.heap.size w0 w' → w'.cell? ⟨w.heap.size, 2, none⟩ = some (.slice c.sA c.sn c.sc) ∧ w'.cell? ⟨w.heap.size + 1, 0, none⟩ = some (.int .i64 k.proto) ∧ w'.cell? ⟨w.heap.size + 1, 6, none⟩ = some (.int .i64 k.dp) := by
      intro w' h
      refine ⟨keepc h ?_, keepc h ?_, keepc h ?_⟩ <;> (rw [hw0]; simp [go_sem, cfc, krc, World.cell?_alloc_past])
    have hS := hc.s.keep hb
    have hbig := hS.big
    have hlen := hS.len
    have hr : servesP c sv k = match c.ss.find? (fun s => eqs s.nm sv) with | none => false | some s => srvP s k := by unfold servesP; rw [show isAny sv = false from hab]; rfl
    obtain ⟨V, hV⟩ : ∃ V, V = servesP c sv k := ⟨_, rfl⟩
    rw [← hV] at hr ⊢
    have HV := Lib.hid hr
    have Hlen := Lib.hid hlen
    clear hV hlen hc hr
    obtain ⟨kp, ksh, ksl, kdh, kdl, ksp, kdp⟩ := k
    simp only [cfc, krc] at *
    go_enter Try.func39, Try.ntmps39
    go_wp2
    rw [← hw0]
    clear hw0
    go_loopw [7] (fun vi wr => ∃ m : Nat, m ≤ c.sn ∧ vi = .int .i64 m ∧ Below w0.heap.size w0 wr ∧ Aside (∀ (j : Nat) (s : SR), j < m → c.ss[j]? = some s → eqs s.nm sv = false)) (fun vi _ => c.sn - (intOf vi).toNat)
    case atStart => exact ⟨0, by omega, rfl, Below.refl _ _, fun j z hj => absurd hj (Nat.not_lt_zero _)⟩
    case round =>
      obtain ⟨m, hm, rfl, hbr, N⟩ := hrel
      obtain ⟨c2, k0, k6⟩ := hC wr hbr
      by_cases hlt : m < c.sn
      · have hlti : (m : Int) < (c.sn : Int) := by omega
        obtain ⟨b, off, hA, hblt, hrow⟩ := hS.row (by omega)
        have hml : m < c.ss.length := by rw [Hlen.out]; omega
        obtain ⟨s, hs⟩ : ∃ s, c.ss[m]? = some s := ⟨_, List.getElem?_eq_getElem hml⟩
        have r0 : wr.cell? ⟨b, off + m * 4, none⟩ = some (.string s.nm) := keepc hbr (hrow m s hs 0 _ rfl)
        have r1 := keepc hbr (hrow m s hs 1 _ rfl)
        have r2 := keepc hbr (hrow m s hs 2 _ rfl)
        have r3 := keepc hbr (hrow m s hs 3 _ rfl)
        have hlt1 : b < wr.heap.size := Nat.lt_of_lt_of_le hblt hbr.size
        have hm0 : w.heap.size < wr.heap.size := World.block_lt_of_cell? _ _ c2
        have hm1 : w.heap.size + 1 < wr.heap.size := World.block_lt_of_cell? _ _ k0
        rw [hA] at c2
        have HS := Lib.hid hs
        have hb1 := bel_via hb hbr
        clear hs hrow hS hA hml hC hblt
        by_cases he : s.nm.toList = sv.toList
        · have heb : (s.nm.toList == sv.toList) = true := by simp [he]
          have hfind : c.ss.find? (fun s => eqs s.nm sv) = some s := find_hit HS.out heb N.out
          have hVs : V = srvP s ⟨kp, ksh, ksl, kdh, kdl, ksp, kdp⟩ := by rw [HV.out, hfind]
          have HV2 := Lib.hid hVs
          clear he hVs hfind HV HS N
          obtain ⟨sn, p, f, t⟩ := s
          go_wp2_with (go_at_call 40; refine (rported_any _ _).mono ?_; rintro e w' ⟨rfl, rfl⟩)
          all_goals
            go_ret
            refine ⟨ret_bool ?_, by repeat (first | exact hb1 | apply Below.dr | apply Below.al)⟩
            have hVs := HV2.out
            clear r0 r1 r2 r3 c2 k0 k6 hb1 hlt1 hm0 hm1 hbig HV2 hbr
            rw [hVs]
            simp only [srvP]
            clear hVs
            simp_all
            try (intros; omega)
        · have heb : (s.nm.toList == sv.toList) = false := by simp [he]
          have heb2 : eqs s.nm sv = false := heb
          have HE := Lib.hid heb2
          clear he heb2
          obtain ⟨sn, p, f, t⟩ := s
          go_wp2
          go_roundw
          case rel =>
            refine ⟨m + 1, by omega, by go_num, Below.al hbr _, fun j z2 hj hz2 => ?_⟩
            by_cases e : j = m
            · subst e
              rw [HS.out] at hz2; cases hz2
              exact HE.out
            · exact N.out j z2 (by omega) hz2
          case measure => simp [intOf]; omega
      · obtain rfl : m = c.sn := by omega
        clear hlt
        go_wp2
        go_ret
        refine ⟨?_, bel_via hb hbr⟩
        rw [HV.out, find_miss fun j z hz => N.out j z (by rw [← Hlen.out]; exact getE hz) hz]
        rfl

set_option maxHeartbeats 4000000 in
theorem rwithin_any (c : CF) (sv : ByteArray) (ah al : Int) {w : World} (hc : c.Ok w) :
    Calls Try.prog 42 #[.agg (cfc c), .string sv, .agg #[.int .u64 ah, .int .u64 al]] w fun e w' => e = .returned (.bool (withinP c sv ah al)) ∧ Below w.heap.size w w' := by
  by_cases ha : sv.toList = [97, 110, 121]
  · have hr : withinP c sv ah al = true := by simp [withinP, isAny, ha]
    rw [hr]
    simp only [cfc]
    clear hr
    go_enter Try.func42, Try.ntmps42
    go_wp2
    go_ret
    exact ⟨rfl, by repeat (first | exact Below.refl _ _ | apply Below.dr | apply Below.al)⟩
  · have hab : (sv.toList == [97, 110, 121]) = false := by simp [ha]
    obtain ⟨w0, hw0⟩ : ∃ w0, w0 = (w.alloc (.cells (cfc c) 30)).alloc (.cells #[.int .u64 ah, .int .u64 al] 33) := ⟨_, rfl⟩
    have hb : Below w.heap.size w w0 := by rw [hw0]; exact Below.al (Below.al (Below.refl _ _) _) _
    have hC : ∀ w', Below w0.heap.size w0 w' → w'.cell? ⟨w.heap.size, 1, none⟩ = some (.slice c.oA c.on c.oc) ∧ w'.cell? ⟨w.heap.size + 1, 0, none⟩ = some (.int .u64 ah) ∧ w'.cell? ⟨w.heap.size + 1, 1, none⟩ = some (.int .u64 al) := by
      intro w' h
      refine ⟨keepc h ?_, keepc h ?_, keepc h ?_⟩ <;> (rw [hw0]; simp [go_sem, cfc, World.cell?_alloc_past])
    have hS := hc.o.keep hb
    have hI := fun o ho => (hc.oi o ho).keep hb
    have hbig := hS.big
    have hlen := hS.len
    have hr : withinP c sv ah al = match c.os.find? (fun s => eqs s.nm sv) with | none => false | some o => o.rs.any (hasR ah al) := by unfold withinP; rw [show isAny sv = false from hab]; rfl
    obtain ⟨V, hV⟩ : ∃ V, V = withinP c sv ah al := ⟨_, rfl⟩
    rw [← hV] at hr ⊢
    have HV := Lib.hid hr
    have Hlen := Lib.hid hlen
    clear hV hlen hc hr
    obtain ⟨c1, k0, k1⟩ := hC w0 (Below.refl _ _)
    simp only [cfc] at *
    go_enter Try.func42, Try.ntmps42
    go_wp2
    rw [← hw0]
    clear hw0
    go_loop [7] (fun vi => ∃ m : Nat, m ≤ c.on ∧ vi = .int .i64 m ∧ Aside (∀ (j : Nat) (s : OR), j < m → c.os[j]? = some s → eqs s.nm sv = false)) (fun vi => c.on - (intOf vi).toNat)
    case atStart => exact ⟨0, by omega, rfl, fun j z hj => absurd hj (Nat.not_lt_zero _)⟩
    case round =>
      obtain ⟨m, hm, rfl, N⟩ := hrel
      by_cases hlt : m < c.on
      · have hlti : (m : Int) < (c.on : Int) := by omega
        obtain ⟨b, off, hA, hblt, hrow⟩ := hS.row (by omega)
        have hml : m < c.os.length := by rw [Hlen.out]; omega
        obtain ⟨o, hs⟩ : ∃ s, c.os[m]? = some s := ⟨_, List.getElem?_eq_getElem hml⟩
        have r0 : w0.cell? ⟨b, off + m * 2, none⟩ = some (.string o.nm) := hrow m o hs 0 _ rfl
        have r1 := hrow m o hs 1 _ rfl
        have hR := hI o (List.mem_of_getElem? hs)
        rw [hA] at c1 hC
        have HS := Lib.hid hs
        clear hs hrow hS hA hml hI
        by_cases he : o.nm.toList = sv.toList
        · have heb : (o.nm.toList == sv.toList) = true := by simp [he]
          have hfind : c.os.find? (fun s => eqs s.nm sv) = some o := find_hit HS.out heb N.out
          have hVs : V = o.rs.any (hasR ah al) := by rw [HV.out, hfind]
          have HV2 := Lib.hid hVs
          clear he hVs hfind HV HS N
          have hrb := hR.big
          have hrl := Lib.hid hR.len
          have hrr := hR.row
          clear hR
          obtain ⟨on, ra, rl, rc, rs⟩ := o
          go_wp2
          go_loopw [8] (fun vi wr => ∃ i : Nat, i ≤ rl ∧ vi = .int .i64 i ∧ Below w0.heap.size w0 wr ∧ Aside (∀ (j : Nat) (r : R4), j < i → rs[j]? = some r → hasR ah al r = false)) (fun vi _ => rl - (intOf vi).toNat)
          case atStart => exact ⟨0, by omega, rfl, Below.refl _ _, fun j z hj => absurd hj (Nat.not_lt_zero _)⟩
          case round =>
            obtain ⟨i, hi, rfl, hbr, N2⟩ := hrel
            obtain ⟨d1, e0, e1⟩ := hC wr hbr
            have s1 := keepc hbr r1
            clear r1 r0 k0 k1 c1
            have hlt1 : b < wr.heap.size := Nat.lt_of_lt_of_le hblt hbr.size
            have hb1 := bel_via hb hbr
            by_cases hl2 : i < rl
            · have hlti2 : (i : Int) < (rl : Int) := by omega
              obtain ⟨b2, off2, hA2, hblt2, hrow2⟩ := hrr (by omega)
              have hil : i < rs.length := by rw [hrl.out]; omega
              obtain ⟨r, hr⟩ : ∃ r, rs[i]? = some r := ⟨_, List.getElem?_eq_getElem hil⟩
              have q0 : wr.cell? ⟨b2, off2 + i * 4, none⟩ = some (.int .u64 r.fh) := keepc hbr (hrow2 i r hr 0 _ rfl)
              have q1 := keepc hbr (hrow2 i r hr 1 _ rfl)
              have q2 := keepc hbr (hrow2 i r hr 2 _ rfl)
              have q3 := keepc hbr (hrow2 i r hr 3 _ rfl)
              have HR := Lib.hid hr
              rw [hA2] at s1
              clear hr hrow2 hil hrr hA2 hC hblt2 hblt
              have cq := fun d os => Calls.regrown_of (rhas_any r.fh r.fl r.th r.tl ah al (grow (redrawn wr d) os))
              have g1 := cell_regrown d1
              have g2 := cell_regrown s1
              have g3 := cell_regrown e0
              have g4 := cell_regrown e1
              have g5 := cell_regrown q0
              have g6 := cell_regrown q1
              have g7 := cell_regrown q2
              have g8 := cell_regrown q3
              go_wp2
              clear d1 s1 e0 e1 q0 q1 q2 q3
              cases hh : hasI r.fh r.fl r.th r.tl ah al with
              | true =>
                rw [hh] at cq
                have HH := Lib.hid hh
                clear hh
                refine wp_region_quiet_below (by kernel_rfl) (by kernel_rfl) ?_
                repeat (first | go_big_quiet_skip | quiet_step (first | (go_at_call 22; with_reducible exact cq _ _)))
                refine wpQuiet_nil ?_
                intro _ hw'
                obtain ⟨⟨dq, osq⟩, hw''⟩ := hw'
                subst hw''
                go_wp2
                go_ret
                refine ⟨ret_bool ?_, bel_via hb1 (below_regrown _ _ _)⟩
                rw [HV2.out]
                exact (List.any_eq_true.2 ⟨r, List.mem_of_getElem? HR.out, HH.out⟩).symm
              | false =>
                rw [hh] at cq
                have HH := Lib.hid hh
                clear hh
                refine wp_region_quiet_below (by kernel_rfl) (by kernel_rfl) ?_
                repeat (first | go_big_quiet_skip | quiet_step (first | (go_at_call 22; with_reducible exact cq _ _)))
                refine wpQuiet_nil ?_
                intro _ hw'
                obtain ⟨⟨dq, osq⟩, hw''⟩ := hw'
                subst hw''
                go_wp2
                go_roundw
                case rel =>
                  refine ⟨i + 1, by omega, by go_num, bel_via hbr (below_regrown _ _ _), fun j z2 hj hz2 => ?_⟩
                  by_cases e : j = i
                  · subst e
                    rw [HR.out] at hz2; cases hz2
                    exact HH.out
                  · exact N2.out j z2 (by omega) hz2
                case measure => simp [intOf]; omega
            · obtain rfl : i = rl := by omega
              clear hl2 hC hrr
              go_wp2
              go_ret
              refine ⟨ret_bool ?_, hb1⟩
              rw [HV2.out, eq_comm, List.any_eq_false]
              intro r hr
              obtain ⟨j, hj⟩ := List.getElem?_of_mem hr
              have := N2.out j r (by rw [← hrl.out]; exact getE hj) hj
              rw [this]; simp
        · have heb : (o.nm.toList == sv.toList) = false := by simp [he]
          have heb2 : eqs o.nm sv = false := heb
          have HE := Lib.hid heb2
          clear he heb2 hC hR
          obtain ⟨on, ra, rl, rc, rs⟩ := o
          go_wp2
          go_round
          case rel =>
            refine ⟨m + 1, by omega, by go_num, fun j z2 hj hz2 => ?_⟩
            by_cases e : j = m
            · subst e
              rw [HS.out] at hz2; cases hz2
              exact HE.out
            · exact N.out j z2 (by omega) hz2
          case measure => simp [intOf]; omega
      · obtain rfl : m = c.on := by omega
        clear hlt hC
        go_wp2
        go_ret
        refine ⟨?_, hb⟩
        rw [HV.out, find_miss fun j z hz => N.out j z (by rw [← Hlen.out]; exact getE hz) hz]
        rfl
end Go.Proofs.Ytokbmahnjmmcaaa
