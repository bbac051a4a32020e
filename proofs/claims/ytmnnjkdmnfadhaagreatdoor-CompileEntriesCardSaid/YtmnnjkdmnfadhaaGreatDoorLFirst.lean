/- first[T], the program's: the first thing wrong in a row; by-name template (gen_lfirst.py). -/
import Derived.Test.YtmnnjkdmnfadhaaGreatDoorLCP
import Derived.Lib.QuietBelow
namespace Go.Proofs.YtmnnjkdmnfadhaaGreatDoor
open Go.Shelf Go.RowKit Go.Lib Go.Sort
set_option linter.unusedVariables false
set_option linter.unusedSimpArgs false

set_option maxHeartbeats 4000000 in
theorem first_zon (chk : ZR → List ZR → Int) (g : Nat) (lb : Array Value) (eg : ∀ args w, (callFunc g args).run Tryz.prog w = .ok (.enter g args) w) (A : Option Addr) (n c : Nat) (l : List ZR) {w : World} (hS : Sl w 4 zrc A n l) (hnc : n ≤ c)
    (hp : ∀ W j x, l[j]? = some x → Below w.heap.size w W → Calls Tryz.prog g (#[.agg (zrc x).toArray, .slice A j c] ++ lb) W fun e w' => e = .returned (.int .i64 (chk x (l.take j))) ∧ Below W.heap.size W w') :
    Calls Tryz.prog 93 #[.slice A n c, .func (.func g) #[] lb] w fun e w' => e = .returned (.int .i64 (firstP chk l)) ∧ Below w.heap.size w w' := by
  have hbig := hS.big
  by_cases h0 : n = 0
  · subst h0
    obtain rfl : l = [] := List.eq_nil_of_length_eq_zero hS.len
    clear hS hp
    go_enter Tryz.func93, Tryz.ntmps93
    go_wp2
    refine wp_loop_rounds 1 ?_
    rw [rounds_succ]
    go_wp2
    go_ret
    exact ⟨rfl, Below.refl _ _⟩
  · obtain ⟨b, off, hA, hlt, hrow⟩ := hS.row (by omega)
    have hlen := hS.len
    subst hA
    clear hS h0
    have HL := Lib.hid hlen
    clear hlen
    have HP := Lib.hid hp
    have HR := Lib.hid hrow
    clear hp hrow
    go_enter Tryz.func93, Tryz.ntmps93
    go_wp2
    go_loopw [10] (fun vi wr => ∃ i : Nat, i ≤ n ∧ vi = .int .i64 i ∧ Aside (∀ (j : Nat) (x : ZR), j < i → l[j]? = some x → chk x (l.take j) = 0) ∧ Below w.heap.size w wr) (fun vi _ => n - (intOf vi).toNat)
    case atStart => exact ⟨0, by omega, rfl, fun j x hj => absurd hj (Nat.not_lt_zero _), Below.refl _ _⟩
    case round =>
      obtain ⟨i, hi, rfl, N, hb⟩ := hrel
      by_cases hlti : i < n
      · obtain ⟨x, hx⟩ : ∃ x, l[i]? = some x := ⟨_, List.getElem?_eq_getElem (by rw [HL.out]; exact hlti)⟩
        have hcell := fun j v hv => keepc hb (HR.out i x hx j v hv)
        have hblk : b < wr.heap.size := Nat.lt_of_lt_of_le hlt hb.size
        have cc := fun W hW => HP.out W i x hx hW
        obtain ⟨r, hr⟩ : ∃ r, r = chk x (l.take i) := ⟨_, rfl⟩
        rw [← hr] at cc
        have HX := Lib.hid hx
        have HY := Lib.hid hr
        clear hx hr HP HR
        obtain ⟨nm, ah, al, ia, il, ic, ifs⟩ := x
        have r0 : wr.cell? ⟨b, off + i * 4, none⟩ = some (.string nm) := hcell 0 _ rfl
        have r1 := hcell 1 _ rfl
        have r2 := hcell 2 _ rfl
        have r3 := hcell 3 _ rfl
        clear hcell
        simp only [zrc] at cc
        have hic : i ≤ c := by omega
        go_wp2
        generalize hW1 : wr.alloc (.cells #[.string nm, .int .u64 ah, .int .u64 al, .slice ia il ic] 59) = W1
        have b1 : Below wr.heap.size wr W1 := by rw [← hW1]; exact Below.al (Below.refl _ _) _
        have q0 := cell_regrown (show W1.cell? ⟨wr.heap.size, 0, none⟩ = some (.string nm) by rw [← hW1]; simp [go_sem])
        have q1 := cell_regrown (show W1.cell? ⟨wr.heap.size, 1, none⟩ = some (.int .u64 ah) by rw [← hW1]; simp [go_sem])
        have q2 := cell_regrown (show W1.cell? ⟨wr.heap.size, 2, none⟩ = some (.int .u64 al) by rw [← hW1]; simp [go_sem])
        have q3 := cell_regrown (show W1.cell? ⟨wr.heap.size, 3, none⟩ = some (.slice ia il ic) by rw [← hW1]; simp [go_sem])
        have qc := fun d os => Calls.regrown_of (cc (grow (redrawn W1 d) os) (bel_via (bel_via hb b1) (below_regrown _ _ _)))
        clear hW1 cc r0 r1 r2 r3
        refine wp_region_quiet_below (by kernel_rfl) (by kernel_rfl) ?_
        repeat (first | go_big_quiet_skip | quiet_step (first | (go_at_fn g; with_reducible exact qc _ _)))
        refine wpQuiet_nil ?_
        intro _ hw'
        obtain ⟨⟨dq, osq⟩, hw''⟩ := hw'
        subst hw''
        have hbz := bel_via (bel_via hb b1) (below_regrown W1 dq osq)
        clear qc
        by_cases hr0 : r = 0
        · subst hr0
          go_wp2
          go_roundw
          case rel => exact ⟨i + 1, by omega, by go_num, fun j y hj hy => by
            by_cases e : j = i
            · subst e; rw [HX.out] at hy; cases hy; exact HY.out.symm
            · exact N.out j y (by omega) hy, hbz⟩
          case measure => simp [intOf]; omega
        · have hr1 : (r != 0) = true := by simp [hr0]
          go_wp2
          go_ret
          exact ⟨by rw [firstP_hit HX.out (by rw [← HY.out]; exact hr0) N.out, ← HY.out]; rfl, hbz⟩
      · obtain rfl : i = n := by omega
        clear hlti HP HR
        go_wp2
        go_ret
        exact ⟨by rw [firstP_all fun j x hj => N.out j x (by have := getE hj; rw [HL.out] at this; exact this) hj]; rfl, hb⟩

set_option maxHeartbeats 4000000 in
theorem first_obj (chk : OR → List OR → Int) (g : Nat) (lb : Array Value) (eg : ∀ args w, (callFunc g args).run Tryz.prog w = .ok (.enter g args) w) (A : Option Addr) (n c : Nat) (l : List OR) {w : World} (hS : Sl w 2 orc A n l) (hnc : n ≤ c)
    (hp : ∀ W j x, l[j]? = some x → Below w.heap.size w W → Calls Tryz.prog g (#[.agg (orc x).toArray, .slice A j c] ++ lb) W fun e w' => e = .returned (.int .i64 (chk x (l.take j))) ∧ Below W.heap.size W w') :
    Calls Tryz.prog 100 #[.slice A n c, .func (.func g) #[] lb] w fun e w' => e = .returned (.int .i64 (firstP chk l)) ∧ Below w.heap.size w w' := by
  have hbig := hS.big
  by_cases h0 : n = 0
  · subst h0
    obtain rfl : l = [] := List.eq_nil_of_length_eq_zero hS.len
    clear hS hp
    go_enter Tryz.func100, Tryz.ntmps100
    go_wp2
    refine wp_loop_rounds 1 ?_
    rw [rounds_succ]
    go_wp2
    go_ret
    exact ⟨rfl, Below.refl _ _⟩
  · obtain ⟨b, off, hA, hlt, hrow⟩ := hS.row (by omega)
    have hlen := hS.len
    subst hA
    clear hS h0
    have HL := Lib.hid hlen
    clear hlen
    have HP := Lib.hid hp
    have HR := Lib.hid hrow
    clear hp hrow
    go_enter Tryz.func100, Tryz.ntmps100
    go_wp2
    go_loopw [10] (fun vi wr => ∃ i : Nat, i ≤ n ∧ vi = .int .i64 i ∧ Aside (∀ (j : Nat) (x : OR), j < i → l[j]? = some x → chk x (l.take j) = 0) ∧ Below w.heap.size w wr) (fun vi _ => n - (intOf vi).toNat)
    case atStart => exact ⟨0, by omega, rfl, fun j x hj => absurd hj (Nat.not_lt_zero _), Below.refl _ _⟩
    case round =>
      obtain ⟨i, hi, rfl, N, hb⟩ := hrel
      by_cases hlti : i < n
      · obtain ⟨x, hx⟩ : ∃ x, l[i]? = some x := ⟨_, List.getElem?_eq_getElem (by rw [HL.out]; exact hlti)⟩
        have hcell := fun j v hv => keepc hb (HR.out i x hx j v hv)
        have hblk : b < wr.heap.size := Nat.lt_of_lt_of_le hlt hb.size
        have cc := fun W hW => HP.out W i x hx hW
        obtain ⟨r, hr⟩ : ∃ r, r = chk x (l.take i) := ⟨_, rfl⟩
        rw [← hr] at cc
        have HX := Lib.hid hx
        have HY := Lib.hid hr
        clear hx hr HP HR
        obtain ⟨nm, ra, rl, rc, rs⟩ := x
        have r0 : wr.cell? ⟨b, off + i * 2, none⟩ = some (.string nm) := hcell 0 _ rfl
        have r1 := hcell 1 _ rfl
        clear hcell
        simp only [orc] at cc
        have hic : i ≤ c := by omega
        go_wp2
        generalize hW1 : wr.alloc (.cells #[.string nm, .slice ra rl rc] 62) = W1
        have b1 : Below wr.heap.size wr W1 := by rw [← hW1]; exact Below.al (Below.refl _ _) _
        have q0 := cell_regrown (show W1.cell? ⟨wr.heap.size, 0, none⟩ = some (.string nm) by rw [← hW1]; simp [go_sem])
        have q1 := cell_regrown (show W1.cell? ⟨wr.heap.size, 1, none⟩ = some (.slice ra rl rc) by rw [← hW1]; simp [go_sem])
        have qc := fun d os => Calls.regrown_of (cc (grow (redrawn W1 d) os) (bel_via (bel_via hb b1) (below_regrown _ _ _)))
        clear hW1 cc r0 r1
        refine wp_region_quiet_below (by kernel_rfl) (by kernel_rfl) ?_
        repeat (first | go_big_quiet_skip | quiet_step (first | (go_at_fn g; with_reducible exact qc _ _)))
        refine wpQuiet_nil ?_
        intro _ hw'
        obtain ⟨⟨dq, osq⟩, hw''⟩ := hw'
        subst hw''
        have hbz := bel_via (bel_via hb b1) (below_regrown W1 dq osq)
        clear qc
        by_cases hr0 : r = 0
        · subst hr0
          go_wp2
          go_roundw
          case rel => exact ⟨i + 1, by omega, by go_num, fun j y hj hy => by
            by_cases e : j = i
            · subst e; rw [HX.out] at hy; cases hy; exact HY.out.symm
            · exact N.out j y (by omega) hy, hbz⟩
          case measure => simp [intOf]; omega
        · have hr1 : (r != 0) = true := by simp [hr0]
          go_wp2
          go_ret
          exact ⟨by rw [firstP_hit HX.out (by rw [← HY.out]; exact hr0) N.out, ← HY.out]; rfl, hbz⟩
      · obtain rfl : i = n := by omega
        clear hlti HP HR
        go_wp2
        go_ret
        exact ⟨by rw [firstP_all fun j x hj => N.out j x (by have := getE hj; rw [HL.out] at this; exact this) hj]; rfl, hb⟩

set_option maxHeartbeats 4000000 in
theorem first_srv (chk : SR → List SR → Int) (g : Nat) (lb : Array Value) (eg : ∀ args w, (callFunc g args).run Tryz.prog w = .ok (.enter g args) w) (A : Option Addr) (n c : Nat) (l : List SR) {w : World} (hS : Sl w 4 src A n l) (hnc : n ≤ c)
    (hp : ∀ W j x, l[j]? = some x → Below w.heap.size w W → Calls Tryz.prog g (#[.agg (src x).toArray, .slice A j c] ++ lb) W fun e w' => e = .returned (.int .i64 (chk x (l.take j))) ∧ Below W.heap.size W w') :
    Calls Tryz.prog 108 #[.slice A n c, .func (.func g) #[] lb] w fun e w' => e = .returned (.int .i64 (firstP chk l)) ∧ Below w.heap.size w w' := by
  have hbig := hS.big
  by_cases h0 : n = 0
  · subst h0
    obtain rfl : l = [] := List.eq_nil_of_length_eq_zero hS.len
    clear hS hp
    go_enter Tryz.func108, Tryz.ntmps108
    go_wp2
    refine wp_loop_rounds 1 ?_
    rw [rounds_succ]
    go_wp2
    go_ret
    exact ⟨rfl, Below.refl _ _⟩
  · obtain ⟨b, off, hA, hlt, hrow⟩ := hS.row (by omega)
    have hlen := hS.len
    subst hA
    clear hS h0
    have HL := Lib.hid hlen
    clear hlen
    have HP := Lib.hid hp
    have HR := Lib.hid hrow
    clear hp hrow
    go_enter Tryz.func108, Tryz.ntmps108
    go_wp2
    go_loopw [10] (fun vi wr => ∃ i : Nat, i ≤ n ∧ vi = .int .i64 i ∧ Aside (∀ (j : Nat) (x : SR), j < i → l[j]? = some x → chk x (l.take j) = 0) ∧ Below w.heap.size w wr) (fun vi _ => n - (intOf vi).toNat)
    case atStart => exact ⟨0, by omega, rfl, fun j x hj => absurd hj (Nat.not_lt_zero _), Below.refl _ _⟩
    case round =>
      obtain ⟨i, hi, rfl, N, hb⟩ := hrel
      by_cases hlti : i < n
      · obtain ⟨x, hx⟩ : ∃ x, l[i]? = some x := ⟨_, List.getElem?_eq_getElem (by rw [HL.out]; exact hlti)⟩
        have hcell := fun j v hv => keepc hb (HR.out i x hx j v hv)
        have hblk : b < wr.heap.size := Nat.lt_of_lt_of_le hlt hb.size
        have cc := fun W hW => HP.out W i x hx hW
        obtain ⟨r, hr⟩ : ∃ r, r = chk x (l.take i) := ⟨_, rfl⟩
        rw [← hr] at cc
        have HX := Lib.hid hx
        have HY := Lib.hid hr
        clear hx hr HP HR
        obtain ⟨nm, pr, fr, ti⟩ := x
        have r0 : wr.cell? ⟨b, off + i * 4, none⟩ = some (.string nm) := hcell 0 _ rfl
        have r1 := hcell 1 _ rfl
        have r2 := hcell 2 _ rfl
        have r3 := hcell 3 _ rfl
        clear hcell
        simp only [src] at cc
        have hic : i ≤ c := by omega
        go_wp2
        generalize hW1 : wr.alloc (.cells #[.string nm, .int .i64 pr, .int .i64 fr, .int .i64 ti] 64) = W1
        have b1 : Below wr.heap.size wr W1 := by rw [← hW1]; exact Below.al (Below.refl _ _) _
        have q0 := cell_regrown (show W1.cell? ⟨wr.heap.size, 0, none⟩ = some (.string nm) by rw [← hW1]; simp [go_sem])
        have q1 := cell_regrown (show W1.cell? ⟨wr.heap.size, 1, none⟩ = some (.int .i64 pr) by rw [← hW1]; simp [go_sem])
        have q2 := cell_regrown (show W1.cell? ⟨wr.heap.size, 2, none⟩ = some (.int .i64 fr) by rw [← hW1]; simp [go_sem])
        have q3 := cell_regrown (show W1.cell? ⟨wr.heap.size, 3, none⟩ = some (.int .i64 ti) by rw [← hW1]; simp [go_sem])
        have qc := fun d os => Calls.regrown_of (cc (grow (redrawn W1 d) os) (bel_via (bel_via hb b1) (below_regrown _ _ _)))
        clear hW1 cc r0 r1 r2 r3
        refine wp_region_quiet_below (by kernel_rfl) (by kernel_rfl) ?_
        repeat (first | go_big_quiet_skip | quiet_step (first | (go_at_fn g; with_reducible exact qc _ _)))
        refine wpQuiet_nil ?_
        intro _ hw'
        obtain ⟨⟨dq, osq⟩, hw''⟩ := hw'
        subst hw''
        have hbz := bel_via (bel_via hb b1) (below_regrown W1 dq osq)
        clear qc
        by_cases hr0 : r = 0
        · subst hr0
          go_wp2
          go_roundw
          case rel => exact ⟨i + 1, by omega, by go_num, fun j y hj hy => by
            by_cases e : j = i
            · subst e; rw [HX.out] at hy; cases hy; exact HY.out.symm
            · exact N.out j y (by omega) hy, hbz⟩
          case measure => simp [intOf]; omega
        · have hr1 : (r != 0) = true := by simp [hr0]
          go_wp2
          go_ret
          exact ⟨by rw [firstP_hit HX.out (by rw [← HY.out]; exact hr0) N.out, ← HY.out]; rfl, hbz⟩
      · obtain rfl : i = n := by omega
        clear hlti HP HR
        go_wp2
        go_ret
        exact ⟨by rw [firstP_all fun j x hj => N.out j x (by have := getE hj; rw [HL.out] at this; exact this) hj]; rfl, hb⟩

set_option maxHeartbeats 4000000 in
theorem first_lim (chk : LR → List LR → Int) (g : Nat) (lb : Array Value) (eg : ∀ args w, (callFunc g args).run Tryz.prog w = .ok (.enter g args) w) (A : Option Addr) (n c : Nat) (l : List LR) {w : World} (hS : Sl w 4 lrc A n l) (hnc : n ≤ c)
    (hp : ∀ W j x, l[j]? = some x → Below w.heap.size w W → Calls Tryz.prog g (#[.agg (lrc x).toArray, .slice A j c] ++ lb) W fun e w' => e = .returned (.int .i64 (chk x (l.take j))) ∧ Below W.heap.size W w') :
    Calls Tryz.prog 111 #[.slice A n c, .func (.func g) #[] lb] w fun e w' => e = .returned (.int .i64 (firstP chk l)) ∧ Below w.heap.size w w' := by
  have hbig := hS.big
  by_cases h0 : n = 0
  · subst h0
    obtain rfl : l = [] := List.eq_nil_of_length_eq_zero hS.len
    clear hS hp
    go_enter Tryz.func111, Tryz.ntmps111
    go_wp2
    refine wp_loop_rounds 1 ?_
    rw [rounds_succ]
    go_wp2
    go_ret
    exact ⟨rfl, Below.refl _ _⟩
  · obtain ⟨b, off, hA, hlt, hrow⟩ := hS.row (by omega)
    have hlen := hS.len
    subst hA
    clear hS h0
    have HL := Lib.hid hlen
    clear hlen
    have HP := Lib.hid hp
    have HR := Lib.hid hrow
    clear hp hrow
    go_enter Tryz.func111, Tryz.ntmps111
    go_wp2
    go_loopw [10] (fun vi wr => ∃ i : Nat, i ≤ n ∧ vi = .int .i64 i ∧ Aside (∀ (j : Nat) (x : LR), j < i → l[j]? = some x → chk x (l.take j) = 0) ∧ Below w.heap.size w wr) (fun vi _ => n - (intOf vi).toNat)
    case atStart => exact ⟨0, by omega, rfl, fun j x hj => absurd hj (Nat.not_lt_zero _), Below.refl _ _⟩
    case round =>
      obtain ⟨i, hi, rfl, N, hb⟩ := hrel
      by_cases hlti : i < n
      · obtain ⟨x, hx⟩ : ∃ x, l[i]? = some x := ⟨_, List.getElem?_eq_getElem (by rw [HL.out]; exact hlti)⟩
        have hcell := fun j v hv => keepc hb (HR.out i x hx j v hv)
        have hblk : b < wr.heap.size := Nat.lt_of_lt_of_le hlt hb.size
        have cc := fun W hW => HP.out W i x hx hW
        obtain ⟨r, hr⟩ : ∃ r, r = chk x (l.take i) := ⟨_, rfl⟩
        rw [← hr] at cc
        have HX := Lib.hid hx
        have HY := Lib.hid hr
        clear hx hr HP HR
        obtain ⟨nm, ra, bu, sg⟩ := x
        have r0 : wr.cell? ⟨b, off + i * 4, none⟩ = some (.string nm) := hcell 0 _ rfl
        have r1 := hcell 1 _ rfl
        have r2 := hcell 2 _ rfl
        have r3 := hcell 3 _ rfl
        clear hcell
        simp only [lrc] at cc
        have hic : i ≤ c := by omega
        go_wp2
        generalize hW1 : wr.alloc (.cells #[.string nm, .int .i64 ra, .int .i64 bu, .bool sg] 66) = W1
        have b1 : Below wr.heap.size wr W1 := by rw [← hW1]; exact Below.al (Below.refl _ _) _
        have q0 := cell_regrown (show W1.cell? ⟨wr.heap.size, 0, none⟩ = some (.string nm) by rw [← hW1]; simp [go_sem])
        have q1 := cell_regrown (show W1.cell? ⟨wr.heap.size, 1, none⟩ = some (.int .i64 ra) by rw [← hW1]; simp [go_sem])
        have q2 := cell_regrown (show W1.cell? ⟨wr.heap.size, 2, none⟩ = some (.int .i64 bu) by rw [← hW1]; simp [go_sem])
        have q3 := cell_regrown (show W1.cell? ⟨wr.heap.size, 3, none⟩ = some (.bool sg) by rw [← hW1]; simp [go_sem])
        have qc := fun d os => Calls.regrown_of (cc (grow (redrawn W1 d) os) (bel_via (bel_via hb b1) (below_regrown _ _ _)))
        clear hW1 cc r0 r1 r2 r3
        refine wp_region_quiet_below (by kernel_rfl) (by kernel_rfl) ?_
        repeat (first | go_big_quiet_skip | quiet_step (first | (go_at_fn g; with_reducible exact qc _ _)))
        refine wpQuiet_nil ?_
        intro _ hw'
        obtain ⟨⟨dq, osq⟩, hw''⟩ := hw'
        subst hw''
        have hbz := bel_via (bel_via hb b1) (below_regrown W1 dq osq)
        clear qc
        by_cases hr0 : r = 0
        · subst hr0
          go_wp2
          go_roundw
          case rel => exact ⟨i + 1, by omega, by go_num, fun j y hj hy => by
            by_cases e : j = i
            · subst e; rw [HX.out] at hy; cases hy; exact HY.out.symm
            · exact N.out j y (by omega) hy, hbz⟩
          case measure => simp [intOf]; omega
        · have hr1 : (r != 0) = true := by simp [hr0]
          go_wp2
          go_ret
          exact ⟨by rw [firstP_hit HX.out (by rw [← HY.out]; exact hr0) N.out, ← HY.out]; rfl, hbz⟩
      · obtain rfl : i = n := by omega
        clear hlti HP HR
        go_wp2
        go_ret
        exact ⟨by rw [firstP_all fun j x hj => N.out j x (by have := getE hj; rw [HL.out] at this; exact this) hj]; rfl, hb⟩

set_option maxHeartbeats 4000000 in
theorem first_rte (chk : TR → List TR → Int) (g : Nat) (lb : Array Value) (eg : ∀ args w, (callFunc g args).run Tryz.prog w = .ok (.enter g args) w) (A : Option Addr) (n c : Nat) (l : List TR) {w : World} (hS : Sl w 6 trc A n l) (hnc : n ≤ c)
    (hp : ∀ W j x, l[j]? = some x → Below w.heap.size w W → Calls Tryz.prog g (#[.agg (trc x).toArray, .slice A j c] ++ lb) W fun e w' => e = .returned (.int .i64 (chk x (l.take j))) ∧ Below W.heap.size W w') :
    Calls Tryz.prog 60 #[.slice A n c, .func (.func g) #[] lb] w fun e w' => e = .returned (.int .i64 (firstP chk l)) ∧ Below w.heap.size w w' := by
  have hbig := hS.big
  by_cases h0 : n = 0
  · subst h0
    obtain rfl : l = [] := List.eq_nil_of_length_eq_zero hS.len
    clear hS hp
    go_enter Tryz.func60, Tryz.ntmps60
    go_wp2
    refine wp_loop_rounds 1 ?_
    rw [rounds_succ]
    go_wp2
    go_ret
    exact ⟨rfl, Below.refl _ _⟩
  · obtain ⟨b, off, hA, hlt, hrow⟩ := hS.row (by omega)
    have hlen := hS.len
    subst hA
    clear hS h0
    have HL := Lib.hid hlen
    clear hlen
    have HP := Lib.hid hp
    have HR := Lib.hid hrow
    clear hp hrow
    go_enter Tryz.func60, Tryz.ntmps60
    go_wp2
    go_loopw [10] (fun vi wr => ∃ i : Nat, i ≤ n ∧ vi = .int .i64 i ∧ Aside (∀ (j : Nat) (x : TR), j < i → l[j]? = some x → chk x (l.take j) = 0) ∧ Below w.heap.size w wr) (fun vi _ => n - (intOf vi).toNat)
    case atStart => exact ⟨0, by omega, rfl, fun j x hj => absurd hj (Nat.not_lt_zero _), Below.refl _ _⟩
    case round =>
      obtain ⟨i, hi, rfl, N, hb⟩ := hrel
      by_cases hlti : i < n
      · obtain ⟨x, hx⟩ : ∃ x, l[i]? = some x := ⟨_, List.getElem?_eq_getElem (by rw [HL.out]; exact hlti)⟩
        have hcell := fun j v hv => keepc hb (HR.out i x hx j v hv)
        have hblk : b < wr.heap.size := Nat.lt_of_lt_of_le hlt hb.size
        have cc := fun W hW => HP.out W i x hx hW
        obtain ⟨r, hr⟩ : ∃ r, r = chk x (l.take i) := ⟨_, rfl⟩
        rw [← hr] at cc
        have HX := Lib.hid hx
        have HY := Lib.hid hr
        clear hx hr HP HR
        obtain ⟨⟨fh, fl, th, tl⟩, bi, fc⟩ := x
        have r0 : wr.cell? ⟨b, off + i * 6, none⟩ = some (.int .u64 fh) := hcell 0 _ rfl
        have r1 := hcell 1 _ rfl
        have r2 := hcell 2 _ rfl
        have r3 := hcell 3 _ rfl
        have r4 := hcell 4 _ rfl
        have r5 := hcell 5 _ rfl
        clear hcell
        simp only [trc] at cc
        have hic : i ≤ c := by omega
        go_wp2
        generalize hW1 : wr.alloc (.cells #[.int .u64 fh, .int .u64 fl, .int .u64 th, .int .u64 tl, .int .i64 bi, .int .i64 fc] 109) = W1
        have b1 : Below wr.heap.size wr W1 := by rw [← hW1]; exact Below.al (Below.refl _ _) _
        have q0 := cell_regrown (show W1.cell? ⟨wr.heap.size, 0, none⟩ = some (.int .u64 fh) by rw [← hW1]; simp [go_sem])
        have q1 := cell_regrown (show W1.cell? ⟨wr.heap.size, 1, none⟩ = some (.int .u64 fl) by rw [← hW1]; simp [go_sem])
        have q2 := cell_regrown (show W1.cell? ⟨wr.heap.size, 2, none⟩ = some (.int .u64 th) by rw [← hW1]; simp [go_sem])
        have q3 := cell_regrown (show W1.cell? ⟨wr.heap.size, 3, none⟩ = some (.int .u64 tl) by rw [← hW1]; simp [go_sem])
        have q4 := cell_regrown (show W1.cell? ⟨wr.heap.size, 4, none⟩ = some (.int .i64 bi) by rw [← hW1]; simp [go_sem])
        have q5 := cell_regrown (show W1.cell? ⟨wr.heap.size, 5, none⟩ = some (.int .i64 fc) by rw [← hW1]; simp [go_sem])
        have qc := fun d os => Calls.regrown_of (cc (grow (redrawn W1 d) os) (bel_via (bel_via hb b1) (below_regrown _ _ _)))
        clear hW1 cc r0 r1 r2 r3 r4 r5
        refine wp_region_quiet_below (by kernel_rfl) (by kernel_rfl) ?_
        repeat (first | go_big_quiet_skip | quiet_step (first | (go_at_fn g; with_reducible exact qc _ _)))
        refine wpQuiet_nil ?_
        intro _ hw'
        obtain ⟨⟨dq, osq⟩, hw''⟩ := hw'
        subst hw''
        have hbz := bel_via (bel_via hb b1) (below_regrown W1 dq osq)
        clear qc
        by_cases hr0 : r = 0
        · subst hr0
          go_wp2
          go_roundw
          case rel => exact ⟨i + 1, by omega, by go_num, fun j y hj hy => by
            by_cases e : j = i
            · subst e; rw [HX.out] at hy; cases hy; exact HY.out.symm
            · exact N.out j y (by omega) hy, hbz⟩
          case measure => simp [intOf]; omega
        · have hr1 : (r != 0) = true := by simp [hr0]
          go_wp2
          go_ret
          exact ⟨by rw [firstP_hit HX.out (by rw [← HY.out]; exact hr0) N.out, ← HY.out]; rfl, hbz⟩
      · obtain rfl : i = n := by omega
        clear hlti HP HR
        go_wp2
        go_ret
        exact ⟨by rw [firstP_all fun j x hj => N.out j x (by have := getE hj; rw [HL.out] at this; exact this) hj]; rfl, hb⟩

set_option maxHeartbeats 4000000 in
theorem first_nat (chk : NR → List NR → Int) (g : Nat) (lb : Array Value) (eg : ∀ args w, (callFunc g args).run Tryz.prog w = .ok (.enter g args) w) (A : Option Addr) (n c : Nat) (l : List NR) {w : World} (hS : Sl w 10 nrc A n l) (hnc : n ≤ c)
    (hp : ∀ W j x, l[j]? = some x → Below w.heap.size w W → Calls Tryz.prog g (#[.agg (nrc x).toArray, .slice A j c] ++ lb) W fun e w' => e = .returned (.int .i64 (chk x (l.take j))) ∧ Below W.heap.size W w') :
    Calls Tryz.prog 65 #[.slice A n c, .func (.func g) #[] lb] w fun e w' => e = .returned (.int .i64 (firstP chk l)) ∧ Below w.heap.size w w' := by
  have hbig := hS.big
  by_cases h0 : n = 0
  · subst h0
    obtain rfl : l = [] := List.eq_nil_of_length_eq_zero hS.len
    clear hS hp
    go_enter Tryz.func65, Tryz.ntmps65
    go_wp2
    refine wp_loop_rounds 1 ?_
    rw [rounds_succ]
    go_wp2
    go_ret
    exact ⟨rfl, Below.refl _ _⟩
  · obtain ⟨b, off, hA, hlt, hrow⟩ := hS.row (by omega)
    have hlen := hS.len
    subst hA
    clear hS h0
    have HL := Lib.hid hlen
    clear hlen
    have HP := Lib.hid hp
    have HR := Lib.hid hrow
    clear hp hrow
    go_enter Tryz.func65, Tryz.ntmps65
    go_wp2
    go_loopw [10] (fun vi wr => ∃ i : Nat, i ≤ n ∧ vi = .int .i64 i ∧ Aside (∀ (j : Nat) (x : NR), j < i → l[j]? = some x → chk x (l.take j) = 0) ∧ Below w.heap.size w wr) (fun vi _ => n - (intOf vi).toNat)
    case atStart => exact ⟨0, by omega, rfl, fun j x hj => absurd hj (Nat.not_lt_zero _), Below.refl _ _⟩
    case round =>
      obtain ⟨i, hi, rfl, N, hb⟩ := hrel
      by_cases hlti : i < n
      · obtain ⟨x, hx⟩ : ∃ x, l[i]? = some x := ⟨_, List.getElem?_eq_getElem (by rw [HL.out]; exact hlti)⟩
        have hcell := fun j v hv => keepc hb (HR.out i x hx j v hv)
        have hblk : b < wr.heap.size := Nat.lt_of_lt_of_le hlt hb.size
        have cc := fun W hW => HP.out W i x hx hW
        obtain ⟨r, hr⟩ : ∃ r, r = chk x (l.take i) := ⟨_, rfl⟩
        rw [← hr] at cc
        have HX := Lib.hid hx
        have HY := Lib.hid hr
        clear hx hr HP HR
        obtain ⟨ki, zn, ob, sv, oh, ol, ih, il, fr, ti⟩ := x
        have r0 : wr.cell? ⟨b, off + i * 10, none⟩ = some (.int .i64 ki) := hcell 0 _ rfl
        have r1 := hcell 1 _ rfl
        have r2 := hcell 2 _ rfl
        have r3 := hcell 3 _ rfl
        have r4 := hcell 4 _ rfl
        have r5 := hcell 5 _ rfl
        have r6 := hcell 6 _ rfl
        have r7 := hcell 7 _ rfl
        have r8 := hcell 8 _ rfl
        have r9 := hcell 9 _ rfl
        clear hcell
        simp only [nrc] at cc
        have hic : i ≤ c := by omega
        go_wp2
        generalize hW1 : wr.alloc (.cells #[.int .i64 ki, .string zn, .string ob, .string sv, .int .u64 oh, .int .u64 ol, .int .u64 ih, .int .u64 il, .int .i64 fr, .int .i64 ti] 68) = W1
        have b1 : Below wr.heap.size wr W1 := by rw [← hW1]; exact Below.al (Below.refl _ _) _
        have q0 := cell_regrown (show W1.cell? ⟨wr.heap.size, 0, none⟩ = some (.int .i64 ki) by rw [← hW1]; simp [go_sem])
        have q1 := cell_regrown (show W1.cell? ⟨wr.heap.size, 1, none⟩ = some (.string zn) by rw [← hW1]; simp [go_sem])
        have q2 := cell_regrown (show W1.cell? ⟨wr.heap.size, 2, none⟩ = some (.string ob) by rw [← hW1]; simp [go_sem])
        have q3 := cell_regrown (show W1.cell? ⟨wr.heap.size, 3, none⟩ = some (.string sv) by rw [← hW1]; simp [go_sem])
        have q4 := cell_regrown (show W1.cell? ⟨wr.heap.size, 4, none⟩ = some (.int .u64 oh) by rw [← hW1]; simp [go_sem])
        have q5 := cell_regrown (show W1.cell? ⟨wr.heap.size, 5, none⟩ = some (.int .u64 ol) by rw [← hW1]; simp [go_sem])
        have q6 := cell_regrown (show W1.cell? ⟨wr.heap.size, 6, none⟩ = some (.int .u64 ih) by rw [← hW1]; simp [go_sem])
        have q7 := cell_regrown (show W1.cell? ⟨wr.heap.size, 7, none⟩ = some (.int .u64 il) by rw [← hW1]; simp [go_sem])
        have q8 := cell_regrown (show W1.cell? ⟨wr.heap.size, 8, none⟩ = some (.int .i64 fr) by rw [← hW1]; simp [go_sem])
        have q9 := cell_regrown (show W1.cell? ⟨wr.heap.size, 9, none⟩ = some (.int .i64 ti) by rw [← hW1]; simp [go_sem])
        have qc := fun d os => Calls.regrown_of (cc (grow (redrawn W1 d) os) (bel_via (bel_via hb b1) (below_regrown _ _ _)))
        clear hW1 cc r0 r1 r2 r3 r4 r5 r6 r7 r8 r9
        refine wp_region_quiet_below (by kernel_rfl) (by kernel_rfl) ?_
        repeat (first | go_big_quiet_skip | quiet_step (first | (go_at_fn g; with_reducible exact qc _ _)))
        refine wpQuiet_nil ?_
        intro _ hw'
        obtain ⟨⟨dq, osq⟩, hw''⟩ := hw'
        subst hw''
        have hbz := bel_via (bel_via hb b1) (below_regrown W1 dq osq)
        clear qc
        by_cases hr0 : r = 0
        · subst hr0
          go_wp2
          go_roundw
          case rel => exact ⟨i + 1, by omega, by go_num, fun j y hj hy => by
            by_cases e : j = i
            · subst e; rw [HX.out] at hy; cases hy; exact HY.out.symm
            · exact N.out j y (by omega) hy, hbz⟩
          case measure => simp [intOf]; omega
        · have hr1 : (r != 0) = true := by simp [hr0]
          go_wp2
          go_ret
          exact ⟨by rw [firstP_hit HX.out (by rw [← HY.out]; exact hr0) N.out, ← HY.out]; rfl, hbz⟩
      · obtain rfl : i = n := by omega
        clear hlti HP HR
        go_wp2
        go_ret
        exact ⟨by rw [firstP_all fun j x hj => N.out j x (by have := getE hj; rw [HL.out] at this; exact this) hj]; rfl, hb⟩

set_option maxHeartbeats 4000000 in
theorem first_rul (chk : UR → List UR → Int) (g : Nat) (lb : Array Value) (eg : ∀ args w, (callFunc g args).run Tryz.prog w = .ok (.enter g args) w) (A : Option Addr) (n c : Nat) (l : List UR) {w : World} (hS : Sl w 8 urc A n l) (hnc : n ≤ c)
    (hp : ∀ W j x, l[j]? = some x → Below w.heap.size w W → Calls Tryz.prog g (#[.agg (urc x).toArray, .slice A j c] ++ lb) W fun e w' => e = .returned (.int .i64 (chk x (l.take j))) ∧ Below W.heap.size W w') :
    Calls Tryz.prog 70 #[.slice A n c, .func (.func g) #[] lb] w fun e w' => e = .returned (.int .i64 (firstP chk l)) ∧ Below w.heap.size w w' := by
  have hbig := hS.big
  by_cases h0 : n = 0
  · subst h0
    obtain rfl : l = [] := List.eq_nil_of_length_eq_zero hS.len
    clear hS hp
    go_enter Tryz.func70, Tryz.ntmps70
    go_wp2
    refine wp_loop_rounds 1 ?_
    rw [rounds_succ]
    go_wp2
    go_ret
    exact ⟨rfl, Below.refl _ _⟩
  · obtain ⟨b, off, hA, hlt, hrow⟩ := hS.row (by omega)
    have hlen := hS.len
    subst hA
    clear hS h0
    have HL := Lib.hid hlen
    clear hlen
    have HP := Lib.hid hp
    have HR := Lib.hid hrow
    clear hp hrow
    go_enter Tryz.func70, Tryz.ntmps70
    go_wp2
    go_loopw [10] (fun vi wr => ∃ i : Nat, i ≤ n ∧ vi = .int .i64 i ∧ Aside (∀ (j : Nat) (x : UR), j < i → l[j]? = some x → chk x (l.take j) = 0) ∧ Below w.heap.size w wr) (fun vi _ => n - (intOf vi).toNat)
    case atStart => exact ⟨0, by omega, rfl, fun j x hj => absurd hj (Nat.not_lt_zero _), Below.refl _ _⟩
    case round =>
      obtain ⟨i, hi, rfl, N, hb⟩ := hrel
      by_cases hlti : i < n
      · obtain ⟨x, hx⟩ : ∃ x, l[i]? = some x := ⟨_, List.getElem?_eq_getElem (by rw [HL.out]; exact hlti)⟩
        have hcell := fun j v hv => keepc hb (HR.out i x hx j v hv)
        have hblk : b < wr.heap.size := Nat.lt_of_lt_of_le hlt hb.size
        have cc := fun W hW => HP.out W i x hx hW
        obtain ⟨r, hr⟩ : ∃ r, r = chk x (l.take i) := ⟨_, rfl⟩
        rw [← hr] at cc
        have HX := Lib.hid hx
        have HY := Lib.hid hr
        clear hx hr HP HR
        obtain ⟨iz, ou, sr, ds, sv, ac, li, px⟩ := x
        have r0 : wr.cell? ⟨b, off + i * 8, none⟩ = some (.string iz) := hcell 0 _ rfl
        have r1 := hcell 1 _ rfl
        have r2 := hcell 2 _ rfl
        have r3 := hcell 3 _ rfl
        have r4 := hcell 4 _ rfl
        have r5 := hcell 5 _ rfl
        have r6 := hcell 6 _ rfl
        have r7 := hcell 7 _ rfl
        clear hcell
        simp only [urc] at cc
        have hic : i ≤ c := by omega
        go_wp2
        generalize hW1 : wr.alloc (.cells #[.string iz, .string ou, .string sr, .string ds, .string sv, .int .i64 ac, .string li, .bool px] 70) = W1
        have b1 : Below wr.heap.size wr W1 := by rw [← hW1]; exact Below.al (Below.refl _ _) _
        have q0 := cell_regrown (show W1.cell? ⟨wr.heap.size, 0, none⟩ = some (.string iz) by rw [← hW1]; simp [go_sem])
        have q1 := cell_regrown (show W1.cell? ⟨wr.heap.size, 1, none⟩ = some (.string ou) by rw [← hW1]; simp [go_sem])
        have q2 := cell_regrown (show W1.cell? ⟨wr.heap.size, 2, none⟩ = some (.string sr) by rw [← hW1]; simp [go_sem])
        have q3 := cell_regrown (show W1.cell? ⟨wr.heap.size, 3, none⟩ = some (.string ds) by rw [← hW1]; simp [go_sem])
        have q4 := cell_regrown (show W1.cell? ⟨wr.heap.size, 4, none⟩ = some (.string sv) by rw [← hW1]; simp [go_sem])
        have q5 := cell_regrown (show W1.cell? ⟨wr.heap.size, 5, none⟩ = some (.int .i64 ac) by rw [← hW1]; simp [go_sem])
        have q6 := cell_regrown (show W1.cell? ⟨wr.heap.size, 6, none⟩ = some (.string li) by rw [← hW1]; simp [go_sem])
        have q7 := cell_regrown (show W1.cell? ⟨wr.heap.size, 7, none⟩ = some (.bool px) by rw [← hW1]; simp [go_sem])
        have qc := fun d os => Calls.regrown_of (cc (grow (redrawn W1 d) os) (bel_via (bel_via hb b1) (below_regrown _ _ _)))
        clear hW1 cc r0 r1 r2 r3 r4 r5 r6 r7
        refine wp_region_quiet_below (by kernel_rfl) (by kernel_rfl) ?_
        repeat (first | go_big_quiet_skip | quiet_step (first | (go_at_fn g; with_reducible exact qc _ _)))
        refine wpQuiet_nil ?_
        intro _ hw'
        obtain ⟨⟨dq, osq⟩, hw''⟩ := hw'
        subst hw''
        have hbz := bel_via (bel_via hb b1) (below_regrown W1 dq osq)
        clear qc
        by_cases hr0 : r = 0
        · subst hr0
          go_wp2
          go_roundw
          case rel => exact ⟨i + 1, by omega, by go_num, fun j y hj hy => by
            by_cases e : j = i
            · subst e; rw [HX.out] at hy; cases hy; exact HY.out.symm
            · exact N.out j y (by omega) hy, hbz⟩
          case measure => simp [intOf]; omega
        · have hr1 : (r != 0) = true := by simp [hr0]
          go_wp2
          go_ret
          exact ⟨by rw [firstP_hit HX.out (by rw [← HY.out]; exact hr0) N.out, ← HY.out]; rfl, hbz⟩
      · obtain rfl : i = n := by omega
        clear hlti HP HR
        go_wp2
        go_ret
        exact ⟨by rw [firstP_all fun j x hj => N.out j x (by have := getE hj; rw [HL.out] at this; exact this) hj]; rfl, hb⟩
end Go.Proofs.YtmnnjkdmnfadhaaGreatDoor
