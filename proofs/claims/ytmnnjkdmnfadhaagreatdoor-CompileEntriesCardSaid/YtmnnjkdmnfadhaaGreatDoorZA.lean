/- Small numbers as addresses and ranges; by-name template (gen_mof.py). -/
import Derived.Test.YtmnnjkdmnfadhaaGreatDoorLNames
import Derived.Test.YtmnnjkdmnfadhaaGreatDoorLCheck
import Derived.Test.YtmnnjkdmnfadhaaGreatDoorLRul
import Derived.Lib.QuietBelow
import Derived.Deep.WholeRow
import Derived.Test.YtmnnjkdmnfadhaaGreatDoorZP
import Derived.Test.YtmnnjkdmnfadhaaGreatDoorLChk
import Derived.Deep.QuietTactic
import Derived.Laws.AppendOwn
import Derived.Maps.AppendAt
import Derived.Deep.RegionHeld3
import Derived.Deep.RegionWith
import Derived.BigRegion
namespace Go.Proofs.YtmnnjkdmnfadhaaGreatDoor
open Go.Shelf Go.RowKit Go.Lib Go.Sort
set_option linter.unusedVariables false
set_option linter.unusedSimpArgs false

/-- A small number as an address: its lower half. -/
def ofN (n : Int) : Int := max n 0
def numR (a b : Int) : R4 := ⟨0, ofN a, 0, ofN b⟩
def I64 (n : Int) : Prop := -9223372036854775808 ≤ n ∧ n ≤ 9223372036854775807
theorem ofN_nn {n : Int} (h : 0 ≤ n) : ofN n = n := by unfold ofN; omega
theorem u64_id {x : Int} (h0 : 0 ≤ x) (h1 : x < 18446744073709551616) : IntKind.u64.wrap x = x := by rw [IntKind.wrap_u64]; omega
theorem i64_id {x : Int} (h : I64 x) : IntKind.i64.wrap x = x := by unfold I64 at h; rw [IntKind.wrap_i64]; omega

theorem of_any {n : Int} (hn : n ≤ 9223372036854775807) (w : World) : Calls Tryz.prog 35 #[.int .i64 n] w fun e w' => e = .returned (.agg #[.int .u64 0, .int .u64 (ofN n)]) ∧ Below w.heap.size w w' := by
  have hw : IntKind.u64.wrap (max n 0) = max n 0 := u64_id (by omega) (by omega)
  go_enter Tryz.func35, Tryz.ntmps35
  go_wp2
  exact bodyPost_ret (v := .agg #[.int .u64 0, .int .u64 (ofN n)]) (by simp [results, Tryz.results35, go_sem, ofN]) rfl ⟨rfl, by repeat (first | exact Below.refl _ _ | apply below_set | apply Below.al)⟩

theorem rof_any {n : Int} (hn : n ≤ 9223372036854775807) (w : World) : Calls Tryz.prog 38 #[.int .i64 n] w fun e w' => e = .returned (.agg #[.int .u64 0, .int .u64 (ofN n)]) ∧ Below w.heap.size w w' := by
  have hw : IntKind.u64.wrap (max 0 n) = max 0 n := u64_id (by omega) (by omega)
  go_enter Tryz.func38, Tryz.ntmps38
  go_wp2
  exact bodyPost_ret (v := .agg #[.int .u64 0, .int .u64 (ofN n)]) (by simp [results, Tryz.results38, go_sem, ofN] <;> omega) rfl ⟨rfl, by repeat (first | exact Below.refl _ _ | apply below_set | apply Below.al)⟩

theorem zp_any {a b : Int} (ha : -32 ≤ a ∧ a ≤ 1024) (hb : -32 ≤ b ∧ b ≤ 1024) (w : World) : Calls Tryz.prog 36 #[.int .i64 a, .int .i64 b] w fun e w' => e = .returned (.int .i64 (a * 16 + b)) ∧ w' = w := by
  have h1 : IntKind.i64.wrap (a * 16) = a * 16 := i64_id ⟨by omega, by omega⟩
  have h2 : IntKind.i64.wrap (a * 16 + b) = a * 16 + b := i64_id ⟨by omega, by omega⟩
  go_enter Tryz.func36, Tryz.ntmps36
  go_wp2
  go_ret
  exact ⟨rfl, rfl⟩

def witB (n m : Int) : Bool := decide (0 ≤ n) && decide (n ≤ m)
theorem wit_any (n m : Int) (w : World) : Calls Tryz.prog 34 #[.int .i64 n, .int .i64 m] w fun e w' => e = .returned (.bool (witB n m)) ∧ w' = w := by
  unfold witB
  by_cases h : 0 ≤ n
  · go_enter Tryz.func34, Tryz.ntmps34
    go_wp2
    go_ret
    exact ⟨by simp [h], rfl⟩
  · have hd : decide (0 ≤ n) = false := by simp [h]
    go_enter Tryz.func34, Tryz.ntmps34
    go_wp2
    go_ret
    exact ⟨by simp [h], rfl⟩
theorem rwit_any (n m : Int) (w : World) : Calls Tryz.prog 37 #[.int .i64 n, .int .i64 0, .int .i64 m] w fun e w' => e = .returned (.bool (witB n m)) ∧ w' = w := by
  unfold witB
  by_cases h : 0 ≤ n
  · go_enter Tryz.func37, Tryz.ntmps37
    go_wp2
    go_ret
    exact ⟨by simp [h], rfl⟩
  · have hd : decide (0 ≤ n) = false := by simp [h]
    go_enter Tryz.func37, Tryz.ntmps37
    go_wp2
    go_ret
    exact ⟨by simp [h], rfl⟩

theorem span_any {a b : Int} (ha : a ≤ 9223372036854775807) (hb : b ≤ 9223372036854775807) (w : World) : Calls Tryz.prog 132 #[.int .i64 a, .int .i64 b] w fun e w' => e = .returned (.agg (r4c (numR a b)).toArray) ∧ Below w.heap.size w w' := by
  have k1 := fun W : World => of_any ha W
  have k2 := fun W : World => of_any hb W
  unfold numR r4c
  simp only
  generalize ofN a = x at *
  generalize ofN b = y at *
  go_enter Tryz.func132, Tryz.ntmps132
  go_wp2_with fail
  refine calls_gen fun W hW => ?_
  have b0 : Below w.heap.size w W := by rw [hW]; exact Below.al (Below.refl _ _) _
  have hR : W.heap[w.heap.size]? = some (.cells #[.int .u64 0, .int .u64 0, .int .u64 0, .int .u64 0] 45 (0, 0)) := by rw [hW]; exact heap_alloc_new w _
  clear hW
  refine (k1 W).mono ?_
  rintro e w1 ⟨rfl, b1⟩
  have b1' := bel_via b0 b1
  have hR1 := (b1.block _ (Array.getElem?_eq_some_iff.1 hR).1).trans hR
  clear b1 hR b0
  go_wp2_with fail
  refine (k2 _).mono ?_
  rintro e w2 ⟨rfl, b2⟩
  have b2' := bel_via b1' b2
  have hR2 := (b2.block _ (Array.getElem?_eq_some_iff.1 hR1).1).trans hR1
  obtain ⟨c0, c1, c2, c3, z0, z1, z2, z3⟩ := cells4 hR2
  clear b2 hR1 b1' k1 k2
  go_wp2
  have hS := heap_set4 hR2 (.int .u64 0) (.int .u64 x) (.int .u64 0) (.int .u64 y)
  have bS := below_set (below_set (below_set (below_set b2' (B := w.heap.size) (Nat.le_refl _) 0 (.int .u64 0)) (B := w.heap.size) (Nat.le_refl _) 1 (.int .u64 x)) (B := w.heap.size) (Nat.le_refl _) 2 (.int .u64 0)) (B := w.heap.size) (Nat.le_refl _) 3 (.int .u64 y)
  generalize (((w2.setCell ⟨w.heap.size, 0, none⟩ (.int .u64 0)).setCell ⟨w.heap.size, 1, none⟩ (.int .u64 x)).setCell ⟨w.heap.size, 2, none⟩ (.int .u64 0)).setCell ⟨w.heap.size, 3, none⟩ (.int .u64 y) = wf at *
  obtain ⟨f0, f1, f2, f3, _, _, _, _⟩ := cells4 hS
  exact bodyPost_ret (v := .agg #[.int .u64 0, .int .u64 x, .int .u64 0, .int .u64 y]) (by simp [results, Tryz.results132, go_sem, f0, f1, f2, f3]) rfl ⟨rfl, bS⟩

theorem num_any {a b : Int} (ha : a ≤ 9223372036854775807) (hb : b ≤ 9223372036854775807) (w : World) : Calls Tryz.prog 33 #[.int .i64 a, .int .i64 b] w fun e w' => e = .returned (.agg (r4c (numR a b)).toArray) ∧ Below w.heap.size w w' := by
  have k1 := fun W : World => rof_any ha W
  have k2 := fun W : World => rof_any hb W
  unfold numR r4c
  simp only
  generalize ofN a = x at *
  generalize ofN b = y at *
  go_enter Tryz.func33, Tryz.ntmps33
  go_wp2_with fail
  refine calls_gen fun W hW => ?_
  have b0 : Below w.heap.size w W := by rw [hW]; exact Below.al (Below.refl _ _) _
  have hR : W.heap[w.heap.size]? = some (.cells #[.int .u64 0, .int .u64 0, .int .u64 0, .int .u64 0] 45 (0, 0)) := by rw [hW]; exact heap_alloc_new w _
  clear hW
  refine (k1 W).mono ?_
  rintro e w1 ⟨rfl, b1⟩
  have b1' := bel_via b0 b1
  have hR1 := (b1.block _ (Array.getElem?_eq_some_iff.1 hR).1).trans hR
  clear b1 hR b0
  go_wp2_with fail
  refine (k2 _).mono ?_
  rintro e w2 ⟨rfl, b2⟩
  have b2' := bel_via b1' b2
  have hR2 := (b2.block _ (Array.getElem?_eq_some_iff.1 hR1).1).trans hR1
  obtain ⟨c0, c1, c2, c3, z0, z1, z2, z3⟩ := cells4 hR2
  clear b2 hR1 b1' k1 k2
  go_wp2
  have hS := heap_set4 hR2 (.int .u64 0) (.int .u64 x) (.int .u64 0) (.int .u64 y)
  have bS := below_set (below_set (below_set (below_set b2' (B := w.heap.size) (Nat.le_refl _) 0 (.int .u64 0)) (B := w.heap.size) (Nat.le_refl _) 1 (.int .u64 x)) (B := w.heap.size) (Nat.le_refl _) 2 (.int .u64 0)) (B := w.heap.size) (Nat.le_refl _) 3 (.int .u64 y)
  generalize (((w2.setCell ⟨w.heap.size, 0, none⟩ (.int .u64 0)).setCell ⟨w.heap.size, 1, none⟩ (.int .u64 x)).setCell ⟨w.heap.size, 2, none⟩ (.int .u64 0)).setCell ⟨w.heap.size, 3, none⟩ (.int .u64 y) = wf at *
  obtain ⟨f0, f1, f2, f3, _, _, _, _⟩ := cells4 hS
  exact bodyPost_ret (v := .agg #[.int .u64 0, .int .u64 x, .int .u64 0, .int .u64 y]) (by simp [results, Tryz.results33, go_sem, f0, f1, f2, f3]) rfl ⟨rfl, bS⟩

theorem only_any {a : Int} (ha : a ≤ 9223372036854775807) (w : World) : Calls Tryz.prog 131 #[.int .i64 a] w fun e w' => e = .returned (.agg (r4c (numR a a)).toArray) ∧ Below w.heap.size w w' := by
  have k1 := fun W : World => span_any ha ha W
  unfold numR r4c at *
  simp only at *
  generalize ofN a = x at *
  go_enter Tryz.func131, Tryz.ntmps131
  go_wp2_with fail
  refine calls_gen fun W hW => ?_
  have b0 : Below w.heap.size w W := by rw [hW]; exact Below.al (Below.refl _ _) _
  have hR : W.heap[w.heap.size]? = some (.cells #[.int .u64 0, .int .u64 0, .int .u64 0, .int .u64 0] 45 (0, 0)) := by rw [hW]; exact heap_alloc_new w _
  clear hW
  refine (k1 W).mono ?_
  rintro e w1 ⟨rfl, b1⟩
  have b1' := bel_via b0 b1
  have hR1 := (b1.block _ (Array.getElem?_eq_some_iff.1 hR).1).trans hR
  obtain ⟨c0, c1, c2, c3, z0, z1, z2, z3⟩ := cells4 hR1
  clear b1 hR b0 k1
  go_wp2
  have hS := heap_set4 hR1 (.int .u64 0) (.int .u64 x) (.int .u64 0) (.int .u64 x)
  have bS := below_set (below_set (below_set (below_set b1' (B := w.heap.size) (Nat.le_refl _) 0 (.int .u64 0)) (B := w.heap.size) (Nat.le_refl _) 1 (.int .u64 x)) (B := w.heap.size) (Nat.le_refl _) 2 (.int .u64 0)) (B := w.heap.size) (Nat.le_refl _) 3 (.int .u64 x)
  generalize (((w1.setCell ⟨w.heap.size, 0, none⟩ (.int .u64 0)).setCell ⟨w.heap.size, 1, none⟩ (.int .u64 x)).setCell ⟨w.heap.size, 2, none⟩ (.int .u64 0)).setCell ⟨w.heap.size, 3, none⟩ (.int .u64 x) = wf at *
  obtain ⟨f0, f1, f2, f3, _, _, _, _⟩ := cells4 hS
  exact bodyPost_ret (v := .agg #[.int .u64 0, .int .u64 x, .int .u64 0, .int .u64 x]) (by simp [results, Tryz.results131, go_sem, f0, f1, f2, f3]) rfl ⟨rfl, bS⟩
end Go.Proofs.YtmnnjkdmnfadhaaGreatDoor

namespace Go.Proofs.YtmnnjkdmnfadhaaGreatDoor
open Go.Shelf Go.RowKit Go.Lib Go.Sort
set_option linter.unusedVariables false
set_option linter.unusedSimpArgs false

theorem by_zon (key : ByteArray) (B : Nat) (x : ZR) {W : World} (h : W.cell? ⟨B, 0, none⟩ = some (.string key)) :
    Calls Tryz.prog 157 #[.agg (zrc x).toArray, .pointer (some ⟨B, 0, none⟩)] W fun e w' => e = .returned (.bool (eqs x.nm key)) ∧ Below W.heap.size W w' := by
  obtain ⟨nm, ah, al, ia, il, ic, ifs⟩ := x
  have hk := fun o => keepc (Below.al (Below.refl _ W) o) h
  simp only [zrc, eqs] at *
  go_enter Tryz.func157, Tryz.ntmps157
  go_wp2
  go_ret
  exact ⟨rfl, Below.al (Below.refl _ _) _⟩
theorem eBy_zon : ∀ args w, (callFunc 157 args).run Tryz.prog w = .ok (.enter 157 args) w := enters_of Tryz.func157 (by kernel_rfl) rfl

theorem by_obj (key : ByteArray) (B : Nat) (x : OR) {W : World} (h : W.cell? ⟨B, 0, none⟩ = some (.string key)) :
    Calls Tryz.prog 134 #[.agg (orc x).toArray, .pointer (some ⟨B, 0, none⟩)] W fun e w' => e = .returned (.bool (eqs x.nm key)) ∧ Below W.heap.size W w' := by
  obtain ⟨nm, ra, rl, rc, rs⟩ := x
  have hk := fun o => keepc (Below.al (Below.refl _ W) o) h
  simp only [orc, eqs] at *
  go_enter Tryz.func134, Tryz.ntmps134
  go_wp2
  go_ret
  exact ⟨rfl, Below.al (Below.refl _ _) _⟩
theorem eBy_obj : ∀ args w, (callFunc 134 args).run Tryz.prog w = .ok (.enter 134 args) w := enters_of Tryz.func134 (by kernel_rfl) rfl

theorem by_srv (key : ByteArray) (B : Nat) (x : SR) {W : World} (h : W.cell? ⟨B, 0, none⟩ = some (.string key)) :
    Calls Tryz.prog 129 #[.agg (src x).toArray, .pointer (some ⟨B, 0, none⟩)] W fun e w' => e = .returned (.bool (eqs x.nm key)) ∧ Below W.heap.size W w' := by
  obtain ⟨nm, pr, fr, ti⟩ := x
  have hk := fun o => keepc (Below.al (Below.refl _ W) o) h
  simp only [src, eqs] at *
  go_enter Tryz.func129, Tryz.ntmps129
  go_wp2
  go_ret
  exact ⟨rfl, Below.al (Below.refl _ _) _⟩
theorem eBy_srv : ∀ args w, (callFunc 129 args).run Tryz.prog w = .ok (.enter 129 args) w := enters_of Tryz.func129 (by kernel_rfl) rfl

def zIx (c : CF) (key : ByteArray) : Int := pl (fun x => eqs x.nm key) c.zs
theorem zno_any (c : CF) (key : ByteArray) {w : World} (hS : Sl w 4 zrc c.zA c.zn c.zs) :
    Calls Tryz.prog 135 #[.agg (cfc c), .string key] w fun e w' => e = .returned (.int .i64 (zIx c key)) ∧ Below w.heap.size w w' := by
  have HS := Lib.hid hS
  clear hS
  unfold zIx
  obtain ⟨zA, zn, zc, zs, oA, on, oc, os, sA, sn, sc, ss, lA, ln, lc, ls, tA, tn, tc, ts, nA, nn, nc, ns, uA, un, uc, us, df⟩ := c
  simp only [cfc] at *
  go_enter Tryz.func135, Tryz.ntmps135
  go_wp2_with fail
  refine calls_gen fun W hW => ?_
  have hb : Below w.heap.size w W := by rw [hW]; repeat (first | exact Below.refl _ _ | apply Below.dr | apply Below.al)
  have hK : W.cell? ⟨w.heap.size + 1, 0, none⟩ = some (.string key) := by rw [hW]; simp [go_sem, World.cell?_alloc_past]
  have hS := HS.out.keep hb
  have cc := idx_rows Tryz.li_zon Tryz.isAgg59 Tryz.sizeOf59 zrc (fun _ => rfl) (fun x => eqs x.nm key) 157 #[.pointer (some ⟨w.heap.size + 1, 0, none⟩)] eBy_zon zA zn zc zs W
    (fun W' x hx hW' => by_zon key _ x (keepc hW' hK)) hS
  change Calls Tryz.prog 139 _ _ _ at cc
  clear hW HS
  refine cc.mono ?_
  rintro e w1 ⟨rfl, hb'⟩
  go_wp2
  go_ret
  exact ⟨rfl, bel_via hb hb'⟩

set_option maxHeartbeats 4000000 in
theorem rzno_any (c : CF) (key : ByteArray) {w : World} (hS : Sl w 4 zrc c.zA c.zn c.zs) :
    Calls Tryz.prog 92 #[.agg (cfc c), .string key] w fun e w' => e = .returned (.int .i64 (zIx c key)) ∧ Below w.heap.size w w' := by
  obtain ⟨R, hR⟩ : ∃ R, zIx c key = R := ⟨_, rfl⟩
  rw [hR]
  have HR := Lib.hid hR
  clear hR
  have HC := fun W (h : Below w.heap.size w W) => hS.keep h
  have hbig := hS.big
  have HL := Lib.hid hS.len
  clear hS
  obtain ⟨w0, hw0⟩ : ∃ w0, w0 = w.alloc (.cells (cfc c) 30) := ⟨_, rfl⟩
  have hb0 : Below w.heap.size w w0 := by rw [hw0]; exact Below.al (Below.refl _ _) _
  have hB := Lib.hid (show CfB w0 w.heap.size c by rw [hw0]; exact CfB.made w c)
  have HS := Lib.hid (HC w0 hb0)
  simp only [cfc] at hw0 ⊢
  go_enter Tryz.func92, Tryz.ntmps92
  go_upto_region 1 with fail
  rw [← hw0]
  clear hw0 HC
  have y0 := hB.out.c0
  go_wp2_with fail
  go_loop [5] (fun vi => ∃ k : Nat, k ≤ c.zn ∧ vi = .int .i64 (k : Int) ∧ Aside (∀ (j : Nat) (y : ZR), j < k → c.zs[j]? = some y → eqs y.nm key = false)) (fun vi => c.zn - (intOf vi).toNat)
  case atStart => exact ⟨0, by omega, rfl, fun j y hj => absurd hj (Nat.not_lt_zero _)⟩
  case round =>
    obtain ⟨k, hk, rfl, N⟩ := hrel
    by_cases hlt : k < c.zn
    · have hlti : (k : Int) < (c.zn : Int) := by omega
      obtain ⟨b, off, hA, hblt, hrow⟩ := HS.out.row (by omega)
      obtain ⟨z, hz⟩ : ∃ z, c.zs[k]? = some z := ⟨_, List.getElem?_eq_getElem (by rw [HL.out]; omega)⟩
      have r0 := hrow k z hz 0 _ rfl
      rw [Nat.add_zero] at r0
      rw [hA] at y0
      have HZ := Lib.hid hz
      clear hrow hA hz
      cases hq : eqs z.nm key with
      | true =>
        have hq1 : (z.nm.toList == key.toList) = true := hq
        have HQ := Lib.hid hq
        clear hq
        go_wp2
        go_ret
        exact ⟨by rw [← HR.out]; unfold zIx; rw [pl_hit HZ.out HQ.out N.out]; rfl, hb0⟩
      | false =>
        have hq1 : (z.nm.toList == key.toList) = false := hq
        have HQ := Lib.hid hq
        clear hq
        go_wp2
        go_round
        case rel => exact ⟨k + 1, by omega, by go_num, fun j y hj hy => by
          by_cases e : j = k
          · subst e; rw [HZ.out] at hy; cases hy; exact HQ.out
          · exact N.out j y (by omega) hy⟩
        case measure => simp [intOf]; omega
    · have hlti : ¬ (k : Int) < (c.zn : Int) := by omega
      go_wp2
      go_ret
      exact ⟨by rw [← HR.out]; unfold zIx; rw [pl_miss (fun j x hj => N.out j x (by have := getE hj; rw [HL.out] at this; omega) hj)]; rfl, hb0⟩
end Go.Proofs.YtmnnjkdmnfadhaaGreatDoor

namespace Go.Proofs.YtmnnjkdmnfadhaaGreatDoor
open Go.Shelf Go.RowKit Go.Lib Go.Sort
set_option linter.unusedVariables false
set_option linter.unusedSimpArgs false

def full4 : R4 := ⟨0, 0, 18446744073709551615, 18446744073709551615⟩
theorem al_size (w : World) (o : Obj) : (w.alloc o).heap.size = w.heap.size + 1 := by show (w.heap.push o).size = _; simp

theorem blk_lt {w : World} {g : Nat} {o : Obj} (h : w.heap[g]? = some o) : g < w.heap.size := (Array.getElem?_eq_some_iff.1 h).1

theorem blk_al {w : World} {g : Nat} {o : Obj} (h : w.heap[g]? = some o) (p : Obj) : (w.alloc p).heap[g]? = some o := by rw [al_old (blk_lt h)]; exact h

theorem fr4 {w : World} {B : Nat} {c : Array Value} {t : TypeId} (h : w.heap[B]? = some (.cells c t (0, 0))) (o : Nat) : w.frozen? ⟨B, o, none⟩ = false := by simp [World.frozen?, h]

theorem blkB {w0 w1 : World} (hb : Below w0.heap.size w0 w1) {g : Nat} {o : Obj} (h : w0.heap[g]? = some o) : w1.heap[g]? = some o := by
  rw [hb.block _ (Array.getElem?_eq_some_iff.1 h).1]; exact h

/-- A box, a point as cells. -/
def bxc (b : Nat → R4) : Array Value := #[.int .u64 (b 0).fh, .int .u64 (b 0).fl, .int .u64 (b 0).th, .int .u64 (b 0).tl, .int .u64 (b 1).fh, .int .u64 (b 1).fl, .int .u64 (b 1).th, .int .u64 (b 1).tl, .int .u64 (b 2).fh, .int .u64 (b 2).fl, .int .u64 (b 2).th, .int .u64 (b 2).tl, .int .u64 (b 3).fh, .int .u64 (b 3).fl, .int .u64 (b 3).th, .int .u64 (b 3).tl, .int .u64 (b 4).fh, .int .u64 (b 4).fl, .int .u64 (b 4).th, .int .u64 (b 4).tl, .int .u64 (b 5).fh, .int .u64 (b 5).fl, .int .u64 (b 5).th, .int .u64 (b 5).tl]

/-- A box in memory, a point. -/
def BoxAt (w : World) (B : Nat) (b : Nat → R4) : Prop := ∀ k, k < 6 → w.cell? ⟨B, k * 4, none⟩ = some (.int .u64 (b k).fh) ∧ w.cell? ⟨B, k * 4 + 1, none⟩ = some (.int .u64 (b k).fl) ∧ w.cell? ⟨B, k * 4 + 2, none⟩ = some (.int .u64 (b k).th) ∧ w.cell? ⟨B, k * 4 + 3, none⟩ = some (.int .u64 (b k).tl)

theorem BoxAt.keep {w0 w' : World} {B : Nat} {b : Nat → R4} (h : BoxAt w0 B b) (k : Below w0.heap.size w0 w') : BoxAt w' B b := fun i hi => ⟨keepc k (h i hi).1, keepc k (h i hi).2.1, keepc k (h i hi).2.2.1, keepc k (h i hi).2.2.2⟩

theorem BoxAt.of {w : World} {B : Nat} {b : Nat → R4} {t : TypeId} (h : w.heap[B]? = some (.cells (bxc b) t (0, 0))) : BoxAt w B b := by
  unfold bxc at h
  intro k hk
  match k, hk with
  | 0, _ => refine ⟨?_, ?_, ?_, ?_⟩ <;> simp [World.cell?, h]
  | 1, _ => refine ⟨?_, ?_, ?_, ?_⟩ <;> simp [World.cell?, h]
  | 2, _ => refine ⟨?_, ?_, ?_, ?_⟩ <;> simp [World.cell?, h]
  | 3, _ => refine ⟨?_, ?_, ?_, ?_⟩ <;> simp [World.cell?, h]
  | 4, _ => refine ⟨?_, ?_, ?_, ?_⟩ <;> simp [World.cell?, h]
  | 5, _ => refine ⟨?_, ?_, ?_, ?_⟩ <;> simp [World.cell?, h]

theorem inf29 (b : Nat → R4) : (Tryz.prog.info? 48).map (·.size) = some (bxc b).size := by rw [show (bxc b).size = 24 from rfl]; kernel_rfl

theorem bx_one (b : Nat → R4) : (bxc b).all (·.oneCell') = true := by unfold bxc; simp [Value.oneCell']

theorem ix_b4 (b : Nat → R4) (x : World) : Sem.run Tryz.prog (Instr.index 46 (.agg (bxc b)) (.int .i64 (4 : Nat))) x = .ok (.agg #[.int .u64 (b 4).fh, .int .u64 (b 4).fl, .int .u64 (b 4).th, .int .u64 (b 4).tl]) x := by kernel_rfl

def upd (b : Nat → R4) (k : Nat) (r : R4) : Nat → R4 := fun i => if i = k then r else b i

theorem bxs4_0 (b : Nat → R4) (r : R4) : (((((bxc b).setIfInBounds (0 * 4) (.int .u64 r.fh)).setIfInBounds (0 * 4 + 1) (.int .u64 r.fl)).setIfInBounds (0 * 4 + 2) (.int .u64 r.th)).setIfInBounds (0 * 4 + 3) (.int .u64 r.tl)) = bxc (upd b 0 r) := by kernel_rfl

theorem bxs4_1 (b : Nat → R4) (r : R4) : (((((bxc b).setIfInBounds (1 * 4) (.int .u64 r.fh)).setIfInBounds (1 * 4 + 1) (.int .u64 r.fl)).setIfInBounds (1 * 4 + 2) (.int .u64 r.th)).setIfInBounds (1 * 4 + 3) (.int .u64 r.tl)) = bxc (upd b 1 r) := by kernel_rfl

theorem bxs4_2 (b : Nat → R4) (r : R4) : (((((bxc b).setIfInBounds (2 * 4) (.int .u64 r.fh)).setIfInBounds (2 * 4 + 1) (.int .u64 r.fl)).setIfInBounds (2 * 4 + 2) (.int .u64 r.th)).setIfInBounds (2 * 4 + 3) (.int .u64 r.tl)) = bxc (upd b 2 r) := by kernel_rfl

theorem bxs4_3 (b : Nat → R4) (r : R4) : (((((bxc b).setIfInBounds (3 * 4) (.int .u64 r.fh)).setIfInBounds (3 * 4 + 1) (.int .u64 r.fl)).setIfInBounds (3 * 4 + 2) (.int .u64 r.th)).setIfInBounds (3 * 4 + 3) (.int .u64 r.tl)) = bxc (upd b 3 r) := by kernel_rfl

theorem bxs4_4 (b : Nat → R4) (r : R4) : (((((bxc b).setIfInBounds (4 * 4) (.int .u64 r.fh)).setIfInBounds (4 * 4 + 1) (.int .u64 r.fl)).setIfInBounds (4 * 4 + 2) (.int .u64 r.th)).setIfInBounds (4 * 4 + 3) (.int .u64 r.tl)) = bxc (upd b 4 r) := by kernel_rfl

theorem bxs4_5 (b : Nat → R4) (r : R4) : (((((bxc b).setIfInBounds (5 * 4) (.int .u64 r.fh)).setIfInBounds (5 * 4 + 1) (.int .u64 r.fl)).setIfInBounds (5 * 4 + 2) (.int .u64 r.th)).setIfInBounds (5 * 4 + 3) (.int .u64 r.tl)) = bxc (upd b 5 r) := by kernel_rfl

theorem bxs4 (b : Nat → R4) (r : R4) (k : Nat) (hk : k < 6) : (((((bxc b).setIfInBounds (k * 4) (.int .u64 r.fh)).setIfInBounds (k * 4 + 1) (.int .u64 r.fl)).setIfInBounds (k * 4 + 2) (.int .u64 r.th)).setIfInBounds (k * 4 + 3) (.int .u64 r.tl)) = bxc (upd b k r) := by
  match k, hk with
  | 0, _ => exact bxs4_0 b r
  | 1, _ => exact bxs4_1 b r
  | 2, _ => exact bxs4_2 b r
  | 3, _ => exact bxs4_3 b r
  | 4, _ => exact bxs4_4 b r
  | 5, _ => exact bxs4_5 b r

theorem bset4 {w : World} {B : Nat} {b : Nat → R4} {t : TypeId} (h : w.heap[B]? = some (.cells (bxc b) t (0, 0))) (k : Nat) (hk : k < 6) (r : R4) :
    ((((w.setCell ⟨B, k * 4, none⟩ (.int .u64 r.fh)).setCell ⟨B, k * 4 + 1, none⟩ (.int .u64 r.fl)).setCell ⟨B, k * 4 + 2, none⟩ (.int .u64 r.th)).setCell ⟨B, k * 4 + 3, none⟩ (.int .u64 r.tl)).heap[B]? = some (.cells (bxc (upd b k r)) t (0, 0)) := by
  rw [← bxs4 b r k hk]
  simp [World.setCell, Array.getElem?_modify, h]

theorem bxs2_0 (b : Nat → R4) (x y : Int) : (((bxc b).setIfInBounds (0 * 4 + 2) (.int .u64 x)).setIfInBounds (0 * 4 + 3) (.int .u64 y)) = bxc (upd b 0 ⟨(b 0).fh, (b 0).fl, x, y⟩) := by kernel_rfl

theorem bxs2_1 (b : Nat → R4) (x y : Int) : (((bxc b).setIfInBounds (1 * 4 + 2) (.int .u64 x)).setIfInBounds (1 * 4 + 3) (.int .u64 y)) = bxc (upd b 1 ⟨(b 1).fh, (b 1).fl, x, y⟩) := by kernel_rfl

theorem bxs2_2 (b : Nat → R4) (x y : Int) : (((bxc b).setIfInBounds (2 * 4 + 2) (.int .u64 x)).setIfInBounds (2 * 4 + 3) (.int .u64 y)) = bxc (upd b 2 ⟨(b 2).fh, (b 2).fl, x, y⟩) := by kernel_rfl

theorem bxs2_3 (b : Nat → R4) (x y : Int) : (((bxc b).setIfInBounds (3 * 4 + 2) (.int .u64 x)).setIfInBounds (3 * 4 + 3) (.int .u64 y)) = bxc (upd b 3 ⟨(b 3).fh, (b 3).fl, x, y⟩) := by kernel_rfl

theorem bxs2_4 (b : Nat → R4) (x y : Int) : (((bxc b).setIfInBounds (4 * 4 + 2) (.int .u64 x)).setIfInBounds (4 * 4 + 3) (.int .u64 y)) = bxc (upd b 4 ⟨(b 4).fh, (b 4).fl, x, y⟩) := by kernel_rfl

theorem bxs2_5 (b : Nat → R4) (x y : Int) : (((bxc b).setIfInBounds (5 * 4 + 2) (.int .u64 x)).setIfInBounds (5 * 4 + 3) (.int .u64 y)) = bxc (upd b 5 ⟨(b 5).fh, (b 5).fl, x, y⟩) := by kernel_rfl

theorem bxs2 (b : Nat → R4) (x y : Int) (k : Nat) (hk : k < 6) : (((bxc b).setIfInBounds (k * 4 + 2) (.int .u64 x)).setIfInBounds (k * 4 + 3) (.int .u64 y)) = bxc (upd b k ⟨(b k).fh, (b k).fl, x, y⟩) := by
  match k, hk with
  | 0, _ => exact bxs2_0 b x y
  | 1, _ => exact bxs2_1 b x y
  | 2, _ => exact bxs2_2 b x y
  | 3, _ => exact bxs2_3 b x y
  | 4, _ => exact bxs2_4 b x y
  | 5, _ => exact bxs2_5 b x y

theorem bset2 {w : World} {B : Nat} {b : Nat → R4} {t : TypeId} (h : w.heap[B]? = some (.cells (bxc b) t (0, 0))) (k : Nat) (hk : k < 6) (x y : Int) :
    ((w.setCell ⟨B, k * 4 + 2, none⟩ (.int .u64 x)).setCell ⟨B, k * 4 + 3, none⟩ (.int .u64 y)).heap[B]? = some (.cells (bxc (upd b k ⟨(b k).fh, (b k).fl, x, y⟩)) t (0, 0)) := by
  rw [← bxs2 b x y k hk]
  simp [World.setCell, Array.getElem?_modify, h]

theorem upd_step {a a' c : Nat → R4} {k : Nat} (h : ∀ i, i < 6 → a' i = if i < k then c i else a i) (hk : k < 6) : ∀ i, i < 6 → upd a' k (c k) i = if i < k + 1 then c i else a i := by
  intro i hi
  unfold upd
  by_cases e : i = k
  · subst e; rw [if_pos rfl, if_pos (by omega)]
  · rw [if_neg e, h i hi]
    by_cases q : i < k
    · rw [if_pos q, if_pos (by omega)]
    · rw [if_neg q, if_neg (by omega)]

/-- Zero; a box with another range at a field. -/
def zr4 : R4 := ⟨0, 0, 0, 0⟩

theorem bxc_zero : bxc (fun _ => zr4) = #[.int .u64 0, .int .u64 0, .int .u64 0, .int .u64 0, .int .u64 0, .int .u64 0, .int .u64 0, .int .u64 0, .int .u64 0, .int .u64 0, .int .u64 0, .int .u64 0, .int .u64 0, .int .u64 0, .int .u64 0, .int .u64 0, .int .u64 0, .int .u64 0, .int .u64 0, .int .u64 0, .int .u64 0, .int .u64 0, .int .u64 0, .int .u64 0] := rfl

theorem bxc_congr {b c : Nat → R4} (h : ∀ k, k < 6 → b k = c k) : bxc b = bxc c := by
  unfold bxc; rw [h 0 (by omega), h 1 (by omega), h 2 (by omega), h 3 (by omega), h 4 (by omega), h 5 (by omega)]

theorem blk_setRow {w : World} {b : Nat} {cs : Array Value} {t : TypeId} (h : w.heap[b]? = some (.cells cs t (0, 0))) (C : Array Value) : (w.setRow b C).heap[b]? = some (.cells C t (0, 0)) := by
  unfold World.setRow
  simp [Array.getElem?_modify, h]

theorem Below.setRow {N : Nat} {w w1 : World} (h : Below N w w1) {B : Nat} (hB : N ≤ B) (C : Array Value) : Below N w (w1.setRow B C) :=
  ⟨h.os, h.tape, h.output, by simpa [World.setRow] using h.size, fun k hk => by
    have : B ≠ k := by omega
    simp only [World.setRow, Array.getElem?_modify]
    rw [if_neg this]; exact h.block k hk⟩

theorem hV_keep {X w' : World} {B : Nat} {o : Obj} (hb : Below X.heap.size X w') (h : X.heap[B]? = some o) : w'.heap[B]? = some o :=
  (hb.block _ (Array.getElem?_eq_some_iff.1 h).1).trans h

theorem setRow_al1 (w : World) (o1 : Obj) (c c2 : Array Value) (t : TypeId) : (World.alloc (w.alloc o1) (.cells c t)).setRow (w.heap.size + 1) c2 = World.alloc (w.alloc o1) (.cells c2 t) := by
  rw [show w.heap.size + 1 = (w.alloc o1).heap.size by rw [al_size], World.setRow_alloc_new]

set_option maxRecDepth 100000 in
set_option maxHeartbeats 4000000 in
theorem full_any (w : World) : Calls Tryz.prog 130 #[] w fun e w' => e = .returned (.agg (bxc fun _ => full4)) ∧ Below w.heap.size w w' := by
  obtain ⟨V, hV⟩ : ∃ V, V = bxc (fun _ => full4) := ⟨_, rfl⟩
  obtain ⟨Z, hZ⟩ : ∃ V, V = bxc (fun _ => zr4) := ⟨_, rfl⟩
  rw [← hV]
  have HV := Lib.hid hV; clear hV
  have HZ := Lib.hid hZ; clear hZ
  have hi : (Tryz.prog.info? 48).map (·.size) = some (#[.int .u64 0, .int .u64 0, .int .u64 0, .int .u64 0, .int .u64 0, .int .u64 0, .int .u64 0, .int .u64 0, .int .u64 0, .int .u64 0, .int .u64 0, .int .u64 0, .int .u64 0, .int .u64 0, .int .u64 0, .int .u64 0, .int .u64 0, .int .u64 0, .int .u64 0, .int .u64 0, .int .u64 0, .int .u64 0, .int .u64 0, .int .u64 0] : Array Value).size := by rw [← bxc_zero]; exact inf29 _
  have hi := Lib.hid hi
  have h1 : (#[.int .u64 0, .int .u64 0, .int .u64 0, .int .u64 0, .int .u64 0, .int .u64 0, .int .u64 0, .int .u64 0, .int .u64 0, .int .u64 0, .int .u64 0, .int .u64 0, .int .u64 0, .int .u64 0, .int .u64 0, .int .u64 0, .int .u64 0, .int .u64 0, .int .u64 0, .int .u64 0, .int .u64 0, .int .u64 0, .int .u64 0, .int .u64 0] : Array Value).all (·.oneCell') = true := by rw [← bxc_zero]; exact bx_one _
  have h1 := Lib.hid h1
  go_enter Tryz.func130, Tryz.ntmps130
  go_wp2
  clear hi h1
  obtain ⟨w0, hw0⟩ : ∃ w0, w0 = World.alloc (w.alloc (.cells #[.int .u64 0, .int .u64 0, .int .u64 0, .int .u64 0, .int .u64 0, .int .u64 0, .int .u64 0, .int .u64 0, .int .u64 0, .int .u64 0, .int .u64 0, .int .u64 0, .int .u64 0, .int .u64 0, .int .u64 0, .int .u64 0, .int .u64 0, .int .u64 0, .int .u64 0, .int .u64 0, .int .u64 0, .int .u64 0, .int .u64 0, .int .u64 0] 48)) (.cells #[.int .u64 0, .int .u64 0, .int .u64 0, .int .u64 0, .int .u64 0, .int .u64 0, .int .u64 0, .int .u64 0, .int .u64 0, .int .u64 0, .int .u64 0, .int .u64 0, .int .u64 0, .int .u64 0, .int .u64 0, .int .u64 0, .int .u64 0, .int .u64 0, .int .u64 0, .int .u64 0, .int .u64 0, .int .u64 0, .int .u64 0, .int .u64 0] 48) := ⟨_, rfl⟩
  have A0 : w0.heap[w.heap.size]? = some (.cells Z 48) := by rw [hw0, HZ.out, bxc_zero]; exact blk_al (heap_alloc_new w _) _
  have A1 : w0.heap[w.heap.size + 1]? = some (.cells (bxc (fun _ => zr4)) 48) := by rw [hw0, bxc_zero]; exact al_new (al_size _ _).symm _
  have b0 : Below w.heap.size w w0 := by rw [hw0]; exact Below.al (Below.al (Below.refl _ _) _) _
  rw [← hw0]
  clear hw0
  go_loopw [3] (fun v7 wr => ∃ k : Nat, v7 = .int .i64 k ∧ k ≤ 6 ∧ (∃ x' : Nat → R4, wr.heap[w.heap.size + 1]? = some (.cells (bxc x') 48 (0, 0)) ∧ Hid (∀ i, i < 6 → x' i = if i < k then (fun _ => full4) i else (fun _ => zr4) i)) ∧ wr.heap[w.heap.size]? = some (.cells Z 48 (0, 0)) ∧ Below w.heap.size w wr) (fun v7 _ => 6 - (intOf v7).toNat)
  case atStart => exact ⟨0, rfl, by omega, ⟨_, A1, Lib.hid (fun i hi => by rw [if_neg (Nat.not_lt_zero _)])⟩, A0, b0⟩
  case round =>
    obtain ⟨k, rfl, hk, ⟨x', B1, hA⟩, B0, bw⟩ := hrel
    clear A0 A1 b0
    by_cases hk6 : k < 6
    · obtain ⟨u0, u1, u2, u3⟩ := BoxAt.of B1 k hk6
      have f0 := fr4 B1
      have hxk : (x' k).fh = 0 ∧ (x' k).fl = 0 := by rw [hA.out k hk6, if_neg (by omega)]; exact ⟨rfl, rfl⟩
      have HA := Lib.hid (upd_step (c := fun _ => full4) hA.out hk6)
      have B1s := bset2 B1 k hk6 18446744073709551615 18446744073709551615
      rw [hxk.1, hxk.2] at B1s
      have B1s := Lib.hid B1s
      have hne0 : w.heap.size ≠ w.heap.size + 1 := by omega
      have hle : w.heap.size ≤ w.heap.size + 1 := by omega
      clear hA hxk
      go_wp2
      exact ⟨⟨k + 1, by simp, by omega, ⟨_, B1s.out, HA⟩, by rw [set_other hne0, set_other hne0]; exact B0, below_set (below_set bw hle _ _) hle _ _⟩, by simp [intOf]; omega⟩
    · obtain rfl : k = 6 := by omega
      have hVz : bxc x' = V := by rw [HV.out]; exact bxc_congr fun i hi => by rw [hA.out i hi, if_pos hi]
      rw [hVz] at B1
      have i29 : (Tryz.prog.info? 48).map (·.size) = some V.size := by rw [HV.out]; exact inf29 _
      have i1 : V.all (·.oneCell') = true := by rw [HV.out]; exact bx_one _
      have isz : Z.size = V.size := by rw [HZ.out, HV.out]; rfl
      have i29 := Lib.hid i29
      have i1 := Lib.hid i1
      have isz := Lib.hid isz
      clear hVz hA
      go_wp2_with (first
        | (refine wpList_load_row rfl 48 (.tmp 1) rfl (w.heap.size + 1) rfl 48 V (0, 0) _ B1 Tryz.underlying48 rfl i29.out ?_)
        | (refine wpList_store_row rfl 48 (.tmp 0) (.tmp 12) rfl w.heap.size V rfl rfl 48 Z B0 i29.out isz.out i1.out ?_))
      refine bodyPost_ret_by (results_cell_row Tryz.results130 _ _ w.heap.size 48 V _ _ rfl (blk_setRow B0 V) Tryz.underlying48 rfl i29.out) rfl ⟨rfl, Below.setRow bw (Nat.le_refl _) _⟩

end Go.Proofs.YtmnnjkdmnfadhaaGreatDoor

namespace Go.Proofs.YtmnnjkdmnfadhaaGreatDoor
open Go.Shelf Go.RowKit Go.Lib Go.Sort
set_option linter.unusedVariables false
set_option linter.unusedSimpArgs false

/-- A box of its ranges: zones, protocol, source ports, destination ports, source, destination. -/
def bxOf (z p s d a b : R4) : Nat → R4
  | 0 => z
  | 1 => p
  | 2 => s
  | 3 => d
  | 4 => a
  | _ => b
structure EN where
  bx : Nat → R4
  ru : Int
def enc25 (e : EN) : List Value := (bxc e.bx).toList ++ [.int .i64 e.ru]
def svF (c : CF) (nm : ByteArray) : Option SR := c.ss.find? fun s => eqs s.nm nm
def svR : Option SR → R4 × R4
  | none => (numR 0 255, numR 0 65535)
  | some s => (if s.proto = 0 then numR 0 255 else numR s.proto s.proto, numR s.frm s.til)
def adR (c : CF) (nm : ByteArray) : List R4 := match c.os.find? fun o => eqs o.nm nm with | none => [full4] | some o => o.rs
def znR (i j : Int) : List R4 := if i = -1 then (if j = -1 then [numR 0 255] else (List.range 16).map fun k : Nat => numR ((k : Int) * 16 + j) ((k : Int) * 16 + j)) else if j = -1 then [numR (i * 16) (i * 16 + 15)] else [numR (i * 16 + j) (i * 16 + j)]
def boxesP (c : CF) (u : UR) : List (Nat → R4) := (znR (zIx c u.inz) (zIx c u.out)).flatMap fun z => (adR c u.src).flatMap fun a => (adR c u.dst).map fun b => bxOf z (svR (svF c u.svc)).1 (numR 0 65535) (svR (svF c u.svc)).2 a b
def entsFrom (c : CF) : Int → List UR → List EN
  | _, [] => []
  | i, u :: r => ((boxesP c u).map fun b => ⟨b, i⟩) ++ entsFrom c (i + 1) r
def entsP (c : CF) : List EN := entsFrom c 0 c.us

/-- What the check has held. -/
structure CF.Fine (c : CF) : Prop where
  zn : c.zn ≤ 8
  on : c.on ≤ 32
  sn : c.sn ≤ 32
  un : c.un ≤ 48
  zl : c.zs.length ≤ 8
  ul : c.us.length ≤ 48
  ors : ∀ x ∈ c.os, x.rs.length ≤ 8
  za : ∀ x ∈ c.zs, isAny x.nm = false
  oa : ∀ x ∈ c.os, isAny x.nm = false
  sa : ∀ x ∈ c.ss, isAny x.nm = false
  sq : ∀ (j k : Nat) (x y : SR), j < k → c.ss[j]? = some x → c.ss[k]? = some y → eqs x.nm y.nm = false
  ol : ∀ x ∈ c.os, 1 ≤ x.rl ∧ x.rl ≤ 8
  sp : ∀ x ∈ c.ss, 0 ≤ x.proto ∧ x.proto ≤ 255 ∧ 0 ≤ x.frm ∧ x.frm ≤ 65535 ∧ x.til ≤ 65535
  ru : ∀ u ∈ c.us, zoB c u.inz = true ∧ zoB c u.out = true ∧ obB c u.src = true ∧ obB c u.dst = true ∧ svB c u.svc = true

theorem wiB_iff {n a b : Int} : wiB n a b = true ↔ a ≤ n ∧ n ≤ b := by simp [wiB]
theorem fromN_zero {r : Nat → Int} : ∀ (n i : Nat), fromN r i n = 0 → ∀ k, k < n → r (i + k) = 0
  | 0, i, _, k, hk => absurd hk (Nat.not_lt_zero _)
  | n + 1, i, h, k, hk => by
    have h1 : (if r i = 0 then fromN r (i + 1) n else r i) = 0 := h
    by_cases e : r i = 0
    · rw [if_pos e] at h1
      cases k with
      | zero => simpa using e
      | succ k =>
        have := fromN_zero n (i + 1) h1 k (by omega)
        rw [show i + (k + 1) = i + 1 + k by omega]; exact this
    · rw [if_neg e] at h1; exact absurd h1 e
theorem chkN_zero {α : Type} {nm : α → ByteArray} {chk : α → List α → Int} {l : List α} (h : firstP (chkN nm chk) l = 0) :
    (∀ x ∈ l, isAny (nm x) = false) ∧ (∀ (j k : Nat) (x y : α), j < k → l[j]? = some x → l[k]? = some y → eqs (nm x) (nm y) = false) ∧ (∀ (k : Nat) (x : α), l[k]? = some x → chk x (l.take k) = 0) := by
  have key : ∀ (k : Nat) (x : α), l[k]? = some x → nmB (nm x) = true ∧ ((l.take k).any fun y => eqs (nm y) (nm x)) = false ∧ chk x (l.take k) = 0 := by
    intro k x hk
    have hz := firstAt_zero l [] h k x hk
    simp only [List.nil_append, chkN] at hz
    by_cases h1 : nmB (nm x) = true
    · rw [if_pos h1] at hz
      by_cases h2 : ((l.take k).any fun y => eqs (nm y) (nm x)) = true
      · rw [if_pos h2] at hz; exact absurd hz (by decide)
      · rw [if_neg h2] at hz; exact ⟨h1, by simpa using h2, hz⟩
    · rw [if_neg h1] at hz; exact absurd hz (by decide)
  refine ⟨fun x hx => ?_, fun j k x y hjk hj hk => ?_, fun k x hk => (key k x hk).2.2⟩
  · obtain ⟨k, hk, rfl⟩ := List.getElem_of_mem hx
    have := (key k _ (List.getElem?_eq_getElem hk)).1
    have := ((nmB_iff _).1 this).2.2.1
    unfold isAny
    simpa using this
  · have := (key k y hk).2.1
    rw [Bool.eq_false_iff]
    intro he
    have ha : ((l.take k).any fun y' => eqs (nm y') (nm y)) = true := by
      rw [List.any_eq_true]
      exact ⟨x, List.mem_of_getElem? (i := j) (by rw [List.getElem?_take_of_lt hjk]; exact hj), he⟩
    rw [this] at ha; exact absurd ha (by decide)

theorem fine_of {c : CF} {w : World} (hc : c.Ok w) (h : checkD c = 0) : c.Fine := by
  rw [← checks_one c] at h
  have f := fromN_zero 9 0 h
  have h0 : countsP c = 0 := by simpa [rC] using f 0 (by omega)
  have h1 : firstP (chkN (·.nm) zonChk) c.zs = 0 := by simpa [rC] using f 1 (by omega)
  have h2 : firstP (chkN (·.nm) objChk) c.os = 0 := by simpa [rC] using f 2 (by omega)
  have h3 : firstP (chkN (·.nm) srvChk) c.ss = 0 := by simpa [rC] using f 3 (by omega)
  have h7 : firstP (rulChk c) c.us = 0 := by simpa [rC] using f 7 (by omega)
  have hn : ¬ (8 < c.zn ∨ 32 < c.on ∨ 32 < c.sn ∨ 16 < c.ln ∨ 16 < c.tn ∨ 16 < c.nn ∨ 48 < c.un) := by
    intro hh; unfold countsP at h0; rw [if_pos hh] at h0; exact absurd h0 (by decide)
  obtain ⟨z1, _, _⟩ := chkN_zero h1
  obtain ⟨o1, _, o3⟩ := chkN_zero h2
  obtain ⟨s1, s2, s3⟩ := chkN_zero h3
  have ol : ∀ x ∈ c.os, 1 ≤ x.rl ∧ x.rl ≤ 8 := fun x hx => by
    obtain ⟨k, hk, rfl⟩ := List.getElem_of_mem hx
    have := o3 k _ (List.getElem?_eq_getElem hk)
    unfold objChk at this
    by_cases hw : wiB ((c.os[k]).rl : Int) 1 8 = true
    · have := wiB_iff.1 hw
      omega
    · rw [if_neg hw] at this; exact absurd this (by decide)
  refine ⟨by omega, by omega, by omega, by omega, by rw [hc.z.len]; omega, by rw [hc.u.len]; omega, fun x hx => by rw [(hc.oi x hx).len]; exact (ol x hx).2, z1, o1, s1, s2, ol, fun x hx => ?_, fun u hu => ?_⟩
  · obtain ⟨k, hk, rfl⟩ := List.getElem_of_mem hx
    have := s3 k _ (List.getElem?_eq_getElem hk)
    unfold srvChk at this
    by_cases a1 : wiB (c.ss[k]).proto 0 255 = true
    · rw [if_pos a1] at this
      by_cases a2 : wiB (c.ss[k]).frm 0 65535 = true
      · rw [if_pos a2] at this
        by_cases a3 : wiB (c.ss[k]).til (c.ss[k]).frm 65535 = true
        · have b1 := wiB_iff.1 a1
          have b2 := wiB_iff.1 a2
          have b3 := wiB_iff.1 a3
          exact ⟨b1.1, b1.2, b2.1, b2.2, b3.2⟩
        · rw [if_neg a3] at this; exact absurd this (by decide)
      · rw [if_neg a2] at this; exact absurd this (by decide)
    · rw [if_neg a1] at this; exact absurd this (by decide)
  · obtain ⟨k, hk, rfl⟩ := List.getElem_of_mem hu
    have := firstAt_zero c.us [] h7 k _ (List.getElem?_eq_getElem hk)
    unfold rulChk at this
    by_cases hr : rnB c (c.us[k]) = true
    · unfold rnB at hr
      simp only [Bool.and_eq_true] at hr
      exact ⟨hr.1, hr.2.1, hr.2.2.1, hr.2.2.2.1, hr.2.2.2.2.1⟩
    · rw [if_neg hr] at this; exact absurd this (by decide)

/-- A name that is any names nothing; another one something. -/
theorem any_ix {α : Type} [Inhabited α] {nm : α → ByteArray} {l : List α} {key : ByteArray} (ha : ∀ x ∈ l, isAny (nm x) = false) (hk : isAny key = true) : pl (fun x => eqs (nm x) key) l = -1 ∧ (l.find? fun x => eqs (nm x) key) = none := by
  have hno : ∀ (j : Nat) (x : α), l[j]? = some x → eqs (nm x) key = false := fun j x hj => by
    rw [Bool.eq_false_iff]
    intro he
    have := ha x (List.mem_of_getElem? hj)
    unfold isAny at this hk
    rw [(eqs_eq _ _).1 he] at this
    rw [hk] at this; exact absurd this (by decide)
  exact ⟨pl_miss hno, find_miss hno⟩
theorem some_ix {α : Type} [Inhabited α] {nm : α → ByteArray} {l : List α} {key : ByteArray} (hs : (isAny key || l.any fun x => eqs (nm x) key) = true) (hk : isAny key = false) :
    ∃ (k : Nat) (x : α), l[k]? = some x ∧ pl (fun x => eqs (nm x) key) l = (k : Int) ∧ (l.find? fun x => eqs (nm x) key) = some x ∧ eqs (nm x) key = true ∧ ∀ (j : Nat) (y : α), j < k → l[j]? = some y → eqs (nm y) key = false := by
  rw [hk, Bool.false_or, List.any_eq_true] at hs
  obtain ⟨x, hx, he⟩ := hs
  rcases pl_cases (fun x => eqs (nm x) key) l with ⟨_, h1⟩ | ⟨k, x', h0, h1, h2, h3⟩
  · obtain ⟨k, hk2, hkx⟩ := List.getElem_of_mem hx
    have := h1 k x (by rw [List.getElem?_eq_getElem hk2, hkx])
    rw [he] at this; exact absurd this (by decide)
  · exact ⟨k, x', h0, h1, find_hit h0 h2 h3, h2, h3⟩
theorem zIx_iff {c : CF} (hf : c.Fine) {key : ByteArray} (hz : zoB c key = true) : (zIx c key = -1 ↔ isAny key = true) ∧ -1 ≤ zIx c key ∧ zIx c key < 8 ∧ (zIx c key ≠ -1 → zIx c key < c.zs.length) := by
  by_cases hk : isAny key = true
  · have := (any_ix hf.za hk).1
    unfold zIx
    rw [this]
    exact ⟨⟨fun _ => hk, fun _ => rfl⟩, by omega, by omega, fun h => absurd rfl h⟩
  · have hk' : isAny key = false := by simpa using hk
    obtain ⟨k, x, h0, h1, _⟩ := some_ix hz hk'
    have hl := pl_lt (fun x => eqs x.nm key) c.zs
    unfold zIx
    refine ⟨⟨fun h => by rw [h1] at h; omega, fun h => absurd h hk⟩, by rw [h1]; omega, ?_, fun _ => hl.2⟩
    have := hf.zl
    omega
end Go.Proofs.YtmnnjkdmnfadhaaGreatDoor

namespace Go.Proofs.YtmnnjkdmnfadhaaGreatDoor
open Go.Shelf Go.RowKit Go.Lib Go.Sort
set_option linter.unusedVariables false
set_option linter.unusedSimpArgs false

def RsPost (S : Nat) (w : World) (L : List R4) (e : Ending) (w' : World) : Prop := ∃ (A : Option Addr) (n cp : Nat), e = .returned (.slice A n cp) ∧ Sl w' 4 r4c A n L ∧ Below w.heap.size w w' ∧ (0 < n → ∀ (b off : Nat) (sp : Option Nat), A = some ⟨b, off, sp⟩ → b < S ∨ w.heap.size ≤ b)
/-- The configuration's ranges lie below S. -/
def OldR (c : CF) (S : Nat) : Prop := ∀ x ∈ c.os, 0 < x.rl → ∀ (b off : Nat) (sp : Option Nat), x.ra = some ⟨b, off, sp⟩ → b < S
theorem old_of {c : CF} {w : World} (hc : c.Ok w) : OldR c w.heap.size := fun x hx hn b off sp h => by
  obtain ⟨b', off', h1, h2, _⟩ := (hc.oi x hx).row hn
  rw [h] at h1; cases h1; exact h2
theorem isAny_iff {s : ByteArray} : isAny s = true ↔ s.toList = [97, 110, 121] := by simp [isAny]
theorem bel_rgz {w0 w1 : World} (h : Below w0.heap.size w0 w1) (d : Nat) (os : Array Obj) : Below w0.heap.size w0 (grow (redrawn w1 d) os) := bel_via h (below_regrown w1 d os)
/-- A row of one range. -/
theorem sl_one4 {w : World} {B : Nat} {r : R4} {t : TypeId} (h : w.heap[B]? = some (.cells (r4c r).toArray t (0, 0))) : Sl w 4 r4c (some ⟨B, 0, none⟩) 1 [r] :=
  ⟨rfl, by omega, fun _ => ⟨B, 0, rfl, (Array.getElem?_eq_some_iff.1 h).1, fun j x hj i v hv => by
    match j, hj with
    | 0, hj =>
      simp at hj; subst hj
      simp only [Nat.zero_mul, Nat.zero_add]
      unfold World.cell?
      rw [h]
      have := getE hv
      simpa using hv
    | j + 1, hj => simp at hj⟩⟩
theorem fd_box (b : Nat → R4) (x : World) : Sem.run Tryz.prog (Instr.field 48 (.agg (bxc b)) 0) x = .ok (.agg (bxc b)) x := by kernel_rfl

set_option maxHeartbeats 4000000 in
set_option maxRecDepth 100000 in
theorem adr_any (c : CF) (key : ByteArray) {w : World} (hc : c.Ok w) (hf : c.Fine) (hk : obB c key = true) {S : Nat} (hS : OldR c S) :
    Calls Tryz.prog 90 #[.agg (cfc c), .string key] w (RsPost S w (adR c key)) := by
  obtain ⟨L, hL⟩ : ∃ L, adR c key = L := ⟨_, rfl⟩
  rw [hL]
  by_cases ha : isAny key = true
  · have hLf : L = [full4] := by rw [← hL]; unfold adR; rw [(any_ix hf.oa ha).2]
    subst hLf
    have hq : key.toList = [97, 110, 121] := isAny_iff.1 ha
    obtain ⟨C, hC⟩ : ∃ C, C = bxc (fun _ => full4) := ⟨_, rfl⟩
    have kf := fun W : World => full_any W
    have k1 : ∀ x : World, Sem.run Tryz.prog (Instr.field 48 (.agg C) 0) x = .ok (.agg C) x := by rw [hC]; exact fd_box _
    have k2 : ∀ x : World, Sem.run Tryz.prog (Instr.index 46 (.agg C) (.int .i64 4)) x = .ok (.agg #[.int .u64 0, .int .u64 0, .int .u64 18446744073709551615, .int .u64 18446744073709551615]) x := by rw [hC]; exact fun x => ix_b4 (fun _ => full4) x
    rw [← hC] at kf
    clear hC hL ha hk hf hc hS
    obtain ⟨zA, zn, zc, zs, oA, on, oc, os, sA, sn, sc, ss, lA, ln, lc, ls, tA, tn, tc, ts, nA, nn, nc, ns, uA, un, uc, us, df⟩ := c
    simp only [cfc]
    go_enter Tryz.func90, Tryz.ntmps90
    go_wp2_with fail
    refine calls_gen fun W hW => ?_
    have b0 : Below w.heap.size w W := by rw [hW]; repeat (first | exact Below.refl _ _ | apply Below.dr | apply Below.al)
    clear hW
    refine (kf W).mono ?_
    rintro e w1 ⟨rfl, b1⟩
    have b1' := bel_via b0 b1
    clear b1 b0 kf
    go_wp2
    go_ret
    exact ⟨_, _, _, rfl, sl_one4 (r := full4) (heap_alloc_new w1 _), Below.al b1' _, fun _ b off sp h => by cases h; exact .inr b1'.size⟩
  · have ha' : isAny key = false := by simpa using ha
    obtain ⟨k, x, hx, hpl, hfi, _⟩ := some_ix (l := c.os) (nm := fun x : OR => x.nm) (key := key) hk ha'
    have hLf : L = x.rs := by rw [← hL]; unfold adR; rw [hfi]
    subst hLf
    have hq : (key.toList == [97, 110, 121]) = false := by simpa [isAny] using ha'
    have HSx := Lib.hid (hc.oi x (List.mem_of_getElem? hx))
    have HOl := Lib.hid (hS x (List.mem_of_getElem? hx))
    have hkn : k < c.on := by have := getE hx; have := hc.o.len; omega
    have hbig := hc.o.big
    obtain ⟨b, off, hA, hlt, hrow⟩ := hc.o.row (by omega)
    have r1 := hrow k x hx 1 _ rfl
    have HO := Lib.hid hc.o
    have HPL := Lib.hid hpl
    clear hL ha ha' hk hf hc hrow hfi hpl hx hS
    obtain ⟨zA, zn, zc, zs, oA, on, oc, os, sA, sn, sc, ss, lA, ln, lc, ls, tA, tn, tc, ts, nA, nn, nc, ns, uA, un, uc, us, df⟩ := c
    simp only at *
    subst hA
    simp only [cfc]
    obtain ⟨nm, ra, rl, rc, rs⟩ := x
    simp only at *
    go_enter Tryz.func90, Tryz.ntmps90
    go_wp2_with fail
    obtain ⟨W, hW⟩ : ∃ W, W = World.alloc (w.alloc (.cells #[.slice zA zn zc, .slice (some ⟨b, off, none⟩) on oc, .slice sA sn sc, .slice lA ln lc, .slice tA tn tc, .slice nA nn nc, .slice uA un uc, .int .i64 df] 30)) (.cells #[.string key] 9) := ⟨_, rfl⟩
    rw [← hW]
    have b0 : Below w.heap.size w W := by rw [hW]; exact Below.al (Below.al (Below.refl _ _) _) _
    have hK : W.cell? ⟨w.heap.size + 1, 0, none⟩ = some (.string key) := by rw [hW]; simp [go_sem, World.cell?_alloc_past]
    have h1 : W.cell? ⟨w.heap.size, 1, none⟩ = some (.slice (some ⟨b, off, none⟩) on oc) := by rw [hW]; simp [go_sem, World.cell?_alloc_past]
    have h2 := keepc b0 r1
    clear hW r1
    have cc : ∀ V, Below W.heap.size W V → Calls Tryz.prog 133 #[.slice (some ⟨b, off, none⟩) on oc, .func (.func 134) #[] #[.pointer (some ⟨w.heap.size + 1, 0, none⟩)]] V fun e w' => e = .returned (.int .i64 (k : Int)) ∧ Below V.heap.size V w' := by
      intro V hV
      have cc := idx_rows Tryz.li_obj Tryz.isAgg62 Tryz.sizeOf62 orc (fun _ => rfl) (fun x => eqs x.nm key) 134 #[.pointer (some ⟨w.heap.size + 1, 0, none⟩)] eBy_obj (some ⟨b, off, none⟩) on oc os V
        (fun W' x hx hW' => by_obj key _ x (keepc hW' (keepc hV hK))) (HO.out.keep (bel_via b0 hV))
      rw [HPL.out] at cc
      exact cc
    have g1 := cell_regrown h1
    have g2 := cell_regrown h2
    have q := fun d os => Calls.regrown_of (cc (grow (redrawn W d) os) (below_regrown W d os))
    clear cc h1 h2 hK
    refine wp_region_quiet_below (by kernel_rfl) (by kernel_rfl) ?_
    repeat (first | go_big_quiet_skip | quiet_step (first | (go_at_call 133; with_reducible exact q _ _)))
    refine wpQuiet_nil ?_
    intro _ hw'
    obtain ⟨⟨dq, osq⟩, hw''⟩ := hw'
    subst hw''
    have b2 := bel_rgz b0 dq osq
    go_wp2
    go_ret
    exact ⟨_, _, _, rfl, HSx.out.keep b2, b2, fun h0 b off sp h => .inl (HOl.out h0 b off sp h)⟩
end Go.Proofs.YtmnnjkdmnfadhaaGreatDoor

namespace Go.Proofs.YtmnnjkdmnfadhaaGreatDoor
open Go.Shelf Go.RowKit Go.Lib Go.Sort
set_option linter.unusedVariables false
set_option linter.unusedSimpArgs false

section
variable {α : Type} (enc : α → List Value) (k bytes : Nat) (T ST : TypeId)
/-- What is known of a type of rows. -/
structure RowTy : Prop where
  st : Tryz.prog.underlying ST = some (.slice T)
  info : ∃ i z, Tryz.prog.info? T = some i ∧ i.zero = some z ∧ i.size = k ∧ i.bytes = bytes ∧ z.cells.size = k
  kp : 0 < k
  len : ∀ x, (enc x).length = k
  one : ∀ x, ∀ u ∈ enc x, u.oneCell' = true

variable {enc k bytes T ST}
theorem row_news {w : World} {x : α} (j : Nat) (u : Value) (hj : (enc x)[j]? = some u) : (w.alloc (.cells (enc x).toArray T)).cell? ((⟨w.heap.size, 0, none⟩ : Addr).add j) = some u := by
  have h := heap_alloc_new w (.cells (enc x).toArray T)
  generalize w.alloc (.cells (enc x).toArray T) = w1 at *
  have ea : (⟨w.heap.size, 0, none⟩ : Addr).add j = ⟨w.heap.size, j, none⟩ := by unfold Addr.add; split <;> simp_all
  rw [ea]; simpa [World.cell?, h] using hj

set_option maxRecDepth 100000 in
/-- One more at the end of a row of our own; what came first stays. -/
theorem app_row {ops : Array Oper} {rest : List Oper} {o : Oper} {a : Act} {Q : Exit → Act → World → Prop} (R : RowTy enc k bytes T ST) (hgd : o.guard = none) (s x : Operand)
    (ho : o.op = .call { callee := .builtin .append, args := #[s, x], argTypes := #[ST, ST] })
    (base : Nat) (v : Value) (n : Nat) (l : List α) {w : World} (hs : a.eval s = v) (hown : w.ownsRow base T k v n (l.flatMap enc)) (y : α)
    (hx : a.eval x = .slice (some ⟨w.heap.size, 0, none⟩) 1 1) (h63 : (n + 1) * bytes ≤ 140737488355328) (hn : n ≤ 1000000000) (hbase : base ≤ w.heap.size)
    (h : ∀ v' w', w'.ownsRow base T k v' (n + 1) ((l ++ [y]).flatMap enc) → (∀ N w0, Below N w0 w → N ≤ base → Below N w0 w') → base ≤ w'.heap.size → wpList Tryz.prog ops Q rest (a.put o.dst v') w') :
    wpList Tryz.prog ops Q (o :: rest) a (w.alloc (.cells (enc y).toArray T)) := by
  obtain ⟨i, z, hi, hz, hsz, hby, hzs⟩ := R.info
  have hown' : (w.alloc (.cells (enc y).toArray T)).ownsRow base T k v n (l.flatMap enc) := hown.kept (World.grownBy_alloc w _ none) (by cases h : v.ownBlock <;> simp)
  have hb' : base ≤ (w.alloc (.cells (enc y).toArray T)).heap.size := by simp; omega
  refine wpList_append_own _ hgd s x ST ho base T i z k bytes R.st hi hz hsz hby hzs R.kp v n (l.flatMap enc) hs hown' ⟨w.heap.size, 0, none⟩ 1 1 (enc y) hx (by rw [R.len, Nat.one_mul]) row_news (R.one y) (by unfold maxLen; omega) h63 hb' ?_
  intro v' w' h1 h2 _
  refine h v' w' (by rw [List.flatMap_append]; simpa using h1) (fun N w0 hb hN => ?_) (Nat.le_trans hb' h2.size)
  refine Below.grown (hb.alloc (by omega) _) h2 (by simp; omega) (fun q hq => ?_)
  have := (hown'.lt q hq).1
  omega

theorem own_nil (w : World) (base : Nat) : w.ownsRow base T k (.slice none 0 0) 0 (([] : List α).flatMap enc) := ⟨by simp, .inl ⟨rfl, rfl⟩⟩
theorem own_empty (w : World) : (w.alloc (.cells #[] T)).ownsRow w.heap.size T k (.slice (some ⟨w.heap.size, 0, none⟩) 0 0) 0 (([] : List α).flatMap enc) :=
  ⟨by simp, .inr ⟨w.heap.size, 0, _, rfl, Nat.le_refl _, heap_alloc_new w _, Nat.le_refl _, Nat.zero_le _, by simp, by simp⟩⟩
theorem own_keep {w w' : World} {base n : Nat} {v : Value} {xs : List Value} (h : w.ownsRow base T k v n xs) (hb : Below w.heap.size w w') : w'.ownsRow base T k v n xs := by
  obtain ⟨h1, h2⟩ := h
  refine ⟨h1, ?_⟩
  rcases h2 with h2 | ⟨g, cap, cur, e1, e2, e3, e4, e5, e6, e7⟩
  · exact .inl h2
  · exact .inr ⟨g, cap, cur, e1, e2, by rw [hb.block g (Array.getElem?_eq_some_iff.1 e3).1]; exact e3, e4, e5, e6, e7⟩
end

theorem rng_ty : RowTy r4c 4 32 45 60 := by
  refine ⟨Tryz.underlying60, ?_, by decide, fun _ => rfl, fun x u hu => ?_⟩
  · have h : (Tryz.prog.info? 45).map (fun i => (i.zero.map (·.cells.size), i.size, i.bytes)) = some (some 4, 4, 32) := by kernel_rfl
    cases hh : Tryz.prog.info? 45 with
    | none => rw [hh] at h; cases h
    | some i =>
      rw [hh] at h
      simp only [Option.map_some, Option.some.injEq, Prod.mk.injEq] at h
      cases hz : i.zero with
      | none => rw [hz] at h; simp at h
      | some z => exact ⟨i, z, rfl, hz, h.2.1, h.2.2, by rw [hz] at h; simpa using h.1⟩
  · simp [r4c] at hu; rcases hu with rfl | rfl | rfl | rfl <;> rfl
theorem box_ty : RowTy (fun b : Nat → R4 => (bxc b).toList) 24 192 48 75 := by
  refine ⟨Tryz.underlying75, ?_, by decide, fun _ => rfl, fun x u hu => ?_⟩
  · have h : (Tryz.prog.info? 48).map (fun i => (i.zero.map (·.cells.size), i.size, i.bytes)) = some (some 24, 24, 192) := by kernel_rfl
    cases hh : Tryz.prog.info? 48 with
    | none => rw [hh] at h; cases h
    | some i =>
      rw [hh] at h
      simp only [Option.map_some, Option.some.injEq, Prod.mk.injEq] at h
      cases hz : i.zero with
      | none => rw [hz] at h; simp at h
      | some z => exact ⟨i, z, rfl, hz, h.2.1, h.2.2, by rw [hz] at h; simpa using h.1⟩
  · have := bx_one x
    rw [Array.all_eq_true_iff_forall_mem] at this
    exact this u (by simpa using hu)
theorem ent_ty : RowTy enc25 25 200 50 41 := by
  refine ⟨Tryz.underlying41, ?_, by decide, fun _ => rfl, fun x u hu => ?_⟩
  · have h : (Tryz.prog.info? 50).map (fun i => (i.zero.map (·.cells.size), i.size, i.bytes)) = some (some 25, 25, 200) := by kernel_rfl
    cases hh : Tryz.prog.info? 50 with
    | none => rw [hh] at h; cases h
    | some i =>
      rw [hh] at h
      simp only [Option.map_some, Option.some.injEq, Prod.mk.injEq] at h
      cases hz : i.zero with
      | none => rw [hz] at h; simp at h
      | some z => exact ⟨i, z, rfl, hz, h.2.1, h.2.2, by rw [hz] at h; simpa using h.1⟩
  · simp only [enc25, List.mem_append, List.mem_singleton] at hu
    rcases hu with hu | rfl
    · have := bx_one x.bx
      rw [Array.all_eq_true_iff_forall_mem] at this
      exact this u (by simpa using hu)
    · rfl
/-- A literal of one element. -/
theorem wpList_b1 {ops : Array Oper} {rest : List Oper} {o : Oper} {a : Act} {w : World} {Q : Exit → Act → World → Prop} (hgd : o.guard = none) (T ST : TypeId) (x : Operand) (v : Value) (cs : Array Value) (ho : o.op = .buildSlice ST 1 #[(0, x)]) (hx : a.eval x = v)
    (hrun : ∀ w : World, (Instr.buildSlice ST 1 #[(0, v)]).run Tryz.prog w = .ok (.slice (some ⟨w.heap.size, 0, none⟩) 1 1) (w.alloc (.cells cs T)))
    (h : wpList Tryz.prog ops Q rest (a.put o.dst (.slice (some ⟨w.heap.size, 0, none⟩) 1 1)) (w.alloc (.cells cs T))) : wpList Tryz.prog ops Q (o :: rest) a w :=
  wpList_plain hgd fun _ hK => by
    unfold Oper.wp
    have e : (execOp a.eval o).run Tryz.prog w = .ok (.value (.slice (some ⟨w.heap.size, 0, none⟩) 1 1)) (w.alloc (.cells cs T)) := by
      unfold execOp
      simp only [ho, List.map_toArray, List.map_cons, List.map_nil, hx, Sem.run_bind, Sem.run_pure, Result.andThen_ok, hrun]
    rw [e]
    simp [go_sem]
    exact hK _ _ h
theorem run_b4 (r : R4) (w : World) : (Instr.buildSlice 60 1 #[(0, .agg #[.int .u64 r.fh, .int .u64 r.fl, .int .u64 r.th, .int .u64 r.tl])]).run Tryz.prog w = .ok (.slice (some ⟨w.heap.size, 0, none⟩) 1 1) (w.alloc (.cells (r4c r).toArray 45)) := by kernel_rfl
theorem run_bb (b : Nat → R4) (w : World) : (Instr.buildSlice 75 1 #[(0, .agg (bxc b))]).run Tryz.prog w = .ok (.slice (some ⟨w.heap.size, 0, none⟩) 1 1) (w.alloc (.cells (bxc b) 48)) := by kernel_rfl
theorem run_be (e : EN) (w : World) : (Instr.buildSlice 41 1 #[(0, .agg (enc25 e).toArray)]).run Tryz.prog w = .ok (.slice (some ⟨w.heap.size, 0, none⟩) 1 1) (w.alloc (.cells (enc25 e).toArray 50)) := by kernel_rfl
theorem run_en (b : Nat → R4) (i : Int) (w : World) : (Instr.build 49 #[(0, .agg (bxc b)), (1, .int .i64 i)]).run Tryz.prog w = .ok (.agg (enc25 ⟨b, i⟩).toArray) w := by kernel_rfl
theorem rs_of_own {S : Nat} {w w' : World} {base n : Nat} {v : Value} {l : List R4} (h : w'.ownsRow base 45 4 v n (l.flatMap r4c)) (hl : l.length = n) (hb : Below w.heap.size w w') (hw : w.heap.size ≤ base) : RsPost S w l (.returned v) w' := by
  obtain ⟨A, cap, rfl, hS, hg⟩ := sl_of_own (enc := r4c) (fun _ => rfl) h hl
  exact ⟨A, n, cap, rfl, hS, hb, fun _ b off sp e => .inr (Nat.le_trans hw (hg b off sp e))⟩

/-! ### A row that grows while other blocks stay -/
/-- All blocks below M but those in E are as they were. -/
structure OffE (E : Nat → Prop) (M : Nat) (w w' : World) : Prop where
  os : w'.os = w.os
  tape : w'.tape = w.tape
  output : w'.output = w.output
  size : M ≤ w'.heap.size
  block : ∀ q, q < M → ¬ E q → w'.heap[q]? = w.heap[q]?
theorem OffE.refl (E : Nat → Prop) (w : World) : OffE E w.heap.size w w := ⟨rfl, rfl, rfl, Nat.le_refl _, fun _ _ _ => rfl⟩
theorem OffE.below {E : Nat → Prop} {M : Nat} {a w w' : World} (h : OffE E M a w) (hb : Below w.heap.size w w') : OffE E M a w' :=
  ⟨hb.os.trans h.os, hb.tape.trans h.tape, hb.output.trans h.output, Nat.le_trans h.size hb.size, fun q hq hE => (hb.block q (Nat.lt_of_lt_of_le hq h.size)).trans (h.block q hq hE)⟩
theorem OffE.set {E : Nat → Prop} {M B : Nat} {a w : World} (h : OffE E M a w) (hB : E B) (o : Nat) (u : Value) : OffE E M a (w.setCell ⟨B, o, none⟩ u) :=
  ⟨h.os, h.tape, h.output, by simpa [World.setCell] using h.size, fun q hq hE => by rw [set_other (show q ≠ B from fun e => hE (e ▸ hB))]; exact h.block q hq hE⟩
def OwnOk (E : Nat → Prop) (M : Nat) (v : Value) : Prop := ∀ q, v.ownBlock = some q → E q ∨ M ≤ q
theorem OffE.grow {E : Nat → Prop} {M : Nat} {a w w' : World} {v : Value} (h : OffE E M a w) (ho : OwnOk E M v) (hg : w.grownBy w' v.ownBlock) : OffE E M a w' :=
  ⟨hg.os.trans h.os, hg.tape.trans h.tape, hg.output.trans h.output, Nat.le_trans h.size hg.size, fun q hq hE => (hg.block q (Nat.lt_of_lt_of_le hq h.size) (fun e => by
    rcases ho q e.symm with h1 | h1
    · exact hE h1
    · omega)).trans (h.block q hq hE)⟩
theorem Sl.offE {α : Type} {E : Nat → Prop} {w w' : World} {k : Nat} {enc : α → List Value} {A : Option Addr} {n : Nat} {l : List α} (h : Sl w k enc A n l) (ho : OffE E w.heap.size w w') (hn : 0 < n → ∀ (b off : Nat) (sp : Option Nat), A = some ⟨b, off, sp⟩ → ¬ E b) : Sl w' k enc A n l :=
  ⟨h.len, h.big, fun hp => by
    obtain ⟨b, off, hA, hb, hrow⟩ := h.row hp
    have e := ho.block b hb (hn hp b off _ hA)
    exact ⟨b, off, hA, Nat.lt_of_lt_of_le hb ho.size, fun j x hj i v hv => (World.cell?_of_block (a := ⟨b, off + j * k + i, none⟩) e).trans (hrow j x hj i v hv)⟩⟩
section
variable {α : Type} {enc : α → List Value} {k bytes : Nat} {T ST : TypeId}
set_option maxRecDepth 100000 in
/-- One more at the end; what stays is told by OffE. -/
theorem app_off {ops : Array Oper} {rest : List Oper} {o : Oper} {a : Act} {Q : Exit → Act → World → Prop} (R : RowTy enc k bytes T ST) (hgd : o.guard = none) (s x : Operand)
    (ho : o.op = .call { callee := .builtin .append, args := #[s, x], argTypes := #[ST, ST] })
    (base : Nat) (v : Value) (n : Nat) (l : List α) {w : World} (hs : a.eval s = v) (hown : w.ownsRow base T k v n (l.flatMap enc)) (y : α)
    (hx : a.eval x = .slice (some ⟨w.heap.size, 0, none⟩) 1 1) (h63 : (n + 1) * bytes ≤ 140737488355328) (hn : n ≤ 1000000000) (hbase : base ≤ w.heap.size)
    (h : ∀ v' w', w'.ownsRow base T k v' (n + 1) ((l ++ [y]).flatMap enc) → (∀ E M w0, OffE E M w0 w → OwnOk E M v → OffE E M w0 w' ∧ OwnOk E M v') → (∀ N w0, Below N w0 w → N ≤ base → Below N w0 w') → base ≤ w'.heap.size → wpList Tryz.prog ops Q rest (a.put o.dst v') w') :
    wpList Tryz.prog ops Q (o :: rest) a (w.alloc (.cells (enc y).toArray T)) := by
  obtain ⟨i, z, hi, hz, hsz, hby, hzs⟩ := R.info
  have hown' : (w.alloc (.cells (enc y).toArray T)).ownsRow base T k v n (l.flatMap enc) := hown.kept (World.grownBy_alloc w _ none) (by cases h : v.ownBlock <;> simp)
  have hb' : base ≤ (w.alloc (.cells (enc y).toArray T)).heap.size := by simp; omega
  have hal : Below w.heap.size w (w.alloc (.cells (enc y).toArray T)) := Below.al (Below.refl _ _) _
  refine wpList_append_own_at _ hgd s x ST ho base T i z k bytes R.st hi hz hsz hby hzs R.kp v n (l.flatMap enc) hs hown' ⟨w.heap.size, 0, none⟩ 1 1 (enc y) hx (by rw [R.len, Nat.one_mul]) row_news (R.one y) (by unfold maxLen; omega) h63 hb' ?_
  intro v' w' h1 h2 h3 h4
  refine h v' w' (by rw [List.flatMap_append]; simpa using h1) (fun E M w0 hO hv => ⟨(hO.below hal).grow hv h2, fun q hq => ?_⟩) (fun N w0 hb hN => ?_) (Nat.le_trans hb' h2.size)
  · rcases h4 with h4 | h4
    · exact hv q (h4 ▸ hq)
    · rw [h4] at hq
      have := hO.size
      cases hq
      right; simp; omega
  · refine Below.grown (hb.alloc (by omega) _) h2 (by simp; omega) (fun q hq => ?_)
    have := (hown'.lt q hq).1
    omega
end
end Go.Proofs.YtmnnjkdmnfadhaaGreatDoor

namespace Go.Proofs.YtmnnjkdmnfadhaaGreatDoor
open Go.Shelf Go.RowKit Go.Lib Go.Sort
set_option linter.unusedVariables false
set_option linter.unusedSimpArgs false

theorem quiet_load_row {P : Program} {ops : Array Oper} {C : World → Prop} {Q : Act → Prop} {a : Act} {o : Oper} {rest : List Oper} (hw : Region.wanted o (yielded ops a.tmps) = true) (ty : TypeId) (x : Operand) (ho : o.op = .load ty x)
    (g : Nat) (hx : a.eval x = .pointer (some ⟨g, 0, none⟩)) (t : TypeId) (cs : Array Value) (fr : Nat × Nat) (d : TypeDesc) (hg : ∀ w, C w → w.heap[g]? = some (.cells cs t fr))
    (hu : P.underlying ty = some d) (hd : (match d with | .struct _ | .array _ _ => true | _ => false) = true) (hi : (P.info? ty).map (·.size) = some cs.size)
    (h : wpQuiet P ops C Q rest (a.put o.dst (.agg cs))) : wpQuiet P ops C Q (o :: rest) a :=
  wpQuiet_step fun K hK => by
    rw [if_pos hw]
    refine ⟨.agg cs, fun w hC => ?_, hK _ h⟩
    unfold Oper.quietAt execOp
    simp only [ho, hx, Instr.loadAt, Instr.sureAddr, Sem.run_bind, Sem.run_pure, Result.andThen_ok, run_loadVar_row w g t ty cs fr d (hg w hC) hu hd hi]
    exact ⟨rfl, rfl⟩
theorem rg_heap {w1 : World} {g : Nat} {o : Obj} (h : w1.heap[g]? = some o) : ∀ w', (∃ p : Regrown, w' = grow (redrawn w1 p.d) p.os) → w'.heap[g]? = some o := fun w' ⟨p, hp⟩ => by
  rw [hp]; exact blkB (below_regrown w1 p.d p.os) h
theorem bel_rg {w0 w1 : World} (h : Below w0.heap.size w0 w1) (d : Nat) (os : Array Obj) : Below w0.heap.size w0 (grow (redrawn w1 d) os) := bel_via h (below_regrown w1 d os)

theorem wp_genz {P : Program} {code : Code} {Q : Exit → Act → World → Prop} {a : Act} {W : World} (h : ∀ W', W' = W → Code.wp P code Q a W') : Code.wp P code Q a W := h W rfl
theorem num_c {a b : Int} (ha : a ≤ 9223372036854775807) (hb : b ≤ 9223372036854775807) (x y : Int) (hx : x = a) (hy : y = b) (W : World) : Calls Tryz.prog 132 #[.int .i64 x, .int .i64 y] W fun e w' => e = .returned (.agg #[.int .u64 (numR a b).fh, .int .u64 (numR a b).fl, .int .u64 (numR a b).th, .int .u64 (numR a b).tl]) ∧ Below W.heap.size W w' := by
  subst hx; subst hy; exact span_any ha hb W
theorem onl_c {a : Int} (ha : a ≤ 9223372036854775807) (x : Int) (hx : x = a) (W : World) : Calls Tryz.prog 131 #[.int .i64 x] W fun e w' => e = .returned (.agg #[.int .u64 (numR a a).fh, .int .u64 (numR a a).fl, .int .u64 (numR a a).th, .int .u64 (numR a a).tl]) ∧ Below W.heap.size W w' := by
  subst hx; exact only_any ha W

set_option maxHeartbeats 8000000 in
set_option maxRecDepth 100000 in
theorem znr_any (c : CF) (u : UR) {w : World} (hc : c.Ok w) (hf : c.Fine) (h1 : zoB c u.inz = true) (h2 : zoB c u.out = true) (S : Nat) :
    Calls Tryz.prog 91 #[.agg (cfc c), .agg (urc u).toArray] w (RsPost S w (znR (zIx c u.inz) (zIx c u.out))) := by
  obtain ⟨hx1, li, gi, hx2⟩ := zIx_iff hf h1
  obtain ⟨hx3, lj, gj, hx4⟩ := zIx_iff hf h2
  clear hx1 hx2 hx3 hx4
  have kz1 : ∀ W, Below w.heap.size w W → Calls Tryz.prog 135 #[.agg (cfc c), .string u.inz] W fun e w' => e = .returned (.int .i64 (zIx c u.inz)) ∧ Below W.heap.size W w' := fun W h => zno_any c u.inz (hc.z.keep h)
  have kz2 : ∀ W, Below w.heap.size w W → Calls Tryz.prog 135 #[.agg (cfc c), .string u.out] W fun e w' => e = .returned (.int .i64 (zIx c u.out)) ∧ Below W.heap.size W w' := fun W h => zno_any c u.out (hc.z.keep h)
  generalize zIx c u.inz = i at *
  generalize zIx c u.out = j at *
  obtain ⟨L, hLz⟩ : ∃ L, znR i j = L := ⟨_, rfl⟩
  rw [hLz]
  have HLz := Lib.hid hLz
  clear hLz
  have iC : Hid ((Tryz.prog.info? 30).map (·.size) = some (cfc c).size) := Lib.hid (by rw [show (cfc c).size = 8 from rfl]; kernel_rfl)
  generalize cfc c = C at *
  clear hc hf h1 h2
  obtain ⟨inz, out, src, dst, svc, act, lim, proxy⟩ := u
  simp only [urc] at *
  go_enter Tryz.func91, Tryz.ntmps91
  go_upto_region 1 with fail
  refine wp_genz fun W hW => ?_
  have b0 : Below w.heap.size w W := by rw [hW]; repeat (first | exact Below.refl _ _ | apply Below.dr | apply Below.al)
  have hB : W.heap[w.heap.size]? = some (.cells C 30 (0, 0)) := by rw [hW]; exact blk_al (heap_alloc_new w _) _
  have c0 : W.cell? ⟨w.heap.size + 1, 0, none⟩ = some (.string inz) := by rw [hW]; simp [go_sem]
  have c1 : W.cell? ⟨w.heap.size + 1, 1, none⟩ = some (.string out) := by rw [hW]; simp [go_sem]
  clear hW
  have g0 := cell_regrown c0
  have g1 := cell_regrown c1
  have q1 := fun d os => Calls.regrown_of (kz1 (grow (redrawn W d) os) (bel_rg b0 d os))
  have q2 := fun d os => Calls.regrown_of (kz2 (grow (redrawn W d) os) (bel_rg b0 d os))
  clear c0 c1 kz1 kz2
  refine wp_region_quiet_below (by kernel_rfl) (by kernel_rfl) ?_
  repeat (first | go_big_quiet_skip | (refine quiet_load_row (by rfl) 30 (.tmp 2) rfl w.heap.size rfl 30 C (0, 0) _ (rg_heap hB) Tryz.underlying30 rfl iC.out ?_; simp only [Act.put, List.setIfInBounds_toArray, List.set_cons_succ, List.set_cons_zero]) | quiet_step (first | (go_at_call_of 135 (Value.string inz); with_reducible exact q1 _ _) | (go_at_call_of 135 (Value.string out); with_reducible exact q2 _ _)))
  refine wpQuiet_nil ?_
  intro _ hw'
  obtain ⟨⟨dq, osq⟩, hw''⟩ := hw'
  subst hw''
  have b1 := bel_rg b0 dq osq
  clear q1 q2 g0 g1 hB b0
  generalize grow (redrawn W dq) osq = w1 at *
  have kp : ∀ (a b x y : Int) (W : World), x = a → y = b → -32 ≤ a ∧ a ≤ 1024 → -32 ≤ b ∧ b ≤ 1024 → Calls Tryz.prog 36 #[.int .i64 x, .int .i64 y] W fun e w' => e = .returned (.int .i64 (a * 16 + b)) ∧ w' = W := fun a b x y W hx hy ha hb => by subst hx; subst hy; exact zp_any ha hb W
  by_cases hi : i = -1
  · subst hi
    by_cases hj : j = -1
    · subst hj
      have HL1 : Hid (L = [numR 0 255]) := Lib.hid (by rw [← HLz.out]; simp [znR])
      have kn := fun W : World => num_c (a := 0) (b := 255) (by omega) (by omega) 0 255 rfl rfl W
      have k1 : ∀ W : World, Calls Tryz.prog 36 #[.int .i64 15, .int .i64 15] W fun e w' => e = .returned (.int .i64 255) ∧ w' = W := fun W => kp 15 15 15 15 W rfl rfl (by omega) (by omega)
      generalize numR 0 255 = r at *
      clear kp
      go_wp2_with (first
        | (go_at_call 36; go_loud (with_reducible refine (k1 _).mono ?_; rintro e w2 ⟨rfl, rfl⟩))
        | (go_at_call 132; go_loud (with_reducible refine (kn _).mono ?_; rintro e w3 ⟨rfl, b3⟩; have b3' := bel_via b1 b3; refine Hid.out ?_)))
      refine Lib.hid ?_
      rename_i hKK
      refine hKK _ _ ?_
      refine wpList_b1 rfl 45 60 (.tmp 25) _ (r4c r).toArray rfl rfl (run_b4 r) ?_
      go_wp2_with fail
      go_ret
      rw [HL1.out]
      exact ⟨_, _, _, rfl, sl_one4 (r := r) (t := 45) (heap_alloc_new w3 _), Below.al b3' _, fun _ b off sp h => by cases h; exact .inr b3'.size⟩
    · have hjb : (j == -1) = false := by simpa using hj
      have HL := HLz
      have HJ := Lib.hid hj
      clear hj
      go_wp2_with fail
      go_loopw [7, 30] (fun vl vk wr => ∃ k : Nat, k ≤ 16 ∧ vk = .int .i64 (k : Int) ∧ Hid (wr.ownsRow w1.heap.size 45 4 vl k (((List.range k).map fun k : Nat => numR ((k : Int) * 16 + j) ((k : Int) * 16 + j)).flatMap r4c)) ∧ Below w1.heap.size w1 wr) (fun _ vk _ => 16 - (intOf vk).toNat)
      case atStart => exact ⟨0, by omega, rfl, Lib.hid (own_nil (α := R4) (enc := r4c) _ _), Below.refl _ _⟩
      case round =>
        obtain ⟨k, hk, rfl, HO, br⟩ := hrel
        by_cases hlt : k < 16
        · have hlti : (k : Int) < 16 := by omega
          have k1 := fun W : World => kp k j k j W rfl rfl (by omega) (by omega)
          have k2 := fun W : World => onl_c (a := (k : Int) * 16 + j) (by omega) ((k : Int) * 16 + j) rfl W
          obtain ⟨r, hr⟩ : ∃ r, r = numR ((k : Int) * 16 + j) ((k : Int) * 16 + j) := ⟨_, rfl⟩
          rw [← hr] at k2
          have HR := Lib.hid hr
          clear hr
          have hsz := br.size
          go_wp2_with (first
            | (go_at_call 36; go_loud (with_reducible refine (k1 _).mono ?_; rintro e w2 ⟨rfl, rfl⟩))
            | (go_at_call 131; go_loud (with_reducible refine (k2 _).mono ?_; rintro e w3 ⟨rfl, b3⟩; have b3' := bel_via br b3; have ho3 := own_keep HO.out b3; have hs3 := b3'.size; refine Hid.out ?_)))
          refine Lib.hid ?_
          rename_i hKK
          refine hKK _ _ ?_
          refine wpList_b1 rfl 45 60 (.tmp 37) _ (r4c r).toArray rfl rfl (run_b4 r) ?_
          go_wp2_with (at_builtin; go_loud (refine app_row rng_ty rfl _ _ rfl w1.heap.size _ k _ rfl ho3 r rfl (by omega) (by omega) hs3 ?_))
          intro v' w' hown' hbel' hsz'
          have b4 := hbel' _ _ b3' (Nat.le_refl _)
          have HO4 : Hid (w'.ownsRow w1.heap.size 45 4 v' (k + 1) (((List.range (k + 1)).map fun k : Nat => numR ((k : Int) * 16 + j) ((k : Int) * 16 + j)).flatMap r4c)) := Lib.hid (by rw [List.range_succ, List.map_append, List.map_cons, List.map_nil, ← HR.out]; simpa using hown')
          clear hown' hbel' ho3 k1 k2
          go_wp2_with fail
          go_roundw
          case rel => exact ⟨k + 1, by omega, by go_num, HO4, b4⟩
          case measure => simp [intOf]; omega
        · obtain rfl : k = 16 := by omega
          go_wp2_with fail
          go_ret
          have hLe : L = (List.range 16).map fun k : Nat => numR ((k : Int) * 16 + j) ((k : Int) * 16 + j) := by
            rw [← HL.out]; unfold znR; rw [if_pos rfl, if_neg HJ.out]
          rw [hLe]
          exact rs_of_own HO.out (by simp) (bel_via b1 br) b1.size
  · have hib : (i == -1) = false := by simpa using hi
    by_cases hj : j = -1
    · subst hj
      have HL1 : Hid (L = [numR (i * 16) (i * 16 + 15)]) := Lib.hid (by rw [← HLz.out]; unfold znR; rw [if_neg hi, if_pos rfl])
      have HI := Lib.hid hi
      clear hi
      have k1 : ∀ W : World, Calls Tryz.prog 36 #[.int .i64 i, .int .i64 0] W fun e w' => e = .returned (.int .i64 (i * 16)) ∧ w' = W := fun W => by
        have := kp i 0 i 0 W rfl rfl (by omega) (by omega)
        rw [Int.add_zero] at this; exact this
      have k2 := fun W : World => kp i 15 i 15 W rfl rfl (by omega) (by omega)
      have kn := fun W : World => num_c (a := i * 16) (b := i * 16 + 15) (by omega) (by omega) (i * 16) (i * 16 + 15) rfl rfl W
      generalize numR (i * 16) (i * 16 + 15) = r at *
      clear kp
      go_wp2_with (first
        | (go_at_call_of 36 (Value.int IntKind.i64 0); go_loud (with_reducible refine (k1 _).mono ?_; rintro e w2 ⟨rfl, rfl⟩))
        | (go_at_call 36; go_loud (with_reducible refine (k2 _).mono ?_; rintro e w2 ⟨rfl, rfl⟩))
        | (go_at_call 132; go_loud (with_reducible refine (kn _).mono ?_; rintro e w3 ⟨rfl, b3⟩; have b3' := bel_via b1 b3; refine Hid.out ?_)))
      refine Lib.hid ?_
      rename_i hKK
      refine hKK _ _ ?_
      refine wpList_b1 rfl 45 60 (.tmp 49) _ (r4c r).toArray rfl rfl (run_b4 r) ?_
      go_wp2_with fail
      go_ret
      rw [HL1.out]
      exact ⟨_, _, _, rfl, sl_one4 (r := r) (t := 45) (heap_alloc_new w3 _), Below.al b3' _, fun _ b off sp h => by cases h; exact .inr b3'.size⟩
    · have hjb : (j == -1) = false := by simpa using hj
      have HL1 : Hid (L = [numR (i * 16 + j) (i * 16 + j)]) := Lib.hid (by rw [← HLz.out]; unfold znR; rw [if_neg hi, if_neg hj])
      have HI := Lib.hid hi
      have HJ := Lib.hid hj
      clear hi hj
      have k1 := fun W : World => kp i j i j W rfl rfl (by omega) (by omega)
      have kn := fun W : World => onl_c (a := i * 16 + j) (by omega) (i * 16 + j) rfl W
      generalize numR (i * 16 + j) (i * 16 + j) = r at *
      clear kp
      go_wp2_with (first
        | (go_at_call 36; go_loud (with_reducible refine (k1 _).mono ?_; rintro e w2 ⟨rfl, rfl⟩))
        | (go_at_call 131; go_loud (with_reducible refine (kn _).mono ?_; rintro e w3 ⟨rfl, b3⟩; have b3' := bel_via b1 b3; refine Hid.out ?_)))
      refine Lib.hid ?_
      rename_i hKK
      refine hKK _ _ ?_
      refine wpList_b1 rfl 45 60 (.tmp 54) _ (r4c r).toArray rfl rfl (run_b4 r) ?_
      go_wp2_with fail
      go_ret
      rw [HL1.out]
      exact ⟨_, _, _, rfl, sl_one4 (r := r) (t := 45) (heap_alloc_new w3 _), Below.al b3' _, fun _ b off sp h => by cases h; exact .inr b3'.size⟩
end Go.Proofs.YtmnnjkdmnfadhaaGreatDoor

namespace Go.Proofs.YtmnnjkdmnfadhaaGreatDoor
open Go.Shelf Go.RowKit Go.Lib Go.Sort
set_option linter.unusedVariables false
set_option linter.unusedSimpArgs false

theorem bxk0 {w : World} {B : Nat} {b : Nat → R4} {t : TypeId} (h : w.heap[B]? = some (.cells (bxc b) t (0, 0))) : w.cell? ⟨B, 0, none⟩ = some (.int .u64 (b 0).fh) ∧ w.cell? ⟨B, 1, none⟩ = some (.int .u64 (b 0).fl) ∧ w.cell? ⟨B, 2, none⟩ = some (.int .u64 (b 0).th) ∧ w.cell? ⟨B, 3, none⟩ = some (.int .u64 (b 0).tl) ∧ w.frozen? ⟨B, 0, none⟩ = false ∧ w.frozen? ⟨B, 1, none⟩ = false ∧ w.frozen? ⟨B, 2, none⟩ = false ∧ w.frozen? ⟨B, 3, none⟩ = false := by
  obtain ⟨a0, a1, a2, a3⟩ := BoxAt.of h 0 (by omega)
  have f := fun o => show w.frozen? ⟨B, o, none⟩ = false by simp [World.frozen?, h]
  exact ⟨a0, a1, a2, a3, f _, f _, f _, f _⟩
theorem bsk0 {w : World} {B : Nat} {b : Nat → R4} {t : TypeId} (h : w.heap[B]? = some (.cells (bxc b) t (0, 0))) (r : R4) : ((((w.setCell ⟨B, 0, none⟩ (.int .u64 r.fh)).setCell ⟨B, 1, none⟩ (.int .u64 r.fl)).setCell ⟨B, 2, none⟩ (.int .u64 r.th)).setCell ⟨B, 3, none⟩ (.int .u64 r.tl)).heap[B]? = some (.cells (bxc (upd b 0 r)) t (0, 0)) := bset4 h 0 (by omega) r
theorem bxk1 {w : World} {B : Nat} {b : Nat → R4} {t : TypeId} (h : w.heap[B]? = some (.cells (bxc b) t (0, 0))) : w.cell? ⟨B, 4, none⟩ = some (.int .u64 (b 1).fh) ∧ w.cell? ⟨B, 5, none⟩ = some (.int .u64 (b 1).fl) ∧ w.cell? ⟨B, 6, none⟩ = some (.int .u64 (b 1).th) ∧ w.cell? ⟨B, 7, none⟩ = some (.int .u64 (b 1).tl) ∧ w.frozen? ⟨B, 4, none⟩ = false ∧ w.frozen? ⟨B, 5, none⟩ = false ∧ w.frozen? ⟨B, 6, none⟩ = false ∧ w.frozen? ⟨B, 7, none⟩ = false := by
  obtain ⟨a0, a1, a2, a3⟩ := BoxAt.of h 1 (by omega)
  have f := fun o => show w.frozen? ⟨B, o, none⟩ = false by simp [World.frozen?, h]
  exact ⟨a0, a1, a2, a3, f _, f _, f _, f _⟩
theorem bsk1 {w : World} {B : Nat} {b : Nat → R4} {t : TypeId} (h : w.heap[B]? = some (.cells (bxc b) t (0, 0))) (r : R4) : ((((w.setCell ⟨B, 4, none⟩ (.int .u64 r.fh)).setCell ⟨B, 5, none⟩ (.int .u64 r.fl)).setCell ⟨B, 6, none⟩ (.int .u64 r.th)).setCell ⟨B, 7, none⟩ (.int .u64 r.tl)).heap[B]? = some (.cells (bxc (upd b 1 r)) t (0, 0)) := bset4 h 1 (by omega) r
theorem bxk2 {w : World} {B : Nat} {b : Nat → R4} {t : TypeId} (h : w.heap[B]? = some (.cells (bxc b) t (0, 0))) : w.cell? ⟨B, 8, none⟩ = some (.int .u64 (b 2).fh) ∧ w.cell? ⟨B, 9, none⟩ = some (.int .u64 (b 2).fl) ∧ w.cell? ⟨B, 10, none⟩ = some (.int .u64 (b 2).th) ∧ w.cell? ⟨B, 11, none⟩ = some (.int .u64 (b 2).tl) ∧ w.frozen? ⟨B, 8, none⟩ = false ∧ w.frozen? ⟨B, 9, none⟩ = false ∧ w.frozen? ⟨B, 10, none⟩ = false ∧ w.frozen? ⟨B, 11, none⟩ = false := by
  obtain ⟨a0, a1, a2, a3⟩ := BoxAt.of h 2 (by omega)
  have f := fun o => show w.frozen? ⟨B, o, none⟩ = false by simp [World.frozen?, h]
  exact ⟨a0, a1, a2, a3, f _, f _, f _, f _⟩
theorem bsk2 {w : World} {B : Nat} {b : Nat → R4} {t : TypeId} (h : w.heap[B]? = some (.cells (bxc b) t (0, 0))) (r : R4) : ((((w.setCell ⟨B, 8, none⟩ (.int .u64 r.fh)).setCell ⟨B, 9, none⟩ (.int .u64 r.fl)).setCell ⟨B, 10, none⟩ (.int .u64 r.th)).setCell ⟨B, 11, none⟩ (.int .u64 r.tl)).heap[B]? = some (.cells (bxc (upd b 2 r)) t (0, 0)) := bset4 h 2 (by omega) r
theorem bxk3 {w : World} {B : Nat} {b : Nat → R4} {t : TypeId} (h : w.heap[B]? = some (.cells (bxc b) t (0, 0))) : w.cell? ⟨B, 12, none⟩ = some (.int .u64 (b 3).fh) ∧ w.cell? ⟨B, 13, none⟩ = some (.int .u64 (b 3).fl) ∧ w.cell? ⟨B, 14, none⟩ = some (.int .u64 (b 3).th) ∧ w.cell? ⟨B, 15, none⟩ = some (.int .u64 (b 3).tl) ∧ w.frozen? ⟨B, 12, none⟩ = false ∧ w.frozen? ⟨B, 13, none⟩ = false ∧ w.frozen? ⟨B, 14, none⟩ = false ∧ w.frozen? ⟨B, 15, none⟩ = false := by
  obtain ⟨a0, a1, a2, a3⟩ := BoxAt.of h 3 (by omega)
  have f := fun o => show w.frozen? ⟨B, o, none⟩ = false by simp [World.frozen?, h]
  exact ⟨a0, a1, a2, a3, f _, f _, f _, f _⟩
theorem bsk3 {w : World} {B : Nat} {b : Nat → R4} {t : TypeId} (h : w.heap[B]? = some (.cells (bxc b) t (0, 0))) (r : R4) : ((((w.setCell ⟨B, 12, none⟩ (.int .u64 r.fh)).setCell ⟨B, 13, none⟩ (.int .u64 r.fl)).setCell ⟨B, 14, none⟩ (.int .u64 r.th)).setCell ⟨B, 15, none⟩ (.int .u64 r.tl)).heap[B]? = some (.cells (bxc (upd b 3 r)) t (0, 0)) := bset4 h 3 (by omega) r
theorem bxk4 {w : World} {B : Nat} {b : Nat → R4} {t : TypeId} (h : w.heap[B]? = some (.cells (bxc b) t (0, 0))) : w.cell? ⟨B, 16, none⟩ = some (.int .u64 (b 4).fh) ∧ w.cell? ⟨B, 17, none⟩ = some (.int .u64 (b 4).fl) ∧ w.cell? ⟨B, 18, none⟩ = some (.int .u64 (b 4).th) ∧ w.cell? ⟨B, 19, none⟩ = some (.int .u64 (b 4).tl) ∧ w.frozen? ⟨B, 16, none⟩ = false ∧ w.frozen? ⟨B, 17, none⟩ = false ∧ w.frozen? ⟨B, 18, none⟩ = false ∧ w.frozen? ⟨B, 19, none⟩ = false := by
  obtain ⟨a0, a1, a2, a3⟩ := BoxAt.of h 4 (by omega)
  have f := fun o => show w.frozen? ⟨B, o, none⟩ = false by simp [World.frozen?, h]
  exact ⟨a0, a1, a2, a3, f _, f _, f _, f _⟩
theorem bsk4 {w : World} {B : Nat} {b : Nat → R4} {t : TypeId} (h : w.heap[B]? = some (.cells (bxc b) t (0, 0))) (r : R4) : ((((w.setCell ⟨B, 16, none⟩ (.int .u64 r.fh)).setCell ⟨B, 17, none⟩ (.int .u64 r.fl)).setCell ⟨B, 18, none⟩ (.int .u64 r.th)).setCell ⟨B, 19, none⟩ (.int .u64 r.tl)).heap[B]? = some (.cells (bxc (upd b 4 r)) t (0, 0)) := bset4 h 4 (by omega) r
theorem bxk5 {w : World} {B : Nat} {b : Nat → R4} {t : TypeId} (h : w.heap[B]? = some (.cells (bxc b) t (0, 0))) : w.cell? ⟨B, 20, none⟩ = some (.int .u64 (b 5).fh) ∧ w.cell? ⟨B, 21, none⟩ = some (.int .u64 (b 5).fl) ∧ w.cell? ⟨B, 22, none⟩ = some (.int .u64 (b 5).th) ∧ w.cell? ⟨B, 23, none⟩ = some (.int .u64 (b 5).tl) ∧ w.frozen? ⟨B, 20, none⟩ = false ∧ w.frozen? ⟨B, 21, none⟩ = false ∧ w.frozen? ⟨B, 22, none⟩ = false ∧ w.frozen? ⟨B, 23, none⟩ = false := by
  obtain ⟨a0, a1, a2, a3⟩ := BoxAt.of h 5 (by omega)
  have f := fun o => show w.frozen? ⟨B, o, none⟩ = false by simp [World.frozen?, h]
  exact ⟨a0, a1, a2, a3, f _, f _, f _, f _⟩
theorem bsk5 {w : World} {B : Nat} {b : Nat → R4} {t : TypeId} (h : w.heap[B]? = some (.cells (bxc b) t (0, 0))) (r : R4) : ((((w.setCell ⟨B, 20, none⟩ (.int .u64 r.fh)).setCell ⟨B, 21, none⟩ (.int .u64 r.fl)).setCell ⟨B, 22, none⟩ (.int .u64 r.th)).setCell ⟨B, 23, none⟩ (.int .u64 r.tl)).heap[B]? = some (.cells (bxc (upd b 5 r)) t (0, 0)) := bset4 h 5 (by omega) r

theorem bset_bel {w0 w : World} {B : Nat} (h : Below w0.heap.size w0 w) (hB : w0.heap.size ≤ B) (i j k l : Nat) (a b c d : Value) : Below w0.heap.size w0 ((((w.setCell ⟨B, i, none⟩ a).setCell ⟨B, j, none⟩ b).setCell ⟨B, k, none⟩ c).setCell ⟨B, l, none⟩ d) :=
  below_set (below_set (below_set (below_set h hB i a) hB j b) hB k c) hB l d
theorem bset_oth {w : World} {B A : Nat} (h : A ≠ B) (i j k l : Nat) (a b c d : Value) : ((((w.setCell ⟨B, i, none⟩ a).setCell ⟨B, j, none⟩ b).setCell ⟨B, k, none⟩ c).setCell ⟨B, l, none⟩ d).heap[A]? = w.heap[A]? := by
  rw [set_other h, set_other h, set_other h, set_other h]
def svBx (o : Option SR) : Nat → R4 := bxOf full4 (svR o).1 (numR 0 65535) (svR o).2 full4 full4

theorem wp_gen {P : Program} {code : Code} {Q : Exit → Act → World → Prop} {a : Act} {W : World} (h : ∀ W', W' = W → Code.wp P code Q a W') : Code.wp P code Q a W := h W rfl
theorem blkC {w0 w1 : World} (hb : Below w0.heap.size w0 w1) {p : Addr} {v : Value} (h : w0.cell? p = some v) : w1.cell? p = some v := keepc hb h
theorem sz_box (b : Nat → R4) : (#[.int .u64 0, .int .u64 0, .int .u64 0, .int .u64 0, .int .u64 0, .int .u64 0, .int .u64 0, .int .u64 0, .int .u64 0, .int .u64 0, .int .u64 0, .int .u64 0, .int .u64 0, .int .u64 0, .int .u64 0, .int .u64 0, .int .u64 0, .int .u64 0, .int .u64 0, .int .u64 0, .int .u64 0, .int .u64 0, .int .u64 0, .int .u64 0] : Array Value).size = (bxc b).size := rfl
theorem sz_box2 (b : Nat → R4) : (#[.int .u64 0, .int .u64 0, .int .u64 0, .int .u64 0, .int .u64 0, .int .u64 0, .int .u64 0, .int .u64 0, .int .u64 0, .int .u64 0, .int .u64 0, .int .u64 0, .int .u64 0, .int .u64 0, .int .u64 0, .int .u64 0, .int .u64 0, .int .u64 0, .int .u64 0, .int .u64 0, .int .u64 0, .int .u64 0, .int .u64 0, .int .u64 0] : Array Value) = bxc (fun _ => zr4) := rfl

set_option maxHeartbeats 8000000 in
set_option maxRecDepth 100000 in
theorem svb_any (c : CF) (key : ByteArray) {w : World} (hc : c.Ok w) (hf : c.Fine) (hk : svB c key = true) :
    Calls Tryz.prog 89 #[.agg (cfc c), .string key] w fun e w' => e = .returned (.agg (bxc (svBx (svF c key)))) ∧ Below w.heap.size w w' := by
  obtain ⟨V, hV⟩ : ∃ V, bxc (svBx (svF c key)) = V := ⟨_, rfl⟩
  rw [hV]
  obtain ⟨C0, hC0⟩ : ∃ C, C = bxc (fun _ => full4) := ⟨_, rfl⟩
  have kf := fun W : World => full_any W
  rw [← hC0] at kf
  have i0 : Hid ((Tryz.prog.info? 48).map (·.size) = some C0.size) := Lib.hid (by rw [hC0]; exact inf29 _)
  have z0 : Hid ((#[.int .u64 0, .int .u64 0, .int .u64 0, .int .u64 0, .int .u64 0, .int .u64 0, .int .u64 0, .int .u64 0, .int .u64 0, .int .u64 0, .int .u64 0, .int .u64 0, .int .u64 0, .int .u64 0, .int .u64 0, .int .u64 0, .int .u64 0, .int .u64 0, .int .u64 0, .int .u64 0, .int .u64 0, .int .u64 0, .int .u64 0, .int .u64 0] : Array Value).size = C0.size) := Lib.hid (by rw [hC0]; rfl)
  have o0 : Hid (C0.all (·.oneCell') = true) := Lib.hid (by rw [hC0]; exact bx_one _)
  have iV : Hid ((Tryz.prog.info? 48).map (·.size) = some V.size) := Lib.hid (by rw [← hV]; exact inf29 _)
  have zV : Hid ((#[.int .u64 0, .int .u64 0, .int .u64 0, .int .u64 0, .int .u64 0, .int .u64 0, .int .u64 0, .int .u64 0, .int .u64 0, .int .u64 0, .int .u64 0, .int .u64 0, .int .u64 0, .int .u64 0, .int .u64 0, .int .u64 0, .int .u64 0, .int .u64 0, .int .u64 0, .int .u64 0, .int .u64 0, .int .u64 0, .int .u64 0, .int .u64 0] : Array Value).size = V.size) := Lib.hid (by rw [← hV]; rfl)
  have oV : Hid (V.all (·.oneCell') = true) := Lib.hid (by rw [← hV]; exact bx_one _)
  have HC0 := Lib.hid hC0
  clear hC0
  by_cases ha : isAny key = true
  · have hn : svF c key = none := (any_ix hf.sa ha).2
    rw [hn] at hV
    have HV := Lib.hid hV
    have hq : key.toList = [97, 110, 121] := isAny_iff.1 ha
    obtain ⟨pr, hpr⟩ : ∃ x : Int, x = 0 := ⟨_, rfl⟩
    obtain ⟨r1, hr1⟩ : ∃ r, r = numR 0 0 := ⟨_, rfl⟩
    obtain ⟨r2, hr2⟩ : ∃ r, r = numR 0 255 := ⟨_, rfl⟩
    obtain ⟨r3, hr3⟩ : ∃ r, r = numR 0 65535 := ⟨_, rfl⟩
    have k1 : ∀ W, Calls Tryz.prog 131 #[.int .i64 0] W fun e w' => e = .returned (.agg #[.int .u64 r1.fh, .int .u64 r1.fl, .int .u64 r1.th, .int .u64 r1.tl]) ∧ Below W.heap.size W w' := by rw [hr1]; exact fun W => only_any (by omega) W
    have k2 : ∀ W, Calls Tryz.prog 132 #[.int .i64 0, .int .i64 255] W fun e w' => e = .returned (.agg #[.int .u64 r2.fh, .int .u64 r2.fl, .int .u64 r2.th, .int .u64 r2.tl]) ∧ Below W.heap.size W w' := by rw [hr2]; exact fun W => span_any (by omega) (by omega) W
    have k3 : ∀ W, Calls Tryz.prog 132 #[.int .i64 0, .int .i64 65535] W fun e w' => e = .returned (.agg #[.int .u64 r3.fh, .int .u64 r3.fl, .int .u64 r3.th, .int .u64 r3.tl]) ∧ Below W.heap.size W w' := by rw [hr3]; exact fun W => span_any (by omega) (by omega) W
    have HR := Lib.hid (And.intro hr1 (And.intro hr2 hr3))
    clear hV hn ha hk hf hc hr1 hr2 hr3 hpr
    obtain ⟨zA, zn, zc, zs, oA, on, oc, os, sA, sn, sc, ss, lA, ln, lc, ls, tA, tn, tc, ts, nA, nn, nc, ns, uA, un, uc, us, df⟩ := c
    simp only [cfc]
    go_enter Tryz.func89, Tryz.ntmps89
    go_upto_region 4 with fail
    refine wp_gen fun W hW => ?_
    have b0 : Below w.heap.size w W := by rw [hW]; repeat (first | exact Below.refl _ _ | apply Below.dr | apply Below.al)
    have hR : W.heap[w.heap.size + 1 + 1]? = some (.cells #[.int .u64 0, .int .u64 0, .int .u64 0, .int .u64 0, .int .u64 0, .int .u64 0, .int .u64 0, .int .u64 0, .int .u64 0, .int .u64 0, .int .u64 0, .int .u64 0, .int .u64 0, .int .u64 0, .int .u64 0, .int .u64 0, .int .u64 0, .int .u64 0, .int .u64 0, .int .u64 0, .int .u64 0, .int .u64 0, .int .u64 0, .int .u64 0] 48 (0, 0)) := by rw [hW]; exact blk_al (al_new (by simp) _) _
    have hS : W.heap[w.heap.size + 1 + 1 + 1]? = some (.cells #[.string { data := #[] }, .int .i64 0, .int .i64 0, .int .i64 65535] 64 (0, 0)) := by rw [hW]; exact al_new (by simp) _
    clear hW
    obtain ⟨g0, g1, g2, g3, _, _, _, _⟩ := cells4 hS
    go_upto_region 5 with (first
      | (refine wpList_store_row rfl 48 (.tmp 6) (.tmp 18) rfl w2.heap.size C0 rfl rfl 48 #[.int .u64 0, .int .u64 0, .int .u64 0, .int .u64 0, .int .u64 0, .int .u64 0, .int .u64 0, .int .u64 0, .int .u64 0, .int .u64 0, .int .u64 0, .int .u64 0, .int .u64 0, .int .u64 0, .int .u64 0, .int .u64 0, .int .u64 0, .int .u64 0, .int .u64 0, .int .u64 0, .int .u64 0, .int .u64 0, .int .u64 0, .int .u64 0] (heap_alloc_new w2 _) i0.out z0.out o0.out ?_; rw [World.setRow_alloc_new])
      | (go_at_call 130; with_reducible refine (kf _).mono ?_; rintro e w2 ⟨rfl, b2⟩))
    have hB0 := heap_alloc_new w2 (.cells C0 48)
    have bb0 := Below.al b2 (.cells C0 48)
    have hNB := b2.size
    generalize w2.alloc (.cells C0 48) = v0 at *
    rw [HC0.out] at hB0
    generalize w2.heap.size = B6 at *
    clear b2
    have s1 := blkC bb0 g1
    have s2 := blkC bb0 g2
    have s3 := blkC bb0 g3
    go_upto_region 6 with (go_at_call 131; go_loud (with_reducible refine (k1 _).mono ?_; rintro e wq ⟨rfl, bq⟩; have hBq := blkB bq hB0; have bbq := bel_via bb0 bq; obtain ⟨x0, x1, x2, x3, z0, z1, z2, z3⟩ := bxk1 hBq))
    have hB1 := bsk1 hBq r1
    have bb1 := bset_bel bbq hNB 4 5 6 7 (.int .u64 r1.fh) (.int .u64 r1.fl) (.int .u64 r1.th) (.int .u64 r1.tl)
    clear x0 x1 x2 x3 z0 z1 z2 z3 bq hBq bbq hB0 bb0
    generalize (((wq.setCell ⟨B6, 4, none⟩ (.int .u64 r1.fh)).setCell ⟨B6, 5, none⟩ (.int .u64 r1.fl)).setCell ⟨B6, 6, none⟩ (.int .u64 r1.th)).setCell ⟨B6, 7, none⟩ (.int .u64 r1.tl) = v1 at *
    have s1 := blkC bb1 g1
    have s2 := blkC bb1 g2
    have s3 := blkC bb1 g3
    go_upto_region 8 with (go_at_call 132; go_loud (with_reducible refine (k2 _).mono ?_; rintro e wq ⟨rfl, bq⟩; have hBq := blkB bq hB1; have bbq := bel_via bb1 bq; obtain ⟨x0, x1, x2, x3, z0, z1, z2, z3⟩ := bxk1 hBq))
    have hB2 := bsk1 hBq r2
    have bb2 := bset_bel bbq hNB 4 5 6 7 (.int .u64 r2.fh) (.int .u64 r2.fl) (.int .u64 r2.th) (.int .u64 r2.tl)
    clear x0 x1 x2 x3 z0 z1 z2 z3 bq hBq bbq hB1 bb1
    generalize (((wq.setCell ⟨B6, 4, none⟩ (.int .u64 r2.fh)).setCell ⟨B6, 5, none⟩ (.int .u64 r2.fl)).setCell ⟨B6, 6, none⟩ (.int .u64 r2.th)).setCell ⟨B6, 7, none⟩ (.int .u64 r2.tl) = v2 at *
    have s1 := blkC bb2 g1
    have s2 := blkC bb2 g2
    have s3 := blkC bb2 g3
    go_upto_region 9 with (go_at_call 132; go_loud (with_reducible refine (k3 _).mono ?_; rintro e wq ⟨rfl, bq⟩; have hBq := blkB bq hB2; have bbq := bel_via bb2 bq; obtain ⟨x0, x1, x2, x3, z0, z1, z2, z3⟩ := bxk2 hBq))
    have hB3 := bsk2 hBq r3
    have bb3 := bset_bel bbq hNB 8 9 10 11 (.int .u64 r3.fh) (.int .u64 r3.fl) (.int .u64 r3.th) (.int .u64 r3.tl)
    clear x0 x1 x2 x3 z0 z1 z2 z3 bq hBq bbq hB2 bb2
    generalize (((wq.setCell ⟨B6, 8, none⟩ (.int .u64 r3.fh)).setCell ⟨B6, 9, none⟩ (.int .u64 r3.fl)).setCell ⟨B6, 10, none⟩ (.int .u64 r3.th)).setCell ⟨B6, 11, none⟩ (.int .u64 r3.tl) = v3 at *
    have s1 := blkC bb3 g1
    have s2 := blkC bb3 g2
    have s3 := blkC bb3 g3
    go_upto_region 10 with (go_at_call 132; go_loud (with_reducible refine (k3 _).mono ?_; rintro e wq ⟨rfl, bq⟩; have hBq := blkB bq hB3; have bbq := bel_via bb3 bq; obtain ⟨x0, x1, x2, x3, z0, z1, z2, z3⟩ := bxk3 hBq))
    have hB4 := bsk3 hBq r3
    have bb4 := bset_bel bbq hNB 12 13 14 15 (.int .u64 r3.fh) (.int .u64 r3.fl) (.int .u64 r3.th) (.int .u64 r3.tl)
    clear x0 x1 x2 x3 z0 z1 z2 z3 bq hBq bbq hB3 bb3
    generalize (((wq.setCell ⟨B6, 12, none⟩ (.int .u64 r3.fh)).setCell ⟨B6, 13, none⟩ (.int .u64 r3.fl)).setCell ⟨B6, 14, none⟩ (.int .u64 r3.th)).setCell ⟨B6, 15, none⟩ (.int .u64 r3.tl) = v4 at *
    have s1 := blkC bb4 g1
    have s2 := blkC bb4 g2
    have s3 := blkC bb4 g3
    have hF : v4.heap[B6]? = some (.cells V 48 (0, 0)) := by
      rw [hB4, ← HV.out]
      refine congrArg (fun z => some (Obj.cells z 48 (0, 0))) (bxc_congr fun i hi => ?_)
      obtain ⟨rfl, rfl, rfl⟩ := HR.out
      match i, hi with
      | 0, _ => rfl
      | 1, _ => rfl
      | 2, _ => rfl
      | 3, _ => rfl
      | 4, _ => rfl
      | 5, _ => rfl
    have hR2 := blkB bb4 hR
    clear s1 s2 s3
    go_wp2_with (first
      | (refine wpList_load_row rfl 48 (.tmp 6) rfl B6 rfl 48 V (0, 0) _ hF Tryz.underlying48 rfl iV.out ?_)
      | (refine wpList_store_row rfl 48 (.tmp 4) (.tmp 40) rfl (w.heap.size + 1 + 1) V rfl rfl 48 #[.int .u64 0, .int .u64 0, .int .u64 0, .int .u64 0, .int .u64 0, .int .u64 0, .int .u64 0, .int .u64 0, .int .u64 0, .int .u64 0, .int .u64 0, .int .u64 0, .int .u64 0, .int .u64 0, .int .u64 0, .int .u64 0, .int .u64 0, .int .u64 0, .int .u64 0, .int .u64 0, .int .u64 0, .int .u64 0, .int .u64 0, .int .u64 0] hR2 iV.out zV.out oV.out ?_))
    exact bodyPost_ret_by (results_cell_row Tryz.results89 _ _ (w.heap.size + 1 + 1) 48 V _ _ rfl (blk_setRow hR2 V) Tryz.underlying48 rfl iV.out) rfl ⟨rfl, Below.setRow (bel_via b0 bb4) (by omega) _⟩
  · have ha' : isAny key = false := by simpa using ha
    obtain ⟨k, x, hx, hpl, hfi, _⟩ := some_ix (l := c.ss) (nm := fun x : SR => x.nm) (key := key) hk ha'
    have hn : svF c key = some x := hfi
    rw [hn] at hV
    have HV := Lib.hid hV
    have hq : (key.toList == [97, 110, 121]) = false := by simpa [isAny] using ha'
    obtain ⟨p0, p1, f0, f1, t1⟩ := hf.sp x (List.mem_of_getElem? hx)
    have hkn : k < c.sn := by have := getE hx; have := hc.s.len; omega
    have hbig := hc.s.big
    obtain ⟨b, off, hA, hlt, hrow⟩ := hc.s.row (by omega)
    have r0 := hrow k x hx 0 _ rfl
    rw [Nat.add_zero] at r0
    have r1 := hrow k x hx 1 _ rfl
    have r2 := hrow k x hx 2 _ rfl
    have r3 := hrow k x hx 3 _ rfl
    have HO := Lib.hid hc.s
    have HPL := Lib.hid hpl
    clear hV hn ha ha' hk hf hc hrow hfi hpl hx
    obtain ⟨zA, zn, zc, zs, oA, on, oc, os, sA, sn, sc, ss, lA, ln, lc, ls, tA, tn, tc, ts, nA, nn, nc, ns, uA, un, uc, us, df⟩ := c
    simp only at *
    subst hA
    simp only [cfc]
    obtain ⟨nm, pr, fr, ti⟩ := x
    simp only at *
    go_enter Tryz.func89, Tryz.ntmps89
    go_upto_region 3 with fail
    refine wp_gen fun W hW => ?_
    have b0 : Below w.heap.size w W := by rw [hW]; repeat (first | exact Below.refl _ _ | apply Below.dr | apply Below.al)
    have hR : W.heap[w.heap.size + 1 + 1]? = some (.cells #[.int .u64 0, .int .u64 0, .int .u64 0, .int .u64 0, .int .u64 0, .int .u64 0, .int .u64 0, .int .u64 0, .int .u64 0, .int .u64 0, .int .u64 0, .int .u64 0, .int .u64 0, .int .u64 0, .int .u64 0, .int .u64 0, .int .u64 0, .int .u64 0, .int .u64 0, .int .u64 0, .int .u64 0, .int .u64 0, .int .u64 0, .int .u64 0] 48 (0, 0)) := by rw [hW]; exact blk_al (al_new (by simp) _) _
    have hS : W.heap[w.heap.size + 1 + 1 + 1]? = some (.cells #[.string { data := #[] }, .int .i64 0, .int .i64 0, .int .i64 65535] 64 (0, 0)) := by rw [hW]; exact al_new (by simp) _
    have hK : W.cell? ⟨w.heap.size + 1, 0, none⟩ = some (.string key) := by rw [hW]; simp [go_sem, World.cell?_alloc_past]
    have hC2 : W.cell? ⟨w.heap.size, 2, none⟩ = some (.slice (some ⟨b, off, none⟩) sn sc) := by rw [hW]; simp [go_sem, World.cell?_alloc_past]
    clear hW
    have e0 := keepc b0 r0
    have e1 := keepc b0 r1
    have e2 := keepc b0 r2
    have e3 := keepc b0 r3
    clear r0 r1 r2 r3
    have cc : ∀ U, Below W.heap.size W U → Calls Tryz.prog 122 #[.slice (some ⟨b, off, none⟩) sn sc, .func (.func 129) #[] #[.pointer (some ⟨w.heap.size + 1, 0, none⟩)]] U fun e w' => e = .returned (.int .i64 (k : Int)) ∧ Below U.heap.size U w' := by
      intro U hU
      have cc := idx_rows Tryz.li_srv Tryz.isAgg64 Tryz.sizeOf64 src (fun _ => rfl) (fun x => eqs x.nm key) 129 #[.pointer (some ⟨w.heap.size + 1, 0, none⟩)] eBy_srv (some ⟨b, off, none⟩) sn sc ss U
        (fun W' x hx hW' => by_srv key _ x (keepc hW' (keepc hU hK))) (HO.out.keep (bel_via b0 hU))
      rw [HPL.out] at cc
      exact cc
    go_cut [] from 10 to 18 (fun wx => wx.heap[w.heap.size + 1 + 1]? = some (.cells #[.int .u64 0, .int .u64 0, .int .u64 0, .int .u64 0, .int .u64 0, .int .u64 0, .int .u64 0, .int .u64 0, .int .u64 0, .int .u64 0, .int .u64 0, .int .u64 0, .int .u64 0, .int .u64 0, .int .u64 0, .int .u64 0, .int .u64 0, .int .u64 0, .int .u64 0, .int .u64 0, .int .u64 0, .int .u64 0, .int .u64 0, .int .u64 0] 48 (0, 0)) ∧ wx.heap[w.heap.size + 1 + 1 + 1]? = some (.cells #[.string nm, .int .i64 pr, .int .i64 fr, .int .i64 ti] 64 (0, 0)) ∧ Below w.heap.size w wx)
    case first =>
      have hne : w.heap.size + 1 + 1 ≠ w.heap.size + 1 + 1 + 1 := by omega
      go_region_with (go_at_call 122; go_loud (with_reducible refine (cc _ (Below.dr (Below.refl _ _))).mono ?_; rintro e wq ⟨rfl, bq⟩; have bq' := bel_via (Below.dr (Below.refl _ W)) bq; have q0 := keepc bq' e0; have q1 := keepc bq' e1; have q2 := keepc bq' e2; have q3 := keepc bq' e3; have hSq := blkB bq' hS; obtain ⟨y0, y1, y2, y3, z4, z5, z6, z7⟩ := cells4 hSq; have hRq := blkB bq' hR; have c2q := keepc bq' hC2))
      all_goals (go_wp2_with fail; go_meet; exact ⟨(bset_oth hne 0 1 2 3 _ _ _ _).trans hRq, heap_set4 hSq _ _ _ _, bset_bel (bel_via b0 bq') (by omega) 0 1 2 3 _ _ _ _⟩)
    case rest =>
    obtain ⟨hR, hS, b0⟩ := hcut
    obtain ⟨W, hWe⟩ : ∃ W, W = wc := ⟨_, rfl⟩
    subst hWe
    clear e0 e1 e2 e3 hK hC2 cc
    by_cases hp : pr = 0
    · subst hp
      obtain ⟨r1, hr1⟩ : ∃ r, r = numR 0 0 := ⟨_, rfl⟩
      obtain ⟨r2, hr2⟩ : ∃ r, r = numR 0 255 := ⟨_, rfl⟩
      obtain ⟨r3, hr3⟩ : ∃ r, r = numR 0 65535 := ⟨_, rfl⟩
      obtain ⟨r4, hr4⟩ : ∃ r, r = numR fr ti := ⟨_, rfl⟩
      have k1 : ∀ W, Calls Tryz.prog 131 #[.int .i64 0] W fun e w' => e = .returned (.agg #[.int .u64 r1.fh, .int .u64 r1.fl, .int .u64 r1.th, .int .u64 r1.tl]) ∧ Below W.heap.size W w' := by rw [hr1]; exact fun W => only_any (by omega) W
      have k2 : ∀ W, Calls Tryz.prog 132 #[.int .i64 0, .int .i64 255] W fun e w' => e = .returned (.agg #[.int .u64 r2.fh, .int .u64 r2.fl, .int .u64 r2.th, .int .u64 r2.tl]) ∧ Below W.heap.size W w' := by rw [hr2]; exact fun W => span_any (by omega) (by omega) W
      have k3 : ∀ W, Calls Tryz.prog 132 #[.int .i64 0, .int .i64 65535] W fun e w' => e = .returned (.agg #[.int .u64 r3.fh, .int .u64 r3.fl, .int .u64 r3.th, .int .u64 r3.tl]) ∧ Below W.heap.size W w' := by rw [hr3]; exact fun W => span_any (by omega) (by omega) W
      have k4 : ∀ W, Calls Tryz.prog 132 #[.int .i64 fr, .int .i64 ti] W fun e w' => e = .returned (.agg #[.int .u64 r4.fh, .int .u64 r4.fl, .int .u64 r4.th, .int .u64 r4.tl]) ∧ Below W.heap.size W w' := by rw [hr4]; exact fun W => span_any (by omega) (by omega) W
      have HR := Lib.hid (And.intro hr1 (And.intro hr2 (And.intro hr3 hr4)))
      clear hr1 hr2 hr3 hr4
      obtain ⟨g0, g1, g2, g3, _, _, _, _⟩ := cells4 hS
      go_upto_region 5 with (first
        | (refine wpList_store_row rfl 48 (.tmp 6) (.tmp 18) rfl w2.heap.size C0 rfl rfl 48 #[.int .u64 0, .int .u64 0, .int .u64 0, .int .u64 0, .int .u64 0, .int .u64 0, .int .u64 0, .int .u64 0, .int .u64 0, .int .u64 0, .int .u64 0, .int .u64 0, .int .u64 0, .int .u64 0, .int .u64 0, .int .u64 0, .int .u64 0, .int .u64 0, .int .u64 0, .int .u64 0, .int .u64 0, .int .u64 0, .int .u64 0, .int .u64 0] (heap_alloc_new w2 _) i0.out z0.out o0.out ?_; rw [World.setRow_alloc_new])
        | (go_at_call 130; with_reducible refine (kf _).mono ?_; rintro e w2 ⟨rfl, b2⟩))
      have hB0 := heap_alloc_new w2 (.cells C0 48)
      have bb0 := Below.al b2 (.cells C0 48)
      have hNB := b2.size
      generalize w2.alloc (.cells C0 48) = v0 at *
      rw [HC0.out] at hB0
      generalize w2.heap.size = B6 at *
      clear b2
      have s1 := blkC bb0 g1
      have s2 := blkC bb0 g2
      have s3 := blkC bb0 g3
      go_upto_region 6 with (go_at_call 131; go_loud (with_reducible refine (k1 _).mono ?_; rintro e wq ⟨rfl, bq⟩; have hBq := blkB bq hB0; have bbq := bel_via bb0 bq; obtain ⟨x0, x1, x2, x3, z0, z1, z2, z3⟩ := bxk1 hBq))
      have hB1 := bsk1 hBq r1
      have bb1 := bset_bel bbq hNB 4 5 6 7 (.int .u64 r1.fh) (.int .u64 r1.fl) (.int .u64 r1.th) (.int .u64 r1.tl)
      clear x0 x1 x2 x3 z0 z1 z2 z3 bq hBq bbq hB0 bb0
      generalize (((wq.setCell ⟨B6, 4, none⟩ (.int .u64 r1.fh)).setCell ⟨B6, 5, none⟩ (.int .u64 r1.fl)).setCell ⟨B6, 6, none⟩ (.int .u64 r1.th)).setCell ⟨B6, 7, none⟩ (.int .u64 r1.tl) = v1 at *
      have s1 := blkC bb1 g1
      have s2 := blkC bb1 g2
      have s3 := blkC bb1 g3
      go_upto_region 8 with (go_at_call 132; go_loud (with_reducible refine (k2 _).mono ?_; rintro e wq ⟨rfl, bq⟩; have hBq := blkB bq hB1; have bbq := bel_via bb1 bq; obtain ⟨x0, x1, x2, x3, z0, z1, z2, z3⟩ := bxk1 hBq))
      have hB2 := bsk1 hBq r2
      have bb2 := bset_bel bbq hNB 4 5 6 7 (.int .u64 r2.fh) (.int .u64 r2.fl) (.int .u64 r2.th) (.int .u64 r2.tl)
      clear x0 x1 x2 x3 z0 z1 z2 z3 bq hBq bbq hB1 bb1
      generalize (((wq.setCell ⟨B6, 4, none⟩ (.int .u64 r2.fh)).setCell ⟨B6, 5, none⟩ (.int .u64 r2.fl)).setCell ⟨B6, 6, none⟩ (.int .u64 r2.th)).setCell ⟨B6, 7, none⟩ (.int .u64 r2.tl) = v2 at *
      have s1 := blkC bb2 g1
      have s2 := blkC bb2 g2
      have s3 := blkC bb2 g3
      go_upto_region 9 with (go_at_call 132; go_loud (with_reducible refine (k3 _).mono ?_; rintro e wq ⟨rfl, bq⟩; have hBq := blkB bq hB2; have bbq := bel_via bb2 bq; obtain ⟨x0, x1, x2, x3, z0, z1, z2, z3⟩ := bxk2 hBq))
      have hB3 := bsk2 hBq r3
      have bb3 := bset_bel bbq hNB 8 9 10 11 (.int .u64 r3.fh) (.int .u64 r3.fl) (.int .u64 r3.th) (.int .u64 r3.tl)
      clear x0 x1 x2 x3 z0 z1 z2 z3 bq hBq bbq hB2 bb2
      generalize (((wq.setCell ⟨B6, 8, none⟩ (.int .u64 r3.fh)).setCell ⟨B6, 9, none⟩ (.int .u64 r3.fl)).setCell ⟨B6, 10, none⟩ (.int .u64 r3.th)).setCell ⟨B6, 11, none⟩ (.int .u64 r3.tl) = v3 at *
      have s1 := blkC bb3 g1
      have s2 := blkC bb3 g2
      have s3 := blkC bb3 g3
      go_upto_region 10 with (go_at_call 132; go_loud (with_reducible refine (k4 _).mono ?_; rintro e wq ⟨rfl, bq⟩; have hBq := blkB bq hB3; have bbq := bel_via bb3 bq; obtain ⟨x0, x1, x2, x3, z0, z1, z2, z3⟩ := bxk3 hBq))
      have hB4 := bsk3 hBq r4
      have bb4 := bset_bel bbq hNB 12 13 14 15 (.int .u64 r4.fh) (.int .u64 r4.fl) (.int .u64 r4.th) (.int .u64 r4.tl)
      clear x0 x1 x2 x3 z0 z1 z2 z3 bq hBq bbq hB3 bb3
      generalize (((wq.setCell ⟨B6, 12, none⟩ (.int .u64 r4.fh)).setCell ⟨B6, 13, none⟩ (.int .u64 r4.fl)).setCell ⟨B6, 14, none⟩ (.int .u64 r4.th)).setCell ⟨B6, 15, none⟩ (.int .u64 r4.tl) = v4 at *
      have s1 := blkC bb4 g1
      have s2 := blkC bb4 g2
      have s3 := blkC bb4 g3
      have hF : v4.heap[B6]? = some (.cells V 48 (0, 0)) := by
        rw [hB4, ← HV.out]
        refine congrArg (fun z => some (Obj.cells z 48 (0, 0))) (bxc_congr fun i hi => ?_)
        obtain ⟨rfl, rfl, rfl, rfl⟩ := HR.out
        match i, hi with
        | 0, _ => rfl
        | 1, _ => rfl
        | 2, _ => rfl
        | 3, _ => rfl
        | 4, _ => rfl
        | 5, _ => rfl
      have hR2 := blkB bb4 hR
      clear s1 s2 s3
      go_wp2_with (first
        | (refine wpList_load_row rfl 48 (.tmp 6) rfl B6 rfl 48 V (0, 0) _ hF Tryz.underlying48 rfl iV.out ?_)
        | (refine wpList_store_row rfl 48 (.tmp 4) (.tmp 40) rfl (w.heap.size + 1 + 1) V rfl rfl 48 #[.int .u64 0, .int .u64 0, .int .u64 0, .int .u64 0, .int .u64 0, .int .u64 0, .int .u64 0, .int .u64 0, .int .u64 0, .int .u64 0, .int .u64 0, .int .u64 0, .int .u64 0, .int .u64 0, .int .u64 0, .int .u64 0, .int .u64 0, .int .u64 0, .int .u64 0, .int .u64 0, .int .u64 0, .int .u64 0, .int .u64 0, .int .u64 0] hR2 iV.out zV.out oV.out ?_))
      exact bodyPost_ret_by (results_cell_row Tryz.results89 _ _ (w.heap.size + 1 + 1) 48 V _ _ rfl (blk_setRow hR2 V) Tryz.underlying48 rfl iV.out) rfl ⟨rfl, Below.setRow (bel_via b0 bb4) (by omega) _⟩
    · have hpb : (pr == 0) = false := by simpa using hp
      have HPN := Lib.hid hp
      clear hp
      obtain ⟨r1, hr1⟩ : ∃ r, r = numR pr pr := ⟨_, rfl⟩
      obtain ⟨r3, hr3⟩ : ∃ r, r = numR 0 65535 := ⟨_, rfl⟩
      obtain ⟨r4, hr4⟩ : ∃ r, r = numR fr ti := ⟨_, rfl⟩
      have k1 : ∀ W, Calls Tryz.prog 131 #[.int .i64 pr] W fun e w' => e = .returned (.agg #[.int .u64 r1.fh, .int .u64 r1.fl, .int .u64 r1.th, .int .u64 r1.tl]) ∧ Below W.heap.size W w' := by rw [hr1]; exact fun W => only_any (by omega) W
      have k3 : ∀ W, Calls Tryz.prog 132 #[.int .i64 0, .int .i64 65535] W fun e w' => e = .returned (.agg #[.int .u64 r3.fh, .int .u64 r3.fl, .int .u64 r3.th, .int .u64 r3.tl]) ∧ Below W.heap.size W w' := by rw [hr3]; exact fun W => span_any (by omega) (by omega) W
      have k4 : ∀ W, Calls Tryz.prog 132 #[.int .i64 fr, .int .i64 ti] W fun e w' => e = .returned (.agg #[.int .u64 r4.fh, .int .u64 r4.fl, .int .u64 r4.th, .int .u64 r4.tl]) ∧ Below W.heap.size W w' := by rw [hr4]; exact fun W => span_any (by omega) (by omega) W
      have HR := Lib.hid (And.intro hr1 (And.intro hr3 hr4))
      clear hr1 hr3 hr4
      obtain ⟨g0, g1, g2, g3, _, _, _, _⟩ := cells4 hS
      go_upto_region 5 with (first
        | (refine wpList_store_row rfl 48 (.tmp 6) (.tmp 18) rfl w2.heap.size C0 rfl rfl 48 #[.int .u64 0, .int .u64 0, .int .u64 0, .int .u64 0, .int .u64 0, .int .u64 0, .int .u64 0, .int .u64 0, .int .u64 0, .int .u64 0, .int .u64 0, .int .u64 0, .int .u64 0, .int .u64 0, .int .u64 0, .int .u64 0, .int .u64 0, .int .u64 0, .int .u64 0, .int .u64 0, .int .u64 0, .int .u64 0, .int .u64 0, .int .u64 0] (heap_alloc_new w2 _) i0.out z0.out o0.out ?_; rw [World.setRow_alloc_new])
        | (go_at_call 130; with_reducible refine (kf _).mono ?_; rintro e w2 ⟨rfl, b2⟩))
      have hB0 := heap_alloc_new w2 (.cells C0 48)
      have bb0 := Below.al b2 (.cells C0 48)
      have hNB := b2.size
      generalize w2.alloc (.cells C0 48) = v0 at *
      rw [HC0.out] at hB0
      generalize w2.heap.size = B6 at *
      clear b2
      have s1 := blkC bb0 g1
      have s2 := blkC bb0 g2
      have s3 := blkC bb0 g3
      go_upto_region 6 with (go_at_call 131; go_loud (with_reducible refine (k1 _).mono ?_; rintro e wq ⟨rfl, bq⟩; have hBq := blkB bq hB0; have bbq := bel_via bb0 bq; obtain ⟨x0, x1, x2, x3, z0, z1, z2, z3⟩ := bxk1 hBq))
      have hB1 := bsk1 hBq r1
      have bb1 := bset_bel bbq hNB 4 5 6 7 (.int .u64 r1.fh) (.int .u64 r1.fl) (.int .u64 r1.th) (.int .u64 r1.tl)
      clear x0 x1 x2 x3 z0 z1 z2 z3 bq hBq bbq hB0 bb0
      generalize (((wq.setCell ⟨B6, 4, none⟩ (.int .u64 r1.fh)).setCell ⟨B6, 5, none⟩ (.int .u64 r1.fl)).setCell ⟨B6, 6, none⟩ (.int .u64 r1.th)).setCell ⟨B6, 7, none⟩ (.int .u64 r1.tl) = v1 at *
      have s1 := blkC bb1 g1
      have s2 := blkC bb1 g2
      have s3 := blkC bb1 g3
      go_upto_region 9 with (go_at_call 132; go_loud (with_reducible refine (k3 _).mono ?_; rintro e wq ⟨rfl, bq⟩; have hBq := blkB bq hB1; have bbq := bel_via bb1 bq; obtain ⟨x0, x1, x2, x3, z0, z1, z2, z3⟩ := bxk2 hBq))
      have hB2 := bsk2 hBq r3
      have bb2 := bset_bel bbq hNB 8 9 10 11 (.int .u64 r3.fh) (.int .u64 r3.fl) (.int .u64 r3.th) (.int .u64 r3.tl)
      clear x0 x1 x2 x3 z0 z1 z2 z3 bq hBq bbq hB1 bb1
      generalize (((wq.setCell ⟨B6, 8, none⟩ (.int .u64 r3.fh)).setCell ⟨B6, 9, none⟩ (.int .u64 r3.fl)).setCell ⟨B6, 10, none⟩ (.int .u64 r3.th)).setCell ⟨B6, 11, none⟩ (.int .u64 r3.tl) = v2 at *
      have s1 := blkC bb2 g1
      have s2 := blkC bb2 g2
      have s3 := blkC bb2 g3
      go_upto_region 10 with (go_at_call 132; go_loud (with_reducible refine (k4 _).mono ?_; rintro e wq ⟨rfl, bq⟩; have hBq := blkB bq hB2; have bbq := bel_via bb2 bq; obtain ⟨x0, x1, x2, x3, z0, z1, z2, z3⟩ := bxk3 hBq))
      have hB3 := bsk3 hBq r4
      have bb3 := bset_bel bbq hNB 12 13 14 15 (.int .u64 r4.fh) (.int .u64 r4.fl) (.int .u64 r4.th) (.int .u64 r4.tl)
      clear x0 x1 x2 x3 z0 z1 z2 z3 bq hBq bbq hB2 bb2
      generalize (((wq.setCell ⟨B6, 12, none⟩ (.int .u64 r4.fh)).setCell ⟨B6, 13, none⟩ (.int .u64 r4.fl)).setCell ⟨B6, 14, none⟩ (.int .u64 r4.th)).setCell ⟨B6, 15, none⟩ (.int .u64 r4.tl) = v3 at *
      have s1 := blkC bb3 g1
      have s2 := blkC bb3 g2
      have s3 := blkC bb3 g3
      have hF : v3.heap[B6]? = some (.cells V 48 (0, 0)) := by
        rw [hB3, ← HV.out]
        refine congrArg (fun z => some (Obj.cells z 48 (0, 0))) (bxc_congr fun i hi => ?_)
        obtain ⟨rfl, rfl, rfl⟩ := HR.out
        match i, hi with
        | 0, _ => rfl
        | 1, _ => exact (if_neg HPN.out).symm
        | 2, _ => rfl
        | 3, _ => rfl
        | 4, _ => rfl
        | 5, _ => rfl
      have hR2 := blkB bb3 hR
      clear s1 s2 s3
      go_wp2_with (first
        | (refine wpList_load_row rfl 48 (.tmp 6) rfl B6 rfl 48 V (0, 0) _ hF Tryz.underlying48 rfl iV.out ?_)
        | (refine wpList_store_row rfl 48 (.tmp 4) (.tmp 40) rfl (w.heap.size + 1 + 1) V rfl rfl 48 #[.int .u64 0, .int .u64 0, .int .u64 0, .int .u64 0, .int .u64 0, .int .u64 0, .int .u64 0, .int .u64 0, .int .u64 0, .int .u64 0, .int .u64 0, .int .u64 0, .int .u64 0, .int .u64 0, .int .u64 0, .int .u64 0, .int .u64 0, .int .u64 0, .int .u64 0, .int .u64 0, .int .u64 0, .int .u64 0, .int .u64 0, .int .u64 0] hR2 iV.out zV.out oV.out ?_))
      exact bodyPost_ret_by (results_cell_row Tryz.results89 _ _ (w.heap.size + 1 + 1) 48 V _ _ rfl (blk_setRow hR2 V) Tryz.underlying48 rfl iV.out) rfl ⟨rfl, Below.setRow (bel_via b0 bb3) (by omega) _⟩
end Go.Proofs.YtmnnjkdmnfadhaaGreatDoor

namespace Go.Proofs.YtmnnjkdmnfadhaaGreatDoor
open Go.Shelf Go.RowKit Go.Lib Go.Sort
set_option linter.unusedVariables false
set_option linter.unusedSimpArgs false

def ebx (b : Nat → R4) : List Value := (bxc b).toList
def BxPost (w : World) (L : List (Nat → R4)) (e : Ending) (w' : World) : Prop := ∃ (A : Option Addr) (n cp : Nat), e = .returned (.slice A n cp) ∧ Sl w' 24 ebx A n L ∧ Below w.heap.size w w' ∧ (0 < n → ∀ (b off : Nat) (sp : Option Nat), A = some ⟨b, off, sp⟩ → w.heap.size ≤ b)
theorem bx_of_own {w w' : World} {base n : Nat} {v : Value} {l : List (Nat → R4)} (h : w'.ownsRow base 48 24 v n (l.flatMap ebx)) (hl : l.length = n) (hb : Below w.heap.size w w') (hw : w.heap.size ≤ base) : BxPost w l (.returned v) w' := by
  obtain ⟨A, cap, rfl, hS, hg⟩ := sl_of_own (enc := ebx) (fun _ => rfl) h hl
  exact ⟨A, n, cap, rfl, hS, hb, fun _ b off sp e => Nat.le_trans hw (hg b off sp e)⟩
theorem OffE.trans {E E2 : Nat → Prop} {M M2 : Nat} {a b c : World} (h : OffE E M a b) (k : OffE E2 M2 b c) (hM : M ≤ M2) (hE : ∀ q, q < M → ¬ E q → ¬ E2 q) : OffE E M a c :=
  ⟨k.os.trans h.os, k.tape.trans h.tape, k.output.trans h.output, Nat.le_trans hM k.size, fun q hq he => (k.block q (Nat.lt_of_lt_of_le hq hM) (hE q hq he)).trans (h.block q hq he)⟩
theorem OffE.toBelow {E : Nat → Prop} {N : Nat} {a b : World} (h : OffE E a.heap.size a b) (hN : N ≤ a.heap.size) (hE : ∀ q, E q → N ≤ q) : Below N a b :=
  ⟨h.os, h.tape, h.output, h.size, fun q hq => h.block q (by omega) (fun e => by have := hE q e; omega)⟩
theorem OffE.al {E : Nat → Prop} {M : Nat} {a w : World} (h : OffE E M a w) (o : Obj) : OffE E M a (w.alloc o) := h.below (Below.al (Below.refl _ _) _)
theorem ownok_of {k : Nat} {T : TypeId} {w : World} {base n : Nat} {v : Value} {xs : List Value} (h : w.ownsRow base T k v n xs) (E : Nat → Prop) : OwnOk E base v := fun q hq => .inr (h.lt q hq).1
theorem own_bset {k : Nat} {T : TypeId} {w : World} {base n B : Nat} {v : Value} {xs : List Value} (h : w.ownsRow base T k v n xs) (hB : B < base) (w' : World) (hk : ∀ q, q ≠ B → w'.heap[q]? = w.heap[q]?) : w'.ownsRow base T k v n xs := by
  obtain ⟨h1, h2⟩ := h
  refine ⟨h1, ?_⟩
  rcases h2 with h2 | ⟨g, cap, cur, e1, e2, e3, e4, e5, e6, e7⟩
  · exact .inl h2
  · exact .inr ⟨g, cap, cur, e1, e2, by rw [hk g (by omega)]; exact e3, e4, e5, e6, e7⟩
theorem exec_rowz {P : Program} {a : Act} {o : Oper} (ty : TypeId) (x : Operand) (ho : o.op = .load ty x)
    (g : Nat) (hx : a.eval x = .pointer (some ⟨g, 0, none⟩)) (t : TypeId) (cs : Array Value) (fr : Nat × Nat) (d : TypeDesc) {W : World} (hg : W.heap[g]? = some (.cells cs t fr))
    (hu : P.underlying ty = some d) (hd : (match d with | .struct _ | .array _ _ => true | _ => false) = true) (hi : (P.info? ty).map (·.size) = some cs.size) : (execOp a.eval o).run P W = .ok (.value (.agg cs)) W := by
  unfold execOp
  simp only [ho, hx, Instr.loadAt, Instr.sureAddr, Sem.run_bind, Sem.run_pure, Result.andThen_ok, run_loadVar_row W g t ty cs fr d hg hu hd hi]

theorem adR_len {c : CF} (hf : c.Fine) (nm : ByteArray) : (adR c nm).length ≤ 8 := by
  unfold adR
  split
  · simp
  · rename_i o ho
    exact hf.ors o (List.mem_of_find?_eq_some ho)
theorem znR_len (i j : Int) : (znR i j).length ≤ 16 := by
  unfold znR
  split
  · split <;> simp
  · split <;> simp

def G2 (p s d : R4) (l2 : List R4) (z a : R4) : List (Nat → R4) := l2.map fun b => bxOf z p s d a b
def G1 (p s d : R4) (l1 l2 : List R4) (z : R4) : List (Nat → R4) := l1.flatMap (G2 p s d l2 z)
def P1 (p s d : R4) (l3 l1 l2 : List R4) (k : Nat) : List (Nat → R4) := (l3.take k).flatMap (G1 p s d l1 l2)
def P2 (p s d : R4) (l3 l1 l2 : List R4) (k : Nat) (z : R4) (j : Nat) : List (Nat → R4) := P1 p s d l3 l1 l2 k ++ (l1.take j).flatMap (G2 p s d l2 z)
def P3 (p s d : R4) (l3 l1 l2 : List R4) (k : Nat) (z : R4) (j : Nat) (a : R4) (i : Nat) : List (Nat → R4) := P2 p s d l3 l1 l2 k z j ++ (l2.take i).map fun b => bxOf z p s d a b
def OwnB (w : World) (M : Nat) (v : Value) (n : Nat) (l : List (Nat → R4)) : Prop := w.ownsRow M 48 24 v n (l.flatMap ebx)
theorem P2_zero {p s d : R4} {l3 l1 l2 : List R4} {k : Nat} (z : R4) : P2 p s d l3 l1 l2 k z 0 = P1 p s d l3 l1 l2 k := by simp [P2]
theorem P3_zero {p s d : R4} {l3 l1 l2 : List R4} {k j : Nat} (z a : R4) : P3 p s d l3 l1 l2 k z j a 0 = P2 p s d l3 l1 l2 k z j := by simp [P3]
theorem P1_step {p s d : R4} {l3 l1 l2 : List R4} {k : Nat} {z : R4} (h : l3[k]? = some z) {j : Nat} (hj : l1.length ≤ j) : P2 p s d l3 l1 l2 k z j = P1 p s d l3 l1 l2 (k + 1) := by
  unfold P2 P1
  rw [take_snocL h, List.flatMap_append, List.take_of_length_le hj]
  simp [G1]
theorem P2_step {p s d : R4} {l3 l1 l2 : List R4} {k j : Nat} {z a : R4} (h : l1[j]? = some a) {i : Nat} (hi : l2.length ≤ i) : P3 p s d l3 l1 l2 k z j a i = P2 p s d l3 l1 l2 k z (j + 1) := by
  unfold P3 P2
  rw [take_snocL h, List.flatMap_append, List.take_of_length_le hi]
  simp [G2]
theorem P3_step {p s d : R4} {l3 l1 l2 : List R4} {k j i : Nat} {z a b : R4} (h : l2[i]? = some b) : P3 p s d l3 l1 l2 k z j a (i + 1) = P3 p s d l3 l1 l2 k z j a i ++ [bxOf z p s d a b] := by
  unfold P3
  rw [take_snocL h, List.map_append, List.map_cons, List.map_nil, List.append_assoc]
theorem P1_all {p s d : R4} {l3 l1 l2 : List R4} {k : Nat} (hk : l3.length ≤ k) : P1 p s d l3 l1 l2 k = l3.flatMap fun z => l1.flatMap fun a => l2.map fun b => bxOf z p s d a b := by
  unfold P1
  rw [List.take_of_length_le hk]
  rfl
theorem ownok_trans {E2 E3 : Nat → Prop} {M2 M4 : Nat} {v v2 : Value} {B : Nat} (hE : ∀ q, E3 q → q = B ∨ v.ownBlock = some q) (hB : E2 B) (hv : OwnOk E2 M2 v) (h : OwnOk E3 M4 v2) (hM : M2 ≤ M4) : OwnOk E2 M2 v2 := by
  intro q hq
  rcases h q hq with h | h
  · rcases hE q h with rfl | h
    · exact .inl hB
    · exact hv q h
  · exact .inr (Nat.le_trans hM h)
theorem ne_trans {E2 : Nat → Prop} {M2 B : Nat} {v : Value} (hB : E2 B) (hv : OwnOk E2 M2 v) : ∀ q, q < M2 → ¬ E2 q → ¬ (q = B ∨ v.ownBlock = some q) := by
  intro q hq hE h
  rcases h with rfl | h
  · exact hE hB
  · rcases hv q h with h | h
    · exact hE h
    · omega
theorem own_len {w : World} {M n : Nat} {v : Value} {l : List (Nat → R4)} (h : OwnB w M v n l) : l.length = n := by
  have h1 : (l.flatMap ebx).length = n * 24 := h.1
  have h2 : ∀ l : List (Nat → R4), (l.flatMap ebx).length = l.length * 24 := by
    intro l
    induction l with
    | nil => rfl
    | cons a r ih => rw [List.flatMap_cons, List.length_append, ih]; show 24 + r.length * 24 = (r.length + 1) * 24; omega
  rw [h2] at h1
  omega
theorem own_lt {w : World} {M n : Nat} {v : Value} {l : List (Nat → R4)} (h : OwnB w M v n l) : ∀ q, v.ownBlock = some q → q < w.heap.size := fun q hq => (World.ownsRow.lt h q hq).2

theorem OffE.dr {E : Nat → Prop} {M : Nat} {a w : World} (h : OffE E M a w) : OffE E M a w.drew := ⟨h.os, h.tape, h.output, h.size, h.block⟩
theorem own_off {w w' : World} {M n B : Nat} {v : Value} {l : List (Nat → R4)} (h : OwnB w M v n l) (hB : B < M) (ho : OffE (fun q => q = B) w.heap.size w w') : OwnB w' M v n l := by
  obtain ⟨h1, h2⟩ := h
  refine ⟨h1, ?_⟩
  rcases h2 with h2 | ⟨g, cap, cur, e1, e2, e3, e4, e5, e6, e7⟩
  · exact .inl h2
  · exact .inr ⟨g, cap, cur, e1, e2, by rw [ho.block g (Array.getElem?_eq_some_iff.1 e3).1 (by omega)]; exact e3, e4, e5, e6, e7⟩
theorem ebx_ty : RowTy ebx 24 192 48 75 := box_ty
theorem upd_mid {b : Nat → R4} {z a c p s d : R4} (h : b 1 = p ∧ b 2 = s ∧ b 3 = d) : (upd (upd (upd b 0 z) 4 a) 5 c 1 = p ∧ upd (upd (upd b 0 z) 4 a) 5 c 2 = s ∧ upd (upd (upd b 0 z) 4 a) 5 c 3 = d) ∧ ebx (upd (upd (upd b 0 z) 4 a) 5 c) = ebx (bxOf z p s d a c) := by
  refine ⟨⟨by simp [upd, h.1], by simp [upd, h.2.1], by simp [upd, h.2.2]⟩, ?_⟩
  unfold ebx
  refine congrArg Array.toList (bxc_congr fun i hi => ?_)
  match i, hi with
  | 0, _ => simp [upd, bxOf]
  | 1, _ => simp [upd, bxOf, h.1]
  | 2, _ => simp [upd, bxOf, h.2.1]
  | 3, _ => simp [upd, bxOf, h.2.2]
  | 4, _ => simp [upd, bxOf]
  | 5, _ => simp [upd, bxOf]

set_option maxHeartbeats 16000000 in
set_option maxRecDepth 100000 in
theorem boxes_any (c : CF) (u : UR) {w : World} (hc : c.Ok w) (hf : c.Fine) (hu : zoB c u.inz = true ∧ zoB c u.out = true ∧ obB c u.src = true ∧ obB c u.dst = true ∧ svB c u.svc = true) :
    Calls Tryz.prog 29 #[.agg (cfc c), .agg (urc u).toArray] w (BxPost w (boxesP c u)) := by
  obtain ⟨u1, u2, u3, u4, u5⟩ := hu
  have hOld := old_of hc
  have ksv : ∀ W, Below w.heap.size w W → Calls Tryz.prog 89 #[.agg (cfc c), .string u.svc] W fun e w' => e = .returned (.agg (bxc (svBx (svF c u.svc)))) ∧ Below W.heap.size W w' := fun W h => svb_any c u.svc (hc.keep h) hf u5
  have ka1 : ∀ W, Below w.heap.size w W → Calls Tryz.prog 90 #[.agg (cfc c), .string u.src] W (RsPost w.heap.size W (adR c u.src)) := fun W h => adr_any c u.src (hc.keep h) hf u3 hOld
  have ka2 : ∀ W, Below w.heap.size w W → Calls Tryz.prog 90 #[.agg (cfc c), .string u.dst] W (RsPost w.heap.size W (adR c u.dst)) := fun W h => adr_any c u.dst (hc.keep h) hf u4 hOld
  have kz : ∀ W, Below w.heap.size w W → Calls Tryz.prog 91 #[.agg (cfc c), .agg (urc u).toArray] W (RsPost w.heap.size W (znR (zIx c u.inz) (zIx c u.out))) := fun W h => znr_any c u (hc.keep h) hf u1 u2 _
  have l1 : (adR c u.src).length ≤ 8 := adR_len hf u.src
  have l2 : (adR c u.dst).length ≤ 8 := adR_len hf u.dst
  have l3 : (znR (zIx c u.inz) (zIx c u.out)).length ≤ 16 := znR_len _ _
  obtain ⟨R, hR⟩ : ∃ R, boxesP c u = R := ⟨_, rfl⟩
  rw [hR]
  unfold boxesP at hR
  obtain ⟨CB, hCB⟩ : ∃ C, bxc (svBx (svF c u.svc)) = C := ⟨_, rfl⟩
  have hmid : svBx (svF c u.svc) 1 = (svR (svF c u.svc)).1 ∧ svBx (svF c u.svc) 2 = numR 0 65535 ∧ svBx (svF c u.svc) 3 = (svR (svF c u.svc)).2 := ⟨rfl, rfl, rfl⟩
  rw [hCB] at ksv
  have HCB := Lib.hid hCB
  clear hCB
  have HMid := Lib.hid hmid
  clear hmid
  generalize svBx (svF c u.svc) = b0x at *
  generalize (svR (svF c u.svc)).1 = p at *
  generalize (svR (svF c u.svc)).2 = d at *
  generalize numR 0 65535 = s at *
  generalize adR c u.src = l1s at *
  generalize adR c u.dst = l2s at *
  generalize znR (zIx c u.inz) (zIx c u.out) = l3s at *
  have HR := Lib.hid hR
  clear hR
  have iC : Hid ((Tryz.prog.info? 30).map (·.size) = some (cfc c).size) := Lib.hid (by rw [show (cfc c).size = 8 from rfl]; kernel_rfl)
  have iB : Hid ((Tryz.prog.info? 48).map (·.size) = some CB.size) := Lib.hid (by rw [← HCB.out]; exact inf29 _)
  have zB : Hid ((#[.int .u64 0, .int .u64 0, .int .u64 0, .int .u64 0, .int .u64 0, .int .u64 0, .int .u64 0, .int .u64 0, .int .u64 0, .int .u64 0, .int .u64 0, .int .u64 0, .int .u64 0, .int .u64 0, .int .u64 0, .int .u64 0, .int .u64 0, .int .u64 0, .int .u64 0, .int .u64 0, .int .u64 0, .int .u64 0, .int .u64 0, .int .u64 0] : Array Value).size = CB.size) := Lib.hid (by rw [← HCB.out]; rfl)
  have oB : Hid (CB.all (·.oneCell') = true) := Lib.hid (by rw [← HCB.out]; exact bx_one _)
  generalize cfc c = C at *
  clear hc hf u1 u2 u3 u4 u5 hOld
  obtain ⟨inz, out, src, dst, svc, act, lim, proxy⟩ := u
  simp only at *
  obtain ⟨U, hU⟩ : ∃ U, (urc ⟨inz, out, src, dst, svc, act, lim, proxy⟩).toArray = U := ⟨_, rfl⟩
  have iU : Hid ((Tryz.prog.info? 70).map (·.size) = some U.size) := Lib.hid (by rw [← hU, show (urc ⟨inz, out, src, dst, svc, act, lim, proxy⟩).toArray.size = 8 from rfl]; kernel_rfl)
  rw [hU] at kz ⊢
  have HU := Lib.hid hU
  clear hU
  go_enter Tryz.func29, Tryz.ntmps29
  go_upto_region 2 with fail
  refine wp_genz fun W hW => ?_
  have b0 : Below w.heap.size w W := by rw [hW]; repeat (first | exact Below.refl _ _ | apply Below.dr | apply Below.al)
  have hB : W.heap[w.heap.size]? = some (.cells C 30 (0, 0)) := by rw [hW]; exact blk_al (heap_alloc_new w _) _
  have hUh : W.heap[w.heap.size + 1]? = some (.cells U 70 (0, 0)) := by rw [hW]; exact al_new (by simp) _
  clear hW
  have c2 : W.cell? ⟨w.heap.size + 1, 2, none⟩ = some (.string src) := by simp [World.cell?, hUh, ← HU.out, urc]
  have c3 : W.cell? ⟨w.heap.size + 1, 3, none⟩ = some (.string dst) := by simp [World.cell?, hUh, ← HU.out, urc]
  have c4 : W.cell? ⟨w.heap.size + 1, 4, none⟩ = some (.string svc) := by simp [World.cell?, hUh, ← HU.out, urc]
  go_upto_region 3 with (first
    | (refine wpList_store_row rfl 48 (.tmp 6) (.tmp 18) rfl w2.heap.size CB rfl rfl 48 #[.int .u64 0, .int .u64 0, .int .u64 0, .int .u64 0, .int .u64 0, .int .u64 0, .int .u64 0, .int .u64 0, .int .u64 0, .int .u64 0, .int .u64 0, .int .u64 0, .int .u64 0, .int .u64 0, .int .u64 0, .int .u64 0, .int .u64 0, .int .u64 0, .int .u64 0, .int .u64 0, .int .u64 0, .int .u64 0, .int .u64 0, .int .u64 0] (heap_alloc_new w2 _) iB.out zB.out oB.out ?_; rw [World.setRow_alloc_new])
    | (refine wpList_load_row rfl 30 (.tmp 2) rfl w.heap.size rfl 30 C (0, 0) _ hB Tryz.underlying30 rfl iC.out ?_)
    | (go_at_call 89; go_loud (with_reducible refine (ksv _ b0).mono ?_; rintro e w2 ⟨rfl, b2⟩)))
  have hX := heap_alloc_new w2 (.cells CB 48)
  have bx0 := bel_via b0 (Below.al b2 (.cells CB 48))
  have hBx := blkB (Below.al b2 (.cells CB 48)) hB
  have hUx := blkB (Below.al b2 (.cells CB 48)) hUh
  have d2 := keepc (Below.al b2 (.cells CB 48)) c2
  have d3 := keepc (Below.al b2 (.cells CB 48)) c3
  have hNB : w.heap.size ≤ w2.heap.size := Nat.le_trans b0.size b2.size
  have hltB : w2.heap.size < (w2.alloc (.cells CB 48)).heap.size := by simp
  generalize w2.alloc (.cells CB 48) = x0 at *
  generalize w2.heap.size = B6 at *
  clear b0 b2 hB hUh c2 c3 c4 ksv
  rw [← HCB.out] at hX
  try simp only [Act.put, List.setIfInBounds_toArray, List.set_cons_succ, List.set_cons_zero]
  go_cut [7, 8] from 19 to 27 (fun v7 v8 wx => ∃ (A1 : Option Addr) (n1 e1 : Nat) (A2 : Option Addr) (n2 e2 : Nat), v7 = .slice A1 n1 e1 ∧ v8 = .slice A2 n2 e2 ∧ Hid (Sl wx 4 r4c A1 n1 l1s) ∧ Hid (Sl wx 4 r4c A2 n2 l2s) ∧ Hid (0 < n1 → ∀ (b off : Nat) (sp : Option Nat), A1 = some ⟨b, off, sp⟩ → b ≠ B6) ∧ Hid (0 < n2 → ∀ (b off : Nat) (sp : Option Nat), A2 = some ⟨b, off, sp⟩ → b ≠ B6) ∧ Below x0.heap.size x0 wx)
  case first =>
    refine wp_region_held (S := fun w' : World => Below x0.heap.size x0 w') (by kernel_rfl) ?_
    change wpAnyH _ _ _ _ _ _ _ _ (World.drew _)
    have hS0 : Below x0.heap.size x0 x0.drew := Below.dr (Below.refl _ _)
    generalize x0.drew = wd at hS0 ⊢
    refine wpAnyH_take (i := 0) (oi := ⟨some 19, _, _, _, _, _⟩) (v := .agg C) rfl (by kernel_rfl) (by kernel_rfl) (by kernel_rfl) (fun _ _ _ h => h) (Or.inl ⟨by rfl, fun W hW => exec_rowz 30 (.tmp 2) rfl w.heap.size rfl 30 C (0, 0) _ (blkB hW hBx) Tryz.underlying30 rfl iC.out⟩) hS0 ?_
    refine wpAnyH_take (i := 4) (oi := ⟨some 23, _, _, _, _, _⟩) (v := .agg C) rfl (by kernel_rfl) (by kernel_rfl) (by kernel_rfl) (fun _ _ _ h => h) (Or.inl ⟨by rfl, fun W hW => exec_rowz 30 (.tmp 2) rfl w.heap.size rfl 30 C (0, 0) _ (blkB hW hBx) Tryz.underlying30 rfl iC.out⟩) hS0 ?_
    refine wpAnyH_take (i := 1) (oi := ⟨some 20, _, _, _, _, _⟩) (v := .pointer (some ⟨w.heap.size + 1, 2, none⟩)) rfl (by kernel_rfl) (by kernel_rfl) (by kernel_rfl) (fun _ _ _ h => h) (Or.inl ⟨by rfl, fun W hW => by go_simp⟩) hS0 ?_
    refine wpAnyH_take (i := 5) (oi := ⟨some 24, _, _, _, _, _⟩) (v := .pointer (some ⟨w.heap.size + 1, 3, none⟩)) rfl (by kernel_rfl) (by kernel_rfl) (by kernel_rfl) (fun _ _ _ h => h) (Or.inl ⟨by rfl, fun W hW => by go_simp⟩) hS0 ?_
    try simp only [Act.put, List.setIfInBounds_toArray, List.set_cons_succ, List.set_cons_zero]
    refine wpAnyH_take (i := 2) (oi := ⟨some 21, _, _, _, _, _⟩) (v := .string src) rfl (by kernel_rfl) (by kernel_rfl) (by kernel_rfl) (fun _ _ _ h => h) (Or.inl ⟨by rfl, fun W hW => by have k2 := keepc hW d2; go_simp⟩) hS0 ?_
    refine wpAnyH_take (i := 6) (oi := ⟨some 25, _, _, _, _, _⟩) (v := .string dst) rfl (by kernel_rfl) (by kernel_rfl) (by kernel_rfl) (fun _ _ _ h => h) (Or.inl ⟨by rfl, fun W hW => by have k3 := keepc hW d3; go_simp⟩) hS0 ?_
    try simp only [Act.put, List.setIfInBounds_toArray, List.set_cons_succ, List.set_cons_zero]
    refine wpAnyH_ready (rs := [3]) (by kernel_rfl) (by simp) ?_
    refine AllReadyH.cons (o := ⟨some 22, _, _, _, _, _⟩) rfl (fun K hK => ?_) AllReadyH.nil
    · go_simp
      go_at_call 90
      go_loud (with_reducible refine (ka1 _ (bel_via bx0 hS0)).mono ?_)
      rintro e w3 ⟨A1, n1, e1, rfl, S1, b3, p1⟩
      have hS1 := bel_via hS0 b3
      refine hK.out _ _ hS1 (fun _ => ?_)
      clear hK K
      try simp only [Act.put, List.setIfInBounds_toArray, List.set_cons_succ, List.set_cons_zero]
      refine wpAnyH_ready (rs := [7]) (by kernel_rfl) (by simp) ?_
      refine AllReadyH.cons (o := ⟨some 26, _, _, _, _, _⟩) rfl (fun K hK => ?_) AllReadyH.nil
      go_simp
      go_at_call 90
      go_loud (with_reducible refine (ka2 _ (bel_via bx0 hS1)).mono ?_)
      rintro e w4 ⟨A2, n2, e2, rfl, S2, b4, p2⟩
      have hS2 := bel_via hS1 b4
      refine hK.out _ _ hS2 (fun _ => ?_)
      clear hK K
      try simp only [Act.put, List.setIfInBounds_toArray, List.set_cons_succ, List.set_cons_zero]
      refine wpAnyH_take (i := 8) (oi := ⟨some 7, _, _, _, _, _⟩) (v := .slice A1 n1 e1) rfl (by kernel_rfl) (by kernel_rfl) (by kernel_rfl) (fun _ _ _ h => h) (Or.inl ⟨by rfl, fun W hW => by go_simp⟩) hS2 ?_
      refine wpAnyH_take (i := 9) (oi := ⟨some 8, _, _, _, _, _⟩) (v := .slice A2 n2 e2) rfl (by kernel_rfl) (by kernel_rfl) (by kernel_rfl) (fun _ _ _ h => h) (Or.inl ⟨by rfl, fun W hW => by go_simp⟩) hS2 ?_
      refine wpAnyH_done (by kernel_rfl) ?_ _
      go_wp2_with fail
      go_meet
      exact ⟨A1, n1, e1, A2, n2, e2, rfl, rfl, S1.keep b4, S2, fun h b off sp e => by have := p1 h b off sp e; have := hS0.size; omega, fun h b off sp e => by have := p2 h b off sp e; have := hS1.size; omega, hS2⟩
  case rest =>
  obtain ⟨A1, n1, e1, A2, n2, e2, rfl, rfl, HS1, HS2, HN1, HN2, bx1⟩ := hcut
  have hXc := blkB bx1 hX
  have hBc := blkB bx1 hBx
  have hUc := blkB bx1 hUx
  have bwc := bel_via bx0 bx1
  have hszc := bx1.size
  clear d2 d3 hBx hUx hX ka1 ka2 bx1
  go_wp2_with (first
    | (refine wpList_load_row rfl 30 (.tmp 2) rfl w.heap.size rfl 30 C (0, 0) _ hBc Tryz.underlying30 rfl iC.out ?_)
    | (refine wpList_load_row rfl 70 (.tmp 3) rfl (w.heap.size + 1) rfl 70 U (0, 0) _ hUc Tryz.underlying70 rfl iU.out ?_)
    | (go_at_call 91; go_loud ((with_reducible refine (kz _ bwc).mono ?_); rintro e w5 ⟨A3, n3, e3, rfl, S3, b5, p3⟩)))
  have hX5 := blkB b5 hXc
  have S1 := HS1.out.keep b5
  have S2 := HS2.out.keep b5
  have bw5 := bel_via bwc b5
  have hlt5 : B6 < w5.heap.size := by have := b5.size; omega
  have HN3 : Hid (0 < n3 → ∀ (b off : Nat) (sp : Option Nat), A3 = some ⟨b, off, sp⟩ → b ≠ B6) := Lib.hid (fun h b off sp e => by have := p3 h b off sp e; omega)
  have q1 := S1.len
  have q2 := S2.len
  have q3 := S3.len
  have hn1 : n1 ≤ 8 := by omega
  have hn2 : n2 ≤ 8 := by omega
  have hn3 : n3 ≤ 16 := by omega
  have HQ := Lib.hid (And.intro q1 (And.intro q2 q3))
  have HS1 := Lib.hid S1
  have HS2 := Lib.hid S2
  have HS3 := Lib.hid S3
  clear hBc hUc hXc bwc hszc p3 b5 S1 S2 S3 q1 q2 q3 kz l1 l2 l3 bx0
  try simp only [Act.put, List.setIfInBounds_toArray, List.set_cons_succ, List.set_cons_zero]
  go_loopw [5, 31] (fun v5 v31 wr => ∃ (k n : Nat) (bx : Nat → R4), k ≤ n3 ∧ v31 = .int .i64 (k : Int) ∧ OwnB wr w5.heap.size v5 n (P1 p s d l3s l1s l2s k) ∧ n ≤ k * 64 ∧ wr.heap[B6]? = some (.cells (bxc bx) 48 (0, 0)) ∧ Hid (bx 1 = p ∧ bx 2 = s ∧ bx 3 = d) ∧ OffE (fun q => q = B6) w5.heap.size w5 wr) (fun _ v31 _ => n3 - (intOf v31).toNat)
  case atStart => exact ⟨0, 0, b0x, by omega, rfl, by show World.ownsRow _ _ _ _ _ _ _; simp [P1]; exact own_nil (α := Nat → R4) (enc := ebx) _ _, by omega, hX5, HMid, OffE.refl _ _⟩
  case round =>
    clear hX5
    obtain ⟨k, n, bx, hk, rfl, HO, hn, hXr, HM, HOff⟩ := hrel
    by_cases hlt : k < n3
    · have hlti : (k : Int) < (n3 : Int) := by omega
      obtain ⟨bb, off, hA, hblt, hrow⟩ := (HS3.out.offE HOff (fun h b off sp e => HN3.out h b off sp e)).row (by omega)
      obtain ⟨z, hz⟩ : ∃ z, l3s[k]? = some z := ⟨_, List.getElem?_eq_getElem (by rw [HQ.out.2.2]; omega)⟩
      have r0 := hrow k z hz 0 _ rfl
      rw [Nat.add_zero] at r0
      have r1 := hrow k z hz 1 _ rfl
      have r2 := hrow k z hz 2 _ rfl
      have r3 := hrow k z hz 3 _ rfl
      subst hA
      have HZ := Lib.hid hz
      clear hrow hz
      go_upto_region 7 with fail
      have hzB := heap_alloc_new wr (.cells #[.int .u64 z.fh, .int .u64 z.fl, .int .u64 z.th, .int .u64 z.tl] 45)
      have bal := Below.al (Below.refl _ wr) (.cells #[.int .u64 z.fh, .int .u64 z.fl, .int .u64 z.th, .int .u64 z.tl] 45)
      have HO2 : OwnB (wr.alloc (.cells #[.int .u64 z.fh, .int .u64 z.fl, .int .u64 z.th, .int .u64 z.tl] 45)) w5.heap.size u5 n (P1 p s d l3s l1s l2s k) := own_keep HO bal
      have hX2 := blkB bal hXr
      have HOff2 := HOff.al (.cells #[.int .u64 z.fh, .int .u64 z.fl, .int .u64 z.th, .int .u64 z.tl] 45)
      have hownlt := own_lt HO
      have hownge := fun q hq => (World.ownsRow.lt HO q hq).1
      have hMz := HOff.size
      have hzl : wr.heap.size < (wr.alloc (.cells #[.int .u64 z.fh, .int .u64 z.fl, .int .u64 z.th, .int .u64 z.tl] 45)).heap.size := by simp
      clear HO hXr HOff r0 r1 r2 r3 bal
      generalize wr.alloc (.cells #[.int .u64 z.fh, .int .u64 z.fl, .int .u64 z.th, .int .u64 z.tl] 45) = y2 at *
      generalize hBz : wr.heap.size = Bz at *
      clear hBz
      have hzE : ¬ (Bz = B6 ∨ u5.ownBlock = some Bz) := fun h => by
        rcases h with h | h
        · omega
        · have := hownlt _ h; omega
      have HzE := Lib.hid hzE
      have HOwn := Lib.hid (And.intro hownlt hownge)
      have HOF2 := Lib.hid HOff2
      clear hzE hownlt hownge HOff2
      go_wp2_with fail
      obtain ⟨vA, hvA⟩ : ∃ vA, vA = u5 := ⟨_, rfl⟩
      subst hvA
      go_loopw [5, 37] (fun v5 v37 wr => ∃ (j m : Nat) (bx : Nat → R4), j ≤ n1 ∧ v37 = .int .i64 (j : Int) ∧ OwnB wr w5.heap.size v5 m (P2 p s d l3s l1s l2s k z j) ∧ m ≤ (k * 8 + j) * 8 ∧ wr.heap[B6]? = some (.cells (bxc bx) 48 (0, 0)) ∧ Hid (bx 1 = p ∧ bx 2 = s ∧ bx 3 = d) ∧ Hid (OffE (fun q => q = B6 ∨ vA.ownBlock = some q) y2.heap.size y2 wr ∧ OwnOk (fun q => q = B6 ∨ vA.ownBlock = some q) y2.heap.size v5)) (fun _ v37 _ => n1 - (intOf v37).toNat)
      case atStart => exact ⟨0, n, bx, by omega, rfl, by rw [P2_zero]; exact HO2, by omega, hX2, HM, Lib.hid ⟨OffE.refl _ _, fun q hq => .inl (.inr hq)⟩⟩
      case round =>
        clear HO2 hX2
        obtain ⟨j, m, bx2, hj, rfl, HO3, hm, hX3, HM3, HFK⟩ := hrel
        have HOFx : Hid (OffE (fun q => q = B6) w5.heap.size w5 wr) := Lib.hid (HOF2.out.trans HFK.out.1 HOF2.out.size (fun q hq he h => by
          rcases h with h | h
          · exact he h
          · have := HOwn.out.2 q h; omega))
        by_cases hlt2 : j < n1
        · have hlti2 : (j : Int) < (n1 : Int) := by omega
          obtain ⟨bb2, off2, hA2, hblt2, hrow2⟩ := (HS1.out.offE HOFx.out (fun h b off sp e => HN1.out h b off sp e)).row (by omega)
          obtain ⟨a, ha⟩ : ∃ a, l1s[j]? = some a := ⟨_, List.getElem?_eq_getElem (by rw [HQ.out.1]; omega)⟩
          have r0 := hrow2 j a ha 0 _ rfl
          rw [Nat.add_zero] at r0
          have r1 := hrow2 j a ha 1 _ rfl
          have r2 := hrow2 j a ha 2 _ rfl
          have r3 := hrow2 j a ha 3 _ rfl
          subst hA2
          have HA := Lib.hid ha
          clear hrow2 ha
          go_upto_region 10 with fail
          have haB := heap_alloc_new wr (.cells #[.int .u64 a.fh, .int .u64 a.fl, .int .u64 a.th, .int .u64 a.tl] 45)
          have bal := Below.al (Below.refl _ wr) (.cells #[.int .u64 a.fh, .int .u64 a.fl, .int .u64 a.th, .int .u64 a.tl] 45)
          have HO4 : OwnB (wr.alloc (.cells #[.int .u64 a.fh, .int .u64 a.fl, .int .u64 a.th, .int .u64 a.tl] 45)) w5.heap.size u5 m (P2 p s d l3s l1s l2s k z j) := own_keep HO3 bal
          have hX4 := blkB bal hX3
          have HF4 := HFK.out.1.al (.cells #[.int .u64 a.fh, .int .u64 a.fl, .int .u64 a.th, .int .u64 a.tl] 45)
          have HOFy := HOFx.out.al (.cells #[.int .u64 a.fh, .int .u64 a.fl, .int .u64 a.th, .int .u64 a.tl] 45)
          have hownlt := own_lt HO3
          have hownge := fun q hq => (World.ownsRow.lt HO3 q hq).1
          have hMa := HFK.out.1.size
          have hal : wr.heap.size < (wr.alloc (.cells #[.int .u64 a.fh, .int .u64 a.fl, .int .u64 a.th, .int .u64 a.tl] 45)).heap.size := by simp
          have hzB4 := (HF4.block Bz hzl HzE.out).trans hzB
          have HKB := Lib.hid HFK.out.2
          have hzE4 : ¬ (Bz = B6 ∨ u5.ownBlock = some Bz) := fun h => by
            rcases h with h | h
            · exact HzE.out (.inl h)
            · rcases HKB.out Bz h with h | h
              · exact HzE.out h
              · omega
          clear HO3 hX3 HFK HOFx r0 r1 r2 r3 bal
          generalize wr.alloc (.cells #[.int .u64 a.fh, .int .u64 a.fl, .int .u64 a.th, .int .u64 a.tl] 45) = y4 at *
          generalize hBa : wr.heap.size = Ba at *
          clear hBa
          have haE : ¬ (Ba = B6 ∨ u5.ownBlock = some Ba) := fun h => by
            rcases h with h | h
            · have := HOF2.out.size; omega
            · have := hownlt _ h; omega
          have HaE := Lib.hid haE
          have HzE4 := Lib.hid hzE4
          have HOwn4 := Lib.hid (And.intro hownlt hownge)
          have HF4 := Lib.hid HF4
          have HOFy := Lib.hid HOFy
          have hzl4 : Bz < y4.heap.size := by omega
          clear haE hzE4 hownlt hownge
          go_wp2_with fail
          obtain ⟨vB, hvB⟩ : ∃ vB, vB = u5 := ⟨_, rfl⟩
          subst hvB
          go_loopw [5, 43] (fun v5 v43 wr => ∃ (i r : Nat) (bx : Nat → R4), i ≤ n2 ∧ v43 = .int .i64 (i : Int) ∧ OwnB wr w5.heap.size v5 r (P3 p s d l3s l1s l2s k z j a i) ∧ r ≤ (k * 8 + j) * 8 + i ∧ wr.heap[B6]? = some (.cells (bxc bx) 48 (0, 0)) ∧ Hid (bx 1 = p ∧ bx 2 = s ∧ bx 3 = d) ∧ Hid (OffE (fun q => q = B6 ∨ vB.ownBlock = some q) y4.heap.size y4 wr ∧ OwnOk (fun q => q = B6 ∨ vB.ownBlock = some q) y4.heap.size v5)) (fun _ v43 _ => n2 - (intOf v43).toNat)
          case atStart => exact ⟨0, m, bx2, by omega, rfl, by rw [P3_zero]; exact HO4, by omega, hX4, HM3, Lib.hid ⟨OffE.refl _ _, fun q hq => .inl (.inr hq)⟩⟩
          case round =>
            clear HO4 hX4
            obtain ⟨i, r, bx3, hi, rfl, HO5, hr, hX5, HM5, HFL⟩ := hrel
            have HOFw : Hid (OffE (fun q => q = B6) w5.heap.size w5 wr) := Lib.hid (HOFy.out.trans HFL.out.1 HOFy.out.size (fun q hq he h => by
              rcases h with h | h
              · exact he h
              · have := HOwn4.out.2 q h; omega))
            by_cases hlt3 : i < n2
            · have hlti3 : (i : Int) < (n2 : Int) := by omega
              obtain ⟨bb3, off3, hA3, hblt3, hrow3⟩ := (HS2.out.offE HOFw.out (fun h b off sp e => HN2.out h b off sp e)).row (by omega)
              obtain ⟨b, hb⟩ : ∃ b, l2s[i]? = some b := ⟨_, List.getElem?_eq_getElem (by rw [HQ.out.2.1]; omega)⟩
              have r0 := hrow3 i b hb 0 _ rfl
              rw [Nat.add_zero] at r0
              have r1 := hrow3 i b hb 1 _ rfl
              have r2 := hrow3 i b hb 2 _ rfl
              have r3 := hrow3 i b hb 3 _ rfl
              subst hA3
              have HBb := Lib.hid hb
              clear hrow3 hb
              go_upto_region 13 with fail
              have hbB := heap_alloc_new wr (.cells #[.int .u64 b.fh, .int .u64 b.fl, .int .u64 b.th, .int .u64 b.tl] 45)
              have bal := Below.al (Below.refl _ wr) (.cells #[.int .u64 b.fh, .int .u64 b.fl, .int .u64 b.th, .int .u64 b.tl] 45)
              have HO6 : OwnB (wr.alloc (.cells #[.int .u64 b.fh, .int .u64 b.fl, .int .u64 b.th, .int .u64 b.tl] 45)) w5.heap.size u5 r (P3 p s d l3s l1s l2s k z j a i) := own_keep HO5 bal
              have hX6 := blkB bal hX5
              have HF6 := HFL.out.1.al (.cells #[.int .u64 b.fh, .int .u64 b.fl, .int .u64 b.th, .int .u64 b.tl] 45)
              have HK6 := HFL.out.2
              have hMb := HFL.out.1.size
              have hzB6 := (HF6.block Bz hzl4 HzE4.out).trans hzB4
              have haB6 := (HF6.block Ba hal HaE.out).trans haB
              have hbS := own_lt HO6
              have hbl : wr.heap.size < (wr.alloc (.cells #[.int .u64 b.fh, .int .u64 b.fl, .int .u64 b.th, .int .u64 b.tl] 45)).heap.size := by simp
              clear HO5 hX5 HFL HOFw r0 r1 r2 r3 bal
              generalize wr.alloc (.cells #[.int .u64 b.fh, .int .u64 b.fl, .int .u64 b.th, .int .u64 b.tl] 45) = y6 at *
              generalize hBb : wr.heap.size = Bb at *
              clear hBb
              have HF6 := Lib.hid HF6
              have HK6 := Lib.hid HK6
              have HO6 := Lib.hid HO6
              have m1 : B6 ≠ Bz := fun h => HzE.out (.inl h.symm)
              have m2 : B6 ≠ Ba := fun h => HaE.out (.inl h.symm)
              have m3 : B6 ≠ Bb := by have := HOFy.out.size; omega
              clear hbS
              obtain ⟨a0, a1, a2, a3, _, _, _, _⟩ := cells4 hzB6
              obtain ⟨a4, a5, a6, a7, _, _, _, _⟩ := cells4 haB6
              obtain ⟨a8, a9, a10, a11, _, _, _, _⟩ := cells4 hbB
              obtain ⟨c0, c1, c2, c3, f0, f1, f2, f3⟩ := bxk0 hX6
              obtain ⟨c4, c5, c6, c7, f4, f5, f6, f7⟩ := bxk4 hX6
              obtain ⟨c8, c9, c10, c11, f8, f9, f10, f11⟩ := bxk5 hX6
              have m4 := m1.symm
              have m5 := m2.symm
              have m6 := m3.symm
              go_cut [] from 47 to 56 (fun wx => ∃ bx' : Nat → R4, Hid (bx' = upd (upd (upd bx3 0 z) 4 a) 5 b) ∧ wx.heap[B6]? = some (.cells (bxc bx') 48 (0, 0)) ∧ Hid (OffE (fun q => q = B6) y6.heap.size y6 wx))
              case first =>
                refine wp_region_held (S := fun w' : World => OffE (fun q => q = B6) y6.heap.size y6 w') (by kernel_rfl) ?_
                change wpAnyH _ _ _ _ _ _ _ _ (World.drew _)
                have hS0 : OffE (fun q => q = B6) y6.heap.size y6 y6.drew := OffE.dr (OffE.refl _ _)
                have hV0 : y6.drew.heap[B6]? = some (.cells (bxc bx3) 48 (0, 0)) := hX6
                have iR : Hid ((Tryz.prog.info? 45).map (·.size) = some 4) := Lib.hid (by kernel_rfl)
                generalize y6.drew = wd0 at hS0 hV0 ⊢
                refine wpAnyH_take (i := 0) (oi := ⟨some 47, _, _, _, _, _⟩) (v := .agg #[.int .u64 z.fh, .int .u64 z.fl, .int .u64 z.th, .int .u64 z.tl]) rfl (by kernel_rfl) (by kernel_rfl) (by kernel_rfl) (fun _ _ _ h => h) (Or.inl ⟨by rfl, fun W hW => exec_rowz 45 (.tmp 10) rfl Bz rfl 45 #[.int .u64 z.fh, .int .u64 z.fl, .int .u64 z.th, .int .u64 z.tl] (0, 0) _ ((hW.block Bz (by omega) m4).trans hzB6) Tryz.underlying45 rfl iR.out⟩) hS0 ?_
                refine wpAnyH_take (i := 1) (oi := ⟨some 48, _, _, _, _, _⟩) (v := .agg #[.int .u64 a.fh, .int .u64 a.fl, .int .u64 a.th, .int .u64 a.tl]) rfl (by kernel_rfl) (by kernel_rfl) (by kernel_rfl) (fun _ _ _ h => h) (Or.inl ⟨by rfl, fun W hW => exec_rowz 45 (.tmp 12) rfl Ba rfl 45 #[.int .u64 a.fh, .int .u64 a.fl, .int .u64 a.th, .int .u64 a.tl] (0, 0) _ ((hW.block Ba (by omega) m5).trans haB6) Tryz.underlying45 rfl iR.out⟩) hS0 ?_
                refine wpAnyH_take (i := 2) (oi := ⟨some 49, _, _, _, _, _⟩) (v := .agg #[.int .u64 b.fh, .int .u64 b.fl, .int .u64 b.th, .int .u64 b.tl]) rfl (by kernel_rfl) (by kernel_rfl) (by kernel_rfl) (fun _ _ _ h => h) (Or.inl ⟨by rfl, fun W hW => exec_rowz 45 (.tmp 14) rfl Bb rfl 45 #[.int .u64 b.fh, .int .u64 b.fl, .int .u64 b.th, .int .u64 b.tl] (0, 0) _ ((hW.block Bb hbl m6).trans hbB) Tryz.underlying45 rfl iR.out⟩) hS0 ?_
                refine wpAnyH_take (i := 3) (oi := ⟨some 50, _, _, _, _, _⟩) (v := .pointer (some ⟨B6, 0, none⟩)) rfl (by kernel_rfl) (by kernel_rfl) (by kernel_rfl) (fun _ _ _ h => h) (Or.inl ⟨by rfl, fun W hW => by go_simp⟩) hS0 ?_
                refine wpAnyH_take (i := 6) (oi := ⟨some 52, _, _, _, _, _⟩) (v := .pointer (some ⟨B6, 0, none⟩)) rfl (by kernel_rfl) (by kernel_rfl) (by kernel_rfl) (fun _ _ _ h => h) (Or.inl ⟨by rfl, fun W hW => by go_simp⟩) hS0 ?_
                refine wpAnyH_take (i := 9) (oi := ⟨some 54, _, _, _, _, _⟩) (v := .pointer (some ⟨B6, 0, none⟩)) rfl (by kernel_rfl) (by kernel_rfl) (by kernel_rfl) (fun _ _ _ h => h) (Or.inl ⟨by rfl, fun W hW => by go_simp⟩) hS0 ?_
                try simp only [Act.put, List.setIfInBounds_toArray, List.set_cons_succ, List.set_cons_zero]
                refine wpAnyH_take (i := 4) (oi := ⟨some 51, _, _, _, _, _⟩) (v := .pointer (some ⟨B6, 0, none⟩)) rfl (by kernel_rfl) (by kernel_rfl) (by kernel_rfl) (fun _ _ _ h => h) (Or.inl ⟨by rfl, fun W hW => by go_simp⟩) hS0 ?_
                try simp only [Act.put, List.setIfInBounds_toArray, List.set_cons_succ, List.set_cons_zero]
                refine wpAnyH_ready (rs := [5]) (by kernel_rfl) (by simp) ?_
                refine AllReadyH.cons (o := ⟨none, _, _, _, _, _⟩) rfl (fun K hK => ?_) AllReadyH.nil
                obtain ⟨c0, c1, c2, c3, f0, f1, f2, f3⟩ := bxk0 hV0
                go_simp
                have hS1 : OffE (fun q => q = B6) y6.heap.size y6 ((((wd0.setCell ⟨B6, 0, none⟩ (.int .u64 z.fh)).setCell ⟨B6, 1, none⟩ (.int .u64 z.fl)).setCell ⟨B6, 2, none⟩ (.int .u64 z.th)).setCell ⟨B6, 3, none⟩ (.int .u64 z.tl)) := OffE.set (OffE.set (OffE.set (OffE.set hS0 rfl _ _) rfl _ _) rfl _ _) rfl _ _
                have hV1 := bsk0 hV0 z
                refine hK.out _ _ hS1 (fun _ => ?_)
                clear hK K c0 c1 c2 c3 f0 f1 f2 f3
                generalize (((wd0.setCell ⟨B6, 0, none⟩ (.int .u64 z.fh)).setCell ⟨B6, 1, none⟩ (.int .u64 z.fl)).setCell ⟨B6, 2, none⟩ (.int .u64 z.th)).setCell ⟨B6, 3, none⟩ (.int .u64 z.tl) = wd1 at hS1 hV1 ⊢
                try simp only [Act.put, List.setIfInBounds_toArray, List.set_cons_succ, List.set_cons_zero]
                refine wpAnyH_take (i := 7) (oi := ⟨some 53, _, _, _, _, _⟩) (v := .pointer (some ⟨B6, 16, none⟩)) rfl (by kernel_rfl) (by kernel_rfl) (by kernel_rfl) (fun _ _ _ h => h) (Or.inl ⟨by rfl, fun W hW => by go_simp⟩) hS1 ?_
                try simp only [Act.put, List.setIfInBounds_toArray, List.set_cons_succ, List.set_cons_zero]
                refine wpAnyH_ready (rs := [8]) (by kernel_rfl) (by simp) ?_
                refine AllReadyH.cons (o := ⟨none, _, _, _, _, _⟩) rfl (fun K hK => ?_) AllReadyH.nil
                obtain ⟨c0, c1, c2, c3, f0, f1, f2, f3⟩ := bxk4 hV1
                go_simp
                have hS2 : OffE (fun q => q = B6) y6.heap.size y6 ((((wd1.setCell ⟨B6, 16, none⟩ (.int .u64 a.fh)).setCell ⟨B6, 17, none⟩ (.int .u64 a.fl)).setCell ⟨B6, 18, none⟩ (.int .u64 a.th)).setCell ⟨B6, 19, none⟩ (.int .u64 a.tl)) := OffE.set (OffE.set (OffE.set (OffE.set hS1 rfl _ _) rfl _ _) rfl _ _) rfl _ _
                have hV2 := bsk4 hV1 a
                refine hK.out _ _ hS2 (fun _ => ?_)
                clear hK K c0 c1 c2 c3 f0 f1 f2 f3
                generalize (((wd1.setCell ⟨B6, 16, none⟩ (.int .u64 a.fh)).setCell ⟨B6, 17, none⟩ (.int .u64 a.fl)).setCell ⟨B6, 18, none⟩ (.int .u64 a.th)).setCell ⟨B6, 19, none⟩ (.int .u64 a.tl) = wd2 at hS2 hV2 ⊢
                try simp only [Act.put, List.setIfInBounds_toArray, List.set_cons_succ, List.set_cons_zero]
                refine wpAnyH_take (i := 10) (oi := ⟨some 55, _, _, _, _, _⟩) (v := .pointer (some ⟨B6, 20, none⟩)) rfl (by kernel_rfl) (by kernel_rfl) (by kernel_rfl) (fun _ _ _ h => h) (Or.inl ⟨by rfl, fun W hW => by go_simp⟩) hS2 ?_
                try simp only [Act.put, List.setIfInBounds_toArray, List.set_cons_succ, List.set_cons_zero]
                refine wpAnyH_ready (rs := [11]) (by kernel_rfl) (by simp) ?_
                refine AllReadyH.cons (o := ⟨none, _, _, _, _, _⟩) rfl (fun K hK => ?_) AllReadyH.nil
                obtain ⟨c0, c1, c2, c3, f0, f1, f2, f3⟩ := bxk5 hV2
                go_simp
                have hS3 : OffE (fun q => q = B6) y6.heap.size y6 ((((wd2.setCell ⟨B6, 20, none⟩ (.int .u64 b.fh)).setCell ⟨B6, 21, none⟩ (.int .u64 b.fl)).setCell ⟨B6, 22, none⟩ (.int .u64 b.th)).setCell ⟨B6, 23, none⟩ (.int .u64 b.tl)) := OffE.set (OffE.set (OffE.set (OffE.set hS2 rfl _ _) rfl _ _) rfl _ _) rfl _ _
                have hV3 := bsk5 hV2 b
                refine hK.out _ _ hS3 (fun _ => ?_)
                clear hK K c0 c1 c2 c3 f0 f1 f2 f3
                generalize (((wd2.setCell ⟨B6, 20, none⟩ (.int .u64 b.fh)).setCell ⟨B6, 21, none⟩ (.int .u64 b.fl)).setCell ⟨B6, 22, none⟩ (.int .u64 b.th)).setCell ⟨B6, 23, none⟩ (.int .u64 b.tl) = wd3 at hS3 hV3 ⊢
                refine wpAnyH_done (by kernel_rfl) ?_ _
                go_wp2_with fail
                go_meet
                exact ⟨_, Lib.hid rfl, hV3, hS3⟩
              case rest =>
              obtain ⟨bx', HB', hXw, How⟩ := hcut
              have HOw : OwnB wc w5.heap.size u5 r (P3 p s d l3s l1s l2s k z j a i) := own_off HO6.out hlt5 How.out
              have HFw := HF6.out.trans How.out HF6.out.size (fun q hq he h => he (.inl h))
              have hszw : w5.heap.size ≤ wc.heap.size := by have h1 := How.out.size; have h2 := HOFy.out.size; have h3 := HF6.out.size; omega
              obtain ⟨V, hV⟩ : ∃ V, bxc bx' = V := ⟨_, rfl⟩
              have hXv := hXw
              rw [hV] at hXv
              have iV : Hid ((Tryz.prog.info? 48).map (·.size) = some V.size) := Lib.hid (by rw [← hV]; exact inf29 _)
              have hrun : ∀ x : World, (Instr.buildSlice 75 1 #[(0, .agg V)]).run Tryz.prog x = .ok (.slice (some ⟨x.heap.size, 0, none⟩) 1 1) (x.alloc (.cells (ebx bx').toArray 48)) := by rw [← hV]; exact fun x => run_bb bx' x
              have HRun := Lib.hid hrun
              have HFw := Lib.hid HFw
              have HOwU : Hid (wc.ownsRow w5.heap.size 48 24 u5 r ((P3 p s d l3s l1s l2s k z j a i).flatMap ebx)) := Lib.hid HOw
              have HOw := Lib.hid HOw
              have hXw := Lib.hid hXw
              clear hV hrun a0 a1 a2 a3 a4 a5 a6 a7 a8 a9 a10 a11 c0 c1 c2 c3 c4 c5 c6 c7 c8 c9 c10 c11 f0 f1 f2 f3 f4 f5 f6 f7 f8 f9 f10 f11 m4 m5 m6 m1 m2 m3 hzB6 haB6 hbB hX6
              go_wp2_with (refine wpList_load_row rfl 48 (.tmp 6) rfl B6 rfl 48 V (0, 0) _ hXv Tryz.underlying48 rfl iV.out ?_; refine Hid.out ?_)
              refine Lib.hid ?_
              refine wpList_b1 rfl 48 75 (.tmp 57) _ (ebx bx').toArray rfl rfl HRun.out ?_
              go_wp2_with (at_builtin; go_loud (refine app_off ebx_ty rfl _ _ rfl w5.heap.size u5 r (P3 p s d l3s l1s l2s k z j a i) rfl HOwU.out bx' rfl (by omega) (by omega) hszw ?_))
              intro v' w' hown' hoff' hbel' hsz'
              have hk2 := hoff' _ _ _ HFw.out HK6.out
              have hMid := upd_mid (z := z) (a := a) (c := b) HM5.out
              have HO7 : OwnB w' w5.heap.size v' (r + 1) (P3 p s d l3s l1s l2s k z j a (i + 1)) := by
                unfold OwnB
                rw [P3_step HBb.out, List.flatMap_append, List.flatMap_cons, List.flatMap_nil, List.append_nil, ← hMid.2, ← HB'.out]
                simpa using hown'
              have hX7 := ((hoff' (fun q => u5.ownBlock = some q) wc.heap.size wc (OffE.refl _ _) (fun q hq => .inl hq)).1.block B6 (by omega) (fun h => by have := (World.ownsRow.lt HOw.out B6 h).1; omega)).trans hXw.out
              have HM7 : Hid (bx' 1 = p ∧ bx' 2 = s ∧ bx' 3 = d) := Lib.hid (by rw [HB'.out]; exact hMid.1)
              have hend := Lib.hid hk2
              clear hown' hoff' hbel' hXv hk2 hMid HB'
              go_wp2_with fail
              go_roundw
              case rel => exact ⟨i + 1, r + 1, bx', by omega, by go_num, HO7, by omega, hX7, HM7, hend⟩
              case measure => simp [intOf]; omega
            · obtain rfl : i = n2 := by omega
              have HP := P2_step (p := p) (s := s) (d := d) (l3 := l3s) (k := k) (z := z) HA.out (l2 := l2s) (i := i) (by rw [HQ.out.2.1]; omega)
              rw [HP] at HO5
              have hend : Hid (OffE (fun q => q = B6 ∨ vA.ownBlock = some q) y2.heap.size y2 wr ∧ OwnOk (fun q => q = B6 ∨ vA.ownBlock = some q) y2.heap.size u5) := Lib.hid ⟨HF4.out.trans HFL.out.1 HF4.out.size (ne_trans (.inl rfl) HKB.out), ownok_trans (fun q h => h) (.inl rfl) HKB.out HFL.out.2 HF4.out.size⟩
              clear HFL HOFw HP
              go_wp2_with fail
              go_roundw
              case rel => exact ⟨j + 1, r, bx3, by omega, by go_num, HO5, by omega, hX5, HM5, hend⟩
              case measure => simp [intOf]; omega
        · obtain rfl : j = n1 := by omega
          have HOFz := HOFx.out
          have HP := P1_step (p := p) (s := s) (d := d) (l1 := l1s) (l2 := l2s) HZ.out (j := j) (by rw [HQ.out.1]; omega)
          rw [HP] at HO3
          clear HOFx HP
          go_wp2_with fail
          go_roundw
          case rel => exact ⟨k + 1, m, bx2, by omega, by go_num, HO3, by omega, hX3, HM3, HOFz⟩
          case measure => simp [intOf]; omega
    · obtain rfl : k = n3 := by omega
      go_wp2_with fail
      go_ret
      have hfin : P1 p s d l3s l1s l2s k = R := by rw [P1_all (by rw [HQ.out.2.2]; omega)]; exact HR.out
      rw [← hfin]
      exact bx_of_own HO (own_len HO) (bw5.trans (HOff.toBelow bw5.size (fun q hq => by rw [hq]; exact hNB))) bw5.size
end Go.Proofs.YtmnnjkdmnfadhaaGreatDoor
