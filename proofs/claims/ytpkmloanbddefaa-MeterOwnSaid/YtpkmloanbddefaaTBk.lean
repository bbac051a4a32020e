/- The bucket: its block, what each of its calls does to it, the program's and the document's; by-name template (gen_tbk.py). -/
import Derived.Test.YtpkmloanbddefaaRows
import Derived.WalkKit
import Derived.WalkSpells
import Derived.Lib.Hide
import Derived.Below
import Derived.BigQuiet
import Derived.BigRegion
import Derived.StillTailTactics
import Derived.Outline
import Derived.Laws.Rows
import Derived.Laws.Tables
import Derived.Deep.RegionWith
import Derived.Deep.RegionHeld3
import Derived.Deep.DeepCutAuto
import Derived.Deep.QuietTactic
import Derived.Lib.QuietBelow
import Derived.LoopTactic
import Derived.RowKit3
import Derived.LaidEqlPtr
namespace Go.Proofs.Ytpkmloanbddefaa
open Go.RowKit Go.Lib
set_option linter.unusedVariables false
set_option linter.unusedSimpArgs false

/-- A bucket: rate, burst, tokens, the time it knows. -/
structure BK where
  r : Int
  b : Int
  n : Int
  k : Int

def bc (D : BK) : Array Value := #[.int .i64 D.r, .int .i64 D.b, .int .i64 D.n, .int .i64 D.k]
def BkAt (T : TypeId) (w : World) (B : Nat) (D : BK) : Prop := w.heap[B]? = some (.cells (bc D) T (0, 0))

def i64ok (n : Int) : Prop := -9223372036854775808 ≤ n ∧ n ≤ 9223372036854775807

/-- All blocks but B are as they were. -/
structure Off (B : Nat) (w w' : World) : Prop where
  os : w'.os = w.os
  tape : w'.tape = w.tape
  output : w'.output = w.output
  size : w.heap.size ≤ w'.heap.size
  block : ∀ k, k < w.heap.size → k ≠ B → w'.heap[k]? = w.heap[k]?

theorem Off.refl (B : Nat) (w : World) : Off B w w := ⟨rfl, rfl, rfl, Nat.le_refl _, fun _ _ _ => rfl⟩
theorem Off.trans {B : Nat} {a b c : World} (h : Off B a b) (k : Off B b c) : Off B a c :=
  ⟨k.os.trans h.os, k.tape.trans h.tape, k.output.trans h.output, Nat.le_trans h.size k.size, fun i hi hn => (k.block i (Nat.lt_of_lt_of_le hi h.size) hn).trans (h.block i hi hn)⟩
theorem Off.drew {B : Nat} {a w : World} (h : Off B a w) : Off B a w.drew := ⟨h.os, h.tape, h.output, h.size, h.block⟩
theorem Off.setCell {B : Nat} {a w : World} (h : Off B a w) {p : Addr} (hp : p.block = B) (u : Value) : Off B a (w.setCell p u) :=
  h.trans ⟨rfl, rfl, rfl, by simp [World.setCell], fun k _ hn => Below.heap_setCell _ _ _ _ (by omega)⟩
theorem Off.set {B : Nat} {a w : World} (h : Off B a w) (o : Nat) (u : Value) : Off B a (w.setCell ⟨B, o, none⟩ u) := h.setCell rfl u
theorem Off.toBelow {A B : Nat} {w w' : World} (h : Off B w w') (hA : A ≤ B) (hB : A ≤ w.heap.size) : Below A w w' :=
  ⟨h.os, h.tape, h.output, h.size, fun k hk => h.block k (by omega) (by omega)⟩

theorem BkAt.lt {T : TypeId} {w : World} {B : Nat} {D : BK} (h : BkAt T w B D) : B < w.heap.size := (Array.getElem?_eq_some_iff.1 h).1
theorem BkAt.free {T : TypeId} {w : World} {B : Nat} {D : BK} (h : BkAt T w B D) (o : Nat) : w.frozen? ⟨B, o, none⟩ = false := by
  unfold BkAt at h
  simp [World.frozen?, h]
theorem BkAt.cell {T : TypeId} {w : World} {B : Nat} {D : BK} (h : BkAt T w B D) (o : Nat) : w.cell? ⟨B, o, none⟩ = (bc D)[o]? := by
  unfold BkAt at h
  simp [World.cell?, h]
theorem BkAt.cr {T : TypeId} {w : World} {B : Nat} {D : BK} (h : BkAt T w B D) : w.cell? ⟨B, 0, none⟩ = some (.int .i64 D.r) := by rw [h.cell]; rfl
theorem BkAt.cb {T : TypeId} {w : World} {B : Nat} {D : BK} (h : BkAt T w B D) : w.cell? ⟨B, 1, none⟩ = some (.int .i64 D.b) := by rw [h.cell]; rfl
theorem BkAt.cn {T : TypeId} {w : World} {B : Nat} {D : BK} (h : BkAt T w B D) : w.cell? ⟨B, 2, none⟩ = some (.int .i64 D.n) := by rw [h.cell]; rfl
theorem BkAt.ck {T : TypeId} {w : World} {B : Nat} {D : BK} (h : BkAt T w B D) : w.cell? ⟨B, 3, none⟩ = some (.int .i64 D.k) := by rw [h.cell]; rfl
theorem heap_set {w : World} {B : Nat} {cs : Array Value} {t : TypeId} {fz : Nat × Nat} (h : w.heap[B]? = some (.cells cs t fz)) (o : Nat) (v : Value) :
    (w.setCell ⟨B, o, none⟩ v).heap[B]? = some (.cells (cs.setIfInBounds o v) t fz) := by
  simp [World.setCell, Array.getElem?_modify, h]
theorem BkAt.setn {T : TypeId} {w : World} {B : Nat} {D : BK} (h : BkAt T w B D) (m : Int) : BkAt T (w.setCell ⟨B, 2, none⟩ (.int .i64 m)) B { D with n := m } := heap_set h 2 _
theorem BkAt.setk {T : TypeId} {w : World} {B : Nat} {D : BK} (h : BkAt T w B D) (m : Int) : BkAt T (w.setCell ⟨B, 3, none⟩ (.int .i64 m)) B { D with k := m } := heap_set h 3 _
theorem BkAt.drew {T : TypeId} {w : World} {B : Nat} {D : BK} (h : BkAt T w B D) : BkAt T w.drew B D := h
theorem BkAt.drewN {T : TypeId} {w : World} {B : Nat} {D : BK} (h : BkAt T w B D) (m : Nat) : BkAt T (w.drewN m) B D := h
theorem BkAt.off {T : TypeId} {w w' : World} {A B : Nat} {D : BK} (h : BkAt T w B D) (hw : Off A w w') (hn : B ≠ A) : BkAt T w' B D := by
  unfold BkAt at h ⊢
  rw [hw.block B (Array.getElem?_eq_some_iff.1 h).1 hn]; exact h
theorem BkAt.below {T : TypeId} {w w' : World} {B N : Nat} {D : BK} (h : BkAt T w B D) (hw : Below N w w') (hn : B < N) : BkAt T w' B D := by
  unfold BkAt at h ⊢
  rw [hw.block B hn]; exact h

/-! ### What is told, in plain words -/
def learnP (D : BK) (t : Int) : BK := if t ≤ D.k then D else { D with n := min (D.n + D.r * (t - D.k)) D.b, k := t }
def takeB (D : BK) (t m : Int) : Bool := !(decide (m < 0) || decide ((learnP D t).n < m))
def takeD (D : BK) (t m : Int) : BK := if takeB D t m then { learnP D t with n := (learnP D t).n - m } else learnP D t
def newP (r b t : Int) : BK := ⟨min (max r 0) 1048576, min (max b 1) 1048576, min (max b 1) 1048576, t⟩

structure Good (D : BK) : Prop where
  r0 : 0 ≤ D.r
  r1 : D.r ≤ 1048576
  b0 : 1 ≤ D.b
  b1 : D.b ≤ 1048576
  n0 : 0 ≤ D.n
  n1 : D.n ≤ D.b
  k : i64ok D.k

theorem good_new (r b t : Int) (h : i64ok t) : Good (newP r b t) := ⟨by simp only [newP]; omega, by simp only [newP]; omega, by simp only [newP]; omega, by simp only [newP]; omega, by simp only [newP]; omega, by simp only [newP]; omega, h⟩

theorem come_ge {r d : Int} (h : 0 ≤ r) (hd : 0 ≤ d) : 0 ≤ r * d := Int.mul_nonneg h hd

theorem Good.learn {D : BK} (h : Good D) {t : Int} (ht : i64ok t) : Good (learnP D t) := by
  unfold learnP
  split
  · exact h
  · have := come_ge h.r0 (d := t - D.k) (by omega)
    have n0 := h.n0
    have b0 := h.b0
    exact ⟨h.r0, h.r1, h.b0, h.b1, by simp only; omega, by simp only; omega, ht⟩
theorem Good.take {D : BK} (h : Good D) {t : Int} (ht : i64ok t) (m : Int) : Good (takeD D t m) := by
  have g := h.learn ht
  unfold takeD
  split
  · rename_i hb
    simp only [takeB, Bool.not_eq_true', Bool.or_eq_false_iff, decide_eq_false_iff_not] at hb
    have n0 := g.n0
    have n1 := g.n1
    exact ⟨g.r0, g.r1, g.b0, g.b1, by simp only; omega, by simp only; omega, g.k⟩
  · exact g
theorem learn_r (D : BK) (t : Int) : (learnP D t).r = D.r := by unfold learnP; split <;> rfl
theorem learn_b (D : BK) (t : Int) : (learnP D t).b = D.b := by unfold learnP; split <;> rfl
theorem learn_k (D : BK) (t : Int) : (learnP D t).k = max D.k t := by unfold learnP; split <;> (try simp only) <;> omega
theorem learn_old {D : BK} {t : Int} (h : t ≤ D.k) : learnP D t = D := by unfold learnP; rw [if_pos h]
theorem learn_again (D : BK) (t : Int) : learnP (learnP D t) t = learnP D t := learn_old (by rw [learn_k]; omega)

/-- What comes: more ticks than fill any bucket are not counted. -/
theorem come_cut {D : BK} (g : Good D) {d : Int} (hd : 0 < d) {M : Int} (hM : 1048576 ≤ M) : min (D.n + D.r * min d M) D.b = min (D.n + D.r * d) D.b := by
  by_cases h : d ≤ M
  · rw [Int.min_eq_left (a := d) (b := M) h]
  · rw [Int.min_eq_right (a := d) (b := M) (by omega)]
    by_cases h0 : D.r = 0
    · rw [h0]; simp
    · have r0 := g.r0
      have b1 := g.b1
      have n0 := g.n0
      have e1 : 1 * M ≤ D.r * M := Int.mul_le_mul_of_nonneg_right (by omega) (by omega)
      have e2 : D.r * M ≤ D.r * d := Int.mul_le_mul_of_nonneg_left (by omega) r0
      omega
theorem come_le {D : BK} (g : Good D) {d M : Int} (hd : 0 ≤ d) (hM : d ≤ M) : D.r * d ≤ 1048576 * M := by
  have e1 : D.r * d ≤ 1048576 * d := Int.mul_le_mul_of_nonneg_right g.r1 hd
  have e2 : 1048576 * d ≤ 1048576 * M := Int.mul_le_mul_of_nonneg_left hM (by omega)
  omega

theorem BkAt.fin {T : TypeId} {w : World} {B : Nat} {r b n k z : Int} (h : BkAt T w B ⟨r, b, n, k⟩) (t : Int) {v : Int} (e : v = z) : BkAt T ((w.setCell ⟨B, 2, none⟩ (.int .i64 v)).setCell ⟨B, 3, none⟩ (.int .i64 t)) B ⟨r, b, z, t⟩ := by
  subst e
  exact (h.setn v).setk t

theorem off_two (B : Nat) (w : World) (u v : Value) : Off B w ((w.setCell ⟨B, 2, none⟩ u).setCell ⟨B, 3, none⟩ v).drew := (((Off.refl B w).set 2 u).set 3 v).drew

theorem learn_fin {T : TypeId} {w : World} {B : Nat} {r b n k t z v : Int} (e : learnP ⟨r, b, n, k⟩ t = ⟨r, b, z, t⟩) (h : BkAt T w B ⟨r, b, n, k⟩) (hv : v = z) : BkAt T ((w.setCell ⟨B, 2, none⟩ (.int .i64 v)).setCell ⟨B, 3, none⟩ (.int .i64 t)).drew B (learnP ⟨r, b, n, k⟩ t) ∧ Off B w ((w.setCell ⟨B, 2, none⟩ (.int .i64 v)).setCell ⟨B, 3, none⟩ (.int .i64 t)).drew := by
  rw [e]
  exact ⟨(h.fin t hv).drew, off_two _ _ _ _⟩

theorem ret_bool {a b : Bool} (h : a = b) : Ending.returned (.bool a) = .returned (.bool b) := by rw [h]
theorem ret_int {a b : Int} (h : a = b) : Ending.returned (.int .i64 a) = .returned (.int .i64 b) := by rw [h]
theorem u64_self {x : Int} (h0 : 0 ≤ x) (h1 : x < 18446744073709551616) : IntKind.u64.wrap x = x := by rw [IntKind.wrap_u64]; omega
theorem i64_self {x : Int} (h : i64ok x) : IntKind.i64.wrap x = x := by unfold i64ok at h; rw [IntKind.wrap_i64]; omega
theorem u64_sub {t k : Int} (ht : i64ok t) (hk : i64ok k) (h : k < t) : IntKind.u64.wrap (IntKind.u64.wrap t - IntKind.u64.wrap k) = t - k := by
  unfold i64ok at ht hk
  simp only [IntKind.wrap_u64]; omega

theorem learn_any {w : World} {B : Nat} {D : BK} (h : BkAt 67 w B D) (g : Good D) {t : Int} (ht : i64ok t) :
    Calls Try.prog 29 #[.pointer (some ⟨B, 0, none⟩), .int .i64 t] w fun e w' => e = .returned (.tuple #[]) ∧ BkAt 67 w' B (learnP D t) ∧ Off B w w' := by
  have h1 := h.cr
  have h2 := h.cb
  have h3 := h.cn
  have h4 := h.ck
  have f1 := h.free 2
  have f2 := h.free 3
  by_cases hk : t ≤ D.k
  · have e := learn_old hk
    have HE := Lib.hid e
    clear e
    generalize D.k = k at *
    go_enter Try.func29, Try.ntmps29
    go_wp2
    refine bodyPost_ret (results_none rfl _ _ _) rfl ?_
    exact ⟨rfl, by rw [HE.out]; exact h, Off.refl _ _⟩
  · have hn0 := g.n0
    have hn1 := g.n1
    have hb0 := g.b0
    have hb1 := g.b1
    have hr0 := g.r0
    have hr1 := g.r1
    have hkk := g.k
    have e : learnP D t = { D with n := min (D.n + D.r * min (t - D.k) 1048576) D.b, k := t } := by
      rw [come_cut g (by omega) (by omega)]; unfold learnP; rw [if_neg hk]
    have hs := u64_sub ht hkk (by omega)
    have hd : t - D.k < 18446744073709551616 := by unfold i64ok at ht hkk; omega
    have hd0 : 0 < t - D.k := by omega
    have hlt : decide (t ≤ D.k) = false := by simpa using hk
    have hc1 : 0 ≤ D.r * min (t - D.k) 1048576 := come_ge hr0 (by omega)
    have hc2 : D.r * min (t - D.k) 1048576 ≤ 1048576 * 1048576 := come_le g (by omega) (by omega)
    obtain ⟨r, b, n, k⟩ := D
    simp only at *
    generalize hU : IntKind.u64.wrap t = U at *
    generalize hV : IntKind.u64.wrap k = V at *
    generalize hdd : t - k = d at *
    clear hdd g
    by_cases hdm : d ≤ 1048576
    · rw [Int.min_eq_left hdm] at hc1 hc2 e
      have hdn : 0 < d := hd0
      have hr : IntKind.u64.wrap r = r := u64_self hr0 (by omega)
      have hp : IntKind.u64.wrap (r * d) = r * d := u64_self hc1 (by omega)
      generalize hC : r * d = C at *
      have hn : IntKind.u64.wrap n = n := u64_self hn0 (by omega)
      have hb : IntKind.u64.wrap b = b := u64_self (by omega) (by omega)
      have hz : IntKind.u64.wrap (n + C) = n + C := u64_self (by omega) (by omega)
      have hbi : IntKind.i64.wrap b = b := i64_self (by unfold i64ok; omega)
      by_cases hzb : n + C ≤ b
      · rw [Int.min_eq_left hzb] at e
        have hzi : IntKind.i64.wrap (n + C) = n + C := i64_self (by unfold i64ok; omega)
        have HH : Hid (learnP ⟨r, b, n, k⟩ t = ⟨r, b, n + C, t⟩ ∧ BkAt 67 w B ⟨r, b, n, k⟩) := ⟨e, h⟩
        clear e h
        go_enter Try.func29, Try.ntmps29
        go_wp2_with fail
        go_region
        go_wp2
        go_end0
        exact ⟨rfl, learn_fin HH.out.1 HH.out.2 rfl⟩
      · rw [Int.min_eq_right (a := n + C) (b := b) (by omega)] at e
        have hzc : b < n + C := by omega
        have HH : Hid (learnP ⟨r, b, n, k⟩ t = ⟨r, b, b, t⟩ ∧ BkAt 67 w B ⟨r, b, n, k⟩) := ⟨e, h⟩
        clear e h
        go_enter Try.func29, Try.ntmps29
        go_wp2_with fail
        go_region
        go_wp2
        go_end0
        exact ⟨rfl, learn_fin HH.out.1 HH.out.2 rfl⟩
    · rw [Int.min_eq_right (a := d) (b := 1048576) (by omega)] at hc1 hc2 e
      have hdm : 1048576 < d := by omega
      have hr : IntKind.u64.wrap r = r := u64_self hr0 (by omega)
      have hp : IntKind.u64.wrap (r * 1048576) = r * 1048576 := u64_self hc1 (by omega)
      generalize hC : r * 1048576 = C at *
      have hn : IntKind.u64.wrap n = n := u64_self hn0 (by omega)
      have hb : IntKind.u64.wrap b = b := u64_self (by omega) (by omega)
      have hz : IntKind.u64.wrap (n + C) = n + C := u64_self (by omega) (by omega)
      have hbi : IntKind.i64.wrap b = b := i64_self (by unfold i64ok; omega)
      by_cases hzb : n + C ≤ b
      · rw [Int.min_eq_left hzb] at e
        have hzi : IntKind.i64.wrap (n + C) = n + C := i64_self (by unfold i64ok; omega)
        have HH : Hid (learnP ⟨r, b, n, k⟩ t = ⟨r, b, n + C, t⟩ ∧ BkAt 67 w B ⟨r, b, n, k⟩) := ⟨e, h⟩
        clear e h
        go_enter Try.func29, Try.ntmps29
        go_wp2_with fail
        go_region
        go_wp2
        go_end0
        exact ⟨rfl, learn_fin HH.out.1 HH.out.2 rfl⟩
      · rw [Int.min_eq_right (a := n + C) (b := b) (by omega)] at e
        have hzc : b < n + C := by omega
        have HH : Hid (learnP ⟨r, b, n, k⟩ t = ⟨r, b, b, t⟩ ∧ BkAt 67 w B ⟨r, b, n, k⟩) := ⟨e, h⟩
        clear e h
        go_enter Try.func29, Try.ntmps29
        go_wp2_with fail
        go_region
        go_wp2
        go_end0
        exact ⟨rfl, learn_fin HH.out.1 HH.out.2 rfl⟩

theorem rlearn_any {w : World} {B : Nat} {D : BK} (h : BkAt 41 w B D) (g : Good D) {t : Int} (ht : i64ok t) :
    Calls Try.prog 27 #[.pointer (some ⟨B, 0, none⟩), .int .i64 t] w fun e w' => e = .returned (.tuple #[]) ∧ BkAt 41 w' B (learnP D t) ∧ Off B w w' := by
  have h1 := h.cr
  have h2 := h.cb
  have h3 := h.cn
  have h4 := h.ck
  have f1 := h.free 2
  have f2 := h.free 3
  by_cases hk : t ≤ D.k
  · have e := learn_old hk
    have HE := Lib.hid e
    clear e
    generalize D.k = k at *
    go_enter Try.func27, Try.ntmps27
    go_wp2
    refine bodyPost_ret (results_none rfl _ _ _) rfl ?_
    exact ⟨rfl, by rw [HE.out]; exact h, Off.refl _ _⟩
  · have hn0 := g.n0
    have hn1 := g.n1
    have hb0 := g.b0
    have hb1 := g.b1
    have hr0 := g.r0
    have hr1 := g.r1
    have hkk := g.k
    have e : learnP D t = { D with n := min (D.n + D.r * min (t - D.k) 2097152) D.b, k := t } := by
      rw [come_cut g (by omega) (by omega)]; unfold learnP; rw [if_neg hk]
    have hs := u64_sub ht hkk (by omega)
    have hd : t - D.k < 18446744073709551616 := by unfold i64ok at ht hkk; omega
    have hd0 : 0 < t - D.k := by omega
    have hlt : decide (t ≤ D.k) = false := by simpa using hk
    have hc1 : 0 ≤ D.r * min (t - D.k) 2097152 := come_ge hr0 (by omega)
    have hc2 : D.r * min (t - D.k) 2097152 ≤ 1048576 * 2097152 := come_le g (by omega) (by omega)
    obtain ⟨r, b, n, k⟩ := D
    simp only at *
    generalize hU : IntKind.u64.wrap t = U at *
    generalize hV : IntKind.u64.wrap k = V at *
    generalize hdd : t - k = d at *
    clear hdd g
    by_cases hdm : d ≤ 2097152
    · rw [Int.min_eq_left hdm] at hc1 hc2 e
      have hdn : 0 < d := hd0
      have hmi : IntKind.i64.wrap d = d := i64_self (by unfold i64ok; omega)
      rw [Int.mul_comm r d] at hc1 hc2 e
      have hp : IntKind.i64.wrap (d * r) = d * r := i64_self (by unfold i64ok; omega)
      generalize hC : d * r = C at *
      have hz : IntKind.i64.wrap (n + C) = n + C := i64_self (by unfold i64ok; omega)
      by_cases hzb : n + C < b
      · rw [Int.min_eq_left (a := n + C) (b := b) (by omega)] at e
        have hzc : ¬ b ≤ n + C := by omega
        have HH : Hid (learnP ⟨r, b, n, k⟩ t = ⟨r, b, n + C, t⟩ ∧ BkAt 41 w B ⟨r, b, n, k⟩) := ⟨e, h⟩
        clear e h
        go_enter Try.func27, Try.ntmps27
        go_wp2_with fail
        go_region
        go_wp2
        go_end0
        exact ⟨rfl, learn_fin HH.out.1 HH.out.2 rfl⟩
      · rw [Int.min_eq_right (a := n + C) (b := b) (by omega)] at e
        have hzc : b ≤ n + C := by omega
        have HH : Hid (learnP ⟨r, b, n, k⟩ t = ⟨r, b, b, t⟩ ∧ BkAt 41 w B ⟨r, b, n, k⟩) := ⟨e, h⟩
        clear e h
        go_enter Try.func27, Try.ntmps27
        go_wp2_with fail
        go_region
        go_wp2
        go_end0
        exact ⟨rfl, learn_fin HH.out.1 HH.out.2 rfl⟩
    · rw [Int.min_eq_right (a := d) (b := 2097152) (by omega)] at hc1 hc2 e
      have hdm : 2097152 < d := by omega
      have hmi : IntKind.i64.wrap 2097152 = 2097152 := i64_self (by unfold i64ok; omega)
      rw [Int.mul_comm r 2097152] at hc1 hc2 e
      have hp : IntKind.i64.wrap (2097152 * r) = 2097152 * r := i64_self (by unfold i64ok; omega)
      generalize hC : 2097152 * r = C at *
      have hz : IntKind.i64.wrap (n + C) = n + C := i64_self (by unfold i64ok; omega)
      by_cases hzb : n + C < b
      · rw [Int.min_eq_left (a := n + C) (b := b) (by omega)] at e
        have hzc : ¬ b ≤ n + C := by omega
        have HH : Hid (learnP ⟨r, b, n, k⟩ t = ⟨r, b, n + C, t⟩ ∧ BkAt 41 w B ⟨r, b, n, k⟩) := ⟨e, h⟩
        clear e h
        go_enter Try.func27, Try.ntmps27
        go_wp2_with fail
        go_region
        go_wp2
        go_end0
        exact ⟨rfl, learn_fin HH.out.1 HH.out.2 rfl⟩
      · rw [Int.min_eq_right (a := n + C) (b := b) (by omega)] at e
        have hzc : b ≤ n + C := by omega
        have HH : Hid (learnP ⟨r, b, n, k⟩ t = ⟨r, b, b, t⟩ ∧ BkAt 41 w B ⟨r, b, n, k⟩) := ⟨e, h⟩
        clear e h
        go_enter Try.func27, Try.ntmps27
        go_wp2_with fail
        go_region
        go_wp2
        go_end0
        exact ⟨rfl, learn_fin HH.out.1 HH.out.2 rfl⟩

theorem tokens_any {w : World} {B : Nat} {D : BK} (h : BkAt 67 w B D) (g : Good D) {t : Int} (ht : i64ok t) :
    Calls Try.prog 25 #[.pointer (some ⟨B, 0, none⟩), .int .i64 t] w fun e w' => e = .returned (.int .i64 (learnP D t).n) ∧ BkAt 67 w' B (learnP D t) ∧ Off B w w' := by
  have hl := learn_any h g ht
  generalize learnP D t = E at *
  go_enter Try.func25, Try.ntmps25
  go_wp2_with (go_at_call 29; refine hl.mono ?_; rintro e w1 ⟨rfl, h1, o1⟩; have c1 := h1.cn)
  go_ret
  exact ⟨rfl, h1, o1⟩

theorem full_any {w : World} {B : Nat} {D : BK} (h : BkAt 67 w B D) (g : Good D) {t : Int} (ht : i64ok t) :
    Calls Try.prog 30 #[.pointer (some ⟨B, 0, none⟩), .int .i64 t] w fun e w' => e = .returned (.bool (decide ((learnP D t).n = (learnP D t).b))) ∧ BkAt 67 w' B (learnP D t) ∧ Off B w w' := by
  have hl := learn_any h g ht
  generalize learnP D t = E at *
  obtain ⟨er, eb, en, ek⟩ := E
  simp only
  by_cases hq : en = eb
  · subst hq
    go_enter Try.func30, Try.ntmps30
    go_wp2_with (go_at_call 29; refine hl.mono ?_; rintro e w1 ⟨rfl, h1, o1⟩; have c1 := h1.cn; have c2 := h1.cb)
    go_region
    go_wp2
    go_ret
    exact ⟨ret_bool (by simp), h1.drew, o1.drew⟩
  · have hq1 : (en == eb) = false := by simpa using hq
    go_enter Try.func30, Try.ntmps30
    go_wp2_with (go_at_call 29; refine hl.mono ?_; rintro e w1 ⟨rfl, h1, o1⟩; have c1 := h1.cn; have c2 := h1.cb)
    go_region
    go_wp2
    go_ret
    exact ⟨ret_bool (by simpa using hq), h1.drew, o1.drew⟩

theorem take_any {w : World} {B : Nat} {D : BK} (h : BkAt 67 w B D) (g : Good D) {t : Int} (ht : i64ok t) (m : Int) :
    Calls Try.prog 21 #[.pointer (some ⟨B, 0, none⟩), .int .i64 t, .int .i64 m] w fun e w' => e = .returned (.bool (takeB D t m)) ∧ BkAt 67 w' B (takeD D t m) ∧ Off B w w' := by
  have hl := learn_any h g ht
  have hg := g.learn ht
  unfold takeB takeD takeB
  generalize learnP D t = E at *
  have n0 := hg.n0
  have n1 := hg.n1
  have b1 := hg.b1
  by_cases hm : m < 0
  · have hd : decide (m < 0) = true := by simpa using hm
    rw [hd]
    simp only [Bool.true_or, Bool.not_true, Bool.false_eq_true, if_false]
    go_enter Try.func21, Try.ntmps21
    go_wp2_with (go_at_call 29; refine hl.mono ?_; rintro e w1 ⟨rfl, h1, o1⟩; have c1 := h1.cn)
    go_ret
    exact ⟨rfl, h1, o1⟩
  · have hd : decide (m < 0) = false := by simpa using hm
    by_cases hq : E.n < m
    · have hq1 : decide (E.n < m) = true := by simpa using hq
      rw [hd, hq1]
      simp only [Bool.or_true, Bool.not_true, Bool.false_eq_true, if_false]
      go_enter Try.func21, Try.ntmps21
      go_wp2_with (go_at_call 29; refine hl.mono ?_; rintro e w1 ⟨rfl, h1, o1⟩; have c1 := h1.cn)
      go_ret
      exact ⟨rfl, h1, o1⟩
    · have hq1 : decide (E.n < m) = false := by simpa using hq
      have hw : IntKind.i64.wrap (E.n - m) = E.n - m := i64_self (by unfold i64ok; omega)
      rw [hd, hq1]
      simp only [Bool.or_self, Bool.not_false, if_true]
      go_enter Try.func21, Try.ntmps21
      go_wp2_with (go_at_call 29; refine hl.mono ?_; rintro e w1 ⟨rfl, h1, o1⟩; have c1 := h1.cn; have f1 := h1.free 2)
      go_ret
      exact ⟨rfl, h1.setn _, o1.set _ _⟩

theorem rtokens_any {w : World} {B : Nat} {D : BK} (h : BkAt 41 w B D) (g : Good D) {t : Int} (ht : i64ok t) :
    Calls Try.prog 26 #[.pointer (some ⟨B, 0, none⟩), .int .i64 t] w fun e w' => e = .returned (.int .i64 (learnP D t).n) ∧ BkAt 41 w' B (learnP D t) ∧ Off B w w' := by
  have hl := rlearn_any h g ht
  generalize learnP D t = E at *
  go_enter Try.func26, Try.ntmps26
  go_wp2_with (go_at_call 27; refine hl.mono ?_; rintro e w1 ⟨rfl, h1, o1⟩; have c1 := h1.cn)
  go_ret
  exact ⟨rfl, h1, o1⟩

theorem rfull_any {w : World} {B : Nat} {D : BK} (h : BkAt 41 w B D) (g : Good D) {t : Int} (ht : i64ok t) :
    Calls Try.prog 23 #[.pointer (some ⟨B, 0, none⟩), .int .i64 t] w fun e w' => e = .returned (.bool (decide ((learnP D t).n = (learnP D t).b))) ∧ BkAt 41 w' B (learnP D t) ∧ Off B w w' := by
  have hl := rlearn_any h g ht
  generalize learnP D t = E at *
  obtain ⟨er, eb, en, ek⟩ := E
  simp only
  by_cases hq : en = eb
  · subst hq
    go_enter Try.func23, Try.ntmps23
    go_wp2_with (go_at_call 27; refine hl.mono ?_; rintro e w1 ⟨rfl, h1, o1⟩; have c1 := h1.cn; have c2 := h1.cb)
    go_region
    go_wp2
    go_ret
    exact ⟨ret_bool (by simp), h1.drew, o1.drew⟩
  · have hq1 : (en == eb) = false := by simpa using hq
    go_enter Try.func23, Try.ntmps23
    go_wp2_with (go_at_call 27; refine hl.mono ?_; rintro e w1 ⟨rfl, h1, o1⟩; have c1 := h1.cn; have c2 := h1.cb)
    go_region
    go_wp2
    go_ret
    exact ⟨ret_bool (by simpa using hq), h1.drew, o1.drew⟩

theorem rtake_any {w : World} {B : Nat} {D : BK} (h : BkAt 41 w B D) (g : Good D) {t : Int} (ht : i64ok t) (m : Int) :
    Calls Try.prog 18 #[.pointer (some ⟨B, 0, none⟩), .int .i64 t, .int .i64 m] w fun e w' => e = .returned (.bool (takeB D t m)) ∧ BkAt 41 w' B (takeD D t m) ∧ Off B w w' := by
  have hl := rlearn_any h g ht
  have hg := g.learn ht
  unfold takeB takeD takeB
  generalize learnP D t = E at *
  have n0 := hg.n0
  have n1 := hg.n1
  have b1 := hg.b1
  by_cases hm : m < 0
  · have hd : decide (m < 0) = true := by simpa using hm
    rw [hd]
    simp only [Bool.true_or, Bool.not_true, Bool.false_eq_true, if_false]
    go_enter Try.func18, Try.ntmps18
    go_wp2_with (go_at_call 27; refine hl.mono ?_; rintro e w1 ⟨rfl, h1, o1⟩; have c1 := h1.cn)
    go_ret
    exact ⟨rfl, h1, o1⟩
  · have hd : decide (m < 0) = false := by simpa using hm
    by_cases hq : E.n < m
    · have hq1 : decide (E.n < m) = true := by simpa using hq
      rw [hd, hq1]
      simp only [Bool.or_true, Bool.not_true, Bool.false_eq_true, if_false]
      go_enter Try.func18, Try.ntmps18
      go_wp2_with (go_at_call 27; refine hl.mono ?_; rintro e w1 ⟨rfl, h1, o1⟩; have c1 := h1.cn)
      go_ret
      exact ⟨rfl, h1, o1⟩
    · have hq1 : decide (E.n < m) = false := by simpa using hq
      have hw : IntKind.i64.wrap (E.n - m) = E.n - m := i64_self (by unfold i64ok; omega)
      rw [hd, hq1]
      simp only [Bool.or_self, Bool.not_false, if_true]
      go_enter Try.func18, Try.ntmps18
      go_wp2_with (go_at_call 27; refine hl.mono ?_; rintro e w1 ⟨rfl, h1, o1⟩; have c1 := h1.cn; have f1 := h1.free 2)
      go_ret
      exact ⟨rfl, h1.setn _, o1.set _ _⟩

theorem al_bk {T : TypeId} {w : World} {r b t x y z : Int} (hx : x = min (max r 0) 1048576) (hy : y = min (max b 1) 1048576) (hz : z = min (max b 1) 1048576) : BkAt T (w.alloc (.cells #[.int .i64 x, .int .i64 y, .int .i64 z, .int .i64 t] T)) w.heap.size (newP r b t) := by
  subst hx; subst hy; subst hz
  exact heap_alloc_new w _

theorem new_any (r b t : Int) (w : World) : Calls Try.prog 20 #[.int .i64 r, .int .i64 b, .int .i64 t] w fun e w' => e = .returned (.pointer (some ⟨w.heap.size, 0, none⟩)) ∧ BkAt 67 w' w.heap.size (newP r b t) ∧ Below w.heap.size w w' ∧ w.heap.size < w'.heap.size := by
  go_enter Try.func20, Try.ntmps20
  go_wp2
  all_goals (go_ret; refine ⟨rfl, al_bk ?_ ?_ ?_, (Below.refl _ _).alloc (Nat.le_refl _) _, by simp⟩ <;> omega)

theorem rnew_any (r b t : Int) (w : World) : Calls Try.prog 16 #[.int .i64 r, .int .i64 b, .int .i64 t] w fun e w' => e = .returned (.pointer (some ⟨w.heap.size, 0, none⟩)) ∧ BkAt 41 w' w.heap.size (newP r b t) ∧ Below w.heap.size w w' ∧ w.heap.size < w'.heap.size := by
  have e1 : max 0 (min r 1048576) = min (max r 0) 1048576 := by omega
  have e2 : max 1 (min b 1048576) = min (max b 1) 1048576 := by omega
  go_enter Try.func16, Try.ntmps16
  go_wp2
  all_goals (go_ret; refine ⟨rfl, al_bk ?_ ?_ ?_, (Below.refl _ _).alloc (Nat.le_refl _) _, by simp⟩ <;> omega)
end Go.Proofs.Ytpkmloanbddefaa
