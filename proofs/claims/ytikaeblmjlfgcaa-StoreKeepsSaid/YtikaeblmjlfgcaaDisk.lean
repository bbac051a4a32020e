/- The disk: what each of its calls does to its block; by-name template. -/
import Derived.Test.YtikaeblmjlfgcaaRows
import Derived.Test.YtikaeblmjlfgcaaShelf
import Derived.WalkKit
import Derived.Lib.Hide
import Derived.Below
import Derived.BigQuiet
import Derived.StillTailTactics
import Derived.Outline
import Derived.Laws.Rows
import Derived.Laws.Tables
import Derived.Deep.WholeRow
import Derived.Deep.RegionWith
import Derived.Deep.DeepCutAuto
namespace Go.Proofs.Ytikaeblmjlfgcaa
open Go.RowKit

/-- A disk: its sectors, writes, whether a cut is ordered, what is left, whether the power is gone. -/
structure DS where
  S : List ByteArray
  n : Int
  c : Bool
  l : Int
  d : Bool

def dcells (D : DS) : Array Value := (D.S.map Value.string ++ [Value.int .i64 D.n, Value.bool D.c, Value.int .i64 D.l, Value.bool D.d]).toArray

def DiskAt (w : World) (B : Nat) (D : DS) : Prop := D.S.length = 160 ∧ w.heap[B]? = some (.cells (dcells D) 55 (0, 0))

/-- All blocks but B are as they were. -/
structure Off (B : Nat) (w w' : World) : Prop where
  os : w'.os = w.os
  tape : w'.tape = w.tape
  output : w'.output = w.output
  size : w.heap.size ≤ w'.heap.size
  block : ∀ k, k < w.heap.size → k ≠ B → w'.heap[k]? = w.heap[k]?

theorem Off.refl (B : Nat) (w : World) : Off B w w := ⟨rfl, rfl, rfl, Nat.le_refl _, fun _ _ _ => rfl⟩
theorem Off.trans {B : Nat} {a b c : World} (h : Off B a b) (k : Off B b c) : Off B a c :=
  ⟨k.os.trans h.os, k.tape.trans h.tape, k.output.trans h.output, Nat.le_trans h.size k.size, fun i hi hn => (k.block i (Nat.lt_of_lt_of_le hi h.size) hn).trans (h.block i hi hn)⟩
theorem Off.drew {B : Nat} {a w : World} (h : Off B a w) : Off B a w.drew := ⟨h.os, h.tape, h.output, h.size, h.block⟩
theorem Off.alloc {B : Nat} {a w : World} (h : Off B a w) (o : Obj) : Off B a (w.alloc o) :=
  h.trans ⟨rfl, rfl, rfl, by simp, fun k hk _ => Below.heap_alloc _ _ _ hk⟩
theorem Off.setCell {B : Nat} {a w : World} (h : Off B a w) {p : Addr} (hp : p.block = B) (u : Value) : Off B a (w.setCell p u) :=
  h.trans ⟨rfl, rfl, rfl, by simp [World.setCell], fun k _ hn => Below.heap_setCell _ _ _ _ (by omega)⟩
theorem Off.set {B : Nat} {a w : World} (h : Off B a w) (o : Nat) (u : Value) : Off B a (w.setCell ⟨B, o, none⟩ u) := h.setCell rfl u
theorem Off.below {B : Nat} {w w' : World} (h : Below w.heap.size w w') : Off B w w' := ⟨h.os, h.tape, h.output, h.size, fun k hk _ => h.block k hk⟩
theorem Off.toBelow {B : Nat} {w w' : World} (h : Off B w w') (hB : B ≤ w.heap.size) : Below B w w' :=
  ⟨h.os, h.tape, h.output, h.size, fun k hk => h.block k (by omega) (by omega)⟩

theorem dcells_toList (D : DS) : (dcells D).toList = D.S.map Value.string ++ [Value.int .i64 D.n, Value.bool D.c, Value.int .i64 D.l, Value.bool D.d] := by simp [dcells]
theorem dcells_size {D : DS} (h : D.S.length = 160) : (dcells D).size = 164 := by simp [dcells, h]

theorem DiskAt.lt {w : World} {B : Nat} {D : DS} (h : DiskAt w B D) : B < w.heap.size := by
  obtain ⟨_, h⟩ := h
  exact (Array.getElem?_eq_some_iff.1 h).1
theorem DiskAt.free {w : World} {B : Nat} {D : DS} (h : DiskAt w B D) (o : Nat) : w.frozen? ⟨B, o, none⟩ = false := by
  obtain ⟨_, h⟩ := h
  simp [World.frozen?, h]
theorem DiskAt.cell {w : World} {B : Nat} {D : DS} (h : DiskAt w B D) (o : Nat) : w.cell? ⟨B, o, none⟩ = (dcells D)[o]? := by
  obtain ⟨_, h⟩ := h
  simp [World.cell?, h]
theorem DiskAt.cn {w : World} {B : Nat} {D : DS} (h : DiskAt w B D) : w.cell? ⟨B, 160, none⟩ = some (.int .i64 D.n) := by
  rw [h.cell]; simp [dcells, h.1]
theorem DiskAt.cc {w : World} {B : Nat} {D : DS} (h : DiskAt w B D) : w.cell? ⟨B, 161, none⟩ = some (.bool D.c) := by
  rw [h.cell]; simp [dcells, h.1]
theorem DiskAt.cl {w : World} {B : Nat} {D : DS} (h : DiskAt w B D) : w.cell? ⟨B, 162, none⟩ = some (.int .i64 D.l) := by
  rw [h.cell]; simp [dcells, h.1]
theorem DiskAt.cd {w : World} {B : Nat} {D : DS} (h : DiskAt w B D) : w.cell? ⟨B, 163, none⟩ = some (.bool D.d) := by
  rw [h.cell]; simp [dcells, h.1]
theorem DiskAt.cs {w : World} {B : Nat} {D : DS} (h : DiskAt w B D) {k : Nat} (hk : k < 160) : w.cell? ⟨B, k, none⟩ = some (.string (D.S.getD k ByteArray.empty)) := by
  rw [h.cell]
  have : k < D.S.length := by rw [h.1]; exact hk
  simp [dcells, this, List.getElem?_append]

theorem heap_set {w : World} {B : Nat} {cs : Array Value} {t : TypeId} {fz : Nat × Nat} (h : w.heap[B]? = some (.cells cs t fz)) (o : Nat) (v : Value) :
    (w.setCell ⟨B, o, none⟩ v).heap[B]? = some (.cells (cs.setIfInBounds o v) t fz) := by
  simp [World.setCell, Array.getElem?_modify, h]
theorem DiskAt.set {w : World} {B : Nat} {D D' : DS} (h : DiskAt w B D) {o : Nat} {v : Value} (hl : D'.S.length = 160) (hc : (dcells D).setIfInBounds o v = dcells D') : DiskAt (w.setCell ⟨B, o, none⟩ v) B D' :=
  ⟨hl, by rw [heap_set h.2, hc]⟩
theorem set_tail (S : List Value) (T : List Value) (o : Nat) (v : Value) (h : S.length ≤ o) : (S ++ T).toArray.setIfInBounds o v = (S ++ T.set (o - S.length) v).toArray := by
  simp [List.set_append, Nat.not_lt.2 h]
theorem DiskAt.setn {w : World} {B : Nat} {D : DS} (h : DiskAt w B D) (m : Int) : DiskAt (w.setCell ⟨B, 160, none⟩ (.int .i64 m)) B { D with n := m } :=
  h.set h.1 (by unfold dcells; rw [set_tail _ _ _ _ (by simp [h.1])]; simp [h.1])
theorem DiskAt.setc {w : World} {B : Nat} {D : DS} (h : DiskAt w B D) (m : Bool) : DiskAt (w.setCell ⟨B, 161, none⟩ (.bool m)) B { D with c := m } :=
  h.set h.1 (by unfold dcells; rw [set_tail _ _ _ _ (by simp [h.1])]; simp [h.1])
theorem DiskAt.setl {w : World} {B : Nat} {D : DS} (h : DiskAt w B D) (m : Int) : DiskAt (w.setCell ⟨B, 162, none⟩ (.int .i64 m)) B { D with l := m } :=
  h.set h.1 (by unfold dcells; rw [set_tail _ _ _ _ (by simp [h.1])]; simp [h.1])
theorem DiskAt.setd {w : World} {B : Nat} {D : DS} (h : DiskAt w B D) (m : Bool) : DiskAt (w.setCell ⟨B, 163, none⟩ (.bool m)) B { D with d := m } :=
  h.set h.1 (by unfold dcells; rw [set_tail _ _ _ _ (by simp [h.1])]; simp [h.1])
theorem DiskAt.sets {w : World} {B : Nat} {D : DS} (h : DiskAt w B D) {k : Nat} (hk : k < 160) (s : ByteArray) : DiskAt (w.setCell ⟨B, k, none⟩ (.string s)) B { D with S := D.S.set k s } :=
  h.set (by simp [h.1]) (by
    have : k < D.S.length := by rw [h.1]; exact hk
    simp [dcells, this, List.map_set])
theorem DiskAt.off {w w' : World} {A B : Nat} {D : DS} (h : DiskAt w B D) (hw : Off A w w') (hn : B ≠ A) : DiskAt w' B D :=
  ⟨h.1, by rw [hw.block B h.lt hn]; exact h.2⟩
theorem DiskAt.drew {w : World} {B : Nat} {D : DS} (h : DiskAt w B D) : DiskAt w.drew B D := h
theorem DiskAt.below {w w' : World} {B N : Nat} {D : DS} (h : DiskAt w B D) (hw : Below N w w') (hn : B < N) : DiskAt w' B D :=
  ⟨h.1, by rw [hw.block B hn]; exact h.2⟩
/-! ### The calls -/
theorem ret_bool {a b : Bool} (h : a = b) : Ending.returned (.bool a) = .returned (.bool b) := by rw [h]
theorem ret_int {a b : Int} (h : a = b) : Ending.returned (.int .i64 a) = .returned (.int .i64 b) := by rw [h]

def inSec (i : Int) : Bool := decide (0 ≤ i) && decide (i < 160)
theorem inSec_yes {i : Int} (h0 : 0 ≤ i) (h1 : i < 160) : inSec i = true := by simp [inSec, h0, h1]
theorem inSec_iff {i : Int} : inSec i = true ↔ 0 ≤ i ∧ i < 160 := by simp [inSec]
theorem inSec_no {i : Int} : inSec i = false ↔ i < 0 ∨ 160 ≤ i := by
  rw [← Bool.not_eq_true, inSec_iff]; omega

theorem has_any (i : Int) (w : World) : Calls Try.prog 33 #[.int .i64 i] w fun e w' => e = .returned (.bool (inSec i)) ∧ w = w' := by
  by_cases h0 : 0 ≤ i
  · by_cases h1 : i < 160
    · go_enter Try.func33, Try.ntmps33
      go_wp2
      go_ret
      exact ⟨ret_bool (inSec_yes h0 h1).symm, rfl⟩
    · go_enter Try.func33, Try.ntmps33
      go_wp2
      go_ret
      exact ⟨ret_bool (inSec_no.2 (by omega)).symm, rfl⟩
  · go_enter Try.func33, Try.ntmps33
    go_wp2
    go_ret
    exact ⟨ret_bool (inSec_no.2 (by omega)).symm, rfl⟩

theorem writes_any {w : World} {B : Nat} {D : DS} (h : DiskAt w B D) : Calls Try.prog 14 #[.pointer (some ⟨B, 0, none⟩)] w fun e w' => e = .returned (.int .i64 D.n) ∧ w = w' := by
  have h1 := h.cn
  go_enter Try.func14, Try.ntmps14
  go_wp2
  go_ret
  exact ⟨rfl, rfl⟩

theorem cut_any {w : World} {B : Nat} {D : DS} (h : DiskAt w B D) (n : Int) : Calls Try.prog 17 #[.pointer (some ⟨B, 0, none⟩), .int .i64 n] w fun e w' => e = .returned (.tuple #[]) ∧ DiskAt w' B { D with c := true, l := max n 0 } ∧ Off B w w' := by
  have h1 := h.cc
  have h2 := h.cl
  have h3 := h.free 161
  have h4 := h.free 162
  go_enter Try.func17, Try.ntmps17
  go_wp2
  all_goals (go_end0; exact ⟨rfl, by have := (h.setc true).setl (max n 0); simpa using this, ((Off.refl _ _).set _ _).set _ _⟩)

theorem power_any {w : World} {B : Nat} {D : DS} (h : DiskAt w B D) : Calls Try.prog 18 #[.pointer (some ⟨B, 0, none⟩)] w fun e w' => e = .returned (.tuple #[]) ∧ DiskAt w' B { D with d := false, c := false } ∧ Off B w w' := by
  have h1 := h.cc
  have h2 := h.cd
  have h3 := h.free 161
  have h4 := h.free 163
  go_enter Try.func18, Try.ntmps18
  go_wp2
  go_end0
  exact ⟨rfl, (h.setd false).setc false, ((Off.refl _ _).set _ _).set _ _⟩

def D0 : DS := ⟨List.replicate 160 ByteArray.empty, 0, false, 0, false⟩
theorem zero_disk (w : World) : (zeroValue 55).run Try.prog w = .ok (.agg (dcells D0)) w := by kernel_rfl

theorem disk_info : (Try.prog.info? 55).map (·.size) = some 164 := by kernel_rfl
theorem DiskAt.info {w : World} {B : Nat} {D : DS} (h : DiskAt w B D) : (Try.prog.info? 55).map (·.size) = some (dcells D).size := by
  rw [dcells_size h.1]; exact disk_info
theorem dcells_one (D : DS) : (dcells D).all (·.oneCell') = true := by
  rw [Array.all_eq_true_iff_forall_mem]
  intro v hv
  simp only [dcells, List.mem_toArray, List.mem_append, List.mem_map, List.mem_cons, List.not_mem_nil, or_false] at hv
  rcases hv with ⟨s, _, rfl⟩ | rfl | rfl | rfl | rfl <;> rfl

theorem new_any (w : World) : Calls Try.prog 8 #[] w fun e w' => e = .returned (.pointer (some ⟨w.heap.size, 0, none⟩)) ∧ DiskAt w' w.heap.size D0 ∧ Below w.heap.size w w' ∧ w.heap.size < w'.heap.size := by
  have hz := zero_disk
  obtain ⟨Z, hZ⟩ : ∃ Z, Z = dcells D0 := ⟨_, rfl⟩
  rw [← hZ] at hz
  have HZ := Lib.hid hZ
  clear hZ
  go_enter Try.func8, Try.ntmps8
  go_wp2
  go_ret
  exact ⟨rfl, ⟨rfl, by rw [HZ.out]; exact heap_alloc_new w _⟩, (Below.refl _ _).alloc (Nat.le_refl _) _, by simp⟩

theorem read_no {i : Int} (hi : inSec i = false) (B : Nat) (w : World) : Calls Try.prog 26 #[.pointer (some ⟨B, 0, none⟩), .int .i64 i] w fun e w' => e = .returned (.tuple #[.string ByteArray.empty, .int .i64 10]) ∧ w = w' := by
  have hc := has_any i
  rw [hi] at hc
  go_enter Try.func26, Try.ntmps26
  go_wp2_with (go_at_call 33; refine (hc _).mono ?_; rintro e w' ⟨rfl, rfl⟩)
  go_ret2
  exact ⟨rfl, rfl⟩

theorem read_at {w : World} {B : Nat} {D : DS} (h : DiskAt w B D) {k : Nat} (hk : k < 160) : Calls Try.prog 26 #[.pointer (some ⟨B, 0, none⟩), .int .i64 (k : Int)] w fun e w' => e = .returned (.tuple #[.string (D.S.getD k ByteArray.empty), .int .i64 0]) ∧ w = w' := by
  have hc := has_any k
  rw [inSec_yes (by omega) (by omega)] at hc
  have h1 := h.cs hk
  generalize D.S.getD k ByteArray.empty = s at *
  go_enter Try.func26, Try.ntmps26
  go_wp2_with (go_at_call 33; refine (hc _).mono ?_; rintro e w' ⟨rfl, rfl⟩)
  go_ret2
  exact ⟨rfl, rfl⟩

/-- Does an order, or the power, keep the next write from coming to pass? -/
def stuck (D : DS) : Bool := (D.c && D.l == 0) || D.d
def spent (D : DS) : DS := if D.c && D.l == 0 then { D with d := true } else if D.d then D else if D.c then { D with l := D.l - 1 } else D

theorem spend_any {w : World} {B : Nat} {D : DS} (h : DiskAt w B D) (h0 : 0 ≤ D.l) (hm : D.l ≤ 9223372036854775807) : Calls Try.prog 36 #[.pointer (some ⟨B, 0, none⟩)] w fun e w' => e = .returned (.bool (!stuck D)) ∧ DiskAt w' B (spent D) ∧ Off B w w' := by
  have h1 := h.cc
  have h2 := h.cl
  have h3 := h.cd
  have f1 := h.free 162
  have f2 := h.free 163
  obtain ⟨S, n, c, l, d⟩ := D
  simp only at h1 h2 h3 h0 hm
  cases c
  · cases d
    · go_enter Try.func36, Try.ntmps36
      go_wp2
      go_ret
      exact ⟨ret_bool (by simp [stuck]), by simpa [spent] using h, Off.refl _ _⟩
    · go_enter Try.func36, Try.ntmps36
      go_wp2
      go_ret
      exact ⟨ret_bool (by simp [stuck]), by simpa [spent] using h, Off.refl _ _⟩
  · by_cases hl : l = 0
    · subst hl
      go_enter Try.func36, Try.ntmps36
      go_wp2
      go_ret
      exact ⟨ret_bool (by simp [stuck]), by have := h.setd true; simpa [spent] using this, (Off.refl _ _).set _ _⟩
    · have hb : (l == 0) = false := by simpa using hl
      cases d
      · go_enter Try.func36, Try.ntmps36
        go_wp2
        go_ret
        exact ⟨ret_bool (by simp [stuck, hl]), by have := h.setl (l - 1); simpa [spent, hl] using this, (Off.refl _ _).set _ _⟩
      · go_enter Try.func36, Try.ntmps36
        go_wp2
        go_ret
        exact ⟨ret_bool (by simp [stuck]), by simpa [spent, hl] using h, Off.refl _ _⟩

theorem spent_n (D : DS) : (spent D).n = D.n := by
  unfold spent; split <;> (try split) <;> (try split) <;> rfl
theorem clone_str (s : ByteArray) (w : World) (hs : s.size ≤ 281474976710656) : Calls Try.prog 37 #[.string s] w fun e w' => e = .returned (.string s) ∧ Below w.heap.size w w' := by
  go_enter Try.func37, Try.ntmps37
  go_wp2_with (go_at_call 39; refine (Try.stringslite_Clone _ _ hs).mono ?_; rintro e w' ⟨rfl, hb⟩)
  go_ret
  exact ⟨rfl, hb⟩

theorem clone_any {w : World} {B : Nat} {D : DS} (h : DiskAt w B D) : Calls Try.prog 16 #[.pointer (some ⟨B, 0, none⟩)] w fun e w' => e = .returned (.pointer (some ⟨w.heap.size, 0, none⟩)) ∧ DiskAt w' w.heap.size D ∧ Below w.heap.size w w' ∧ w.heap.size < w'.heap.size := by
  have hz := zero_disk
  obtain ⟨Z, hZ⟩ : ∃ Z, Z = dcells D0 := ⟨_, rfl⟩
  rw [← hZ] at hz
  have HZ := Lib.hid hZ
  clear hZ
  go_enter Try.func16, Try.ntmps16
  go_wp2_with (first
    | (refine wpList_load_row rfl 55 (.tmp 5) rfl B rfl 55 (dcells D) (0, 0) _ h.2 Try.underlying55 rfl (h.info) ?_)
    | (refine wpList_store_row rfl 55 (.tmp 3) (.tmp 6) rfl w.heap.size (dcells D) rfl rfl 55 Z (heap_alloc_new w _) h.info (by rw [HZ.out, dcells_size rfl, dcells_size h.1]) (dcells_one D) ?_))
  go_ret
  rw [World.setRow_alloc_new]
  exact ⟨rfl, ⟨h.1, heap_alloc_new w _⟩, (Below.refl _ _).alloc (Nat.le_refl _) _, by simp⟩

def wres (D : DS) (i : Int) (s : ByteArray) : Int := if inSec i = false then 10 else if 512 < s.size then 11 else if stuck D then 12 else 0
def wst (D : DS) (i : Int) (s : ByteArray) : DS :=
  if inSec i = false then D else if 512 < s.size then D else if stuck D then spent D else { spent D with S := (spent D).S.set i.toNat s, n := (spent D).n + 1 }

theorem write_sector {w : World} {B : Nat} {i : Int} (s : ByteArray) (hi : inSec i = false) :
    Calls Try.prog 31 #[.pointer (some ⟨B, 0, none⟩), .int .i64 i, .string s] w fun e w' => e = .returned (.int .i64 10) ∧ w = w' := by
  have hc := has_any i
  rw [hi] at hc
  go_enter Try.func31, Try.ntmps31
  go_wp2_with (go_at_call 33; refine (hc _).mono ?_; rintro e w' ⟨rfl, rfl⟩)
  go_ret
  exact ⟨rfl, rfl⟩

theorem write_size {w : World} {B : Nat} {i : Int} (s : ByteArray) (hi : inSec i = true) (hs : 512 < s.size) :
    Calls Try.prog 31 #[.pointer (some ⟨B, 0, none⟩), .int .i64 i, .string s] w fun e w' => e = .returned (.int .i64 11) ∧ w = w' := by
  have hc := has_any i
  rw [hi] at hc
  go_enter Try.func31, Try.ntmps31
  go_wp2_with (go_at_call 33; refine (hc _).mono ?_; rintro e w' ⟨rfl, rfl⟩)
  go_ret
  exact ⟨rfl, rfl⟩

theorem write_dead {w : World} {B : Nat} {D : DS} (h : DiskAt w B D) (h0 : 0 ≤ D.l) (hm : D.l ≤ 9223372036854775807) {i : Int} (s : ByteArray) (hi : inSec i = true) (hs : s.size ≤ 512) (hb : stuck D = true) :
    Calls Try.prog 31 #[.pointer (some ⟨B, 0, none⟩), .int .i64 i, .string s] w fun e w' => e = .returned (.int .i64 12) ∧ DiskAt w' B (spent D) ∧ Off B w w' := by
  have hc := has_any i
  rw [hi] at hc
  have hsp := spend_any h h0 hm
  rw [hb] at hsp
  go_enter Try.func31, Try.ntmps31
  go_wp2_with (first
    | (go_at_call 33; refine (hc _).mono ?_; rintro e w' ⟨rfl, rfl⟩)
    | (go_at_call 36; refine hsp.mono ?_; rintro e w1 ⟨rfl, hd1, ho1⟩))
  go_ret
  exact ⟨rfl, hd1, ho1⟩

theorem write_ok {w : World} {B : Nat} {D : DS} (h : DiskAt w B D) (h0 : 0 ≤ D.l) (hm : D.l ≤ 9223372036854775807) (hn0 : 0 ≤ D.n) (hn : D.n < 9223372036854775807) {k : Nat} (s : ByteArray) (hk : k < 160) (hs : s.size ≤ 512) (hb : stuck D = false) :
    Calls Try.prog 31 #[.pointer (some ⟨B, 0, none⟩), .int .i64 (k : Int), .string s] w fun e w' => e = .returned (.int .i64 0) ∧ DiskAt w' B { spent D with S := (spent D).S.set k s, n := (spent D).n + 1 } ∧ Off B w w' := by
  have hc := has_any k
  rw [inSec_yes (by omega) (by omega)] at hc
  have hsp := spend_any h h0 hm
  rw [hb] at hsp
  go_enter Try.func31, Try.ntmps31
  go_wp2_with (first
    | (go_at_call 33; refine (hc _).mono ?_; rintro e w' ⟨rfl, rfl⟩)
    | (go_at_call 36; refine hsp.mono ?_; rintro e w1 ⟨rfl, hd1, ho1⟩))
  have hk1 : (k : Int) < 160 := by omega
  have hk0 : (0 : Int) ≤ (k : Int) := by omega
  have hs2 : s.size ≤ 281474976710656 := by omega
  have hb1 := hd1.lt
  go_region_with (go_at_call 37; refine (clone_str s _ hs2).mono ?_; rintro e w2 ⟨rfl, hb2⟩; have hd2 := (hd1.drew).below hb2 hb1; have ho2 := ho1.drew.trans (Off.below hb2); have hf2 := hd2.free k; have hc2 := hd2.cs hk)
  have hd3 := hd2.sets hk s
  have ho3 := ho2.set k (.string s)
  have hc3 := hd3.cn
  have hf3 := hd3.free 160
  have hn1 := spent_n D
  have hn2 : 0 ≤ (spent D).n := by omega
  have hn3 : (spent D).n < 9223372036854775807 := by omega
  clear hn1 hc2 hf2 hsp hc hb2 hd1 ho1 hd2 ho2
  generalize w2.setCell ⟨B, k, none⟩ (.string s) = w3 at *
  go_wp2
  go_ret
  exact ⟨rfl, hd3.setn _, ho3.set _ _⟩

theorem write_any {w : World} {B : Nat} {D : DS} (h : DiskAt w B D) (h0 : 0 ≤ D.l) (hm : D.l ≤ 9223372036854775807) (hn0 : 0 ≤ D.n) (hn : D.n < 9223372036854775807) (i : Int) (s : ByteArray) :
    Calls Try.prog 31 #[.pointer (some ⟨B, 0, none⟩), .int .i64 i, .string s] w fun e w' => e = .returned (.int .i64 (wres D i s)) ∧ DiskAt w' B (wst D i s) ∧ Off B w w' := by
  unfold wres wst
  by_cases hi : inSec i = false
  · rw [if_pos hi, if_pos hi]
    exact (write_sector s hi).mono fun e w' ⟨he, hw⟩ => by subst hw; exact ⟨he, h, Off.refl _ _⟩
  · rw [if_neg hi, if_neg hi]
    have hi' : inSec i = true := by simpa using hi
    by_cases hs : 512 < s.size
    · rw [if_pos hs, if_pos hs]
      exact (write_size s hi' hs).mono fun e w' ⟨he, hw⟩ => by subst hw; exact ⟨he, h, Off.refl _ _⟩
    · rw [if_neg hs, if_neg hs]
      by_cases hb : stuck D = true
      · rw [if_pos hb, if_pos hb]
        exact write_dead h h0 hm s hi' (by omega) hb
      · rw [if_neg hb, if_neg hb]
        obtain ⟨ha, hc⟩ := inSec_iff.1 hi'
        obtain ⟨k, rfl⟩ := Int.eq_ofNat_of_zero_le ha
        exact write_ok h h0 hm hn0 hn s (by omega) (by omega) (by simpa using hb)
end Go.Proofs.Ytikaeblmjlfgcaa
