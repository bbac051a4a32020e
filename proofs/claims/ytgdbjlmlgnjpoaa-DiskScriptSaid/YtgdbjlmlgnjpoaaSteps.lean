/- The script that comes in, and 'heavy'; by-name template. -/
import Derived.Test.YtgdbjlmlgnjpoaaDisk
import Derived.LoopTactic
namespace Go.Proofs.Ytgdbjlmlgnjpoaa
open Go.RowKit

structure Stp where
  kind : Int
  n : Int
  text : ByteArray

def i64ok (n : Int) : Prop := -9223372036854775808 ≤ n ∧ n ≤ 9223372036854775807

structure StpAt (w : World) (b o : Nat) (s : Stp) : Prop where
  ck : w.cell? ⟨b, o, none⟩ = some (.int .i64 s.kind)
  cn : w.cell? ⟨b, o + 1, none⟩ = some (.int .i64 s.n)
  ct : w.cell? ⟨b, o + 2, none⟩ = some (.string s.text)
  wk : i64ok s.kind
  wn : i64ok s.n
  wt : s.text.size ≤ 9223372036854775807

def StepsAt (w : World) (a : Option Addr) (L : List Stp) : Prop :=
  L.length ≤ 9223372036854775807 ∧ ∀ i s, L[i]? = some s → ∃ b off, a = some ⟨b, off, none⟩ ∧ b < w.heap.size ∧ StpAt w b (off + i * 3) s

theorem StepsAt.at {w : World} {a : Option Addr} {L : List Stp} (h : StepsAt w a L) (hn : 0 < L.length) : ∃ b off, a = some ⟨b, off, none⟩ ∧ b < w.heap.size ∧ ∀ i s, L[i]? = some s → StpAt w b (off + i * 3) s := by
  obtain ⟨b, off, ha, hb, _⟩ := h.2 0 L[0] (by simp [hn])
  refine ⟨b, off, ha, hb, fun i s hi => ?_⟩
  obtain ⟨b', off', ha', _, hs⟩ := h.2 i s hi
  rw [ha] at ha'
  simp only [Option.some.injEq, Addr.mk.injEq] at ha'
  obtain ⟨rfl, rfl, _⟩ := ha'
  exact hs

theorem StepsAt.below {w w' : World} {a : Option Addr} {L : List Stp} {N : Nat} (h : StepsAt w a L) (hw : Below N w w') (hN : w.heap.size ≤ N) : StepsAt w' a L := by
  refine ⟨h.1, fun i s hi => ?_⟩
  obtain ⟨b, off, ha, hb, hs⟩ := h.2 i s hi
  refine ⟨b, off, ha, Nat.lt_of_lt_of_le hb hw.size, ?_⟩
  have e : ∀ o, w'.cell? ⟨b, o, none⟩ = w.cell? ⟨b, o, none⟩ := fun o => hw.cell (p := ⟨b, o, none⟩) (by show b < N; omega)
  exact ⟨by rw [e]; exact hs.ck, by rw [e]; exact hs.cn, by rw [e]; exact hs.ct, hs.wk, hs.wn, hs.wt⟩

theorem StpAt.block {w w' : World} {b o : Nat} {s : Stp} (h : StpAt w b o s) (e : w'.heap[b]? = w.heap[b]?) : StpAt w' b o s := by
  have e2 : ∀ o, w'.cell? ⟨b, o, none⟩ = w.cell? ⟨b, o, none⟩ := fun o => World.cell?_of_block (w := w) (a := ⟨b, o, none⟩) e
  exact ⟨by rw [e2]; exact h.ck, by rw [e2]; exact h.cn, by rw [e2]; exact h.ct, h.wk, h.wn, h.wt⟩

theorem StepsAt.get {w : World} {a : Option Addr} {L : List Stp} (h : StepsAt w a L) {k : Nat} (hk : k < L.length) : ∃ b off s, a = some ⟨b, off, none⟩ ∧ b < w.heap.size ∧ L[k]? = some s ∧ StpAt w b (off + k * 3) s := by
  have e : L[k]? = some L[k] := by simp [hk]
  obtain ⟨b, off, ha, hb, hs⟩ := h.2 k _ e
  exact ⟨b, off, _, ha, hb, e, hs⟩

def HeavyPost (L : List Stp) (w : World) (e : Ending) (w' : World) : Prop := ∃ b, e = .returned (.bool b) ∧ (b = false → L.length ≤ 1024) ∧ w = w'

set_option maxHeartbeats 1000000 in
theorem heavy_any {a : Option Addr} {L : List Stp} (cap : Nat) {w : World} (h : StepsAt w a L) : Calls Try.prog 8 #[.slice a L.length cap] w (HeavyPost L w) := by
  have hl := h.1
  have hat := h.at
  clear h
  generalize hlen : L.length = len at *
  have HL := Lib.hid hlen
  clear hlen
  have HA := Lib.hid hat
  clear hat
  go_enter Try.func8, Try.ntmps8
  go_wp2
  go_loop [3, 4] (fun n i => ∃ (k : Nat) (m : Int), k ≤ len ∧ 0 ≤ m ∧ m ≤ 9223372036854775807 ∧ i = .int .i64 (k : Int) ∧ n = .int .i64 m) (fun _ i => len - (intOf i).toNat)
  case atStart => exact ⟨0, len, by omega, by omega, by omega, rfl, rfl⟩
  case round =>
    obtain ⟨k, m, hk, hm0, hm1, rfl, rfl⟩ := hrel
    by_cases hlt : k < len
    · by_cases hm : m ≤ 262144
      · obtain ⟨b, off, ha, hb, hs⟩ := HA.out (by omega)
        obtain ⟨s, hs0⟩ : ∃ s, L[k]? = some s := ⟨L[k]'(by rw [HL.out]; exact hlt), by simp [HL.out, hlt]⟩
        have hst := hs k s hs0
        have h3 := hst.ct
        have hw := hst.wt
        clear hs hs0 hst
        subst ha
        have hmn : 0 ≤ min (s.text.size : Int) 1048576 := by omega
        have hmx : min (s.text.size : Int) 1048576 ≤ 1048576 := by omega
        go_wp2
        go_round
        case rel => exact ⟨k + 1, m + min (s.text.size : Int) 1048576, by omega, by omega, by omega, by go_num, by go_num⟩
        case measure => simp [intOf]; omega
      · go_wp2
        go_ret
        exact ⟨true, rfl, by simp, rfl⟩
    · by_cases hm : m ≤ 262144
      · by_cases hb : len ≤ 1024
        · go_wp2
          go_ret
          exact ⟨_, rfl, fun _ => by rw [HL.out]; exact hb, rfl⟩
        · go_wp2
          go_ret
          exact ⟨_, rfl, by simp; omega, rfl⟩
      · go_wp2
        go_ret
        exact ⟨true, rfl, by simp, rfl⟩
/-- A disk with power on which nothing is ordered, after at most k writes. -/
structure Calm (D : DS) (k : Nat) : Prop where
  c : D.c = false
  d : D.d = false
  l0 : 0 ≤ D.l
  l1 : D.l ≤ 9223372036854775807
  n0 : 0 ≤ D.n
  n1 : D.n ≤ k
  s : D.S.length = 160

theorem Calm.stuck {D : DS} {k : Nat} (h : Calm D k) : stuck D = false := by simp [Ytgdbjlmlgnjpoaa.stuck, h.c, h.d]
theorem Calm.spent {D : DS} {k : Nat} (h : Calm D k) : spent D = D := by simp [Ytgdbjlmlgnjpoaa.spent, h.c, h.d]
theorem calm0 : Calm D0 0 := ⟨rfl, rfl, by decide, by decide, by decide, by decide, rfl⟩
theorem Calm.wst {D : DS} {k : Nat} (h : Calm D k) (i : Int) (s : ByteArray) : Calm (wst D i s) (k + 1) := by
  have n0 := h.n0
  have n1 := h.n1
  unfold Ytgdbjlmlgnjpoaa.wst
  rw [h.stuck, h.spent]
  split
  · exact ⟨h.c, h.d, h.l0, h.l1, h.n0, by omega, h.s⟩
  · split
    · exact ⟨h.c, h.d, h.l0, h.l1, h.n0, by omega, h.s⟩
    · exact ⟨h.c, h.d, h.l0, h.l1, by simp; omega, by simp; omega, by simp [h.s]⟩
theorem Calm.res {D : DS} {k : Nat} (h : Calm D k) {i : Int} {s : ByteArray} (h0 : 0 ≤ i) (h1 : i < 160) (hs : s.size ≤ 512) : wres D i s = 0 := by
  simp [wres, inSec_yes h0 h1, h.stuck, Nat.not_lt.2 hs]
theorem Calm.hit {D : DS} {k : Nat} (h : Calm D k) {j : Nat} (hj : j < 160) {s : ByteArray} (hs : s.size ≤ 512) : (Ytgdbjlmlgnjpoaa.wst D (j : Int) s).S.getD j ByteArray.empty = s := by
  simp [Ytgdbjlmlgnjpoaa.wst, inSec_yes (i := (j : Int)) (by omega) (by omega), h.stuck, h.spent, Nat.not_lt.2 hs, h.s, hj]
theorem Calm.big {D : DS} {i : Int} {s : ByteArray} (hs : 512 < s.size) : Ytgdbjlmlgnjpoaa.wst D i s = D := by
  simp [Ytgdbjlmlgnjpoaa.wst, hs]
theorem Calm.miss {D : DS} {k : Nat} (h : Calm D k) {j : Nat} {i : Int} (hij : i ≠ j) (s : ByteArray) : (Ytgdbjlmlgnjpoaa.wst D i s).S.getD j ByteArray.empty = D.S.getD j ByteArray.empty := by
  unfold Ytgdbjlmlgnjpoaa.wst
  rw [h.stuck, h.spent]
  split
  · rfl
  · rename_i hi
    split
    · rfl
    · have := (inSec_iff (i := i)).1 (by simpa using hi)
      have hne : i.toNat ≠ j := by omega
      simp [hne]

theorem D0_get (j : Nat) : D0.S.getD j ByteArray.empty = ByteArray.empty := by
  show (List.replicate 160 ByteArray.empty).getD j _ = _
  rw [List.getD_eq_getElem?_getD, List.getElem?_replicate]
  split <;> rfl


theorem Calm.power {D : DS} {k : Nat} (h : Calm D k) {z : Int} (hz : i64ok z) : Calm { { D with c := true, l := max z 0 } with d := false, c := false } k := by
  obtain ⟨a, b⟩ := hz
  refine ⟨rfl, rfl, ?_, ?_, h.n0, h.n1, h.s⟩
  · show 0 ≤ max z 0
    omega
  · show max z 0 ≤ _
    omega
theorem Calm.mono {D : DS} {k l : Nat} (h : Calm D k) (hl : k ≤ l) : Calm D l := ⟨h.c, h.d, h.l0, h.l1, h.n0, by have := h.n1; omega, h.s⟩
theorem Calm.n {D : DS} {k : Nat} (h : Calm D k) {i : Int} (h0 : 0 ≤ i) (h1 : i < 160) {s : ByteArray} (hs : s.size ≤ 512) : (Ytgdbjlmlgnjpoaa.wst D i s).n = D.n + 1 := by
  simp [Ytgdbjlmlgnjpoaa.wst, inSec_yes h0 h1, h.stuck, h.spent, Nat.not_lt.2 hs]
theorem Calm.hit2 {D : DS} {k : Nat} (h : Calm D k) {i : Int} (h0 : 0 ≤ i) (h1 : i < 160) {s : ByteArray} (hs : s.size ≤ 512) : (Ytgdbjlmlgnjpoaa.wst D i s).S.getD i.toNat ByteArray.empty = s := by
  obtain ⟨j, rfl⟩ := Int.eq_ofNat_of_zero_le h0
  exact h.hit (by omega) hs
theorem wres_no {D : DS} {i : Int} {s : ByteArray} (h : inSec i = false) : wres D i s = 10 := by simp [wres, h]
theorem wres_big {D : DS} {i : Int} {s : ByteArray} (h0 : 0 ≤ i) (h1 : i < 160) (hs : 512 < s.size) : wres D i s = 11 := by simp [wres, inSec_yes h0 h1, hs]
theorem wst_no {D : DS} {i : Int} {s : ByteArray} (h : inSec i = false) : wst D i s = D := by simp [wst, h]

theorem read_in {w : World} {B : Nat} {D : DS} (h : DiskAt w B D) {i : Int} (h0 : 0 ≤ i) (h1 : i < 160) : Calls Try.prog 14 #[.pointer (some ⟨B, 0, none⟩), .int .i64 i] w fun e w' => e = .returned (.tuple #[.string (D.S.getD i.toNat ByteArray.empty), .int .i64 0]) ∧ w = w' := by
  obtain ⟨j, rfl⟩ := Int.eq_ofNat_of_zero_le h0
  exact read_at h (by omega)

theorem DiskAt.alloc {w : World} {B : Nat} {D : DS} (h : DiskAt w B D) (o : Obj) : DiskAt (w.alloc o) B D :=
  ⟨h.1, by rw [Below.heap_alloc _ _ _ h.lt]; exact h.2⟩

def IntsAt (w : World) (a : Option Addr) (Z : List Int) : Prop :=
  Z.length ≤ 9223372036854775807 ∧ ∀ i z, Z[i]? = some z → ∃ b off, a = some ⟨b, off, none⟩ ∧ b < w.heap.size ∧ w.cell? ⟨b, off + i, none⟩ = some (.int .i64 z) ∧ i64ok z

theorem IntsAt.get {w : World} {a : Option Addr} {Z : List Int} (h : IntsAt w a Z) {k : Nat} (hk : k < Z.length) : ∃ b off z, a = some ⟨b, off, none⟩ ∧ b < w.heap.size ∧ w.cell? ⟨b, off + k, none⟩ = some (.int .i64 z) ∧ i64ok z := by
  have e : Z[k]? = some Z[k] := by simp [hk]
  obtain ⟨b, off, ha, hb, hc, hs⟩ := h.2 k _ e
  exact ⟨b, off, _, ha, hb, hc, hs⟩
end Go.Proofs.Ytgdbjlmlgnjpoaa
