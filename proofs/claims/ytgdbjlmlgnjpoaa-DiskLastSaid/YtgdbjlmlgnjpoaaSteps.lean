/- The script that comes in, and 'heavy'; by-name template. -/
import Derived.Test.YtgdbjlmlgnjpoaaDisk
import Derived.LoopTactic
namespace Go.Proofs.Ytgdbjlmlgnjpoaa
open Go.RowKit

structure Stp where
  kind : Int
  n : Int
  text : ByteArray

def i64ok (n : Int) : Prop := -9223372036854775808 ≤ n ∧ n ≤ 9223372036854775807

structure StpAt (w : World) (b o : Nat) (s : Stp) : Prop where
  ck : w.cell? ⟨b, o, none⟩ = some (.int .i64 s.kind)
  cn : w.cell? ⟨b, o + 1, none⟩ = some (.int .i64 s.n)
  ct : w.cell? ⟨b, o + 2, none⟩ = some (.string s.text)
  wk : i64ok s.kind
  wn : i64ok s.n
  wt : s.text.size ≤ 9223372036854775807

def StepsAt (w : World) (a : Option Addr) (L : List Stp) : Prop :=
  L.length ≤ 9223372036854775807 ∧ ∀ i s, L[i]? = some s → ∃ b off, a = some ⟨b, off, none⟩ ∧ b < w.heap.size ∧ StpAt w b (off + i * 3) s

theorem StepsAt.at {w : World} {a : Option Addr} {L : List Stp} (h : StepsAt w a L) (hn : 0 < L.length) : ∃ b off, a = some ⟨b, off, none⟩ ∧ b < w.heap.size ∧ ∀ i s, L[i]? = some s → StpAt w b (off + i * 3) s := by
  obtain ⟨b, off, ha, hb, _⟩ := h.2 0 L[0] (by simp [hn])
  refine ⟨b, off, ha, hb, fun i s hi => ?_⟩
  obtain ⟨b', off', ha', _, hs⟩ := h.2 i s hi
  rw [ha] at ha'
  simp only [Option.some.injEq, Addr.mk.injEq] at ha'
  obtain ⟨rfl, rfl, _⟩ := ha'
  exact hs

theorem StepsAt.below {w w' : World} {a : Option Addr} {L : List Stp} {N : Nat} (h : StepsAt w a L) (hw : Below N w w') (hN : w.heap.size ≤ N) : StepsAt w' a L := by
  refine ⟨h.1, fun i s hi => ?_⟩
  obtain ⟨b, off, ha, hb, hs⟩ := h.2 i s hi
  refine ⟨b, off, ha, Nat.lt_of_lt_of_le hb hw.size, ?_⟩
  have e : ∀ o, w'.cell? ⟨b, o, none⟩ = w.cell? ⟨b, o, none⟩ := fun o => hw.cell (p := ⟨b, o, none⟩) (by show b < N; omega)
  exact ⟨by rw [e]; exact hs.ck, by rw [e]; exact hs.cn, by rw [e]; exact hs.ct, hs.wk, hs.wn, hs.wt⟩

theorem StpAt.block {w w' : World} {b o : Nat} {s : Stp} (h : StpAt w b o s) (e : w'.heap[b]? = w.heap[b]?) : StpAt w' b o s := by
  have e2 : ∀ o, w'.cell? ⟨b, o, none⟩ = w.cell? ⟨b, o, none⟩ := fun o => World.cell?_of_block (w := w) (a := ⟨b, o, none⟩) e
  exact ⟨by rw [e2]; exact h.ck, by rw [e2]; exact h.cn, by rw [e2]; exact h.ct, h.wk, h.wn, h.wt⟩

theorem StepsAt.get {w : World} {a : Option Addr} {L : List Stp} (h : StepsAt w a L) {k : Nat} (hk : k < L.length) : ∃ b off s, a = some ⟨b, off, none⟩ ∧ b < w.heap.size ∧ L[k]? = some s ∧ StpAt w b (off + k * 3) s := by
  have e : L[k]? = some L[k] := by simp [hk]
  obtain ⟨b, off, ha, hb, hs⟩ := h.2 k _ e
  exact ⟨b, off, _, ha, hb, e, hs⟩

def HeavyPost (L : List Stp) (w : World) (e : Ending) (w' : World) : Prop := ∃ b, e = .returned (.bool b) ∧ (b = false → L.length ≤ 1024) ∧ w = w'

set_option maxHeartbeats 1000000 in
theorem heavy_any {a : Option Addr} {L : List Stp} (cap : Nat) {w : World} (h : StepsAt w a L) : Calls Try.prog 8 #[.slice a L.length cap] w (HeavyPost L w) := by
  have hl := h.1
  have hat := h.at
  clear h
  generalize hlen : L.length = len at *
  have HL := Lib.hid hlen
  clear hlen
  have HA := Lib.hid hat
  clear hat
  go_enter Try.func8, Try.ntmps8
  go_wp2
  go_loop [3, 4] (fun n i => ∃ (k : Nat) (m : Int), k ≤ len ∧ 0 ≤ m ∧ m ≤ 9223372036854775807 ∧ i = .int .i64 (k : Int) ∧ n = .int .i64 m) (fun _ i => len - (intOf i).toNat)
  case atStart => exact ⟨0, len, by omega, by omega, by omega, rfl, rfl⟩
  case round =>
    obtain ⟨k, m, hk, hm0, hm1, rfl, rfl⟩ := hrel
    by_cases hlt : k < len
    · by_cases hm : m ≤ 262144
      · obtain ⟨b, off, ha, hb, hs⟩ := HA.out (by omega)
        obtain ⟨s, hs0⟩ : ∃ s, L[k]? = some s := ⟨L[k]'(by rw [HL.out]; exact hlt), by simp [HL.out, hlt]⟩
        have hst := hs k s hs0
        have h3 := hst.ct
        have hw := hst.wt
        clear hs hs0 hst
        subst ha
        have hmn : 0 ≤ min (s.text.size : Int) 1048576 := by omega
        have hmx : min (s.text.size : Int) 1048576 ≤ 1048576 := by omega
        go_wp2
        go_round
        case rel => exact ⟨k + 1, m + min (s.text.size : Int) 1048576, by omega, by omega, by omega, by go_num, by go_num⟩
        case measure => simp [intOf]; omega
      · go_wp2
        go_ret
        exact ⟨true, rfl, by simp, rfl⟩
    · by_cases hm : m ≤ 262144
      · by_cases hb : len ≤ 1024
        · go_wp2
          go_ret
          exact ⟨_, rfl, fun _ => by rw [HL.out]; exact hb, rfl⟩
        · go_wp2
          go_ret
          exact ⟨_, rfl, by simp; omega, rfl⟩
      · go_wp2
        go_ret
        exact ⟨true, rfl, by simp, rfl⟩
end Go.Proofs.Ytgdbjlmlgnjpoaa
