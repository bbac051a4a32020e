/- StoreFew's walk; by-name template. -/
import Derived.Test.YtikaeblmjlfgcaaDone
import Derived.Test.YtikaeblmjlfgcaaTheirs
import Derived.Test.YtikaeblmjlfgcaaRefCheck
namespace Go.Proofs.Ytikaeblmjlfgcaa
open Go.RowKit
set_option linter.unusedVariables false

theorem fits_one {L : List Pt} (h : L.length * 32 ≤ 140737488355328) : Fits [L] := by
  intro M hM
  simp at hM
  subst hM
  exact h

theorem new_at {w : World} {B : Nat} (hB : B = w.heap.size) : Calls Try.prog 8 #[] w fun e w' => e = .returned (.pointer (some ⟨B, 0, none⟩)) ∧ DiskAt w' B D0 ∧ Below B w w' ∧ B < w'.heap.size := by
  subst hB
  exact new_any w
theorem open_at (B : Nat) {w : World} {S : Nat} (hS : S = w.heap.size) : Calls Try.prog 10 #[.pointer (some ⟨B, 0, none⟩)] w fun e w' => e = .returned (.pointer (some ⟨S, 0, none⟩)) ∧ StoreAt w' S B B ∧ Below w.heap.size w w' ∧ S < w'.heap.size := by
  subst hS
  exact open_any B w
theorem Off2.toB {B S N : Nat} {w w' : World} (h : Off2 B S w w') (h0 : N ≤ w.heap.size) (h1 : N ≤ B) (h2 : N ≤ S) : Below N w w' :=
  ⟨h.os, h.tape, h.output, h.size, fun k hk => h.block k (by omega) (by omega) (by omega)⟩

def FewPost (w : World) (e : Ending) (w' : World) : Prop := e = .returned (.bool true) ∧ Below w.heap.size w w'

set_option maxHeartbeats 2000000 in
set_option maxRecDepth 100000 in
theorem few_any {a : Option Addr} {L : List Pt} (cap : Nat) {w : World} (h : PutsAt w a L) (hf : L.length * 32 ≤ 140737488355328) : Calls Try.prog 4 #[.slice a L.length cap] w (FewPost w) := by
  have hl := h.1
  have hrow := row_one cap h
  have hhv := heavy_any 1 hrow (fits_one hf)
  have hb1 : Below w.heap.size w (w.alloc (.cells #[.int .i64 0, .int .i64 0, .slice a L.length cap] 26)) := (Below.refl _ _).alloc (Nat.le_refl _) _
  have hs1 : w.heap.size < (w.alloc (.cells #[.int .i64 0, .int .i64 0, .slice a L.length cap] 26)).heap.size := (Blk.new w _ _).lt
  clear hrow
  go_enter Try.func4, Try.ntmps4
  go_wp2_with fail
  generalize w.alloc (.cells #[.int .i64 0, .int .i64 0, .slice a L.length cap] 26) = w1 at *
  refine hhv.mono ?_
  rintro e w1' ⟨b, rfl, hb, rfl⟩
  clear hhv
  cases b
  · clear hb
    have hP1 := h.below hb1 (Nat.le_refl _)
    obtain ⟨B, hB⟩ : ∃ B, B = w1.heap.size := ⟨_, rfl⟩
    have hnew := new_at hB
    have hB1 : w1.heap.size ≤ B := Nat.le_of_eq hB.symm
    have hB2 : B ≤ w1.heap.size := Nat.le_of_eq hB
    have HB := Lib.hid hB
    clear hB
    go_wp2_with fail
    refine hnew.mono ?_
    rintro e w2 ⟨rfl, hd2, hb2, hs2⟩
    have hbB : w.heap.size ≤ B := by omega
    have hP2 := hP1.below hb2 (by omega)
    have hBel2 := hb1.trans (hb2.mono hbB)
    clear hnew hP1
    obtain ⟨S, hSe⟩ : ∃ S, S = w2.heap.size := ⟨_, rfl⟩
    have hop := open_at B hSe
    have hS1 : w2.heap.size ≤ S := Nat.le_of_eq hSe.symm
    have hS2 : S ≤ w2.heap.size := Nat.le_of_eq hSe
    have HS := Lib.hid hSe
    clear hSe
    go_wp2_with fail
    refine hop.mono ?_
    rintro e w3 ⟨rfl, hS3, hb3, hs3⟩
    clear hop
    have hP3 := hP2.below hb3 (Nat.le_refl _)
    have hd3 := hd2.below hb3 hd2.lt
    have hSB : S ≠ B := by omega
    have hSw : w.heap.size ≤ S := by omega
    have hwB : w3.heap.size ≥ B := by omega
    have hset := set_done cap hP3 hS3 hd3 hSB sane_new (by decide)
    go_wp2_with fail
    refine hset.mono ?_
    rintro e w4 ⟨c, D, rfl, hd4, ho4, hdo⟩
    have hBel3 := hBel2.trans (hb3.mono hBel2.size)
    have hBel4 := hBel3.trans (ho4.toB hBel3.size hbB hSw)
    have hP4 := h.below hBel4 (Nat.le_refl _)
    obtain ⟨h12, -, -⟩ := hdo.calm rfl rfl
    have hck := hdo.chk h12
    have hn1 := hdo.le
    have hn2 := hdo.le2
    have hsame := hdo.same
    have hnw := hdo.new
    have Hd := Lib.hid hdo
    clear hset hdo hP2 hP3
    have hth := theirs_any cap hP4 hf
    go_wp2_with fail
    refine hth.mono ?_
    rintro e w5 ⟨a5, cap5, rfl, hP5, hb5⟩
    have hd5 := hd4.below hb5 hd4.lt
    have hBel5 := hBel4.trans (hb5.mono hBel4.size)
    have hrc := rcheck_any cap5 hP5
    clear hth
    go_wp2_with fail
    refine hrc.mono ?_
    rintro e w6 ⟨c', rfl, hck', hb6⟩
    obtain rfl := hck.uniq hck'
    have hd6 := hd5.below hb6 hd5.lt
    have hBel6 := hBel5.trans (hb6.mono hBel5.size)
    clear hrc hck' hP5 hP4
    have hwr := writes_any hd6
    by_cases hc0 : c = 0
    · subst hc0
      by_cases hL : L = []
      · have hD := (hsame (.inr hL)).2.2 h12
        subst hD
        subst hL
        go_wp2_with (go_at_call 14; refine hwr.mono ?_; rintro e w7 ⟨rfl, rfl⟩)
        go_ret
        exact ⟨rfl, hBel6⟩
      · obtain ⟨hlt, _⟩ := hnw rfl hL
        have hlen : 0 < L.length := List.length_pos_iff.2 hL
        have hlb : ((L.length : Int) == 0) = false := by rw [beq_eq_false_iff_ne]; omega
        have hz : D0.n = 0 := rfl
        have m0 : 1 ≤ D.n := by omega
        have m1 : D.n ≤ 80 := by omega
        go_wp2_with (go_at_call 14; refine hwr.mono ?_; rintro e w7 ⟨rfl, rfl⟩)
        go_ret
        exact ⟨rfl, hBel6⟩
    · have hD := (hsame (.inl hc0)).2.2 h12
      subst hD
      have hcb : (c == 0) = false := by simpa using hc0
      go_wp2_with (go_at_call 14; refine hwr.mono ?_; rintro e w7 ⟨rfl, rfl⟩)
      go_ret
      exact ⟨rfl, hBel6⟩
  · go_wp2_with fail
    go_ret
    exact ⟨rfl, hb1⟩
end Go.Proofs.Ytikaeblmjlfgcaa
