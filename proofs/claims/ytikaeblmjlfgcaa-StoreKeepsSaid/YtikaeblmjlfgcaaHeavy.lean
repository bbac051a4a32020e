/- heavy; by-name template. -/
import Derived.Test.YtikaeblmjlfgcaaPuts
namespace Go.Proofs.Ytikaeblmjlfgcaa
open Go.RowKit
set_option linter.unusedVariables false

/-- Rows of puts: slices that stand every 'st' cells, from the cell 'o' on. -/
def RowsAt (w : World) (st o : Nat) (a : Option Addr) (X : List (List Pt)) : Prop :=
  X.length ≤ 9223372036854775807 ∧ ∀ i L, X[i]? = some L → ∃ b off a' cap', a = some ⟨b, off, none⟩ ∧ b < w.heap.size ∧ w.cell? ⟨b, off + i * st + o, none⟩ = some (.slice a' L.length cap') ∧ PutsAt w a' L
def Fits (X : List (List Pt)) : Prop := ∀ L ∈ X, L.length * 32 ≤ 140737488355328
theorem RowsAt.get {w : World} {st o : Nat} {a : Option Addr} {X : List (List Pt)} (h : RowsAt w st o a X) {k : Nat} (hk : k < X.length) : ∃ b off a' cap' L, a = some ⟨b, off, none⟩ ∧ b < w.heap.size ∧ X[k]? = some L ∧ w.cell? ⟨b, off + k * st + o, none⟩ = some (.slice a' L.length cap') ∧ PutsAt w a' L := by
  have e : X[k]? = some X[k] := by simp [hk]
  obtain ⟨b, off, a', cap', h1, h2, h3, h4⟩ := h.2 k _ e
  exact ⟨b, off, a', cap', _, h1, h2, e, h3, h4⟩
theorem RowsAt.below {w w' : World} {st o : Nat} {a : Option Addr} {X : List (List Pt)} {N : Nat} (h : RowsAt w st o a X) (hw : Below N w w') (hN : w.heap.size ≤ N) : RowsAt w' st o a X := by
  refine ⟨h.1, fun i L hi => ?_⟩
  obtain ⟨b, off, a', cap', h1, h2, h3, h4⟩ := h.2 i L hi
  exact ⟨b, off, a', cap', h1, Nat.lt_of_lt_of_le h2 hw.size, (hw.cell (p := ⟨b, off + i * st + o, none⟩) (by show b < N; omega)).trans h3, h4.below hw hN⟩

def HeavyPost (X : List (List Pt)) (w : World) (e : Ending) (w' : World) : Prop := ∃ b, e = .returned (.bool b) ∧ (b = false → X.length ≤ 512 ∧ ∀ L ∈ X, L.length ≤ 262144) ∧ w = w'

set_option maxHeartbeats 2000000 in
set_option maxRecDepth 100000 in
theorem heavy_any {a : Option Addr} {X : List (List Pt)} (cap : Nat) {w : World} (h : RowsAt w 3 2 a X) (hf : Fits X) : Calls Try.prog 7 #[.slice a X.length cap] w (HeavyPost X w) := by
  have hl := h.1
  have HS := Lib.hid h
  have HF := Lib.hid hf
  clear h hf
  generalize hlen : X.length = len at *
  have HL := Lib.hid hlen
  clear hlen
  go_enter Try.func7, Try.ntmps7
  go_wp2_with fail
  go_loop [3, 4, 5] (fun n i _ => ∃ (k : Nat) (m : Int), k ≤ len ∧ 0 ≤ m ∧ m ≤ 9223372036854775807 ∧ i = .int .i64 (k : Int) ∧ n = .int .i64 m ∧ Hid (∀ L ∈ X.take k, (L.length : Int) ≤ m)) (fun _ i _ => len - (intOf i).toNat)
  case atStart => exact ⟨0, len, by omega, by omega, by omega, rfl, rfl, Lib.hid (by simp)⟩
  case round =>
    obtain ⟨k, m, hk, hm0, hm1, rfl, rfl, HM⟩ := hrel
    by_cases hlt : k < len
    · by_cases hm : m ≤ 262144
      · obtain ⟨b, off, a', cap', L, ha, hb, hL, hc, hP⟩ := HS.out.get (k := k) (by rw [HL.out]; exact hlt)
        have hLf := HF.out L (mem_of_get hL)
        have HLk := Lib.hid hL
        have HP := Lib.hid hP
        subst ha
        clear hL hP
        have hLm : ((L.length : Int)) ≤ m + (L.length : Int) := by omega
        obtain ⟨ln, hln⟩ : ∃ ln, ln = L.length := ⟨_, rfl⟩
        rw [← hln] at hc hLf hLm
        have HLN := Lib.hid hln
        clear hln
        go_wp2_with fail
        go_loop [3, 5] (fun n j => ∃ (i : Nat) (m' : Int), i ≤ ln ∧ 0 ≤ m' ∧ m + (ln : Int) ≤ m' ∧ m' ≤ 9223372036854775807 ∧ j = .int .i64 (i : Int) ∧ n = .int .i64 m') (fun _ j => ln - (intOf j).toNat)
        case atStart => exact ⟨0, m + (ln : Int), by omega, by omega, by omega, by omega, rfl, rfl⟩
        case round =>
          obtain ⟨i, m', hi, h0', hmm, h1', rfl, rfl⟩ := hrel
          have HM2 : Hid (∀ L ∈ X.take (k + 1), (L.length : Int) ≤ m') := Lib.hid fun M hM => by
            rw [take_succ_of HLk.out] at hM
            rcases List.mem_append.1 hM with hM | hM
            · have := HM.out M hM
              omega
            · rw [List.mem_singleton.1 hM, ← HLN.out]
              omega
          by_cases hil : i < ln
          · by_cases hm2 : m' ≤ 262144
            · obtain ⟨b2, off2, p, ha2, hb2, hp2, hst⟩ := HP.out.get (k := i) (by rw [← HLN.out]; exact hil)
              have g2 := hst.cv
              have gw := hst.wv
              subst ha2
              clear hst hp2
              have x0 : 0 ≤ min (p.val.size : Int) 1048576 := by omega
              have x1 : min (p.val.size : Int) 1048576 ≤ 1048576 := by omega
              go_wp2
              go_round
              case rel => exact ⟨i + 1, m' + min (p.val.size : Int) 1048576, by omega, by omega, by omega, by omega, by go_num, by go_num⟩
              case measure => simp [intOf]; omega
            · go_wp2
              go_round
              case rel => exact ⟨k + 1, m', by omega, by omega, by omega, by go_num, rfl, HM2⟩
              case measure => simp [intOf]; omega
          · go_wp2
            go_round
            case rel => exact ⟨k + 1, m', by omega, by omega, by omega, by go_num, rfl, HM2⟩
            case measure => simp [intOf]; omega
      · go_wp2
        go_ret
        exact ⟨true, rfl, by simp, rfl⟩
    · by_cases hm : m ≤ 262144
      · have HALL : Hid (∀ L ∈ X, (L.length : Int) ≤ m) := Lib.hid fun L hL => HM.out L (by rw [List.take_of_length_le (by rw [HL.out]; omega)]; exact hL)
        by_cases hb : len ≤ 512
        · go_wp2
          go_ret
          exact ⟨_, rfl, fun _ => ⟨by rw [HL.out]; exact hb, fun L hL => by have := HALL.out L hL; omega⟩, rfl⟩
        · go_wp2
          go_ret
          exact ⟨_, rfl, by simp; omega, rfl⟩
      · go_wp2
        go_ret
        exact ⟨true, rfl, by simp, rfl⟩
end Go.Proofs.Ytikaeblmjlfgcaa
