/- theirs: puts as the document's answer has them; by-name template. -/
import Derived.Test.YtikaeblmjlfgcaaRefCheck
import Derived.Maps.AppendAt
namespace Go.Proofs.Ytikaeblmjlfgcaa
open Go.RowKit
set_option linter.unusedVariables false

def pcells (L : List Pt) : List Value := L.flatMap fun p => [.int .i64 p.slot, .string p.val, .bool p.gone]
theorem pcells_len (L : List Pt) : (pcells L).length = L.length * 3 := by
  induction L with
  | nil => rfl
  | cons p L ih => show ([_, _, _] ++ pcells L).length = _; simp [ih]; omega
theorem pcells_get : ∀ (L : List Pt) (i : Nat) (p : Pt), L[i]? = some p → (pcells L)[i * 3]? = some (.int .i64 p.slot) ∧ (pcells L)[i * 3 + 1]? = some (.string p.val) ∧ (pcells L)[i * 3 + 2]? = some (.bool p.gone)
  | [], i, p, h => by simp at h
  | q :: L, 0, p, h => by
    simp at h
    subst h
    exact ⟨rfl, rfl, rfl⟩
  | q :: L, i + 1, p, h => by
    have ih := pcells_get L i p (by simpa using h)
    have e : ∀ j, (pcells (q :: L))[(i + 1) * 3 + j]? = (pcells L)[i * 3 + j]? := by
      intro j
      show ([_, _, _] ++ pcells L)[_]? = _
      rw [List.getElem?_append_right (by simp; omega)]
      congr 1
      simp
      omega
    exact ⟨(e 0).trans ih.1, (e 1).trans ih.2.1, (e 2).trans ih.2.2⟩

/-- A row that the call owns, and that holds these puts, reads as them. -/
theorem puts_of_row {w : World} {base : Nat} {e : TypeId} {v : Value} {L : List Pt} (h : w.ownsRow base e 3 v L.length (pcells L)) (hl : L.length ≤ 9223372036854775807) (hw : ∀ p ∈ L, i64ok p.slot ∧ p.val.size ≤ 9223372036854775807) :
    ∃ a cap, v = .slice a L.length cap ∧ PutsAt w a L := by
  rcases h.2 with ⟨rfl, h0⟩ | ⟨g, cap, cur, rfl, hb, hg, hnc, hcm, hcs, htake⟩
  · have : L = [] := List.length_eq_zero_iff.1 h0
    subst this
    exact ⟨none, 0, rfl, by simp, fun i p hi => by simp at hi⟩
  · refine ⟨some ⟨g, 0, none⟩, cap, rfl, hl, fun i p hi => ⟨g, 0, rfl, (Array.getElem?_eq_some_iff.1 hg).1, ?_⟩⟩
    obtain ⟨h1, h2, h3⟩ := pcells_get L i p hi
    have hil : i < L.length := (List.getElem?_eq_some_iff.1 hi).1
    have hc : ∀ j, j < L.length * 3 → w.cell? ⟨g, j, none⟩ = (pcells L)[j]? := by
      intro j hj
      have e1 : w.cell? ⟨g, j, none⟩ = cur[j]? := by simp [World.cell?, hg]
      rw [e1, ← htake, List.getElem?_take_of_lt hj]
      simp
    obtain ⟨w1, w2⟩ := hw p (List.mem_of_getElem? hi)
    exact ⟨by rw [Nat.zero_add, hc _ (by omega)]; exact h1, by rw [Nat.zero_add, hc _ (by omega)]; exact h2, by rw [Nat.zero_add, hc _ (by omega)]; exact h3, w1, w2⟩

theorem rput_info : (Try.prog.info? 56).map (fun i => (i.zero, i.size, i.bytes)) = some (some (.agg #[.int .i64 0, .string ByteArray.empty, .bool false]), 3, 32) := by kernel_rfl

def TheirsPost (L : List Pt) (w : World) (e : Ending) (w' : World) : Prop := ∃ a cap, e = .returned (.slice a L.length cap) ∧ PutsAt w' a L ∧ Below w.heap.size w w'

set_option maxHeartbeats 2000000 in
set_option maxRecDepth 100000 in
theorem theirs_any {a : Option Addr} {L : List Pt} (cap : Nat) {w : World} (h : PutsAt w a L) (hsz : L.length * 32 ≤ 140737488355328) : Calls Try.prog 9 #[.slice a L.length cap] w (TheirsPost L w) := by
  obtain ⟨i0, hi, hz0, hz1, hz2⟩ := info_parts rput_info
  have hl := h.1
  have HS := Lib.hid h
  clear h
  generalize hlen : L.length = len at *
  have HL := Lib.hid hlen
  clear hlen
  go_enter Try.func9, Try.ntmps9
  go_wp2_with fail
  go_loopw [3, 4] (fun v c wr => ∃ k : Nat, k ≤ len ∧ c = .int .i64 (k : Int) ∧ wr.ownsRow w.heap.size 56 3 v k (pcells (L.take k)) ∧ Below w.heap.size w wr) (fun _ c _ => len - (intOf c).toNat)
  case atStart => exact ⟨0, by omega, rfl, World.ownsRow_made w #[] 0 (Nat.le_refl _) (by unfold maxLen; omega) rfl, (Below.refl _ _).alloc (Nat.le_refl _) _⟩
  case round =>
    obtain ⟨k, hk, rfl, hown, hB⟩ := hrel
    have hBs := hB.size
    by_cases hlt : k < len
    · obtain ⟨b, off, p, ha, hb, hp, hst0⟩ := HS.out.get (k := k) (by rw [HL.out]; exact hlt)
      have hst := hst0.block (hB.block b hb)
      have g1 := hst.cs
      have g2 := hst.cv
      have g3 := hst.cg
      have HA : Hid (pcells (L.take k) ++ [.int .i64 p.slot, .string p.val, .bool p.gone] = pcells (L.take (k + 1))) := Lib.hid (by rw [take_succ_of hp]; simp [pcells])
      subst ha
      clear hst0 hp hst
      go_wp2_with (at_builtin; refine wpList_append_own _ rfl _ _ 34 rfl w.heap.size 56 i0 (.agg #[.int .i64 0, .string ByteArray.empty, .bool false]) 3 32 Try.underlying34 hi hz0 hz1 hz2 rfl (by decide) _ _ _ rfl (hown.alloc _) ⟨wr.heap.size, 0, none⟩ 1 1 [.int .i64 p.slot, .string p.val, .bool p.gone] rfl rfl ?c1 ?c2 ?c3 ?c4 ?c5 ?_)
      case c1 =>
        have hn := Blk.new wr #[.int .i64 p.slot, .string p.val, .bool p.gone] 56
        intro j u hj
        have hj3 : j < 3 := (List.getElem?_eq_some_iff.1 hj).1
        have e : (⟨wr.heap.size, 0, none⟩ : Addr).add j = ⟨wr.heap.size, j, none⟩ := by unfold Addr.add; split <;> simp_all
        rw [e, hn.cell j]
        simpa using hj
      case c2 => intro u hu; simp at hu; rcases hu with rfl | rfl | rfl <;> rfl
      case c3 => unfold maxLen; omega
      case c4 => omega
      case c5 => simp; omega
      intro v' w2 hown' hgrow _
      rw [HA.out] at hown'
      have hB2 := (hB.alloc hB.size (.cells #[.int .i64 p.slot, .string p.val, .bool p.gone] 56)).grown hgrow (by simp; omega) (fun k hk => (hown.lt k hk).1)
      clear hown hB g1 g2 g3 hgrow
      go_wp2
      go_roundw
      case rel => exact ⟨k + 1, by omega, by go_num, hown', hB2⟩
      case measure => simp [intOf]; omega
    · obtain rfl : k = len := by omega
      have hw : ∀ p ∈ L, i64ok p.slot ∧ p.val.size ≤ 9223372036854775807 := fun p hp => by
        obtain ⟨i, hi, hip⟩ := List.getElem_of_mem hp
        obtain ⟨_, _, _, _, hs⟩ := HS.out.2 i p (by rw [List.getElem?_eq_getElem hi, hip])
        exact ⟨hs.ws, hs.wv⟩
      rw [List.take_of_length_le (by rw [HL.out]; omega)] at hown
      rw [← HL.out] at hown
      obtain ⟨a', cap', rfl, hpu⟩ := puts_of_row hown (by rw [HL.out]; exact hl) hw
      rw [HL.out]
      go_wp2
      go_ret
      exact ⟨a', cap', by rw [HL.out]; rfl, hpu, hB⟩
end Go.Proofs.Ytikaeblmjlfgcaa
