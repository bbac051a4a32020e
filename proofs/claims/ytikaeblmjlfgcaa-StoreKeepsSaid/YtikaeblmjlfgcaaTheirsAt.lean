/- theirs, once more: and what it hands back is new; by-name template. -/
import Derived.Test.YtikaeblmjlfgcaaTheirs
import Derived.Test.YtikaeblmjlfgcaaSet
import Derived.Maps.AppendAt
namespace Go.Proofs.Ytikaeblmjlfgcaa
open Go.RowKit
set_option linter.unusedVariables false

def TheirsAtPost (L : List Pt) (w : World) (e : Ending) (w' : World) : Prop := ∃ a cap, e = .returned (.slice a L.length cap) ∧ PutsAt w' a L ∧ Below w.heap.size w w' ∧ ∀ x, a = some x → w.heap.size ≤ x.block
theorem base_of_row {w : World} {base : Nat} {e : TypeId} {n k cap : Nat} {xs : List Value} {a : Option Addr} (h : w.ownsRow base e 3 (.slice a n cap) k xs) : ∀ x, a = some x → base ≤ x.block := by
  rintro x rfl
  rcases h.2 with ⟨h1, _⟩ | ⟨g, c, cur, h1, hb, _⟩
  · cases h1
  · cases h1
    exact hb
theorem PutsAt.far {B S : Nat} {w w' : World} {a : Option Addr} {L : List Pt} (h : PutsAt w a L) (ho : Off2 B S w w') (hS : w.heap.size ≤ S) (hf : ∀ x, a = some x → x.block ≠ B) : PutsAt w' a L := by
  refine ⟨h.1, fun i p hi => ?_⟩
  obtain ⟨b, off, ha, hb, hp⟩ := h.2 i p hi
  exact ⟨b, off, ha, Nat.lt_of_lt_of_le hb ho.size, hp.block (ho.block b hb (hf _ ha) (by omega))⟩
theorem Off2.cell {B S : Nat} {w w' : World} (h : Off2 B S w w') {b : Nat} (o : Nat) (hb : b < w.heap.size) (h1 : b ≠ B) (h2 : b ≠ S) : w'.cell? ⟨b, o, none⟩ = w.cell? ⟨b, o, none⟩ := by
  unfold World.cell?
  rw [h.block b hb h1 h2]

set_option maxHeartbeats 2000000 in
set_option maxRecDepth 100000 in
theorem theirs_at {a : Option Addr} {L : List Pt} (cap : Nat) {w : World} (h : PutsAt w a L) (hsz : L.length * 32 ≤ 140737488355328) : Calls Try.prog 9 #[.slice a L.length cap] w (TheirsAtPost L w) := by
  obtain ⟨i0, hi, hz0, hz1, hz2⟩ := info_parts rput_info
  have hl := h.1
  have HS := Lib.hid h
  clear h
  generalize hlen : L.length = len at *
  have HL := Lib.hid hlen
  clear hlen
  go_enter Try.func9, Try.ntmps9
  go_wp2_with fail
  go_loopw [3, 4] (fun v c wr => ∃ k : Nat, k ≤ len ∧ c = .int .i64 (k : Int) ∧ wr.ownsRow w.heap.size 56 3 v k (pcells (L.take k)) ∧ Below w.heap.size w wr) (fun _ c _ => len - (intOf c).toNat)
  case atStart => exact ⟨0, by omega, rfl, World.ownsRow_made w #[] 0 (Nat.le_refl _) (by unfold maxLen; omega) rfl, (Below.refl _ _).alloc (Nat.le_refl _) _⟩
  case round =>
    obtain ⟨k, hk, rfl, hown, hB⟩ := hrel
    have hBs := hB.size
    by_cases hlt : k < len
    · obtain ⟨b, off, p, ha, hb, hp, hst0⟩ := HS.out.get (k := k) (by rw [HL.out]; exact hlt)
      have hst := hst0.block (hB.block b hb)
      have g1 := hst.cs
      have g2 := hst.cv
      have g3 := hst.cg
      have HA : Hid (pcells (L.take k) ++ [.int .i64 p.slot, .string p.val, .bool p.gone] = pcells (L.take (k + 1))) := Lib.hid (by rw [take_succ_of hp]; simp [pcells])
      subst ha
      clear hst0 hp hst
      go_wp2_with (at_builtin; refine wpList_append_own _ rfl _ _ 34 rfl w.heap.size 56 i0 (.agg #[.int .i64 0, .string ByteArray.empty, .bool false]) 3 32 Try.underlying34 hi hz0 hz1 hz2 rfl (by decide) _ _ _ rfl (hown.alloc _) ⟨wr.heap.size, 0, none⟩ 1 1 [.int .i64 p.slot, .string p.val, .bool p.gone] rfl rfl ?c1 ?c2 ?c3 ?c4 ?c5 ?_)
      case c1 =>
        have hn := Blk.new wr #[.int .i64 p.slot, .string p.val, .bool p.gone] 56
        intro j u hj
        have hj3 : j < 3 := (List.getElem?_eq_some_iff.1 hj).1
        have e : (⟨wr.heap.size, 0, none⟩ : Addr).add j = ⟨wr.heap.size, j, none⟩ := by unfold Addr.add; split <;> simp_all
        rw [e, hn.cell j]
        simpa using hj
      case c2 => intro u hu; simp at hu; rcases hu with rfl | rfl | rfl <;> rfl
      case c3 => unfold maxLen; omega
      case c4 => omega
      case c5 => simp; omega
      intro v' w2 hown' hgrow _
      rw [HA.out] at hown'
      have hB2 := (hB.alloc hB.size (.cells #[.int .i64 p.slot, .string p.val, .bool p.gone] 56)).grown hgrow (by simp; omega) (fun k hk => (hown.lt k hk).1)
      clear hown hB g1 g2 g3 hgrow
      go_wp2
      go_roundw
      case rel => exact ⟨k + 1, by omega, by go_num, hown', hB2⟩
      case measure => simp [intOf]; omega
    · obtain rfl : k = len := by omega
      have hw : ∀ p ∈ L, i64ok p.slot ∧ p.val.size ≤ 9223372036854775807 := fun p hp => by
        obtain ⟨i, hi, hip⟩ := List.getElem_of_mem hp
        obtain ⟨_, _, _, _, hs⟩ := HS.out.2 i p (by rw [List.getElem?_eq_getElem hi, hip])
        exact ⟨hs.ws, hs.wv⟩
      rw [List.take_of_length_le (by rw [HL.out]; omega)] at hown
      rw [← HL.out] at hown
      obtain ⟨a', cap', hva, hpu⟩ := puts_of_row hown (by rw [HL.out]; exact hl) hw
      have hbase : ∀ x, a' = some x → w.heap.size ≤ x.block := base_of_row (by rw [hva] at hown; exact hown)
      subst hva
      rw [HL.out]
      go_wp2
      go_ret
      exact ⟨a', cap', by rw [HL.out]; rfl, hpu, hB, hbase⟩
end Go.Proofs.Ytikaeblmjlfgcaa
