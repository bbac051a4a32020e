/- Lists of puts in memory, and what is told of them; by-name template. -/
import Derived.Test.YtikaeblmjlfgcaaGetTwo
import Derived.Deep.QuietTactic
namespace Go.Proofs.Ytikaeblmjlfgcaa
open Go.RowKit
set_option linter.unusedVariables false

def i64ok (n : Int) : Prop := -9223372036854775808 ≤ n ∧ n ≤ 9223372036854775807

structure PutAt (w : World) (b o : Nat) (p : Pt) : Prop where
  cs : w.cell? ⟨b, o, none⟩ = some (.int .i64 p.slot)
  cv : w.cell? ⟨b, o + 1, none⟩ = some (.string p.val)
  cg : w.cell? ⟨b, o + 2, none⟩ = some (.bool p.gone)
  ws : i64ok p.slot
  wv : p.val.size ≤ 9223372036854775807

def PutsAt (w : World) (a : Option Addr) (L : List Pt) : Prop :=
  L.length ≤ 9223372036854775807 ∧ ∀ i p, L[i]? = some p → ∃ b off, a = some ⟨b, off, none⟩ ∧ b < w.heap.size ∧ PutAt w b (off + i * 3) p

theorem PutAt.block {w w' : World} {b o : Nat} {p : Pt} (h : PutAt w b o p) (e : w'.heap[b]? = w.heap[b]?) : PutAt w' b o p := by
  have e2 : ∀ o, w'.cell? ⟨b, o, none⟩ = w.cell? ⟨b, o, none⟩ := fun o => World.cell?_of_block (w := w) (a := ⟨b, o, none⟩) e
  exact ⟨by rw [e2]; exact h.cs, by rw [e2]; exact h.cv, by rw [e2]; exact h.cg, h.ws, h.wv⟩
theorem PutsAt.below {w w' : World} {a : Option Addr} {L : List Pt} {N : Nat} (h : PutsAt w a L) (hw : Below N w w') (hN : w.heap.size ≤ N) : PutsAt w' a L := by
  refine ⟨h.1, fun i p hi => ?_⟩
  obtain ⟨b, off, ha, hb, hs⟩ := h.2 i p hi
  exact ⟨b, off, ha, Nat.lt_of_lt_of_le hb hw.size, hs.block (hw.block b (by omega))⟩
theorem PutsAt.get {w : World} {a : Option Addr} {L : List Pt} (h : PutsAt w a L) {k : Nat} (hk : k < L.length) : ∃ b off p, a = some ⟨b, off, none⟩ ∧ b < w.heap.size ∧ L[k]? = some p ∧ PutAt w b (off + k * 3) p := by
  have e : L[k]? = some L[k] := by simp [hk]
  obtain ⟨b, off, ha, hb, hs⟩ := h.2 k _ e
  exact ⟨b, off, _, ha, hb, e, hs⟩
theorem take_succ_of {α : Type} {L : List α} {k : Nat} {p : α} (h : L[k]? = some p) : L.take (k + 1) = L.take k ++ [p] := by
  rw [List.take_add_one, h]
  rfl
theorem mem_of_get {α : Type} {L : List α} {k : Nat} {p : α} (h : L[k]? = some p) : p ∈ L := List.mem_of_getElem? h

def CheckPost (L : List Pt) (w : World) (e : Ending) (w' : World) : Prop := ∃ c, e = .returned (.int .i64 c) ∧ Chk L c ∧ Below w.heap.size w w'

def bcells (f : Nat → Bool) : Array Value := ((List.range 8).map fun j => Value.bool (f j)).toArray
theorem bcells_set (f : Nat → Bool) (j : Nat) (v : Bool) : (bcells f).setIfInBounds j (.bool v) = bcells fun i => if i = j then v else f i := by
  unfold bcells
  apply Array.toList_inj.1
  simp
  apply List.ext_getElem
  · simp
  · intro i h1 h2
    simp at h1
    rw [List.getElem_set]
    by_cases e : j = i
    · subst e; simp
    · simp [e, Ne.symm e]
theorem bcells_get (f : Nat → Bool) {j : Nat} (hj : j < 8) : (bcells f)[j]? = some (.bool (f j)) := by
  simp [bcells, hj]
theorem zero_named (w : World) : (zeroValue 31).run Try.prog w = .ok (.agg (bcells fun _ => false)) w := by kernel_rfl

set_option maxHeartbeats 2000000 in
set_option maxRecDepth 100000 in
theorem check_any {a : Option Addr} {L : List Pt} (cap : Nat) {w : World} (h : PutsAt w a L) : Calls Try.prog 20 #[.slice a L.length cap] w (CheckPost L w) := by
  have hl := h.1
  have HS := Lib.hid h
  clear h
  have hz := zero_named
  generalize hlen : L.length = len at *
  have HL := Lib.hid hlen
  clear hlen
  go_enter Try.func20, Try.ntmps20
  go_wp2_with fail
  go_loopw [12] (fun c wr => ∃ k : Nat, k ≤ len ∧ c = .int .i64 (k : Int) ∧ Hid (∀ p ∈ L.take k, slotOk p.slot) ∧ Below w.heap.size w wr) (fun c _ => len - (intOf c).toNat)
  case atStart => exact ⟨0, by omega, rfl, Lib.hid (by simp), Below.refl _ _⟩
  case round =>
    obtain ⟨k, hk, rfl, HK, hB⟩ := hrel
    have hBs := hB.size
    by_cases hlt : k < len
    · obtain ⟨b, off, p, ha, hb, hp, hst0⟩ := HS.out.get (k := k) (by rw [HL.out]; exact hlt)
      have HP := Lib.hid hp
      have hst := hst0.block (hB.block b hb)
      have g1 := hst.cs
      have g2 := hst.cv
      have g3 := hst.cg
      subst ha
      clear hst0 hp
      by_cases hok : 0 ≤ p.slot ∧ p.slot < 8
      · obtain ⟨o1, o2⟩ := hok
        have HK2 : Hid (∀ q ∈ L.take (k + 1), slotOk q.slot) := Lib.hid fun q hq => by
          rw [take_succ_of HP.out] at hq
          rcases List.mem_append.1 hq with hq | hq
          · exact HK.out q hq
          · rw [List.mem_singleton.1 hq]; exact ⟨o1, o2⟩
        go_wp2_with (go_at_call 24; refine (hasSlot_yes (by omega) (by omega) _).mono ?_; rintro e w' ⟨rfl, rfl⟩)
        go_roundw
        case rel => exact ⟨k + 1, by omega, by go_num, HK2, hB.alloc hB.size _⟩
        case measure => simp [intOf]; omega
      · have hno : p.slot < 0 ∨ 8 ≤ p.slot := by omega
        have HC : Hid (Chk L 20) := Lib.hid (.inl ⟨rfl, p, mem_of_get HP.out, fun ⟨x, y⟩ => hok ⟨x, y⟩⟩)
        clear hok
        go_wp2_with (go_at_call 24; refine (hasSlot_no (by omega) _).mono ?_; rintro e w' ⟨rfl, rfl⟩)
        go_ret
        exact ⟨20, rfl, HC.out, hB.alloc hB.size _⟩
    · have HOK : Hid (∀ p ∈ L, slotOk p.slot) := Lib.hid fun p hp => HK.out p (by rw [List.take_of_length_le (by rw [HL.out]; omega)]; exact hp)
      clear HK
      obtain ⟨w1, hw1⟩ : ∃ w1, w1 = wr := ⟨_, rfl⟩
      rw [← hw1] at hB hBs ⊢
      clear hw1
      go_wp2_with fail
      clear hlt hk
      go_loopw [23] (fun c wr => ∃ k : Nat, k ≤ len ∧ c = .int .i64 (k : Int) ∧ Hid (∀ p ∈ L.take k, ¬ bigP p) ∧ Below w.heap.size w wr) (fun c _ => len - (intOf c).toNat)
      case atStart => exact ⟨0, by omega, rfl, Lib.hid (by simp), hB⟩
      case round =>
        clear hB hBs
        obtain ⟨k, hk, rfl, HK, hB⟩ := hrel
        have hBs := hB.size
        by_cases hlt : k < len
        · obtain ⟨b, off, p, ha, hb, hp, hst0⟩ := HS.out.get (k := k) (by rw [HL.out]; exact hlt)
          have HP := Lib.hid hp
          have hst := hst0.block (hB.block b hb)
          have g1 := hst.cs
          have g2 := hst.cv
          have g3 := hst.cg
          have gw := hst.wv
          subst ha
          clear hst0 hp
          have HK2 : ¬ bigP p → Hid (∀ q ∈ L.take (k + 1), ¬ bigP q) := fun hnb => Lib.hid fun q hq => by
            rw [take_succ_of HP.out] at hq
            rcases List.mem_append.1 hq with hq | hq
            · exact HK.out q hq
            · rw [List.mem_singleton.1 hq]; exact hnb
          have HB : bigP p → Hid (Chk L 11) := fun hb => Lib.hid (.inr (.inl ⟨rfl, HOK.out, p, mem_of_get HP.out, hb⟩))
          have HH2 := Lib.hid HK2
          have HH3 := Lib.hid HB
          clear HK2 HB
          cases hg : p.gone
          · rw [hg] at g3
            by_cases hbig : 4096 < p.val.size
            · have HC := HH3.out ⟨hg, hbig⟩
              clear hg
              go_wp2
              go_ret
              exact ⟨11, rfl, HC.out, hB.alloc hB.size _⟩
            · have HN := HH2.out (fun hb => hbig hb.2)
              clear hg
              go_wp2
              go_roundw
              case rel => exact ⟨k + 1, by omega, by go_num, HN, hB.alloc hB.size _⟩
              case measure => simp [intOf]; omega
          · rw [hg] at g3
            have HN := HH2.out (fun hb => by have := hb.1; rw [hg] at this; cases this)
            clear hg
            go_wp2
            go_roundw
            case rel => exact ⟨k + 1, by omega, by go_num, HN, hB.alloc hB.size _⟩
            case measure => simp [intOf]; omega
        · have HNB : Hid (∀ p ∈ L, ¬ bigP p) := Lib.hid fun p hp => HK.out p (by rw [List.take_of_length_le (by rw [HL.out]; omega)]; exact hp)
          clear HK
          obtain ⟨w2, hw2⟩ : ∃ w2, w2 = wr := ⟨_, rfl⟩
          rw [← hw2] at hB hBs ⊢
          clear hw2
          go_wp2_with fail
          clear hlt hk
          have hN0 : Blk (w2.alloc (.cells (bcells fun _ => false) 31)) w2.heap.size (bcells fun _ => false) 31 := Blk.new _ _ _
          have hB0 := hB.alloc hB.size (.cells (bcells fun _ => false) 31)
          generalize w2.alloc (.cells (bcells fun _ => false) 31) = w3 at *
          obtain ⟨nb, hnb⟩ : ∃ nb, nb = w2.heap.size := ⟨_, rfl⟩
          rw [← hnb] at hN0 hBs ⊢
          clear hnb hB hz
          go_loopw [39] (fun c wr => ∃ (k : Nat) (f : Nat → Bool), k ≤ len ∧ c = .int .i64 (k : Int) ∧ Hid ((∀ j : Nat, j < 8 → (f j = true ↔ ∃ p ∈ L.take k, p.slot = (j : Int))) ∧ ((L.take k).map Pt.slot).Nodup) ∧ Blk wr nb (bcells f) 31 ∧ Below w.heap.size w wr) (fun c _ => len - (intOf c).toNat)
          case atStart => exact ⟨0, fun _ => false, by omega, rfl, Lib.hid ⟨by simp, by simp⟩, hN0, hB0⟩
          case round =>
            clear hN0 hB0
            obtain ⟨k, f, hk, rfl, HF, hN, hB⟩ := hrel
            have hBs2 := hB.size
            have hnl := hN.lt
            by_cases hlt : k < len
            · obtain ⟨b, off, p, ha, hb, hp, hst0⟩ := HS.out.get (k := k) (by rw [HL.out]; exact hlt)
              have HP := Lib.hid hp
              have hst := hst0.block (hB.block b hb)
              have hsl := HOK.out p (mem_of_get hp)
              obtain ⟨s0, s1⟩ := hsl
              obtain ⟨j, hj⟩ := Int.eq_ofNat_of_zero_le s0
              have g1 := hst.cs
              have g2 := hst.cv
              have g3 := hst.cg
              rw [hj] at g1 s1
              have HJ := Lib.hid hj
              have hj8 : j < 8 := by omega
              have gc := (hN.cell j).trans (bcells_get f hj8)
              have gf := hN.free j
              have j0 : (0 : Int) ≤ (j : Int) := by omega
              subst ha
              clear hst0 hp hj s0
              cases hfj : f j
              · rw [hfj] at gc
                have HF2 : Hid ((∀ i : Nat, i < 8 → ((fun i => if i = j then true else f i) i = true ↔ ∃ q ∈ L.take (k + 1), q.slot = (i : Int))) ∧ ((L.take (k + 1)).map Pt.slot).Nodup) := Lib.hid (by
                  obtain ⟨h1, h2⟩ := HF.out
                  rw [take_succ_of HP.out]
                  constructor
                  · intro i hi
                    by_cases e : i = j
                    · subst e
                      simp
                      exact .inr HJ.out
                    · have hne : p.slot ≠ (i : Int) := by rw [HJ.out]; omega
                      simp [e, h1 i hi, hne]
                  · rw [List.map_append, List.nodup_append]
                    refine ⟨h2, by simp, ?_⟩
                    intro x hx y hy e
                    simp at hy
                    subst hy
                    obtain ⟨q, hq, rfl⟩ := List.mem_map.1 hx
                    have := (h1 j hj8).2 ⟨q, hq, by rw [e]; exact HJ.out⟩
                    rw [hfj] at this
                    cases this)
                have hN1 := hN.set j (.bool true)
                rw [bcells_set] at hN1
                have hN2 := hN1.alloc (.cells #[.int .i64 (j : Int), .string p.val, .bool p.gone] 49)
                have hB1 := hB.setCell (p := ⟨nb, j, none⟩) (by show w.heap.size ≤ nb; omega) (.bool true)
                have hB2 := hB1.alloc hB1.size (.cells #[.int .i64 (j : Int), .string p.val, .bool p.gone] 49)
                clear hN1 hB1
                clear hfj hN hB
                go_wp2
                go_roundw
                case rel => exact ⟨k + 1, _, by omega, by go_num, HF2, hN2, hB2⟩
                case measure => simp [intOf]; omega
              · rw [hfj] at gc
                have HC : Hid (Chk L 1) := Lib.hid (.inr (.inr (.inl ⟨rfl, HOK.out, HNB.out, fun hnd => by
                  obtain ⟨q, hq, he⟩ := (HF.out.1 j hj8).1 hfj
                  have h3 : ((L.take (k + 1)).map Pt.slot).Nodup := List.Nodup.sublist (List.Sublist.map _ (List.take_sublist _ _)) hnd
                  rw [take_succ_of HP.out, List.map_append, List.nodup_append] at h3
                  exact h3.2.2 q.slot (List.mem_map.2 ⟨q, hq, rfl⟩) p.slot (by simp) (by rw [he, HJ.out])⟩)))
                clear hfj
                go_wp2
                go_ret
                exact ⟨1, rfl, HC.out, hB.alloc hB.size _⟩
            · have HC : Hid (Chk L 0) := Lib.hid (.inr (.inr (.inr ⟨rfl, HOK.out, HNB.out, by
                have := HF.out.2
                rwa [List.take_of_length_le (by rw [HL.out]; omega)] at this⟩)))
              go_wp2
              go_ret
              exact ⟨0, rfl, HC.out, hB⟩
end Go.Proofs.Ytikaeblmjlfgcaa
