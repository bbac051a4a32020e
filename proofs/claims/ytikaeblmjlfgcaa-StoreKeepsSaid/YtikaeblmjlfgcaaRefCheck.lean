/- The document's Check; by-name template. -/
import Derived.Test.YtikaeblmjlfgcaaPuts
namespace Go.Proofs.Ytikaeblmjlfgcaa
open Go.RowKit
set_option linter.unusedVariables false

theorem _root_.Go.RowKit.Below.drewN {B : Nat} {a w : World} (h : Below B a w) (n : Nat) : Below B a (w.drewN n) := ⟨h.os, h.tape, h.output, h.size, h.block⟩

def RCheckPost (L : List Pt) (w : World) (e : Ending) (w' : World) : Prop := ∃ c, e = .returned (.int .i64 c) ∧ Chk L c ∧ Below w.heap.size w w'

set_option maxHeartbeats 2000000 in
set_option maxRecDepth 100000 in
theorem rcheck_any {a : Option Addr} {L : List Pt} (cap : Nat) {w : World} (h : PutsAt w a L) : Calls Try.prog 12 #[.slice a L.length cap] w (RCheckPost L w) := by
  have hl := h.1
  have HS := Lib.hid h
  clear h
  generalize hlen : L.length = len at *
  have HL := Lib.hid hlen
  clear hlen
  go_enter Try.func12, Try.ntmps12
  go_wp2_with fail
  go_loop [3] (fun c => ∃ k : Nat, k ≤ len ∧ c = .int .i64 (k : Int) ∧ Hid (∀ p ∈ L.take k, slotOk p.slot)) (fun c => len - (intOf c).toNat)
  case atStart => exact ⟨0, by omega, rfl, Lib.hid (by simp)⟩
  case round =>
    obtain ⟨k, hk, rfl, HK⟩ := hrel
    by_cases hlt : k < len
    · obtain ⟨b, off, p, ha, hb, hp, hst⟩ := HS.out.get (k := k) (by rw [HL.out]; exact hlt)
      have HP := Lib.hid hp
      have g1 := hst.cs
      subst ha
      clear hst hp
      have HC : ¬ (0 ≤ p.slot ∧ p.slot < 8) → Hid (Chk L 20) := fun hn => Lib.hid (.inl ⟨rfl, p, mem_of_get HP.out, fun ⟨x, y⟩ => hn ⟨x, y⟩⟩)
      have HH := Lib.hid HC
      clear HC
      by_cases s0 : 0 ≤ p.slot
      · by_cases s1 : p.slot < 8
        · have HK2 : Hid (∀ q ∈ L.take (k + 1), slotOk q.slot) := Lib.hid fun q hq => by
            rw [take_succ_of HP.out] at hq
            rcases List.mem_append.1 hq with hq | hq
            · exact HK.out q hq
            · rw [List.mem_singleton.1 hq]; exact ⟨s0, s1⟩
          go_wp2
          go_round
          case rel => exact ⟨k + 1, by omega, by go_num, HK2⟩
          case measure => simp [intOf]; omega
        · have HC := HH.out (fun h => s1 h.2)
          go_wp2
          go_ret
          exact ⟨20, rfl, HC.out, Below.refl _ _⟩
      · have HC := HH.out (fun h => s0 h.1)
        go_wp2
        go_ret
        exact ⟨20, rfl, HC.out, Below.refl _ _⟩
    · have HOK : Hid (∀ p ∈ L, slotOk p.slot) := Lib.hid fun p hp => HK.out p (by rw [List.take_of_length_le (by rw [HL.out]; omega)]; exact hp)
      clear HK
      go_wp2_with fail
      clear hlt hk
      go_loop [4] (fun c => ∃ k : Nat, k ≤ len ∧ c = .int .i64 (k : Int) ∧ Hid (∀ p ∈ L.take k, ¬ bigP p)) (fun c => len - (intOf c).toNat)
      case atStart => exact ⟨0, by omega, rfl, Lib.hid (by simp)⟩
      case round =>
        obtain ⟨k, hk, rfl, HK⟩ := hrel
        by_cases hlt : k < len
        · obtain ⟨b, off, p, ha, hb, hp, hst⟩ := HS.out.get (k := k) (by rw [HL.out]; exact hlt)
          have HP := Lib.hid hp
          have g2 := hst.cv
          have g3 := hst.cg
          have gw := hst.wv
          subst ha
          clear hst hp
          have HH2 : Hid (¬ bigP p → Hid (∀ q ∈ L.take (k + 1), ¬ bigP q)) := Lib.hid fun hnb => Lib.hid fun q hq => by
            rw [take_succ_of HP.out] at hq
            rcases List.mem_append.1 hq with hq | hq
            · exact HK.out q hq
            · rw [List.mem_singleton.1 hq]; exact hnb
          have HH3 : Hid (bigP p → Hid (Chk L 11)) := Lib.hid fun hb => Lib.hid (.inr (.inl ⟨rfl, HOK.out, p, mem_of_get HP.out, hb⟩))
          cases hg : p.gone
          · rw [hg] at g3
            by_cases hbig : 4096 < p.val.size
            · have HC := HH3.out ⟨hg, hbig⟩
              clear hg
              go_wp2
              go_ret
              exact ⟨11, rfl, HC.out, Below.refl _ _⟩
            · have HN := HH2.out (fun hb => hbig hb.2)
              clear hg
              go_wp2
              go_round
              case rel => exact ⟨k + 1, by omega, by go_num, HN⟩
              case measure => simp [intOf]; omega
          · rw [hg] at g3
            have HN := HH2.out (fun hb => by have := hb.1; rw [hg] at this; cases this)
            clear hg
            go_wp2
            go_round
            case rel => exact ⟨k + 1, by omega, by go_num, HN⟩
            case measure => simp [intOf]; omega
        · have HNB : Hid (∀ p ∈ L, ¬ bigP p) := Lib.hid fun p hp => HK.out p (by rw [List.take_of_length_le (by rw [HL.out]; omega)]; exact hp)
          clear HK
          go_wp2_with fail
          clear hlt hk
          go_loopw [5, 6] (fun c _ wr => ∃ k : Nat, k ≤ len ∧ c = .int .i64 (k : Int) ∧ Hid (((L.take k).map Pt.slot).Nodup) ∧ Below w.heap.size w wr) (fun c _ _ => len - (intOf c).toNat)
          case atStart => exact ⟨0, by omega, rfl, Lib.hid (by simp), Below.refl _ _⟩
          case round =>
            obtain ⟨k, hk, rfl, HK, hB⟩ := hrel
            by_cases hlt : k < len
            · obtain ⟨b, off, p, ha, hb, hp, hst⟩ := HS.out.get (k := k) (by rw [HL.out]; exact hlt)
              have HP := Lib.hid hp
              have HST := Lib.hid hst
              clear hp hst
              obtain ⟨w1, hw1⟩ : ∃ w1, w1 = wr := ⟨_, rfl⟩
              rw [← hw1] at hB ⊢
              clear hw1
              go_wp2_with fail
              go_loopw [6] (fun c wr => ∃ j : Nat, j ≤ k ∧ c = .int .i64 (j : Int) ∧ Hid (∀ q ∈ L.take j, q.slot ≠ p.slot) ∧ Below w.heap.size w wr) (fun c _ => k - (intOf c).toNat)
              case atStart => exact ⟨0, by omega, rfl, Lib.hid (by simp), hB⟩
              case round =>
                clear hB
                obtain ⟨j, hj, rfl, HJ, hB⟩ := hrel
                by_cases hjk : j < k
                · obtain ⟨b', off', q, ha', hb', hq, hsq0⟩ := HS.out.get (k := j) (by rw [HL.out]; omega)
                  obtain ⟨e1, e2⟩ : b' = b ∧ off' = off := by
                    rw [ha] at ha'
                    simp only [Option.some.injEq, Addr.mk.injEq] at ha'
                    exact ⟨ha'.1.symm, ha'.2.1.symm⟩
                  subst e1 e2
                  clear ha'
                  have HQ := Lib.hid hq
                  have hsq := hsq0.block (hB.block _ hb)
                  have hsp := HST.out.block (hB.block _ hb)
                  have g1 := hsq.cs
                  have g2 := hsp.cs
                  have HA := Lib.hid ha
                  have j0 : (0 : Int) ≤ (j : Int) := by omega
                  have j1 : (j : Int) < (len : Int) := by omega
                  have k0 : (0 : Int) ≤ (k : Int) := by omega
                  have k1 : (k : Int) < (len : Int) := by omega
                  have hap : a = some ⟨b', off', none⟩ := ha
                  clear hq ha hsq0
                  by_cases hs : q.slot = p.slot
                  · have hsb : (q.slot == p.slot) = true := by simpa using hs
                    have HC : Hid (Chk L 1) := Lib.hid (.inr (.inr (.inl ⟨rfl, HOK.out, HNB.out, fun hnd => by
                      have h3 : ((L.take (k + 1)).map Pt.slot).Nodup := List.Nodup.sublist (List.Sublist.map _ (List.take_sublist _ _)) hnd
                      rw [take_succ_of HP.out, List.map_append, List.nodup_append] at h3
                      refine h3.2.2 q.slot (List.mem_map.2 ⟨q, ?_, rfl⟩) p.slot (by simp) hs
                      exact List.mem_of_getElem? (i := j) (by rw [List.getElem?_take_of_lt hjk]; exact HQ.out)⟩)))
                    subst hap
                    clear hs
                    go_wp2_with fail
                    go_quiet (fail)
                    go_wp2
                    go_ret
                    exact ⟨1, rfl, HC.out, hB.drewN _⟩
                  · have hsb : (q.slot == p.slot) = false := by simpa using hs
                    have HJ2 : Hid (∀ q ∈ L.take (j + 1), q.slot ≠ p.slot) := Lib.hid fun r hr => by
                      rw [take_succ_of HQ.out] at hr
                      rcases List.mem_append.1 hr with hr | hr
                      · exact HJ.out r hr
                      · rw [List.mem_singleton.1 hr]; exact hs
                    subst hap
                    clear hs
                    go_wp2_with fail
                    go_quiet (fail)
                    go_wp2
                    go_roundw
                    case rel => exact ⟨j + 1, by omega, by go_num, HJ2, hB.drewN _⟩
                    case measure => simp [intOf]; omega
                · obtain rfl : j = k := by omega
                  have HK2 : Hid (((L.take (j + 1)).map Pt.slot).Nodup) := Lib.hid (by
                    rw [take_succ_of HP.out, List.map_append, List.nodup_append]
                    refine ⟨HK.out, by simp, ?_⟩
                    intro x hx y hy e
                    simp at hy
                    subst hy
                    obtain ⟨q, hq, rfl⟩ := List.mem_map.1 hx
                    exact HJ.out q hq e)
                  go_wp2
                  go_roundw
                  case rel => exact ⟨j + 1, by omega, by go_num, HK2, hB⟩
                  case measure => simp [intOf]; omega
            · have HC : Hid (Chk L 0) := Lib.hid (.inr (.inr (.inr ⟨rfl, HOK.out, HNB.out, by
                have := HK.out
                rwa [List.take_of_length_le (by rw [HL.out]; omega)] at this⟩)))
              go_wp2
              go_ret
              exact ⟨0, rfl, HC.out, hB⟩
end Go.Proofs.Ytikaeblmjlfgcaa
