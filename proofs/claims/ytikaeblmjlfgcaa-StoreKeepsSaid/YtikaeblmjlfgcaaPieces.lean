/- pieces; by-name template. -/
import Derived.Test.YtikaeblmjlfgcaaPuts
import Derived.Deep.RegionHeld3
import Derived.Deep.DrawnRows
import Derived.Deep.AppendLies
import Derived.Maps.AppendAt
namespace Go.Proofs.Ytikaeblmjlfgcaa
open Go.RowKit
set_option linter.unusedVariables false
attribute [local go_sem ↓] Go.wp_at_zero Go.wp_at_succ

def qcells (L : List Pc) : List Value := L.flatMap fun q => [.int .i64 q.slot, .int .i64 (q.num : Int), .string q.text]
theorem qcells_get : ∀ (L : List Pc) (i : Nat) (q : Pc), L[i]? = some q → (qcells L)[i * 3]? = some (.int .i64 q.slot) ∧ (qcells L)[i * 3 + 1]? = some (.int .i64 (q.num : Int)) ∧ (qcells L)[i * 3 + 2]? = some (.string q.text)
  | [], i, q, h => by simp at h
  | r :: L, 0, q, h => by
    simp at h
    subst h
    exact ⟨rfl, rfl, rfl⟩
  | r :: L, i + 1, q, h => by
    have ih := qcells_get L i q (by simpa using h)
    have e : ∀ j, (qcells (r :: L))[(i + 1) * 3 + j]? = (qcells L)[i * 3 + j]? := by
      intro j
      show ([_, _, _] ++ qcells L)[_]? = _
      rw [List.getElem?_append_right (by simp; omega)]
      congr 1
      simp
      omega
    exact ⟨(e 0).trans ih.1, (e 1).trans ih.2.1, (e 2).trans ih.2.2⟩

structure PcAt (w : World) (b o : Nat) (q : Pc) : Prop where
  cs : w.cell? ⟨b, o, none⟩ = some (.int .i64 q.slot)
  cn : w.cell? ⟨b, o + 1, none⟩ = some (.int .i64 (q.num : Int))
  ct : w.cell? ⟨b, o + 2, none⟩ = some (.string q.text)
/-- Pieces at an address, in a block from 'base' on. -/
def PcsAt (w : World) (base : Nat) (a : Option Addr) (L : List Pc) : Prop :=
  ∀ i q, L[i]? = some q → ∃ b off, a = some ⟨b, off, none⟩ ∧ base ≤ b ∧ b < w.heap.size ∧ PcAt w b (off + i * 3) q
theorem pcs_of_row {w : World} {base : Nat} {e : TypeId} {v : Value} {L : List Pc} (h : w.ownsRow base e 3 v L.length (qcells L)) :
    ∃ a cap, v = .slice a L.length cap ∧ L.length ≤ cap ∧ PcsAt w base a L := by
  rcases h.2 with ⟨rfl, h0⟩ | ⟨g, cap, cur, rfl, hb, hg, hnc, hcm, hcs, htake⟩
  · have : L = [] := List.length_eq_zero_iff.1 h0
    subst this
    exact ⟨none, 0, rfl, by simp, fun i p hi => by simp at hi⟩
  · refine ⟨some ⟨g, 0, none⟩, cap, rfl, hnc, fun i p hi => ⟨g, 0, rfl, hb, (Array.getElem?_eq_some_iff.1 hg).1, ?_⟩⟩
    obtain ⟨h1, h2, h3⟩ := qcells_get L i p hi
    have hil : i < L.length := (List.getElem?_eq_some_iff.1 hi).1
    have hc : ∀ j, j < L.length * 3 → w.cell? ⟨g, j, none⟩ = (qcells L)[j]? := by
      intro j hj
      have e1 : w.cell? ⟨g, j, none⟩ = cur[j]? := by simp [World.cell?, hg]
      rw [e1, ← htake, List.getElem?_take_of_lt hj]
      simp
    exact ⟨by rw [Nat.zero_add, hc _ (by omega)]; exact h1, by rw [Nat.zero_add, hc _ (by omega)]; exact h2, by rw [Nat.zero_add, hc _ (by omega)]; exact h3⟩

theorem ownsRow_apart {w : World} {base bx : Nat} {e t : TypeId} {v : Value} {n : Nat} {xs : List Value} {cs : Array Value} (h : w.ownsRow base e 3 v n xs) (hb : Blk w bx cs t) (ht : t ≠ e) : v.ownBlock ≠ some bx := by
  intro he
  rcases h.2 with ⟨rfl, _⟩ | ⟨g, cap', cur, rfl, _, hg, _⟩
  · cases he
  · have : g = bx := by simpa [Value.ownBlock] using he
    subst this
    unfold Blk at hb
    rw [hb] at hg
    simp at hg
    exact ht hg.2

theorem piece_info : (Try.prog.info? 85).map (fun i => (i.zero, i.size, i.bytes)) = some (some (.agg #[.int .i64 0, .int .i64 0, .string ByteArray.empty]), 3, 32) := by kernel_rfl

def PiecesPost (L : List Pt) (w : World) (e : Ending) (w' : World) : Prop := ∃ a cap, e = .returned (.slice a (pieces L).length cap) ∧ (pieces L).length ≤ cap ∧ PcsAt w' w.heap.size a (pieces L) ∧ Below w.heap.size w w'

set_option maxHeartbeats 4000000 in
set_option maxRecDepth 100000 in
theorem pieces_any {a : Option Addr} {L : List Pt} (cap : Nat) {w : World} (h : PutsAt w a L) (hc : Chk L 0) : Calls Try.prog 29 #[.slice a L.length cap] w (PiecesPost L w) := by
  obtain ⟨i0, hi, hz0, hz1, hz2⟩ := info_parts piece_info
  have hl := h.1
  have HS := Lib.hid h
  have HCK := Lib.hid hc
  clear h hc
  generalize hlen : L.length = len at *
  have HL := Lib.hid hlen
  clear hlen
  go_enter Try.func29, Try.ntmps29
  go_wp2_with fail
  go_loopw [3, 11] (fun v c wr => ∃ k : Nat, k ≤ len ∧ c = .int .i64 (k : Int) ∧ wr.ownsRow w.heap.size 85 3 v (pieces (L.take k)).length (qcells (pieces (L.take k))) ∧ Below w.heap.size w wr) (fun _ c _ => len - (intOf c).toNat)
  case atStart => exact ⟨0, by omega, rfl, World.ownsRow_nil _ _ _ _, Below.refl _ _⟩
  case round =>
    obtain ⟨k, hk, rfl, hown, hB⟩ := hrel
    have hBs := hB.size
    by_cases hlt : k < len
    · obtain ⟨b, off, p, ha, hb, hp, hst0⟩ := HS.out.get (k := k) (by rw [HL.out]; exact hlt)
      have hst := hst0.block (hB.block b hb)
      have g1 := hst.cs
      have g2 := hst.cv
      have g3 := hst.cg
      have HPS : Hid (pieces (L.take (k + 1)) = pieces (L.take k) ++ pcs p) := Lib.hid (by rw [take_succ_of hp]; simp [pieces])
      have HP := Lib.hid hp
      subst ha
      clear hst0 hst hp
      cases hg : p.gone
      · rw [hg] at g3
        have hvb : p.val.size ≤ 4096 := by
          have := (HCK.out.ok rfl).2.1 p (mem_of_get HP.out)
          unfold bigP at this
          simp [hg] at this
          exact this
        have HG := Lib.hid hg
        clear hg
        obtain ⟨wo, hwo⟩ : ∃ wo, wo = wr := ⟨_, rfl⟩
        rw [← hwo] at hown hB hBs g1 g2 g3 ⊢
        clear hwo
        go_wp2_with fail
        have hcm : max 1 (((p.val.size : Int) + 512 - 1) / 512) = ((cnt p.val.size : Nat) : Int) := by unfold cnt; omega
        rw [hcm]
        have hm8 := cnt_le hvb
        have hmz : cnt p.val.size * 512 ≤ p.val.size + 512 ∧ (1 < cnt p.val.size → cnt p.val.size * 512 ≤ p.val.size + 511) := by unfold cnt; omega
        have HPC : Hid (pcs p = (List.range (cnt p.val.size)).map fun j => ⟨p.slot, j, chunk p.val j⟩) := Lib.hid (by unfold pcs; rw [HG.out]; simp)
        have HLE : Hid ((pieces (L.take k)).length + cnt p.val.size ≤ 64) := Lib.hid (by
          have h1 := pieces_len HCK.out
          have h2 : pieces L = pieces (L.take (k + 1)) ++ pieces (L.drop (k + 1)) := by unfold pieces; rw [← List.flatMap_append, List.take_append_drop]
          rw [h2, HPS.out, HPC.out] at h1
          simp at h1
          omega)
        have hbx := Blk.new wo #[.int .i64 p.slot, .string p.val, .bool false] 49
        have hown1 := hown.alloc (.cells #[.int .i64 p.slot, .string p.val, .bool false] 49)
        have hB1 := hB.alloc hB.size (.cells #[.int .i64 p.slot, .string p.val, .bool false] 49)
        clear hcm hown hB g1 g2 g3
        generalize wo.alloc (.cells #[.int .i64 p.slot, .string p.val, .bool false] 49) = w1 at *
        generalize cnt p.val.size = m at *
        generalize pieces (L.take k) = A at *
        obtain ⟨bx, hbxe⟩ : ∃ bx, bx = wo.heap.size := ⟨_, rfl⟩
        rw [← hbxe] at hbx hBs ⊢
        clear hbxe
        go_loopw [3, 24, 6, 7, 8] (fun v c _ _ _ wr => ∃ j : Nat, j ≤ m ∧ c = .int .i64 (j : Int) ∧ wr.ownsRow w.heap.size 85 3 v (A.length + j) (qcells (A ++ (pcs p).take j)) ∧ Blk wr bx #[.int .i64 p.slot, .string p.val, .bool false] 49 ∧ Below w.heap.size w wr) (fun _ c _ _ _ _ => m - (intOf c).toNat)
        case atStart => exact ⟨0, by omega, rfl, by simpa using hown1, hbx, hB1⟩
        case round =>
          clear hown1 hbx hB1
          obtain ⟨j, hj, rfl, hown, hbx, hB⟩ := hrel
          have hBs2 := hB.size
          by_cases hjm : j < m
          · have HLE' := HLE.out
            have hbl := hbx.lt
            have g1 : wr.cell? ⟨bx, 0, none⟩ = some (.int .i64 p.slot) := hbx.cell 0
            have g2 : wr.cell? ⟨bx, 1, none⟩ = some (.string p.val) := hbx.cell 1
            have hne := ownsRow_apart hown hbx (by decide)
            have j0 : (0 : Int) ≤ (j : Int) * 512 := by omega
            have j1 : (j : Int) * 512 ≤ min ((j : Int) * 512 + 512) (p.val.size : Int) := by omega
            have j2 : min ((j : Int) * 512 + 512) (p.val.size : Int) ≤ (p.val.size : Int) := by omega
            have j3 : (0 : Int) ≤ min ((j : Int) * 512 + 512) (p.val.size : Int) := by omega
            have j4 : ((j : Int) * 512).toNat = j * 512 := by omega
            have j5 : (min ((j : Int) * 512 + 512) (p.val.size : Int)).toNat = min (j * 512 + 512) p.val.size := by omega
            have HQ : Hid (qcells (A ++ (pcs p).take j) ++ [.int .i64 p.slot, .int .i64 (j : Int), .string (p.val.extract (j * 512) (min (j * 512 + 512) p.val.size))] = qcells (A ++ (pcs p).take (j + 1))) := Lib.hid (by
              have e : (pcs p)[j]? = some ⟨p.slot, j, chunk p.val j⟩ := by rw [HPC.out]; simp [hjm]
              rw [take_succ_of e]
              simp [qcells, chunk])
            have hm1 : A.length + j + 1 ≤ maxLen := by unfold maxLen; omega
            have hm2 : (A.length + j + 1) * 32 ≤ 140737488355328 := by omega
            go_wp2_with fail
            go_region_held3 (fun w' => w'.cell? ⟨bx, 0, none⟩ = some (.int .i64 p.slot) ∧ w'.cell? ⟨bx, 1, none⟩ = some (.string p.val))
              (first
                | go_keep
                | (go_split_ands
                   refine ⟨?_, ?_⟩
                   · (rw [hgrow.cell_far _ (by simp; omega) (Ne.symm hne)]; go_keep)
                   · (rw [hgrow.cell_far _ (by simp; omega) (Ne.symm hne)]; go_keep)))
              ((refine step_append_lies _ (by rfl) _ _ _ (by rfl) w.heap.size 85 i0 _ 3 32 Try.underlying79 hi hz0 hz1 hz2 rfl (by omega) _ _ _ (by rfl) ((hown.alloc _).drew)
                  ⟨wr.heap.size, 0, none⟩ 1 1 [.int .i64 p.slot, .int .i64 (j : Int), .string (p.val.extract (j * 512) (min (j * 512 + 512) p.val.size))] (by rfl) (by rfl) (World.news_of_block (cs := #[.int .i64 p.slot, .int .i64 (j : Int), .string (p.val.extract (j * 512) (min (j * 512 + 512) p.val.size))]) (t := 85) (fr := (0, 0)) (heap_alloc_new wr _)) (by simp [Value.oneCell'])
                  (by omega) hm1 hm2 (by simp; omega) (wr.heap.size + 1) (by simp) ?_; intro g3 cap3 w3 hown3 hgrow hat hlt3))
            rw [HQ.out] at hown3
            have hB3 := ((hB.alloc hB.size (.cells #[.int .i64 p.slot, .int .i64 (j : Int), .string (p.val.extract (j * 512) (min (j * 512 + 512) p.val.size))] 85)).drew).grown hgrow (by simp; omega) (fun k hk => (hown.lt k hk).1)
            have hbx3 : Blk w3 bx #[.int .i64 p.slot, .string p.val, .bool false] 49 := by
              unfold Blk
              rw [hgrow.block bx (by simp; omega) (Ne.symm hne)]
              exact (hbx.alloc (.cells #[.int .i64 p.slot, .int .i64 (j : Int), .string (p.val.extract (j * 512) (min (j * 512 + 512) p.val.size))] 85)).drew
            have hown4 : w3.ownsRow w.heap.size 85 3 (.slice (some ⟨g3, 0, none⟩) (A.length + j + 1) cap3) (A.length + (j + 1)) (qcells (A ++ (pcs p).take (j + 1))) := hown3
            clear hown hown3 hB hbx hgrow hat hne HQ j4 j5
            go_wp2
            go_roundw
            case rel => exact ⟨j + 1, by omega, by go_num, hown4, hbx3, hB3⟩
            case measure => simp [intOf]; omega
          · obtain rfl : j = m := by omega
            have hpl : (pcs p).length = j := by rw [HPC.out]; simp
            rw [List.take_of_length_le (by omega), ← HPS.out] at hown
            have hle : A.length + j = (pieces (L.take (k + 1))).length := by rw [HPS.out, List.length_append, hpl]
            rw [hle] at hown
            go_wp2
            go_roundw
            case rel => exact ⟨k + 1, by omega, by go_num, hown, hB⟩
            case measure => simp [intOf]; omega
      · rw [hg] at g3
        have HPS2 : Hid (pieces (L.take (k + 1)) = pieces (L.take k)) := Lib.hid (by rw [HPS.out]; simp [pcs, hg])
        clear hg
        go_wp2_with fail
        go_roundw
        case rel => exact ⟨k + 1, by omega, by go_num, by rw [HPS2.out]; exact hown.alloc _, hB.alloc hB.size _⟩
        case measure => simp [intOf]; omega
    · obtain rfl : k = len := by omega
      rw [List.take_of_length_le (by rw [HL.out]; omega)] at hown
      obtain ⟨a', cap', rfl, hcl, hpu⟩ := pcs_of_row hown
      go_wp2
      go_ret
      exact ⟨a', cap', rfl, hcl, hpu, hB⟩
end Go.Proofs.Ytikaeblmjlfgcaa
