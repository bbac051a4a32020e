/- The document's values: After, Get; by-name template. -/
import Derived.Test.YtikaeblmjlfgcaaTheirs
namespace Go.Proofs.Ytikaeblmjlfgcaa
open Go.RowKit
set_option linter.unusedVariables false

def vcells (f : Nat → Option ByteArray) (N : Int) : Array Value :=
  ((List.range 8).map (fun s => Value.string ((f s).getD ByteArray.empty)) ++ (List.range 8).map (fun s => Value.bool (f s).isSome) ++ [Value.int .i64 N]).toArray
def upd (f : Nat → Option ByteArray) (p : Pt) : Nat → Option ByteArray := fun s => if (s : Int) = p.slot then newv p else f s
def afterF (f : Nat → Option ByteArray) (L : List Pt) : Nat → Option ByteArray := L.foldl upd f

theorem vcells_size (f : Nat → Option ByteArray) (N : Int) : (vcells f N).size = 17 := by simp [vcells]
theorem vcells_v (f : Nat → Option ByteArray) (N : Int) {j : Nat} (hj : j < 8) : (vcells f N)[j]? = some (.string ((f j).getD ByteArray.empty)) := by
  simp [vcells, List.getElem?_append, hj]
  try omega
theorem vcells_h (f : Nat → Option ByteArray) (N : Int) {j : Nat} (hj : j < 8) : (vcells f N)[8 + j]? = some (.bool (f j).isSome) := by
  simp [vcells, List.getElem?_append, hj]
theorem vcells_n (f : Nat → Option ByteArray) (N : Int) : (vcells f N)[16]? = some (.int .i64 N) := by
  simp [vcells]
theorem vcells_one (f : Nat → Option ByteArray) (N : Int) : (vcells f N).all (·.oneCell') = true := by
  rw [Array.all_eq_true_iff_forall_mem]
  intro v hv
  simp only [vcells, List.mem_toArray, List.mem_append, List.mem_map, List.mem_singleton] at hv
  rcases hv with (⟨x, _, rfl⟩ | ⟨x, _, rfl⟩) | rfl <;> rfl
theorem vcells_setn (f : Nat → Option ByteArray) (N M : Int) : (vcells f N).setIfInBounds 16 (.int .i64 M) = vcells f M := by
  apply Array.ext_getElem?
  intro i
  rw [Array.getElem?_setIfInBounds]
  by_cases h : 16 = i
  · subst h
    rw [if_pos rfl, if_pos (by rw [vcells_size]; omega), vcells_n]
  · rw [if_neg h]
    simp only [vcells, List.getElem?_toArray, List.getElem?_append, List.length_append, List.length_map, List.length_range]
    split
    · rfl
    · rw [List.getElem?_eq_none (by simp; omega), List.getElem?_eq_none (by simp; omega)]
theorem vcells_put (f : Nat → Option ByteArray) (N : Int) {j : Nat} (hj : j < 8) (o : Option ByteArray) :
    ((vcells f N).setIfInBounds (8 + j) (.bool o.isSome)).setIfInBounds j (.string (o.getD ByteArray.empty)) = vcells (fun s => if s = j then o else f s) N := by
  apply Array.ext_getElem?
  intro i
  rw [Array.getElem?_setIfInBounds, Array.getElem?_setIfInBounds]
  have hs : ((vcells f N).setIfInBounds (8 + j) (.bool o.isSome)).size = 17 := by simp [vcells_size]
  by_cases h1 : j = i
  · subst h1
    rw [if_pos rfl, hs, if_pos (by omega), vcells_v _ _ hj, if_pos rfl]
  · rw [if_neg h1]
    by_cases h2 : 8 + j = i
    · subst h2
      rw [if_pos rfl, vcells_size, if_pos (by omega), vcells_h _ _ hj, if_pos rfl]
    · rw [if_neg h2]
      by_cases h3 : i < 8
      · rw [vcells_v _ _ h3, vcells_v _ _ h3, if_neg (fun e => h1 e.symm)]
      · by_cases h4 : i < 16
        · obtain ⟨k, rfl⟩ := Nat.exists_eq_add_of_le (Nat.le_of_not_lt h3)
          rw [vcells_h _ _ (by omega), vcells_h _ _ (by omega), if_neg (by omega)]
        · by_cases h5 : i = 16
          · subst h5
            rw [vcells_n, vcells_n]
          · rw [Array.getElem?_eq_none (by rw [vcells_size]; omega), Array.getElem?_eq_none (by rw [vcells_size]; omega)]
theorem set_set (C : Array Value) (i : Nat) (u v : Value) : (C.setIfInBounds i u).setIfInBounds i v = C.setIfInBounds i v := by
  apply Array.ext_getElem?
  intro j
  simp only [Array.getElem?_setIfInBounds, Array.size_setIfInBounds]
  split <;> rfl
theorem upd_eq (f : Nat → Option ByteArray) {p : Pt} {j : Nat} (h : p.slot = (j : Int)) : upd f p = fun s => if s = j then newv p else f s := by
  funext s
  unfold upd
  by_cases e : s = j
  · rw [if_pos (by rw [h, e]), if_pos e]
  · rw [if_neg (by rw [h]; omega), if_neg e]
theorem afterF_snoc (f : Nat → Option ByteArray) (L : List Pt) (p : Pt) : afterF f (L ++ [p]) = upd (afterF f L) p := by simp [afterF, List.foldl_append]
theorem afterF_other : ∀ (L : List Pt) (f : Nat → Option ByteArray) (s : Nat), (∀ p ∈ L, p.slot ≠ (s : Int)) → afterF f L s = f s
  | [], _, _, _ => rfl
  | p :: L, f, s, h => by
    show afterF (upd f p) L s = _
    rw [afterF_other L _ s fun q hq => h q (List.mem_cons_of_mem _ hq)]
    unfold upd
    rw [if_neg (fun e => h p List.mem_cons_self e.symm)]
theorem afterF_mem : ∀ (L : List Pt) (f : Nat → Option ByteArray), (L.map Pt.slot).Nodup → ∀ p ∈ L, ∀ s : Nat, p.slot = (s : Int) → afterF f L s = newv p
  | [], _, _, p, hp, _, _ => absurd hp List.not_mem_nil
  | q :: L, f, hn, p, hp, s, hs => by
    rw [List.map_cons, List.nodup_cons] at hn
    show afterF (upd f q) L s = _
    rcases List.mem_cons.1 hp with rfl | hp'
    · rw [afterF_other L _ s fun r hr e => hn.1 (List.mem_map.2 ⟨r, hr, by rw [e, hs]⟩)]
      unfold upd
      rw [if_pos hs.symm]
    · exact afterF_mem L _ hn.2 p hp' s hs

theorem zero_vals (w : World) : (zeroValue 33).run Try.prog w = .ok (.agg (vcells (fun _ => none) 0)) w := by kernel_rfl
theorem vals_info : (Try.prog.info? 33).map (·.size) = some 17 := by kernel_rfl
theorem vcells_info (f : Nat → Option ByteArray) (N : Int) : (Try.prog.info? 33).map (·.size) = some (vcells f N).size := by
  rw [vcells_size]; exact vals_info

set_option maxHeartbeats 2000000 in
set_option maxRecDepth 100000 in
theorem after_any {a : Option Addr} {L : List Pt} (cap : Nat) {w : World} (h : PutsAt w a L) (hok : ∀ p ∈ L, slotOk p.slot) (f : Nat → Option ByteArray) {N : Int} (hN0 : 0 ≤ N) (hN1 : N < 9223372036854775807) :
    Calls Try.prog 13 #[.agg (vcells f N), .slice a L.length cap] w fun e w' => e = .returned (.agg (vcells (afterF f L) (N + 1))) ∧ Below w.heap.size w w' := by
  have hl := h.1
  have HS := Lib.hid h
  have HOK := Lib.hid hok
  clear h hok
  have hz := zero_vals
  have HZS : Hid ((vcells (fun _ => none) 0).size = 17) := Lib.hid (vcells_size _ _)
  generalize vcells (fun _ => none) 0 = Z at *
  generalize hlen : L.length = len at *
  have HL := Lib.hid hlen
  clear hlen
  go_enter Try.func13, Try.ntmps13
  go_wp2_with fail
  have b0 : Blk ((w.alloc (.cells (vcells f N) 33)).alloc (.cells Z 33)) w.heap.size (vcells f N) 33 := (Blk.new _ _ _).alloc _
  have b1 : Blk ((w.alloc (.cells (vcells f N) 33)).alloc (.cells Z 33)) (w.heap.size + 1) Z 33 := by simpa using Blk.new (w.alloc (.cells (vcells f N) 33)) Z 33
  have hbel : Below w.heap.size w ((w.alloc (.cells (vcells f N) 33)).alloc (.cells Z 33)) := ((Below.refl _ _).alloc (Nat.le_refl _) _).alloc (by simp) _
  generalize (w.alloc (.cells (vcells f N) 33)).alloc (.cells Z 33) = w2 at *
  have hlt2 := Blk.lt b1
  go_loopw [5] (fun c wr => ∃ k : Nat, k ≤ len ∧ c = .int .i64 (k : Int) ∧ Blk wr w.heap.size (vcells (afterF f (L.take k)) N) 33 ∧ Off w.heap.size w2 wr) (fun c _ => len - (intOf c).toNat)
  case atStart => exact ⟨0, by omega, rfl, b0, Off.refl _ _⟩
  case round =>
    obtain ⟨k, hk, rfl, hV, hO⟩ := hrel
    have hB := hbel.trans (hO.toBelow (by omega))
    have hBs := hB.size
    by_cases hlt : k < len
    · obtain ⟨b, off, p, ha, hb, hp, hst0⟩ := HS.out.get (k := k) (by rw [HL.out]; exact hlt)
      have HP := Lib.hid hp
      have hst := hst0.block (hB.block b hb)
      obtain ⟨s0, s1⟩ := HOK.out p (mem_of_get hp)
      obtain ⟨j, hj⟩ := Int.eq_ofNat_of_zero_le s0
      have g1 := hst.cs
      have g2 := hst.cv
      have g3 := hst.cg
      rw [hj] at g1 s1
      have hj8 : j < 8 := by omega
      have HA : Hid (vcells (fun s => if s = j then newv p else afterF f (L.take k) s) N = vcells (afterF f (L.take (k + 1))) N) := Lib.hid (by rw [take_succ_of hp, afterF_snoc, upd_eq _ hj])
      have j0 : (0 : Int) ≤ (j : Int) := by omega
      have hbw : b ≠ w.heap.size := by omega
      subst ha
      have v1 := (hV.cell (8 + j)).trans (vcells_h _ _ hj8)
      have f1 := hV.free (8 + j)
      have HST := Lib.hid hst
      have HJ := Lib.hid hj
      clear hst0 hst hp hj s0
      have HN : ∀ g : Bool, p.gone = g → newv p = if g then none else some p.val := by intro g hg; unfold newv; rw [hg]
      cases hg : p.gone
      all_goals
        have hnv := HN _ hg
        clear HN
        rw [hg] at g3
        simp only [Bool.false_eq_true, if_false, if_true] at hnv
        rw [hnv] at HA
        have HG := Lib.hid hg
        clear hg hnv
      · go_wp2_with fail
        go_region
        have hV2 := hV.set (8 + j) (.bool true)
        have hO2 := (hO.set (8 + j) (.bool true)).drew
        have hst2 := HST.out.block (w' := (wr.setCell ⟨w.heap.size, 8 + j, none⟩ (.bool true)).drew) (Below.heap_setCell _ _ _ _ hbw)
        have hV3 : Blk (wr.setCell ⟨w.heap.size, 8 + j, none⟩ (.bool true)).drew w.heap.size _ 33 := hV2
        clear v1 f1 g1 g2 g3 hV2 hV hO HST
        generalize (wr.setCell ⟨w.heap.size, 8 + j, none⟩ (.bool true)).drew = w3 at *
        have g1 := hst2.cs
        have g2 := hst2.cv
        have g3 := hst2.cg
        rw [HG.out] at g3
        rw [HJ.out] at g1
        have v1 : w3.cell? ⟨w.heap.size, j, none⟩ = some (.string ((afterF f (L.take k) j).getD ByteArray.empty)) := by
          rw [hV3.cell, Array.getElem?_setIfInBounds, if_neg (by omega)]
          exact vcells_v _ _ hj8
        have f1 := hV3.free j
        go_wp2_with fail
        have hV4 := hV3.set j (.string ByteArray.empty)
        have hO4 := hO2.set j (.string ByteArray.empty)
        have hst4 := hst2.block (w' := w3.setCell ⟨w.heap.size, j, none⟩ (.string ByteArray.empty)) (Below.heap_setCell _ _ _ _ hbw)
        have e0 : (Value.string { data := #[] }) = Value.string ByteArray.empty := rfl
        rw [e0]
        clear e0 v1 f1 g1 g2 g3 hV3 hO2 hst2
        generalize w3.setCell ⟨w.heap.size, j, none⟩ (.string ByteArray.empty) = w4 at *
        have g1 := hst4.cs
        have g2 := hst4.cv
        have g3 := hst4.cg
        rw [HG.out] at g3
        rw [HJ.out] at g1
        have v1 : w4.cell? ⟨w.heap.size, j, none⟩ = some (.string ByteArray.empty) := by
          rw [hV4.cell, Array.getElem?_setIfInBounds, if_pos rfl, if_pos (by simp [vcells_size]; omega)]
        have f1 := hV4.free j
        go_region
        have hV5 := hV4.set j (.string p.val)
        rw [set_set] at hV5
        have hp5 := vcells_put (afterF f (L.take k)) N hj8 (some p.val)
        simp only [Option.isSome_some, Option.getD_some] at hp5
        rw [hp5, HA.out] at hV5
        have hO5 := (hO4.set j (.string p.val)).drew
        have hV6 : Blk (w4.setCell ⟨w.heap.size, j, none⟩ (.string p.val)).drew w.heap.size _ 33 := hV5
        clear v1 f1 g1 g2 g3 hV5 hV4 hO4 hp5 hst4
        generalize (w4.setCell ⟨w.heap.size, j, none⟩ (.string p.val)).drew = w5 at *
        go_wp2
        go_roundw
        case rel => exact ⟨k + 1, by omega, by go_num, hV6, hO5⟩
        case measure => simp [intOf]; omega
      · go_wp2_with fail
        go_region
        have hV2 := hV.set (8 + j) (.bool false)
        have hO2 := (hO.set (8 + j) (.bool false)).drew
        have hst2 := HST.out.block (w' := (wr.setCell ⟨w.heap.size, 8 + j, none⟩ (.bool false)).drew) (Below.heap_setCell _ _ _ _ hbw)
        have hV3 : Blk (wr.setCell ⟨w.heap.size, 8 + j, none⟩ (.bool false)).drew w.heap.size _ 33 := hV2
        clear v1 f1 g1 g2 g3 hV2 hV hO HST
        generalize (wr.setCell ⟨w.heap.size, 8 + j, none⟩ (.bool false)).drew = w3 at *
        have g1 := hst2.cs
        have g2 := hst2.cv
        have g3 := hst2.cg
        rw [HG.out] at g3
        rw [HJ.out] at g1
        have v1 : w3.cell? ⟨w.heap.size, j, none⟩ = some (.string ((afterF f (L.take k) j).getD ByteArray.empty)) := by
          rw [hV3.cell, Array.getElem?_setIfInBounds, if_neg (by omega)]
          exact vcells_v _ _ hj8
        have f1 := hV3.free j
        go_wp2_with fail
        have hV4 := hV3.set j (.string ByteArray.empty)
        have hO4 := hO2.set j (.string ByteArray.empty)
        have hp4 := vcells_put (afterF f (L.take k)) N hj8 none
        simp only [Option.isSome_none, Option.getD_none] at hp4
        rw [hp4, HA.out] at hV4
        go_roundw
        case rel => exact ⟨k + 1, by omega, by go_num, hV4, hO4⟩
        case measure => simp [intOf]; omega
    · obtain rfl : k = len := by omega
      have hV1 : Blk wr w.heap.size (vcells (afterF f L) N) 33 := by
        rw [List.take_of_length_le (by rw [HL.out]; omega)] at hV
        exact hV
      have v1 := (hV1.cell 16).trans (vcells_n _ _)
      have f1 := hV1.free 16
      have hV2 := hV1.set 16 (.int .i64 (N + 1))
      rw [vcells_setn] at hV2
      have hO2 := hO.set 16 (.int .i64 (N + 1))
      have hinf := vcells_info (afterF f L) (N + 1)
      have hone := vcells_one (afterF f L) (N + 1)
      have hsz := HZS.out.trans (vcells_size (afterF f L) (N + 1)).symm
      have b1' := b1.off hO2 (by omega)
      clear hV hV1
      obtain ⟨C, hC⟩ : ∃ C, C = vcells (afterF f L) (N + 1) := ⟨_, rfl⟩
      rw [← hC] at hV2 hinf hone hsz
      have HC := Lib.hid hC
      clear hC
      go_wp2_with (first
        | (refine wpList_load_row rfl 33 (.tmp 2) rfl w.heap.size rfl 33 C (0, 0) _ hV2 Try.underlying33 rfl hinf ?_)
        | (refine wpList_store_row rfl 33 (.tmp 4) (.tmp 54) rfl (w.heap.size + 1) C rfl rfl 33 Z b1' hinf hsz hone ?_))
      have b2 : Blk ((wr.setCell ⟨w.heap.size, 16, none⟩ (.int .i64 (N + 1))).setRow (w.heap.size + 1) C) (w.heap.size + 1) C 33 := by
        unfold Blk World.setRow
        simp [Array.getElem?_modify, show (wr.setCell ⟨w.heap.size, 16, none⟩ (.int .i64 (N + 1))).heap[w.heap.size + 1]? = _ from b1']
      refine bodyPost_ret (v := .agg C) (results_cell_row Try.results13 _ _ (w.heap.size + 1) 33 C (0, 0) _ rfl b2 Try.underlying33 rfl hinf) rfl ⟨by rw [HC.out], ?_⟩
      exact (hbel.trans (hO2.toBelow (by omega))).setRow (by omega) _
end Go.Proofs.Ytikaeblmjlfgcaa
