/- weakest and New of a table of flows; by-name template (gen_fov.py). -/
import Derived.Test.YtdgodndaaenafaaFoU
namespace Go.Proofs.Ytdgodndaaenafaa
open Go.RowKit Go.Lib Go.Maps
set_option linter.unusedVariables false
set_option linter.unusedSimpArgs false

def wid : Option Fl → Int
  | none => 0
  | some x => x.id
def wen : Option Fl → Int
  | none => 0
  | some x => x.en
theorem weak_take {L : List Fl} {i : Nat} {x : Fl} (hx : L[i]? = some x) : (L.take (i + 1)).foldl weakS none = weakS ((L.take i).foldl weakS none) x := by
  rw [List.take_add_one, hx, List.foldl_append]
  rfl
theorem weak_in {L : List Fl} {i : Nat} {y : Fl} (h : (L.take i).foldl weakS none = some y) : y ∈ L := List.mem_of_mem_take (weak_mem (L := L.take i) h).1
theorem f_row {w : World} {b off i : Nat} {l : List Fl} {x : Fl} (h : ∀ j y, l[j]? = some y → ∀ t v, (fcells y)[t]? = some v → w.cell? ⟨b, off + j * 20 + t, none⟩ = some v) (hx : l[i]? = some x) :
    ∀ j v, (FA x).toList[j]? = some v → w.cell? ((⟨b, off + i * 20, none⟩ : Addr).add j) = some v := by
  intro j v hj
  rw [addr_add]
  exact h i x hx j v hj

section
variable {w w' : World} {T Tw : Nat → Prop} {TB Bw Mo Mk co ck : Nat} {go : Int → Option Fl} {gk : Ky → Option Int} {W : List K2} {L : List Fl}
set_option maxRecDepth 100000 in
set_option maxHeartbeats 8000000 in
theorem weakest_any (g : GoodF L) (h : TW w T TB L W) : Calls Try.prog 28 #[.pointer (some ⟨TB, 0, none⟩)] w fun e w' => e = .returned (.int .i64 (wid (weakF L))) ∧ Below w.heap.size w w' := by
  have cL := list_any g h
  have hln := g.ln
  have hlo : ∀ y ∈ L, ¬ y.id = 0 := fun y hy => by have := (g.lo y hy).1; omega
  have HLO := Lib.hid hlo
  have hA := fun (w1 : World) => heap_alloc_new w1 (.cells #[.int .i64 0, .int .i64 0, .int .u64 0, .int .u64 0, .int .u64 0, .int .u64 0, .int .i64 0, .int .i64 0, .int .i64 0, .int .u64 0, .int .u64 0, .int .u64 0, .int .u64 0, .int .i64 0, .int .i64 0, .int .i64 0, .int .i64 0, .int .i64 0, .int .i64 0, .int .i64 0] 38)
  have HA : ∀ w1 : World, (w1.alloc (.cells #[.int .i64 0, .int .i64 0, .int .u64 0, .int .u64 0, .int .u64 0, .int .u64 0, .int .i64 0, .int .i64 0, .int .i64 0, .int .u64 0, .int .u64 0, .int .u64 0, .int .u64 0, .int .i64 0, .int .i64 0, .int .i64 0, .int .i64 0, .int .i64 0, .int .i64 0, .int .i64 0] 38)).heap[w1.heap.size]? = some (.cells (FA zf) 38 (0, 0)) := fun w1 => hA w1
  have HA := Lib.hid HA
  have HW : Hid (weakF L = L.foldl weakS none) := Lib.hid rfl
  generalize weakF L = R at *
  clear hA h g hlo
  go_enter Try.func28, Try.ntmps28
  go_upto_region 3 with (go_at_call 11; refine cL.mono ?_; rintro e w1 ⟨v, rfl, hown, b1⟩; obtain ⟨A, cap, rfl, hS, _⟩ := sl_of_own f20_len hown rfl)
  clear cL hown
  have hz := Below.refl w1.heap.size w1
  generalize hn : L.length = n at *
  have HN := Lib.hid hn
  clear hn
  go_wp2_with fail
  go_loopw [3, 4, 11] (fun v3 v4 v11 wr => ∃ i : Nat, v11 = .int .i64 i ∧ i ≤ n ∧ (∃ b, Hid (b = (L.take i).foldl weakS none) ∧ v3 = .int .i64 (wid b) ∧ v4 = .int .i64 (wen b)) ∧ Below w1.heap.size w1 wr) (fun _ _ v11 _ => n - (intOf v11).toNat)
  case atStart => exact ⟨0, rfl, by omega, ⟨none, Lib.hid rfl, rfl, rfl⟩, hz⟩
  case round =>
    obtain ⟨i, rfl, hi, ⟨b, HB, rfl, rfl⟩, bw⟩ := hrel
    clear hz
    by_cases hlt : i < n
    · have hlti : (i : Int) < (n : Int) := by omega
      have hdn : decide (i < n) = true := by simp [hlt]
      have hil : i < L.length := by rw [HN.out]; exact hlt
      obtain ⟨x, hx⟩ : ∃ x, L[i]? = some x := ⟨_, List.getElem?_eq_getElem hil⟩
      obtain ⟨bb, off, hA1, hbl, hrow⟩ := hS.row (by omega)
      have hcell := f_row hrow hx
      have HST : Hid ((L.take (i + 1)).foldl weakS none = weakS b x) := Lib.hid (by rw [weak_take hx, ← HB.out])
      have HBL : Hid (∀ y, b = some y → ¬ y.id = 0) := Lib.hid (fun y hy => HLO.out y (weak_in (i := i) (by rw [← HB.out, hy])))
      have f_i := Lib.hid (f_inf x)
      have f_1 := Lib.hid (f_one x)
      have f_s := Lib.hid (show (FA zf).size = (FA x).size from rfl)
      have e0 : ∀ j v, (FA x).toList[j]? = some v → wr.cell? ((⟨bb, off + i * 20, none⟩ : Addr).add j) = some v := fun j v hj => keepc bw (hcell j v hj)
      have A0 : (wr.alloc (.cells (FA x) 38)).heap[wr.heap.size]? = some (.cells (FA x) 38 (0, 0)) := heap_alloc_new wr _
      have q1 := fa_id A0
      have q2 := fa_st A0
      have q3 := fa_en A0
      have b2 : Below w1.heap.size w1 (wr.alloc (.cells (FA x) 38)) := Below.al bw _
      have HXS : Hid (openF x = (x.st == 0 || x.st == 2)) := Lib.hid rfl
      have HXE : Hid (∀ y, (openF x && decide (x.en < y.en)) = true → weakS (some y) x = some x) := Lib.hid (fun y hy => by simp only [weakS]; rw [if_pos hy])
      have HXN : Hid (∀ y, ¬ (openF x && decide (x.en < y.en)) = true → weakS (some y) x = some y) := Lib.hid (fun y hy => by simp only [weakS]; rw [if_neg hy])
      have HX0 : Hid (openF x = true → weakS none x = some x) := Lib.hid (fun hy => by simp only [weakS]; rw [if_pos hy])
      have HX1 : Hid (openF x = false → weakS none x = none) := Lib.hid (fun hy => by simp only [weakS]; rw [if_neg (by simp [hy])])
      have HXI : Hid (wid (some x) = x.id ∧ wen (some x) = x.en) := Lib.hid ⟨rfl, rfl⟩
      obtain ⟨wz, hwz⟩ : ∃ y, y = wr.alloc (.cells (FA x) 38) := ⟨_, rfl⟩
      rw [← hwz] at A0 q1 q2 q3 b2
      have HWZ := Lib.hid hwz
      clear hwz
      generalize hFx : FA x = F at *
      have HB2 := Lib.hid b2
      have FINX : Hid (∀ b', weakS b x = b' → ∀ wy, Below w1.heap.size w1 wy → ∃ i' : Nat, Value.int .i64 ((i : Int) + 1) = .int .i64 i' ∧ i' ≤ n ∧ (∃ b, Hid (b = (L.take i').foldl weakS none) ∧ Value.int .i64 (wid b') = .int .i64 (wid b) ∧ Value.int .i64 (wen b') = .int .i64 (wen b)) ∧ Below w1.heap.size w1 wy) :=
        Lib.hid (fun b' e wy hy => ⟨i + 1, by simp, by omega, ⟨b', Lib.hid (by rw [HST.out]; exact e.symm), rfl, rfl⟩, hy⟩)
      generalize x.st = xs at *
      generalize x.en = xe at *
      generalize x.id = xi at *
      subst hA1
      clear hrow hcell hx hFx hS hil HB HST b2
      have hme : n - (((i : Int) + 1)).toNat < n - i := by omega
      have ho : openF x = true ∨ (openF x = false ∧ ¬ xs = 0 ∧ ¬ xs = 2) := by
        rw [HXS.out]
        by_cases h0 : xs = 0
        · left; simp [h0]
        · by_cases h2 : xs = 2
          · left; simp [h2]
          · right; simp [h0, h2]
      rcases ho with ho | ⟨ho, hs0, hs2⟩
      · have hcs : xs = 0 ∨ (¬ xs = 0 ∧ xs = 2) := by
          have := HXS.out
          rw [ho] at this
          by_cases h0 : xs = 0
          · exact .inl h0
          · refine .inr ⟨h0, ?_⟩
            simpa [h0] using this
        clear HXS HX1
        have HO := Lib.hid ho
        clear ho
        have walkE : True := trivial
        cases b with
        | none =>
          have E := FINX.out _ (HX0.out HO.out)
          rw [HXI.out.1, HXI.out.2] at E
          have HE := Lib.hid E
          clear E FINX HXI HX0 HXE HXN
          rcases hcs with rfl | ⟨h0, rfl⟩
          · go_wp2_with (first
              | (refine wpList_load_cells rfl 38 (.tmp 13) rfl ⟨bb, off + i * 20, none⟩ rfl F _ e0 Try.underlying38 rfl f_i.out ?_)
              | (refine wpList_store_row rfl 38 (.tmp 6) (.tmp 14) rfl wr.heap.size F rfl rfl 38 (FA zf) (HA.out wr) f_i.out f_s.out f_1.out ?_; rw [World.setRow_alloc_new, ← HWZ.out]))
            first
              | (go_quiet (fail)
                 go_wp2
                 exact ⟨HE.out _ (bel_dn HB2.out _), by simp [intOf]; omega⟩)
              | exact ⟨HE.out _ HB2.out, by simp [intOf]; omega⟩
          · go_wp2_with (first
              | (refine wpList_load_cells rfl 38 (.tmp 13) rfl ⟨bb, off + i * 20, none⟩ rfl F _ e0 Try.underlying38 rfl f_i.out ?_)
              | (refine wpList_store_row rfl 38 (.tmp 6) (.tmp 14) rfl wr.heap.size F rfl rfl 38 (FA zf) (HA.out wr) f_i.out f_s.out f_1.out ?_; rw [World.setRow_alloc_new, ← HWZ.out]))
            first
              | (go_quiet (fail)
                 go_wp2
                 exact ⟨HE.out _ (bel_dn HB2.out _), by simp [intOf]; omega⟩)
              | exact ⟨HE.out _ HB2.out, by simp [intOf]; omega⟩
        | some y =>
          have hy0 : ¬ wid (some y) = 0 := HBL.out y rfl
          by_cases hlt2 : xe < wen (some y)
          · have E := FINX.out _ (HXE.out y (by rw [HO.out]; simpa [wen] using hlt2))
            rw [HXI.out.1, HXI.out.2] at E
            have HE := Lib.hid E
            clear E FINX HXI HX0 HXE HXN
            generalize wid (some y) = yi at *
            generalize wen (some y) = ye at *
            rcases hcs with rfl | ⟨h0, rfl⟩
            · go_wp2_with (first
                | (refine wpList_load_cells rfl 38 (.tmp 13) rfl ⟨bb, off + i * 20, none⟩ rfl F _ e0 Try.underlying38 rfl f_i.out ?_)
                | (refine wpList_store_row rfl 38 (.tmp 6) (.tmp 14) rfl wr.heap.size F rfl rfl 38 (FA zf) (HA.out wr) f_i.out f_s.out f_1.out ?_; rw [World.setRow_alloc_new, ← HWZ.out]))
              first
                | (go_quiet (fail)
                   go_wp2
                   exact ⟨HE.out _ (bel_dn HB2.out _), by simp [intOf]; omega⟩)
                | exact ⟨HE.out _ HB2.out, by simp [intOf]; omega⟩
            · go_wp2_with (first
                | (refine wpList_load_cells rfl 38 (.tmp 13) rfl ⟨bb, off + i * 20, none⟩ rfl F _ e0 Try.underlying38 rfl f_i.out ?_)
                | (refine wpList_store_row rfl 38 (.tmp 6) (.tmp 14) rfl wr.heap.size F rfl rfl 38 (FA zf) (HA.out wr) f_i.out f_s.out f_1.out ?_; rw [World.setRow_alloc_new, ← HWZ.out]))
              first
                | (go_quiet (fail)
                   go_wp2
                   exact ⟨HE.out _ (bel_dn HB2.out _), by simp [intOf]; omega⟩)
                | exact ⟨HE.out _ HB2.out, by simp [intOf]; omega⟩
          · have hge2 : wen (some y) ≤ xe := by omega
            have E := FINX.out _ (HXN.out y (by rw [HO.out]; simp [wen] at hlt2 ⊢; omega))
            have HE := Lib.hid E
            clear E FINX HXI HX0 HXE HXN
            generalize wid (some y) = yi at *
            generalize wen (some y) = ye at *
            rcases hcs with rfl | ⟨h0, rfl⟩
            · go_wp2_with (first
                | (refine wpList_load_cells rfl 38 (.tmp 13) rfl ⟨bb, off + i * 20, none⟩ rfl F _ e0 Try.underlying38 rfl f_i.out ?_)
                | (refine wpList_store_row rfl 38 (.tmp 6) (.tmp 14) rfl wr.heap.size F rfl rfl 38 (FA zf) (HA.out wr) f_i.out f_s.out f_1.out ?_; rw [World.setRow_alloc_new, ← HWZ.out]))
              first
                | (go_quiet (fail)
                   go_wp2
                   exact ⟨HE.out _ (bel_dn HB2.out _), by simp [intOf]; omega⟩)
                | exact ⟨HE.out _ HB2.out, by simp [intOf]; omega⟩
            · go_wp2_with (first
                | (refine wpList_load_cells rfl 38 (.tmp 13) rfl ⟨bb, off + i * 20, none⟩ rfl F _ e0 Try.underlying38 rfl f_i.out ?_)
                | (refine wpList_store_row rfl 38 (.tmp 6) (.tmp 14) rfl wr.heap.size F rfl rfl 38 (FA zf) (HA.out wr) f_i.out f_s.out f_1.out ?_; rw [World.setRow_alloc_new, ← HWZ.out]))
              first
                | (go_quiet (fail)
                   go_wp2
                   exact ⟨HE.out _ (bel_dn HB2.out _), by simp [intOf]; omega⟩)
                | exact ⟨HE.out _ HB2.out, by simp [intOf]; omega⟩
      · have E := FINX.out b (by
          cases b with
          | none => exact HX1.out ho
          | some y => exact HXN.out y (by rw [ho]; simp))
        have HE := Lib.hid E
        clear E FINX HXI HX0 HXE HXN HX1 HXS HBL ho
        generalize wid b = yi at *
        generalize wen b = ye at *
        go_wp2_with (first
          | (refine wpList_load_cells rfl 38 (.tmp 13) rfl ⟨bb, off + i * 20, none⟩ rfl F _ e0 Try.underlying38 rfl f_i.out ?_)
          | (refine wpList_store_row rfl 38 (.tmp 6) (.tmp 14) rfl wr.heap.size F rfl rfl 38 (FA zf) (HA.out wr) f_i.out f_s.out f_1.out ?_; rw [World.setRow_alloc_new, ← HWZ.out]))
        first
          | (go_quiet (fail)
             go_wp2
             exact ⟨HE.out _ (bel_dn HB2.out _), by simp [intOf]; omega⟩)
          | exact ⟨HE.out _ HB2.out, by simp [intOf]; omega⟩
    · obtain rfl : i = n := by omega
      have hd0 : decide (i < i) = false := by simp
      have hdi : decide ((i : Int) < (i : Int)) = false := by simp
      have hbR : b = R := by rw [HB.out, HW.out, List.take_of_length_le (by rw [HN.out]; exact Nat.le_refl _)]
      have FIN : Hid (Ending.returned (.int .i64 (wid b)) = .returned (.int .i64 (wid R)) ∧ Below w.heap.size w wr) := Lib.hid ⟨by rw [hbR], b1.trans (bw.mono b1.size)⟩
      clear hbR HB HW HLO
      go_wp2_with fail
      first | exact FIN.out | (go_ret; exact FIN.out)
end
end Go.Proofs.Ytdgodndaaenafaa
