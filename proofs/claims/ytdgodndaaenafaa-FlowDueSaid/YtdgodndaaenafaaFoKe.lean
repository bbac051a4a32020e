/- FlowKeeps: the walk; by-name template (gen_foke.py). -/
import Derived.Test.YtdgodndaaenafaaFoSi
import Derived.Test.YtdgodndaaenafaaFoFr
namespace Go.Proofs.Ytdgodndaaenafaa
open Go.RowKit Go.Lib Go.Maps
set_option linter.unusedVariables false
set_option linter.unusedSimpArgs false

theorem add_keeps {L : List Fl} (g : GoodF L) {x : Fl} (hx : x ∈ L) (ho : openF x = false) (f : Fl) : x ∈ (addF L f).L := by
  unfold addF
  split
  · exact hx
  · split
    · exact ins_mem.2 (.inr hx)
    · split
      · exact hx
      · rename_i y hy
        refine ins_mem.2 (.inr (List.mem_filter.2 ⟨hx, ?_⟩))
        obtain ⟨hm, hyo⟩ := weak_mem hy
        by_cases e : x.id = y.id
        · have h1 := go_mem g hx
          have h2 := go_mem g hm
          rw [e, h2] at h1
          cases h1
          rw [ho] at hyo; cases hyo
        · simpa using e
theorem s_row {w : World} {b off i : Nat} {l : List Stp} {x : Stp} (h : ∀ j y, l[j]? = some y → ∀ t v, (scells y)[t]? = some v → w.cell? ⟨b, off + j * 24 + t, none⟩ = some v) (hx : l[i]? = some x) :
    ∀ j v, (FA x.f).toList[j]? = some v → w.cell? ((⟨b, off + i * 24 + 4, none⟩ : Addr).add j) = some v := by
  intro j v hj
  rw [addr_add, Nat.add_assoc (off + i * 24) 4 j]
  refine h i x hx (4 + j) v ?_
  unfold scells
  rw [List.getElem?_append_right (by simp)]
  simpa [FA] using hj

set_option maxRecDepth 100000 in
set_option maxHeartbeats 8000000 in
theorem keeps_any (f : Fl) (A : Option Addr) (n c : Nat) (l : List Stp) (hf : FlOk f) (w : World) (hS : Sl w 24 scells A n l) (hL : ∀ s ∈ l, StpOk s) : Calls Try.prog 7 #[.agg (FA f), .slice A n c] w (LawPost w) := by
  have b1 : Below w.heap.size w (w.alloc (.cells (FA f) 38)) := Below.al (Below.refl _ _) _
  have A0 : (w.alloc (.cells (FA f) 38)).heap[w.heap.size]? = some (.cells (FA f) 38 (0, 0)) := heap_alloc_new w _
  have k_i1 := Lib.hid (k_inf f.op)
  have k_i2 := Lib.hid (k_inf f.bk)
  have f_i := Lib.hid (f_inf f)
  have HOP := Lib.hid (fun (W1 : World) (hh : W1.heap[w.heap.size]? = some (.cells (FA f) 38 (0, 0))) => fa_op hh)
  have HBK := Lib.hid (fun (W1 : World) (hh : W1.heap[w.heap.size]? = some (.cells (FA f) 38 (0, 0))) => fa_bk hh)
  have HFE := Lib.hid (fun (W1 : World) (hh : W1.heap[w.heap.size]? = some (.cells (FA f) 38 (0, 0))) => And.intro (fa_en hh) (fa_ru hh))
  have eob := fun W1 => eql_ky f.op f.bk W1
  obtain ⟨w1, hw1⟩ : ∃ x, x = w.alloc (.cells (FA f) 38) := ⟨_, rfl⟩
  rw [← hw1] at b1 A0
  have HW1 := Lib.hid hw1
  have HB1 := Lib.hid b1
  clear hw1
  by_cases hn : 1024 < n
  · have hnI : (1024 : Int) < (n : Int) := by omega
    have hnD : decide (1024 < n) = true := decide_eq_true hn
    have hnD2 : decide ((1024 : Int) < (n : Int)) = true := decide_eq_true hnI
    clear hf hS hL hn
    generalize FA f = F at *
    go_enter Try.func7, Try.ntmps7
    go_upto_region 1 with fail
    rw [← HW1.out]
    go_wp2_with fail
    go_ret
    exact ⟨rfl, HB1.out⟩
  · have hnI : ¬ (1024 : Int) < (n : Int) := by omega
    have hnD : decide (1024 < n) = false := decide_eq_false hn
    have hnD2 : decide ((1024 : Int) < (n : Int)) = false := decide_eq_false hnI
    by_cases hob : f.op = f.bk
    · have e0 : (f.op == f.bk) = true := by simpa using hob
      rw [e0] at eob
      clear hf hS hL hn hob e0
      generalize FA f = F at *
      generalize KA f.op = K1 at *
      generalize KA f.bk = K2 at *
      go_enter Try.func7, Try.ntmps7
      go_upto_region 1 with fail
      rw [← HW1.out]
      go_wp2_with (first
        | ((with_reducible refine stop_op (o := ⟨some 17, _, _, _, _, _⟩) ?_); refine Lib.hid ?_; refine wpList_load_cells_on (by kernel_rfl) 36 (.tmp 16) rfl ⟨w.heap.size, 1, none⟩ rfl K1 _ (HOP.out _ A0) Try.underlying36 rfl k_i1.out ?_)
        | ((with_reducible refine stop_op (o := ⟨some 19, _, _, _, _, _⟩) ?_); refine Lib.hid ?_; refine wpList_load_cells_on (by kernel_rfl) 36 (.tmp 18) rfl ⟨w.heap.size, 8, none⟩ rfl K2 _ (HBK.out _ A0) Try.underlying36 rfl k_i2.out ?_))
      go_ret
      exact ⟨rfl, HB1.out⟩
    · have hb0 : (f.op == f.bk) = false := by simpa using hob
      rw [hb0] at eob
      have cN := fun W1 => st_new W1
      have cA := fun (w1 W1 : World) (TB : Nat) (S : St w1 W1 TB []) => S.add hf
      rw [add_first hob] at cA
      simp only at cA
      have h1 : hasF [{ f with id := 1 }] 1 = true := by simp [hasF]
      have s1 : setF [{ f with id := 1 }] 1 1 f.en = [{ f with id := 1, st := 1 }] := by simp [setF]
      have cS := fun (w1 W1 : World) (TB : Nat) (S : St w1 W1 TB [{ f with id := 1 }]) => S.set (id := 1) (st := 1) (en := f.en) (by unfold i64ok; omega) (by unfold i64k; omega) hf.en
      rw [h1, s1] at cS
      have cAd := fun (w1 W1 : World) (TB : Nat) (L : List Fl) (S : St w1 W1 TB L) (g : Fl) (hg : FlOk g) => S.add hg
      have cG := fun (w1 W1 : World) (TB : Nat) (L : List Fl) (S : St w1 W1 TB L) (hm : ({ f with id := 1, st := 1 } : Fl) ∈ L) => S.get (id := 1) (by unfold i64ok; omega)
      have cG' : ∀ (w1 W1 : World) (TB : Nat) (L : List Fl), St w1 W1 TB L → ({ f with id := 1, st := 1 } : Fl) ∈ L → Calls Try.prog 25 #[.pointer (some ⟨TB, 0, none⟩), .int .i64 1] W1 fun e w' => e = .returned (.tuple #[.agg (FA { f with id := 1, st := 1 }), .bool true]) ∧ St w1 w' TB L ∧ Below W1.heap.size W1 w' := fun w1 W1 TB L S hm => by
        have h := cG w1 W1 TB L S hm
        have e1 : goF L 1 = some { f with id := 1, st := 1 } := go_mem S.good hm
        have e2 : getF L 1 = { f with id := 1, st := 1 } := by unfold getF; rw [e1]; rfl
        have e3 : hasF L 1 = true := by rw [← has_go, e1]; rfl
        rw [e2, e3] at h
        exact h
      have cL := fun (w1 W1 : World) (TB : Nat) (L : List Fl) (S : St w1 W1 TB L) => S.list
      have hKeep : ∀ L (g : Fl), GoodF L → ({ f with id := 1, st := 1 } : Fl) ∈ L → ({ f with id := 1, st := 1 } : Fl) ∈ (addF L g).L := fun L g gd hm => add_keeps gd hm rfl g
      have HN := Lib.hid cN
      have HCA := Lib.hid cA
      have HCS := Lib.hid cS
      have HAD := Lib.hid cAd
      have HG := Lib.hid cG'
      have HL := Lib.hid cL
      have HK := Lib.hid hKeep
      have nop := fun W1 => neq_ky f.op f.op W1
      have nbk := fun W1 => neq_ky f.bk f.bk W1
      rw [show (f.op == f.op) = true by simp] at nop
      rw [show (f.bk == f.bk) = true by simp] at nbk
      have f_ix := Lib.hid (f_inf { f with id := 1, st := 1 })
      have f_1x := Lib.hid (f_one { f with id := 1, st := 1 })
      have f_sx := Lib.hid (show (FA zf).size = (FA { f with id := 1, st := 1 }).size from rfl)
      have hA := fun (w1 : World) => heap_alloc_new w1 (.cells #[.int .i64 0, .int .i64 0, .int .u64 0, .int .u64 0, .int .u64 0, .int .u64 0, .int .i64 0, .int .i64 0, .int .i64 0, .int .u64 0, .int .u64 0, .int .u64 0, .int .u64 0, .int .i64 0, .int .i64 0, .int .i64 0, .int .i64 0, .int .i64 0, .int .i64 0, .int .i64 0] 38)
      have HA : ∀ w1 : World, (w1.alloc (.cells #[.int .i64 0, .int .i64 0, .int .u64 0, .int .u64 0, .int .u64 0, .int .u64 0, .int .i64 0, .int .i64 0, .int .i64 0, .int .u64 0, .int .u64 0, .int .u64 0, .int .u64 0, .int .i64 0, .int .i64 0, .int .i64 0, .int .i64 0, .int .i64 0, .int .i64 0, .int .i64 0] 38)).heap[w1.heap.size]? = some (.cells (FA zf) 38 (0, 0)) := fun w1 => hA w1
      have HA := Lib.hid HA
      have HX := Lib.hid (fun (W1 : World) (B : Nat) (hh : W1.heap[B]? = some (.cells (FA { f with id := 1, st := 1 }) 38 (0, 0))) => And.intro (fa_op hh) (And.intro (fa_bk hh) (And.intro (fa_st hh) (fa_ru hh))))
      simp only at HX
      have hmem : ({ f with id := 1, st := 1 } : Fl) ∈ [({ f with id := 1, st := 1 } : Fl)] := by simp
      have hLl : l.length = n := hS.len
      have HRow : Hid (∀ i, i < n → ∃ b off x, A = some ⟨b, off, none⟩ ∧ l[i]? = some x ∧ FlOk x.f ∧ ∀ W, Below w.heap.size w W → ∀ j v, (FA x.f).toList[j]? = some v → W.cell? ((⟨b, off + i * 24 + 4, none⟩ : Addr).add j) = some v) := Lib.hid (fun i hi => by
        obtain ⟨b, off, hA1, hbl, hrow⟩ := hS.row (by omega)
        have hx : l[i]? = some l[i] := List.getElem?_eq_getElem (by omega)
        exact ⟨b, off, l[i], hA1, hx, (hL _ (List.mem_of_getElem? hx)).f, fun W hb j v hj => keepc hb (s_row hrow hx j v hj)⟩)
      clear hf hS hL hob hb0 cN cA cS cAd cG cG' cL hKeep h1 s1 hA hn
      generalize ({ f with id := 1 } : Fl) = f1 at *
      generalize ({ f with id := 1, st := 1 } : Fl) = fx at *
      generalize f.en = fen at *
      generalize f.ru = fru at *
      generalize FA f = F at *
      generalize hFX : FA fx = FX at *
      generalize KA f.op = K1 at *
      generalize KA f.bk = K2 at *
      clear hFX
      go_enter Try.func7, Try.ntmps7
      go_upto_region 1 with fail
      rw [← HW1.out]
      go_upto_region 5 with (first
        | ((with_reducible refine stop_op (o := ⟨some 17, _, _, _, _, _⟩) ?_); refine Lib.hid ?_; refine wpList_load_cells_on (by kernel_rfl) 36 (.tmp 16) rfl ⟨w.heap.size, 1, none⟩ rfl K1 _ (HOP.out _ A0) Try.underlying36 rfl k_i1.out ?_)
        | ((with_reducible refine stop_op (o := ⟨some 19, _, _, _, _, _⟩) ?_); refine Lib.hid ?_; refine wpList_load_cells_on (by kernel_rfl) 36 (.tmp 18) rfl ⟨w.heap.size, 8, none⟩ rfl K2 _ (HBK.out _ A0) Try.underlying36 rfl k_i2.out ?_)
        | (go_at_call 8; refine (HN.out _).mono ?_; rintro e w2 ⟨TB, rfl, hS2⟩; have A2 := blkB hS2.bel A0)
        | ((with_reducible refine stop_op (o := ⟨some 25, _, _, _, _, _⟩) ?_); refine Lib.hid ?_; refine wpList_load_cells rfl 38 (.tmp 2) rfl ⟨w.heap.size, 0, none⟩ rfl F _ (fa_all A2) Try.underlying38 rfl f_i.out ?_)
        | (go_at_call 9; refine (HCA.out _ _ _ hS2).mono ?_; rintro e w3 ⟨rfl, hS3⟩))
      obtain ⟨q1, q2⟩ := HFE.out _ (blkB hS3.bel A0)
      clear hS2 A2
      go_upto_region 8 with (go_at_call 18; refine (HCS.out _ _ _ hS3).mono ?_; rintro e w4 ⟨rfl, hS4⟩)
      clear q1 q2 hS3 eob HCA HCS HN
      go_wp2_with fail
      go_loopw [9] (fun v9 wr => ∃ i : Nat, v9 = .int .i64 i ∧ i ≤ n ∧ ∃ L, St w1 wr TB L ∧ Hid (fx ∈ L)) (fun v9 _ => n - (intOf v9).toNat)
      case atStart => exact ⟨0, rfl, by omega, _, hS4, Lib.hid hmem⟩
      case round =>
        clear hS4 hmem
        obtain ⟨i, rfl, hi, L, hSr, hM⟩ := hrel
        by_cases hlt : i < n
        · have hlti : (i : Int) < (n : Int) := by omega
          have hdn : decide (i < n) = true := by simp [hlt]
          obtain ⟨bb, off, x, hA1, hx, hxo, hrow⟩ := HRow.out i hlt
          have e0 := Lib.hid (hrow wr (HB1.out.trans (hSr.bel.mono HB1.out.size)))
          have f_i2 := Lib.hid (f_inf x.f)
          have cA := HAD.out _ _ _ _ hSr x.f hxo
          have hM2 : Hid (fx ∈ (addF L x.f).L) := Lib.hid (HK.out L x.f hSr.good hM.out)
          have hA0 := blkB hSr.bel A0
          clear hrow hx
          generalize addF L x.f = AR at *
          generalize FA x.f = FX2 at *
          subst hA1
          go_upto_region 11 with (first
            | ((with_reducible refine stop_op (o := ⟨some 51, _, _, _, _, _⟩) ?_); refine Lib.hid ?_; refine wpList_load_cells rfl 38 (.tmp 50) rfl ⟨bb, off + i * 24 + 4, none⟩ rfl FX2 _ e0.out Try.underlying38 rfl f_i2.out ?_)
            | (go_at_call 9; refine cA.mono ?_; rintro e w5 ⟨rfl, hS5⟩))
          clear cA e0 hSr hM
          go_upto_region 12 with (first
            | (go_at_call 25; refine (HG.out _ _ _ _ hS5 hM2.out).mono ?_; rintro e w6 ⟨rfl, hS6, _⟩)
            | ((with_reducible refine stop_op (o := ⟨none, _, _, _, _, _⟩) ?_); refine Lib.hid ?_; refine wpList_store_row rfl 38 (.tmp 10) (.tmp 57) rfl w6.heap.size FX rfl rfl 38 (FA zf) (HA.out w6) f_ix.out f_sx.out f_1x.out ?_; rw [World.setRow_alloc_new]))
          obtain ⟨w7, hw7⟩ : ∃ x, x = w6.alloc (.cells FX 38) := ⟨_, rfl⟩
          have hS7 : St w1 w7 TB AR.L := by rw [hw7]; exact hS6.below (Below.al (Below.refl _ _) _)
          have X7 : w7.heap[w6.heap.size]? = some (.cells FX 38 (0, 0)) := by rw [hw7]; exact heap_alloc_new w6 _
          rw [← hw7]
          clear hw7 hS6 hS5
          generalize w6.heap.size = g1 at *
          obtain ⟨x1, x2, x3, x4⟩ := HX.out _ _ X7
          have A7 := blkB hS7.bel A0
          obtain ⟨_, y4⟩ := HFE.out _ A7
          have x1 := Lib.hid x1
          have x2 := Lib.hid x2
          have y1 := Lib.hid (HOP.out _ A7)
          have y2 := Lib.hid (HBK.out _ A7)
          clear hA0 X7 A7
          go_wp2_with (first
            | ((with_reducible refine stop_op (o := ⟨some 63, _, _, _, _, _⟩) ?_); refine Lib.hid ?_; refine wpList_load_cells_on (by kernel_rfl) 36 (.tmp 62) rfl ⟨g1, 1, none⟩ rfl K1 _ x1.out Try.underlying36 rfl k_i1.out ?_)
            | ((with_reducible refine stop_op (o := ⟨some 65, _, _, _, _, _⟩) ?_); refine Lib.hid ?_; refine wpList_load_cells_on (by kernel_rfl) 36 (.tmp 64) rfl ⟨w.heap.size, 1, none⟩ rfl K1 _ y1.out Try.underlying36 rfl k_i1.out ?_)
            | ((with_reducible refine stop_op (o := ⟨some 70, _, _, _, _, _⟩) ?_); refine Lib.hid ?_; refine wpList_load_cells_on (by kernel_rfl) 36 (.tmp 69) rfl ⟨g1, 8, none⟩ rfl K2 _ x2.out Try.underlying36 rfl k_i2.out ?_)
            | ((with_reducible refine stop_op (o := ⟨some 72, _, _, _, _, _⟩) ?_); refine Lib.hid ?_; refine wpList_load_cells_on (by kernel_rfl) 36 (.tmp 71) rfl ⟨w.heap.size, 8, none⟩ rfl K2 _ y2.out Try.underlying36 rfl k_i2.out ?_))
          exact ⟨⟨i + 1, by simp, by omega, _, hS7, hM2⟩, by simp [intOf]; omega⟩
        · obtain rfl : i = n := by omega
          have hd0 : decide (i < i) = false := by simp
          have hdi : decide ((i : Int) < (i : Int)) = false := by simp
          have hl48 := hSr.good.ln
          have hl48I : (L.length : Int) ≤ 48 := by omega
          have hl48D : decide ((L.length : Int) ≤ 48) = true := decide_eq_true hl48I
          have hl48D2 : decide (L.length ≤ 48) = true := decide_eq_true hl48
          have cL := HL.out _ _ _ _ hSr
          clear hSr HRow
          generalize L.length = m at *
          go_wp2_with (go_at_call 11; refine cL.mono ?_; rintro e w8 ⟨A8, c8, rfl, _, _, hS8⟩)
          go_ret
          exact ⟨rfl, HB1.out.trans (hS8.bel.mono HB1.out.size)⟩
end Go.Proofs.Ytdgodndaaenafaa
