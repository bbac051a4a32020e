/- ClassifyFew: the walk; by-name template (gen_kfew.py). -/
import Derived.Test.YtceillkifchkdaaKNodes
import Derived.Test.YtceillkifchkdaaKFirst
namespace Go.Proofs.Ytceillkifchkdaa
open Go.RowKit Go.Lib Go.Sort
set_option linter.unusedVariables false
set_option linter.unusedSimpArgs false

theorem first_cons (x : EN) (r : List EN) (p : Nat → P2) : (leafF (x :: r) p).1 = if hpB x.bx p then x.ru else (leafF r p).1 := by
  unfold leafF
  rw [List.findIdx?_cons]
  cases h : hpB x.bx p with
  | true => simp
  | false =>
    simp only [Bool.false_eq_true, if_false]
    cases hf : r.findIdx? (fun x => hpB x.bx p) with
    | none => rfl
    | some k => simp
/-- What is left of a node finds what all would, for a point of its box. -/
theorem leaf_left {b : Nat → R4} {p : Nat → P2} (hp : hpB b p = true) : ∀ l : List EN, (leafF (leftP b l) p).1 = (leafF l p).1
  | [] => rfl
  | x :: r => by
    have ih := leaf_left hp r
    rw [first_cons]
    unfold leftP
    have hme := hp_me x.bx b p
    rw [hp, Bool.and_true] at hme
    cases hm : mbO x.bx b with
    | false =>
      rw [hm, Bool.false_and] at hme
      rw [if_neg (by simp), ← hme, if_neg (by simp)]; exact ih
    | true =>
      rw [if_pos rfl]
      cases hc : cvB x.bx b with
      | true => rw [if_pos rfl, first_cons, cv_hp hc hp, if_pos rfl, if_pos rfl]
      | false => rw [if_neg (by simp), first_cons, ih]

set_option maxRecDepth 100000 in
set_option maxHeartbeats 8000000 in
theorem few_any (A : Option Addr) (n c : Nat) (l : List EN) (p : Nat → P2) (w : World) (hS : Sl w 25 enc25 A n l) (hw : ∀ e ∈ l, WB e.bx) (wp : WP p) :
    Calls Try.prog 6 #[.slice A n c, .agg (ptc p)] w (LawPost w) := by
  obtain ⟨M, hM⟩ : ∃ M, M = LawPost w := ⟨_, rfl⟩
  rw [← hM]
  have FIN0 : ∀ W, Below w.heap.size w W → M (.returned (.bool true)) W := fun W h => by rw [hM]; exact ⟨rfl, h⟩
  have FIN := Lib.hid FIN0
  clear FIN0 hM
  obtain ⟨iu, hiu, hu0, hu1, hu2⟩ := info_parts en_info
  have hpf : hpB fullB p = true := hp_full wp
  have HL := Lib.hid hS.len
  have iC := inf38 p
  obtain ⟨C, hC⟩ : ∃ C, C = ptc p := ⟨_, rfl⟩
  rw [← hC] at iC ⊢
  have iC := Lib.hid iC
  have HC := Lib.hid hC; clear hC
  have hP0 := heap_alloc_new w (.cells C 58)
  have b0 := Below.al (Below.refl w.heap.size w) (.cells C 58)
  have hS0 := hS.keep b0
  go_enter Try.func6, Try.ntmps6
  go_upto_region 1 with fail
  obtain ⟨w0, hw0⟩ : ∃ w0, w0 = w.alloc (.cells C 58) := ⟨_, rfl⟩
  rw [← hw0] at hP0 b0 hS0 ⊢
  clear hw0 hS
  go_upto_region 2 with (refine wpList_bs0 rfl rfl ?_)
  have hown8 : (w0.alloc (.cells #[] 34)).ownsRow w0.heap.size 34 25 (.slice (some ⟨w0.heap.size, 0, none⟩) 0 0) 0 (([] : List EN).flatMap enc25) := World.ownsRow_made w0 #[] 0 (Nat.le_refl _) (by unfold maxLen; omega) rfl
  have b8 := Below.al (Below.refl w0.heap.size w0) (.cells #[] 34)
  obtain ⟨w8, hw8⟩ : ∃ x, x = w0.alloc (.cells #[] 34) := ⟨_, rfl⟩
  rw [← hw8] at hown8 b8 ⊢
  clear hw8
  go_wp2_with fail
  go_loopw [5, 6] (fun v5 v6 wr => ∃ i : Nat, v6 = .int .i64 i ∧ i ≤ n ∧ i ≤ 8 ∧ wr.ownsRow w0.heap.size 34 25 v5 i ((l.take i).flatMap enc25) ∧ Below w0.heap.size w0 wr) (fun _ v6 _ => n - (intOf v6).toNat)
  case atStart => exact ⟨0, rfl, by omega, by omega, by simpa using hown8, b8⟩
  case round =>
    obtain ⟨i, rfl, hi, hi8, hown, bw⟩ := hrel
    clear hown8 b8
    by_cases hlt : i < n
    · have hlti : (i : Int) < (n : Int) := by omega
      have hdn : decide (i < n) = true := by simp [hlt]
      by_cases h8 : i < 8
      · have hd8 : (i : Int) < 8 := by omega
        have hml : i < l.length := by rw [HL.out]; exact hlt
        obtain ⟨x, hx⟩ : ∃ x, l[i]? = some x := ⟨_, List.getElem?_eq_getElem hml⟩
        obtain ⟨b', off, hA1, _, hrow⟩ := hS0.row (by omega)
        have hcell := en_row hrow hx
        have hst : (l.take (i + 1)).flatMap enc25 = (l.take i).flatMap enc25 ++ enc25 x := by rw [List.take_add_one, hx]; simp
        have HST := Lib.hid hst; clear hst hx
        have iE := inf47 x
        have hnw := fun W : World => en_news W x 34
        obtain ⟨EA, hEA⟩ : ∃ EA, EA = enA x := ⟨_, rfl⟩
        rw [← hEA] at iE hcell
        simp only [← hEA] at hnw
        have HEA := Lib.hid hEA; clear hEA
        have iE := Lib.hid iE
        have hnw := Lib.hid hnw
        have e0 : ∀ j v, EA.toList[j]? = some v → wr.cell? ((⟨b', off + i * 25, none⟩ : Addr).add j) = some v := fun j v hj => keepc bw (hcell j v hj)
        subst hA1
        clear hrow hcell
        have e0 := Lib.hid e0
        have hownA := own_bel hown (Below.al (Below.refl _ wr) (.cells EA 34))
        have hbsA : w0.heap.size ≤ (wr.alloc (.cells EA 34)).heap.size := by rw [al_size]; have := bw.size; omega
        have bwA : Below w0.heap.size w0 (wr.alloc (.cells EA 34)) := bel_via bw (Below.al (Below.refl _ wr) _)
        have h1 := Lib.hid (hnw.out wr)
        have h2 := Lib.hid (en25_one x)
        have hb91 : (i + 1) * 200 ≤ 140737488355328 := by omega
        have h963 : i + 1 ≤ maxLen := by unfold maxLen; omega
        have ho10 := Lib.hid (own_gt hownA)
        go_wp2_with (first | (refine wpList_load_cells rfl 34 (.tmp 26) rfl ⟨b', off + i * 25, none⟩ rfl EA _ e0.out Try.underlying34 rfl iE.out ?_) | (refine wpList_bs1' rfl (.tmp 27) x EA HEA.out rfl rfl ?_) | (at_builtin; go_loud (refine wpList_append_own _ rfl _ _ 22 rfl w0.heap.size 34 iu (.agg #[.int .u64 0, .int .u64 0, .int .u64 0, .int .u64 0, .int .u64 0, .int .u64 0, .int .u64 0, .int .u64 0, .int .u64 0, .int .u64 0, .int .u64 0, .int .u64 0, .int .u64 0, .int .u64 0, .int .u64 0, .int .u64 0, .int .u64 0, .int .u64 0, .int .u64 0, .int .u64 0, .int .u64 0, .int .u64 0, .int .u64 0, .int .u64 0, .int .i64 0]) 25 200 Try.underlying22 hiu hu0 hu1 hu2 rfl (by decide) _ _ _ rfl hownA ⟨wr.heap.size, 0, none⟩ 1 1 (enc25 x) rfl rfl h1.out h2.out h963 hb91 hbsA ?_)))
        intro v10 w10 hown10 hg10 _
        go_wp2_with fail
        have bw10 : Below w0.heap.size w0 w10 := bwA.grown hg10 hbsA ho10.out
        exact ⟨⟨i + 1, by simp, by omega, by omega, by rw [HST.out]; exact hown10, bw10⟩, by simp [intOf]; omega⟩
      · have hd8 : ¬ (i : Int) < 8 := by omega
        have hC := HC.out
        obtain ⟨A5, c5, rfl, hS5, _⟩ := sl_of_own (k := 25) (enc := enc25) en25_len hown (by rw [List.length_take, HL.out]; omega)
        have hlen : (l.take i).length = i := hS5.len
        have hwm : ∀ e ∈ l.take i, WB e.bx := fun e he => hw e (List.mem_of_mem_take he)
        have hl8 : (leftP fullB (l.take i)).length ≤ 8 := Nat.le_trans (left_len _ _) (by omega)
        have htree : treeP (l.take i) = some (.leaf (leftP fullB (l.take i)), 511) := grow_leaf (by decide) hl8
        have hff := leaf_left (b := fullB) (p := p) hpf (l.take i)
        have hba := fun (W : World) (h : Sl W 25 enc25 A5 i (l.take i)) => build_any A5 i c5 (l.take i) (by omega) (by omega) hwm W h
        rw [htree] at hba
        have hfi := fun (W : World) (h : Sl W 25 enc25 A5 i (l.take i)) => first_any p A5 i c5 (l.take i) (by omega) W h
        have hno := fun (B : Nat) (W : World) (h : TreeAt W B (l.take i) (.leaf (leftP fullB (l.take i)))) => nodes_any B _ _ W h (by simp [TN.count])
        have hfd := fun (B : Nat) (W : World) (h : TreeAt W B (l.take i) (.leaf (leftP fullB (l.take i)))) => find_any p B _ _ (by simp [TN.count]) (fun q hq => by simp only [TN.leafs, List.mem_singleton] at hq; subst hq; omega) W h
        simp only [findP] at hfd
        rw [hff] at hfd
        simp only [← hC, TN.count] at hfi hno hfd
        clear hC
        unfold FindPost at hfd
        replace hP := blkB bw hP0
        have bz := bel_via b0 bw
        obtain ⟨R0, hR0⟩ : ∃ R, R = (leafF (l.take i) p).1 := ⟨_, rfl⟩
        simp only [← hR0] at hfi hfd
        obtain ⟨R2, hR2⟩ : ∃ R, R = (leafF (leftP fullB (l.take i)) p).2 := ⟨_, rfl⟩
        simp only [← hR2] at hfd
        have hRR : (R0 == R0) = true := by simp
        have hii : ((i : Int) != (i : Int)) = false := by simp
        clear hR0 hR2 hff htree hl8 hwm hown HL
        go_upto_region 7 with (go_at_call 19; go_loud (with_reducible refine (hba _ hS5).mono ?_); rintro e w1 ⟨B, rfl, hBB, hT, hb⟩; replace hP := blkB hb hP; replace hS5 := hS5.keep hb; replace bz := bel_via bz hb; clear hb hba)
        obtain ⟨A9, c9, ty9, x9, G9, hB9, h9a, h9b, h9c⟩ := hT
        rw [hlen] at hB9
        have hT1 := hB9
        have hT : TreeAt w1 B (l.take i) (.leaf (leftP fullB (l.take i))) := ⟨A9, c9, ty9, x9, G9, by rw [hlen]; exact hB9, h9a, h9b, h9c⟩
        clear h9a h9b h9c hB9
        go_upto_region 9 with (first | (go_at_call 25; go_loud (with_reducible refine (hno _ _ hT).mono ?_); rintro e w2 ⟨rfl, hb⟩; replace hP := blkB hb hP; replace hS5 := hS5.keep hb; replace bz := bel_via bz hb; replace hT := hT.keep hb; replace hT1 := blkB hb hT1; clear hb hno) | (go_at_call 22; go_loud (with_reducible refine (len_any _ _ _ _ _ _ hT1).mono ?_); rintro e w3 ⟨rfl, rfl⟩))
        go_wp2_with (first | (refine wpList_load_row rfl 58 (.tmp 3) rfl w.heap.size rfl 58 C (0, 0) _ hP Try.underlying58 rfl iC.out ?_) | (refine wpList_load_row_on (by rfl) 58 (.tmp 3) rfl w.heap.size rfl 58 C (0, 0) _ hP Try.underlying58 rfl iC.out ?_) | (go_at_call 26; go_loud (with_reducible refine (hfd _ _ hT).mono ?_); rintro e w4 ⟨rfl, hb⟩; replace hP := blkB hb hP; replace hS5 := hS5.keep hb; replace bz := bel_via bz hb; clear hb hfd) | (go_at_call 27; go_loud (with_reducible refine (hfi _ hS5).mono ?_); rintro e w5 ⟨rfl, hb⟩; replace bz := bel_via bz hb; clear hb))
        first | exact FIN.out _ bz | (go_ret; exact FIN.out _ bz)
    · have hlti : ¬ (i : Int) < (n : Int) := by omega
      have hdn : decide (i < n) = false := by simp; omega
      have hC := HC.out
      obtain ⟨A5, c5, rfl, hS5, _⟩ := sl_of_own (k := 25) (enc := enc25) en25_len hown (by rw [List.length_take, HL.out]; omega)
      have hlen : (l.take i).length = i := hS5.len
      have hwm : ∀ e ∈ l.take i, WB e.bx := fun e he => hw e (List.mem_of_mem_take he)
      have hl8 : (leftP fullB (l.take i)).length ≤ 8 := Nat.le_trans (left_len _ _) (by omega)
      have htree : treeP (l.take i) = some (.leaf (leftP fullB (l.take i)), 511) := grow_leaf (by decide) hl8
      have hff := leaf_left (b := fullB) (p := p) hpf (l.take i)
      have hba := fun (W : World) (h : Sl W 25 enc25 A5 i (l.take i)) => build_any A5 i c5 (l.take i) (by omega) (by omega) hwm W h
      rw [htree] at hba
      have hfi := fun (W : World) (h : Sl W 25 enc25 A5 i (l.take i)) => first_any p A5 i c5 (l.take i) (by omega) W h
      have hno := fun (B : Nat) (W : World) (h : TreeAt W B (l.take i) (.leaf (leftP fullB (l.take i)))) => nodes_any B _ _ W h (by simp [TN.count])
      have hfd := fun (B : Nat) (W : World) (h : TreeAt W B (l.take i) (.leaf (leftP fullB (l.take i)))) => find_any p B _ _ (by simp [TN.count]) (fun q hq => by simp only [TN.leafs, List.mem_singleton] at hq; subst hq; omega) W h
      simp only [findP] at hfd
      rw [hff] at hfd
      simp only [← hC, TN.count] at hfi hno hfd
      clear hC
      unfold FindPost at hfd
      replace hP := blkB bw hP0
      have bz := bel_via b0 bw
      obtain ⟨R0, hR0⟩ : ∃ R, R = (leafF (l.take i) p).1 := ⟨_, rfl⟩
      simp only [← hR0] at hfi hfd
      obtain ⟨R2, hR2⟩ : ∃ R, R = (leafF (leftP fullB (l.take i)) p).2 := ⟨_, rfl⟩
      simp only [← hR2] at hfd
      have hRR : (R0 == R0) = true := by simp
      have hii : ((i : Int) != (i : Int)) = false := by simp
      clear hR0 hR2 hff htree hl8 hwm hown HL
      go_upto_region 7 with (go_at_call 19; go_loud (with_reducible refine (hba _ hS5).mono ?_); rintro e w1 ⟨B, rfl, hBB, hT, hb⟩; replace hP := blkB hb hP; replace hS5 := hS5.keep hb; replace bz := bel_via bz hb; clear hb hba)
      obtain ⟨A9, c9, ty9, x9, G9, hB9, h9a, h9b, h9c⟩ := hT
      rw [hlen] at hB9
      have hT1 := hB9
      have hT : TreeAt w1 B (l.take i) (.leaf (leftP fullB (l.take i))) := ⟨A9, c9, ty9, x9, G9, by rw [hlen]; exact hB9, h9a, h9b, h9c⟩
      clear h9a h9b h9c hB9
      go_upto_region 9 with (first | (go_at_call 25; go_loud (with_reducible refine (hno _ _ hT).mono ?_); rintro e w2 ⟨rfl, hb⟩; replace hP := blkB hb hP; replace hS5 := hS5.keep hb; replace bz := bel_via bz hb; replace hT := hT.keep hb; replace hT1 := blkB hb hT1; clear hb hno) | (go_at_call 22; go_loud (with_reducible refine (len_any _ _ _ _ _ _ hT1).mono ?_); rintro e w3 ⟨rfl, rfl⟩))
      go_wp2_with (first | (refine wpList_load_row rfl 58 (.tmp 3) rfl w.heap.size rfl 58 C (0, 0) _ hP Try.underlying58 rfl iC.out ?_) | (refine wpList_load_row_on (by rfl) 58 (.tmp 3) rfl w.heap.size rfl 58 C (0, 0) _ hP Try.underlying58 rfl iC.out ?_) | (go_at_call 26; go_loud (with_reducible refine (hfd _ _ hT).mono ?_); rintro e w4 ⟨rfl, hb⟩; replace hP := blkB hb hP; replace hS5 := hS5.keep hb; replace bz := bel_via bz hb; clear hb hfd) | (go_at_call 27; go_loud (with_reducible refine (hfi _ hS5).mono ?_); rintro e w5 ⟨rfl, hb⟩; replace bz := bel_via bz hb; clear hb))
      first | exact FIN.out _ bz | (go_ret; exact FIN.out _ bz)
end Go.Proofs.Ytceillkifchkdaa
