/- The document's free, and its plan in memory; by-name template (gen_na.py). -/
import Derived.Test.YtokbmahnjmmcaaaNaMP
namespace Go.Proofs.Ytokbmahnjmmcaaa
open Go.RowKit Go.Lib Go.Maps
set_option linter.unusedVariables false
set_option linter.unusedSimpArgs false

theorem has_take {tk : List KR} {i : Nat} {x b : KR} (h : tk[i]? = some x) : (tk.take (i + 1)).contains b = ((tk.take i).contains b || x == b) := by
  rw [List.take_add_one, h]
  simp only [Option.toList_some, List.contains_eq_any_beq, List.any_append, List.any_cons, List.any_nil, Bool.or_false]
  congr 1
  exact Bool.beq_comm
theorem has_hit {tk : List KR} {i : Nat} {x : KR} (h : tk[i]? = some x) : tk.contains x = true := by simpa using List.mem_of_getElem? h
set_option maxRecDepth 100000 in
set_option maxHeartbeats 8000000 in
theorem free_any (b o : KR) (A : Option Addr) (n cap : Nat) (tk : List KR) {w : World} (hS : Sl w 7 krc A n tk) :
    Calls Try.prog 29 #[.agg (KA b), .agg (KA o), .slice A n cap] w fun e w' => e = .returned (.bool (freeB b o tk)) ∧ Below w.heap.size w w' := by
  have HSl := Lib.hid hS
  have HL := Lib.hid hS.len
  have hnb := hS.big
  clear hS
  obtain ⟨R, hR⟩ : ∃ R, R = freeB b o tk := ⟨_, rfl⟩
  rw [← hR]
  have HR := Lib.hid hR
  clear hR
  have hb0 : Below w.heap.size w ((w.alloc (.cells (KA b) 35)).alloc (.cells (KA o) 35)) := Below.al (bel_al _ _) _
  have H0 : Hid (((w.alloc (.cells (KA b) 35)).alloc (.cells (KA o) 35)).heap[w.heap.size]? = some (.cells (KA b) 35 (0, 0))) := Lib.hid ((al_old (by simp only [al_size]; omega) _).trans (al_new rfl _))
  have H1 : Hid (((w.alloc (.cells (KA b) 35)).alloc (.cells (KA o) 35)).heap[w.heap.size + 1]? = some (.cells (KA o) 35 (0, 0))) := Lib.hid (al_new (by simp [al_size]) _)
  go_enter Try.func29, Try.ntmps29
  go_upto_region 1 with fail
  obtain ⟨w1, hw1⟩ : ∃ x, x = (w.alloc (.cells (KA b) 35)).alloc (.cells (KA o) 35) := ⟨_, rfl⟩
  rw [← hw1] at hb0 H0 H1 ⊢
  clear hw1
  have HB0 := Lib.hid hb0
  clear hb0
  go_wp2_with fail
  go_loopw [7] (fun v7 wr => ∃ i : Nat, v7 = .int .i64 i ∧ i ≤ n ∧ Hid ((tk.take i).contains b = false ∧ Below w1.heap.size w1 wr)) (fun v7 _ => n - (intOf v7).toNat)
  case atStart => exact ⟨0, rfl, by omega, Lib.hid ⟨by simp, Below.refl _ _⟩⟩
  case round =>
    obtain ⟨i, rfl, hi, HI⟩ := hrel
    by_cases hlt : i < n
    · have hlti : (i : Int) < (n : Int) := by omega
      obtain ⟨bb, off, hA, hbl, hrow⟩ := HSl.out.row (by omega)
      obtain ⟨x, hx⟩ : ∃ x, tk[i]? = some x := ⟨_, List.getElem?_eq_getElem (by rw [HL.out]; exact hlt)⟩
      have HX := Lib.hid hx
      subst hA
      have HS : Hid ((∀ j v, (KA x).toList[j]? = some v → wr.drew.cell? ((⟨bb, off + i * 7, none⟩ : Addr).add j) = some v) ∧ wr.drew.heap[w.heap.size]? = some (.cells (KA b) 35 (0, 0))) := Lib.hid ⟨fun j v hj => by
        rw [addr_add]
        exact keepc (bel_via HB0.out HI.out.2) (hrow i x hx j v hj), kb (bel_dr HI.out.2) H0.out⟩
      have hbw : bb < wr.heap.size := Nat.lt_of_lt_of_le hbl (bel_via HB0.out HI.out.2).size
      clear hrow hx
      obtain ⟨q, hq⟩ : ∃ q, q = (x == b) := ⟨_, rfl⟩
      have heq := fun W => eql_ky x b W
      rw [← hq] at heq
      have HQ := Lib.hid hq
      clear hq
      go_upto_region 4 with fail
      refine wp_region_held_drew (S := fun W1 : World => (∀ j v, (KA x).toList[j]? = some v → W1.cell? ((⟨bb, off + i * 7, none⟩ : Addr).add j) = some v) ∧ W1.heap[w.heap.size]? = some (.cells (KA b) 35 (0, 0))) (by kernel_rfl) HS.out (fun hS0 => ?_)
      refine wpAnyH_take (i := 0) (oi := ⟨some 14, _, _, _, _, _⟩) (v := .slice (some ⟨bb, off, none⟩) n cap) rfl (by kernel_rfl) (by kernel_rfl) (by kernel_rfl) (fun _ _ _ h => h) (.inl ⟨by rfl, fun W hW => by go_simp⟩) hS0 ?_
      try simp only [Act.put, List.setIfInBounds_toArray, List.set_cons_zero, List.set_cons_succ]
      refine wpAnyH_take (i := 1) (oi := ⟨some 15, _, _, _, _, _⟩) (v := .int .i64 i) rfl (by kernel_rfl) (by kernel_rfl) (by kernel_rfl) (fun _ _ _ h => h) (.inl ⟨by rfl, fun W hW => by go_simp⟩) hS0 ?_
      try simp only [Act.put, List.setIfInBounds_toArray, List.set_cons_zero, List.set_cons_succ]
      refine wpAnyH_take (i := 2) (oi := ⟨some 16, _, _, _, _, _⟩) (v := .pointer (some ⟨bb, off + i * 7, none⟩)) rfl (by kernel_rfl) (by kernel_rfl) (by kernel_rfl) (fun _ _ _ h => h) (.inl ⟨by rfl, fun W hW => by go_simp⟩) hS0 ?_
      try simp only [Act.put, List.setIfInBounds_toArray, List.set_cons_zero, List.set_cons_succ]
      refine wpAnyH_take (i := 3) (oi := ⟨some 17, _, _, _, _, _⟩) (v := .agg (KA x)) rfl (by kernel_rfl) (by kernel_rfl) (by kernel_rfl) (fun _ _ _ h => h) (yields_cells (by rfl) 35 _ rfl ⟨bb, off + i * 7, none⟩ rfl (KA x) _ (fun W hW => hW.1) Try.underlying35 rfl (k_inf _)) hS0 ?_
      try simp only [Act.put, List.setIfInBounds_toArray, List.set_cons_zero, List.set_cons_succ]
      refine wpAnyH_take (i := 4) (oi := ⟨some 18, _, _, _, _, _⟩) (v := .agg (KA b)) rfl (by kernel_rfl) (by kernel_rfl) (by kernel_rfl) (fun _ _ _ h => h) (yields_cells (by rfl) 35 _ rfl ⟨w.heap.size, 0, none⟩ rfl (KA b) _ (fun W hW => blk_all hW.2) Try.underlying35 rfl (k_inf _)) hS0 ?_
      try simp only [Act.put, List.setIfInBounds_toArray, List.set_cons_zero, List.set_cons_succ]
      refine wpAnyH_take (i := 5) (oi := ⟨some 19, _, _, _, _, _⟩) (v := .bool q) rfl (by kernel_rfl) (by kernel_rfl) (by kernel_rfl) (fun _ _ _ h => h) (.inl ⟨by rfl, fun W hW => by have := heq W; unfold execOp; simp only []; go_simp⟩) hS0 ?_
      try simp only [Act.put, List.setIfInBounds_toArray, List.set_cons_zero, List.set_cons_succ]
      refine wpAnyH_done (by kernel_rfl) ?_ _
      try simp only [Act.put, List.setIfInBounds_toArray, List.set_cons_zero, List.set_cons_succ]
      have HE : Hid (Below w1.heap.size w1 wr.drew) := Lib.hid (bel_dr HI.out.2)
      cases q
      · go_wp2_with fail
        exact ⟨⟨i + 1, by first | rfl | go_num, by omega, Lib.hid ⟨by rw [has_take HX.out, HI.out.1, ← HQ.out]; rfl, HE.out⟩⟩, by simp [intOf]; omega⟩
      · go_wp2_with fail
        go_ret
        refine ⟨ret_bool ?_, bel_via HB0.out HE.out⟩
        have e : x = b := by have := HQ.out; simpa using this.symm
        rw [HR.out]
        unfold freeB
        rw [← e, has_hit HX.out]
        rfl
    · have hin : i = n := by omega
      subst hin
      have hb9 := kb HI.out.2 H0.out
      have ho9 := kb HI.out.2 H1.out
      have Hb9 := Lib.hid hb9
      have Ho9 := Lib.hid ho9
      have hne := fun W => neq_ky b o W
      have hltn : ¬ (i : Int) < (i : Int) := by omega
      clear hb9 ho9 hlt
      go_wp2_with (first | ((with_reducible refine stop_op (o := ⟨some 20, _, _, _, _, _⟩) ?_); refine Lib.hid ?_; refine wpList_load_cells rfl 35 (.tmp 3) rfl ⟨w.heap.size, 0, none⟩ rfl (KA b) _ (blk_all Hb9.out) Try.underlying35 rfl (k_inf _) ?_) | ((with_reducible refine stop_op (o := ⟨some 21, _, _, _, _, _⟩) ?_); refine Lib.hid ?_; refine wpList_load_cells rfl 35 (.tmp 4) rfl ⟨w.heap.size + 1, 0, none⟩ rfl (KA o) _ (blk_all Ho9.out) Try.underlying35 rfl (k_inf _) ?_))
      go_ret
      refine ⟨ret_bool ?_, bel_via HB0.out HI.out.2⟩
      rw [HR.out]
      unfold freeB
      have := HI.out.1
      rw [List.take_of_length_le (by rw [HL.out]; exact Nat.le_refl _)] at this
      rw [this]
      simp
end Go.Proofs.Ytokbmahnjmmcaaa
