/- List and Due of a table of flows; by-name template (gen_fou.py). -/
import Derived.Test.YtdgodndaaenafaaFoT
namespace Go.Proofs.Ytdgodndaaenafaa
open Go.RowKit Go.Lib Go.Maps
set_option linter.unusedVariables false
set_option linter.unusedSimpArgs false

theorem f20_len (f : Fl) : (fcells f).length = 20 := rfl
theorem f20_one (f : Fl) : ∀ u ∈ fcells f, u.oneCell' = true := by
  have := f_one f
  unfold FA at this
  rw [List.all_toArray] at this
  exact fun u hu => List.all_eq_true.1 this u hu
theorem f_news (w : World) (f : Fl) (t : TypeId) : ∀ j u, (fcells f)[j]? = some u → (w.alloc (.cells (FA f) t)).cell? ((⟨w.heap.size, 0, none⟩ : Addr).add j) = some u := by
  intro j u hj
  rw [addr_add, cell_of_row _ w.heap.size (0 + j) _ _ _ (heap_alloc_new w (.cells (FA f) t)), Nat.zero_add]
  simpa [FA] using hj
theorem fl_info : (Try.prog.info? 38).map (fun i => (i.zero, i.size, i.bytes)) = some (some (.agg #[.int .i64 0, .int .i64 0, .int .u64 0, .int .u64 0, .int .u64 0, .int .u64 0, .int .i64 0, .int .i64 0, .int .i64 0, .int .u64 0, .int .u64 0, .int .u64 0, .int .u64 0, .int .i64 0, .int .i64 0, .int .i64 0, .int .i64 0, .int .i64 0, .int .i64 0, .int .i64 0]), 20, 160) := by kernel_rfl
theorem run_fbs1 (w : World) (f : Fl) : (Instr.buildSlice 43 1 #[(0, .agg (FA f))]).run Try.prog w = .ok (.slice (some ⟨w.heap.size, 0, none⟩) 1 1) (w.alloc (.cells (FA f) 38)) := by kernel_rfl
theorem wpList_fbs1 {ops : Array Oper} {rest : List Oper} {o : Oper} {a : Act} {w : World} {Q : Exit → Act → World → Prop} (hgd : o.guard = none) (x : Operand) (f : Fl) (F : Array Value) (hF : F = FA f) (ho : o.op = .buildSlice 43 1 #[(0, x)]) (hx : a.eval x = .agg F)
    (h : wpList Try.prog ops Q rest (a.put o.dst (.slice (some ⟨w.heap.size, 0, none⟩) 1 1)) (w.alloc (.cells F 38))) : wpList Try.prog ops Q (o :: rest) a w :=
  wpList_plain hgd fun _ hK => by
    subst hF
    unfold Oper.wp
    have e : (execOp a.eval o).run Try.prog w = .ok (.value (.slice (some ⟨w.heap.size, 0, none⟩) 1 1)) (w.alloc (.cells (FA f) 38)) := by
      unfold execOp
      simp only [ho, List.map_toArray, List.map_cons, List.map_nil, hx, Sem.run_bind, Sem.run_pure, Result.andThen_ok, run_fbs1]
    rw [e]
    simp [go_sem]
    exact hK _ _ h
/-- which flows have an ID up to i. -/
def uptoF (L : List Fl) (i : Nat) : List Fl := L.filter fun f => decide (f.id ≤ (i : Int))
theorem upto_zero {L : List Fl} (g : GoodF L) : uptoF L 0 = [] := by
  unfold uptoF
  rw [List.filter_eq_nil_iff]
  intro f hf
  have := (g.lo f hf).1
  simp; omega
theorem upto_all {L : List Fl} (g : GoodF L) : uptoF L 48 = L := by
  unfold uptoF
  rw [List.filter_eq_self]
  intro f hf
  have := (g.lo f hf).2
  simp; omega
theorem upto_no {L : List Fl} {i : Nat} (h : hasF L ((i : Int) + 1) = false) : uptoF L (i + 1) = uptoF L i := by
  unfold uptoF
  refine List.filter_congr fun f hf => ?_
  have : f.id ≠ (i : Int) + 1 := fun e => by
    have : hasF L ((i : Int) + 1) = true := List.any_eq_true.2 ⟨f, hf, by simpa using e⟩
    rw [h] at this; cases this
  simp; omega
theorem upto_yes {L : List Fl} (g : GoodF L) {i : Nat} {f : Fl} (hf : f ∈ L) (e : f.id = (i : Int) + 1) : uptoF L (i + 1) = uptoF L i ++ [f] := by
  have key : ∀ {M : List Fl}, M.Pairwise (fun x y => x.id < y.id) → f ∈ M → M.filter (fun f => decide (f.id ≤ ((i + 1 : Nat) : Int))) = M.filter (fun f => decide (f.id ≤ (i : Int))) ++ [f] := by
    intro M
    induction M with
    | nil => intro _ h; simp at h
    | cons a t ih =>
      intro hr hm
      have hp := List.pairwise_cons.1 hr
      rcases List.mem_cons.1 hm with q | hm'
      · subst q
        have h1 : t.filter (fun f => decide (f.id ≤ ((i + 1 : Nat) : Int))) = [] := by
          rw [List.filter_eq_nil_iff]
          intro x hx
          have := hp.1 x hx
          simp; omega
        have h2 : t.filter (fun f => decide (f.id ≤ (i : Int))) = [] := by
          rw [List.filter_eq_nil_iff]
          intro x hx
          have := hp.1 x hx
          simp; omega
        rw [List.filter_cons, if_pos (by simp; omega), List.filter_cons, if_neg (by simp; omega), h1, h2]
        rfl
      · have := hp.1 f hm'
        rw [List.filter_cons, if_pos (by simp; omega), List.filter_cons, if_pos (by simp; omega), ih hp.2 hm']
        rfl
  exact key g.ris hf

section
variable {w w' : World} {T Tw : Nat → Prop} {TB Bw Mo Mk co ck : Nat} {go : Int → Option Fl} {gk : Ky → Option Int} {W : List K2} {L : List Fl}
def ListPost (w : World) (L : List Fl) (e : Ending) (w' : World) : Prop := ∃ v, e = .returned v ∧ w'.ownsRow w.heap.size 38 20 v L.length (L.flatMap fcells) ∧ Below w.heap.size w w'

set_option maxRecDepth 100000 in
set_option maxHeartbeats 8000000 in
theorem list_any (g : GoodF L) (h : TW w T TB L W) : Calls Try.prog 11 #[.pointer (some ⟨TB, 0, none⟩)] w (ListPost w L) := by
  obtain ⟨Bw, Mo, Mk, Tw, h⟩ := h
  obtain ⟨M, hM⟩ : ∃ M, M = ListPost w L := ⟨_, rfl⟩
  have FIN : ∀ v w', w'.ownsRow w.heap.size 38 20 v L.length (L.flatMap fcells) → Below w.heap.size w w' → M (.returned v) w' := fun v w' h1 h2 => by
    rw [hM]; exact ⟨v, rfl, h1, h2⟩
  rw [← hM]
  have HF := Lib.hid FIN
  obtain ⟨iu, hiu, hu0, hu1, hu2⟩ := info_parts fl_info
  have cG := fun (w1 : World) (b : Below w.heap.size w w1) (i : Nat) (hi : i < 48) => get_any (h.below b) (id := (i : Int) + 1) (by unfold i64ok; omega)
  have HG := Lib.hid cG
  have HL := Lib.hid g
  have hA := fun (w1 : World) => heap_alloc_new w1 (.cells #[.int .i64 0, .int .i64 0, .int .u64 0, .int .u64 0, .int .u64 0, .int .u64 0, .int .i64 0, .int .i64 0, .int .i64 0, .int .u64 0, .int .u64 0, .int .u64 0, .int .u64 0, .int .i64 0, .int .i64 0, .int .i64 0, .int .i64 0, .int .i64 0, .int .i64 0, .int .i64 0] 38)
  have HA : ∀ w1 : World, (w1.alloc (.cells #[.int .i64 0, .int .i64 0, .int .u64 0, .int .u64 0, .int .u64 0, .int .u64 0, .int .i64 0, .int .i64 0, .int .i64 0, .int .u64 0, .int .u64 0, .int .u64 0, .int .u64 0, .int .i64 0, .int .i64 0, .int .i64 0, .int .i64 0, .int .i64 0, .int .i64 0, .int .i64 0] 38)).heap[w1.heap.size]? = some (.cells (FA zf) 38 (0, 0)) := fun w1 => hA w1
  have HA := Lib.hid HA
  clear FIN hM cG hA h g
  go_enter Try.func11, Try.ntmps11
  go_wp2_with fail
  go_loopw [3, 7] (fun v3 v7 wr => ∃ i : Nat, v7 = .int .i64 i ∧ i ≤ 48 ∧ (∃ U, Hid (U = uptoF L i) ∧ wr.ownsRow w.heap.size 38 20 v3 U.length (U.flatMap fcells)) ∧ Below w.heap.size w wr) (fun _ v7 _ => 48 - (intOf v7).toNat)
  case atStart => exact ⟨0, rfl, by omega, ⟨[], Lib.hid (upto_zero HL.out).symm, World.ownsRow_nil _ _ _ _⟩, Below.refl _ _⟩
  case round =>
    obtain ⟨i, rfl, hi, ⟨U, HU, hown⟩, bw⟩ := hrel
    have hul : U.length ≤ 48 := by
      rw [HU.out]
      exact Nat.le_trans (List.length_filter_le _ _) HL.out.ln
    by_cases hlt : i < 48
    · have hlti : (i : Int) < 48 := by omega
      have cG := HG.out wr bw i hlt
      rw [has_go] at cG
      have f_i := Lib.hid (f_inf ((goF L ((i : Int) + 1)).getD zf))
      have f_1 := Lib.hid (f_one ((goF L ((i : Int) + 1)).getD zf))
      have f_s := Lib.hid (show (FA zf).size = (FA ((goF L ((i : Int) + 1)).getD zf)).size from rfl)
      have hgf : ∀ f, f ∈ L → f.id = (i : Int) + 1 → (goF L ((i : Int) + 1)).getD zf = f := fun f hf e => by rw [← e, go_mem HL.out hf]; rfl
      have HGF := Lib.hid hgf
      generalize (goF L ((i : Int) + 1)).getD zf = fl at *
      obtain ⟨F, hF⟩ : ∃ F, F = FA fl := ⟨_, rfl⟩
      rw [← hF] at cG f_i f_1 f_s
      have HFA := Lib.hid hF
      clear hF hgf
      rcases hb : hasF L ((i : Int) + 1) with _ | _
      · rw [hb] at cG
        have HU' := Lib.hid (HU.out.trans (upto_no hb).symm)
        clear hb
        go_wp2_with (first
          | (go_at_call 25; refine cG.mono ?_; rintro e w1 ⟨rfl, b1⟩)
          | (refine wpList_store_row rfl 38 (.tmp 5) (.tmp 15) rfl w1.heap.size F rfl rfl 38 (FA zf) (HA.out w1) f_i.out f_s.out f_1.out ?_; rw [World.setRow_alloc_new]))
        have b2 : Below wr.heap.size wr (w1.alloc (.cells F 38)) := Below.al b1 _
        exact ⟨⟨i + 1, by simp, by omega, ⟨U, HU', own_below hown b2⟩, bel_via bw b2⟩, by simp [intOf]; omega⟩
      · rw [hb] at cG
        obtain ⟨f, hf, hfi⟩ := List.any_eq_true.1 hb
        have hfi : f.id = (i : Int) + 1 := by simpa using hfi
        have e := HGF.out f hf hfi
        subst e
        have HU' : Hid (U ++ [fl] = uptoF L (i + 1)) := Lib.hid (by rw [upto_yes HL.out hf hfi, HU.out])
        clear hb hf hfi HGF
        go_upto_region 7 with (first
          | (go_at_call 25; refine cG.mono ?_; rintro e w1 ⟨rfl, b1⟩)
          | (refine wpList_store_row rfl 38 (.tmp 5) (.tmp 15) rfl w1.heap.size F rfl rfl 38 (FA zf) (HA.out w1) f_i.out f_s.out f_1.out ?_; rw [World.setRow_alloc_new]))
        obtain ⟨w2, hw2⟩ : ∃ x, x = w1.alloc (.cells F 38) := ⟨_, rfl⟩
        have b2 : Below wr.heap.size wr w2 := by rw [hw2]; exact Below.al b1 _
        have A2 : w2.heap[w1.heap.size]? = some (.cells F 38 (0, 0)) := by rw [hw2]; exact heap_alloc_new w1 _
        rw [← hw2]
        clear hw2 cG
        generalize w1.heap.size = gB at *
        have hown2 := own_below hown b2
        have hownA := own_below hown2 (Below.al (Below.refl w2.heap.size w2) (.cells F 38))
        have hbA : w.heap.size ≤ (w2.alloc (.cells F 38)).heap.size := by rw [al_size]; have := bw.size; have := b2.size; omega
        have bA : Below w.heap.size w (w2.alloc (.cells F 38)) := bel_via (bel_via bw b2) (Below.al (Below.refl _ _) _)
        have h1 : ∀ j u, (fcells fl)[j]? = some u → (w2.alloc (.cells F 38)).cell? ((⟨w2.heap.size, 0, none⟩ : Addr).add j) = some u := by rw [HFA.out]; exact f_news w2 fl 38
        have h1 := Lib.hid h1
        have h2 := Lib.hid (f20_one fl)
        have hgt := Lib.hid (own_gt hownA)
        have a2 := fa_all A2
        go_wp2_with (first
          | (refine wpList_load_cells rfl 38 (.tmp 5) rfl ⟨gB, 0, none⟩ rfl F _ a2 Try.underlying38 rfl f_i.out ?_)
          | (refine wpList_fbs1 rfl (.tmp 19) fl F HFA.out rfl rfl ?_)
          | (at_builtin; go_loud (refine wpList_append_own _ rfl _ _ 43 rfl w.heap.size 38 iu (.agg #[.int .i64 0, .int .i64 0, .int .u64 0, .int .u64 0, .int .u64 0, .int .u64 0, .int .i64 0, .int .i64 0, .int .i64 0, .int .u64 0, .int .u64 0, .int .u64 0, .int .u64 0, .int .i64 0, .int .i64 0, .int .i64 0, .int .i64 0, .int .i64 0, .int .i64 0, .int .i64 0]) 20 160 Try.underlying43 hiu hu0 hu1 hu2 rfl (by decide) _ _ _ rfl hownA ⟨w2.heap.size, 0, none⟩ 1 1 (fcells fl) rfl rfl h1.out h2.out (by unfold maxLen; omega) (by omega) hbA ?_)))
        intro v10 w10 hown10 hg10 _
        have bw10 : Below w.heap.size w w10 := bA.grown hg10 hbA hgt.out
        clear hownA hown2 hown
        go_wp2_with fail
        exact ⟨⟨i + 1, by simp, by omega, ⟨U ++ [fl], HU', by simpa using hown10⟩, bw10⟩, by simp [intOf]; omega⟩
    · obtain rfl : i = 48 := by omega
      have hUL : U = L := HU.out.trans (upto_all HL.out)
      subst hUL
      have FIN := Lib.hid (HF.out _ _ hown bw)
      clear hown HF HU
      go_wp2_with fail
      first | exact FIN.out | (go_ret; exact FIN.out)
end
end Go.Proofs.Ytdgodndaaenafaa
