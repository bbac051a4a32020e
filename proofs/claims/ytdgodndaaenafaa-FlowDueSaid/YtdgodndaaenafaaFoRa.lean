/- The document's Add; by-name template (gen_fora.py). -/
import Derived.Test.YtdgodndaaenafaaFoRd
import Derived.Test.YtdgodndaaenafaaFoV
namespace Go.Proofs.Ytdgodndaaenafaa
open Go.RowKit Go.Lib Go.Maps
set_option linter.unusedVariables false
set_option linter.unusedSimpArgs false

theorem run_rbs1 (w : World) (f : Fl) : (Instr.buildSlice 26 1 #[(0, .agg (FA f))]).run Try.prog w = .ok (.slice (some ⟨w.heap.size, 0, none⟩) 1 1) (w.alloc (.cells (FA f) 42)) := by kernel_rfl
theorem wpList_rbs1 {ops : Array Oper} {rest : List Oper} {o : Oper} {a : Act} {w : World} {Q : Exit → Act → World → Prop} (hgd : o.guard = none) (x : Operand) (f : Fl) (F : Array Value) (hF : F = FA f) (ho : o.op = .buildSlice 26 1 #[(0, x)]) (hx : a.eval x = .agg F)
    (h : wpList Try.prog ops Q rest (a.put o.dst (.slice (some ⟨w.heap.size, 0, none⟩) 1 1)) (w.alloc (.cells F 42))) : wpList Try.prog ops Q (o :: rest) a w :=
  wpList_plain hgd fun _ hK => by
    subst hF
    unfold Oper.wp
    have e : (execOp a.eval o).run Try.prog w = .ok (.value (.slice (some ⟨w.heap.size, 0, none⟩) 1 1)) (w.alloc (.cells (FA f) 42)) := by
      unfold execOp
      simp only [ho, List.map_toArray, List.map_cons, List.map_nil, hx, Sem.run_bind, Sem.run_pure, Result.andThen_ok, run_rbs1]
    rw [e]
    simp [go_sem]
    exact hK _ _ h
def RAddPost (w : World) (R : Nat → Prop) (RB : Nat) (a : AddR) (e : Ending) (w' : World) : Prop :=
  e = .returned (.tuple #[.int .i64 a.id, .int .i64 a.gone, .int .i64 a.e]) ∧ RPost w R RB a.L w'
section
variable {w : World} {R : Nat → Prop} {RB : Nat} {A : Option Addr} {c : Nat} {L : List Fl}
theorem RPost.same (h : RAt w R RB L) {w' : World} (b : Below w.heap.size w w') : RPost w R RB L w' := ⟨R, h.below b, offS_below b, fun k hk => .inr (.inl hk)⟩
set_option maxRecDepth 100000 in
set_option maxHeartbeats 8000000 in
theorem radd_any (h : RAt w R RB L) {f : Fl} (hf : FlOk f) : Calls Try.prog 10 #[.pointer (some ⟨RB, 0, none⟩), .agg (FA f)] w (RAddPost w R RB (addF L f)) := by
  have h0 := h
  obtain ⟨gd, A, c, hi⟩ := h
  have hRlt := hi.lt
  have b1 : Below w.heap.size w (w.alloc (.cells (FA f) 42)) := Below.al (Below.refl _ _) _
  have A1 : (w.alloc (.cells (FA f) 42)).heap[w.heap.size]? = some (.cells (FA f) 42 (0, 0)) := heap_alloc_new w _
  have cT1 := fun (W1 : World) (b : Below w.heap.size w W1) => rtaken_any (hi.below b) gd.ln f.op
  have cT2 := fun (W1 : World) (b : Below w.heap.size w W1) => rtaken_any (hi.below b) gd.ln f.bk
  obtain ⟨iu, hiu, hu0, hu1, hu2⟩ := info_parts rf_info
  have ek := fun W1 => eql_ky f.op f.bk W1
  have k_i1 := Lib.hid (k_inf f.op)
  have k_i2 := Lib.hid (k_inf f.bk)
  have HOP := Lib.hid (fun (W1 : World) (hh : W1.heap[w.heap.size]? = some (.cells (FA f) 42 (0, 0))) => fa_op hh)
  have HBK := Lib.hid (fun (W1 : World) (hh : W1.heap[w.heap.size]? = some (.cells (FA f) 42 (0, 0))) => fa_bk hh)
  obtain ⟨M, hM⟩ : ∃ M, M = RAddPost w R RB (addF L f) := ⟨_, rfl⟩
  rw [← hM]
  have HM := Lib.hid hM
  clear hM
  obtain ⟨w1, hw1⟩ : ∃ x, x = w.alloc (.cells (FA f) 42) := ⟨_, rfl⟩
  rw [← hw1] at b1 A1
  have HW1 := Lib.hid hw1
  clear hw1
  rcases hb : badF L f with _ | _
  · have hb3 := bad_false hb
    have he0 : (f.op == f.bk) = false := by simpa using hb3.1
    rw [he0] at ek
    rw [hb3.2.1] at cT1
    rw [hb3.2.2] at cT2
    have HRB := Lib.hid hRlt
    have HI := Lib.hid (fun (W1 : World) (b : Below w.heap.size w W1) => hi.below b)
    have HRA := Lib.hid (fun (W1 : World) (b : Below w.heap.size w W1) => h0.below b)
    have hgd := Lib.hid gd
    have hln := gd.ln
    have HRT : Hid (R RB) := Lib.hid hi.rB
    clear hi gd h0 he0 hRlt
    have HBNE : Hid (w.heap.size ≠ RB) := Lib.hid (fun e => by have := HRB.out _ HRT.out; omega)
    by_cases hl : L.length < 48
    · have hl48I : ¬ (L.length : Int) = 48 := by omega
      have hl48D : decide ((L.length : Int) = 48) = false := decide_eq_false hl48I
      have c0 := fun (W1 : World) (b : Below w.heap.size w W1) => (HI.out W1 b).c0
      have HC0 := Lib.hid c0
      have HGI : Hid (GoodF (insF L f)) := Lib.hid (ins_good hgd.out hl hb hf)
      have HR3 : Hid (¬ R w.heap.size) := Lib.hid (fun hk => by have := HRB.out _ hk; omega)
      have HOK0 : Hid (∀ w3, Below w.heap.size w w3 → ∀ w5 wE, OffS (fun k => k = w.heap.size) w3 w5 → RPost w5 R RB (insF L f) wE → M (.returned (.tuple #[.int .i64 (((preF 0 L : Nat) : Int) + 1), .int .i64 0, .int .i64 0])) wE) := Lib.hid (fun w3 b3 w5 wE o5 hp => by
        rw [HM.out]
        unfold RAddPost addF
        rw [if_neg (by simp [hb]), if_pos hl]
        obtain ⟨R', r1, r2, r3⟩ := hp
        have o35 := ((offS_below b3).andThen o5 (S := fun k => k = RB) (fun i hi e => by omega)).trans r2
        refine ⟨rfl, R', r1, o35, fun k hk => ?_⟩
        rcases r3 k hk with q | q | q
        · exact .inl q
        · exact .inr (.inl q)
        · have := b3.size; have := o5.size; exact .inr (.inr (by omega)))
      have HRA3 := Lib.hid (fun (W1 : World) (b : Below w.heap.size w W1) => HRA.out W1 b)
      obtain ⟨K1, hK1⟩ : ∃ K, K = KA f.op := ⟨_, rfl⟩
      obtain ⟨K2, hK2⟩ : ∃ K, K = KA f.bk := ⟨_, rfl⟩
      obtain ⟨F, hF⟩ : ∃ K, K = FA f := ⟨_, rfl⟩
      rw [← hF] at A1
      simp only [← hF, ← hK1, ← hK2] at ek k_i1 k_i2 HOP HBK HW1 cT1 cT2
      have HgF := Lib.hid hF
      rw [← hF]
      clear hF hK1 hK2 hb hf hgd HI HRA HM c0
      go_enter Try.func10, Try.ntmps10
      go_upto_region 1 with fail
      rw [← HW1.out]
      go_upto_region 4 with (first
        | ((with_reducible refine stop_op (o := ⟨some 15, _, _, _, _, _⟩) ?_); refine Lib.hid ?_; refine wpList_load_cells rfl 36 (.tmp 14) rfl ⟨w.heap.size, 1, none⟩ rfl K1 _ (HOP.out _ A1) Try.underlying36 rfl k_i1.out ?_)
        | ((with_reducible refine stop_op (o := ⟨some 20, _, _, _, _, _⟩) ?_); refine Lib.hid ?_; refine wpList_load_cells_on (by kernel_rfl) 36 (.tmp 19) rfl ⟨w.heap.size, 8, none⟩ rfl K2 _ (HBK.out _ A1) Try.underlying36 rfl k_i2.out ?_)
        | ((with_reducible refine stop_op (o := ⟨some 25, _, _, _, _, _⟩) ?_); refine Lib.hid ?_; refine wpList_load_cells_on (by kernel_rfl) 36 (.tmp 24) rfl ⟨w.heap.size, 1, none⟩ rfl K1 _ (HOP.out _ A1) Try.underlying36 rfl k_i1.out ?_)
        | ((with_reducible refine stop_op (o := ⟨some 27, _, _, _, _, _⟩) ?_); refine Lib.hid ?_; refine wpList_load_cells_on (by kernel_rfl) 36 (.tmp 26) rfl ⟨w.heap.size, 8, none⟩ rfl K2 _ (HBK.out _ A1) Try.underlying36 rfl k_i2.out ?_)
        | ((go_at_call_of 22 (Value.agg K1)); with_reducible refine (cT1 _ b1).mono ?_; rintro e w2 ⟨rfl, bt⟩; replace A1 := blkB bt A1; replace b1 := bel_via b1 bt; clear bt)
        | ((go_at_call_of 22 (Value.agg K2)); with_reducible refine (cT2 _ b1).mono ?_; rintro e w2 ⟨rfl, bt⟩; replace A1 := blkB bt A1; replace b1 := bel_via b1 bt; clear bt)
        | fail)
      have c0 := HC0.out _ b1
      clear cT1 cT2 ek HOP HBK k_i1 k_i2 HW1
      go_upto_region 16 with fail
      clear c0 HC0
      obtain rfl : F = FA f := HgF.out
      obtain ⟨w3, hw3⟩ : ∃ x, x = w2 := ⟨_, rfl⟩
      subst hw3
      have A3 := A1
      have H3 := Lib.hid (HRA3.out _ b1)
      have HOK := Lib.hid (HOK0.out _ b1)
      clear A1 HRA3 HOK0 HgF b1 hl hl48I hl48D hln
      have hiu' := hiu
      -- the table has room: world w3, flows L, box A3, gone gn
      obtain ⟨g3, Ar, cr, hi3⟩ := H3.out
      have hln3 := g3.ln
      have hpl := pre_le L 0
      have HPI : Hid (∀ i, i < preF 0 L → ∃ y, L[i]? = some y ∧ y.id = (i : Int) + 1) := Lib.hid (fun i hi => by
        obtain ⟨y, h1, h2⟩ := pre_in L 0 i hi
        exact ⟨y, h1, by omega⟩)
      have HPO : Hid (∀ y, L[preF 0 L]? = some y → ¬ y.id = ((preF 0 L : Nat) : Int) + 1) := Lib.hid (fun y hy => by
        have := pre_out L 0 hy
        omega)
      have HRI : Hid (∀ W, OffS (fun k => k = w.heap.size) w3 W → RIn W R RB Ar cr L) := Lib.hid (fun W o => hi3.off o (fun k hk e => HR3.out (by rw [← e]; exact hk)))
      have HFIN : Hid (∀ w5 w0 wz v, OffS (fun k => k = w.heap.size) w3 w5 → Below w5.heap.size w5 w0 → Below w0.heap.size w0 wz → wz.ownsRow w0.heap.size 42 20 v (preF 0 L + 1 + (L.length - preF 0 L)) (((L.take (preF 0 L)).flatMap fcells ++ fcells { f with id := ((preF 0 L : Nat) : Int) + 1 }) ++ (L.drop (preF 0 L)).flatMap fcells) → M (.returned (.tuple #[.int .i64 (((preF 0 L : Nat) : Int) + 1), .int .i64 0, .int .i64 0])) (wz.setCell ⟨RB, 0, none⟩ v) ∧ wz.cell? ⟨RB, 0, none⟩ = some (.slice Ar L.length cr) ∧ wz.frozen? ⟨RB, 0, none⟩ = false ∧ ∃ A9 n9 c9, v = .slice A9 n9 c9) := Lib.hid (fun w5 w0 wz v o5 b0 bz hown => by
        have hi5 := HRI.out w5 o5
        have hlen : (insF L f).length = preF 0 L + 1 + (L.length - preF 0 L) := by rw [ins_flen]; omega
        have hfm : ((L.take (preF 0 L)).flatMap fcells ++ fcells { f with id := ((preF 0 L : Nat) : Int) + 1 }) ++ (L.drop (preF 0 L)).flatMap fcells = (insF L f).flatMap fcells := by unfold insF; simp
        rw [hfm, ← hlen] at hown
        have b05 := b0.trans (bz.mono b0.size)
        obtain ⟨A9, c9, rfl, hp⟩ := hi5.store HGI.out b0.size b05 hown
        exact ⟨HOK.out w5 _ o5 hp, keepc b05 hi5.c0, free_of ((b05.block RB (hi5.lt _ hi5.rB)).trans hi5.hm) 0, _, _, _, rfl⟩)
      have hnil := Lib.hid hi3.nil
      have hcap := hi3.cap
      have HFORM : Hid ((Ar = none ∧ cr = 0 ∧ L.length = 0) ∨ ∃ bb off, Ar = some ⟨bb, off, none⟩) := Lib.hid (by
        cases e : Ar with
        | none =>
          have h0 := hi3.nil e
          have := hi3.cap
          exact .inl ⟨rfl, h0, by omega⟩
        | some a =>
          obtain ⟨b, off, sp⟩ := a
          obtain ⟨_, _, rfl⟩ := hi3.rA b off sp e
          exact .inr ⟨b, off, rfl⟩)
      clear HGI HOK H3 hi3
      generalize hpp : preF 0 L = p at *
      generalize hnn3 : L.length = n3 at *
      have HN3 := Lib.hid hnn3
      clear hpp hnn3 g3
      have x0 := fa_id A3
      have x0f := free_of A3 0
      have A4 := fa_setid A3 1
      have o4 : OffS (fun k => k = w.heap.size) w3 (w3.setCell ⟨w.heap.size, 0, none⟩ (.int .i64 1)) := offS_set (S := fun k => k = w.heap.size) (OffS.refl _ _) rfl 0 _
      go_upto_region 18 with fail
      obtain ⟨w4, hw4⟩ : ∃ x, x = w3.setCell ⟨w.heap.size, 0, none⟩ (.int .i64 1) := ⟨_, rfl⟩
      rw [← hw4] at A4 o4 ⊢
      clear hw4 x0 x0f A3
      go_loopw [11] (fun v11 wr => ∃ i : Nat, v11 = .int .i64 i ∧ i ≤ p ∧ wr.heap[w.heap.size]? = some (.cells (FA { f with id := (i : Int) + 1 }) 42 (0, 0)) ∧ OffS (fun k => k = w.heap.size) w3 wr) (fun v11 _ => p + 1 - (intOf v11).toNat)
      case atStart => exact ⟨0, rfl, Nat.zero_le _, A4, o4⟩
      case round =>
        obtain ⟨i, rfl, hip, Ai, oi⟩ := hrel
        have hRi := HRI.out _ oi
        have c0 := hRi.c0
        rw [HN3.out] at c0
        have xi := fa_id Ai
        simp only at xi
        by_cases hlt : i < p
        · obtain ⟨y, hy, hyi⟩ := HPI.out i hlt
          obtain ⟨bb, off, hAr, hbl, hrow⟩ := hRi.sl.row (by rw [HN3.out]; omega)
          subst hAr
          have e0 := rf_cell hrow hy
          rw [hyi] at e0
          have hin : i < n3 := by omega
          have hinI : (i : Int) < (n3 : Int) := by omega
          have hinD : decide (i < n3) = true := by simp [hin]
          have xf := free_of Ai 0
          have Ai2 : ((wr.drewN 1).setCell ⟨w.heap.size, 0, none⟩ (.int .i64 ((i : Int) + 1 + 1))).heap[w.heap.size]? = some (.cells (FA { f with id := (i : Int) + 1 + 1 }) 42 (0, 0)) := fa_setid (w := wr.drewN 1) Ai ((i : Int) + 1 + 1)
          have HI2 : Hid (∀ nq, ((wr.drewN nq).setCell ⟨w.heap.size, 0, none⟩ (.int .i64 ((i : Int) + 1 + 1))).heap[w.heap.size]? = some (.cells (FA { f with id := (((i + 1 : Nat)) : Int) + 1 }) 42 (0, 0)) ∧ OffS (fun k => k = w.heap.size) w3 ((wr.drewN nq).setCell ⟨w.heap.size, 0, none⟩ (.int .i64 ((i : Int) + 1 + 1)))) := Lib.hid (fun nq => ⟨fa_setid (w := wr.drewN nq) Ai ((i : Int) + 1 + 1), offS_set (S := fun k => k = w.heap.size) (oi.dn nq) rfl 0 _⟩)
          clear hRi hrow hy hyi Ai oi Ai2
          go_wp2_with fail
          go_quiet (fail)
          go_wp2
          exact ⟨⟨i + 1, by simp, by omega, (HI2.out nq).1, (HI2.out nq).2⟩, by simp [intOf]; omega⟩
        · obtain rfl : i = p := by omega
          have HRI2 : Hid (∀ W, OffS (fun k => k = w.heap.size) w3 W → Sl W 20 fcells Ar n3 L ∧ W.cell? ⟨RB, 0, none⟩ = some (.slice Ar n3 cr)) := Lib.hid (fun W o => by
            have h := HRI.out W o
            have h1 := h.sl
            have h2 := h.c0
            rw [HN3.out] at h1 h2
            exact ⟨h1, h2⟩)
          by_cases hin : i < n3
          · obtain ⟨bb, off, hAr, hbl, hrow⟩ := hRi.sl.row (by rw [HN3.out]; omega)
            obtain ⟨y, hy⟩ : ∃ y, L[i]? = some y := ⟨_, List.getElem?_eq_getElem (by rw [HN3.out]; exact hin)⟩
            subst hAr
            have e0 := rf_cell hrow hy
            have hyi := HPO.out y hy
            have hinI : (i : Int) < (n3 : Int) := by omega
            have hinD : decide (i < n3) = true := by simp [hin]
            generalize y.id = yi at *
            clear hRi hrow hy
            go_wp2_with fail
            go_quiet (fail)
            clear e0 c0 xi
            have oq : OffS (fun k => k = w.heap.size) w3 (wr.drewN nq) := oi.dn nq
            have Aq : (wr.drewN nq).heap[w.heap.size]? = some (.cells (FA { f with id := (i : Int) + 1 }) 42 (0, 0)) := Ai
            clear oi Ai
            generalize wr.drewN nq = w5 at *
            by_cases hce : cr = i
            · omega
            · have hce' : ¬ cr = i := hce
              have hown6 : (w5.alloc (.cells #[] 42)).ownsRow w5.heap.size 42 20 (.slice (some ⟨w5.heap.size, 0, none⟩) 0 0) 0 ([] : List Value) := World.ownsRow_made w5 #[] 0 (Nat.le_refl _) (by unfold maxLen; omega) rfl
              have b6 : Below w5.heap.size w5 (w5.alloc (.cells #[] 42)) := (Below.refl w5.heap.size w5).alloc (Nat.le_refl _) _
              have rb0 := run_rbs0 w5
              obtain ⟨hs5, hc5⟩ := HRI2.out _ oq
              have hc6 := keepc b6 hc5
              have A6 := blkB b6 Aq
              have hs6 := Lib.hid ((hs5.cut (m := i) (by omega)).keep b6)
              have b5 : (i : Int) ≤ (n3 : Int) := by omega
              have b5c : (i : Int) ≤ (cr : Int) := by omega
              have b5n : i ≤ n3 := by omega
              have b5d : i ≤ cr := by omega
              have n2 : (i : Int).toNat = i := by omega
              have h163 : 0 + i ≤ maxLen := by unfold maxLen; omega
              have h1b : (0 + i) * 160 ≤ 140737488355328 := by omega
              go_upto_region 22 with fail
              obtain ⟨w6, hw6⟩ : ∃ x, x = w5.alloc (.cells #[] 42) := ⟨_, rfl⟩
              rw [← hw6] at hown6 b6 hc6 A6 hs6 ⊢
              have hbw6 : w5.heap.size ≤ w6.heap.size := b6.size
              obtain ⟨GG, hGG⟩ : ∃ G, G = w5.heap.size := ⟨_, rfl⟩
              rw [← hGG] at hown6 hbw6 ⊢
              have HGG := Lib.hid hGG
              clear hw6 hGG rb0
              go_wp2_with (at_builtin; go_loud (refine app_sl rfl _ _ 26 rfl GG 42 iu (.agg #[.int .i64 0, .int .i64 0, .int .u64 0, .int .u64 0, .int .u64 0, .int .u64 0, .int .i64 0, .int .i64 0, .int .i64 0, .int .u64 0, .int .u64 0, .int .u64 0, .int .u64 0, .int .i64 0, .int .i64 0, .int .i64 0, .int .i64 0, .int .i64 0, .int .i64 0, .int .i64 0]) 20 160 Try.underlying26 hiu hu0 hu1 hu2 rfl (by decide) _ 0 [] rfl hown6 fcells f20_len (some ⟨bb, off, none⟩) i cr (L.take i) hs6.out (fun h => by cases h) rfl f20_one h163 h1b hbw6 ?_))
              intro v7 w7 hown7 hg7
              have b7 : Below w5.heap.size w5 w7 := b6.grown hg7 (by have := HGG.out; omega) (fun q hq => by have := own_gt hown6 q hq; have := HGG.out; omega)
              have hbw7 : GG ≤ w7.heap.size := Nat.le_trans hbw6 hg7.size
              replace hown7 : w7.ownsRow GG 42 20 v7 i ((L.take i).flatMap fcells) := by simpa using hown7
              have A7 := blkB b7 Aq
              obtain ⟨A7s, c7, hv7⟩ := own_slice hown7
              subst hv7
              clear hown6 hg7 hs6 hc6 h163 h1b hbw6 b6 A6
              have f_i := Lib.hid (rf_inf { f with id := (i : Int) + 1 })
              have a7 := Lib.hid (fa_all A7)
              have hownA := own_below hown7 (Below.al (Below.refl w7.heap.size w7) (.cells (FA { f with id := (i : Int) + 1 }) 42))
              have bA : Below w5.heap.size w5 (w7.alloc (.cells (FA { f with id := (i : Int) + 1 }) 42)) := Below.al b7 _
              have hbA : GG ≤ (w7.alloc (.cells (FA { f with id := (i : Int) + 1 }) 42)).heap.size := by rw [al_size]; omega
              have h1 := Lib.hid (f_news w7 { f with id := (i : Int) + 1 } 42)
              have h2 := Lib.hid (f20_one { f with id := (i : Int) + 1 })
              go_upto_region 23 with fail
              go_wp2_with (first
                | ((with_reducible refine stop_op (o := ⟨some 128, _, _, _, _, _⟩) ?_); refine Lib.hid ?_; refine wpList_load_cells rfl 42 (.tmp 3) rfl ⟨w.heap.size, 0, none⟩ rfl (FA { f with id := (i : Int) + 1 }) _ a7.out Try.underlying42 rfl f_i.out ?_)
                | ((with_reducible refine stop_op (o := ⟨some 129, _, _, _, _, _⟩) ?_); refine Lib.hid ?_; refine wpList_rbs1 rfl (.tmp 128) { f with id := (i : Int) + 1 } (FA { f with id := (i : Int) + 1 }) rfl rfl rfl ?_)
                | (at_builtin; go_loud (refine wpList_append_own _ rfl _ _ 26 rfl GG 42 iu (.agg #[.int .i64 0, .int .i64 0, .int .u64 0, .int .u64 0, .int .u64 0, .int .u64 0, .int .i64 0, .int .i64 0, .int .i64 0, .int .u64 0, .int .u64 0, .int .u64 0, .int .u64 0, .int .i64 0, .int .i64 0, .int .i64 0, .int .i64 0, .int .i64 0, .int .i64 0, .int .i64 0]) 20 160 Try.underlying26 hiu hu0 hu1 hu2 rfl (by decide) _ _ _ rfl hownA ⟨w7.heap.size, 0, none⟩ 1 1 (fcells { f with id := (i : Int) + 1 }) rfl rfl h1.out h2.out (by unfold maxLen; omega) (by omega) hbA ?_)))
              intro v8 w8 hown8 hg8 _
              have b8 : Below w5.heap.size w5 w8 := bA.grown hg8 (by have := HGG.out; omega) (fun q hq => by have := own_gt hownA q hq; have := HGG.out; omega)
              have hbw8 : GG ≤ w8.heap.size := Nat.le_trans hbA hg8.size
              obtain ⟨A8s, c8, hv8⟩ := own_slice hown8
              subst hv8
              have A8 := blkB b8 Aq
              have hc8 := keepc b8 hc5
              have hs8 := hs5.keep b8
              have HD : Hid (∀ v9 w9, w9.ownsRow GG 42 20 v9 (i + 1 + (n3 - i)) (((L.take i).flatMap fcells ++ fcells { f with id := (i : Int) + 1 }) ++ (L.drop i).flatMap fcells) → w8.grownBy w9 (Value.slice A8s (i + 1) c8).ownBlock → M (.returned (.tuple #[.int .i64 ((i : Int) + 1), .int .i64 0, .int .i64 0])) (w9.setCell ⟨RB, 0, none⟩ v9) ∧ w9.cell? ⟨RB, 0, none⟩ = some (.slice (some ⟨bb, off, none⟩) n3 cr) ∧ w9.frozen? ⟨RB, 0, none⟩ = false ∧ (∃ A9 n9 c9, v9 = .slice A9 n9 c9) ∧ (w9.setCell ⟨RB, 0, none⟩ v9).cell? ⟨w.heap.size, 0, none⟩ = some (.int .i64 ((i : Int) + 1))) := Lib.hid (fun v9 w9 h9 g9 => by
                have b9 : Below w5.heap.size w5 w9 := b8.grown g9 (by have := HGG.out; omega) (fun q hq => by have := own_gt hown8 q hq; have := HGG.out; omega)
                rw [HGG.out] at h9
                obtain ⟨k1, k2, k3, k4⟩ := HFIN.out w5 w5 w9 v9 oq (Below.refl _ _) b9 h9
                refine ⟨k1, k2, k3, k4, ?_⟩
                have hA9 : (w9.setCell ⟨RB, 0, none⟩ v9).heap[w.heap.size]? = some (.cells (FA { f with id := (i : Int) + 1 }) 42 (0, 0)) := (set_other HBNE.out 0 v9).trans (blkB b9 Aq)
                exact fa_id hA9)
              clear HFIN HRI2 hownA hown7 bA hbA h1 h2 a7 A7 f_i hg8 b7 hbw7 hs5 hc5 oq Aq A8 HRI HPI HPO
              have h363 : i + 1 + (n3 - i) ≤ maxLen := by unfold maxLen; omega
              have h3b : (i + 1 + (n3 - i)) * 160 ≤ 140737488355328 := by omega
              have hs9 := Lib.hid (hs8.dropG (i := i) (by omega))
              go_wp2_with (at_builtin; go_loud (refine app_sl rfl _ _ 26 rfl GG 42 iu (.agg #[.int .i64 0, .int .i64 0, .int .u64 0, .int .u64 0, .int .u64 0, .int .u64 0, .int .i64 0, .int .i64 0, .int .i64 0, .int .u64 0, .int .u64 0, .int .u64 0, .int .u64 0, .int .i64 0, .int .i64 0, .int .i64 0, .int .i64 0, .int .i64 0, .int .i64 0, .int .i64 0]) 20 160 Try.underlying26 hiu hu0 hu1 hu2 rfl (by decide) _ (i + 1) ((L.take i).flatMap fcells ++ fcells { f with id := (i : Int) + 1 }) rfl hown8 fcells f20_len (some ⟨bb, off + i * 20, none⟩) (n3 - i) (cr - i) (L.drop i) hs9.out (fun h => by cases h) rfl f20_one h363 h3b hbw8 ?_))
              intro v9 w9 h9 g9
              obtain ⟨k1, k2, k3, ⟨A9, n9, c9, rfl⟩, k5⟩ := HD.out v9 w9 (by rw [List.append_assoc]; exact h9) g9
              have HK := Lib.hid k1
              clear k1 h9 g9 HD
              go_wp2_with fail
              simp [bodyPost, results, Try.results10, go_sem]
              exact HK.out
          · have hinI : ¬ (i : Int) < (n3 : Int) := by omega
            have hinD : decide (i < n3) = false := by simp; omega
            clear hRi
            go_wp2_with fail
            go_quiet (fail)
            clear c0 xi
            have oq : OffS (fun k => k = w.heap.size) w3 (wr.drewN nq) := oi.dn nq
            have Aq : (wr.drewN nq).heap[w.heap.size]? = some (.cells (FA { f with id := (i : Int) + 1 }) 42 (0, 0)) := Ai
            clear oi Ai
            generalize wr.drewN nq = w5 at *
            rcases HFORM.out with ⟨rfl, rfl, rfl⟩ | ⟨bb, off, rfl⟩
            · obtain rfl : i = 0 := by omega
              have hown6 : (w5.alloc (.cells #[] 42)).ownsRow w5.heap.size 42 20 (.slice (some ⟨w5.heap.size, 0, none⟩) 0 0) 0 ([] : List Value) := World.ownsRow_made w5 #[] 0 (Nat.le_refl _) (by unfold maxLen; omega) rfl
              have b6 : Below w5.heap.size w5 (w5.alloc (.cells #[] 42)) := (Below.refl w5.heap.size w5).alloc (Nat.le_refl _) _
              have rb0 := run_rbs0 w5
              obtain ⟨hs5, hc5⟩ := HRI2.out _ oq
              have hc6 := keepc b6 hc5
              have A6 := blkB b6 Aq
              have hs6 := Lib.hid ((hs5.cut (m := 0) (by omega)).keep b6)
              have b5 : ((0 : Nat) : Int) ≤ ((0 : Nat) : Int) := by omega
              have b5c : ((0 : Nat) : Int) ≤ ((0 : Nat) : Int) := by omega
              have b5n : 0 ≤ 0 := by omega
              have b5d : 0 ≤ 0 := by omega
              have n2 : ((0 : Nat) : Int).toNat = 0 := by omega
              have h163 : 0 + 0 ≤ maxLen := by unfold maxLen; omega
              have h1b : (0 + 0) * 160 ≤ 140737488355328 := by omega
              go_upto_region 22 with fail
              obtain ⟨w6, hw6⟩ : ∃ x, x = w5.alloc (.cells #[] 42) := ⟨_, rfl⟩
              rw [← hw6] at hown6 b6 hc6 A6 hs6 ⊢
              have hbw6 : w5.heap.size ≤ w6.heap.size := b6.size
              obtain ⟨GG, hGG⟩ : ∃ G, G = w5.heap.size := ⟨_, rfl⟩
              rw [← hGG] at hown6 hbw6 ⊢
              have HGG := Lib.hid hGG
              clear hw6 hGG rb0
              go_wp2_with (at_builtin; go_loud (refine app_sl rfl _ _ 26 rfl GG 42 iu (.agg #[.int .i64 0, .int .i64 0, .int .u64 0, .int .u64 0, .int .u64 0, .int .u64 0, .int .i64 0, .int .i64 0, .int .i64 0, .int .u64 0, .int .u64 0, .int .u64 0, .int .u64 0, .int .i64 0, .int .i64 0, .int .i64 0, .int .i64 0, .int .i64 0, .int .i64 0, .int .i64 0]) 20 160 Try.underlying26 hiu hu0 hu1 hu2 rfl (by decide) _ 0 [] rfl hown6 fcells f20_len none 0 0 (L.take 0) hs6.out (fun _ => rfl) rfl f20_one h163 h1b hbw6 ?_))
              intro v7 w7 hown7 hg7
              have b7 : Below w5.heap.size w5 w7 := b6.grown hg7 (by have := HGG.out; omega) (fun q hq => by have := own_gt hown6 q hq; have := HGG.out; omega)
              have hbw7 : GG ≤ w7.heap.size := Nat.le_trans hbw6 hg7.size
              replace hown7 : w7.ownsRow GG 42 20 v7 0 ((L.take 0).flatMap fcells) := by simpa using hown7
              have A7 := blkB b7 Aq
              obtain ⟨A7s, c7, hv7⟩ := own_slice hown7
              subst hv7
              clear hown6 hg7 hs6 hc6 h163 h1b hbw6 b6 A6
              have f_i := Lib.hid (rf_inf { f with id := ((0 : Nat) : Int) + 1 })
              have a7 := Lib.hid (fa_all A7)
              have hownA := own_below hown7 (Below.al (Below.refl w7.heap.size w7) (.cells (FA { f with id := ((0 : Nat) : Int) + 1 }) 42))
              have bA : Below w5.heap.size w5 (w7.alloc (.cells (FA { f with id := ((0 : Nat) : Int) + 1 }) 42)) := Below.al b7 _
              have hbA : GG ≤ (w7.alloc (.cells (FA { f with id := ((0 : Nat) : Int) + 1 }) 42)).heap.size := by rw [al_size]; omega
              have h1 := Lib.hid (f_news w7 { f with id := ((0 : Nat) : Int) + 1 } 42)
              have h2 := Lib.hid (f20_one { f with id := ((0 : Nat) : Int) + 1 })
              go_upto_region 23 with fail
              go_wp2_with (first
                | ((with_reducible refine stop_op (o := ⟨some 128, _, _, _, _, _⟩) ?_); refine Lib.hid ?_; refine wpList_load_cells rfl 42 (.tmp 3) rfl ⟨w.heap.size, 0, none⟩ rfl (FA { f with id := ((0 : Nat) : Int) + 1 }) _ a7.out Try.underlying42 rfl f_i.out ?_)
                | ((with_reducible refine stop_op (o := ⟨some 129, _, _, _, _, _⟩) ?_); refine Lib.hid ?_; refine wpList_rbs1 rfl (.tmp 128) { f with id := ((0 : Nat) : Int) + 1 } (FA { f with id := ((0 : Nat) : Int) + 1 }) rfl rfl rfl ?_)
                | (at_builtin; go_loud (refine wpList_append_own _ rfl _ _ 26 rfl GG 42 iu (.agg #[.int .i64 0, .int .i64 0, .int .u64 0, .int .u64 0, .int .u64 0, .int .u64 0, .int .i64 0, .int .i64 0, .int .i64 0, .int .u64 0, .int .u64 0, .int .u64 0, .int .u64 0, .int .i64 0, .int .i64 0, .int .i64 0, .int .i64 0, .int .i64 0, .int .i64 0, .int .i64 0]) 20 160 Try.underlying26 hiu hu0 hu1 hu2 rfl (by decide) _ _ _ rfl hownA ⟨w7.heap.size, 0, none⟩ 1 1 (fcells { f with id := ((0 : Nat) : Int) + 1 }) rfl rfl h1.out h2.out (by unfold maxLen; omega) (by omega) hbA ?_)))
              intro v8 w8 hown8 hg8 _
              have b8 : Below w5.heap.size w5 w8 := bA.grown hg8 (by have := HGG.out; omega) (fun q hq => by have := own_gt hownA q hq; have := HGG.out; omega)
              have hbw8 : GG ≤ w8.heap.size := Nat.le_trans hbA hg8.size
              obtain ⟨A8s, c8, hv8⟩ := own_slice hown8
              subst hv8
              have A8 := blkB b8 Aq
              have hc8 := keepc b8 hc5
              have hs8 := hs5.keep b8
              have HD : Hid (∀ v9 w9, w9.ownsRow GG 42 20 v9 (0 + 1 + (0 - 0)) (((L.take 0).flatMap fcells ++ fcells { f with id := ((0 : Nat) : Int) + 1 }) ++ (L.drop 0).flatMap fcells) → w8.grownBy w9 (Value.slice A8s (0 + 1) c8).ownBlock → M (.returned (.tuple #[.int .i64 (((0 : Nat) : Int) + 1), .int .i64 0, .int .i64 0])) (w9.setCell ⟨RB, 0, none⟩ v9) ∧ w9.cell? ⟨RB, 0, none⟩ = some (.slice none 0 0) ∧ w9.frozen? ⟨RB, 0, none⟩ = false ∧ (∃ A9 n9 c9, v9 = .slice A9 n9 c9) ∧ (w9.setCell ⟨RB, 0, none⟩ v9).cell? ⟨w.heap.size, 0, none⟩ = some (.int .i64 (((0 : Nat) : Int) + 1))) := Lib.hid (fun v9 w9 h9 g9 => by
                have b9 : Below w5.heap.size w5 w9 := b8.grown g9 (by have := HGG.out; omega) (fun q hq => by have := own_gt hown8 q hq; have := HGG.out; omega)
                rw [HGG.out] at h9
                obtain ⟨k1, k2, k3, k4⟩ := HFIN.out w5 w5 w9 v9 oq (Below.refl _ _) b9 h9
                refine ⟨k1, k2, k3, k4, ?_⟩
                have hA9 : (w9.setCell ⟨RB, 0, none⟩ v9).heap[w.heap.size]? = some (.cells (FA { f with id := ((0 : Nat) : Int) + 1 }) 42 (0, 0)) := (set_other HBNE.out 0 v9).trans (blkB b9 Aq)
                exact fa_id hA9)
              clear HFIN HRI2 hownA hown7 bA hbA h1 h2 a7 A7 f_i hg8 b7 hbw7 hs5 hc5 oq Aq A8 HRI HPI HPO
              have h363 : 0 + 1 + (0 - 0) ≤ maxLen := by unfold maxLen; omega
              have h3b : (0 + 1 + (0 - 0)) * 160 ≤ 140737488355328 := by omega
              have hs9 := Lib.hid (Sl.none (w := w8) (enc := fcells) (k := 20) none)
              have hdr : (L.drop 0) = [] := List.drop_eq_nil_of_le (by have := HN3.out; omega)
              rw [hdr] at HD
              simp only [Nat.sub_self, Nat.add_zero, List.flatMap_nil, List.append_nil] at HD
              replace h363 : 0 + 1 + 0 ≤ maxLen := by unfold maxLen; omega
              replace h3b : (0 + 1 + 0) * 160 ≤ 140737488355328 := by omega
              go_wp2_with (at_builtin; go_loud (refine app_sl rfl _ _ 26 rfl GG 42 iu (.agg #[.int .i64 0, .int .i64 0, .int .u64 0, .int .u64 0, .int .u64 0, .int .u64 0, .int .i64 0, .int .i64 0, .int .i64 0, .int .u64 0, .int .u64 0, .int .u64 0, .int .u64 0, .int .i64 0, .int .i64 0, .int .i64 0, .int .i64 0, .int .i64 0, .int .i64 0, .int .i64 0]) 20 160 Try.underlying26 hiu hu0 hu1 hu2 rfl (by decide) _ (0 + 1) ((L.take 0).flatMap fcells ++ fcells { f with id := ((0 : Nat) : Int) + 1 }) rfl hown8 fcells f20_len none 0 0 [] hs9.out (fun _ => rfl) rfl f20_one h363 h3b hbw8 ?_))
              intro v9 w9 h9 g9
              obtain ⟨k1, k2, k3, ⟨A9, n9, c9, rfl⟩, k5⟩ := HD.out v9 w9 (by simpa using h9) g9
              have HK := Lib.hid k1
              clear k1 h9 g9 HD
              go_wp2_with fail
              simp [bodyPost, results, Try.results10, go_sem]
              exact HK.out
            · by_cases hce : cr = i
              · have hce2 : i = cr := hce.symm
                subst hce2
                obtain rfl : i = n3 := by omega
                have hown6 : (w5.alloc (.cells #[] 42)).ownsRow w5.heap.size 42 20 (.slice (some ⟨w5.heap.size, 0, none⟩) 0 0) 0 ([] : List Value) := World.ownsRow_made w5 #[] 0 (Nat.le_refl _) (by unfold maxLen; omega) rfl
                have b6 : Below w5.heap.size w5 (w5.alloc (.cells #[] 42)) := (Below.refl w5.heap.size w5).alloc (Nat.le_refl _) _
                have rb0 := run_rbs0 w5
                obtain ⟨hs5, hc5⟩ := HRI2.out _ oq
                have hc6 := keepc b6 hc5
                have A6 := blkB b6 Aq
                have hs6 := Lib.hid ((hs5.cut (m := i) (by omega)).keep b6)
                have b5 : (i : Int) ≤ (i : Int) := by omega
                have b5c : (i : Int) ≤ (i : Int) := by omega
                have b5n : i ≤ i := by omega
                have b5d : i ≤ i := by omega
                have n2 : (i : Int).toNat = i := by omega
                have h163 : 0 + i ≤ maxLen := by unfold maxLen; omega
                have h1b : (0 + i) * 160 ≤ 140737488355328 := by omega
                go_upto_region 22 with fail
                obtain ⟨w6, hw6⟩ : ∃ x, x = w5.alloc (.cells #[] 42) := ⟨_, rfl⟩
                rw [← hw6] at hown6 b6 hc6 A6 hs6 ⊢
                have hbw6 : w5.heap.size ≤ w6.heap.size := b6.size
                obtain ⟨GG, hGG⟩ : ∃ G, G = w5.heap.size := ⟨_, rfl⟩
                rw [← hGG] at hown6 hbw6 ⊢
                have HGG := Lib.hid hGG
                clear hw6 hGG rb0
                go_wp2_with (at_builtin; go_loud (refine app_sl rfl _ _ 26 rfl GG 42 iu (.agg #[.int .i64 0, .int .i64 0, .int .u64 0, .int .u64 0, .int .u64 0, .int .u64 0, .int .i64 0, .int .i64 0, .int .i64 0, .int .u64 0, .int .u64 0, .int .u64 0, .int .u64 0, .int .i64 0, .int .i64 0, .int .i64 0, .int .i64 0, .int .i64 0, .int .i64 0, .int .i64 0]) 20 160 Try.underlying26 hiu hu0 hu1 hu2 rfl (by decide) _ 0 [] rfl hown6 fcells f20_len (some ⟨bb, off, none⟩) i i (L.take i) hs6.out (fun h => by cases h) rfl f20_one h163 h1b hbw6 ?_))
                intro v7 w7 hown7 hg7
                have b7 : Below w5.heap.size w5 w7 := b6.grown hg7 (by have := HGG.out; omega) (fun q hq => by have := own_gt hown6 q hq; have := HGG.out; omega)
                have hbw7 : GG ≤ w7.heap.size := Nat.le_trans hbw6 hg7.size
                replace hown7 : w7.ownsRow GG 42 20 v7 i ((L.take i).flatMap fcells) := by simpa using hown7
                have A7 := blkB b7 Aq
                obtain ⟨A7s, c7, hv7⟩ := own_slice hown7
                subst hv7
                clear hown6 hg7 hs6 hc6 h163 h1b hbw6 b6 A6
                have f_i := Lib.hid (rf_inf { f with id := (i : Int) + 1 })
                have a7 := Lib.hid (fa_all A7)
                have hownA := own_below hown7 (Below.al (Below.refl w7.heap.size w7) (.cells (FA { f with id := (i : Int) + 1 }) 42))
                have bA : Below w5.heap.size w5 (w7.alloc (.cells (FA { f with id := (i : Int) + 1 }) 42)) := Below.al b7 _
                have hbA : GG ≤ (w7.alloc (.cells (FA { f with id := (i : Int) + 1 }) 42)).heap.size := by rw [al_size]; omega
                have h1 := Lib.hid (f_news w7 { f with id := (i : Int) + 1 } 42)
                have h2 := Lib.hid (f20_one { f with id := (i : Int) + 1 })
                go_upto_region 23 with fail
                go_wp2_with (first
                  | ((with_reducible refine stop_op (o := ⟨some 128, _, _, _, _, _⟩) ?_); refine Lib.hid ?_; refine wpList_load_cells rfl 42 (.tmp 3) rfl ⟨w.heap.size, 0, none⟩ rfl (FA { f with id := (i : Int) + 1 }) _ a7.out Try.underlying42 rfl f_i.out ?_)
                  | ((with_reducible refine stop_op (o := ⟨some 129, _, _, _, _, _⟩) ?_); refine Lib.hid ?_; refine wpList_rbs1 rfl (.tmp 128) { f with id := (i : Int) + 1 } (FA { f with id := (i : Int) + 1 }) rfl rfl rfl ?_)
                  | (at_builtin; go_loud (refine wpList_append_own _ rfl _ _ 26 rfl GG 42 iu (.agg #[.int .i64 0, .int .i64 0, .int .u64 0, .int .u64 0, .int .u64 0, .int .u64 0, .int .i64 0, .int .i64 0, .int .i64 0, .int .u64 0, .int .u64 0, .int .u64 0, .int .u64 0, .int .i64 0, .int .i64 0, .int .i64 0, .int .i64 0, .int .i64 0, .int .i64 0, .int .i64 0]) 20 160 Try.underlying26 hiu hu0 hu1 hu2 rfl (by decide) _ _ _ rfl hownA ⟨w7.heap.size, 0, none⟩ 1 1 (fcells { f with id := (i : Int) + 1 }) rfl rfl h1.out h2.out (by unfold maxLen; omega) (by omega) hbA ?_)))
                intro v8 w8 hown8 hg8 _
                have b8 : Below w5.heap.size w5 w8 := bA.grown hg8 (by have := HGG.out; omega) (fun q hq => by have := own_gt hownA q hq; have := HGG.out; omega)
                have hbw8 : GG ≤ w8.heap.size := Nat.le_trans hbA hg8.size
                obtain ⟨A8s, c8, hv8⟩ := own_slice hown8
                subst hv8
                have A8 := blkB b8 Aq
                have hc8 := keepc b8 hc5
                have hs8 := hs5.keep b8
                have HD : Hid (∀ v9 w9, w9.ownsRow GG 42 20 v9 (i + 1 + (i - i)) (((L.take i).flatMap fcells ++ fcells { f with id := (i : Int) + 1 }) ++ (L.drop i).flatMap fcells) → w8.grownBy w9 (Value.slice A8s (i + 1) c8).ownBlock → M (.returned (.tuple #[.int .i64 ((i : Int) + 1), .int .i64 0, .int .i64 0])) (w9.setCell ⟨RB, 0, none⟩ v9) ∧ w9.cell? ⟨RB, 0, none⟩ = some (.slice (some ⟨bb, off, none⟩) i i) ∧ w9.frozen? ⟨RB, 0, none⟩ = false ∧ (∃ A9 n9 c9, v9 = .slice A9 n9 c9) ∧ (w9.setCell ⟨RB, 0, none⟩ v9).cell? ⟨w.heap.size, 0, none⟩ = some (.int .i64 ((i : Int) + 1))) := Lib.hid (fun v9 w9 h9 g9 => by
                  have b9 : Below w5.heap.size w5 w9 := b8.grown g9 (by have := HGG.out; omega) (fun q hq => by have := own_gt hown8 q hq; have := HGG.out; omega)
                  rw [HGG.out] at h9
                  obtain ⟨k1, k2, k3, k4⟩ := HFIN.out w5 w5 w9 v9 oq (Below.refl _ _) b9 h9
                  refine ⟨k1, k2, k3, k4, ?_⟩
                  have hA9 : (w9.setCell ⟨RB, 0, none⟩ v9).heap[w.heap.size]? = some (.cells (FA { f with id := (i : Int) + 1 }) 42 (0, 0)) := (set_other HBNE.out 0 v9).trans (blkB b9 Aq)
                  exact fa_id hA9)
                clear HFIN HRI2 hownA hown7 bA hbA h1 h2 a7 A7 f_i hg8 b7 hbw7 hs5 hc5 oq Aq A8 HRI HPI HPO
                have h363 : i + 1 + (i - i) ≤ maxLen := by unfold maxLen; omega
                have h3b : (i + 1 + (i - i)) * 160 ≤ 140737488355328 := by omega
                have hs9 := Lib.hid (Sl.none (w := w8) (enc := fcells) (k := 20) (some ⟨bb, off, none⟩))
                have hdr : (L.drop i) = [] := List.drop_eq_nil_of_le (by have := HN3.out; omega)
                have hni : i - i = 0 := by omega
                rw [hdr, hni] at HD
                simp only [Nat.add_zero, List.flatMap_nil, List.append_nil] at HD
                replace h363 : i + 1 + 0 ≤ maxLen := by unfold maxLen; omega
                replace h3b : (i + 1 + 0) * 160 ≤ 140737488355328 := by omega
                go_wp2_with (at_builtin; go_loud (refine app_sl rfl _ _ 26 rfl GG 42 iu (.agg #[.int .i64 0, .int .i64 0, .int .u64 0, .int .u64 0, .int .u64 0, .int .u64 0, .int .i64 0, .int .i64 0, .int .i64 0, .int .u64 0, .int .u64 0, .int .u64 0, .int .u64 0, .int .i64 0, .int .i64 0, .int .i64 0, .int .i64 0, .int .i64 0, .int .i64 0, .int .i64 0]) 20 160 Try.underlying26 hiu hu0 hu1 hu2 rfl (by decide) _ (i + 1) ((L.take i).flatMap fcells ++ fcells { f with id := (i : Int) + 1 }) rfl hown8 fcells f20_len (some ⟨bb, off, none⟩) 0 0 [] hs9.out (fun h => by cases h) rfl f20_one h363 h3b hbw8 ?_))
                intro v9 w9 h9 g9
                obtain ⟨k1, k2, k3, ⟨A9, n9, c9, rfl⟩, k5⟩ := HD.out v9 w9 (by simpa using h9) g9
                have HK := Lib.hid k1
                clear k1 h9 g9 HD
                go_wp2_with fail
                simp [bodyPost, results, Try.results10, go_sem]
                exact HK.out
              · have hce' : ¬ cr = i := hce
                have hown6 : (w5.alloc (.cells #[] 42)).ownsRow w5.heap.size 42 20 (.slice (some ⟨w5.heap.size, 0, none⟩) 0 0) 0 ([] : List Value) := World.ownsRow_made w5 #[] 0 (Nat.le_refl _) (by unfold maxLen; omega) rfl
                have b6 : Below w5.heap.size w5 (w5.alloc (.cells #[] 42)) := (Below.refl w5.heap.size w5).alloc (Nat.le_refl _) _
                have rb0 := run_rbs0 w5
                obtain ⟨hs5, hc5⟩ := HRI2.out _ oq
                have hc6 := keepc b6 hc5
                have A6 := blkB b6 Aq
                have hs6 := Lib.hid ((hs5.cut (m := i) (by omega)).keep b6)
                have b5 : (i : Int) ≤ (n3 : Int) := by omega
                have b5c : (i : Int) ≤ (cr : Int) := by omega
                have b5n : i ≤ n3 := by omega
                have b5d : i ≤ cr := by omega
                have n2 : (i : Int).toNat = i := by omega
                have h163 : 0 + i ≤ maxLen := by unfold maxLen; omega
                have h1b : (0 + i) * 160 ≤ 140737488355328 := by omega
                go_upto_region 22 with fail
                obtain ⟨w6, hw6⟩ : ∃ x, x = w5.alloc (.cells #[] 42) := ⟨_, rfl⟩
                rw [← hw6] at hown6 b6 hc6 A6 hs6 ⊢
                have hbw6 : w5.heap.size ≤ w6.heap.size := b6.size
                obtain ⟨GG, hGG⟩ : ∃ G, G = w5.heap.size := ⟨_, rfl⟩
                rw [← hGG] at hown6 hbw6 ⊢
                have HGG := Lib.hid hGG
                clear hw6 hGG rb0
                go_wp2_with (at_builtin; go_loud (refine app_sl rfl _ _ 26 rfl GG 42 iu (.agg #[.int .i64 0, .int .i64 0, .int .u64 0, .int .u64 0, .int .u64 0, .int .u64 0, .int .i64 0, .int .i64 0, .int .i64 0, .int .u64 0, .int .u64 0, .int .u64 0, .int .u64 0, .int .i64 0, .int .i64 0, .int .i64 0, .int .i64 0, .int .i64 0, .int .i64 0, .int .i64 0]) 20 160 Try.underlying26 hiu hu0 hu1 hu2 rfl (by decide) _ 0 [] rfl hown6 fcells f20_len (some ⟨bb, off, none⟩) i cr (L.take i) hs6.out (fun h => by cases h) rfl f20_one h163 h1b hbw6 ?_))
                intro v7 w7 hown7 hg7
                have b7 : Below w5.heap.size w5 w7 := b6.grown hg7 (by have := HGG.out; omega) (fun q hq => by have := own_gt hown6 q hq; have := HGG.out; omega)
                have hbw7 : GG ≤ w7.heap.size := Nat.le_trans hbw6 hg7.size
                replace hown7 : w7.ownsRow GG 42 20 v7 i ((L.take i).flatMap fcells) := by simpa using hown7
                have A7 := blkB b7 Aq
                obtain ⟨A7s, c7, hv7⟩ := own_slice hown7
                subst hv7
                clear hown6 hg7 hs6 hc6 h163 h1b hbw6 b6 A6
                have f_i := Lib.hid (rf_inf { f with id := (i : Int) + 1 })
                have a7 := Lib.hid (fa_all A7)
                have hownA := own_below hown7 (Below.al (Below.refl w7.heap.size w7) (.cells (FA { f with id := (i : Int) + 1 }) 42))
                have bA : Below w5.heap.size w5 (w7.alloc (.cells (FA { f with id := (i : Int) + 1 }) 42)) := Below.al b7 _
                have hbA : GG ≤ (w7.alloc (.cells (FA { f with id := (i : Int) + 1 }) 42)).heap.size := by rw [al_size]; omega
                have h1 := Lib.hid (f_news w7 { f with id := (i : Int) + 1 } 42)
                have h2 := Lib.hid (f20_one { f with id := (i : Int) + 1 })
                go_upto_region 23 with fail
                go_wp2_with (first
                  | ((with_reducible refine stop_op (o := ⟨some 128, _, _, _, _, _⟩) ?_); refine Lib.hid ?_; refine wpList_load_cells rfl 42 (.tmp 3) rfl ⟨w.heap.size, 0, none⟩ rfl (FA { f with id := (i : Int) + 1 }) _ a7.out Try.underlying42 rfl f_i.out ?_)
                  | ((with_reducible refine stop_op (o := ⟨some 129, _, _, _, _, _⟩) ?_); refine Lib.hid ?_; refine wpList_rbs1 rfl (.tmp 128) { f with id := (i : Int) + 1 } (FA { f with id := (i : Int) + 1 }) rfl rfl rfl ?_)
                  | (at_builtin; go_loud (refine wpList_append_own _ rfl _ _ 26 rfl GG 42 iu (.agg #[.int .i64 0, .int .i64 0, .int .u64 0, .int .u64 0, .int .u64 0, .int .u64 0, .int .i64 0, .int .i64 0, .int .i64 0, .int .u64 0, .int .u64 0, .int .u64 0, .int .u64 0, .int .i64 0, .int .i64 0, .int .i64 0, .int .i64 0, .int .i64 0, .int .i64 0, .int .i64 0]) 20 160 Try.underlying26 hiu hu0 hu1 hu2 rfl (by decide) _ _ _ rfl hownA ⟨w7.heap.size, 0, none⟩ 1 1 (fcells { f with id := (i : Int) + 1 }) rfl rfl h1.out h2.out (by unfold maxLen; omega) (by omega) hbA ?_)))
                intro v8 w8 hown8 hg8 _
                have b8 : Below w5.heap.size w5 w8 := bA.grown hg8 (by have := HGG.out; omega) (fun q hq => by have := own_gt hownA q hq; have := HGG.out; omega)
                have hbw8 : GG ≤ w8.heap.size := Nat.le_trans hbA hg8.size
                obtain ⟨A8s, c8, hv8⟩ := own_slice hown8
                subst hv8
                have A8 := blkB b8 Aq
                have hc8 := keepc b8 hc5
                have hs8 := hs5.keep b8
                have HD : Hid (∀ v9 w9, w9.ownsRow GG 42 20 v9 (i + 1 + (n3 - i)) (((L.take i).flatMap fcells ++ fcells { f with id := (i : Int) + 1 }) ++ (L.drop i).flatMap fcells) → w8.grownBy w9 (Value.slice A8s (i + 1) c8).ownBlock → M (.returned (.tuple #[.int .i64 ((i : Int) + 1), .int .i64 0, .int .i64 0])) (w9.setCell ⟨RB, 0, none⟩ v9) ∧ w9.cell? ⟨RB, 0, none⟩ = some (.slice (some ⟨bb, off, none⟩) n3 cr) ∧ w9.frozen? ⟨RB, 0, none⟩ = false ∧ (∃ A9 n9 c9, v9 = .slice A9 n9 c9) ∧ (w9.setCell ⟨RB, 0, none⟩ v9).cell? ⟨w.heap.size, 0, none⟩ = some (.int .i64 ((i : Int) + 1))) := Lib.hid (fun v9 w9 h9 g9 => by
                  have b9 : Below w5.heap.size w5 w9 := b8.grown g9 (by have := HGG.out; omega) (fun q hq => by have := own_gt hown8 q hq; have := HGG.out; omega)
                  rw [HGG.out] at h9
                  obtain ⟨k1, k2, k3, k4⟩ := HFIN.out w5 w5 w9 v9 oq (Below.refl _ _) b9 h9
                  refine ⟨k1, k2, k3, k4, ?_⟩
                  have hA9 : (w9.setCell ⟨RB, 0, none⟩ v9).heap[w.heap.size]? = some (.cells (FA { f with id := (i : Int) + 1 }) 42 (0, 0)) := (set_other HBNE.out 0 v9).trans (blkB b9 Aq)
                  exact fa_id hA9)
                clear HFIN HRI2 hownA hown7 bA hbA h1 h2 a7 A7 f_i hg8 b7 hbw7 hs5 hc5 oq Aq A8 HRI HPI HPO
                have h363 : i + 1 + (n3 - i) ≤ maxLen := by unfold maxLen; omega
                have h3b : (i + 1 + (n3 - i)) * 160 ≤ 140737488355328 := by omega
                have hs9 := Lib.hid (hs8.dropG (i := i) (by omega))
                go_wp2_with (at_builtin; go_loud (refine app_sl rfl _ _ 26 rfl GG 42 iu (.agg #[.int .i64 0, .int .i64 0, .int .u64 0, .int .u64 0, .int .u64 0, .int .u64 0, .int .i64 0, .int .i64 0, .int .i64 0, .int .u64 0, .int .u64 0, .int .u64 0, .int .u64 0, .int .i64 0, .int .i64 0, .int .i64 0, .int .i64 0, .int .i64 0, .int .i64 0, .int .i64 0]) 20 160 Try.underlying26 hiu hu0 hu1 hu2 rfl (by decide) _ (i + 1) ((L.take i).flatMap fcells ++ fcells { f with id := (i : Int) + 1 }) rfl hown8 fcells f20_len (some ⟨bb, off + i * 20, none⟩) (n3 - i) (cr - i) (L.drop i) hs9.out (fun h => by cases h) rfl f20_one h363 h3b hbw8 ?_))
                intro v9 w9 h9 g9
                obtain ⟨k1, k2, k3, ⟨A9, n9, c9, rfl⟩, k5⟩ := HD.out v9 w9 (by rw [List.append_assoc]; exact h9) g9
                have HK := Lib.hid k1
                clear k1 h9 g9 HD
                go_wp2_with fail
                simp [bodyPost, results, Try.results10, go_sem]
                exact HK.out
    · have hl48 : L.length = 48 := by omega
      have hl48I : (L.length : Int) = 48 := by omega
      have c0 := fun (W1 : World) (b : Below w.heap.size w W1) => (HI.out W1 b).c0
      rw [hl48] at c0
      have HC0 := Lib.hid c0
      have HROW : Hid (∀ W1, Below w.heap.size w W1 → ∀ (j : Nat) (y : Fl), L[j]? = some y → ∃ bb off, A = some ⟨bb, off, none⟩ ∧ (∀ t v, (FA y).toList[t]? = some v → W1.cell? ((⟨bb, off + j * 20, none⟩ : Addr).add t) = some v)) := Lib.hid (fun W1 b j y hy => by
        obtain ⟨bb, off, hA, _, hrow⟩ := (HI.out W1 b).sl.row (by omega)
        exact ⟨bb, off, hA, f_row hrow hy⟩)
      have HWK : Hid (weakF L = L.foldl weakS none) := Lib.hid rfl
      have HL48 := Lib.hid hl48
      have HHI := HI
      obtain ⟨K1, hK1⟩ : ∃ K, K = KA f.op := ⟨_, rfl⟩
      obtain ⟨K2, hK2⟩ : ∃ K, K = KA f.bk := ⟨_, rfl⟩
      obtain ⟨F, hF⟩ : ∃ K, K = FA f := ⟨_, rfl⟩
      rw [← hF] at A1
      simp only [← hF, ← hK1, ← hK2] at ek k_i1 k_i2 HOP HBK HW1 cT1 cT2
      have HgF := Lib.hid hF
      rw [← hF]
      have hA := fun (w1 : World) => heap_alloc_new w1 (.cells #[.int .i64 0, .int .i64 0, .int .u64 0, .int .u64 0, .int .u64 0, .int .u64 0, .int .i64 0, .int .i64 0, .int .i64 0, .int .u64 0, .int .u64 0, .int .u64 0, .int .u64 0, .int .i64 0, .int .i64 0, .int .i64 0, .int .i64 0, .int .i64 0, .int .i64 0, .int .i64 0] 42)
      have HA : ∀ w1 : World, (w1.alloc (.cells #[.int .i64 0, .int .i64 0, .int .u64 0, .int .u64 0, .int .u64 0, .int .u64 0, .int .i64 0, .int .i64 0, .int .i64 0, .int .u64 0, .int .u64 0, .int .u64 0, .int .u64 0, .int .i64 0, .int .i64 0, .int .i64 0, .int .i64 0, .int .i64 0, .int .i64 0, .int .i64 0] 42)).heap[w1.heap.size]? = some (.cells (FA zf) 42 (0, 0)) := fun w1 => hA w1
      have HA := Lib.hid HA
      clear hF hK1 hK2 c0 hA HI
      go_enter Try.func10, Try.ntmps10
      go_upto_region 1 with fail
      rw [← HW1.out]
      go_upto_region 4 with (first
        | ((with_reducible refine stop_op (o := ⟨some 15, _, _, _, _, _⟩) ?_); refine Lib.hid ?_; refine wpList_load_cells rfl 36 (.tmp 14) rfl ⟨w.heap.size, 1, none⟩ rfl K1 _ (HOP.out _ A1) Try.underlying36 rfl k_i1.out ?_)
        | ((with_reducible refine stop_op (o := ⟨some 20, _, _, _, _, _⟩) ?_); refine Lib.hid ?_; refine wpList_load_cells_on (by kernel_rfl) 36 (.tmp 19) rfl ⟨w.heap.size, 8, none⟩ rfl K2 _ (HBK.out _ A1) Try.underlying36 rfl k_i2.out ?_)
        | ((with_reducible refine stop_op (o := ⟨some 25, _, _, _, _, _⟩) ?_); refine Lib.hid ?_; refine wpList_load_cells_on (by kernel_rfl) 36 (.tmp 24) rfl ⟨w.heap.size, 1, none⟩ rfl K1 _ (HOP.out _ A1) Try.underlying36 rfl k_i1.out ?_)
        | ((with_reducible refine stop_op (o := ⟨some 27, _, _, _, _, _⟩) ?_); refine Lib.hid ?_; refine wpList_load_cells_on (by kernel_rfl) 36 (.tmp 26) rfl ⟨w.heap.size, 8, none⟩ rfl K2 _ (HBK.out _ A1) Try.underlying36 rfl k_i2.out ?_)
        | ((go_at_call_of 22 (Value.agg K1)); with_reducible refine (cT1 _ b1).mono ?_; rintro e w2 ⟨rfl, bt⟩; replace A1 := blkB bt A1; replace b1 := bel_via b1 bt; clear bt)
        | ((go_at_call_of 22 (Value.agg K2)); with_reducible refine (cT2 _ b1).mono ?_; rintro e w2 ⟨rfl, bt⟩; replace A1 := blkB bt A1; replace b1 := bel_via b1 bt; clear bt)
        | fail)
      have c0 := HC0.out _ b1
      clear cT1 cT2 ek HOP HBK k_i1 k_i2 HW1
      go_upto_region 7 with fail
      clear c0
      obtain ⟨wk, hwk⟩ : ∃ x, x = w2 := ⟨_, rfl⟩
      subst hwk
      go_loopw [8, 9] (fun v8 v9 wr => ∃ i : Nat, v9 = .int .i64 i ∧ i ≤ 48 ∧ (∃ b, Hid (b = (L.take i).foldl weakS none) ∧ ((b = none ∧ v8 = .int .i64 (-1)) ∨ ∃ (j : Nat) (y : Fl), b = some y ∧ L[j]? = some y ∧ j < 48 ∧ v8 = .int .i64 (j : Int))) ∧ Below wk.heap.size wk wr) (fun _ v9 _ => 48 - (intOf v9).toNat)
      case atStart => exact ⟨0, rfl, by omega, ⟨none, Lib.hid rfl, .inl ⟨rfl, rfl⟩⟩, Below.refl _ _⟩
      case round =>
        obtain ⟨i, rfl, hi, ⟨b, HB, hb8⟩, bw⟩ := hrel
        have bww := b1.trans (bw.mono b1.size)
        have c0 := HC0.out _ bww
        by_cases hlt : i < 48
        · have hlti : (i : Int) < 48 := by omega
          obtain ⟨x, hx⟩ : ∃ x, L[i]? = some x := ⟨_, List.getElem?_eq_getElem (by rw [HL48.out]; exact hlt)⟩
          obtain ⟨bb, off, rfl, e0⟩ := HROW.out _ bww i x hx
          have e0 := Lib.hid e0
          have f_i := Lib.hid (rf_inf x)
          have f_1 := Lib.hid (f_one x)
          have f_s := Lib.hid (show (FA zf).size = (FA x).size from rfl)
          have A0 : (wr.alloc (.cells (FA x) 42)).heap[wr.heap.size]? = some (.cells (FA x) 42 (0, 0)) := heap_alloc_new wr _
          have q2 := fa_st A0
          have q3 := fa_en A0
          have b2 : Below wk.heap.size wk (wr.alloc (.cells (FA x) 42)) := Below.al bw _
          have bw2 := b1.trans (b2.mono b1.size)
          have c02 := HC0.out _ bw2
          have HST : Hid ((L.take (i + 1)).foldl weakS none = weakS b x) := Lib.hid (by rw [weak_take hx, ← HB.out])
          have HSU : Hid (∀ (v : Value) (wy : World), Below wk.heap.size wk wy → (weakS b x = none ∧ v = .int .i64 (-1) ∨ ∃ (j : Nat) (y : Fl), weakS b x = some y ∧ L[j]? = some y ∧ j < 48 ∧ v = .int .i64 (j : Int)) → ∃ i' : Nat, Value.int .i64 ((i : Int) + 1) = .int .i64 i' ∧ i' ≤ 48 ∧ (∃ b, Hid (b = (L.take i').foldl weakS none) ∧ ((b = none ∧ v = .int .i64 (-1)) ∨ ∃ (j : Nat) (y : Fl), b = some y ∧ L[j]? = some y ∧ j < 48 ∧ v = .int .i64 (j : Int))) ∧ Below wk.heap.size wk wy) :=
            Lib.hid (fun v wy hy hv => ⟨i + 1, by simp, by omega, ⟨_, HST.out.symm ▸ Lib.hid rfl, hv⟩, hy⟩)
          obtain ⟨wz, hwz⟩ : ∃ y, y = wr.alloc (.cells (FA x) 42) := ⟨_, rfl⟩
          rw [← hwz] at A0 q2 q3 b2 bw2 c02
          have HWZ := Lib.hid hwz
          have HB2 := Lib.hid b2
          clear hwz
          have HOX : Hid (openF x = (x.st == 0 || x.st == 2)) := Lib.hid rfl
          have HROWz := Lib.hid (HROW.out wz bw2)
          clear HB HST b2 bw2
          have hcs : x.st = 0 ∨ (¬ x.st = 0 ∧ x.st = 2) ∨ (¬ x.st = 0 ∧ ¬ x.st = 2) := by omega
          have HX0 : Hid (openF x = true → weakS none x = some x) := Lib.hid (fun hy => by simp only [weakS]; rw [if_pos hy])
          have HX1 : Hid (openF x = false → ∀ b, weakS b x = b) := Lib.hid (fun hy b => by
            cases b with
            | none => simp only [weakS]; rw [if_neg (by simp [hy])]
            | some y => simp only [weakS]; rw [if_neg (by simp [hy])])
          have HXE : Hid (∀ y, openF x = true → x.en < y.en → weakS (some y) x = some x) := Lib.hid (fun y hy he => by simp only [weakS]; rw [if_pos (by simp [hy, he])])
          have HXN : Hid (∀ y, ¬ x.en < y.en → weakS (some y) x = some y) := Lib.hid (fun y he => by simp only [weakS]; rw [if_neg (by simp [he])])
          have HOP2 : Hid (x.st = 0 ∨ x.st = 2 → openF x = true) := Lib.hid (fun h => by rw [HOX.out]; rcases h with h | h <;> simp [h])
          have HCL : Hid (¬ x.st = 0 → ¬ x.st = 2 → openF x = false) := Lib.hid (fun h0 h2 => by rw [HOX.out]; simp [h0, h2])
          have HHX := Lib.hid hx
          have HLT := Lib.hid hlt
          clear HOX hx
          rcases hb8 with ⟨rfl, rfl⟩ | ⟨j, y, rfl, hy, hj, rfl⟩
          · have HV1 : Hid (openF x = true → (weakS none x = none ∧ Value.int .i64 (i : Int) = .int .i64 (-1) ∨ ∃ (j : Nat) (y : Fl), weakS none x = some y ∧ L[j]? = some y ∧ j < 48 ∧ Value.int .i64 (i : Int) = .int .i64 (j : Int))) := Lib.hid (fun ho => .inr ⟨i, x, HX0.out ho, HHX.out, HLT.out, rfl⟩)
            have HV0 : Hid (openF x = false → (weakS none x = none ∧ Value.int .i64 (-1) = .int .i64 (-1) ∨ ∃ (j : Nat) (y : Fl), weakS none x = some y ∧ L[j]? = some y ∧ j < 48 ∧ Value.int .i64 (-1) = .int .i64 (j : Int))) := Lib.hid (fun ho => .inl ⟨HX1.out ho none, rfl⟩)
            clear HX0 HX1 HXE HXN HHX HLT HROWz
            rcases hcs with h0 | ⟨h0, h2⟩ | ⟨h0, h2⟩
            · have HV := Lib.hid (HV1.out (HOP2.out (.inl h0)))
              rw [h0] at q2
              clear HV1 HV0 HOP2 HCL h0
              go_upto_region 10 with (first
                | ((with_reducible refine stop_op (o := ⟨some 51, _, _, _, _, _⟩) ?_); refine Lib.hid ?_; refine wpList_load_cells rfl 42 (.tmp 50) rfl ⟨bb, off + i * 20, none⟩ rfl (FA x) _ e0.out Try.underlying42 rfl f_i.out ?_)
                | ((with_reducible refine stop_op (o := ⟨none, _, _, _, _, _⟩) ?_); refine Lib.hid ?_; refine wpList_store_row rfl 42 (.tmp 10) (.tmp 51) rfl wr.heap.size (FA x) rfl rfl 42 (FA zf) (HA.out wr) f_i.out f_s.out f_1.out ?_; rw [World.setRow_alloc_new, ← HWZ.out]))
              simp only [Act.put]
              go_quiet (fail)
              go_wp2
              exact ⟨HSU.out _ _ (bel_dn HB2.out _) HV.out, by simp [intOf]; omega⟩
            · have HV := Lib.hid (HV1.out (HOP2.out (.inr h2)))
              rw [h2] at q2
              clear HV1 HV0 HOP2 HCL h0 h2
              go_upto_region 10 with (first
                | ((with_reducible refine stop_op (o := ⟨some 51, _, _, _, _, _⟩) ?_); refine Lib.hid ?_; refine wpList_load_cells rfl 42 (.tmp 50) rfl ⟨bb, off + i * 20, none⟩ rfl (FA x) _ e0.out Try.underlying42 rfl f_i.out ?_)
                | ((with_reducible refine stop_op (o := ⟨none, _, _, _, _, _⟩) ?_); refine Lib.hid ?_; refine wpList_store_row rfl 42 (.tmp 10) (.tmp 51) rfl wr.heap.size (FA x) rfl rfl 42 (FA zf) (HA.out wr) f_i.out f_s.out f_1.out ?_; rw [World.setRow_alloc_new, ← HWZ.out]))
              simp only [Act.put]
              go_quiet (fail)
              go_wp2
              exact ⟨HSU.out _ _ (bel_dn HB2.out _) HV.out, by simp [intOf]; omega⟩
            · have HV := Lib.hid (HV0.out (HCL.out h0 h2))
              clear HV1 HV0 HOP2 HCL
              generalize x.st = xs at *
              have d0 : decide (xs = 0) = false := decide_eq_false h0
              have d2 : decide (xs = 2) = false := decide_eq_false h2
              have eq0 : (xs == 0) = false := by simp [h0]
              have eq2 : (xs == 2) = false := by simp [h2]
              go_upto_region 10 with (first
                | ((with_reducible refine stop_op (o := ⟨some 51, _, _, _, _, _⟩) ?_); refine Lib.hid ?_; refine wpList_load_cells rfl 42 (.tmp 50) rfl ⟨bb, off + i * 20, none⟩ rfl (FA x) _ e0.out Try.underlying42 rfl f_i.out ?_)
                | ((with_reducible refine stop_op (o := ⟨none, _, _, _, _, _⟩) ?_); refine Lib.hid ?_; refine wpList_store_row rfl 42 (.tmp 10) (.tmp 51) rfl wr.heap.size (FA x) rfl rfl 42 (FA zf) (HA.out wr) f_i.out f_s.out f_1.out ?_; rw [World.setRow_alloc_new, ← HWZ.out]))
              simp only [Act.put]
              go_quiet (fail)
              go_wp2
              exact ⟨HSU.out _ _ (bel_dn HB2.out _) HV.out, by simp [intOf]; omega⟩
          · obtain ⟨bb', off', hee, ey⟩ := HROWz.out j y hy
            cases hee
            have ye := ey 19 (.int .i64 y.en) rfl
            rw [addr_add] at ye
            have hj0 : ¬ (j : Int) < 0 := by omega
            have hjI : (j : Int) < 48 := by omega
            have HV0 : Hid (openF x = false → (weakS (some y) x = none ∧ Value.int .i64 (j : Int) = .int .i64 (-1) ∨ ∃ (j' : Nat) (y' : Fl), weakS (some y) x = some y' ∧ L[j']? = some y' ∧ j' < 48 ∧ Value.int .i64 (j : Int) = .int .i64 (j' : Int))) := Lib.hid (fun ho => .inr ⟨j, y, HX1.out ho _, hy, hj, rfl⟩)
            have HVn : Hid (¬ x.en < y.en → (weakS (some y) x = none ∧ Value.int .i64 (j : Int) = .int .i64 (-1) ∨ ∃ (j' : Nat) (y' : Fl), weakS (some y) x = some y' ∧ L[j']? = some y' ∧ j' < 48 ∧ Value.int .i64 (j : Int) = .int .i64 (j' : Int))) := Lib.hid (fun he => .inr ⟨j, y, HXN.out y he, hy, hj, rfl⟩)
            have HV1 : Hid (openF x = true → x.en < y.en → (weakS (some y) x = none ∧ Value.int .i64 (i : Int) = .int .i64 (-1) ∨ ∃ (j' : Nat) (y' : Fl), weakS (some y) x = some y' ∧ L[j']? = some y' ∧ j' < 48 ∧ Value.int .i64 (i : Int) = .int .i64 (j' : Int))) := Lib.hid (fun ho he => .inr ⟨i, x, HXE.out y ho he, HHX.out, HLT.out, rfl⟩)
            clear HX0 HX1 HXE HXN HHX HLT HROWz ey hy
            by_cases hlt2 : x.en < y.en
            · rcases hcs with h0 | ⟨h0, h2⟩ | ⟨h0, h2⟩
              · have HV := Lib.hid (HV1.out (HOP2.out (.inl h0)) hlt2)
                rw [h0] at q2
                clear HV1 HV0 HVn HOP2 HCL h0
                generalize x.en = xe at *
                generalize y.en = ye' at *
                go_upto_region 10 with (first
                  | ((with_reducible refine stop_op (o := ⟨some 51, _, _, _, _, _⟩) ?_); refine Lib.hid ?_; refine wpList_load_cells rfl 42 (.tmp 50) rfl ⟨bb, off + i * 20, none⟩ rfl (FA x) _ e0.out Try.underlying42 rfl f_i.out ?_)
                  | ((with_reducible refine stop_op (o := ⟨none, _, _, _, _, _⟩) ?_); refine Lib.hid ?_; refine wpList_store_row rfl 42 (.tmp 10) (.tmp 51) rfl wr.heap.size (FA x) rfl rfl 42 (FA zf) (HA.out wr) f_i.out f_s.out f_1.out ?_; rw [World.setRow_alloc_new, ← HWZ.out]))
                simp only [Act.put]
                go_quiet (fail)
                go_wp2
                exact ⟨HSU.out _ _ (bel_dn HB2.out _) HV.out, by simp [intOf]; omega⟩
              · have HV := Lib.hid (HV1.out (HOP2.out (.inr h2)) hlt2)
                rw [h2] at q2
                clear HV1 HV0 HVn HOP2 HCL h0 h2
                generalize x.en = xe at *
                generalize y.en = ye' at *
                go_upto_region 10 with (first
                  | ((with_reducible refine stop_op (o := ⟨some 51, _, _, _, _, _⟩) ?_); refine Lib.hid ?_; refine wpList_load_cells rfl 42 (.tmp 50) rfl ⟨bb, off + i * 20, none⟩ rfl (FA x) _ e0.out Try.underlying42 rfl f_i.out ?_)
                  | ((with_reducible refine stop_op (o := ⟨none, _, _, _, _, _⟩) ?_); refine Lib.hid ?_; refine wpList_store_row rfl 42 (.tmp 10) (.tmp 51) rfl wr.heap.size (FA x) rfl rfl 42 (FA zf) (HA.out wr) f_i.out f_s.out f_1.out ?_; rw [World.setRow_alloc_new, ← HWZ.out]))
                simp only [Act.put]
                go_quiet (fail)
                go_wp2
                exact ⟨HSU.out _ _ (bel_dn HB2.out _) HV.out, by simp [intOf]; omega⟩
              · have HV := Lib.hid (HV0.out (HCL.out h0 h2))
                clear HV1 HV0 HVn HOP2 HCL
                generalize x.st = xs at *
                have d0 : decide (xs = 0) = false := decide_eq_false h0
                have d2 : decide (xs = 2) = false := decide_eq_false h2
                have eq0 : (xs == 0) = false := by simp [h0]
                have eq2 : (xs == 2) = false := by simp [h2]
                generalize x.en = xe at *
                generalize y.en = ye' at *
                go_upto_region 10 with (first
                  | ((with_reducible refine stop_op (o := ⟨some 51, _, _, _, _, _⟩) ?_); refine Lib.hid ?_; refine wpList_load_cells rfl 42 (.tmp 50) rfl ⟨bb, off + i * 20, none⟩ rfl (FA x) _ e0.out Try.underlying42 rfl f_i.out ?_)
                  | ((with_reducible refine stop_op (o := ⟨none, _, _, _, _, _⟩) ?_); refine Lib.hid ?_; refine wpList_store_row rfl 42 (.tmp 10) (.tmp 51) rfl wr.heap.size (FA x) rfl rfl 42 (FA zf) (HA.out wr) f_i.out f_s.out f_1.out ?_; rw [World.setRow_alloc_new, ← HWZ.out]))
                simp only [Act.put]
                go_quiet (fail)
                go_wp2
                exact ⟨HSU.out _ _ (bel_dn HB2.out _) HV.out, by simp [intOf]; omega⟩
            · have hge2 : y.en ≤ x.en := by omega
              rcases hcs with h0 | ⟨h0, h2⟩ | ⟨h0, h2⟩
              · have HV := Lib.hid (HVn.out hlt2)
                rw [h0] at q2
                clear HV1 HV0 HVn HOP2 HCL h0
                generalize x.en = xe at *
                generalize y.en = ye' at *
                go_upto_region 10 with (first
                  | ((with_reducible refine stop_op (o := ⟨some 51, _, _, _, _, _⟩) ?_); refine Lib.hid ?_; refine wpList_load_cells rfl 42 (.tmp 50) rfl ⟨bb, off + i * 20, none⟩ rfl (FA x) _ e0.out Try.underlying42 rfl f_i.out ?_)
                  | ((with_reducible refine stop_op (o := ⟨none, _, _, _, _, _⟩) ?_); refine Lib.hid ?_; refine wpList_store_row rfl 42 (.tmp 10) (.tmp 51) rfl wr.heap.size (FA x) rfl rfl 42 (FA zf) (HA.out wr) f_i.out f_s.out f_1.out ?_; rw [World.setRow_alloc_new, ← HWZ.out]))
                simp only [Act.put]
                go_quiet (fail)
                go_wp2
                exact ⟨HSU.out _ _ (bel_dn HB2.out _) HV.out, by simp [intOf]; omega⟩
              · have HV := Lib.hid (HVn.out hlt2)
                rw [h2] at q2
                clear HV1 HV0 HVn HOP2 HCL h0 h2
                generalize x.en = xe at *
                generalize y.en = ye' at *
                go_upto_region 10 with (first
                  | ((with_reducible refine stop_op (o := ⟨some 51, _, _, _, _, _⟩) ?_); refine Lib.hid ?_; refine wpList_load_cells rfl 42 (.tmp 50) rfl ⟨bb, off + i * 20, none⟩ rfl (FA x) _ e0.out Try.underlying42 rfl f_i.out ?_)
                  | ((with_reducible refine stop_op (o := ⟨none, _, _, _, _, _⟩) ?_); refine Lib.hid ?_; refine wpList_store_row rfl 42 (.tmp 10) (.tmp 51) rfl wr.heap.size (FA x) rfl rfl 42 (FA zf) (HA.out wr) f_i.out f_s.out f_1.out ?_; rw [World.setRow_alloc_new, ← HWZ.out]))
                simp only [Act.put]
                go_quiet (fail)
                go_wp2
                exact ⟨HSU.out _ _ (bel_dn HB2.out _) HV.out, by simp [intOf]; omega⟩
              · have HV := Lib.hid (HV0.out (HCL.out h0 h2))
                clear HV1 HV0 HVn HOP2 HCL
                generalize x.st = xs at *
                have d0 : decide (xs = 0) = false := decide_eq_false h0
                have d2 : decide (xs = 2) = false := decide_eq_false h2
                have eq0 : (xs == 0) = false := by simp [h0]
                have eq2 : (xs == 2) = false := by simp [h2]
                generalize x.en = xe at *
                generalize y.en = ye' at *
                go_upto_region 10 with (first
                  | ((with_reducible refine stop_op (o := ⟨some 51, _, _, _, _, _⟩) ?_); refine Lib.hid ?_; refine wpList_load_cells rfl 42 (.tmp 50) rfl ⟨bb, off + i * 20, none⟩ rfl (FA x) _ e0.out Try.underlying42 rfl f_i.out ?_)
                  | ((with_reducible refine stop_op (o := ⟨none, _, _, _, _, _⟩) ?_); refine Lib.hid ?_; refine wpList_store_row rfl 42 (.tmp 10) (.tmp 51) rfl wr.heap.size (FA x) rfl rfl 42 (FA zf) (HA.out wr) f_i.out f_s.out f_1.out ?_; rw [World.setRow_alloc_new, ← HWZ.out]))
                simp only [Act.put]
                go_quiet (fail)
                go_wp2
                exact ⟨HSU.out _ _ (bel_dn HB2.out _) HV.out, by simp [intOf]; omega⟩
        · obtain rfl : i = 48 := by omega
          have hbw : b = weakF L := by rw [HB.out, HWK.out, List.take_of_length_le (by rw [HL48.out]; exact Nat.le_refl _)]
          subst hbw
          have Ak := blkB bw A1
          clear HB HWK HA
          rcases hb8 with ⟨hb0, rfl⟩ | ⟨j, y, hb0, hy, hj, rfl⟩
          · have HN : Hid (M (.returned (.tuple #[.int .i64 0, .int .i64 0, .int .i64 120])) wr) := Lib.hid (by
              rw [HM.out]
              unfold RAddPost addF
              rw [if_neg (by simp [hb]), if_neg hl, hb0]
              exact ⟨rfl, R, HRA.out _ bww, offS_below bww, fun k hk => .inr (.inl hk)⟩)
            clear hb0 Ak HROW bw
            go_wp2
            simp [bodyPost, results, Try.results10, go_sem]
            exact HN.out
          · obtain ⟨bb, off, rfl, ey⟩ := HROW.out _ bww j y hy
            have ye := ey 0 (.int .i64 y.id) rfl
            rw [addr_add, Nat.add_zero] at ye
            have hj0 : ¬ (j : Int) < 0 := by omega
            have hjI : (j : Int) < 48 := by omega
            have cD := rdrop_any (HRA.out _ bww) (id := y.id)
            have hrl := rem_len hgd.out (weak_mem hb0).1
            have HGI0 := ins_good (rem_good hgd.out y.id) (by omega) (bad_rem hb y.id) hf
            have HY : Hid (∀ a b c d : Nat, addF L f = ⟨(preF 0 (remF L y.id) : Int) + 1, y.id, 0, insF (remF L y.id) f⟩) := Lib.hid (fun _ _ _ _ => by
              unfold addF
              rw [if_neg (by simp [hb]), if_neg hl, hb0])
            have HBW := Lib.hid bww
            clear HROW bw ey
            go_upto_region 16 with (first
              | (go_at_call 20; refine cD.mono ?_; rintro e w3 ⟨rfl, hp⟩)
              | fail)
            obtain rfl : F = FA f := HgF.out
            obtain ⟨R3, rt3, o3, hR3i⟩ := hp
            have hwl : w.heap.size < wr.heap.size := (Array.getElem?_eq_some_iff.1 Ak).1
            have A3 := (o3.block _ hwl HBNE.out).trans Ak
            have HR3 : Hid (¬ R3 w.heap.size) := Lib.hid (fun hk => by
              rcases hR3i _ hk with q | q | q
              · exact HBNE.out q
              · have := HRB.out _ q; omega
              · omega)
            have HOK0 : ∀ w5 wE, OffS (fun k => k = w.heap.size) w3 w5 → RPost w5 R3 RB (insF (remF L y.id) f) wE → M (.returned (.tuple #[.int .i64 (((preF 0 (remF L y.id) : Nat) : Int) + 1), .int .i64 y.id, .int .i64 0])) wE := fun w5 wE o5 hp => by
              have bq := HBW.out
              rw [HM.out]
              unfold RAddPost
              rw [HY.out 0 0 0 0]
              obtain ⟨R', r1, r2, r3⟩ := hp
              have o35 := (((offS_below bq).trans o3).andThen o5 (S := fun k => k = RB) (fun i hi e => by omega)).trans r2
              refine ⟨rfl, R', r1, o35, fun k hk => ?_⟩
              rcases r3 k hk with q | q | q
              · exact .inl q
              · rcases hR3i k q with q | q | q
                · exact .inl q
                · exact .inr (.inl q)
                · have := bq.size; exact .inr (.inr (by omega))
              · have := bq.size; have := o3.size; have := o5.size; exact .inr (.inr (by omega))
            obtain ⟨gid, hgid⟩ : ∃ z, z = y.id := ⟨_, rfl⟩
            obtain ⟨L3, hL3⟩ : ∃ z, z = remF L y.id := ⟨_, rfl⟩
            rw [← hL3] at HGI0 HOK0 rt3
            rw [← hgid] at HOK0 ⊢
            have H3 := Lib.hid rt3
            have HOK := Lib.hid HOK0
            have HGI := Lib.hid HGI0
            clear hL3 hgid rt3 HOK0 HGI0 HY HBW hR3i o3 hrl Ak hy ye hj0 hjI hb0 HHI HC0 HL48 hl48I hl48 hl
            have hiu' := hiu
            -- the table has room: world w3, flows L3, box A3, gone gn
            obtain ⟨g3, Ar, cr, hi3⟩ := H3.out
            have hln3 := g3.ln
            have hpl := pre_le L3 0
            have HPI : Hid (∀ i, i < preF 0 L3 → ∃ y, L3[i]? = some y ∧ y.id = (i : Int) + 1) := Lib.hid (fun i hi => by
              obtain ⟨y, h1, h2⟩ := pre_in L3 0 i hi
              exact ⟨y, h1, by omega⟩)
            have HPO : Hid (∀ y, L3[preF 0 L3]? = some y → ¬ y.id = ((preF 0 L3 : Nat) : Int) + 1) := Lib.hid (fun y hy => by
              have := pre_out L3 0 hy
              omega)
            have HRI : Hid (∀ W, OffS (fun k => k = w.heap.size) w3 W → RIn W R3 RB Ar cr L3) := Lib.hid (fun W o => hi3.off o (fun k hk e => HR3.out (by rw [← e]; exact hk)))
            have HFIN : Hid (∀ w5 w0 wz v, OffS (fun k => k = w.heap.size) w3 w5 → Below w5.heap.size w5 w0 → Below w0.heap.size w0 wz → wz.ownsRow w0.heap.size 42 20 v (preF 0 L3 + 1 + (L3.length - preF 0 L3)) (((L3.take (preF 0 L3)).flatMap fcells ++ fcells { f with id := ((preF 0 L3 : Nat) : Int) + 1 }) ++ (L3.drop (preF 0 L3)).flatMap fcells) → M (.returned (.tuple #[.int .i64 (((preF 0 L3 : Nat) : Int) + 1), .int .i64 gid, .int .i64 0])) (wz.setCell ⟨RB, 0, none⟩ v) ∧ wz.cell? ⟨RB, 0, none⟩ = some (.slice Ar L3.length cr) ∧ wz.frozen? ⟨RB, 0, none⟩ = false ∧ ∃ A9 n9 c9, v = .slice A9 n9 c9) := Lib.hid (fun w5 w0 wz v o5 b0 bz hown => by
              have hi5 := HRI.out w5 o5
              have hlen : (insF L3 f).length = preF 0 L3 + 1 + (L3.length - preF 0 L3) := by rw [ins_flen]; omega
              have hfm : ((L3.take (preF 0 L3)).flatMap fcells ++ fcells { f with id := ((preF 0 L3 : Nat) : Int) + 1 }) ++ (L3.drop (preF 0 L3)).flatMap fcells = (insF L3 f).flatMap fcells := by unfold insF; simp
              rw [hfm, ← hlen] at hown
              have b05 := b0.trans (bz.mono b0.size)
              obtain ⟨A9, c9, rfl, hp⟩ := hi5.store HGI.out b0.size b05 hown
              exact ⟨HOK.out w5 _ o5 hp, keepc b05 hi5.c0, free_of ((b05.block RB (hi5.lt _ hi5.rB)).trans hi5.hm) 0, _, _, _, rfl⟩)
            have hnil := Lib.hid hi3.nil
            have hcap := hi3.cap
            have HFORM : Hid ((Ar = none ∧ cr = 0 ∧ L3.length = 0) ∨ ∃ bb off, Ar = some ⟨bb, off, none⟩) := Lib.hid (by
              cases e : Ar with
              | none =>
                have h0 := hi3.nil e
                have := hi3.cap
                exact .inl ⟨rfl, h0, by omega⟩
              | some a =>
                obtain ⟨b, off, sp⟩ := a
                obtain ⟨_, _, rfl⟩ := hi3.rA b off sp e
                exact .inr ⟨b, off, rfl⟩)
            clear HGI HOK H3 hi3
            generalize hpp : preF 0 L3 = p at *
            generalize hnn3 : L3.length = n3 at *
            have HN3 := Lib.hid hnn3
            clear hpp hnn3 g3
            have x0 := fa_id A3
            have x0f := free_of A3 0
            have A4 := fa_setid A3 1
            have o4 : OffS (fun k => k = w.heap.size) w3 (w3.setCell ⟨w.heap.size, 0, none⟩ (.int .i64 1)) := offS_set (S := fun k => k = w.heap.size) (OffS.refl _ _) rfl 0 _
            go_upto_region 18 with fail
            obtain ⟨w4, hw4⟩ : ∃ x, x = w3.setCell ⟨w.heap.size, 0, none⟩ (.int .i64 1) := ⟨_, rfl⟩
            rw [← hw4] at A4 o4 ⊢
            clear hw4 x0 x0f A3
            go_loopw [11] (fun v11 wr => ∃ i : Nat, v11 = .int .i64 i ∧ i ≤ p ∧ wr.heap[w.heap.size]? = some (.cells (FA { f with id := (i : Int) + 1 }) 42 (0, 0)) ∧ OffS (fun k => k = w.heap.size) w3 wr) (fun v11 _ => p + 1 - (intOf v11).toNat)
            case atStart => exact ⟨0, rfl, Nat.zero_le _, A4, o4⟩
            case round =>
              obtain ⟨i, rfl, hip, Ai, oi⟩ := hrel
              have hRi := HRI.out _ oi
              have c0 := hRi.c0
              rw [HN3.out] at c0
              have xi := fa_id Ai
              simp only at xi
              by_cases hlt : i < p
              · obtain ⟨y, hy, hyi⟩ := HPI.out i hlt
                obtain ⟨bb, off, hAr, hbl, hrow⟩ := hRi.sl.row (by rw [HN3.out]; omega)
                subst hAr
                have e0 := rf_cell hrow hy
                rw [hyi] at e0
                have hin : i < n3 := by omega
                have hinI : (i : Int) < (n3 : Int) := by omega
                have hinD : decide (i < n3) = true := by simp [hin]
                have xf := free_of Ai 0
                have Ai2 : ((wr.drewN 1).setCell ⟨w.heap.size, 0, none⟩ (.int .i64 ((i : Int) + 1 + 1))).heap[w.heap.size]? = some (.cells (FA { f with id := (i : Int) + 1 + 1 }) 42 (0, 0)) := fa_setid (w := wr.drewN 1) Ai ((i : Int) + 1 + 1)
                have HI2 : Hid (∀ nq, ((wr.drewN nq).setCell ⟨w.heap.size, 0, none⟩ (.int .i64 ((i : Int) + 1 + 1))).heap[w.heap.size]? = some (.cells (FA { f with id := (((i + 1 : Nat)) : Int) + 1 }) 42 (0, 0)) ∧ OffS (fun k => k = w.heap.size) w3 ((wr.drewN nq).setCell ⟨w.heap.size, 0, none⟩ (.int .i64 ((i : Int) + 1 + 1)))) := Lib.hid (fun nq => ⟨fa_setid (w := wr.drewN nq) Ai ((i : Int) + 1 + 1), offS_set (S := fun k => k = w.heap.size) (oi.dn nq) rfl 0 _⟩)
                clear hRi hrow hy hyi Ai oi Ai2
                go_wp2_with fail
                go_quiet (fail)
                go_wp2
                exact ⟨⟨i + 1, by simp, by omega, (HI2.out nq).1, (HI2.out nq).2⟩, by simp [intOf]; omega⟩
              · obtain rfl : i = p := by omega
                have HRI2 : Hid (∀ W, OffS (fun k => k = w.heap.size) w3 W → Sl W 20 fcells Ar n3 L3 ∧ W.cell? ⟨RB, 0, none⟩ = some (.slice Ar n3 cr)) := Lib.hid (fun W o => by
                  have h := HRI.out W o
                  have h1 := h.sl
                  have h2 := h.c0
                  rw [HN3.out] at h1 h2
                  exact ⟨h1, h2⟩)
                by_cases hin : i < n3
                · obtain ⟨bb, off, hAr, hbl, hrow⟩ := hRi.sl.row (by rw [HN3.out]; omega)
                  obtain ⟨y, hy⟩ : ∃ y, L3[i]? = some y := ⟨_, List.getElem?_eq_getElem (by rw [HN3.out]; exact hin)⟩
                  subst hAr
                  have e0 := rf_cell hrow hy
                  have hyi := HPO.out y hy
                  have hinI : (i : Int) < (n3 : Int) := by omega
                  have hinD : decide (i < n3) = true := by simp [hin]
                  generalize y.id = yi at *
                  clear hRi hrow hy
                  go_wp2_with fail
                  go_quiet (fail)
                  clear e0 c0 xi
                  have oq : OffS (fun k => k = w.heap.size) w3 (wr.drewN nq) := oi.dn nq
                  have Aq : (wr.drewN nq).heap[w.heap.size]? = some (.cells (FA { f with id := (i : Int) + 1 }) 42 (0, 0)) := Ai
                  clear oi Ai
                  generalize wr.drewN nq = w5 at *
                  by_cases hce : cr = i
                  · omega
                  · have hce' : ¬ cr = i := hce
                    have hown6 : (w5.alloc (.cells #[] 42)).ownsRow w5.heap.size 42 20 (.slice (some ⟨w5.heap.size, 0, none⟩) 0 0) 0 ([] : List Value) := World.ownsRow_made w5 #[] 0 (Nat.le_refl _) (by unfold maxLen; omega) rfl
                    have b6 : Below w5.heap.size w5 (w5.alloc (.cells #[] 42)) := (Below.refl w5.heap.size w5).alloc (Nat.le_refl _) _
                    have rb0 := run_rbs0 w5
                    obtain ⟨hs5, hc5⟩ := HRI2.out _ oq
                    have hc6 := keepc b6 hc5
                    have A6 := blkB b6 Aq
                    have hs6 := Lib.hid ((hs5.cut (m := i) (by omega)).keep b6)
                    have b5 : (i : Int) ≤ (n3 : Int) := by omega
                    have b5c : (i : Int) ≤ (cr : Int) := by omega
                    have b5n : i ≤ n3 := by omega
                    have b5d : i ≤ cr := by omega
                    have n2 : (i : Int).toNat = i := by omega
                    have h163 : 0 + i ≤ maxLen := by unfold maxLen; omega
                    have h1b : (0 + i) * 160 ≤ 140737488355328 := by omega
                    go_upto_region 22 with fail
                    obtain ⟨w6, hw6⟩ : ∃ x, x = w5.alloc (.cells #[] 42) := ⟨_, rfl⟩
                    rw [← hw6] at hown6 b6 hc6 A6 hs6 ⊢
                    have hbw6 : w5.heap.size ≤ w6.heap.size := b6.size
                    obtain ⟨GG, hGG⟩ : ∃ G, G = w5.heap.size := ⟨_, rfl⟩
                    rw [← hGG] at hown6 hbw6 ⊢
                    have HGG := Lib.hid hGG
                    clear hw6 hGG rb0
                    go_wp2_with (at_builtin; go_loud (refine app_sl rfl _ _ 26 rfl GG 42 iu (.agg #[.int .i64 0, .int .i64 0, .int .u64 0, .int .u64 0, .int .u64 0, .int .u64 0, .int .i64 0, .int .i64 0, .int .i64 0, .int .u64 0, .int .u64 0, .int .u64 0, .int .u64 0, .int .i64 0, .int .i64 0, .int .i64 0, .int .i64 0, .int .i64 0, .int .i64 0, .int .i64 0]) 20 160 Try.underlying26 hiu hu0 hu1 hu2 rfl (by decide) _ 0 [] rfl hown6 fcells f20_len (some ⟨bb, off, none⟩) i cr (L3.take i) hs6.out (fun h => by cases h) rfl f20_one h163 h1b hbw6 ?_))
                    intro v7 w7 hown7 hg7
                    have b7 : Below w5.heap.size w5 w7 := b6.grown hg7 (by have := HGG.out; omega) (fun q hq => by have := own_gt hown6 q hq; have := HGG.out; omega)
                    have hbw7 : GG ≤ w7.heap.size := Nat.le_trans hbw6 hg7.size
                    replace hown7 : w7.ownsRow GG 42 20 v7 i ((L3.take i).flatMap fcells) := by simpa using hown7
                    have A7 := blkB b7 Aq
                    obtain ⟨A7s, c7, hv7⟩ := own_slice hown7
                    subst hv7
                    clear hown6 hg7 hs6 hc6 h163 h1b hbw6 b6 A6
                    have f_i := Lib.hid (rf_inf { f with id := (i : Int) + 1 })
                    have a7 := Lib.hid (fa_all A7)
                    have hownA := own_below hown7 (Below.al (Below.refl w7.heap.size w7) (.cells (FA { f with id := (i : Int) + 1 }) 42))
                    have bA : Below w5.heap.size w5 (w7.alloc (.cells (FA { f with id := (i : Int) + 1 }) 42)) := Below.al b7 _
                    have hbA : GG ≤ (w7.alloc (.cells (FA { f with id := (i : Int) + 1 }) 42)).heap.size := by rw [al_size]; omega
                    have h1 := Lib.hid (f_news w7 { f with id := (i : Int) + 1 } 42)
                    have h2 := Lib.hid (f20_one { f with id := (i : Int) + 1 })
                    go_upto_region 23 with fail
                    go_wp2_with (first
                      | ((with_reducible refine stop_op (o := ⟨some 128, _, _, _, _, _⟩) ?_); refine Lib.hid ?_; refine wpList_load_cells rfl 42 (.tmp 3) rfl ⟨w.heap.size, 0, none⟩ rfl (FA { f with id := (i : Int) + 1 }) _ a7.out Try.underlying42 rfl f_i.out ?_)
                      | ((with_reducible refine stop_op (o := ⟨some 129, _, _, _, _, _⟩) ?_); refine Lib.hid ?_; refine wpList_rbs1 rfl (.tmp 128) { f with id := (i : Int) + 1 } (FA { f with id := (i : Int) + 1 }) rfl rfl rfl ?_)
                      | (at_builtin; go_loud (refine wpList_append_own _ rfl _ _ 26 rfl GG 42 iu (.agg #[.int .i64 0, .int .i64 0, .int .u64 0, .int .u64 0, .int .u64 0, .int .u64 0, .int .i64 0, .int .i64 0, .int .i64 0, .int .u64 0, .int .u64 0, .int .u64 0, .int .u64 0, .int .i64 0, .int .i64 0, .int .i64 0, .int .i64 0, .int .i64 0, .int .i64 0, .int .i64 0]) 20 160 Try.underlying26 hiu hu0 hu1 hu2 rfl (by decide) _ _ _ rfl hownA ⟨w7.heap.size, 0, none⟩ 1 1 (fcells { f with id := (i : Int) + 1 }) rfl rfl h1.out h2.out (by unfold maxLen; omega) (by omega) hbA ?_)))
                    intro v8 w8 hown8 hg8 _
                    have b8 : Below w5.heap.size w5 w8 := bA.grown hg8 (by have := HGG.out; omega) (fun q hq => by have := own_gt hownA q hq; have := HGG.out; omega)
                    have hbw8 : GG ≤ w8.heap.size := Nat.le_trans hbA hg8.size
                    obtain ⟨A8s, c8, hv8⟩ := own_slice hown8
                    subst hv8
                    have A8 := blkB b8 Aq
                    have hc8 := keepc b8 hc5
                    have hs8 := hs5.keep b8
                    have HD : Hid (∀ v9 w9, w9.ownsRow GG 42 20 v9 (i + 1 + (n3 - i)) (((L3.take i).flatMap fcells ++ fcells { f with id := (i : Int) + 1 }) ++ (L3.drop i).flatMap fcells) → w8.grownBy w9 (Value.slice A8s (i + 1) c8).ownBlock → M (.returned (.tuple #[.int .i64 ((i : Int) + 1), .int .i64 gid, .int .i64 0])) (w9.setCell ⟨RB, 0, none⟩ v9) ∧ w9.cell? ⟨RB, 0, none⟩ = some (.slice (some ⟨bb, off, none⟩) n3 cr) ∧ w9.frozen? ⟨RB, 0, none⟩ = false ∧ (∃ A9 n9 c9, v9 = .slice A9 n9 c9) ∧ (w9.setCell ⟨RB, 0, none⟩ v9).cell? ⟨w.heap.size, 0, none⟩ = some (.int .i64 ((i : Int) + 1))) := Lib.hid (fun v9 w9 h9 g9 => by
                      have b9 : Below w5.heap.size w5 w9 := b8.grown g9 (by have := HGG.out; omega) (fun q hq => by have := own_gt hown8 q hq; have := HGG.out; omega)
                      rw [HGG.out] at h9
                      obtain ⟨k1, k2, k3, k4⟩ := HFIN.out w5 w5 w9 v9 oq (Below.refl _ _) b9 h9
                      refine ⟨k1, k2, k3, k4, ?_⟩
                      have hA9 : (w9.setCell ⟨RB, 0, none⟩ v9).heap[w.heap.size]? = some (.cells (FA { f with id := (i : Int) + 1 }) 42 (0, 0)) := (set_other HBNE.out 0 v9).trans (blkB b9 Aq)
                      exact fa_id hA9)
                    clear HFIN HRI2 hownA hown7 bA hbA h1 h2 a7 A7 f_i hg8 b7 hbw7 hs5 hc5 oq Aq A8 HRI HPI HPO
                    have h363 : i + 1 + (n3 - i) ≤ maxLen := by unfold maxLen; omega
                    have h3b : (i + 1 + (n3 - i)) * 160 ≤ 140737488355328 := by omega
                    have hs9 := Lib.hid (hs8.dropG (i := i) (by omega))
                    go_wp2_with (at_builtin; go_loud (refine app_sl rfl _ _ 26 rfl GG 42 iu (.agg #[.int .i64 0, .int .i64 0, .int .u64 0, .int .u64 0, .int .u64 0, .int .u64 0, .int .i64 0, .int .i64 0, .int .i64 0, .int .u64 0, .int .u64 0, .int .u64 0, .int .u64 0, .int .i64 0, .int .i64 0, .int .i64 0, .int .i64 0, .int .i64 0, .int .i64 0, .int .i64 0]) 20 160 Try.underlying26 hiu hu0 hu1 hu2 rfl (by decide) _ (i + 1) ((L3.take i).flatMap fcells ++ fcells { f with id := (i : Int) + 1 }) rfl hown8 fcells f20_len (some ⟨bb, off + i * 20, none⟩) (n3 - i) (cr - i) (L3.drop i) hs9.out (fun h => by cases h) rfl f20_one h363 h3b hbw8 ?_))
                    intro v9 w9 h9 g9
                    obtain ⟨k1, k2, k3, ⟨A9, n9, c9, rfl⟩, k5⟩ := HD.out v9 w9 (by rw [List.append_assoc]; exact h9) g9
                    have HK := Lib.hid k1
                    clear k1 h9 g9 HD
                    go_wp2_with fail
                    simp [bodyPost, results, Try.results10, go_sem]
                    exact HK.out
                · have hinI : ¬ (i : Int) < (n3 : Int) := by omega
                  have hinD : decide (i < n3) = false := by simp; omega
                  clear hRi
                  go_wp2_with fail
                  go_quiet (fail)
                  clear c0 xi
                  have oq : OffS (fun k => k = w.heap.size) w3 (wr.drewN nq) := oi.dn nq
                  have Aq : (wr.drewN nq).heap[w.heap.size]? = some (.cells (FA { f with id := (i : Int) + 1 }) 42 (0, 0)) := Ai
                  clear oi Ai
                  generalize wr.drewN nq = w5 at *
                  rcases HFORM.out with ⟨rfl, rfl, rfl⟩ | ⟨bb, off, rfl⟩
                  · obtain rfl : i = 0 := by omega
                    have hown6 : (w5.alloc (.cells #[] 42)).ownsRow w5.heap.size 42 20 (.slice (some ⟨w5.heap.size, 0, none⟩) 0 0) 0 ([] : List Value) := World.ownsRow_made w5 #[] 0 (Nat.le_refl _) (by unfold maxLen; omega) rfl
                    have b6 : Below w5.heap.size w5 (w5.alloc (.cells #[] 42)) := (Below.refl w5.heap.size w5).alloc (Nat.le_refl _) _
                    have rb0 := run_rbs0 w5
                    obtain ⟨hs5, hc5⟩ := HRI2.out _ oq
                    have hc6 := keepc b6 hc5
                    have A6 := blkB b6 Aq
                    have hs6 := Lib.hid ((hs5.cut (m := 0) (by omega)).keep b6)
                    have b5 : ((0 : Nat) : Int) ≤ ((0 : Nat) : Int) := by omega
                    have b5c : ((0 : Nat) : Int) ≤ ((0 : Nat) : Int) := by omega
                    have b5n : 0 ≤ 0 := by omega
                    have b5d : 0 ≤ 0 := by omega
                    have n2 : ((0 : Nat) : Int).toNat = 0 := by omega
                    have h163 : 0 + 0 ≤ maxLen := by unfold maxLen; omega
                    have h1b : (0 + 0) * 160 ≤ 140737488355328 := by omega
                    go_upto_region 22 with fail
                    obtain ⟨w6, hw6⟩ : ∃ x, x = w5.alloc (.cells #[] 42) := ⟨_, rfl⟩
                    rw [← hw6] at hown6 b6 hc6 A6 hs6 ⊢
                    have hbw6 : w5.heap.size ≤ w6.heap.size := b6.size
                    obtain ⟨GG, hGG⟩ : ∃ G, G = w5.heap.size := ⟨_, rfl⟩
                    rw [← hGG] at hown6 hbw6 ⊢
                    have HGG := Lib.hid hGG
                    clear hw6 hGG rb0
                    go_wp2_with (at_builtin; go_loud (refine app_sl rfl _ _ 26 rfl GG 42 iu (.agg #[.int .i64 0, .int .i64 0, .int .u64 0, .int .u64 0, .int .u64 0, .int .u64 0, .int .i64 0, .int .i64 0, .int .i64 0, .int .u64 0, .int .u64 0, .int .u64 0, .int .u64 0, .int .i64 0, .int .i64 0, .int .i64 0, .int .i64 0, .int .i64 0, .int .i64 0, .int .i64 0]) 20 160 Try.underlying26 hiu hu0 hu1 hu2 rfl (by decide) _ 0 [] rfl hown6 fcells f20_len none 0 0 (L3.take 0) hs6.out (fun _ => rfl) rfl f20_one h163 h1b hbw6 ?_))
                    intro v7 w7 hown7 hg7
                    have b7 : Below w5.heap.size w5 w7 := b6.grown hg7 (by have := HGG.out; omega) (fun q hq => by have := own_gt hown6 q hq; have := HGG.out; omega)
                    have hbw7 : GG ≤ w7.heap.size := Nat.le_trans hbw6 hg7.size
                    replace hown7 : w7.ownsRow GG 42 20 v7 0 ((L3.take 0).flatMap fcells) := by simpa using hown7
                    have A7 := blkB b7 Aq
                    obtain ⟨A7s, c7, hv7⟩ := own_slice hown7
                    subst hv7
                    clear hown6 hg7 hs6 hc6 h163 h1b hbw6 b6 A6
                    have f_i := Lib.hid (rf_inf { f with id := ((0 : Nat) : Int) + 1 })
                    have a7 := Lib.hid (fa_all A7)
                    have hownA := own_below hown7 (Below.al (Below.refl w7.heap.size w7) (.cells (FA { f with id := ((0 : Nat) : Int) + 1 }) 42))
                    have bA : Below w5.heap.size w5 (w7.alloc (.cells (FA { f with id := ((0 : Nat) : Int) + 1 }) 42)) := Below.al b7 _
                    have hbA : GG ≤ (w7.alloc (.cells (FA { f with id := ((0 : Nat) : Int) + 1 }) 42)).heap.size := by rw [al_size]; omega
                    have h1 := Lib.hid (f_news w7 { f with id := ((0 : Nat) : Int) + 1 } 42)
                    have h2 := Lib.hid (f20_one { f with id := ((0 : Nat) : Int) + 1 })
                    go_upto_region 23 with fail
                    go_wp2_with (first
                      | ((with_reducible refine stop_op (o := ⟨some 128, _, _, _, _, _⟩) ?_); refine Lib.hid ?_; refine wpList_load_cells rfl 42 (.tmp 3) rfl ⟨w.heap.size, 0, none⟩ rfl (FA { f with id := ((0 : Nat) : Int) + 1 }) _ a7.out Try.underlying42 rfl f_i.out ?_)
                      | ((with_reducible refine stop_op (o := ⟨some 129, _, _, _, _, _⟩) ?_); refine Lib.hid ?_; refine wpList_rbs1 rfl (.tmp 128) { f with id := ((0 : Nat) : Int) + 1 } (FA { f with id := ((0 : Nat) : Int) + 1 }) rfl rfl rfl ?_)
                      | (at_builtin; go_loud (refine wpList_append_own _ rfl _ _ 26 rfl GG 42 iu (.agg #[.int .i64 0, .int .i64 0, .int .u64 0, .int .u64 0, .int .u64 0, .int .u64 0, .int .i64 0, .int .i64 0, .int .i64 0, .int .u64 0, .int .u64 0, .int .u64 0, .int .u64 0, .int .i64 0, .int .i64 0, .int .i64 0, .int .i64 0, .int .i64 0, .int .i64 0, .int .i64 0]) 20 160 Try.underlying26 hiu hu0 hu1 hu2 rfl (by decide) _ _ _ rfl hownA ⟨w7.heap.size, 0, none⟩ 1 1 (fcells { f with id := ((0 : Nat) : Int) + 1 }) rfl rfl h1.out h2.out (by unfold maxLen; omega) (by omega) hbA ?_)))
                    intro v8 w8 hown8 hg8 _
                    have b8 : Below w5.heap.size w5 w8 := bA.grown hg8 (by have := HGG.out; omega) (fun q hq => by have := own_gt hownA q hq; have := HGG.out; omega)
                    have hbw8 : GG ≤ w8.heap.size := Nat.le_trans hbA hg8.size
                    obtain ⟨A8s, c8, hv8⟩ := own_slice hown8
                    subst hv8
                    have A8 := blkB b8 Aq
                    have hc8 := keepc b8 hc5
                    have hs8 := hs5.keep b8
                    have HD : Hid (∀ v9 w9, w9.ownsRow GG 42 20 v9 (0 + 1 + (0 - 0)) (((L3.take 0).flatMap fcells ++ fcells { f with id := ((0 : Nat) : Int) + 1 }) ++ (L3.drop 0).flatMap fcells) → w8.grownBy w9 (Value.slice A8s (0 + 1) c8).ownBlock → M (.returned (.tuple #[.int .i64 (((0 : Nat) : Int) + 1), .int .i64 gid, .int .i64 0])) (w9.setCell ⟨RB, 0, none⟩ v9) ∧ w9.cell? ⟨RB, 0, none⟩ = some (.slice none 0 0) ∧ w9.frozen? ⟨RB, 0, none⟩ = false ∧ (∃ A9 n9 c9, v9 = .slice A9 n9 c9) ∧ (w9.setCell ⟨RB, 0, none⟩ v9).cell? ⟨w.heap.size, 0, none⟩ = some (.int .i64 (((0 : Nat) : Int) + 1))) := Lib.hid (fun v9 w9 h9 g9 => by
                      have b9 : Below w5.heap.size w5 w9 := b8.grown g9 (by have := HGG.out; omega) (fun q hq => by have := own_gt hown8 q hq; have := HGG.out; omega)
                      rw [HGG.out] at h9
                      obtain ⟨k1, k2, k3, k4⟩ := HFIN.out w5 w5 w9 v9 oq (Below.refl _ _) b9 h9
                      refine ⟨k1, k2, k3, k4, ?_⟩
                      have hA9 : (w9.setCell ⟨RB, 0, none⟩ v9).heap[w.heap.size]? = some (.cells (FA { f with id := ((0 : Nat) : Int) + 1 }) 42 (0, 0)) := (set_other HBNE.out 0 v9).trans (blkB b9 Aq)
                      exact fa_id hA9)
                    clear HFIN HRI2 hownA hown7 bA hbA h1 h2 a7 A7 f_i hg8 b7 hbw7 hs5 hc5 oq Aq A8 HRI HPI HPO
                    have h363 : 0 + 1 + (0 - 0) ≤ maxLen := by unfold maxLen; omega
                    have h3b : (0 + 1 + (0 - 0)) * 160 ≤ 140737488355328 := by omega
                    have hs9 := Lib.hid (Sl.none (w := w8) (enc := fcells) (k := 20) none)
                    have hdr : (L3.drop 0) = [] := List.drop_eq_nil_of_le (by have := HN3.out; omega)
                    rw [hdr] at HD
                    simp only [Nat.sub_self, Nat.add_zero, List.flatMap_nil, List.append_nil] at HD
                    replace h363 : 0 + 1 + 0 ≤ maxLen := by unfold maxLen; omega
                    replace h3b : (0 + 1 + 0) * 160 ≤ 140737488355328 := by omega
                    go_wp2_with (at_builtin; go_loud (refine app_sl rfl _ _ 26 rfl GG 42 iu (.agg #[.int .i64 0, .int .i64 0, .int .u64 0, .int .u64 0, .int .u64 0, .int .u64 0, .int .i64 0, .int .i64 0, .int .i64 0, .int .u64 0, .int .u64 0, .int .u64 0, .int .u64 0, .int .i64 0, .int .i64 0, .int .i64 0, .int .i64 0, .int .i64 0, .int .i64 0, .int .i64 0]) 20 160 Try.underlying26 hiu hu0 hu1 hu2 rfl (by decide) _ (0 + 1) ((L3.take 0).flatMap fcells ++ fcells { f with id := ((0 : Nat) : Int) + 1 }) rfl hown8 fcells f20_len none 0 0 [] hs9.out (fun _ => rfl) rfl f20_one h363 h3b hbw8 ?_))
                    intro v9 w9 h9 g9
                    obtain ⟨k1, k2, k3, ⟨A9, n9, c9, rfl⟩, k5⟩ := HD.out v9 w9 (by simpa using h9) g9
                    have HK := Lib.hid k1
                    clear k1 h9 g9 HD
                    go_wp2_with fail
                    simp [bodyPost, results, Try.results10, go_sem]
                    exact HK.out
                  · by_cases hce : cr = i
                    · have hce2 : i = cr := hce.symm
                      subst hce2
                      obtain rfl : i = n3 := by omega
                      have hown6 : (w5.alloc (.cells #[] 42)).ownsRow w5.heap.size 42 20 (.slice (some ⟨w5.heap.size, 0, none⟩) 0 0) 0 ([] : List Value) := World.ownsRow_made w5 #[] 0 (Nat.le_refl _) (by unfold maxLen; omega) rfl
                      have b6 : Below w5.heap.size w5 (w5.alloc (.cells #[] 42)) := (Below.refl w5.heap.size w5).alloc (Nat.le_refl _) _
                      have rb0 := run_rbs0 w5
                      obtain ⟨hs5, hc5⟩ := HRI2.out _ oq
                      have hc6 := keepc b6 hc5
                      have A6 := blkB b6 Aq
                      have hs6 := Lib.hid ((hs5.cut (m := i) (by omega)).keep b6)
                      have b5 : (i : Int) ≤ (i : Int) := by omega
                      have b5c : (i : Int) ≤ (i : Int) := by omega
                      have b5n : i ≤ i := by omega
                      have b5d : i ≤ i := by omega
                      have n2 : (i : Int).toNat = i := by omega
                      have h163 : 0 + i ≤ maxLen := by unfold maxLen; omega
                      have h1b : (0 + i) * 160 ≤ 140737488355328 := by omega
                      go_upto_region 22 with fail
                      obtain ⟨w6, hw6⟩ : ∃ x, x = w5.alloc (.cells #[] 42) := ⟨_, rfl⟩
                      rw [← hw6] at hown6 b6 hc6 A6 hs6 ⊢
                      have hbw6 : w5.heap.size ≤ w6.heap.size := b6.size
                      obtain ⟨GG, hGG⟩ : ∃ G, G = w5.heap.size := ⟨_, rfl⟩
                      rw [← hGG] at hown6 hbw6 ⊢
                      have HGG := Lib.hid hGG
                      clear hw6 hGG rb0
                      go_wp2_with (at_builtin; go_loud (refine app_sl rfl _ _ 26 rfl GG 42 iu (.agg #[.int .i64 0, .int .i64 0, .int .u64 0, .int .u64 0, .int .u64 0, .int .u64 0, .int .i64 0, .int .i64 0, .int .i64 0, .int .u64 0, .int .u64 0, .int .u64 0, .int .u64 0, .int .i64 0, .int .i64 0, .int .i64 0, .int .i64 0, .int .i64 0, .int .i64 0, .int .i64 0]) 20 160 Try.underlying26 hiu hu0 hu1 hu2 rfl (by decide) _ 0 [] rfl hown6 fcells f20_len (some ⟨bb, off, none⟩) i i (L3.take i) hs6.out (fun h => by cases h) rfl f20_one h163 h1b hbw6 ?_))
                      intro v7 w7 hown7 hg7
                      have b7 : Below w5.heap.size w5 w7 := b6.grown hg7 (by have := HGG.out; omega) (fun q hq => by have := own_gt hown6 q hq; have := HGG.out; omega)
                      have hbw7 : GG ≤ w7.heap.size := Nat.le_trans hbw6 hg7.size
                      replace hown7 : w7.ownsRow GG 42 20 v7 i ((L3.take i).flatMap fcells) := by simpa using hown7
                      have A7 := blkB b7 Aq
                      obtain ⟨A7s, c7, hv7⟩ := own_slice hown7
                      subst hv7
                      clear hown6 hg7 hs6 hc6 h163 h1b hbw6 b6 A6
                      have f_i := Lib.hid (rf_inf { f with id := (i : Int) + 1 })
                      have a7 := Lib.hid (fa_all A7)
                      have hownA := own_below hown7 (Below.al (Below.refl w7.heap.size w7) (.cells (FA { f with id := (i : Int) + 1 }) 42))
                      have bA : Below w5.heap.size w5 (w7.alloc (.cells (FA { f with id := (i : Int) + 1 }) 42)) := Below.al b7 _
                      have hbA : GG ≤ (w7.alloc (.cells (FA { f with id := (i : Int) + 1 }) 42)).heap.size := by rw [al_size]; omega
                      have h1 := Lib.hid (f_news w7 { f with id := (i : Int) + 1 } 42)
                      have h2 := Lib.hid (f20_one { f with id := (i : Int) + 1 })
                      go_upto_region 23 with fail
                      go_wp2_with (first
                        | ((with_reducible refine stop_op (o := ⟨some 128, _, _, _, _, _⟩) ?_); refine Lib.hid ?_; refine wpList_load_cells rfl 42 (.tmp 3) rfl ⟨w.heap.size, 0, none⟩ rfl (FA { f with id := (i : Int) + 1 }) _ a7.out Try.underlying42 rfl f_i.out ?_)
                        | ((with_reducible refine stop_op (o := ⟨some 129, _, _, _, _, _⟩) ?_); refine Lib.hid ?_; refine wpList_rbs1 rfl (.tmp 128) { f with id := (i : Int) + 1 } (FA { f with id := (i : Int) + 1 }) rfl rfl rfl ?_)
                        | (at_builtin; go_loud (refine wpList_append_own _ rfl _ _ 26 rfl GG 42 iu (.agg #[.int .i64 0, .int .i64 0, .int .u64 0, .int .u64 0, .int .u64 0, .int .u64 0, .int .i64 0, .int .i64 0, .int .i64 0, .int .u64 0, .int .u64 0, .int .u64 0, .int .u64 0, .int .i64 0, .int .i64 0, .int .i64 0, .int .i64 0, .int .i64 0, .int .i64 0, .int .i64 0]) 20 160 Try.underlying26 hiu hu0 hu1 hu2 rfl (by decide) _ _ _ rfl hownA ⟨w7.heap.size, 0, none⟩ 1 1 (fcells { f with id := (i : Int) + 1 }) rfl rfl h1.out h2.out (by unfold maxLen; omega) (by omega) hbA ?_)))
                      intro v8 w8 hown8 hg8 _
                      have b8 : Below w5.heap.size w5 w8 := bA.grown hg8 (by have := HGG.out; omega) (fun q hq => by have := own_gt hownA q hq; have := HGG.out; omega)
                      have hbw8 : GG ≤ w8.heap.size := Nat.le_trans hbA hg8.size
                      obtain ⟨A8s, c8, hv8⟩ := own_slice hown8
                      subst hv8
                      have A8 := blkB b8 Aq
                      have hc8 := keepc b8 hc5
                      have hs8 := hs5.keep b8
                      have HD : Hid (∀ v9 w9, w9.ownsRow GG 42 20 v9 (i + 1 + (i - i)) (((L3.take i).flatMap fcells ++ fcells { f with id := (i : Int) + 1 }) ++ (L3.drop i).flatMap fcells) → w8.grownBy w9 (Value.slice A8s (i + 1) c8).ownBlock → M (.returned (.tuple #[.int .i64 ((i : Int) + 1), .int .i64 gid, .int .i64 0])) (w9.setCell ⟨RB, 0, none⟩ v9) ∧ w9.cell? ⟨RB, 0, none⟩ = some (.slice (some ⟨bb, off, none⟩) i i) ∧ w9.frozen? ⟨RB, 0, none⟩ = false ∧ (∃ A9 n9 c9, v9 = .slice A9 n9 c9) ∧ (w9.setCell ⟨RB, 0, none⟩ v9).cell? ⟨w.heap.size, 0, none⟩ = some (.int .i64 ((i : Int) + 1))) := Lib.hid (fun v9 w9 h9 g9 => by
                        have b9 : Below w5.heap.size w5 w9 := b8.grown g9 (by have := HGG.out; omega) (fun q hq => by have := own_gt hown8 q hq; have := HGG.out; omega)
                        rw [HGG.out] at h9
                        obtain ⟨k1, k2, k3, k4⟩ := HFIN.out w5 w5 w9 v9 oq (Below.refl _ _) b9 h9
                        refine ⟨k1, k2, k3, k4, ?_⟩
                        have hA9 : (w9.setCell ⟨RB, 0, none⟩ v9).heap[w.heap.size]? = some (.cells (FA { f with id := (i : Int) + 1 }) 42 (0, 0)) := (set_other HBNE.out 0 v9).trans (blkB b9 Aq)
                        exact fa_id hA9)
                      clear HFIN HRI2 hownA hown7 bA hbA h1 h2 a7 A7 f_i hg8 b7 hbw7 hs5 hc5 oq Aq A8 HRI HPI HPO
                      have h363 : i + 1 + (i - i) ≤ maxLen := by unfold maxLen; omega
                      have h3b : (i + 1 + (i - i)) * 160 ≤ 140737488355328 := by omega
                      have hs9 := Lib.hid (Sl.none (w := w8) (enc := fcells) (k := 20) (some ⟨bb, off, none⟩))
                      have hdr : (L3.drop i) = [] := List.drop_eq_nil_of_le (by have := HN3.out; omega)
                      have hni : i - i = 0 := by omega
                      rw [hdr, hni] at HD
                      simp only [Nat.add_zero, List.flatMap_nil, List.append_nil] at HD
                      replace h363 : i + 1 + 0 ≤ maxLen := by unfold maxLen; omega
                      replace h3b : (i + 1 + 0) * 160 ≤ 140737488355328 := by omega
                      go_wp2_with (at_builtin; go_loud (refine app_sl rfl _ _ 26 rfl GG 42 iu (.agg #[.int .i64 0, .int .i64 0, .int .u64 0, .int .u64 0, .int .u64 0, .int .u64 0, .int .i64 0, .int .i64 0, .int .i64 0, .int .u64 0, .int .u64 0, .int .u64 0, .int .u64 0, .int .i64 0, .int .i64 0, .int .i64 0, .int .i64 0, .int .i64 0, .int .i64 0, .int .i64 0]) 20 160 Try.underlying26 hiu hu0 hu1 hu2 rfl (by decide) _ (i + 1) ((L3.take i).flatMap fcells ++ fcells { f with id := (i : Int) + 1 }) rfl hown8 fcells f20_len (some ⟨bb, off, none⟩) 0 0 [] hs9.out (fun h => by cases h) rfl f20_one h363 h3b hbw8 ?_))
                      intro v9 w9 h9 g9
                      obtain ⟨k1, k2, k3, ⟨A9, n9, c9, rfl⟩, k5⟩ := HD.out v9 w9 (by simpa using h9) g9
                      have HK := Lib.hid k1
                      clear k1 h9 g9 HD
                      go_wp2_with fail
                      simp [bodyPost, results, Try.results10, go_sem]
                      exact HK.out
                    · have hce' : ¬ cr = i := hce
                      have hown6 : (w5.alloc (.cells #[] 42)).ownsRow w5.heap.size 42 20 (.slice (some ⟨w5.heap.size, 0, none⟩) 0 0) 0 ([] : List Value) := World.ownsRow_made w5 #[] 0 (Nat.le_refl _) (by unfold maxLen; omega) rfl
                      have b6 : Below w5.heap.size w5 (w5.alloc (.cells #[] 42)) := (Below.refl w5.heap.size w5).alloc (Nat.le_refl _) _
                      have rb0 := run_rbs0 w5
                      obtain ⟨hs5, hc5⟩ := HRI2.out _ oq
                      have hc6 := keepc b6 hc5
                      have A6 := blkB b6 Aq
                      have hs6 := Lib.hid ((hs5.cut (m := i) (by omega)).keep b6)
                      have b5 : (i : Int) ≤ (n3 : Int) := by omega
                      have b5c : (i : Int) ≤ (cr : Int) := by omega
                      have b5n : i ≤ n3 := by omega
                      have b5d : i ≤ cr := by omega
                      have n2 : (i : Int).toNat = i := by omega
                      have h163 : 0 + i ≤ maxLen := by unfold maxLen; omega
                      have h1b : (0 + i) * 160 ≤ 140737488355328 := by omega
                      go_upto_region 22 with fail
                      obtain ⟨w6, hw6⟩ : ∃ x, x = w5.alloc (.cells #[] 42) := ⟨_, rfl⟩
                      rw [← hw6] at hown6 b6 hc6 A6 hs6 ⊢
                      have hbw6 : w5.heap.size ≤ w6.heap.size := b6.size
                      obtain ⟨GG, hGG⟩ : ∃ G, G = w5.heap.size := ⟨_, rfl⟩
                      rw [← hGG] at hown6 hbw6 ⊢
                      have HGG := Lib.hid hGG
                      clear hw6 hGG rb0
                      go_wp2_with (at_builtin; go_loud (refine app_sl rfl _ _ 26 rfl GG 42 iu (.agg #[.int .i64 0, .int .i64 0, .int .u64 0, .int .u64 0, .int .u64 0, .int .u64 0, .int .i64 0, .int .i64 0, .int .i64 0, .int .u64 0, .int .u64 0, .int .u64 0, .int .u64 0, .int .i64 0, .int .i64 0, .int .i64 0, .int .i64 0, .int .i64 0, .int .i64 0, .int .i64 0]) 20 160 Try.underlying26 hiu hu0 hu1 hu2 rfl (by decide) _ 0 [] rfl hown6 fcells f20_len (some ⟨bb, off, none⟩) i cr (L3.take i) hs6.out (fun h => by cases h) rfl f20_one h163 h1b hbw6 ?_))
                      intro v7 w7 hown7 hg7
                      have b7 : Below w5.heap.size w5 w7 := b6.grown hg7 (by have := HGG.out; omega) (fun q hq => by have := own_gt hown6 q hq; have := HGG.out; omega)
                      have hbw7 : GG ≤ w7.heap.size := Nat.le_trans hbw6 hg7.size
                      replace hown7 : w7.ownsRow GG 42 20 v7 i ((L3.take i).flatMap fcells) := by simpa using hown7
                      have A7 := blkB b7 Aq
                      obtain ⟨A7s, c7, hv7⟩ := own_slice hown7
                      subst hv7
                      clear hown6 hg7 hs6 hc6 h163 h1b hbw6 b6 A6
                      have f_i := Lib.hid (rf_inf { f with id := (i : Int) + 1 })
                      have a7 := Lib.hid (fa_all A7)
                      have hownA := own_below hown7 (Below.al (Below.refl w7.heap.size w7) (.cells (FA { f with id := (i : Int) + 1 }) 42))
                      have bA : Below w5.heap.size w5 (w7.alloc (.cells (FA { f with id := (i : Int) + 1 }) 42)) := Below.al b7 _
                      have hbA : GG ≤ (w7.alloc (.cells (FA { f with id := (i : Int) + 1 }) 42)).heap.size := by rw [al_size]; omega
                      have h1 := Lib.hid (f_news w7 { f with id := (i : Int) + 1 } 42)
                      have h2 := Lib.hid (f20_one { f with id := (i : Int) + 1 })
                      go_upto_region 23 with fail
                      go_wp2_with (first
                        | ((with_reducible refine stop_op (o := ⟨some 128, _, _, _, _, _⟩) ?_); refine Lib.hid ?_; refine wpList_load_cells rfl 42 (.tmp 3) rfl ⟨w.heap.size, 0, none⟩ rfl (FA { f with id := (i : Int) + 1 }) _ a7.out Try.underlying42 rfl f_i.out ?_)
                        | ((with_reducible refine stop_op (o := ⟨some 129, _, _, _, _, _⟩) ?_); refine Lib.hid ?_; refine wpList_rbs1 rfl (.tmp 128) { f with id := (i : Int) + 1 } (FA { f with id := (i : Int) + 1 }) rfl rfl rfl ?_)
                        | (at_builtin; go_loud (refine wpList_append_own _ rfl _ _ 26 rfl GG 42 iu (.agg #[.int .i64 0, .int .i64 0, .int .u64 0, .int .u64 0, .int .u64 0, .int .u64 0, .int .i64 0, .int .i64 0, .int .i64 0, .int .u64 0, .int .u64 0, .int .u64 0, .int .u64 0, .int .i64 0, .int .i64 0, .int .i64 0, .int .i64 0, .int .i64 0, .int .i64 0, .int .i64 0]) 20 160 Try.underlying26 hiu hu0 hu1 hu2 rfl (by decide) _ _ _ rfl hownA ⟨w7.heap.size, 0, none⟩ 1 1 (fcells { f with id := (i : Int) + 1 }) rfl rfl h1.out h2.out (by unfold maxLen; omega) (by omega) hbA ?_)))
                      intro v8 w8 hown8 hg8 _
                      have b8 : Below w5.heap.size w5 w8 := bA.grown hg8 (by have := HGG.out; omega) (fun q hq => by have := own_gt hownA q hq; have := HGG.out; omega)
                      have hbw8 : GG ≤ w8.heap.size := Nat.le_trans hbA hg8.size
                      obtain ⟨A8s, c8, hv8⟩ := own_slice hown8
                      subst hv8
                      have A8 := blkB b8 Aq
                      have hc8 := keepc b8 hc5
                      have hs8 := hs5.keep b8
                      have HD : Hid (∀ v9 w9, w9.ownsRow GG 42 20 v9 (i + 1 + (n3 - i)) (((L3.take i).flatMap fcells ++ fcells { f with id := (i : Int) + 1 }) ++ (L3.drop i).flatMap fcells) → w8.grownBy w9 (Value.slice A8s (i + 1) c8).ownBlock → M (.returned (.tuple #[.int .i64 ((i : Int) + 1), .int .i64 gid, .int .i64 0])) (w9.setCell ⟨RB, 0, none⟩ v9) ∧ w9.cell? ⟨RB, 0, none⟩ = some (.slice (some ⟨bb, off, none⟩) n3 cr) ∧ w9.frozen? ⟨RB, 0, none⟩ = false ∧ (∃ A9 n9 c9, v9 = .slice A9 n9 c9) ∧ (w9.setCell ⟨RB, 0, none⟩ v9).cell? ⟨w.heap.size, 0, none⟩ = some (.int .i64 ((i : Int) + 1))) := Lib.hid (fun v9 w9 h9 g9 => by
                        have b9 : Below w5.heap.size w5 w9 := b8.grown g9 (by have := HGG.out; omega) (fun q hq => by have := own_gt hown8 q hq; have := HGG.out; omega)
                        rw [HGG.out] at h9
                        obtain ⟨k1, k2, k3, k4⟩ := HFIN.out w5 w5 w9 v9 oq (Below.refl _ _) b9 h9
                        refine ⟨k1, k2, k3, k4, ?_⟩
                        have hA9 : (w9.setCell ⟨RB, 0, none⟩ v9).heap[w.heap.size]? = some (.cells (FA { f with id := (i : Int) + 1 }) 42 (0, 0)) := (set_other HBNE.out 0 v9).trans (blkB b9 Aq)
                        exact fa_id hA9)
                      clear HFIN HRI2 hownA hown7 bA hbA h1 h2 a7 A7 f_i hg8 b7 hbw7 hs5 hc5 oq Aq A8 HRI HPI HPO
                      have h363 : i + 1 + (n3 - i) ≤ maxLen := by unfold maxLen; omega
                      have h3b : (i + 1 + (n3 - i)) * 160 ≤ 140737488355328 := by omega
                      have hs9 := Lib.hid (hs8.dropG (i := i) (by omega))
                      go_wp2_with (at_builtin; go_loud (refine app_sl rfl _ _ 26 rfl GG 42 iu (.agg #[.int .i64 0, .int .i64 0, .int .u64 0, .int .u64 0, .int .u64 0, .int .u64 0, .int .i64 0, .int .i64 0, .int .i64 0, .int .u64 0, .int .u64 0, .int .u64 0, .int .u64 0, .int .i64 0, .int .i64 0, .int .i64 0, .int .i64 0, .int .i64 0, .int .i64 0, .int .i64 0]) 20 160 Try.underlying26 hiu hu0 hu1 hu2 rfl (by decide) _ (i + 1) ((L3.take i).flatMap fcells ++ fcells { f with id := (i : Int) + 1 }) rfl hown8 fcells f20_len (some ⟨bb, off + i * 20, none⟩) (n3 - i) (cr - i) (L3.drop i) hs9.out (fun h => by cases h) rfl f20_one h363 h3b hbw8 ?_))
                      intro v9 w9 h9 g9
                      obtain ⟨k1, k2, k3, ⟨A9, n9, c9, rfl⟩, k5⟩ := HD.out v9 w9 (by rw [List.append_assoc]; exact h9) g9
                      have HK := Lib.hid k1
                      clear k1 h9 g9 HD
                      go_wp2_with fail
                      simp [bodyPost, results, Try.results10, go_sem]
                      exact HK.out
  · have hbad : badF L f = ((f.op == f.bk) || (takF L f.op || takF L f.bk)) := rfl
    have BAD : Hid (∀ W1, Below w.heap.size w W1 → M (.returned (.tuple #[.int .i64 0, .int .i64 0, .int .i64 63])) W1) := Lib.hid (fun W1 b => by
      rw [HM.out]
      unfold RAddPost addF
      rw [if_pos hb]
      exact ⟨rfl, RPost.same h0 b⟩)
    rw [hb] at hbad
    clear hb h0 gd hi HM hf hRlt
    generalize (f.op == f.bk) = e0 at *
    generalize takF L f.op = t1 at *
    generalize takF L f.bk = t2 at *
    generalize FA f = F at *
    generalize KA f.op = K1 at *
    generalize KA f.bk = K2 at *
    cases t1 with
    | true =>
      clear hbad
      go_enter Try.func10, Try.ntmps10
      go_upto_region 1 with fail
      rw [← HW1.out]
      go_wp2_with (first
        | ((with_reducible refine stop_op (o := ⟨some 15, _, _, _, _, _⟩) ?_); refine Lib.hid ?_; refine wpList_load_cells rfl 36 (.tmp 14) rfl ⟨w.heap.size, 1, none⟩ rfl K1 _ (HOP.out _ A1) Try.underlying36 rfl k_i1.out ?_)
        | ((with_reducible refine stop_op (o := ⟨some 20, _, _, _, _, _⟩) ?_); refine Lib.hid ?_; refine wpList_load_cells_on (by kernel_rfl) 36 (.tmp 19) rfl ⟨w.heap.size, 8, none⟩ rfl K2 _ (HBK.out _ A1) Try.underlying36 rfl k_i2.out ?_)
        | ((with_reducible refine stop_op (o := ⟨some 25, _, _, _, _, _⟩) ?_); refine Lib.hid ?_; refine wpList_load_cells_on (by kernel_rfl) 36 (.tmp 24) rfl ⟨w.heap.size, 1, none⟩ rfl K1 _ (HOP.out _ A1) Try.underlying36 rfl k_i1.out ?_)
        | ((with_reducible refine stop_op (o := ⟨some 27, _, _, _, _, _⟩) ?_); refine Lib.hid ?_; refine wpList_load_cells_on (by kernel_rfl) 36 (.tmp 26) rfl ⟨w.heap.size, 8, none⟩ rfl K2 _ (HBK.out _ A1) Try.underlying36 rfl k_i2.out ?_)
        | ((go_at_call_of 22 (Value.agg K1)); with_reducible refine (cT1 _ b1).mono ?_; rintro e w2 ⟨rfl, bt⟩; replace A1 := blkB bt A1; replace b1 := bel_via b1 bt; clear bt)
        | ((go_at_call_of 22 (Value.agg K2)); with_reducible refine (cT2 _ b1).mono ?_; rintro e w2 ⟨rfl, bt⟩; replace A1 := blkB bt A1; replace b1 := bel_via b1 bt; clear bt))
      simp [bodyPost, results, Try.results10, go_sem]
      exact BAD.out _ b1
    | false =>
      cases t2 with
      | true =>
        clear hbad
        go_enter Try.func10, Try.ntmps10
        go_upto_region 1 with fail
        rw [← HW1.out]
        go_wp2_with (first
          | ((with_reducible refine stop_op (o := ⟨some 15, _, _, _, _, _⟩) ?_); refine Lib.hid ?_; refine wpList_load_cells rfl 36 (.tmp 14) rfl ⟨w.heap.size, 1, none⟩ rfl K1 _ (HOP.out _ A1) Try.underlying36 rfl k_i1.out ?_)
          | ((with_reducible refine stop_op (o := ⟨some 20, _, _, _, _, _⟩) ?_); refine Lib.hid ?_; refine wpList_load_cells_on (by kernel_rfl) 36 (.tmp 19) rfl ⟨w.heap.size, 8, none⟩ rfl K2 _ (HBK.out _ A1) Try.underlying36 rfl k_i2.out ?_)
          | ((with_reducible refine stop_op (o := ⟨some 25, _, _, _, _, _⟩) ?_); refine Lib.hid ?_; refine wpList_load_cells_on (by kernel_rfl) 36 (.tmp 24) rfl ⟨w.heap.size, 1, none⟩ rfl K1 _ (HOP.out _ A1) Try.underlying36 rfl k_i1.out ?_)
          | ((with_reducible refine stop_op (o := ⟨some 27, _, _, _, _, _⟩) ?_); refine Lib.hid ?_; refine wpList_load_cells_on (by kernel_rfl) 36 (.tmp 26) rfl ⟨w.heap.size, 8, none⟩ rfl K2 _ (HBK.out _ A1) Try.underlying36 rfl k_i2.out ?_)
          | ((go_at_call_of 22 (Value.agg K1)); with_reducible refine (cT1 _ b1).mono ?_; rintro e w2 ⟨rfl, bt⟩; replace A1 := blkB bt A1; replace b1 := bel_via b1 bt; clear bt)
          | ((go_at_call_of 22 (Value.agg K2)); with_reducible refine (cT2 _ b1).mono ?_; rintro e w2 ⟨rfl, bt⟩; replace A1 := blkB bt A1; replace b1 := bel_via b1 bt; clear bt))
        simp [bodyPost, results, Try.results10, go_sem]
        exact BAD.out _ b1
      | false =>
        cases e0 with
        | false => cases hbad
        | true =>
          clear hbad
          go_enter Try.func10, Try.ntmps10
          go_upto_region 1 with fail
          rw [← HW1.out]
          go_wp2_with (first
            | ((with_reducible refine stop_op (o := ⟨some 15, _, _, _, _, _⟩) ?_); refine Lib.hid ?_; refine wpList_load_cells rfl 36 (.tmp 14) rfl ⟨w.heap.size, 1, none⟩ rfl K1 _ (HOP.out _ A1) Try.underlying36 rfl k_i1.out ?_)
            | ((with_reducible refine stop_op (o := ⟨some 20, _, _, _, _, _⟩) ?_); refine Lib.hid ?_; refine wpList_load_cells_on (by kernel_rfl) 36 (.tmp 19) rfl ⟨w.heap.size, 8, none⟩ rfl K2 _ (HBK.out _ A1) Try.underlying36 rfl k_i2.out ?_)
            | ((with_reducible refine stop_op (o := ⟨some 25, _, _, _, _, _⟩) ?_); refine Lib.hid ?_; refine wpList_load_cells_on (by kernel_rfl) 36 (.tmp 24) rfl ⟨w.heap.size, 1, none⟩ rfl K1 _ (HOP.out _ A1) Try.underlying36 rfl k_i1.out ?_)
            | ((with_reducible refine stop_op (o := ⟨some 27, _, _, _, _, _⟩) ?_); refine Lib.hid ?_; refine wpList_load_cells_on (by kernel_rfl) 36 (.tmp 26) rfl ⟨w.heap.size, 8, none⟩ rfl K2 _ (HBK.out _ A1) Try.underlying36 rfl k_i2.out ?_)
            | ((go_at_call_of 22 (Value.agg K1)); with_reducible refine (cT1 _ b1).mono ?_; rintro e w2 ⟨rfl, bt⟩; replace A1 := blkB bt A1; replace b1 := bel_via b1 bt; clear bt)
            | ((go_at_call_of 22 (Value.agg K2)); with_reducible refine (cT2 _ b1).mono ?_; rintro e w2 ⟨rfl, bt⟩; replace A1 := blkB bt A1; replace b1 := bel_via b1 bt; clear bt))
          simp [bodyPost, results, Try.results10, go_sem]
          exact BAD.out _ b1
end
end Go.Proofs.Ytdgodndaaenafaa
