/- The document's Check; by-name template (gen_lrc.py). -/
import Derived.Test.YtmnnjkdmnfadhaaGreatDoorZB
import Derived.Test.YtmnnjkdmnfadhaaGreatDoorZN
import Derived.Test.YtmnnjkdmnfadhaaGreatDoorZU
import Derived.OrdersHeld
import Derived.Deep.RegionHeld
import Derived.Great.BuildSlice
import Derived.Test.YtmnnjkdmnfadhaaGreatDoorLChk
import Derived.Test.YtmnnjkdmnfadhaaGreatDoorLRul
namespace Go.Proofs.YtmnnjkdmnfadhaaGreatDoor
open Go.Shelf Go.RowKit Go.Lib Go.Sort
set_option linter.unusedVariables false
set_option linter.unusedSimpArgs false

theorem blkB2 {w0 w1 : World} (hb : Below w0.heap.size w0 w1) {g : Nat} {o : Obj} (h : w0.heap[g]? = some o) : w1.heap[g]? = some o := by
  rw [hb.block _ (Array.getElem?_eq_some_iff.1 h).1]; exact h
theorem exec_row {P : Program} {o : Oper} {a : Act} {W : World} (ty : TypeId) (x : Operand) (ho : o.op = .load ty x) (g : Nat) (hx : a.eval x = .pointer (some ⟨g, 0, none⟩)) (t : TypeId) (cs : Array Value) (fr : Nat × Nat) (d : TypeDesc) (hg : W.heap[g]? = some (.cells cs t fr))
    (hu : P.underlying ty = some d) (hd : (match d with | .struct _ | .array _ _ => true | _ => false) = true) (hi : (P.info? ty).map (·.size) = some cs.size) : (execOp a.eval o).run P W = .ok (.value (.agg cs)) W := by
  unfold execOp
  simp only [ho, hx, Instr.loadAt, Instr.sureAddr, Sem.run_bind, Sem.run_pure, Result.andThen_ok, run_loadVar_row W g t ty cs fr d hg hu hd hi]
theorem er_info : (Tryz.prog.info? 32).map (fun i => (i.zero, i.size, i.bytes)) = some (some (.int .i64 0), 1, 8) := by kernel_rfl
theorem er_parts : ∃ i, Tryz.prog.info? 32 = some i ∧ i.zero = some (.int .i64 0) ∧ i.size = 1 ∧ i.bytes = 8 := by
  cases h : Tryz.prog.info? 32 with
  | none => have := er_info; rw [h] at this; cases this
  | some i => refine ⟨i, rfl, ?_⟩; have := er_info; rw [h] at this; simpa using this
def iv (x : Int) : List Value := [.int .i64 x]
theorem run_er1 (w : World) (r : Int) : (Instr.buildSlice 72 1 #[(0, .int .i64 r)]).run Tryz.prog w = .ok (.slice (some ⟨w.heap.size, 0, none⟩) 1 1) (w.alloc (.cells #[.int .i64 r] 32)) := by kernel_rfl
theorem wpList_er1 {ops : Array Oper} {rest : List Oper} {o : Oper} {a : Act} {w : World} {Q : Exit → Act → World → Prop} (hgd : o.guard = none) (x : Operand) (r : Int) (ho : o.op = .buildSlice 72 1 #[(0, x)]) (hx : a.eval x = .int .i64 r)
    (h : wpList Tryz.prog ops Q rest (a.put o.dst (.slice (some ⟨w.heap.size, 0, none⟩) 1 1)) (w.alloc (.cells #[.int .i64 r] 32))) : wpList Tryz.prog ops Q (o :: rest) a w :=
  wpList_plain hgd fun _ hK => by
    unfold Oper.wp
    have e : (execOp a.eval o).run Tryz.prog w = .ok (.value (.slice (some ⟨w.heap.size, 0, none⟩) 1 1)) (w.alloc (.cells #[.int .i64 r] 32)) := by
      unfold execOp
      simp only [ho, List.map_toArray, List.map_cons, List.map_nil, hx, Sem.run_bind, Sem.run_pure, Result.andThen_ok, run_er1]
    rw [e]
    simp [go_sem]
    exact hK _ _ h
/-- What the document's list holds, as cells. -/
def rowD (c : CF) (h : List Int) (i j : Nat) : List Value := (h ++ chkL (natChk c) [] (c.ns.take i) ++ chkL (fun u _ => rulD c u) [] (c.us.take j)).flatMap iv
theorem rowD_zero (c : CF) (h : List Int) : rowD c h 0 0 = h.flatMap iv := by simp [rowD, chkL]
theorem rowD_nat (c : CF) (h : List Int) {i : Nat} {x : NR} (hx : c.ns[i]? = some x) : rowD c h i 0 ++ iv (natChk c x (c.ns.take i)) = rowD c h (i + 1) 0 := by
  unfold rowD; rw [take_snocL hx, chkL_snoc]; simp [chkL]
theorem rowD_rul (c : CF) (h : List Int) (n : Nat) {i : Nat} {x : UR} (hx : c.us[i]? = some x) : rowD c h n i ++ iv (rulD c x) = rowD c h n (i + 1) := by
  unfold rowD; rw [take_snocL hx, chkL_snoc]; simp
theorem rowD_all (c : CF) (h : List Int) {n u : Nat} (hn : c.ns.length = n) (hu : c.us.length = u) : rowD c h n u = (h ++ chkL (natChk c) [] c.ns ++ chkL (fun u _ => rulD c u) [] c.us).flatMap iv := by
  unfold rowD; rw [List.take_of_length_le (by omega), List.take_of_length_le (by omega)]
structure CF.Good (c : CF) : Prop where
  cap : c.Cap
  zn : ∀ x ∈ c.zs, x.nm.size ≤ 9223372036854775807
  on : ∀ x ∈ c.os, x.nm.size ≤ 9223372036854775807
  sn : ∀ x ∈ c.ss, x.nm.size ≤ 9223372036854775807
  ln : ∀ x ∈ c.ls, x.nm.size ≤ 9223372036854775807
  zc : ∀ z ∈ c.zs, z.il ≤ z.ic
  oc : ∀ o ∈ c.os, o.rl ≤ o.rc
  ow : ∀ o ∈ c.os, ∀ r ∈ o.rs, RW r
  tw : ∀ t ∈ c.ts, RW t.r ∧ SW t.bits
  nw : ∀ n ∈ c.ns, NW n
theorem own_five (w : World) (a b c d e : Int) : (w.alloc (.cells #[.int .i64 a, .int .i64 b, .int .i64 c, .int .i64 d, .int .i64 e] 32)).ownsRow w.heap.size 32 1 (.slice (some ⟨w.heap.size, 0, none⟩) 5 5) 5 ([a, b, c, d, e].flatMap iv) :=
  ⟨rfl, .inr ⟨w.heap.size, 5, _, rfl, Nat.le_refl _, heap_alloc_new w _, Nat.le_refl _, by unfold maxLen; omega, rfl, rfl⟩⟩
theorem one_news (w : World) (x : Int) (t : TypeId) : ∀ j u, (iv x)[j]? = some u → (w.alloc (.cells #[.int .i64 x] t)).cell? ((⟨w.heap.size, 0, none⟩ : Addr).add j) = some u := by
  intro j u hj
  match j, hj with
  | 0, hj => simp [iv] at hj; subst hj; simp [Addr.add, go_sem]
  | j + 1, hj => simp [iv] at hj
theorem own_gt' {w : World} {b size n : Nat} {e : TypeId} {v : Value} {xs : List Value} (h : w.ownsRow b e size v n xs) : ∀ q, v.ownBlock = some q → b ≤ q := fun q hq => (h.lt q hq).1

set_option maxHeartbeats 32000000 in
set_option maxRecDepth 100000 in
theorem rchk_core (c : CF) {w : World} (hc : c.Ok w) (hg : c.Good) (hcn : ¬ (8 < c.zn ∨ 32 < c.on ∨ 32 < c.sn ∨ 16 < c.ln ∨ 16 < c.tn ∨ 16 < c.nn ∨ 48 < c.un)) :
    Calls Tryz.prog 7 #[.agg (cfc c)] w fun e w' => e = .returned (.int .i64 (checkD c)) ∧ Below w.heap.size w w' := by
  obtain ⟨w0, hw0⟩ : ∃ w0, w0 = w.alloc (.cells (cfc c) 30) := ⟨_, rfl⟩
  have b0 : Below w.heap.size w w0 := by rw [hw0]; exact Below.al (Below.refl _ _) _
  have hC0 : CfB w0 w.heap.size c := by rw [hw0]; exact CfB.made w c
  have hBlk : w0.heap[w.heap.size]? = some (.cells (cfc c) 30 (0, 0)) := by rw [hw0]; exact heap_alloc_new w _
  have hok := fun (W : World) (hW : Below w0.heap.size w0 W) => (hc.keep b0).keep hW
  have z1 := fun W h => rl_zon c (hok W h).z hg.cap.z hg.zn (hok W h).zi hg.zc
  have z2 := fun W h => rl_obj c (hok W h).o hg.cap.o hg.on (hok W h).oi hg.ow
  have z3 := fun W h => rl_srv c (hok W h).s hg.cap.s hg.sn
  have z4 := fun W h => rl_lim c (hok W h).l hg.cap.l hg.ln
  have z5 := fun W h => rl_rte c (hok W h).t (hok W h).z (hok W h).zi hg.tw
  have zn := fun (i : Nat) (x : NR) (hi : c.ns[i]? = some x) W h => rnat_any c i x (hok W h) hi (hg.nw x (List.mem_of_getElem? hi))
  have zu := fun (u : UR) W h => rrul_any c u (hok W h)
  have iC : Hid ((Tryz.prog.info? 30).map (·.size) = some (cfc c).size) := Lib.hid (by rw [show (cfc c).size = 8 from rfl]; kernel_rfl)
  obtain ⟨iu, hiu, hu0, hu1, hu2⟩ := er_parts
  have HLN := Lib.hid hc.n.len
  have HLU := Lib.hid hc.u.len
  have HSU := Lib.hid (hc.u.keep b0)
  obtain ⟨Q, hQ⟩ : ∃ Q, Q = checkD c := ⟨_, rfl⟩
  rw [← hQ]
  unfold checkD listD at hQ
  have hcz : countsP c = 0 := by unfold countsP; rw [if_neg hcn]
  rw [if_pos hcz] at hQ
  generalize firstP (chkN (·.nm) zonChk) c.zs = a1 at *
  generalize firstP (chkN (·.nm) objChk) c.os = a2 at *
  generalize firstP (chkN (·.nm) srvChk) c.ss = a3 at *
  generalize firstP (chkN (·.nm) limChk) c.ls = a4 at *
  generalize firstP (rteChk c) c.ts = a5 at *
  have HQ := Lib.hid hQ
  clear hQ hcz hok hc hg
  obtain ⟨c0, c1, c2, c3, c4, c5, c6, c7⟩ := hC0
  have hcc : (.agg (cfc c) : Value) = .agg #[.slice c.zA c.zn c.zc, .slice c.oA c.on c.oc, .slice c.sA c.sn c.sc, .slice c.lA c.ln c.lc, .slice c.tA c.tn c.tc, .slice c.nA c.nn c.nc, .slice c.uA c.un c.uc, .int .i64 c.dflt] := rfl
  clear hcc
  obtain ⟨C, hCC⟩ : ∃ C, C = cfc c := ⟨_, rfl⟩
  simp only [← hCC] at *
  clear hCC
  have e0 : decide (8 < c.zn) = false := by simp; omega
  have e1 : decide (32 < c.on) = false := by simp; omega
  have e2 : decide (32 < c.sn) = false := by simp; omega
  have e3 : decide (16 < c.ln) = false := by simp; omega
  have e4 : decide (16 < c.tn) = false := by simp; omega
  have e5 : decide (16 < c.nn) = false := by simp; omega
  have e6 : decide (48 < c.un) = false := by simp; omega
  have d0 : ¬ ((8 : Int) < (c.zn : Int)) := by omega
  have d1 : ¬ ((32 : Int) < (c.on : Int)) := by omega
  have d2 : ¬ ((32 : Int) < (c.sn : Int)) := by omega
  have d3 : ¬ ((16 : Int) < (c.ln : Int)) := by omega
  have d4 : ¬ ((16 : Int) < (c.tn : Int)) := by omega
  have d5 : ¬ ((16 : Int) < (c.nn : Int)) := by omega
  have d6 : ¬ ((48 : Int) < (c.un : Int)) := by omega
  have hnn : c.nn ≤ 16 := by omega
  have hun : c.un ≤ 48 := by omega
  clear hcn
  go_enter Tryz.func7, Tryz.ntmps7
  go_upto_region 1 with fail
  rw [← hw0]
  clear hw0
  go_upto_region 3 with fail
  refine wp_region_held (S := (fun w' : World => Below w0.heap.size w0 w' ∧ w'.heap[w.heap.size]? = some (.cells C 30 (0, 0)))) (by kernel_rfl) ?_
  change wpAnyH _ _ _ _ _ _ _ _ (World.drew _)
  have hS0 : (fun w' : World => Below w0.heap.size w0 w' ∧ w'.heap[w.heap.size]? = some (.cells C 30 (0, 0))) w0.drew := ⟨Below.dr (Below.refl _ _), hBlk⟩
  generalize w0.drew = wd at hS0 ⊢
  refine wpAnyH_take (i := 0) (oi := ⟨some 47, _, _, _, _, _⟩) (v := .agg C) rfl (by kernel_rfl) (by kernel_rfl) (by kernel_rfl) (fun _ _ _ h => h) (Or.inl ⟨by rfl, fun W hW => exec_row 30 (.tmp 1) rfl w.heap.size rfl 30 C (0, 0) _ hW.2 Tryz.underlying30 rfl iC.out⟩) hS0 ?_
  refine wpAnyH_take (i := 2) (oi := ⟨some 49, _, _, _, _, _⟩) (v := .agg C) rfl (by kernel_rfl) (by kernel_rfl) (by kernel_rfl) (fun _ _ _ h => h) (Or.inl ⟨by rfl, fun W hW => exec_row 30 (.tmp 1) rfl w.heap.size rfl 30 C (0, 0) _ hW.2 Tryz.underlying30 rfl iC.out⟩) hS0 ?_
  refine wpAnyH_take (i := 4) (oi := ⟨some 51, _, _, _, _, _⟩) (v := .agg C) rfl (by kernel_rfl) (by kernel_rfl) (by kernel_rfl) (fun _ _ _ h => h) (Or.inl ⟨by rfl, fun W hW => exec_row 30 (.tmp 1) rfl w.heap.size rfl 30 C (0, 0) _ hW.2 Tryz.underlying30 rfl iC.out⟩) hS0 ?_
  refine wpAnyH_take (i := 6) (oi := ⟨some 53, _, _, _, _, _⟩) (v := .agg C) rfl (by kernel_rfl) (by kernel_rfl) (by kernel_rfl) (fun _ _ _ h => h) (Or.inl ⟨by rfl, fun W hW => exec_row 30 (.tmp 1) rfl w.heap.size rfl 30 C (0, 0) _ hW.2 Tryz.underlying30 rfl iC.out⟩) hS0 ?_
  refine wpAnyH_take (i := 8) (oi := ⟨some 55, _, _, _, _, _⟩) (v := .agg C) rfl (by kernel_rfl) (by kernel_rfl) (by kernel_rfl) (fun _ _ _ h => h) (Or.inl ⟨by rfl, fun W hW => exec_row 30 (.tmp 1) rfl w.heap.size rfl 30 C (0, 0) _ hW.2 Tryz.underlying30 rfl iC.out⟩) hS0 ?_
  try simp only [Act.put, List.setIfInBounds_toArray, List.set_cons_succ, List.set_cons_zero]
  refine wpAnyH_ready (rs := [1]) (by kernel_rfl) (by simp) ?_
  refine AllReadyH.cons (o := ⟨some 48, _, _, _, _, _⟩) rfl (fun K hK => ?_) AllReadyH.nil
  go_simp
  go_at_call 22
  go_loud (with_reducible refine (z1 _ hS0.1).mono ?_)
  rintro e wc1 ⟨rfl, hbn⟩
  have hS1 : (fun w' : World => Below w0.heap.size w0 w' ∧ w'.heap[w.heap.size]? = some (.cells C 30 (0, 0))) wc1 := ⟨bel_via hS0.1 hbn, blkB2 hbn hS0.2⟩
  refine hK.out _ _ hS1 (fun _ => ?_)
  clear hK K hbn
  try simp only [Act.put, List.setIfInBounds_toArray, List.set_cons_succ, List.set_cons_zero]
  refine wpAnyH_ready (rs := [3]) (by kernel_rfl) (by simp) ?_
  refine AllReadyH.cons (o := ⟨some 50, _, _, _, _, _⟩) rfl (fun K hK => ?_) AllReadyH.nil
  go_simp
  go_at_call 23
  go_loud (with_reducible refine (z2 _ hS1.1).mono ?_)
  rintro e wc3 ⟨rfl, hbn⟩
  have hS2 : (fun w' : World => Below w0.heap.size w0 w' ∧ w'.heap[w.heap.size]? = some (.cells C 30 (0, 0))) wc3 := ⟨bel_via hS1.1 hbn, blkB2 hbn hS1.2⟩
  refine hK.out _ _ hS2 (fun _ => ?_)
  clear hK K hbn
  try simp only [Act.put, List.setIfInBounds_toArray, List.set_cons_succ, List.set_cons_zero]
  refine wpAnyH_ready (rs := [5]) (by kernel_rfl) (by simp) ?_
  refine AllReadyH.cons (o := ⟨some 52, _, _, _, _, _⟩) rfl (fun K hK => ?_) AllReadyH.nil
  go_simp
  go_at_call 24
  go_loud (with_reducible refine (z3 _ hS2.1).mono ?_)
  rintro e wc5 ⟨rfl, hbn⟩
  have hS3 : (fun w' : World => Below w0.heap.size w0 w' ∧ w'.heap[w.heap.size]? = some (.cells C 30 (0, 0))) wc5 := ⟨bel_via hS2.1 hbn, blkB2 hbn hS2.2⟩
  refine hK.out _ _ hS3 (fun _ => ?_)
  clear hK K hbn
  try simp only [Act.put, List.setIfInBounds_toArray, List.set_cons_succ, List.set_cons_zero]
  refine wpAnyH_ready (rs := [7]) (by kernel_rfl) (by simp) ?_
  refine AllReadyH.cons (o := ⟨some 54, _, _, _, _, _⟩) rfl (fun K hK => ?_) AllReadyH.nil
  go_simp
  go_at_call 25
  go_loud (with_reducible refine (z4 _ hS3.1).mono ?_)
  rintro e wc7 ⟨rfl, hbn⟩
  have hS4 : (fun w' : World => Below w0.heap.size w0 w' ∧ w'.heap[w.heap.size]? = some (.cells C 30 (0, 0))) wc7 := ⟨bel_via hS3.1 hbn, blkB2 hbn hS3.2⟩
  refine hK.out _ _ hS4 (fun _ => ?_)
  clear hK K hbn
  try simp only [Act.put, List.setIfInBounds_toArray, List.set_cons_succ, List.set_cons_zero]
  refine wpAnyH_ready (rs := [9]) (by kernel_rfl) (by simp) ?_
  refine AllReadyH.cons (o := ⟨some 56, _, _, _, _, _⟩) rfl (fun K hK => ?_) AllReadyH.nil
  go_simp
  go_at_call 26
  go_loud (with_reducible refine (z5 _ hS4.1).mono ?_)
  rintro e wc9 ⟨rfl, hbn⟩
  have hS5 : (fun w' : World => Below w0.heap.size w0 w' ∧ w'.heap[w.heap.size]? = some (.cells C 30 (0, 0))) wc9 := ⟨bel_via hS4.1 hbn, blkB2 hbn hS4.2⟩
  refine hK.out _ _ hS5 (fun _ => ?_)
  clear hK K hbn
  try simp only [Act.put, List.setIfInBounds_toArray, List.set_cons_succ, List.set_cons_zero]
  clear z1 z2 z3 z4 z5 hS0 hS1 hS2 hS3 hS4
  refine wpAnyH_ready (rs := [10]) (by kernel_rfl) (by simp) ?_
  refine AllReadyH.cons (o := ⟨some 57, _, _, _, _, _⟩) rfl (fun K hK => ?_) AllReadyH.nil
  go_simp
  have hown5 := own_five wc9 a1 a2 a3 a4 a5
  have hS6 : (fun w' : World => Below w0.heap.size w0 w' ∧ w'.heap[w.heap.size]? = some (.cells C 30 (0, 0))) (wc9.alloc (.cells #[.int .i64 a1, .int .i64 a2, .int .i64 a3, .int .i64 a4, .int .i64 a5] 32)) := ⟨Below.al hS5.1 _, blkB2 (Below.al (Below.refl _ _) _) hS5.2⟩
  refine hK.out _ _ hS6 (fun _ => ?_)
  clear hK K
  refine wpAnyH_take (i := 11) (oi := ⟨some 3, _, _, _, _, _⟩) (v := ?_) rfl (by kernel_rfl) (by kernel_rfl) (by kernel_rfl) (fun _ _ _ h => h) (Or.inl ⟨by rfl, ?_⟩) hS6 ?_
  rotate_left 1
  · intro W hW
    go_simp
    with_reducible rfl
  refine wpAnyH_done (by kernel_rfl) ?_ _
  try simp only [Act.put, List.setIfInBounds_toArray, List.set_cons_succ, List.set_cons_zero]
  obtain ⟨hb5, hB5⟩ := hS6
  have hGw : w0.heap.size ≤ wc9.heap.size := hS5.1.size
  obtain ⟨w5, hw5⟩ : ∃ x, x = wc9.alloc (.cells #[.int .i64 a1, .int .i64 a2, .int .i64 a3, .int .i64 a4, .int .i64 a5] 32) := ⟨_, rfl⟩
  rw [← hw5] at hown5 hb5 hB5 ⊢
  have hGs : wc9.heap.size ≤ w5.heap.size := by rw [hw5]; exact (Below.al (Below.refl wc9.heap.size wc9) _).size
  obtain ⟨G, hG⟩ : ∃ G, G = wc9.heap.size := ⟨_, rfl⟩
  rw [← hG] at hown5 hGw hGs ⊢
  clear hw5 hG hS5 hB5
  have hBw0 := hBlk
  clear hBlk c0 c1 c2 c3 c4 d0 d1 d2 d3 d4 d5 d6 e0 e1 e2 e3 e4 e5 e6
  go_wp2_with fail
  go_loopw [3, 4] (fun v3 v4 wr => ∃ i : Nat, v4 = .int .i64 i ∧ i ≤ c.nn ∧ Hid (wr.ownsRow G 32 1 v3 (5 + i) (rowD c [a1, a2, a3, a4, a5] i 0)) ∧ Below w0.heap.size w0 wr ∧ G ≤ wr.heap.size) (fun v3 v4 _ => c.nn - (intOf v4).toNat)
  case atStart => exact ⟨0, rfl, by omega, Lib.hid (by rw [rowD_zero]; exact hown5), hb5, hGs⟩
  case round =>
    obtain ⟨i, rfl, hi, HO, bw, hGr⟩ := hrel
    clear hb5 hGs hown5
    have m5 := keepc bw c5
    have hBw := blkB2 bw hBw0
    by_cases hlt : i < c.nn
    · have hml : i < c.ns.length := by rw [HLN.out]; exact hlt
      obtain ⟨x, hx⟩ : ∃ x, c.ns[i]? = some x := ⟨_, List.getElem?_eq_getElem hml⟩
      have zx := fun W h => zn i x hx W h
      have hlist : rowD c [a1, a2, a3, a4, a5] i 0 ++ iv (natChk c x (c.ns.take i)) = rowD c [a1, a2, a3, a4, a5] (i + 1) 0 := rowD_nat c _ hx
      have HLIST := Lib.hid hlist
      generalize natChk c x (c.ns.take i) = r at *
      have hlti : (i : Int) < (c.nn : Int) := by omega
      have hdn : decide (i < c.nn) = true := by simp [hlt]
      clear zn hx hlist
      go_wp2_with (first | (refine wpList_load_row rfl 30 (.tmp 1) rfl w.heap.size rfl 30 C (0, 0) _ hBw Tryz.underlying30 rfl iC.out ?_) | (go_at_call 27; go_loud (with_reducible refine (zx _ bw).mono ?_); rintro e wn ⟨rfl, hbn⟩; refine Hid.out ?_))
      have hownA := own_below (own_below HO.out hbn) (Below.al (Below.refl wn.heap.size wn) (.cells #[.int .i64 r] 32))
      have hz : Below w0.heap.size w0 (wn.alloc (.cells #[.int .i64 r] 32)) := bel_via bw (bel_via hbn (Below.al (Below.refl _ _) _))
      have hbsA : G ≤ (wn.alloc (.cells #[.int .i64 r] 32)).heap.size := Nat.le_trans (Nat.le_trans hGr hbn.size) (Below.al (Below.refl wn.heap.size wn) _).size
      have h1 := Lib.hid (one_news wn r 32)
      have hb91 : (5 + i + 1) * 8 ≤ 140737488355328 := by omega
      have h963 : 5 + i + 1 ≤ maxLen := by unfold maxLen; omega
      refine Lib.hid ?_
      go_wp2_with (at_builtin; go_loud (refine wpList_append_own _ rfl _ _ 72 rfl G 32 iu (.int .i64 0) 1 8 Tryz.underlying72 hiu hu0 hu1 hu2 rfl (by decide) _ _ _ rfl hownA ⟨wn.heap.size, 0, none⟩ 1 1 (iv r) rfl rfl h1.out (fun u hu => by simp [iv] at hu; subst hu; rfl) h963 hb91 hbsA ?_))
      intro v10 w10 hown10 hg10 _
      have hzz : Below w0.heap.size w0 w10 := hz.grown hg10 (by omega) (fun q hq => Nat.le_trans hGw (own_gt' hownA q hq))
      have hgs : G ≤ w10.heap.size := Nat.le_trans hbsA hg10.size
      rw [HLIST.out] at hown10
      have HO2 := Lib.hid hown10
      clear hownA hz hbsA h1 hb91 h963 hown10 hg10 hbn
      go_wp2_with fail
      refine ⟨?_, by simp [intOf]; omega⟩
      first | exact ⟨i + 1, by simp, by omega, HO2⟩ | exact ⟨i + 1, by simp, by omega, HO2, hzz, hgs⟩ | ((repeat apply Exists.intro); exact ⟨⟨i + 1, by simp, by omega, HO2, hzz, hgs⟩, rfl⟩)
    · obtain rfl : i = c.nn := by omega
      have hd0 : decide (c.nn < c.nn) = false := by simp
      have hdi : decide ((c.nn : Int) < (c.nn : Int)) = false := by simp
      have hown := HO.out
      have HOW := Lib.hid hown
      clear HO hown zn hlt
      obtain ⟨w6, hw6⟩ : ∃ x, x = wr := ⟨_, rfl⟩
      subst hw6
      go_wp2_with fail
      go_loopw [3, 5] (fun v3 v5 wr => ∃ i : Nat, v5 = .int .i64 i ∧ i ≤ c.un ∧ Hid (wr.ownsRow G 32 1 v3 (5 + c.nn + i) (rowD c [a1, a2, a3, a4, a5] c.nn i)) ∧ Below w0.heap.size w0 wr ∧ G ≤ wr.heap.size) (fun v3 v5 _ => c.un - (intOf v5).toNat)
      case atStart => exact ⟨0, rfl, by omega, Lib.hid HOW.out, bw, hGr⟩
      case round =>
        clear bw hGr HOW m5 hBw
        obtain ⟨i, rfl, hi, HO, bw, hGr⟩ := hrel
        have m6 := keepc bw c6
        have hBw := blkB2 bw hBw0
        by_cases hlt : i < c.un
        · have hml : i < c.us.length := by rw [HLU.out]; exact hlt
          obtain ⟨x, hx⟩ : ∃ x, c.us[i]? = some x := ⟨_, List.getElem?_eq_getElem hml⟩
          obtain ⟨b, off, hA, _, hrow⟩ := HSU.out.row (by omega)
          have zx := fun W h => zu x W h
          have hlist : rowD c [a1, a2, a3, a4, a5] c.nn i ++ iv (rulD c x) = rowD c [a1, a2, a3, a4, a5] c.nn (i + 1) := rowD_rul c _ c.nn hx
          have HLIST := Lib.hid hlist
          generalize rulD c x = r at *
          have hcell := fun j v hv => hrow i x hx j v hv
          obtain ⟨inz, out, src, dst, svc, act, lim, proxy⟩ := x
          have t0 : w0.cell? ⟨b, off + i * 8, none⟩ = some (.string inz) := hcell 0 _ rfl
          have t1 := hcell 1 _ rfl
          have t2 := hcell 2 _ rfl
          have t3 := hcell 3 _ rfl
          have t4 := hcell 4 _ rfl
          have t5 := hcell 5 _ rfl
          have t6 := hcell 6 _ rfl
          have t7 := hcell 7 _ rfl
          simp only [urc] at zx
          have c6b := c6
          rw [hA] at m6 c6b
          have hlti : (i : Int) < (c.un : Int) := by omega
          have hdn : decide (i < c.un) = true := by simp [hlt]
          clear zu hx hlist hcell hrow
          go_upto_region 11 with fail
          refine wp_region_held (S := (fun w' : World => Below w0.heap.size w0 w' ∧ w'.heap[w.heap.size]? = some (.cells C 30 (0, 0)))) (by kernel_rfl) ?_
          change wpAnyH _ _ _ _ _ _ _ _ (World.drew _)
          have hS0 : (fun w' : World => Below w0.heap.size w0 w' ∧ w'.heap[w.heap.size]? = some (.cells C 30 (0, 0))) wr.drew := ⟨Below.dr bw, hBw⟩
          have HO1 := Lib.hid (own_below HO.out (Below.dr (Below.refl _ wr)))
          have hGd : G ≤ wr.drew.heap.size := hGr
          generalize wr.drew = wd at hS0 HO1 hGd ⊢
          refine wpAnyH_take (i := 0) (oi := ⟨some 78, _, _, _, _, _⟩) (v := ?_) rfl (by kernel_rfl) (by kernel_rfl) (by kernel_rfl) (fun _ _ _ h => h) (Or.inl ⟨by rfl, ?_⟩) hS0 ?_
          rotate_left 1
          · intro W hW
            go_simp
            with_reducible rfl
          refine wpAnyH_take (i := 1) (oi := ⟨some 79, _, _, _, _, _⟩) (v := .agg C) rfl (by kernel_rfl) (by kernel_rfl) (by kernel_rfl) (fun _ _ _ h => h) (Or.inl ⟨by rfl, fun W hW => exec_row 30 (.tmp 1) rfl w.heap.size rfl 30 C (0, 0) _ hW.2 Tryz.underlying30 rfl iC.out⟩) hS0 ?_
          refine wpAnyH_take (i := 2) (oi := ⟨some 80, _, _, _, _, _⟩) (v := ?_) rfl (by kernel_rfl) (by kernel_rfl) (by kernel_rfl) (fun _ _ _ h => h) (Or.inl ⟨by rfl, ?_⟩) hS0 ?_
          rotate_left 1
          · intro W hW
            go_simp
            with_reducible rfl
          refine wpAnyH_take (i := 3) (oi := ⟨some 81, _, _, _, _, _⟩) (v := ?_) rfl (by kernel_rfl) (by kernel_rfl) (by kernel_rfl) (fun _ _ _ h => h) (Or.inl ⟨by rfl, ?_⟩) hS0 ?_
          rotate_left 1
          · intro W hW
            have qc6b := keepc hW.1 c6b
            go_simp
            with_reducible rfl
          refine wpAnyH_take (i := 4) (oi := ⟨some 82, _, _, _, _, _⟩) (v := ?_) rfl (by kernel_rfl) (by kernel_rfl) (by kernel_rfl) (fun _ _ _ h => h) (Or.inl ⟨by rfl, ?_⟩) hS0 ?_
          rotate_left 1
          · intro W hW
            go_simp
            with_reducible rfl
          refine wpAnyH_take (i := 5) (oi := ⟨some 83, _, _, _, _, _⟩) (v := ?_) rfl (by kernel_rfl) (by kernel_rfl) (by kernel_rfl) (fun _ _ _ h => h) (Or.inl ⟨by rfl, ?_⟩) hS0 ?_
          rotate_left 1
          · intro W hW
            go_simp
            with_reducible rfl
          refine wpAnyH_take (i := 6) (oi := ⟨some 84, _, _, _, _, _⟩) (v := ?_) rfl (by kernel_rfl) (by kernel_rfl) (by kernel_rfl) (fun _ _ _ h => h) (Or.inl ⟨by rfl, ?_⟩) hS0 ?_
          rotate_left 1
          · intro W hW
            have qt0 := keepc hW.1 t0
            have qt1 := keepc hW.1 t1
            have qt2 := keepc hW.1 t2
            have qt3 := keepc hW.1 t3
            have qt4 := keepc hW.1 t4
            have qt5 := keepc hW.1 t5
            have qt6 := keepc hW.1 t6
            have qt7 := keepc hW.1 t7
            go_simp
            with_reducible rfl
          try simp only [Act.put, List.setIfInBounds_toArray, List.set_cons_succ, List.set_cons_zero]
          refine wpAnyH_ready (rs := [7]) (by kernel_rfl) (by simp) ?_
          refine AllReadyH.cons (o := ⟨some 85, _, _, _, _, _⟩) rfl (fun K hK => ?_) AllReadyH.nil
          go_simp
          go_at_call 28
          go_loud (with_reducible refine (zx _ hS0.1).mono ?_)
          rintro e wc7 ⟨rfl, hbn⟩
          have hS1 : (fun w' : World => Below w0.heap.size w0 w' ∧ w'.heap[w.heap.size]? = some (.cells C 30 (0, 0))) wc7 := ⟨bel_via hS0.1 hbn, blkB2 hbn hS0.2⟩
          have HO2 := Lib.hid (own_below HO1.out hbn)
          have hGn := Nat.le_trans hGd hbn.size
          refine hK.out _ _ hS1 (fun _ => ?_)
          clear hK K HO1 hGd
          try simp only [Act.put, List.setIfInBounds_toArray, List.set_cons_succ, List.set_cons_zero]
          refine wpAnyH_ready (rs := [8]) (by kernel_rfl) (by simp) ?_
          refine AllReadyH.cons (o := ⟨some 86, _, _, _, _, _⟩) rfl (fun K hK => ?_) AllReadyH.nil
          go_simp
          have hS2 : (fun w' : World => Below w0.heap.size w0 w' ∧ w'.heap[w.heap.size]? = some (.cells C 30 (0, 0))) (wc7.alloc (.cells #[.int .i64 r] 32)) := ⟨Below.al hS1.1 _, blkB2 (Below.al (Below.refl _ _) _) hS1.2⟩
          have hownA := own_below HO2.out (Below.al (Below.refl wc7.heap.size wc7) (.cells #[.int .i64 r] 32))
          have hbsA : G ≤ (wc7.alloc (.cells #[.int .i64 r] 32)).heap.size := Nat.le_trans hGn (Below.al (Below.refl wc7.heap.size wc7) _).size
          have h1 := Lib.hid (one_news wc7 r 32)
          have hb91 : (5 + c.nn + i + 1) * 8 ≤ 140737488355328 := by omega
          have h963 : 5 + c.nn + i + 1 ≤ maxLen := by unfold maxLen; omega
          refine hK.out _ _ hS2 (fun _ => ?_)
          clear hK K
          try simp only [Act.put, List.setIfInBounds_toArray, List.set_cons_succ, List.set_cons_zero]
          refine wpAnyH_ready (rs := [9]) (by kernel_rfl) (by simp) ?_
          refine AllReadyH.cons (o := ⟨some 87, _, _, _, _, _⟩) rfl (fun K hK => ?_) AllReadyH.nil
          rw [if_pos (by rfl)]
          refine wp_append_own _ (.tmp 78) (.tmp 86) 72 rfl G 32 iu (.int .i64 0) 1 8 Tryz.underlying72 hiu hu0 hu1 hu2 rfl (by decide) _ _ _ rfl hownA ⟨wc7.heap.size, 0, none⟩ 1 1 (iv r) rfl rfl h1.out (fun u hu => by simp [iv] at hu; subst hu; rfl) h963 hb91 hbsA ?_
          intro v10 w10 hown10 hg10 _
          have hzz : Below w0.heap.size w0 w10 := hS2.1.grown hg10 (Nat.le_trans hGw hbsA) (fun q hq => Nat.le_trans hGw (own_gt' hownA q hq))
          have hgs : G ≤ w10.heap.size := Nat.le_trans hbsA hg10.size
          rw [HLIST.out] at hown10
          have HO3 := Lib.hid hown10
          have hS3 : (fun w' : World => Below w0.heap.size w0 w' ∧ w'.heap[w.heap.size]? = some (.cells C 30 (0, 0))) w10 := ⟨hzz, blkB2 hzz hBw0⟩
          clear hownA hbsA h1 hb91 h963 hown10 hg10 hbn hS2
          refine hK.out _ _ hS3 (fun _ => ?_)
          clear hK K
          try simp only [Act.put, List.setIfInBounds_toArray, List.set_cons_succ, List.set_cons_zero]
          refine wpAnyH_take (i := 10) (oi := ⟨some 3, _, _, _, _, _⟩) (v := ?_) rfl (by kernel_rfl) (by kernel_rfl) (by kernel_rfl) (fun _ _ _ h => h) (Or.inl ⟨by rfl, ?_⟩) hS3 ?_
          rotate_left 1
          · intro W hW
            go_simp
            with_reducible rfl
          refine wpAnyH_done (by kernel_rfl) ?_ _
          try simp only [Act.put, List.setIfInBounds_toArray, List.set_cons_succ, List.set_cons_zero]
          go_wp2_with fail
          refine ⟨?_, by simp [intOf]; omega⟩
          first | exact ⟨i + 1, by simp, by omega, HO3⟩ | exact ⟨i + 1, by simp, by omega, HO3, hzz, hgs⟩ | ((repeat apply Exists.intro); exact ⟨⟨i + 1, by simp, by omega, HO3, hzz, hgs⟩, rfl⟩)
        · obtain rfl : i = c.un := by omega
          have hd0 : decide (c.un < c.un) = false := by simp
          have hdi : decide ((c.un : Int) < (c.un : Int)) = false := by simp
          have hown := HO.out
          rw [rowD_all c _ HLN.out HLU.out] at hown
          have hlen : ([a1, a2, a3, a4, a5] ++ chkL (natChk c) [] c.ns ++ chkL (fun u _ => rulD c u) [] c.us).length = 5 + c.nn + c.un := by
            simp [chkL_len]; rw [HLN.out, HLU.out]; omega
          obtain ⟨A9, cap9, rfl, hS9, _⟩ := sl_of_own (k := 1) (enc := iv) (fun _ => rfl) hown hlen
          obtain ⟨L, hL⟩ : ∃ L, L = [a1, a2, a3, a4, a5] ++ chkL (natChk c) [] c.ns ++ chkL (fun u _ => rulD c u) [] c.us := ⟨_, rfl⟩
          rw [← hL] at hS9 hlen
          have HLL := Lib.hid hL
          have HLEN := Lib.hid hlen
          obtain ⟨N, hN⟩ : ∃ N, N = 5 + c.nn + c.un := ⟨_, rfl⟩
          rw [← hN] at hS9 HLEN ⊢
          have hN1 : N ≤ 4096 := by omega
          clear HO hown zu hlt hL hN hlen
          have m7 := keepc bw c7
          obtain ⟨w7, hw7⟩ : ∃ x, x = wr := ⟨_, rfl⟩
          subst hw7
          go_wp2_with fail
          go_loopw [6] (fun v6 wr => ∃ i : Nat, v6 = .int .i64 i ∧ i ≤ N ∧ Aside (∀ (j : Nat) (y : Int), j < i → L[j]? = some y → y = 0) ∧ Below w7.heap.size w7 wr) (fun v6 _ => N - (intOf v6).toNat)
          case atStart => exact ⟨0, rfl, by omega, fun j x hj => absurd hj (Nat.not_lt_zero _), Below.refl _ _⟩
          case round =>
            obtain ⟨i, rfl, hi, N2, bk⟩ := hrel
            by_cases hlt : i < N
            · have hml : i < L.length := by rw [HLEN.out]; exact hlt
              obtain ⟨y, hy⟩ : ∃ y, L[i]? = some y := ⟨_, List.getElem?_eq_getElem hml⟩
              obtain ⟨b, off, hA, _, hrow⟩ := hS9.row (by omega)
              have s0 : wr.cell? ⟨b, off + i, none⟩ = some (.int .i64 y) := by have := keepc bk (hrow i y hy 0 _ rfl); simpa using this
              have s1 : wr.cell? ⟨b, off + i * 1, none⟩ = some (.int .i64 y) := by simpa using s0
              subst hA
              have HY := Lib.hid hy
              clear hrow hy
              have hlti : (i : Int) < (N : Int) := by omega
              have hdn : decide (i < N) = true := by simp [hlt]
              by_cases hy0 : y = 0
              · subst hy0
                go_wp2_with fail
                refine ⟨?_, by simp [intOf]; omega⟩
                have hn1 : Aside (∀ (j : Nat) (y : Int), j < i + 1 → L[j]? = some y → y = 0) := fun j u hj hu => by
                  by_cases e : j = i
                  · subst e; rw [HY.out] at hu; cases hu; rfl
                  · exact N2.out j u (by omega) hu
                first | exact ⟨i + 1, by simp, by omega, hn1, bk⟩ | ((repeat apply Exists.intro); exact ⟨⟨i + 1, by simp, by omega, hn1, bk⟩, rfl⟩)
              · have hyb : (y != 0) = true := by simp [hy0]
                have HR : Hid (Q = y) := Lib.hid (by rw [HQ.out, ← HLL.out, nzF_hit L i y HY.out hy0 N2.out, if_neg hy0])
                clear hy0
                go_wp2_with fail
                go_ret
                exact ⟨ret_int (by rw [HR.out]), bel_via b0 (bel_via bw bk)⟩
            · obtain rfl : i = N := by omega
              have hd0 : decide (i < i) = false := by simp
              have hdi : decide ((i : Int) < (i : Int)) = false := by simp
              have HR : Hid (Q = defP c) := Lib.hid (by rw [HQ.out, ← HLL.out, nzF_all L (fun j y hj => N2.out j y (by have := getE hj; rw [HLEN.out] at this; exact this) hj), if_pos rfl])
              have k7 := keepc bk m7
              have hdd := defB_iff c.dflt
              unfold defP at HR
              generalize defB c.dflt = D at *
              generalize c.dflt = d at *
              clear hS9 N2 m7 c7
              by_cases h1 : d = 1
              · obtain rfl : D = true := hdd.2 (.inl h1)
                subst h1
                clear hdd
                go_wp2_with fail
                go_ret
                exact ⟨ret_int (by rw [HR.out]; rfl), bel_via b0 (bel_via bw bk)⟩
              · have h1b : (d != 1) = true := by simp [h1]
                by_cases h2 : d = 2
                · obtain rfl : D = true := hdd.2 (.inr h2)
                  subst h2
                  clear hdd
                  go_wp2_with fail
                  go_ret
                  exact ⟨ret_int (by rw [HR.out]; rfl), bel_via b0 (bel_via bw bk)⟩
                · have h2b : (d != 2) = true := by simp [h2]
                  obtain rfl : D = false := by rw [Bool.eq_false_iff]; intro h; rcases hdd.1 h with h | h; exact h1 h; exact h2 h
                  clear hdd h1 h2
                  go_wp2_with fail
                  go_ret
                  exact ⟨ret_int (by rw [HR.out]; rfl), bel_via b0 (bel_via bw bk)⟩
end Go.Proofs.YtmnnjkdmnfadhaaGreatDoor

namespace Go.Proofs.YtmnnjkdmnfadhaaGreatDoor
open Go.Shelf Go.RowKit Go.Lib Go.Sort
set_option linter.unusedVariables false
set_option linter.unusedSimpArgs false

theorem lt_of_get {α : Type} {l : List α} {n j : Nat} {x : α} (hl : l.length = n) (h : l[j]? = some x) : j ≤ n := by have := getE h; omega
theorem pchk_any (c : CF) {w : World} (hc : c.Ok w) (hg : c.Good) (hG : Glob w) :
    Calls Tryz.prog 6 #[.agg (cfc c)] w fun e w' => e = .returned (.int .i64 (checkD c)) ∧ Below w.heap.size w w' := by
  rw [← checks_one c]
  have hk := fun (W : World) (h : Below w.heap.size w W) => hc.keep h
  refine check_any c (rC c) ?_ ?_ ?_ ?_ ?_ ?_ ?_ ?_ ?_
  · exact fun W hW => ccounts_any c
  · intro W hW
    exact czon_any c zonChk (hk W hW) hg.cap hg.zn (fun W' j x hj hW' => zon1_any x c.zA j c.zc (c.zs.take j) ((((hk W hW).keep hW').z).front (lt_of_get hc.z.len hj)) (fun z hz => ((hk W hW).keep hW').zi z (List.mem_of_mem_take hz)) (((hk W hW).keep hW').zi x (List.mem_of_getElem? hj)) (hg.zc x (List.mem_of_getElem? hj)))
  · intro W hW
    exact cobj_any c objChk (hk W hW) hg.cap hg.on (fun W' j x hj hW' => obj1_any x c.oA j c.oc (c.os.take j) ((hG.on hW).on hW') (((hk W hW).keep hW').oi x (List.mem_of_getElem? hj)) (hg.oc x (List.mem_of_getElem? hj)) (hg.ow x (List.mem_of_getElem? hj)))
  · intro W hW
    exact csrv_any c srvChk (hk W hW) hg.cap hg.sn (fun W' j x hj hW' => srv1_any x c.sA j c.sc (c.ss.take j))
  · intro W hW
    exact clim_any c limChk (hk W hW) hg.cap hg.ln (fun W' j x hj hW' => lim1_any x c.lA j c.lc (c.ls.take j))
  · intro W hW
    exact crte_any c (rteChk c) (hk W hW) hg.cap (fun W' j x hj hW' hB => rte1_any c _ x c.tA j c.tc (c.ts.take j) hB ((hk W hW).keep hW').z ((hk W hW).keep hW').zi ((((hk W hW).keep hW').t).front (lt_of_get hc.t.len hj)) (hg.tw x (List.mem_of_getElem? hj)).1 (hg.tw x (List.mem_of_getElem? hj)).2)
  · intro W hW
    exact cnat_any c (natChk c) (hk W hW) hg.cap (fun W' j x hj hW' hB => nat1_any c _ x c.nA j c.nc (c.ns.take j) ((hk W hW).keep hW') hB (hg.nw x (List.mem_of_getElem? hj)) ((((hk W hW).keep hW').n).front (lt_of_get hc.n.len hj)))
  · intro W hW
    exact crul_any c (rulChk c) (hk W hW) hg.cap (fun W' j x hj hW' hB => rul1_any c _ x c.uA j c.uc (c.us.take j) ((hk W hW).keep hW') hB)
  · exact fun W hW => cdef_any c
set_option maxHeartbeats 4000000 in
set_option maxRecDepth 100000 in
theorem rchk_many (c : CF) {w : World} (hm : 8 < c.zn ∨ 32 < c.on ∨ 32 < c.sn ∨ 16 < c.ln ∨ 16 < c.tn ∨ 16 < c.nn ∨ 48 < c.un) :
    Calls Tryz.prog 7 #[.agg (cfc c)] w fun e w' => e = .returned (.int .i64 (checkD c)) ∧ Below w.heap.size w w' := by
  have hr : checkD c = 64 := by
    unfold checkD
    have : countsP c = 64 := by unfold countsP; rw [if_pos hm]
    rw [this]; rfl
  rw [hr]
  clear hr
  obtain ⟨zA, zn, zc, zs, oA, on, oc, os, sA, sn, sc, ss, lA, ln, lc, ls, tA, tn, tc, ts, nA, nn, nc, ns, uA, un, uc, us, df⟩ := c
  simp only [cfc] at *
  by_cases h0 : 8 < zn
  · have d0 : ((8 : Int) < (zn : Int)) := by omega
    have e0 : decide (8 < zn) = true := by simp; omega
    clear hm
    go_enter Tryz.func7, Tryz.ntmps7
    go_wp2
    go_ret
    exact ⟨rfl, Below.al (Below.refl _ _) _⟩
  · have d0 : ¬ ((8 : Int) < (zn : Int)) := by omega
    have e0 : decide (8 < zn) = false := by simp; omega
    by_cases h1 : 32 < on
    · have d1 : ((32 : Int) < (on : Int)) := by omega
      have e1 : decide (32 < on) = true := by simp; omega
      clear hm
      go_enter Tryz.func7, Tryz.ntmps7
      go_wp2
      go_ret
      exact ⟨rfl, Below.al (Below.refl _ _) _⟩
    · have d1 : ¬ ((32 : Int) < (on : Int)) := by omega
      have e1 : decide (32 < on) = false := by simp; omega
      by_cases h2 : 32 < sn
      · have d2 : ((32 : Int) < (sn : Int)) := by omega
        have e2 : decide (32 < sn) = true := by simp; omega
        clear hm
        go_enter Tryz.func7, Tryz.ntmps7
        go_wp2
        go_ret
        exact ⟨rfl, Below.al (Below.refl _ _) _⟩
      · have d2 : ¬ ((32 : Int) < (sn : Int)) := by omega
        have e2 : decide (32 < sn) = false := by simp; omega
        by_cases h3 : 16 < ln
        · have d3 : ((16 : Int) < (ln : Int)) := by omega
          have e3 : decide (16 < ln) = true := by simp; omega
          clear hm
          go_enter Tryz.func7, Tryz.ntmps7
          go_wp2
          go_ret
          exact ⟨rfl, Below.al (Below.refl _ _) _⟩
        · have d3 : ¬ ((16 : Int) < (ln : Int)) := by omega
          have e3 : decide (16 < ln) = false := by simp; omega
          by_cases h4 : 16 < tn
          · have d4 : ((16 : Int) < (tn : Int)) := by omega
            have e4 : decide (16 < tn) = true := by simp; omega
            clear hm
            go_enter Tryz.func7, Tryz.ntmps7
            go_wp2
            go_ret
            exact ⟨rfl, Below.al (Below.refl _ _) _⟩
          · have d4 : ¬ ((16 : Int) < (tn : Int)) := by omega
            have e4 : decide (16 < tn) = false := by simp; omega
            by_cases h5 : 16 < nn
            · have d5 : ((16 : Int) < (nn : Int)) := by omega
              have e5 : decide (16 < nn) = true := by simp; omega
              clear hm
              go_enter Tryz.func7, Tryz.ntmps7
              go_wp2
              go_ret
              exact ⟨rfl, Below.al (Below.refl _ _) _⟩
            · have d5 : ¬ ((16 : Int) < (nn : Int)) := by omega
              have e5 : decide (16 < nn) = false := by simp; omega
              have h6 : 48 < un := by omega
              have d6 : ((48 : Int) < (un : Int)) := by omega
              have e6 : decide (48 < un) = true := by simp; omega
              clear hm
              go_enter Tryz.func7, Tryz.ntmps7
              go_wp2
              go_ret
              exact ⟨rfl, Below.al (Below.refl _ _) _⟩
theorem rchk_any (c : CF) {w : World} (hc : c.Ok w) (hg : c.Good) :
    Calls Tryz.prog 7 #[.agg (cfc c)] w fun e w' => e = .returned (.int .i64 (checkD c)) ∧ Below w.heap.size w w' := by
  by_cases hm : 8 < c.zn ∨ 32 < c.on ∨ 32 < c.sn ∨ 16 < c.ln ∨ 16 < c.tn ∨ 16 < c.nn ∨ 48 < c.un
  · exact rchk_many c hm
  · exact rchk_core c hc hg hm
end Go.Proofs.YtmnnjkdmnfadhaaGreatDoor
