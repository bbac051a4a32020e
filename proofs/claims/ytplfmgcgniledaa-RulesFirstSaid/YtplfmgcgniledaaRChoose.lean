/- What is chosen: the program's; by-name template (gen_rchoose.py). -/
import Derived.Test.YtplfmgcgniledaaRRMatch
import Derived.Test.YtplfmgcgniledaaROwn
import Derived.Deep.RegionHeld3
import Derived.OrdersHeld
import Derived.Laws.Rows
namespace Go.Proofs.Ytplfmgcgniledaa
open Go.Shelf Go.RowKit Go.Lib Go.Sort
set_option linter.unusedVariables false
set_option linter.unusedSimpArgs false

theorem step_store_row {P : Program} {ops : Array Oper} {op : Oper} {a : Act} {w : World} {K : Act → World → Prop} {Q : Exit → Act → World → Prop} {E : Prop} (hgd : op.guard = none) (ty : TypeId) (x y : Operand) (ho : op.op = .store ty x y)
    (g : Nat) (cells : Array Value) (hx : a.eval x = .pointer (some ⟨g, 0, none⟩)) (hy : a.eval y = .agg cells)
    (t : TypeId) (old : Array Value) (hg : w.heap[g]? = some (.cells old t (0, 0))) (hi : (P.info? ty).map (·.size) = some cells.size)
    (hold : old.size = cells.size) (h1 : cells.all (·.oneCell') = true)
    (h : K (a.put op.dst undef) (w.setRow g cells)) : if Region.wanted op (yielded ops a.tmps) = true then Oper.wp P op a w K Q else E := by
  have hw : Region.wanted op (yielded ops a.tmps) = true := by simp [Region.wanted, hgd]
  rw [if_pos hw]
  unfold Oper.wp
  simp only [execOp, ho, hx, hy, Instr.storeAt, Instr.sureAddr, Sem.run_bind, Sem.run_pure, Result.andThen_ok, run_storeVar_row w g t ty old cells hg hi hold h1]
  exact h
theorem Below.setRow {N : Nat} {w w1 : World} (h : Below N w w1) {B : Nat} (hB : N ≤ B) (C : Array Value) : Below N w (w1.setRow B C) :=
  ⟨h.os, h.tape, h.output, by simpa [World.setRow] using h.size, fun k hk => by
    have : B ≠ k := by omega
    simp only [World.setRow, Array.getElem?_modify]
    rw [if_neg this]; exact h.block k hk⟩
theorem blk_setRow {w : World} {b : Nat} {cs : Array Value} {t : TypeId} (h : w.heap[b]? = some (.cells cs t (0, 0))) (C : Array Value) : (w.setRow b C).heap[b]? = some (.cells C t (0, 0)) := by
  unfold World.setRow
  simp [Array.getElem?_modify, h]
theorem cell_setRow {w : World} {B : Nat} {C : Array Value} {p : Addr} (h : p.block ≠ B) : (w.setRow B C).cell? p = w.cell? p :=
  World.cell?_of_block (w := w) (by simp only [World.setRow, Array.getElem?_modify]; rw [if_neg (fun e => h e.symm)])

/-- A header's block. -/
structure HdB (W : World) (B : Nat) (hi ho : Int) (k : KR) : Prop where
  i : W.cell? ⟨B, 0, none⟩ = some (.int .i64 hi)
  o : W.cell? ⟨B, 1, none⟩ = some (.int .i64 ho)
  k : KeB W B 2 k
theorem HdB.keep {W W' : World} {B : Nat} {hi ho : Int} {k : KR} (h : HdB W B hi ho k) (hb : Below W.heap.size W W') : HdB W' B hi ho k := ⟨keepc hb h.i, keepc hb h.o, h.k.keep hb⟩
theorem HdB.made (w : World) (hi ho : Int) (k : KR) : HdB (w.alloc (.cells (Value.int .i64 hi :: .int .i64 ho :: krc k).toArray 57)) w.heap.size hi ho k :=
  ⟨by simp [go_sem], by simp [go_sem], KeB.madeH w hi ho k⟩

def limP (c : CF) (nm : ByteArray) : Int := if nm.toList = [] then -1 else pl (fun l => eqs l.nm nm) c.ls

theorem lim1_any (nm : ByteArray) (B : Nat) (s : LR) {W : World} (hB : W.cell? ⟨B, 0, none⟩ = some (.string nm)) :
    Calls Try.prog 55 #[.agg (lrc s).toArray, .pointer (some ⟨B, 0, none⟩)] W fun e w' => e = .returned (.bool (eqs s.nm nm)) ∧ Below W.heap.size W w' := by
  obtain ⟨sn, p, f, t⟩ := s
  have hB' : (W.alloc (.cells (lrc ⟨sn, p, f, t⟩).toArray 98)).cell? ⟨B, 0, none⟩ = some (.string nm) := keepc (Below.al (Below.refl _ _) _) hB
  simp only [lrc, eqs] at *
  go_enter Try.func55, Try.ntmps55
  go_wp2
  go_ret
  exact ⟨rfl, Below.al (Below.refl _ _) _⟩
theorem eLim1 : ∀ args w, (callFunc 55 args).run Try.prog w = .ok (.enter 55 args) w := enters_of Try.func55 (by kernel_rfl) rfl

set_option maxHeartbeats 1000000 in
theorem lim_any (c : CF) (nm : ByteArray) {w : World} (hc : c.Ok w) :
    Calls Try.prog 40 #[.agg (cfc c), .string nm] w fun e w' => e = .returned (.int .i64 (limP c nm)) ∧ Below w.heap.size w w' := by
  unfold limP
  by_cases ha : nm.toList = []
  · rw [if_pos ha]
    have hab : nm.toList.isEmpty = true := by simp [ha]
    have hab2 : (nm.toList == []) = true := by simp [ha]
    simp only [cfc]
    go_enter Try.func40, Try.ntmps40
    go_wp2
    go_ret
    exact ⟨rfl, by repeat (first | exact Below.refl _ _ | apply Below.dr | apply Below.al)⟩
  · rw [if_neg ha]
    have hab : nm.toList.isEmpty = false := by simpa using ha
    have hb : Below w.heap.size w ((w.alloc (.cells (cfc c) 35)).alloc (.cells #[.string nm] 9)) := Below.al (Below.al (Below.refl _ _) _) _
    have cc := idx_rows Try.li54 Try.isAgg98 Try.sizeOf98 lrc (fun _ => rfl) (fun l => eqs l.nm nm) 55 #[.pointer (some ⟨w.heap.size + 1, 0, none⟩)] eLim1 c.lA c.ln c.lc c.ls ((w.alloc (.cells (cfc c) 35)).alloc (.cells #[.string nm] 9))
      (fun W s hs hW => lim1_any nm (w.heap.size + 1) s (keepc hW (by simp [go_sem, World.cell?_alloc_past]))) (hc.l.keep hb)
    change Calls Try.prog 54 _ _ _ at cc
    generalize pl _ c.ls = r at *
    simp only [cfc] at *
    clear hc ha
    go_enter Try.func40, Try.ntmps40
    go_wp2_with (go_at_call 54; with_reducible refine cc.mono ?_; rintro e w' ⟨rfl, hb'⟩)
    go_ret
    exact ⟨rfl, bel_via hb hb'⟩

set_option maxHeartbeats 1000000 in
theorem choose1_any (c : CF) (hi ho : Int) (k : KR) (B B2 : Nat) (u : UR) {W : World} (hc : c.Ok W) (hB : CfB W B c) (hK : HdB W B2 hi ho k) :
    Calls Try.prog 38 #[.agg (urc u).toArray, .pointer (some ⟨B, 0, none⟩), .pointer (some ⟨B2, 0, none⟩)] W fun e w' => e = .returned (.bool (matchP c u hi ho k)) ∧ Below W.heap.size W w' := by
  have hb : Below W.heap.size W (W.alloc (.cells (urc u).toArray 63)) := Below.al (Below.refl _ _) _
  have cs := match_any c u hi ho k (hc.keep hb)
  obtain ⟨c0, c1, c2, c3, c4, c5, c6, c7⟩ := hB.keep hb
  obtain ⟨i0, o0, k0, k1, k2, k3, k4, k5, k6⟩ := hK.keep hb
  generalize matchP c u hi ho k = R at *
  clear hc hB hK
  obtain ⟨n0, n1, n2, n3, n4, n5, n6, n7⟩ := u
  obtain ⟨kp, ksh, ksl, kdh, kdl, ksp, kdp⟩ := k
  simp only [urc, krc, cfc, Nat.reduceAdd] at *
  go_enter Try.func38, Try.ntmps38
  go_wp2_with (go_at_call 39; with_reducible refine cs.mono ?_; rintro e w1 ⟨rfl, hb'⟩)
  go_ret
  exact ⟨rfl, bel_via hb hb'⟩
theorem eChoose1 : ∀ args w, (callFunc 38 args).run Try.prog w = .ok (.enter 38 args) w := enters_of Try.func38 (by kernel_rfl) rfl

def chooseT (c : CF) (hi ho : Int) (k : KR) : Value := match c.us.find? (fun u => matchP c u hi ho k) with
  | none => .agg #[.int .i64 c.dflt, .int .i64 (-1), .int .i64 (-1), .bool false]
  | some u => .agg #[.int .i64 u.act, .int .i64 (pl (fun u => matchP c u hi ho k) c.us), .int .i64 (limP c u.lim), .bool u.proxy]

theorem heap_set4 {w : World} {B : Nat} {x y z v : Value} {t : TypeId} {fz : Nat × Nat} (h : w.heap[B]? = some (.cells #[x, y, z, v] t fz)) (a b c d : Value) :
    ((((w.setCell ⟨B, 0, none⟩ a).setCell ⟨B, 1, none⟩ b).setCell ⟨B, 2, none⟩ c).setCell ⟨B, 3, none⟩ d).heap[B]? = some (.cells #[a, b, c, d] t fz) := by
  simp [World.setCell, Array.getElem?_modify, h]
theorem cells4 {w : World} {B : Nat} {x y z v : Value} {t : TypeId} (h : w.heap[B]? = some (.cells #[x, y, z, v] t (0, 0))) : w.cell? ⟨B, 0, none⟩ = some x ∧ w.cell? ⟨B, 1, none⟩ = some y ∧ w.cell? ⟨B, 2, none⟩ = some z ∧ w.cell? ⟨B, 3, none⟩ = some v ∧ w.frozen? ⟨B, 0, none⟩ = false ∧ w.frozen? ⟨B, 1, none⟩ = false ∧ w.frozen? ⟨B, 2, none⟩ = false ∧ w.frozen? ⟨B, 3, none⟩ = false := by
  refine ⟨?_, ?_, ?_, ?_, ?_, ?_, ?_, ?_⟩ <;> simp [World.cell?, World.frozen?, h]

set_option maxHeartbeats 8000000 in
set_option maxRecDepth 100000 in
theorem choose_any (c : CF) (hi ho : Int) (k : KR) {w : World} (hc : c.Ok w) :
    Calls Try.prog 18 #[.agg (cfc c), .agg (Value.int .i64 hi :: .int .i64 ho :: krc k).toArray] w fun e w' => e = .returned (chooseT c hi ho k) ∧ Below w.heap.size w w' := by
  obtain ⟨w0, hw0⟩ : ∃ w0, w0 = ((w.alloc (.cells (cfc c) 35)).alloc (.cells (Value.int .i64 hi :: .int .i64 ho :: krc k).toArray 57)).alloc (.cells #[.int .i64 0, .int .i64 0, .int .i64 0, .bool false] 59) := ⟨_, rfl⟩
  have hb : Below w.heap.size w w0 := by rw [hw0]; exact Below.al (Below.al (Below.al (Below.refl _ _) _) _) _
  have hB : CfB w0 w.heap.size c := by rw [hw0]; exact ((CfB.made w c).keep (Below.al (Below.refl _ _) _)).keep (Below.al (Below.refl _ _) _)
  have hK : HdB w0 (w.heap.size + 1) hi ho k := by rw [hw0]; have := (HdB.made (w.alloc (.cells (cfc c) 35)) hi ho k).keep (Below.al (Below.refl _ _) (.cells #[.int .i64 0, .int .i64 0, .int .i64 0, .bool false] 59)); simpa using this
  have hR : ∀ w', Below w0.heap.size w0 w' → w'.heap[w.heap.size + 1 + 1]? = some (.cells #[.int .i64 0, .int .i64 0, .int .i64 0, .bool false] 59 (0, 0)) := fun w' h => by
    rw [h.block _ (by rw [hw0]; simp), hw0]; exact al_new (by simp) _
  have cc := idx_rows Try.li37 Try.isAgg63 Try.sizeOf63 urc (fun _ => rfl) (fun u => matchP c u hi ho k) 38 #[.pointer (some ⟨w.heap.size, 0, none⟩), .pointer (some ⟨w.heap.size + 1, 0, none⟩)] eChoose1 c.uA c.un c.uc c.us w0
    (fun W u hu hW => choose1_any c hi ho k _ _ u ((hc.keep hb).keep hW) (hB.keep hW) (hK.keep hW)) (hc.u.keep hb)
  change Calls Try.prog 37 _ _ _ at cc
  have hS := hc.u.keep hb
  have hl := fun (W : World) (hW : Below w0.heap.size w0 W) (nm : ByteArray) => lim_any c nm ((hc.keep hb).keep hW)
  clear hc
  obtain ⟨V, hV⟩ : ∃ V, V = chooseT c hi ho k := ⟨_, rfl⟩
  rw [← hV]
  unfold chooseT at hV
  rcases pl_cases (fun u => matchP c u hi ho k) c.us with ⟨hm, hf⟩ | ⟨j, u, hj, hp, hs, hf⟩
  · rw [find_miss hf] at hV
    rw [hm] at cc
    have HV := Lib.hid hV
    clear hS hf hm hl hV
    obtain ⟨kp, ksh, ksl, kdh, kdl, ksp, kdp⟩ := k
    simp only [cfc, krc] at *
    go_enter Try.func18, Try.ntmps18
    go_wp2_with (go_at_call 37; rw [← hw0]; with_reducible refine cc.mono ?_; rintro e w1 ⟨rfl, hb'⟩; refine Hid.out ?_)
    obtain ⟨c0, c1, c2, c3, c4, c5, c6, c7⟩ := hB.keep hb'
    have hR1 := hR w1 hb'
    have hb1 := bel_via hb hb'
    obtain ⟨r0, r1, r2, r3, z0, z1, z2, z3⟩ := cells4 hR1
    have hlt2 : w.heap.size + 1 + 1 < w1.heap.size := World.block_lt_of_cell? _ _ r0
    clear hb' hb hB hK hR cc hw0
    refine Lib.hid ?_
    go_wp2
    have hR2 := heap_set4 hR1 (.int .i64 c.dflt) (.int .i64 (-1)) (.int .i64 (-1)) (.bool false)
    have hb2 := below_set (below_set (below_set (below_set hb1 (B := w.heap.size + 1 + 1) (by omega) 0 (.int .i64 c.dflt)) (B := w.heap.size + 1 + 1) (by omega) 1 (.int .i64 (-1))) (B := w.heap.size + 1 + 1) (by omega) 2 (.int .i64 (-1))) (B := w.heap.size + 1 + 1) (by omega) 3 (.bool false)
    generalize (((w1.setCell ⟨w.heap.size + 1 + 1, 0, none⟩ (.int .i64 c.dflt)).setCell ⟨w.heap.size + 1 + 1, 1, none⟩ (.int .i64 (-1))).setCell ⟨w.heap.size + 1 + 1, 2, none⟩ (.int .i64 (-1))).setCell ⟨w.heap.size + 1 + 1, 3, none⟩ (.bool false) = wf at *
    obtain ⟨f0, f1, f2, f3, _⟩ := cells4 hR2
    refine bodyPost_ret (v := .agg #[.int .i64 c.dflt, .int .i64 (-1), .int .i64 (-1), .bool false]) (by simp [results, Try.results18, go_sem, f0, f1, f2, f3]) rfl ⟨by rw [HV.out], hb2⟩
  · rw [find_hit hj hs hf, hp] at hV
    rw [hp] at cc
    have hjn : j < c.un := by have := getE hj; have := hS.len; omega
    obtain ⟨b, off, hA, hlt, hrow⟩ := hS.row (by omega)
    have hbig := hS.big
    have r0 : w0.cell? ⟨b, off + j * 8, none⟩ = some (.string u.inz) := hrow j u hj 0 _ rfl
    have r1 := hrow j u hj 1 _ rfl
    have r2 := hrow j u hj 2 _ rfl
    have r3 := hrow j u hj 3 _ rfl
    have r4 := hrow j u hj 4 _ rfl
    have r5 := hrow j u hj 5 _ rfl
    have r6 := hrow j u hj 6 _ rfl
    have r7 := hrow j u hj 7 _ rfl
    have HV := Lib.hid hV
    clear hrow hS hf hs hp hj hV
    obtain ⟨kp, ksh, ksl, kdh, kdl, ksp, kdp⟩ := k
    obtain ⟨n0, n1, n2, n3, n4, n5, n6, n7⟩ := u
    simp only at HV r0 r1 r2 r3 r4 r5 r6 r7
    have hl1 := fun W hW => hl W hW n6
    generalize limP c n6 = L at *
    have hN6 : ∀ w', Below w0.heap.size w0 w' → w'.cell? ⟨w.heap.size, 6, none⟩ = some (.slice (some ⟨b, off, none⟩) c.un c.uc) := fun w' h => by rw [← hA]; exact (hB.keep h).c6
    simp only [cfc, krc, hA] at *
    clear hl
    go_enter Try.func18, Try.ntmps18
    go_wp2_with (go_at_call 37; rw [← hw0]; with_reducible refine cc.mono ?_; rintro e w1 ⟨rfl, hb'⟩; refine Hid.out ?_)
    obtain ⟨c0, c1, c2, c3, c4, c5, c6x, c7⟩ := hB.keep hb'
    have c6 := hN6 w1 hb'
    have hR1 := hR w1 hb'
    have hb1 := bel_via hb hb'
    have q0 := keepc hb' r0
    have q1 := keepc hb' r1
    have q2 := keepc hb' r2
    have q3 := keepc hb' r3
    have q4 := keepc hb' r4
    have q5 := keepc hb' r5
    have q6 := keepc hb' r6
    have q7 := keepc hb' r7
    have hlt1 : b < w1.heap.size := Nat.lt_of_lt_of_le hlt hb'.size
    obtain ⟨s0, s1, s2, s3, z0, z1, z2, z3⟩ := cells4 hR1
    have hltR : w.heap.size + 1 + 1 < w1.heap.size := World.block_lt_of_cell? _ _ s0
    have hltC : w.heap.size < w1.heap.size := by omega
    have hl2 := fun (W : World) (hW : Below w1.heap.size w1 W) => hl1 W (bel_via hb' hW)
    clear hb' hB hK hR cc hw0 r0 r1 r2 r3 r4 r5 r6 r7 hlt hA hN6 c6x hbig hl1
    refine Lib.hid ?_
    go_wp2
    have hq : Below w1.heap.size w1 (w1.alloc (.cells #[.string n0, .string n1, .string n2, .string n3, .string n4, .int .i64 n5, .string n6, .bool n7] 63)) := Below.al (Below.refl _ _) _
    have m5 : (w1.alloc (.cells #[.string n0, .string n1, .string n2, .string n3, .string n4, .int .i64 n5, .string n6, .bool n7] 63)).cell? ⟨w1.heap.size, 5, none⟩ = some (.int .i64 n5) := by simp [go_sem]
    have m6 : (w1.alloc (.cells #[.string n0, .string n1, .string n2, .string n3, .string n4, .int .i64 n5, .string n6, .bool n7] 63)).cell? ⟨w1.heap.size, 6, none⟩ = some (.string n6) := by simp [go_sem]
    have m7 : (w1.alloc (.cells #[.string n0, .string n1, .string n2, .string n3, .string n4, .int .i64 n5, .string n6, .bool n7] 63)).cell? ⟨w1.heap.size, 7, none⟩ = some (.bool n7) := by simp [go_sem]
    generalize w1.alloc (.cells #[.string n0, .string n1, .string n2, .string n3, .string n4, .int .i64 n5, .string n6, .bool n7] 63) = wq at *
    have hC : ∀ w', Below wq.heap.size wq w' → (w'.cell? ⟨w.heap.size, 0, none⟩ = some (.slice c.zA c.zn c.zc) ∧ w'.cell? ⟨w.heap.size, 1, none⟩ = some (.slice c.oA c.on c.oc) ∧ w'.cell? ⟨w.heap.size, 2, none⟩ = some (.slice c.sA c.sn c.sc) ∧ w'.cell? ⟨w.heap.size, 3, none⟩ = some (.slice c.lA c.ln c.lc) ∧ w'.cell? ⟨w.heap.size, 4, none⟩ = some (.slice c.tA c.tn c.tc) ∧ w'.cell? ⟨w.heap.size, 5, none⟩ = some (.slice c.nA c.nn c.nc) ∧ w'.cell? ⟨w.heap.size, 6, none⟩ = some (.slice (some ⟨b, off, none⟩) c.un c.uc) ∧ w'.cell? ⟨w.heap.size, 7, none⟩ = some (.int .i64 c.dflt) ∧ w'.cell? ⟨w1.heap.size, 5, none⟩ = some (.int .i64 n5) ∧ w'.cell? ⟨w1.heap.size, 6, none⟩ = some (.string n6) ∧ w'.cell? ⟨w1.heap.size, 7, none⟩ = some (.bool n7)) := fun w' h => ⟨keepc h (keepc hq c0), keepc h (keepc hq c1), keepc h (keepc hq c2), keepc h (keepc hq c3), keepc h (keepc hq c4), keepc h (keepc hq c5), keepc h (keepc hq c6), keepc h (keepc hq c7), keepc h m5, keepc h m6, keepc h m7⟩
    have hRq : wq.heap[w.heap.size + 1 + 1]? = _ := (hq.block _ hltR).trans hR1
    have hl3 := fun (W : World) (hW : Below wq.heap.size wq W) => hl2 W (bel_via hq hW)
    have hbq := bel_via hb1 hq
    clear c0 c1 c2 c3 c4 c5 c6 c7 m5 m6 m7 q0 q1 q2 q3 q4 q5 q6 q7 s0 s1 s2 s3 z0 z1 z2 z3 hl2 hR1 hq hb1
    refine wp_region_held (S := fun w' => Below w.heap.size w w' ∧ (w'.cell? ⟨w.heap.size, 0, none⟩ = some (.slice c.zA c.zn c.zc) ∧ w'.cell? ⟨w.heap.size, 1, none⟩ = some (.slice c.oA c.on c.oc) ∧ w'.cell? ⟨w.heap.size, 2, none⟩ = some (.slice c.sA c.sn c.sc) ∧ w'.cell? ⟨w.heap.size, 3, none⟩ = some (.slice c.lA c.ln c.lc) ∧ w'.cell? ⟨w.heap.size, 4, none⟩ = some (.slice c.tA c.tn c.tc) ∧ w'.cell? ⟨w.heap.size, 5, none⟩ = some (.slice c.nA c.nn c.nc) ∧ w'.cell? ⟨w.heap.size, 6, none⟩ = some (.slice (some ⟨b, off, none⟩) c.un c.uc) ∧ w'.cell? ⟨w.heap.size, 7, none⟩ = some (.int .i64 c.dflt) ∧ w'.cell? ⟨w1.heap.size, 5, none⟩ = some (.int .i64 n5) ∧ w'.cell? ⟨w1.heap.size, 6, none⟩ = some (.string n6) ∧ w'.cell? ⟨w1.heap.size, 7, none⟩ = some (.bool n7))) (by kernel_rfl) ?_
    change wpAnyH _ _ _ _ _ _ _ _ (World.drew _)
    have hbd : Below wq.heap.size wq wq.drew := Below.dr (Below.refl _ _)
    have hS0 : Below w.heap.size w wq.drew ∧ _ := ⟨bel_via hbq hbd, hC _ hbd⟩
    generalize wq.drew = wd at hS0 hbd ⊢
    refine wpAnyH_take (i := 0) (v := ?_) rfl (by kernel_rfl) (by kernel_rfl) (by kernel_rfl) (fun _ _ _ h => h) (Or.inl ⟨by rfl, ?_⟩) hS0 ?_
    rotate_left 1
    · intro W hW
      obtain ⟨hW0, hW1, hW2, hW3, hW4, hW5, hW6, hW7, hW8, hW9, hW10, hW11⟩ := hW
      go_simp
      with_reducible rfl
    refine wpAnyH_take (i := 1) (v := ?_) rfl (by kernel_rfl) (by kernel_rfl) (by kernel_rfl) (fun _ _ _ h => h) (Or.inl ⟨by rfl, ?_⟩) hS0 ?_
    rotate_left 1
    · intro W hW
      obtain ⟨hW0, hW1, hW2, hW3, hW4, hW5, hW6, hW7, hW8, hW9, hW10, hW11⟩ := hW
      go_simp
      with_reducible rfl
    refine wpAnyH_take (i := 2) (v := ?_) rfl (by kernel_rfl) (by kernel_rfl) (by kernel_rfl) (fun _ _ _ h => h) (Or.inl ⟨by rfl, ?_⟩) hS0 ?_
    rotate_left 1
    · intro W hW
      obtain ⟨hW0, hW1, hW2, hW3, hW4, hW5, hW6, hW7, hW8, hW9, hW10, hW11⟩ := hW
      go_simp
      with_reducible rfl
    refine wpAnyH_take (i := 3) (v := ?_) rfl (by kernel_rfl) (by kernel_rfl) (by kernel_rfl) (fun _ _ _ h => h) (Or.inl ⟨by rfl, ?_⟩) hS0 ?_
    rotate_left 1
    · intro W hW
      obtain ⟨hW0, hW1, hW2, hW3, hW4, hW5, hW6, hW7, hW8, hW9, hW10, hW11⟩ := hW
      go_simp
      with_reducible rfl
    refine wpAnyH_take (i := 4) (v := ?_) rfl (by kernel_rfl) (by kernel_rfl) (by kernel_rfl) (fun _ _ _ h => h) (Or.inl ⟨by rfl, ?_⟩) hS0 ?_
    rotate_left 1
    · intro W hW
      obtain ⟨hW0, hW1, hW2, hW3, hW4, hW5, hW6, hW7, hW8, hW9, hW10, hW11⟩ := hW
      go_simp
      with_reducible rfl
    refine wpAnyH_take (i := 5) (v := ?_) rfl (by kernel_rfl) (by kernel_rfl) (by kernel_rfl) (fun _ _ _ h => h) (Or.inl ⟨by rfl, ?_⟩) hS0 ?_
    rotate_left 1
    · intro W hW
      obtain ⟨hW0, hW1, hW2, hW3, hW4, hW5, hW6, hW7, hW8, hW9, hW10, hW11⟩ := hW
      go_simp
      with_reducible rfl
    refine wpAnyH_take (i := 7) (v := ?_) rfl (by kernel_rfl) (by kernel_rfl) (by kernel_rfl) (fun _ _ _ h => h) (Or.inl ⟨by rfl, ?_⟩) hS0 ?_
    rotate_left 1
    · intro W hW
      obtain ⟨hW0, hW1, hW2, hW3, hW4, hW5, hW6, hW7, hW8, hW9, hW10, hW11⟩ := hW
      go_simp
      with_reducible rfl
    refine wpAnyH_take (i := 8) (v := ?_) rfl (by kernel_rfl) (by kernel_rfl) (by kernel_rfl) (fun _ _ _ h => h) (Or.inl ⟨by rfl, ?_⟩) hS0 ?_
    rotate_left 1
    · intro W hW
      obtain ⟨hW0, hW1, hW2, hW3, hW4, hW5, hW6, hW7, hW8, hW9, hW10, hW11⟩ := hW
      go_simp
      with_reducible rfl
    refine wpAnyH_ready (rs := [6]) (by kernel_rfl) (by simp) ?_
    refine AllReadyH.cons rfl (fun K hK => ?_) AllReadyH.nil
    go_simp
    go_at_call 40
    refine (hl3 _ hbd).mono ?_
    rintro e wc ⟨rfl, hbc⟩
    have hbe := bel_via hbd hbc
    have hS1 : Below w.heap.size w wc ∧ _ := ⟨bel_via hbq hbe, hC _ hbe⟩
    have hRc : wc.heap[w.heap.size + 1 + 1]? = _ := (hbe.block _ (Array.getElem?_eq_some_iff.1 hRq).1).trans hRq
    refine hK.out _ _ hS1 (fun _ => ?_)
    clear hK K
    refine wpAnyH_take (i := 9) (v := ?_) rfl (by kernel_rfl) (by kernel_rfl) (by kernel_rfl) (fun _ _ _ h => h) (Or.inl ⟨by rfl, ?_⟩) hS1 ?_
    rotate_left 1
    · intro W hW
      obtain ⟨hW0, hW1, hW2, hW3, hW4, hW5, hW6, hW7, hW8, hW9, hW10, hW11⟩ := hW
      go_simp
      with_reducible rfl
    refine wpAnyH_ready (rs := [10]) (by kernel_rfl) (by simp) ?_
    refine AllReadyH.cons rfl (fun K hK => ?_) AllReadyH.nil
    refine step_store_row rfl 59 (.tmp 4) (.tmp 30) rfl (w.heap.size + 1 + 1) #[.int .i64 n5, .int .i64 (j : Nat), .int .i64 L, .bool n7] rfl rfl 59 #[.int .i64 0, .int .i64 0, .int .i64 0, .bool false] hRc (by kernel_rfl) rfl (by kernel_rfl) ?_
    have hb9 := Below.setRow hS1.1 (B := w.heap.size + 1 + 1) (by omega) #[.int .i64 n5, .int .i64 (j : Nat), .int .i64 L, .bool n7]
    have hR9 := blk_setRow hRc #[.int .i64 n5, .int .i64 (j : Nat), .int .i64 L, .bool n7]
    have hne1 : w.heap.size ≠ w.heap.size + 1 + 1 := by omega
    have hne2 : w1.heap.size ≠ w.heap.size + 1 + 1 := by omega
    obtain ⟨-, x0, x1, x2, x3, x4, x5, x6, x7, x8, x9, x10⟩ := hS1
    refine hK.out _ _ ⟨hb9, (cell_setRow hne1).trans x0, (cell_setRow hne1).trans x1, (cell_setRow hne1).trans x2, (cell_setRow hne1).trans x3, (cell_setRow hne1).trans x4, (cell_setRow hne1).trans x5, (cell_setRow hne1).trans x6, (cell_setRow hne1).trans x7, (cell_setRow hne2).trans x8, (cell_setRow hne2).trans x9, (cell_setRow hne2).trans x10⟩ (fun _ => ?_)
    clear hK K x0 x1 x2 x3 x4 x5 x6 x7 x8 x9 x10
    generalize wc.setRow (w.heap.size + 1 + 1) #[.int .i64 n5, .int .i64 (j : Nat), .int .i64 L, .bool n7] = wf at *
    refine wpAnyH_done (by kernel_rfl) ?_ _
    obtain ⟨f0, f1, f2, f3, _⟩ := cells4 hR9
    go_wp2_with fail
    refine bodyPost_ret (v := .agg #[.int .i64 n5, .int .i64 (j : Nat), .int .i64 L, .bool n7]) (by simp [results, Try.results18, go_sem, f0, f1, f2, f3]) rfl ⟨by rw [HV.out], hb9⟩
end Go.Proofs.Ytplfmgcgniledaa
