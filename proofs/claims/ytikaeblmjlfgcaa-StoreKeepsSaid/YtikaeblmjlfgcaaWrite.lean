/- write: the walk up to its loop; by-name template. -/
import Derived.Test.YtikaeblmjlfgcaaRound
namespace Go.Proofs.Ytikaeblmjlfgcaa
open Go.RowKit
set_option linter.unusedVariables false
attribute [local go_sem] Oper.semAt_some

theorem wrap_bump {n : Int} (h0 : 0 ≤ n) (h1 : n < 18446744073709551616) : IntKind.u64.wrap (n + 1) = bump n := by
  unfold IntKind.wrap bump
  simp [IntKind.signed, IntKind.bits]
  split <;> omega
theorem clr_setP {R : RS} (h : R.P.length = 64) {j : Nat} (hj : j < 8) : setP R.P (8 * j) (List.replicate 8 0) = (R.clr j).P := by
  rw [setP_eq _ _ _ (by simp; omega)]
  simp only [List.length_replicate]
  apply List.ext_getElem
  · simp [RS.clr, h]; omega
  · intro i h1 h2
    have hi : i < 64 := by simpa [RS.clr] using h2
    simp only [RS.clr, List.getElem_map, List.getElem_range]
    rw [List.getElem_append]
    split
    · rename_i hlt
      rw [List.getElem_append]
      split
      · rename_i hlt2
        simp at hlt2
        rw [List.getElem_take, if_neg (by omega), List.getD_eq_getElem?_getD, List.getElem?_eq_getElem (by omega)]
        rfl
      · rename_i hlt2
        simp [h] at hlt hlt2
        rw [List.getElem_replicate, if_pos (by omega)]
    · rename_i hlt
      simp [h] at hlt
      rw [List.getElem_drop, if_neg (by omega), List.getD_eq_getElem?_getD, List.getElem?_eq_getElem (by omega)]
      simp only [Option.getD_some]
      congr 1
      simp [h]
      omega
theorem clrAll_snoc (R : RS) (L : List Pt) (p : Pt) : clrAll R (L ++ [p]) = (clrAll R L).clr p.slot.toNat := by simp [clrAll, List.foldl_append]

theorem store_mid_plain {P : Program} {ops : Array Oper} {rest : List Oper} {op : Oper} {a : Act} {w : World} {Q : Exit → Act → World → Prop} (hgd : op.guard = none) (ty : TypeId) (x y : Operand) (ho : op.op = .store ty x y)
    (b o : Nat) (cells : Array Value) (hx : a.eval x = .pointer (some ⟨b, o, none⟩)) (hy : a.eval y = .agg cells) (ht : w.there b o cells.size) (hi : (P.info? ty).map (·.size) = some cells.size) (h1 : cells.all (·.oneCell') = true)
    (h : wpList P ops Q rest (a.put op.dst undef) (w.setCells b o cells.toList)) : wpList P ops Q (op :: rest) a w := by
  refine wpList_plain hgd fun K hK => ?_
  unfold Oper.wp execOp
  simp only [ho, hx, hy, Instr.storeAt, Instr.sureAddr, Sem.run_bind, Sem.run_pure, Result.andThen_ok, run_storeVar_mid w b o ty cells ht hi h1]
  exact hK _ _ h

theorem setRow_alloc_at (w : World) {g : Nat} (hg : w.heap.size = g) (c c' : Array Value) (t : TypeId) : (w.alloc (.cells c t)).setRow g c' = w.alloc (.cells c' t) := by
  subst hg
  exact World.setRow_alloc_new w c c' t
theorem Blk.new_at (w : World) {g : Nat} (hg : w.heap.size = g) (cs : Array Value) (t : TypeId) : Blk (w.alloc (.cells cs t)) g cs t := by
  subst hg
  exact Blk.new w cs t

theorem res_write (tmps : Array Value) (w : World) (g : Nat) (v : Int) (hp : tmps.getD 4 undef = .pointer (some ⟨g, 0, none⟩)) (hc : w.cell? ⟨g, 0, none⟩ = some (.int .i64 v)) :
    (results Try.f21 tmps).run Try.prog w = .ok (.int .i64 v) w := by
  have hp' : tmps[4]?.getD undef = .pointer (some ⟨g, 0, none⟩) := by simpa using hp
  simp [results, Try.results21, hp', asAddr, go_sem, hc]

def WPost (D : DS) (B : Nat) (L : List Pt) (w : World) (e : Ending) (w' : World) : Prop :=
  ∃ c D', e = .returned (.int .i64 c) ∧ WOut D L c D' ∧ DiskAt w' B D' ∧ Off B w w'

set_option maxHeartbeats 4000000 in
set_option maxRecDepth 100000 in
theorem write_any2 {a : Option Addr} {L : List Pt} (cap : Nat) {w : World} {B : Nat} {D : DS} (h : PutsAt w a L) (hc : Chk L 0) (hD : DiskAt w B D) (hsm : Small D) (hl0 : 0 ≤ D.l) (hl1 : D.l ≤ 9223372036854775807) (hn0 : 0 ≤ D.n) (hn1 : D.n < 9223372036854775000) :
    Calls Try.prog 21 #[.pointer (some ⟨B, 0, none⟩), .slice a L.length cap] w (WPost D B L w) := by
  have hR := root_ok D
  have hBl := hD.lt
  have HS := Lib.hid h
  have hl := h.1
  have HCK := Lib.hid hc
  clear h hc
  have hzr := zero_root
  have HZS : Hid ((rcells RS0).size = 65) := Lib.hid (rcells_size rfl)
  generalize rcells RS0 = ZR at *
  have hri := RS.info hR.len
  have hro := rcells_one (root D)
  have HR0 := Lib.hid hR
  refine (callsIn_wide (n := 8)).1 ?_
  refine callsIn_of_wp_marks Try.func21 rfl trivial ?_ rfl
  simp only [Try.ntmps21, List.size_toArray, List.length_cons, List.length_nil, Nat.reduceAdd, Nat.reduceSub, Array.replicate_succ, Array.replicate_zero, List.push_toArray, List.append_toArray, List.nil_append, List.cons_append]
  refine wpIn_wide.2 ?_
  obtain ⟨C, hC⟩ : ∃ C, C = rcells (root D) := ⟨_, rfl⟩
  rw [← hC] at hri hro
  have HC := Lib.hid hC
  have hzs : ZR.size = C.size := by rw [HZS.out, hC, rcells_size hR.len]
  clear hC hR
  obtain ⟨H, hH⟩ : ∃ H, H = w.heap.size := ⟨_, rfl⟩
  go_wp2_with fail
  refine (readRoot_any ((hD.alloc _).alloc _)).mono ?_
  rw [← HC.out, ← hH]
  have d0 : Blk ((w.alloc (.cells #[.pointer (some ⟨B, 0, none⟩)] 28)).alloc (.cells #[.int .i64 0] 36)) H #[.pointer (some ⟨B, 0, none⟩)] 28 := (Blk.new_at _ hH.symm _ _).alloc _
  have e0 : Blk ((w.alloc (.cells #[.pointer (some ⟨B, 0, none⟩)] 28)).alloc (.cells #[.int .i64 0] 36)) (H + 1) #[.int .i64 0] 36 := Blk.new_at _ (by simp [hH]) _ _
  have D0' := (hD.alloc (.cells #[.pointer (some ⟨B, 0, none⟩)] 28)).alloc (.cells #[.int .i64 0] 36)
  have b0 : Below w.heap.size w ((w.alloc (.cells #[.pointer (some ⟨B, 0, none⟩)] 28)).alloc (.cells #[.int .i64 0] 36)) := ((Below.refl _ _).alloc (Nat.le_refl _) _).alloc (by simp) _
  have z0 : ((w.alloc (.cells #[.pointer (some ⟨B, 0, none⟩)] 28)).alloc (.cells #[.int .i64 0] 36)).heap.size = H + 2 := by simp [hH]
  generalize (w.alloc (.cells #[.pointer (some ⟨B, 0, none⟩)] 28)).alloc (.cells #[.int .i64 0] 36) = w0 at *
  rintro e w1 ⟨rfl, hb1⟩
  have d1 := d0.below hb1 d0.lt
  have e1 := e0.below hb1 e0.lt
  have D1 := D0'.below hb1 D0'.lt
  have b1 := b0.trans (hb1.mono b0.size)
  have z1 : H + 2 ≤ w1.heap.size := by have := hb1.size; omega
  clear d0 e0 D0' b0 z0 hb1
  go_wp2_with (first
    | (refine wpList_store_row rfl 66 (.tmp 5) (.tmp 14) rfl w1.heap.size C rfl rfl 66 ZR (heap_alloc_new w1 _) hri hzs hro ?_; rw [World.setRow_alloc_new])
    | (refine wpList_load_row rfl 66 (.tmp 5) rfl w1.heap.size rfl 66 C (0, 0) _ (heap_alloc_new w1 _) Try.underlying66 rfl hri ?_)
    | (refine wpList_store_row rfl 66 (.tmp 6) (.tmp 15) rfl (w1.heap.size + 1) C rfl rfl 66 ZR (Blk.new_at (w1.alloc (.cells C 66)) (by simp) _ _) hri hzs hro ?_; rw [setRow_alloc_at (w1.alloc (.cells C 66)) (by simp)]; have d2 := (d1.alloc (.cells C 66)).alloc (.cells C 66); have e2 := (e1.alloc (.cells C 66)).alloc (.cells C 66); have D2 := (D1.alloc (.cells C 66)).alloc (.cells C 66); have o2 : RootAt ((w1.alloc (.cells C 66)).alloc (.cells C 66)) w1.heap.size (root D) := (by unfold RootAt; rw [← HC.out]; exact (Blk.new w1 C _).alloc _); have n2 : RootAt ((w1.alloc (.cells C 66)).alloc (.cells C 66)) (w1.heap.size + 1) (root D) := (by unfold RootAt; rw [← HC.out]; exact Blk.new_at _ (by simp) _ _); have b2 := (b1.alloc b1.size (.cells C 66)).alloc (by have := b1.size; simp; omega) (.cells C 66); have z2 : ((w1.alloc (.cells C 66)).alloc (.cells C 66)).heap.size = w1.heap.size + 2 := (by simp); have v2 := n2.c0; have f2 := n2.free 0; generalize (w1.alloc (.cells C 66)).alloc (.cells C 66) = w2 at *))
  have hn64 := HR0.out.n1
  have hn00 := HR0.out.n0
  rw [wrap_bump hn00 hn64]
  clear hn64 hn00
  have n3 : RootAt (w2.setCell ⟨w1.heap.size + 1, 0, none⟩ (.int .u64 (bump (root D).n))) (w1.heap.size + 1) { root D with n := bump (root D).n } := n2.setn _
  have O3 := (Off.refl (w1.heap.size + 1) w2).set 0 (.int .u64 (bump (root D).n))
  have hw1z : w1.heap.size < w2.heap.size := by omega
  obtain ⟨so, hso⟩ : ∃ so, so = w1.heap.size := ⟨_, rfl⟩
  rw [← hso] at n3 O3 o2 z1 z2 hw1z ⊢
  clear hso v2 f2 n2 hri hro hzs hzr d1 e1 D1 b1
  have n0 : RSok { root D with n := bump (root D).n } := ⟨(bump_ok HR0.out.n0 HR0.out.n1).1, (bump_ok HR0.out.n0 HR0.out.n1).2, HR0.out.len, HR0.out.b⟩
  have HNS : Hid (∀ M : List Pt, (clrAll { root D with n := bump (root D).n } M).P.length = 64) := Lib.hid fun M => (clrAll_spec M _ n0.len n0.b).1
  have hnxt : clrAll { root D with n := bump (root D).n } L = next0 (root D) L := rfl
  generalize w2.setCell ⟨so + 1, 0, none⟩ (.int .u64 (bump (root D).n)) = w3 at *
  obtain ⟨R1, hR1⟩ : ∃ R1, R1 = ({ root D with n := bump (root D).n } : RS) := ⟨_, rfl⟩
  rw [← hR1] at n3 HNS hnxt
  have HR1 := Lib.hid hR1
  have HNX := Lib.hid hnxt
  clear hR1 n0 hnxt
  have hzp := zero_place
  have HZA : Hid (((List.replicate 8 (0 : Int)).map (Value.int .u8)).toArray.toList = (List.replicate 8 (0 : Int)).map (Value.int .u8)) := Lib.hid rfl
  have hz8 : (Try.prog.info? 62).map (·.size) = some ((List.replicate 8 (0 : Int)).map (Value.int .u8)).toArray.size := place_info
  have hz1 := bytes_one (List.replicate 8 0)
  have HZ8 : Hid (((List.replicate 8 (0 : Int)).map (Value.int .u8)).toArray.size = 8) := Lib.hid rfl
  generalize ((List.replicate 8 (0 : Int)).map (Value.int .u8)).toArray = ZA at *
  generalize hlen : L.length = len at *
  have HL := Lib.hid hlen
  clear hlen
  go_loopw [22] (fun c wr => ∃ k : Nat, k ≤ len ∧ c = .int .i64 (k : Int) ∧ RootAt wr (so + 1) (clrAll R1 (L.take k)) ∧ Off (so + 1) w2 wr) (fun c _ => len - (intOf c).toNat)
  case atStart => exact ⟨0, by omega, rfl, n3, O3⟩
  case round =>
    clear n3 O3
    obtain ⟨k, hk, rfl, hN, hO⟩ := hrel
    have hBs := hO.size
    by_cases hlt : k < len
    · obtain ⟨b, off, p, ha, hb, hp, hst0⟩ := HS.out.get (k := k) (by rw [HL.out]; exact hlt)
      have hst := (hst0.block (b2.block b hb)).block (hO.block b (by omega) (by omega))
      obtain ⟨s0, s1⟩ := (HCK.out.ok rfl).1 p (mem_of_get hp)
      obtain ⟨j, hj⟩ := Int.eq_ofNat_of_zero_le s0
      have g1 := hst.cs
      have g2 := hst.cv
      have g3 := hst.cg
      rw [hj] at g1 s1
      have hj8 : j < 8 := by omega
      have j0 : (0 : Int) ≤ (j : Int) := by omega
      have HC2 : Hid (clrAll R1 (L.take (k + 1)) = (clrAll R1 (L.take k)).clr j) := Lib.hid (by rw [take_succ_of hp, clrAll_snoc, hj]; rfl)
      subst ha
      have hnl := Blk.lt hN
      have hNb := Blk.alloc hN (.cells #[.int .i64 (j : Int), .string p.val, .bool p.gone] 49)
      have hth : (wr.alloc (.cells #[.int .i64 (j : Int), .string p.val, .bool p.gone] 49)).there (so + 1) (1 + j * 8) ZA.size := by
        intro i hi
        rw [HZ8.out] at hi
        have hP := HNS.out (L.take k)
        refine ⟨?_, Blk.free hNb _⟩
        rw [Blk.cell hNb]
        simp [rcells, hP]
        omega
      clear hst0 hst hp hj s0
      go_wp2_with (refine store_mid_plain rfl 62 (.tmp 30) (.tmp 28) rfl (so + 1) (1 + j * 8) ZA rfl rfl hth hz8 hz1 ?_)
      have hR2 : RootAt ((wr.alloc (.cells #[.int .i64 (j : Int), .string p.val, .bool p.gone] 49)).setCells (so + 1) (1 + j * 8) ZA.toList) (so + 1) (clrAll R1 (L.take (k + 1))) := by
        have h1 := Blk.setCells ZA.toList (1 + j * 8) _ _ hNb
        rw [HZA.out, Nat.add_comm 1, Nat.mul_comm j 8, setC_root, clr_setP (HNS.out _) hj8] at h1
        rw [HC2.out, HZA.out, Nat.add_comm 1, Nat.mul_comm j 8]
        exact h1
      have hO2 := Off.setCells ZA.toList (1 + j * 8) _ (hO.alloc (.cells #[.int .i64 (j : Int), .string p.val, .bool p.gone] 49))
      go_roundw
      case rel => exact ⟨k + 1, by omega, by go_num, hR2, hO2⟩
      case measure => simp [intOf]; omega
    · obtain rfl : k = len := by omega
      rw [List.take_of_length_le (by rw [HL.out]; omega), HNX.out] at hN
      have d3 := d2.off hO (by omega)
      have e3 := e2.off hO (by omega)
      have D3 := D2.off hO (by omega)
      have o3 := Blk.off o2 hO (by omega)
      have b3 := b2.trans ((hO.toBelow (by omega)).mono (by omega))
      have P3 := HS.out.below b3 (Nat.le_refl _)
      have z3 : H + 2 ≤ so ∧ so + 2 ≤ wr.heap.size := by omega
      rw [← HL.out]
      have hp := pieces_any cap P3 HCK.out
      obtain ⟨w4, hw4⟩ : ∃ w4, w4 = wr := ⟨_, rfl⟩
      rw [← hw4] at d3 e3 D3 o3 b3 z3 hp hN ⊢
      have HR1' := HR1
      clear hw4 hO hBs d2 e2 D2 o2 z1 z2 hw1z hlt hk P3 HNS HR1 HZA hz8 hz1 HZ8 hzp HZS
      go_wp2_with fail
      refine hp.mono ?_
      rintro e w5 ⟨a', cap', rfl, hcap, hpcs, hb5⟩
      have z4 := hb5.size
      have d5 := d3.below hb5 d3.lt
      have e5 := e3.below hb5 e3.lt
      have D5 := D3.below hb5 D3.lt
      have o5 := Blk.below o3 hb5 (Blk.lt o3)
      have n5 := Blk.below hN hb5 (Blk.lt hN)
      have b5 := b3.trans (hb5.mono b3.size)
      clear d3 e3 D3 o3 hN b3 hp hb5
      have hri := RS.info HR0.out.len
      have lb5 := Blk.new w5 #[.slice a' (pieces L).length cap'] 79
      have o6 := Blk.alloc o5 (.cells #[.slice a' (pieces L).length cap'] 79)
      go_wp2_with (first
        | (refine wpList_load_row rfl 66 (.tmp 5) rfl so rfl 66 (rcells (root D)) (0, 0) _ o6 Try.underlying66 rfl hri ?_)
        | (go_at_call 30; refine (free_any _).mono ?_; rintro e w6 ⟨rfl, rfl⟩))
      have l7 := lb5.alloc (.cells (rcells (root D)) 66)
      have f7 := Blk.new_at (w5.alloc (.cells #[.slice a' (pieces L).length cap'] 79)) (g := w5.heap.size + 1) (by simp) (rcells (root D)) 66
      have d7 := (d5.alloc (.cells #[.slice a' (pieces L).length cap'] 79)).alloc (.cells (rcells (root D)) 66)
      have e7 := (e5.alloc (.cells #[.slice a' (pieces L).length cap'] 79)).alloc (.cells (rcells (root D)) 66)
      have D7 := (D5.alloc (.cells #[.slice a' (pieces L).length cap'] 79)).alloc (.cells (rcells (root D)) 66)
      have n7 := (Blk.alloc n5 (.cells #[.slice a' (pieces L).length cap'] 79)).alloc (.cells (rcells (root D)) 66)
      have b7 := (b5.alloc b5.size (.cells #[.slice a' (pieces L).length cap'] 79)).alloc (by have := b5.size; simp; omega) (.cells (rcells (root D)) 66)
      have p7 : PcsAt ((w5.alloc (.cells #[.slice a' (pieces L).length cap'] 79)).alloc (.cells (rcells (root D)) 66)) w4.heap.size a' (pieces L) :=
        (hpcs.grown (World.grownBy_alloc w5 _ none) (fun r h => by cases h)).grown (World.grownBy_alloc _ _ none) (fun r h => by cases h)
      have z7 : ((w5.alloc (.cells #[.slice a' (pieces L).length cap'] 79)).alloc (.cells (rcells (root D)) 66)).heap.size = w5.heap.size + 2 := by simp
      have z8 := b5.size
      obtain ⟨lb, hlb⟩ : ∃ lb, lb = w5.heap.size := ⟨_, rfl⟩
      clear o6 lb5 d5 e5 D5 o5 n5 b5 hpcs hri
      generalize (w5.alloc (.cells #[.slice a' (pieces L).length cap'] 79)).alloc (.cells (rcells (root D)) 66) = w7 at *
      rw [← hlb] at l7 f7 z7 z8 z4 ⊢
      clear hlb
      have hwz := b7.size
      have hO7 : Off B w w7 := ⟨b7.os, b7.tape, b7.output, b7.size, fun k hk _ => b7.block k hk⟩
      refine (wpIn_wide (n := 8)).1 ?_
      refine wpIn_rangeFunc_ownG (F := Fence.wide) (n := 8) rfl (by decide) (gf := 35) (lb := #[.pointer (some ⟨lb + 1, 0, none⟩)]) rfl trivial (enters_of Try.func35 (by kernel_rfl) rfl)
        (free_stops Fence.wide (8 - 1) trivial rfl (by decide) (lb + 1) HR0.out (fun b => b = B ∨ b = so + 1 ∨ b = lb) w7 f7 (by omega) (by rintro b (rfl | rfl | rfl) <;> omega))
        (fun h k => h.trans k) (fun W l o o' _ h hc _ => KeepB.put W l o o' h hc) (Below.refl _ _) (fun _ => rfl)
        (LoopI D L B H (so + 1) lb w4.heap.size w) (LoopX D L B H (so + 1) lb w4.heap.size w) (LoopI.own hwz) (LoopX.own hwz)
        ⟨D, _, _, .nil, D7, n7, ⟨a', cap', l7, p7, hcap⟩, d7, e7, hO7⟩
        (fun x => { tmps := #[.pointer (some ⟨B, 0, none⟩), .slice a L.length cap, .pointer (some ⟨w.heap.size, 0, none⟩), undef, .pointer (some ⟨w.heap.size + 1, 0, none⟩), .pointer (some ⟨so, 0, none⟩), .pointer (some ⟨so + 1, 0, none⟩), undef, u8, .pointer (some ⟨lb, 0, none⟩), .int .i64 (x.1 : Int), undef, undef, .pointer (some ⟨B, 0, none⟩), .agg C, .agg C, .pointer (some ⟨so + 1, 0, none⟩), .int .u64 (root D).n, .int .u64 (bump (root D).n), .pointer (some ⟨so + 1, 0, none⟩), .slice a L.length cap, .int .i64 L.length, .int .i64 L.length, .bool false, u24, u25, u26, u27, u28, u29, u30, u31, .slice a L.length cap, .slice a' (pieces L).length cap', .agg (rcells (root D)), .func (.func 35) #[] #[.pointer (some ⟨lb + 1, 0, none⟩)], .int .i64 (x.1 : Int), undef, undef, undef, undef, undef, undef, undef, undef, undef, undef, undef, undef, undef, undef, undef, undef, undef, undef, undef, undef, undef, undef, undef, undef, undef, undef, undef, undef, undef], defers := [] }) ?assign ?body ?done ?stop
      case assign =>
        intro l x W K hK
        gi_wp2
        exact hK
      case body =>
        rintro l pre x W ⟨D1, R1', ps, h⟩ hpre
        have hDl := h.disk.lt
        have hK0 := KeepB.refl (fun b => b = B ∨ b = so + 1 ∨ b = lb) W
        have hF0 := KeepsFrom.refl w7.heap.size W
        obtain ⟨a1, cap1, hL, hP, hcap1⟩ := h.left
        have c9 : W.cell? ⟨lb, 0, none⟩ = some (.slice a1 ps.length cap1) := hL.cell 0
        cases ps with
        | nil =>
          have c9' : W.cell? ⟨lb, 0, none⟩ = some (.slice a1 0 cap1) := c9
          clear c9
          gi_wp2_with fail
          exact ⟨hF0, .inr ⟨rfl, pre, x, D1, R1', rfl, h⟩⟩
        | cons q ps' =>
          obtain ⟨b, off, rfl, hbb, hbl, hpc⟩ := hP 0 q rfl
          have q1 := hpc.cs
          have q2 := hpc.cn
          have q3 := hpc.ct
          simp only [Nat.zero_mul, Nat.add_zero] at q1 q2 q3
          have hlen : (q :: ps').length = ps'.length + 1 := rfl
          rw [hlen] at c9 hcap1
          have f9 := hL.free 0
          have hcb : (1 : Int) ≤ ((ps'.length + 1 : Nat) : Int) := by omega
          have hc0 : 0 < ps'.length + 1 := by omega
          have hz0 : (((ps'.length : Int) + 1) == 0) = false := by rw [beq_eq_false_iff_ne]; omega
          have hLl := hL.lt
          have c2 : W.cell? ⟨w.heap.size, 0, none⟩ = some (.pointer (some ⟨B, 0, none⟩)) := by rw [← hH]; exact h.dbox.cell 0
          have hl2 : w.heap.size < W.heap.size := by rw [← hH]; exact h.dbox.lt
          have hn2 : w.heap.size ≠ lb := by omega
          have hl1' : (1 : Int) ≤ (ps'.length : Int) + 1 := by omega
          by_cases hcap : cap1 = 1
          · obtain rfl : ps' = [] := List.length_eq_zero_iff.1 (by omega)
            subst hcap
            simp only [List.length_nil, Nat.zero_add] at c9 hcb hc0 hz0 hl1'
            gi_wp2_with fail
            refine ⟨trivial, ?_⟩
            have hr1 := h.run.bounds hl0
            simp only [List.length_map] at hr1
            obtain ⟨rb1, rb2, rb3, _⟩ := hr1
            have hblb : b ≠ lb := by
              rintro rfl
              rw [hL.cell] at q1
              cases off with
              | zero => cases q1
              | succ o => cases q1
            have hLc := (hL.set 0 (.slice (some ⟨b, off, none⟩) 0 0)).alloc (.cells #[.int .i64 q.slot, .int .i64 (q.num : Int), .string q.text] 85)
            have hDc := (h.disk.other (k := lb) (by omega) 0 (.slice (some ⟨b, off, none⟩) 0 0)).alloc (.cells #[.int .i64 q.slot, .int .i64 (q.num : Int), .string q.text] 85)
            have hNc := (Blk.other h.nxt (k := lb) (by omega) 0 (.slice (some ⟨b, off, none⟩) 0 0)).alloc (.cells #[.int .i64 q.slot, .int .i64 (q.num : Int), .string q.text] 85)
            have hdc := (h.dbox.other (k := lb) (by omega) 0 (.slice (some ⟨b, off, none⟩) 0 0)).alloc (.cells #[.int .i64 q.slot, .int .i64 (q.num : Int), .string q.text] 85)
            have hec := (h.ebox.other (k := lb) (by omega) 0 (.slice (some ⟨b, off, none⟩) 0 0)).alloc (.cells #[.int .i64 q.slot, .int .i64 (q.num : Int), .string q.text] 85)
            have hPc : PcsAt ((W.setCell ⟨lb, 0, none⟩ (.slice (some ⟨b, off, none⟩) 0 0)).alloc (.cells #[.int .i64 q.slot, .int .i64 (q.num : Int), .string q.text] 85)) w4.heap.size (some ⟨b, off, none⟩) [] := fun i r hi => by simp at hi
            have hXc := Blk.new_at (W.setCell ⟨lb, 0, none⟩ (.slice (some ⟨b, off, none⟩) 0 0)) (g := W.heap.size) (by simp [World.setCell]) #[.int .i64 q.slot, .int .i64 (q.num : Int), .string q.text] 85
            have hOc := (h.off.setHigh (k := lb) (by omega) 0 (.slice (some ⟨b, off, none⟩) 0 0)).alloc (.cells #[.int .i64 q.slot, .int .i64 (q.num : Int), .string q.text] 85)
            have hKc := (hK0.set (b := lb) (.inr (.inr rfl)) 0 (.slice (some ⟨b, off, none⟩) 0 0)).alloc (.cells #[.int .i64 q.slot, .int .i64 (q.num : Int), .string q.text] 85)
            have hFc := (hF0.set ⟨lb, 0, none⟩ (.slice (some ⟨b, off, none⟩) 0 0)).alloc (.cells #[.int .i64 q.slot, .int .i64 (q.num : Int), .string q.text] 85)
            obtain ⟨r, hr⟩ : ∃ r, wres D1 (x.1 : Int) q.text = r := ⟨_, rfl⟩
            have hwr := write_any hDc rb1 (by omega) (by omega) (by omega) (x.1 : Int) q.text
            rw [hr] at hwr
            have HRun := Lib.hid h.run
            have HR := Lib.hid hr
            have HRN := Lib.hid (h.run.plen (HNX.out ▸ (clrAll_spec L R1 (by rw [HR1'.out]; exact HR0.out.len) (by rw [HR1'.out]; exact HR0.out.b)).1))
            have hXl : lb < W.heap.size := hLl
            clear hr hL hP hpc h c9 q1 q2 q3 hK0 hF0 f9 c2
            generalize (W.setCell ⟨lb, 0, none⟩ (.slice (some ⟨b, off, none⟩) 0 0)).alloc (.cells #[.int .i64 q.slot, .int .i64 (q.num : Int), .string q.text] 85) = Wc at *
            refine (CallsIn.inRound l (callsIn_wide.2 hwr)).mono ?_
            rintro e Wd ⟨rfl, hDd, hOd⟩
            have hLd := hLc.off hOd (by omega)
            have hNd := Blk.off hNc hOd (by omega)
            have hdd := hdc.off hOd (by omega)
            have hed := hec.off hOd (by omega)
            have hXd := hXc.off hOd (by omega)
            have hPd := hPc.move (hOd.block b (by have := hXc.lt; omega) (by omega)) hOd.size
            have hOd2 := hOc.trans hOd
            have hKd := hKc.off (.inl rfl) hOd
            have hFd := hFc.off hDc hOd
            clear hLc hNc hdc hec hXc hPc hOc hKc hFc hOd hDc hwr
            by_cases hr0 : r = 0
            · subst hr0
              obtain ⟨_, _, _, done, hdn⟩ := HRun.out.bounds hl0
              obtain ⟨hq64, hq8, hqs0, hqs1⟩ := pieces_pos HCK.out (q := q) (by rw [hdn]; simp)
              clear hdn
              obtain ⟨j, hj⟩ := Int.eq_ofNat_of_zero_le hqs0
              have x1 : W.heap.size < Wd.heap.size := hXd.lt
              have g1 : Wd.cell? ⟨W.heap.size, 0, none⟩ = some (.int .i64 q.slot) := hXd.cell 0
              have g2 : Wd.cell? ⟨W.heap.size, 1, none⟩ = some (.int .i64 (q.num : Int)) := hXd.cell 1
              rw [hj] at g1 hqs1
              have HJ := Lib.hid hj
              have j8 : j < 8 := by omega
              have j0 : (0 : Int) ≤ (j : Int) := by omega
              have m0 : (0 : Int) ≤ (q.num : Int) := by omega
              have m1 : (q.num : Int) < 8 := by omega
              have y0 : (0 : Int) ≤ (x.1 : Int) := by omega
              have y1 : (x.1 : Int) < 256 := by have := x.2; omega
              have hcs : (Wd.cell? ⟨so + 1, 1 + j * 8 + q.num, none⟩).isSome = true := by
                rw [Blk.cell hNd]
                simp [rcells, HRN.out]
                omega
              obtain ⟨cv, gcv⟩ := Option.isSome_iff_exists.1 hcs
              have fcv := Blk.free hNd (1 + j * 8 + q.num)
              clear hcs hj
              gi_wp2_with fail
              have hxw : IntKind.u8.wrap (x.1 : Int) = (x.1 : Int) := by unfold IntKind.wrap; simp [IntKind.signed, IntKind.bits]; omega
              have hfin : Hid (LoopI D L B H (so + 1) lb w4.heap.size w (pre ++ [x]) (Wd.setCell ⟨so + 1, 1 + j * 8 + q.num, none⟩ (.int .u8 (x.1 : Int))).drew) := Lib.hid (by
                have hrn := Runs.snoc HRun.out HR.out
                have hmp : (pre ++ [x]).map (·.1) = pre.map (·.1) ++ [x.1] := by simp
                refine ⟨wst D1 (x.1 : Int) q.text, R1'.put q x.1, ([] : List Pc), ?_, ?_, ?_, ⟨some ⟨b, off, none⟩, 0, ?_, ?_, by simp⟩, ?_, ?_, ?_⟩
                · rw [hmp]; exact hrn
                · exact (hDd.other (by omega) _ _).drew
                · have h1 := Blk.set hNd (1 + j * 8 + q.num) (.int .u8 (x.1 : Int))
                  have h2 : (rcells R1').setIfInBounds (1 + j * 8 + q.num) (.int .u8 (x.1 : Int)) = rcells (R1'.put q x.1) := by
                    have hpq : pos q = j * 8 + q.num := by unfold pos; rw [HJ.out]; rfl
                    unfold RS.put
                    rw [hpq, show 1 + j * 8 + q.num = (j * 8 + q.num) + 1 by omega]
                    simp [rcells, List.map_set]
                  rw [h2] at h1
                  exact h1
                · exact (hLd.other (by omega) _ _).drew
                · exact (hPd.move (heap_other Wd (by omega) _ _) (by simp [World.setCell]))
                · exact (hdd.other (by omega) _ _).drew
                · exact (hed.other (by omega) _ _).drew
                · exact (hOd2.setHigh (by omega) _ _).drew)
              refine wpIn_region_round (F := Fence.wide) rfl l (by kernel_rfl) (by kernel_rfl) ?_
              change wpAnyIn _ _ _ _ _ _ 10 _ _ _
              refine wpAnyIn_take (i := 0) (v := ?_) rfl rfl (by kernel_rfl) (by kernel_rfl) (by kernel_rfl) (fun _ _ _ h => h) ⟨Or.inl ⟨by rfl, ?_⟩, fun _ => rfl⟩ ?_
              rotate_left 1
              · intro w
                go_simp
                with_reducible rfl
              refine wpAnyIn_take (i := 2) (v := ?_) rfl rfl (by kernel_rfl) (by kernel_rfl) (by kernel_rfl) (fun _ _ _ h => h) ⟨Or.inl ⟨by rfl, ?_⟩, fun _ => rfl⟩ ?_
              rotate_left 1
              · intro w
                go_simp
                with_reducible rfl
              refine wpAnyIn_take (i := 4) (v := ?_) rfl rfl (by kernel_rfl) (by kernel_rfl) (by kernel_rfl) (fun _ _ _ h => h) ⟨Or.inl ⟨by rfl, ?_⟩, fun _ => rfl⟩ ?_
              rotate_left 1
              · intro w
                go_simp
                with_reducible rfl
              refine wpAnyIn_take (i := 5) (v := ?_) rfl rfl (by kernel_rfl) (by kernel_rfl) (by kernel_rfl) (fun _ _ _ h => h) ⟨Or.inl ⟨by rfl, ?_⟩, fun _ => rfl⟩ ?_
              rotate_left 1
              · intro w
                go_simp
                with_reducible rfl
              refine wpAnyIn_take (i := 6) (v := ?_) rfl rfl (by kernel_rfl) (by kernel_rfl) (by kernel_rfl) (fun _ _ _ h => h) ⟨Or.inl ⟨by rfl, ?_⟩, fun _ => rfl⟩ ?_
              rotate_left 1
              · intro w
                go_simp
                with_reducible rfl
              refine wpAnyIn_ready (rs := [1, 3]) (by kernel_rfl) (by simp) ?_
              refine AllReadyIn.cons rfl (fun K hK => ?_) (AllReadyIn.cons rfl (fun K hK => ?_) AllReadyIn.nil)
              · go_simp
                refine hK _ _ ?_
                clear hK K
                refine wpAnyIn_take (i := 7) (v := ?_) rfl rfl (by kernel_rfl) (by kernel_rfl) (by kernel_rfl) (fun _ _ _ h => h) ⟨Or.inl ⟨by rfl, ?_⟩, fun _ => rfl⟩ ?_
                rotate_left 1
                · intro w
                  go_simp
                  with_reducible rfl
                refine wpAnyIn_ready (rs := [3]) (by kernel_rfl) (by simp) ?_
                refine AllReadyIn.cons rfl (fun K hK => ?_) AllReadyIn.nil
                go_simp
                refine hK _ _ ?_
                clear hK K
                refine wpAnyIn_take (i := 8) (v := ?_) rfl rfl (by kernel_rfl) (by kernel_rfl) (by kernel_rfl) (fun _ _ _ h => h) ⟨Or.inl ⟨by rfl, ?_⟩, fun _ => rfl⟩ ?_
                rotate_left 1
                · intro w
                  go_simp
                  with_reducible rfl
                refine wpAnyIn_ready (rs := [9]) (by kernel_rfl) (by simp) ?_
                refine AllReadyIn.cons rfl (fun K hK => ?_) AllReadyIn.nil
                go_simp
                refine hK _ _ ?_
                clear hK K
                refine wpAnyIn_done (by kernel_rfl) ?_ _
                exact ⟨(hFd.set _ _).drew, (hKd.set (.inr (.inl rfl)) _ _).drew, hfin.out⟩
              · go_simp
                refine hK _ _ ?_
                clear hK K
                refine wpAnyIn_ready (rs := [1]) (by kernel_rfl) (by simp) ?_
                refine AllReadyIn.cons rfl (fun K hK => ?_) AllReadyIn.nil
                go_simp
                refine hK _ _ ?_
                clear hK K
                refine wpAnyIn_take (i := 7) (v := ?_) rfl rfl (by kernel_rfl) (by kernel_rfl) (by kernel_rfl) (fun _ _ _ h => h) ⟨Or.inl ⟨by rfl, ?_⟩, fun _ => rfl⟩ ?_
                rotate_left 1
                · intro w
                  go_simp
                  with_reducible rfl
                refine wpAnyIn_take (i := 8) (v := ?_) rfl rfl (by kernel_rfl) (by kernel_rfl) (by kernel_rfl) (fun _ _ _ h => h) ⟨Or.inl ⟨by rfl, ?_⟩, fun _ => rfl⟩ ?_
                rotate_left 1
                · intro w
                  go_simp
                  with_reducible rfl
                refine wpAnyIn_ready (rs := [9]) (by kernel_rfl) (by simp) ?_
                refine AllReadyIn.cons rfl (fun K hK => ?_) AllReadyIn.nil
                go_simp
                refine hK _ _ ?_
                clear hK K
                refine wpAnyIn_done (by kernel_rfl) ?_ _
                exact ⟨(hFd.set _ _).drew, (hKd.set (.inr (.inl rfl)) _ _).drew, hfin.out⟩
            · have hrb : (r == 0) = false := by simpa using hr0
              have hrb2 : (r != 0) = true := by simpa using hr0
              have ce : Wd.cell? ⟨w.heap.size + 1, 0, none⟩ = some (.int .i64 0) := by rw [← hH]; exact hed.cell 0
              have fe : Wd.frozen? ⟨w.heap.size + 1, 0, none⟩ = false := by rw [← hH]; exact hed.free 0
              gi_wp2_with fail
              refine ⟨hFd.set _ _, .inl ⟨rfl, pre, x, D1, R1', q, ([] : List Pc), rfl, HRun.out, by rw [HR.out]; exact hr0, hDd.other (by omega) _ _, ?_, hOd2.setHigh (by omega) _ _⟩⟩
              rw [HR.out, ← hH]
              exact hed.set 0 (.int .i64 r)
          · have hc2 : (1 : Int) ≤ (cap1 : Int) := by omega
            gi_wp2_with fail
            refine ⟨trivial, ?_⟩
            have hr1 := h.run.bounds hl0
            simp only [List.length_map] at hr1
            obtain ⟨rb1, rb2, rb3, _⟩ := hr1
            have hblb : b ≠ lb := by
              rintro rfl
              rw [hL.cell] at q1
              cases off with
              | zero => cases q1
              | succ o => cases q1
            have hLc := (hL.set 0 (.slice (some ⟨b, off + 3, none⟩) ps'.length (cap1 - 1))).alloc (.cells #[.int .i64 q.slot, .int .i64 (q.num : Int), .string q.text] 85)
            have hDc := (h.disk.other (k := lb) (by omega) 0 (.slice (some ⟨b, off + 3, none⟩) ps'.length (cap1 - 1))).alloc (.cells #[.int .i64 q.slot, .int .i64 (q.num : Int), .string q.text] 85)
            have hNc := (Blk.other h.nxt (k := lb) (by omega) 0 (.slice (some ⟨b, off + 3, none⟩) ps'.length (cap1 - 1))).alloc (.cells #[.int .i64 q.slot, .int .i64 (q.num : Int), .string q.text] 85)
            have hdc := (h.dbox.other (k := lb) (by omega) 0 (.slice (some ⟨b, off + 3, none⟩) ps'.length (cap1 - 1))).alloc (.cells #[.int .i64 q.slot, .int .i64 (q.num : Int), .string q.text] 85)
            have hec := (h.ebox.other (k := lb) (by omega) 0 (.slice (some ⟨b, off + 3, none⟩) ps'.length (cap1 - 1))).alloc (.cells #[.int .i64 q.slot, .int .i64 (q.num : Int), .string q.text] 85)
            have hPc := (hP.tail.move (heap_other W hblb 0 (.slice (some ⟨b, off + 3, none⟩) ps'.length (cap1 - 1))) (by simp [World.setCell])).grown (World.grownBy_alloc _ (.cells #[.int .i64 q.slot, .int .i64 (q.num : Int), .string q.text] 85) none) (fun r h => by cases h)
            have hXc := Blk.new_at (W.setCell ⟨lb, 0, none⟩ (.slice (some ⟨b, off + 3, none⟩) ps'.length (cap1 - 1))) (g := W.heap.size) (by simp [World.setCell]) #[.int .i64 q.slot, .int .i64 (q.num : Int), .string q.text] 85
            have hOc := (h.off.setHigh (k := lb) (by omega) 0 (.slice (some ⟨b, off + 3, none⟩) ps'.length (cap1 - 1))).alloc (.cells #[.int .i64 q.slot, .int .i64 (q.num : Int), .string q.text] 85)
            have hKc := (hK0.set (b := lb) (.inr (.inr rfl)) 0 (.slice (some ⟨b, off + 3, none⟩) ps'.length (cap1 - 1))).alloc (.cells #[.int .i64 q.slot, .int .i64 (q.num : Int), .string q.text] 85)
            have hFc := (hF0.set ⟨lb, 0, none⟩ (.slice (some ⟨b, off + 3, none⟩) ps'.length (cap1 - 1))).alloc (.cells #[.int .i64 q.slot, .int .i64 (q.num : Int), .string q.text] 85)
            obtain ⟨r, hr⟩ : ∃ r, wres D1 (x.1 : Int) q.text = r := ⟨_, rfl⟩
            have hwr := write_any hDc rb1 (by omega) (by omega) (by omega) (x.1 : Int) q.text
            rw [hr] at hwr
            have HRun := Lib.hid h.run
            have HR := Lib.hid hr
            have HRN := Lib.hid (h.run.plen (HNX.out ▸ (clrAll_spec L R1 (by rw [HR1'.out]; exact HR0.out.len) (by rw [HR1'.out]; exact HR0.out.b)).1))
            have hXl : lb < W.heap.size := hLl
            clear hr hL hP hpc h c9 q1 q2 q3 hK0 hF0 f9 c2
            generalize (W.setCell ⟨lb, 0, none⟩ (.slice (some ⟨b, off + 3, none⟩) ps'.length (cap1 - 1))).alloc (.cells #[.int .i64 q.slot, .int .i64 (q.num : Int), .string q.text] 85) = Wc at *
            refine (CallsIn.inRound l (callsIn_wide.2 hwr)).mono ?_
            rintro e Wd ⟨rfl, hDd, hOd⟩
            have hLd := hLc.off hOd (by omega)
            have hNd := Blk.off hNc hOd (by omega)
            have hdd := hdc.off hOd (by omega)
            have hed := hec.off hOd (by omega)
            have hXd := hXc.off hOd (by omega)
            have hPd := hPc.move (hOd.block b (by have := hXc.lt; omega) (by omega)) hOd.size
            have hOd2 := hOc.trans hOd
            have hKd := hKc.off (.inl rfl) hOd
            have hFd := hFc.off hDc hOd
            clear hLc hNc hdc hec hXc hPc hOc hKc hFc hOd hDc hwr
            by_cases hr0 : r = 0
            · subst hr0
              obtain ⟨_, _, _, done, hdn⟩ := HRun.out.bounds hl0
              obtain ⟨hq64, hq8, hqs0, hqs1⟩ := pieces_pos HCK.out (q := q) (by rw [hdn]; simp)
              clear hdn
              obtain ⟨j, hj⟩ := Int.eq_ofNat_of_zero_le hqs0
              have x1 : W.heap.size < Wd.heap.size := hXd.lt
              have g1 : Wd.cell? ⟨W.heap.size, 0, none⟩ = some (.int .i64 q.slot) := hXd.cell 0
              have g2 : Wd.cell? ⟨W.heap.size, 1, none⟩ = some (.int .i64 (q.num : Int)) := hXd.cell 1
              rw [hj] at g1 hqs1
              have HJ := Lib.hid hj
              have j8 : j < 8 := by omega
              have j0 : (0 : Int) ≤ (j : Int) := by omega
              have m0 : (0 : Int) ≤ (q.num : Int) := by omega
              have m1 : (q.num : Int) < 8 := by omega
              have y0 : (0 : Int) ≤ (x.1 : Int) := by omega
              have y1 : (x.1 : Int) < 256 := by have := x.2; omega
              have hcs : (Wd.cell? ⟨so + 1, 1 + j * 8 + q.num, none⟩).isSome = true := by
                rw [Blk.cell hNd]
                simp [rcells, HRN.out]
                omega
              obtain ⟨cv, gcv⟩ := Option.isSome_iff_exists.1 hcs
              have fcv := Blk.free hNd (1 + j * 8 + q.num)
              clear hcs hj
              gi_wp2_with fail
              have hxw : IntKind.u8.wrap (x.1 : Int) = (x.1 : Int) := by unfold IntKind.wrap; simp [IntKind.signed, IntKind.bits]; omega
              have hfin : Hid (LoopI D L B H (so + 1) lb w4.heap.size w (pre ++ [x]) (Wd.setCell ⟨so + 1, 1 + j * 8 + q.num, none⟩ (.int .u8 (x.1 : Int))).drew) := Lib.hid (by
                have hrn := Runs.snoc HRun.out HR.out
                have hmp : (pre ++ [x]).map (·.1) = pre.map (·.1) ++ [x.1] := by simp
                refine ⟨wst D1 (x.1 : Int) q.text, R1'.put q x.1, ps', ?_, ?_, ?_, ⟨some ⟨b, off + 3, none⟩, cap1 - 1, ?_, ?_, by omega⟩, ?_, ?_, ?_⟩
                · rw [hmp]; exact hrn
                · exact (hDd.other (by omega) _ _).drew
                · have h1 := Blk.set hNd (1 + j * 8 + q.num) (.int .u8 (x.1 : Int))
                  have h2 : (rcells R1').setIfInBounds (1 + j * 8 + q.num) (.int .u8 (x.1 : Int)) = rcells (R1'.put q x.1) := by
                    have hpq : pos q = j * 8 + q.num := by unfold pos; rw [HJ.out]; rfl
                    unfold RS.put
                    rw [hpq, show 1 + j * 8 + q.num = (j * 8 + q.num) + 1 by omega]
                    simp [rcells, List.map_set]
                  rw [h2] at h1
                  exact h1
                · exact (hLd.other (by omega) _ _).drew
                · exact (hPd.move (heap_other Wd (by omega) _ _) (by simp [World.setCell]))
                · exact (hdd.other (by omega) _ _).drew
                · exact (hed.other (by omega) _ _).drew
                · exact (hOd2.setHigh (by omega) _ _).drew)
              refine wpIn_region_round (F := Fence.wide) rfl l (by kernel_rfl) (by kernel_rfl) ?_
              change wpAnyIn _ _ _ _ _ _ 10 _ _ _
              refine wpAnyIn_take (i := 0) (v := ?_) rfl rfl (by kernel_rfl) (by kernel_rfl) (by kernel_rfl) (fun _ _ _ h => h) ⟨Or.inl ⟨by rfl, ?_⟩, fun _ => rfl⟩ ?_
              rotate_left 1
              · intro w
                go_simp
                with_reducible rfl
              refine wpAnyIn_take (i := 2) (v := ?_) rfl rfl (by kernel_rfl) (by kernel_rfl) (by kernel_rfl) (fun _ _ _ h => h) ⟨Or.inl ⟨by rfl, ?_⟩, fun _ => rfl⟩ ?_
              rotate_left 1
              · intro w
                go_simp
                with_reducible rfl
              refine wpAnyIn_take (i := 4) (v := ?_) rfl rfl (by kernel_rfl) (by kernel_rfl) (by kernel_rfl) (fun _ _ _ h => h) ⟨Or.inl ⟨by rfl, ?_⟩, fun _ => rfl⟩ ?_
              rotate_left 1
              · intro w
                go_simp
                with_reducible rfl
              refine wpAnyIn_take (i := 5) (v := ?_) rfl rfl (by kernel_rfl) (by kernel_rfl) (by kernel_rfl) (fun _ _ _ h => h) ⟨Or.inl ⟨by rfl, ?_⟩, fun _ => rfl⟩ ?_
              rotate_left 1
              · intro w
                go_simp
                with_reducible rfl
              refine wpAnyIn_take (i := 6) (v := ?_) rfl rfl (by kernel_rfl) (by kernel_rfl) (by kernel_rfl) (fun _ _ _ h => h) ⟨Or.inl ⟨by rfl, ?_⟩, fun _ => rfl⟩ ?_
              rotate_left 1
              · intro w
                go_simp
                with_reducible rfl
              refine wpAnyIn_ready (rs := [1, 3]) (by kernel_rfl) (by simp) ?_
              refine AllReadyIn.cons rfl (fun K hK => ?_) (AllReadyIn.cons rfl (fun K hK => ?_) AllReadyIn.nil)
              · go_simp
                refine hK _ _ ?_
                clear hK K
                refine wpAnyIn_take (i := 7) (v := ?_) rfl rfl (by kernel_rfl) (by kernel_rfl) (by kernel_rfl) (fun _ _ _ h => h) ⟨Or.inl ⟨by rfl, ?_⟩, fun _ => rfl⟩ ?_
                rotate_left 1
                · intro w
                  go_simp
                  with_reducible rfl
                refine wpAnyIn_ready (rs := [3]) (by kernel_rfl) (by simp) ?_
                refine AllReadyIn.cons rfl (fun K hK => ?_) AllReadyIn.nil
                go_simp
                refine hK _ _ ?_
                clear hK K
                refine wpAnyIn_take (i := 8) (v := ?_) rfl rfl (by kernel_rfl) (by kernel_rfl) (by kernel_rfl) (fun _ _ _ h => h) ⟨Or.inl ⟨by rfl, ?_⟩, fun _ => rfl⟩ ?_
                rotate_left 1
                · intro w
                  go_simp
                  with_reducible rfl
                refine wpAnyIn_ready (rs := [9]) (by kernel_rfl) (by simp) ?_
                refine AllReadyIn.cons rfl (fun K hK => ?_) AllReadyIn.nil
                go_simp
                refine hK _ _ ?_
                clear hK K
                refine wpAnyIn_done (by kernel_rfl) ?_ _
                exact ⟨(hFd.set _ _).drew, (hKd.set (.inr (.inl rfl)) _ _).drew, hfin.out⟩
              · go_simp
                refine hK _ _ ?_
                clear hK K
                refine wpAnyIn_ready (rs := [1]) (by kernel_rfl) (by simp) ?_
                refine AllReadyIn.cons rfl (fun K hK => ?_) AllReadyIn.nil
                go_simp
                refine hK _ _ ?_
                clear hK K
                refine wpAnyIn_take (i := 7) (v := ?_) rfl rfl (by kernel_rfl) (by kernel_rfl) (by kernel_rfl) (fun _ _ _ h => h) ⟨Or.inl ⟨by rfl, ?_⟩, fun _ => rfl⟩ ?_
                rotate_left 1
                · intro w
                  go_simp
                  with_reducible rfl
                refine wpAnyIn_take (i := 8) (v := ?_) rfl rfl (by kernel_rfl) (by kernel_rfl) (by kernel_rfl) (fun _ _ _ h => h) ⟨Or.inl ⟨by rfl, ?_⟩, fun _ => rfl⟩ ?_
                rotate_left 1
                · intro w
                  go_simp
                  with_reducible rfl
                refine wpAnyIn_ready (rs := [9]) (by kernel_rfl) (by simp) ?_
                refine AllReadyIn.cons rfl (fun K hK => ?_) AllReadyIn.nil
                go_simp
                refine hK _ _ ?_
                clear hK K
                refine wpAnyIn_done (by kernel_rfl) ?_ _
                exact ⟨(hFd.set _ _).drew, (hKd.set (.inr (.inl rfl)) _ _).drew, hfin.out⟩
            · have hrb : (r == 0) = false := by simpa using hr0
              have hrb2 : (r != 0) = true := by simpa using hr0
              have ce : Wd.cell? ⟨w.heap.size + 1, 0, none⟩ = some (.int .i64 0) := by rw [← hH]; exact hed.cell 0
              have fe : Wd.frozen? ⟨w.heap.size + 1, 0, none⟩ = false := by rw [← hH]; exact hed.free 0
              gi_wp2_with fail
              refine ⟨hFd.set _ _, .inl ⟨rfl, pre, x, D1, R1', q, ps', rfl, HRun.out, by rw [HR.out]; exact hr0, hDd.other (by omega) _ _, ?_, hOd2.setHigh (by omega) _ _⟩⟩
              rw [HR.out, ← hH]
              exact hed.set 0 (.int .i64 r)
      case done =>
        rintro D2 xs W hD2 hxs ⟨D1, R1', ps, h⟩ hK
        have hpfx : xs.map (·.1) <+: frees (root D) := by rw [hxs]; exact List.prefix_refl _
        go_wp2_with fail
        obtain ⟨hRn, _⟩ := next0_spec HR0.out L
        obtain ⟨done, ff⟩ := h.run.facts hD.1 hl0 hRn (pieces_apart HCK.out) (fun q hq => (pieces_pos HCK.out hq).1) (List.Nodup.sublist hpfx.sublist (frees_nodup (root D))) (fun x hx => (mem_frees.1 (hpfx.subset hx)).1)
        have hrok := ff.rok
        have hrun := h.run
        obtain ⟨rb1, rb2, rb3, _⟩ := h.run.bounds hl0
        have hplen : (xs.map (·.1)).length ≤ 160 := by
          have h1 := hpfx.length_le
          have h2 : (frees (root D)).length ≤ 160 := by
            have := List.length_filter_le (isFree (root D).P) (List.range 160)
            simpa [frees_eq] using this
          omega
        have c2 : W.drew.cell? ⟨w.heap.size, 0, none⟩ = some (.pointer (some ⟨B, 0, none⟩)) := by rw [← hH]; exact h.dbox.cell 0
        have hl2 : w.heap.size < W.heap.size := by rw [← hH]; exact h.dbox.lt
        have hel2 : w.heap.size + 1 < W.heap.size := by rw [← hH]; exact h.ebox.lt
        have hsl : so + 1 < W.heap.size := Blk.lt h.nxt
        have hu66 := Try.underlying66
        have hi66 := RS.info (R := R1') hrok.len
        have nZ : Blk W.drew (so + 1) (rcells R1') 66 := h.nxt
        have htx := text_any hrok W.drew
        have hDk : DiskAt W.drew B D1 := h.disk
        have hBW : B < W.heap.size := h.disk.lt
        have heb : Blk W.drew (H + 1) #[.int .i64 0] 36 := h.ebox
        have hof := h.off
        have hD2l : D2 < W.heap.size := (Array.getElem?_eq_some_iff.1 hK).1
        have hKW : W.drew.heap[D2]? = some (.deferred (some [])) := hK
        obtain ⟨r, hr⟩ : ∃ r, wres D1 0 (textOf R1') = r := ⟨_, rfl⟩
        have HR := Lib.hid hr
        have HRK := Lib.hid hrok
        clear h ff hr hrok hK
        obtain ⟨Z, hZ⟩ : ∃ Z, Z = rcells R1' := ⟨_, rfl⟩
        rw [← hZ] at hi66 nZ htx
        have HZ := Lib.hid hZ
        clear hZ
        refine wp_region_any (by kernel_rfl) ?_
        change wpAny _ _ _ _ _ _ _ (World.drew _)
        refine wpAny_ready (rs := [0, 1]) (by kernel_rfl) (by simp) ?_
        refine AllReady.cons rfl (fun K hK => ?_) (AllReady.cons rfl (fun K hK => ?_) AllReady.nil)
        · go_simp
          refine hK _ _ ?_
          clear hK K
          refine wpAny_ready (rs := [1]) (by kernel_rfl) (by simp) ?_
          refine AllReady.cons rfl (fun K hK => ?_) AllReady.nil
          refine step_load_row rfl 66 (.tmp 6) rfl (so + 1) (by simp [Act.eval]) 66 Z (0, 0) _ nZ hu66 rfl hi66 ?_
          refine hK _ _ ?_
          clear hK K
          refine wpAny_ready (rs := [2]) (by kernel_rfl) (by simp) ?_
          refine AllReady.cons rfl (fun K hK => ?_) AllReady.nil
          go_simp
          go_wp2_with (go_at_call 32; refine htx.mono ?_; rintro e w5 ⟨rfl, hb5⟩)
          have q3 : w5.cell? ⟨w.heap.size, 0, none⟩ = some (.pointer (some ⟨B, 0, none⟩)) := (hb5.cell (p := ⟨w.heap.size, 0, none⟩) hl2).trans c2
          have hD5 := hDk.below hb5 hBW
          have he5 := heb.below hb5 heb.lt
          have hK5 := (hb5.block D2 hD2l).trans hKW
          have hz5 : W.heap.size ≤ w5.heap.size := hb5.size
          have hO5 := hof.drew.trans (Off.below (B := B) hb5)
          have hwr := write_any hD5 rb1 (by omega) (by omega) (by omega) 0 (textOf R1')
          rw [HR.out] at hwr
          refine wpAny_ready (rs := [3]) (by kernel_rfl) (by simp) ?_
          refine AllReady.cons rfl (fun K hK => ?_) AllReady.nil
          go_simp
          go_wp2_with (go_at_call 31; refine hwr.mono ?_; rintro e w6 ⟨rfl, hD6, hO6⟩)
          have he6 := he5.off hO6 (by omega)
          have ce6 : w6.cell? ⟨w.heap.size + 1, 0, none⟩ = some (.int .i64 0) := by rw [← hH]; exact he6.cell 0
          have fe6 : w6.frozen? ⟨w.heap.size + 1, 0, none⟩ = false := by rw [← hH]; exact he6.free 0
          have hK6 := (hO6.block D2 (by omega) (by omega)).trans hK5
          have hO66 := hO5.trans hO6
          refine wpAny_ready (rs := [4]) (by kernel_rfl) (by simp) ?_
          refine AllReady.cons rfl (fun K hK => ?_) AllReady.nil
          go_simp
          refine hK _ _ ?_
          clear hK K
          refine wpAny_done (by kernel_rfl) ?_ _
          go_wp2_with fail
          have hKf : (w6.setCell ⟨w.heap.size + 1, 0, none⟩ (.int .i64 r)).heap[D2]? = some (.deferred (some [])) := (heap_other w6 (by omega) 0 _).trans hK6
          refine ⟨by simp, .inl ⟨_, _, rfl, run_takeDeferred hKf, ?_⟩⟩
          have he6' : Blk w6 (w.heap.size + 1) #[.int .i64 0] 36 := by rw [← hH]; exact he6
          have hE := (he6'.set 0 (.int .i64 r)).grown (grownBy_putObj' _ D2 (.deferred none)) (fun q e => by cases e; exact ⟨_, hKf, rfl⟩)
          have hDf := (hD6.other (k := w.heap.size + 1) (by omega) 0 (.int .i64 r)).grown (grownBy_putObj' _ D2 (.deferred none)) (fun q e => by cases e; exact ⟨_, hKf, rfl⟩)
          have hOf := (hO66.setHigh (k := w.heap.size + 1) (by omega) 0 (.int .i64 r)).grown (grownBy_putObj' _ D2 (.deferred none)) (fun q e => by cases e; omega)
          exact ⟨.int .i64 r, res_write _ _ (w.heap.size + 1) r rfl (hE.cell 0), r, _, rfl, .inl ⟨_, D1, R1', ps, .inr hxs, hpfx, hrun, HR.out.symm, rfl⟩, hDf, hOf⟩
        · refine step_load_row rfl 66 (.tmp 6) rfl (so + 1) (by simp [Act.eval]) 66 Z (0, 0) _ nZ hu66 rfl hi66 ?_
          refine hK _ _ ?_
          clear hK K
          refine wpAny_ready (rs := [0, 2]) (by kernel_rfl) (by simp) ?_
          refine AllReady.cons rfl (fun K hK => ?_) (AllReady.cons rfl (fun K hK => ?_) AllReady.nil)
          · go_simp
            refine hK _ _ ?_
            clear hK K
            refine wpAny_ready (rs := [2]) (by kernel_rfl) (by simp) ?_
            refine AllReady.cons rfl (fun K hK => ?_) AllReady.nil
            go_simp
            go_wp2_with (go_at_call 32; refine htx.mono ?_; rintro e w5 ⟨rfl, hb5⟩)
            have q3 : w5.cell? ⟨w.heap.size, 0, none⟩ = some (.pointer (some ⟨B, 0, none⟩)) := (hb5.cell (p := ⟨w.heap.size, 0, none⟩) hl2).trans c2
            have hD5 := hDk.below hb5 hBW
            have he5 := heb.below hb5 heb.lt
            have hK5 := (hb5.block D2 hD2l).trans hKW
            have hz5 : W.heap.size ≤ w5.heap.size := hb5.size
            have hO5 := hof.drew.trans (Off.below (B := B) hb5)
            have hwr := write_any hD5 rb1 (by omega) (by omega) (by omega) 0 (textOf R1')
            rw [HR.out] at hwr
            refine wpAny_ready (rs := [3]) (by kernel_rfl) (by simp) ?_
            refine AllReady.cons rfl (fun K hK => ?_) AllReady.nil
            go_simp
            go_wp2_with (go_at_call 31; refine hwr.mono ?_; rintro e w6 ⟨rfl, hD6, hO6⟩)
            have he6 := he5.off hO6 (by omega)
            have ce6 : w6.cell? ⟨w.heap.size + 1, 0, none⟩ = some (.int .i64 0) := by rw [← hH]; exact he6.cell 0
            have fe6 : w6.frozen? ⟨w.heap.size + 1, 0, none⟩ = false := by rw [← hH]; exact he6.free 0
            have hK6 := (hO6.block D2 (by omega) (by omega)).trans hK5
            have hO66 := hO5.trans hO6
            refine wpAny_ready (rs := [4]) (by kernel_rfl) (by simp) ?_
            refine AllReady.cons rfl (fun K hK => ?_) AllReady.nil
            go_simp
            refine hK _ _ ?_
            clear hK K
            refine wpAny_done (by kernel_rfl) ?_ _
            go_wp2_with fail
            have hKf : (w6.setCell ⟨w.heap.size + 1, 0, none⟩ (.int .i64 r)).heap[D2]? = some (.deferred (some [])) := (heap_other w6 (by omega) 0 _).trans hK6
            refine ⟨by simp, .inl ⟨_, _, rfl, run_takeDeferred hKf, ?_⟩⟩
            have he6' : Blk w6 (w.heap.size + 1) #[.int .i64 0] 36 := by rw [← hH]; exact he6
            have hE := (he6'.set 0 (.int .i64 r)).grown (grownBy_putObj' _ D2 (.deferred none)) (fun q e => by cases e; exact ⟨_, hKf, rfl⟩)
            have hDf := (hD6.other (k := w.heap.size + 1) (by omega) 0 (.int .i64 r)).grown (grownBy_putObj' _ D2 (.deferred none)) (fun q e => by cases e; exact ⟨_, hKf, rfl⟩)
            have hOf := (hO66.setHigh (k := w.heap.size + 1) (by omega) 0 (.int .i64 r)).grown (grownBy_putObj' _ D2 (.deferred none)) (fun q e => by cases e; omega)
            exact ⟨.int .i64 r, res_write _ _ (w.heap.size + 1) r rfl (hE.cell 0), r, _, rfl, .inl ⟨_, D1, R1', ps, .inr hxs, hpfx, hrun, HR.out.symm, rfl⟩, hDf, hOf⟩
          · go_simp
            go_wp2_with (go_at_call 32; refine htx.mono ?_; rintro e w5 ⟨rfl, hb5⟩)
            have q3 : w5.cell? ⟨w.heap.size, 0, none⟩ = some (.pointer (some ⟨B, 0, none⟩)) := (hb5.cell (p := ⟨w.heap.size, 0, none⟩) hl2).trans c2
            have hD5 := hDk.below hb5 hBW
            have he5 := heb.below hb5 heb.lt
            have hK5 := (hb5.block D2 hD2l).trans hKW
            have hz5 : W.heap.size ≤ w5.heap.size := hb5.size
            have hO5 := hof.drew.trans (Off.below (B := B) hb5)
            have hwr := write_any hD5 rb1 (by omega) (by omega) (by omega) 0 (textOf R1')
            rw [HR.out] at hwr
            refine wpAny_ready (rs := [0]) (by kernel_rfl) (by simp) ?_
            refine AllReady.cons rfl (fun K hK => ?_) AllReady.nil
            go_simp
            refine hK _ _ ?_
            clear hK K
            refine wpAny_ready (rs := [3]) (by kernel_rfl) (by simp) ?_
            refine AllReady.cons rfl (fun K hK => ?_) AllReady.nil
            go_simp
            go_wp2_with (go_at_call 31; refine hwr.mono ?_; rintro e w6 ⟨rfl, hD6, hO6⟩)
            have he6 := he5.off hO6 (by omega)
            have ce6 : w6.cell? ⟨w.heap.size + 1, 0, none⟩ = some (.int .i64 0) := by rw [← hH]; exact he6.cell 0
            have fe6 : w6.frozen? ⟨w.heap.size + 1, 0, none⟩ = false := by rw [← hH]; exact he6.free 0
            have hK6 := (hO6.block D2 (by omega) (by omega)).trans hK5
            have hO66 := hO5.trans hO6
            refine wpAny_ready (rs := [4]) (by kernel_rfl) (by simp) ?_
            refine AllReady.cons rfl (fun K hK => ?_) AllReady.nil
            go_simp
            refine hK _ _ ?_
            clear hK K
            refine wpAny_done (by kernel_rfl) ?_ _
            go_wp2_with fail
            have hKf : (w6.setCell ⟨w.heap.size + 1, 0, none⟩ (.int .i64 r)).heap[D2]? = some (.deferred (some [])) := (heap_other w6 (by omega) 0 _).trans hK6
            refine ⟨by simp, .inl ⟨_, _, rfl, run_takeDeferred hKf, ?_⟩⟩
            have he6' : Blk w6 (w.heap.size + 1) #[.int .i64 0] 36 := by rw [← hH]; exact he6
            have hE := (he6'.set 0 (.int .i64 r)).grown (grownBy_putObj' _ D2 (.deferred none)) (fun q e => by cases e; exact ⟨_, hKf, rfl⟩)
            have hDf := (hD6.other (k := w.heap.size + 1) (by omega) 0 (.int .i64 r)).grown (grownBy_putObj' _ D2 (.deferred none)) (fun q e => by cases e; exact ⟨_, hKf, rfl⟩)
            have hOf := (hO66.setHigh (k := w.heap.size + 1) (by omega) 0 (.int .i64 r)).grown (grownBy_putObj' _ D2 (.deferred none)) (fun q e => by cases e; omega)
            exact ⟨.int .i64 r, res_write _ _ (w.heap.size + 1) r rfl (hE.cell 0), r, _, rfl, .inl ⟨_, D1, R1', ps, .inr hxs, hpfx, hrun, HR.out.symm, rfl⟩, hDf, hOf⟩
      case stop =>
        rintro D2 c pre W hD2 hpf (⟨rfl, pre', x, D1, R1', q, ps, rfl, hrun, hre, hdk, heb, hof⟩ | ⟨rfl, pre', x, D1, R1', rfl, h⟩) hK
        · gi_wp2_with fail
          refine ⟨by simp, .inl ⟨_, _, rfl, run_takeDeferred hK, ?_⟩⟩
          have heb' : Blk W (w.heap.size + 1) #[.int .i64 (wres D1 (x.1 : Int) q.text)] 36 := by rw [← hH]; exact heb
          have hE := heb'.grown (grownBy_putObj' _ D2 (.deferred none)) (fun q e => by cases e; exact ⟨_, hK, rfl⟩)
          have hDf := hdk.grown (grownBy_putObj' _ D2 (.deferred none)) (fun q e => by cases e; exact ⟨_, hK, rfl⟩)
          have hOf := hof.grown (grownBy_putObj' _ D2 (.deferred none)) (fun q e => by cases e; omega)
          have hpf2 : pre'.map (·.1) ++ [x.1] <+: frees (root D) := by simpa using hpf
          exact ⟨.int .i64 (wres D1 (x.1 : Int) q.text), res_write _ _ (w.heap.size + 1) _ rfl (hE.cell 0), _, _, rfl, .inr ⟨_, x.1, D1, R1', q, ps, hpf2, hrun, rfl, hre, rfl⟩, hDf, hOf⟩
        · have hpfx : pre'.map (·.1) <+: frees (root D) := List.IsPrefix.trans (by simp) hpf
          refine wpIn_wide.2 ?_
          go_wp2_with fail
          obtain ⟨hRn, _⟩ := next0_spec HR0.out L
          obtain ⟨done, ff⟩ := h.run.facts hD.1 hl0 hRn (pieces_apart HCK.out) (fun q hq => (pieces_pos HCK.out hq).1) (List.Nodup.sublist hpfx.sublist (frees_nodup (root D))) (fun x hx => (mem_frees.1 (hpfx.subset hx)).1)
          have hrok := ff.rok
          have hrun := h.run
          obtain ⟨rb1, rb2, rb3, _⟩ := h.run.bounds hl0
          have hplen : (pre'.map (·.1)).length ≤ 160 := by
            have h1 := hpfx.length_le
            have h2 : (frees (root D)).length ≤ 160 := by
              have := List.length_filter_le (isFree (root D).P) (List.range 160)
              simpa [frees_eq] using this
            omega
          have c2 : W.drew.cell? ⟨w.heap.size, 0, none⟩ = some (.pointer (some ⟨B, 0, none⟩)) := by rw [← hH]; exact h.dbox.cell 0
          have hl2 : w.heap.size < W.heap.size := by rw [← hH]; exact h.dbox.lt
          have hel2 : w.heap.size + 1 < W.heap.size := by rw [← hH]; exact h.ebox.lt
          have hsl : so + 1 < W.heap.size := Blk.lt h.nxt
          have hu66 := Try.underlying66
          have hi66 := RS.info (R := R1') hrok.len
          have nZ : Blk W.drew (so + 1) (rcells R1') 66 := h.nxt
          have htx := text_any hrok W.drew
          have hDk : DiskAt W.drew B D1 := h.disk
          have hBW : B < W.heap.size := h.disk.lt
          have heb : Blk W.drew (H + 1) #[.int .i64 0] 36 := h.ebox
          have hof := h.off
          have hD2l : D2 < W.heap.size := (Array.getElem?_eq_some_iff.1 hK).1
          have hKW : W.drew.heap[D2]? = some (.deferred (some [])) := hK
          obtain ⟨r, hr⟩ : ∃ r, wres D1 0 (textOf R1') = r := ⟨_, rfl⟩
          have HR := Lib.hid hr
          have HRK := Lib.hid hrok
          clear h ff hr hrok hK
          obtain ⟨Z, hZ⟩ : ∃ Z, Z = rcells R1' := ⟨_, rfl⟩
          rw [← hZ] at hi66 nZ htx
          have HZ := Lib.hid hZ
          clear hZ
          refine wp_region_any (by kernel_rfl) ?_
          change wpAny _ _ _ _ _ _ _ (World.drew _)
          refine wpAny_ready (rs := [0, 1]) (by kernel_rfl) (by simp) ?_
          refine AllReady.cons rfl (fun K hK => ?_) (AllReady.cons rfl (fun K hK => ?_) AllReady.nil)
          · go_simp
            refine hK _ _ ?_
            clear hK K
            refine wpAny_ready (rs := [1]) (by kernel_rfl) (by simp) ?_
            refine AllReady.cons rfl (fun K hK => ?_) AllReady.nil
            refine step_load_row rfl 66 (.tmp 6) rfl (so + 1) (by simp [Act.eval]) 66 Z (0, 0) _ nZ hu66 rfl hi66 ?_
            refine hK _ _ ?_
            clear hK K
            refine wpAny_ready (rs := [2]) (by kernel_rfl) (by simp) ?_
            refine AllReady.cons rfl (fun K hK => ?_) AllReady.nil
            go_simp
            go_wp2_with (go_at_call 32; refine htx.mono ?_; rintro e w5 ⟨rfl, hb5⟩)
            have q3 : w5.cell? ⟨w.heap.size, 0, none⟩ = some (.pointer (some ⟨B, 0, none⟩)) := (hb5.cell (p := ⟨w.heap.size, 0, none⟩) hl2).trans c2
            have hD5 := hDk.below hb5 hBW
            have he5 := heb.below hb5 heb.lt
            have hK5 := (hb5.block D2 hD2l).trans hKW
            have hz5 : W.heap.size ≤ w5.heap.size := hb5.size
            have hO5 := hof.drew.trans (Off.below (B := B) hb5)
            have hwr := write_any hD5 rb1 (by omega) (by omega) (by omega) 0 (textOf R1')
            rw [HR.out] at hwr
            refine wpAny_ready (rs := [3]) (by kernel_rfl) (by simp) ?_
            refine AllReady.cons rfl (fun K hK => ?_) AllReady.nil
            go_simp
            go_wp2_with (go_at_call 31; refine hwr.mono ?_; rintro e w6 ⟨rfl, hD6, hO6⟩)
            have he6 := he5.off hO6 (by omega)
            have ce6 : w6.cell? ⟨w.heap.size + 1, 0, none⟩ = some (.int .i64 0) := by rw [← hH]; exact he6.cell 0
            have fe6 : w6.frozen? ⟨w.heap.size + 1, 0, none⟩ = false := by rw [← hH]; exact he6.free 0
            have hK6 := (hO6.block D2 (by omega) (by omega)).trans hK5
            have hO66 := hO5.trans hO6
            refine wpAny_ready (rs := [4]) (by kernel_rfl) (by simp) ?_
            refine AllReady.cons rfl (fun K hK => ?_) AllReady.nil
            go_simp
            refine hK _ _ ?_
            clear hK K
            refine wpAny_done (by kernel_rfl) ?_ _
            go_wp2_with fail
            have hKf : (w6.setCell ⟨w.heap.size + 1, 0, none⟩ (.int .i64 r)).heap[D2]? = some (.deferred (some [])) := (heap_other w6 (by omega) 0 _).trans hK6
            refine ⟨by simp, .inl ⟨_, _, rfl, run_takeDeferred hKf, ?_⟩⟩
            have he6' : Blk w6 (w.heap.size + 1) #[.int .i64 0] 36 := by rw [← hH]; exact he6
            have hE := (he6'.set 0 (.int .i64 r)).grown (grownBy_putObj' _ D2 (.deferred none)) (fun q e => by cases e; exact ⟨_, hKf, rfl⟩)
            have hDf := (hD6.other (k := w.heap.size + 1) (by omega) 0 (.int .i64 r)).grown (grownBy_putObj' _ D2 (.deferred none)) (fun q e => by cases e; exact ⟨_, hKf, rfl⟩)
            have hOf := (hO66.setHigh (k := w.heap.size + 1) (by omega) 0 (.int .i64 r)).grown (grownBy_putObj' _ D2 (.deferred none)) (fun q e => by cases e; omega)
            exact ⟨.int .i64 r, res_write _ _ (w.heap.size + 1) r rfl (hE.cell 0), r, _, rfl, .inl ⟨_, D1, R1', [], .inl rfl, hpfx, hrun, HR.out.symm, rfl⟩, hDf, hOf⟩
          · refine step_load_row rfl 66 (.tmp 6) rfl (so + 1) (by simp [Act.eval]) 66 Z (0, 0) _ nZ hu66 rfl hi66 ?_
            refine hK _ _ ?_
            clear hK K
            refine wpAny_ready (rs := [0, 2]) (by kernel_rfl) (by simp) ?_
            refine AllReady.cons rfl (fun K hK => ?_) (AllReady.cons rfl (fun K hK => ?_) AllReady.nil)
            · go_simp
              refine hK _ _ ?_
              clear hK K
              refine wpAny_ready (rs := [2]) (by kernel_rfl) (by simp) ?_
              refine AllReady.cons rfl (fun K hK => ?_) AllReady.nil
              go_simp
              go_wp2_with (go_at_call 32; refine htx.mono ?_; rintro e w5 ⟨rfl, hb5⟩)
              have q3 : w5.cell? ⟨w.heap.size, 0, none⟩ = some (.pointer (some ⟨B, 0, none⟩)) := (hb5.cell (p := ⟨w.heap.size, 0, none⟩) hl2).trans c2
              have hD5 := hDk.below hb5 hBW
              have he5 := heb.below hb5 heb.lt
              have hK5 := (hb5.block D2 hD2l).trans hKW
              have hz5 : W.heap.size ≤ w5.heap.size := hb5.size
              have hO5 := hof.drew.trans (Off.below (B := B) hb5)
              have hwr := write_any hD5 rb1 (by omega) (by omega) (by omega) 0 (textOf R1')
              rw [HR.out] at hwr
              refine wpAny_ready (rs := [3]) (by kernel_rfl) (by simp) ?_
              refine AllReady.cons rfl (fun K hK => ?_) AllReady.nil
              go_simp
              go_wp2_with (go_at_call 31; refine hwr.mono ?_; rintro e w6 ⟨rfl, hD6, hO6⟩)
              have he6 := he5.off hO6 (by omega)
              have ce6 : w6.cell? ⟨w.heap.size + 1, 0, none⟩ = some (.int .i64 0) := by rw [← hH]; exact he6.cell 0
              have fe6 : w6.frozen? ⟨w.heap.size + 1, 0, none⟩ = false := by rw [← hH]; exact he6.free 0
              have hK6 := (hO6.block D2 (by omega) (by omega)).trans hK5
              have hO66 := hO5.trans hO6
              refine wpAny_ready (rs := [4]) (by kernel_rfl) (by simp) ?_
              refine AllReady.cons rfl (fun K hK => ?_) AllReady.nil
              go_simp
              refine hK _ _ ?_
              clear hK K
              refine wpAny_done (by kernel_rfl) ?_ _
              go_wp2_with fail
              have hKf : (w6.setCell ⟨w.heap.size + 1, 0, none⟩ (.int .i64 r)).heap[D2]? = some (.deferred (some [])) := (heap_other w6 (by omega) 0 _).trans hK6
              refine ⟨by simp, .inl ⟨_, _, rfl, run_takeDeferred hKf, ?_⟩⟩
              have he6' : Blk w6 (w.heap.size + 1) #[.int .i64 0] 36 := by rw [← hH]; exact he6
              have hE := (he6'.set 0 (.int .i64 r)).grown (grownBy_putObj' _ D2 (.deferred none)) (fun q e => by cases e; exact ⟨_, hKf, rfl⟩)
              have hDf := (hD6.other (k := w.heap.size + 1) (by omega) 0 (.int .i64 r)).grown (grownBy_putObj' _ D2 (.deferred none)) (fun q e => by cases e; exact ⟨_, hKf, rfl⟩)
              have hOf := (hO66.setHigh (k := w.heap.size + 1) (by omega) 0 (.int .i64 r)).grown (grownBy_putObj' _ D2 (.deferred none)) (fun q e => by cases e; omega)
              exact ⟨.int .i64 r, res_write _ _ (w.heap.size + 1) r rfl (hE.cell 0), r, _, rfl, .inl ⟨_, D1, R1', [], .inl rfl, hpfx, hrun, HR.out.symm, rfl⟩, hDf, hOf⟩
            · go_simp
              go_wp2_with (go_at_call 32; refine htx.mono ?_; rintro e w5 ⟨rfl, hb5⟩)
              have q3 : w5.cell? ⟨w.heap.size, 0, none⟩ = some (.pointer (some ⟨B, 0, none⟩)) := (hb5.cell (p := ⟨w.heap.size, 0, none⟩) hl2).trans c2
              have hD5 := hDk.below hb5 hBW
              have he5 := heb.below hb5 heb.lt
              have hK5 := (hb5.block D2 hD2l).trans hKW
              have hz5 : W.heap.size ≤ w5.heap.size := hb5.size
              have hO5 := hof.drew.trans (Off.below (B := B) hb5)
              have hwr := write_any hD5 rb1 (by omega) (by omega) (by omega) 0 (textOf R1')
              rw [HR.out] at hwr
              refine wpAny_ready (rs := [0]) (by kernel_rfl) (by simp) ?_
              refine AllReady.cons rfl (fun K hK => ?_) AllReady.nil
              go_simp
              refine hK _ _ ?_
              clear hK K
              refine wpAny_ready (rs := [3]) (by kernel_rfl) (by simp) ?_
              refine AllReady.cons rfl (fun K hK => ?_) AllReady.nil
              go_simp
              go_wp2_with (go_at_call 31; refine hwr.mono ?_; rintro e w6 ⟨rfl, hD6, hO6⟩)
              have he6 := he5.off hO6 (by omega)
              have ce6 : w6.cell? ⟨w.heap.size + 1, 0, none⟩ = some (.int .i64 0) := by rw [← hH]; exact he6.cell 0
              have fe6 : w6.frozen? ⟨w.heap.size + 1, 0, none⟩ = false := by rw [← hH]; exact he6.free 0
              have hK6 := (hO6.block D2 (by omega) (by omega)).trans hK5
              have hO66 := hO5.trans hO6
              refine wpAny_ready (rs := [4]) (by kernel_rfl) (by simp) ?_
              refine AllReady.cons rfl (fun K hK => ?_) AllReady.nil
              go_simp
              refine hK _ _ ?_
              clear hK K
              refine wpAny_done (by kernel_rfl) ?_ _
              go_wp2_with fail
              have hKf : (w6.setCell ⟨w.heap.size + 1, 0, none⟩ (.int .i64 r)).heap[D2]? = some (.deferred (some [])) := (heap_other w6 (by omega) 0 _).trans hK6
              refine ⟨by simp, .inl ⟨_, _, rfl, run_takeDeferred hKf, ?_⟩⟩
              have he6' : Blk w6 (w.heap.size + 1) #[.int .i64 0] 36 := by rw [← hH]; exact he6
              have hE := (he6'.set 0 (.int .i64 r)).grown (grownBy_putObj' _ D2 (.deferred none)) (fun q e => by cases e; exact ⟨_, hKf, rfl⟩)
              have hDf := (hD6.other (k := w.heap.size + 1) (by omega) 0 (.int .i64 r)).grown (grownBy_putObj' _ D2 (.deferred none)) (fun q e => by cases e; exact ⟨_, hKf, rfl⟩)
              have hOf := (hO66.setHigh (k := w.heap.size + 1) (by omega) 0 (.int .i64 r)).grown (grownBy_putObj' _ D2 (.deferred none)) (fun q e => by cases e; omega)
              exact ⟨.int .i64 r, res_write _ _ (w.heap.size + 1) r rfl (hE.cell 0), r, _, rfl, .inl ⟨_, D1, R1', [], .inl rfl, hpfx, hrun, HR.out.symm, rfl⟩, hDf, hOf⟩
end Go.Proofs.Ytikaeblmjlfgcaa
