/- RulesStatic: the walk of the law; by-name template. -/
import Derived.Test.YtplfmgcgniledaaRDest
import Derived.Test.YtplfmgcgniledaaROwn
namespace Go.Proofs.Ytplfmgcgniledaa
open Go.Shelf Go.RowKit Go.Lib
set_option linter.unusedVariables false
set_option linter.unusedSimpArgs false

def outS : ByteArray := { data := #[111, 117, 116] }
def stC (oh ol ih il : Int) (zA : Option Addr) (zc : Nat) (nA : Option Addr) (nc : Nat) : CF :=
  ⟨zA, 1, zc, [⟨outS, 0, 0, none, 0, 0, []⟩], none, 0, 0, [], none, 0, 0, [], none, 0, 0, [], none, 0, 0, [], nA, 1, nc, [⟨3, outS, ByteArray.empty, ByteArray.empty, oh, ol, ih, il, 0, 0⟩], none, 0, 0, [], 0⟩
theorem stC_ok {oh ol ih il : Int} {zA nA : Option Addr} {zc nc : Nat} (hw : Word oh ∧ Word ol) {w : World} (h1 : Sl w 4 zrc zA 1 [⟨outS, 0, 0, none, 0, 0, []⟩]) (h2 : Sl w 10 nrc nA 1 [⟨3, outS, ByteArray.empty, ByteArray.empty, oh, ol, ih, il, 0, 0⟩]) : (stC oh ol ih il zA zc nA nc).Ok w :=
  ⟨h1, Sl.nil _ _, Sl.nil _ _, Sl.nil _ _, Sl.nil _ _, h2, Sl.nil _ _, fun z hz => by simp [stC] at hz; subst hz; exact Sl.nil _ _, fun o ho => by simp [stC] at ho, fun n hn => by simp [stC] at hn; subst hn; exact hw⟩
theorem st_dest (oh ol ih il : Int) (zA nA : Option Addr) (zc nc : Nat) (p sh sl sp dp : Int) : destT (stC oh ol ih il zA zc nA nc) ⟨p, sh, sl, oh, ol, sp, dp⟩ = .tuple #[.agg #[.int .u64 ih, .int .u64 il], .int .i64 dp, .int .i64 0] := by
  have hcall : calledP (stC oh ol ih il zA zc nA nc) ⟨p, sh, sl, oh, ol, sp, dp⟩ ⟨3, outS, ByteArray.empty, ByteArray.empty, oh, ol, ih, il, 0, 0⟩ = true := by simp [calledP]
  have h0 : (stC oh ol ih il zA zc nA nc).ns[0]? = some ⟨3, outS, ByteArray.empty, ByteArray.empty, oh, ol, ih, il, 0, 0⟩ := rfl
  unfold destT
  rw [find_hit h0 hcall (fun j y hj => absurd hj (Nat.not_lt_zero _)), pl_hit h0 hcall (fun j y hj => absurd hj (Nat.not_lt_zero _))]
  rfl
theorem st_src (oh ol ih il : Int) (zA nA : Option Addr) (zc nc : Nat) (p dh dl sp dp : Int) : srcP (stC oh ol ih il zA zc nA nc) 0 ⟨p, ih, il, dh, dl, sp, dp⟩ = 0 := by
  have h0 : (stC oh ol ih il zA zc nA nc).ns[0]? = some ⟨3, outS, ByteArray.empty, ByteArray.empty, oh, ol, ih, il, 0, 0⟩ := rfl
  exact pl_hit h0 (by simp [namedP, stC, sourceP, eqs]) (fun j y hj => absurd hj (Nat.not_lt_zero _))
theorem st_src1 (oh ol ih il : Int) (zA nA : Option Addr) (zc nc : Nat) (k : KR) : srcP (stC oh ol ih il zA zc nA nc) 1 k = -1 :=
  pl_miss fun j x _ => by simp [namedP, stC]

theorem zone_info : (Try.prog.info? 38).map (fun i => (i.zero, i.size, i.bytes)) = some (some (.agg #[.string ByteArray.empty, .int .u64 0, .int .u64 0, .slice none 0 0]), 4, 56) := by kernel_rfl
theorem nat_info : (Try.prog.info? 40).map (fun i => (i.zero, i.size, i.bytes)) = some (some (.agg #[.int .i64 0, .string ByteArray.empty, .string ByteArray.empty, .string ByteArray.empty, .int .u64 0, .int .u64 0, .int .u64 0, .int .u64 0, .int .i64 0, .int .i64 0]), 10, 104) := by kernel_rfl

theorem calls_gen {P : Program} {f : FuncId} {args : Array Value} {W : World} {K : Ending → World → Prop} (h : ∀ W', W' = W → Calls P f args W' K) : Calls P f args W K := h W rfl

theorem sl_one {α : Type} {k : Nat} {enc : α → List Value} {W : World} {b : Nat} {x : α} {cs rest : Array Value} {t : TypeId} {fz : Nat × Nat} (h : W.heap[b]? = some (.cells (cs ++ rest) t fz)) (hcs : cs.toList = enc x) : Sl W k enc (some ⟨b, 0, none⟩) 1 [x] :=
  ⟨rfl, by omega, fun _ => ⟨b, 0, rfl, (Array.getElem?_eq_some_iff.1 h).1, fun j y hj i v hv => by
    have h0 : j = 0 := by have := (List.getElem?_eq_some_iff.1 hj).1; simpa using this
    subst h0
    simp at hj; subst hj
    rw [← hcs] at hv
    have hv2 : cs[i]? = some v := by simpa using hv
    have hi : i < cs.size := (Array.getElem?_eq_some_iff.1 hv2).1
    rw [show 0 + 0 * k + i = i by omega]
    simp only [World.cell?, h]
    simp [Array.getElem?_append_left hi, hv2]⟩⟩

theorem dest_at {oh ol ih il kp ksh ksl ksp kdp : Int} {zb zc nb nc : Nat} (hw : Word oh ∧ Word ol) {W : World} (h1 : Sl W 4 zrc (some ⟨zb, 0, none⟩) 1 [⟨outS, 0, 0, none, 0, 0, []⟩]) (h2 : Sl W 10 nrc (some ⟨nb, 0, none⟩) 1 [⟨3, outS, ByteArray.empty, ByteArray.empty, oh, ol, ih, il, 0, 0⟩]) :
    Calls Try.prog 9 #[.agg #[.slice (some ⟨zb, 0, none⟩) 1 zc, .slice none 0 0, .slice none 0 0, .slice none 0 0, .slice none 0 0, .slice (some ⟨nb, 0, none⟩) 1 nc, .slice none 0 0, .int .i64 0], .agg #[.int .i64 kp, .int .u64 ksh, .int .u64 ksl, .int .u64 oh, .int .u64 ol, .int .i64 ksp, .int .i64 kdp]] W fun e w' => e = .returned (.tuple #[.agg #[.int .u64 ih, .int .u64 il], .int .i64 kdp, .int .i64 0]) ∧ Below W.heap.size W w' := by
  have := dest_any (stC oh ol ih il (some ⟨zb, 0, none⟩) zc (some ⟨nb, 0, none⟩) nc) ⟨kp, ksh, ksl, oh, ol, ksp, kdp⟩ (stC_ok hw h1 h2)
  rw [st_dest] at this
  exact this
theorem source_at {oh ol ih il kp kdh kdl ksp kdp : Int} {zb zc nb nc : Nat} (hw : Word oh ∧ Word ol) (hi : Word ih ∧ Word il) {W : World} (h1 : Sl W 4 zrc (some ⟨zb, 0, none⟩) 1 [⟨outS, 0, 0, none, 0, 0, []⟩]) (h2 : Sl W 10 nrc (some ⟨nb, 0, none⟩) 1 [⟨3, outS, ByteArray.empty, ByteArray.empty, oh, ol, ih, il, 0, 0⟩]) :
    Calls Try.prog 10 #[.agg #[.slice (some ⟨zb, 0, none⟩) 1 zc, .slice none 0 0, .slice none 0 0, .slice none 0 0, .slice none 0 0, .slice (some ⟨nb, 0, none⟩) 1 nc, .slice none 0 0, .int .i64 0], .int .i64 0, .agg #[.int .i64 kp, .int .u64 ih, .int .u64 il, .int .u64 kdh, .int .u64 kdl, .int .i64 ksp, .int .i64 kdp]] W fun e w' => e = .returned (.int .i64 0) ∧ Below W.heap.size W w' := by
  have := source_any (stC oh ol ih il (some ⟨zb, 0, none⟩) zc (some ⟨nb, 0, none⟩) nc) 0 ⟨kp, ih, il, kdh, kdl, ksp, kdp⟩ (stC_ok hw h1 h2) hi
  rw [st_src] at this
  exact this
theorem source_at1 {oh ol ih il kp kdh kdl ksp kdp : Int} {zb zc nb nc : Nat} (hw : Word oh ∧ Word ol) (hi : Word ih ∧ Word il) {W : World} (h1 : Sl W 4 zrc (some ⟨zb, 0, none⟩) 1 [⟨outS, 0, 0, none, 0, 0, []⟩]) (h2 : Sl W 10 nrc (some ⟨nb, 0, none⟩) 1 [⟨3, outS, ByteArray.empty, ByteArray.empty, oh, ol, ih, il, 0, 0⟩]) :
    Calls Try.prog 10 #[.agg #[.slice (some ⟨zb, 0, none⟩) 1 zc, .slice none 0 0, .slice none 0 0, .slice none 0 0, .slice none 0 0, .slice (some ⟨nb, 0, none⟩) 1 nc, .slice none 0 0, .int .i64 0], .int .i64 1, .agg #[.int .i64 kp, .int .u64 ih, .int .u64 il, .int .u64 kdh, .int .u64 kdl, .int .i64 ksp, .int .i64 kdp]] W fun e w' => e = .returned (.int .i64 (-1)) ∧ Below W.heap.size W w' := by
  have := source_any (stC oh ol ih il (some ⟨zb, 0, none⟩) zc (some ⟨nb, 0, none⟩) nc) 1 ⟨kp, ih, il, kdh, kdl, ksp, kdp⟩ (stC_ok hw h1 h2) hi
  rw [st_src1] at this
  exact this

set_option maxHeartbeats 8000000 in
set_option maxRecDepth 100000 in
theorem static_any (oh ol ih il : Int) (k : KR) (hw : Word oh ∧ Word ol) (hi : Word ih ∧ Word il) {w : World} :
    Calls Try.prog 3 #[.agg #[.int .u64 oh, .int .u64 ol], .agg #[.int .u64 ih, .int .u64 il], .agg (krc k).toArray] w fun e w' => e = .returned (.bool true) ∧ Below w.heap.size w w' := by
  obtain ⟨kp, ksh, ksl, kdh, kdl, ksp, kdp⟩ := k
  simp only [krc]
  go_enter Try.func3, Try.ntmps3
  go_wp2_with fail
  refine calls_gen fun W hW => ?_
  generalize (Question.appendCap 1 0 38).cut _ = zc at *
  generalize (Question.appendCap 1 0 40).cut _ = nc at *
  have hd : ∀ (X : World) (k : Nat), X.drew.heap[k]? = X.heap[k]? := fun _ _ => rfl
  have hI : W.heap[w.heap.size + 1]? = some (.cells #[.int .u64 ih, .int .u64 il] 24 (0, 0)) := by rw [hW, hd, hd]; repeat (first | exact al_new (by simp <;> omega) _ | refine (al_old (by simp <;> omega) _).trans ?_)
  have hK : W.heap[w.heap.size + 1 + 1]? = some (.cells #[.int .i64 kp, .int .u64 ksh, .int .u64 ksl, .int .u64 oh, .int .u64 ol, .int .i64 ksp, .int .i64 kdp] 26 (0, 0)) := by rw [hW, hd, hd]; repeat (first | exact al_new (by simp <;> omega) _ | refine (al_old (by simp <;> omega) _).trans ?_)
  have hC : W.heap[w.heap.size + 1 + 1 + 1]? = some (.cells #[.slice (some ⟨w.heap.size + 1 + 1 + 1 + 1 + 1, 0, none⟩) 1 zc, .slice none 0 0, .slice none 0 0, .slice none 0 0, .slice none 0 0, .slice (some ⟨w.heap.size + 1 + 1 + 1 + 1 + 1 + 1 + 1, 0, none⟩) 1 nc, .slice none 0 0, .int .i64 0] 35 (0, 0)) := by rw [hW, hd, hd]; repeat (first | exact al_new (by simp <;> omega) _ | refine (al_old (by simp <;> omega) _).trans ?_)
  have hZ : W.heap[w.heap.size + 1 + 1 + 1 + 1 + 1]? = some (.cells (#[.string outS, .int .u64 0, .int .u64 0, .slice none 0 0] ++ Builtin.zeroCells #[.string ByteArray.empty, .int .u64 0, .int .u64 0, .slice none 0 0] (zc - 1)) 38 (0, 0)) := by rw [hW, hd, hd]; repeat (first | exact al_new (by simp <;> omega) _ | refine (al_old (by simp <;> omega) _).trans ?_)
  have hN : W.heap[w.heap.size + 1 + 1 + 1 + 1 + 1 + 1 + 1]? = some (.cells (#[.int .i64 3, .string outS, .string ByteArray.empty, .string ByteArray.empty, .int .u64 oh, .int .u64 ol, .int .u64 ih, .int .u64 il, .int .i64 0, .int .i64 0] ++ Builtin.zeroCells #[.int .i64 0, .string ByteArray.empty, .string ByteArray.empty, .string ByteArray.empty, .int .u64 0, .int .u64 0, .int .u64 0, .int .u64 0, .int .i64 0, .int .i64 0] (nc - 1)) 40 (0, 0)) := by rw [hW, hd, hd]; repeat (first | exact al_new (by simp <;> omega) _ | refine (al_old (by simp <;> omega) _).trans ?_)
  have hb : Below w.heap.size w W := by rw [hW]; repeat (first | exact Below.refl _ _ | apply Below.dr | apply Below.al)
  have s1 : Sl W 4 zrc (some ⟨w.heap.size + 1 + 1 + 1 + 1 + 1, 0, none⟩) 1 [⟨outS, 0, 0, none, 0, 0, []⟩] := sl_one hZ rfl
  have s2 : Sl W 10 nrc (some ⟨w.heap.size + 1 + 1 + 1 + 1 + 1 + 1 + 1, 0, none⟩) 1 [⟨3, outS, ByteArray.empty, ByteArray.empty, oh, ol, ih, il, 0, 0⟩] := sl_one hN rfl
  clear hW hd hZ hN
  refine (dest_at hw s1 s2).mono ?_
  rintro e w1 ⟨rfl, hb1⟩
  have hI1 : w1.heap[w.heap.size + 1]? = _ := (hb1.block _ (Array.getElem?_eq_some_iff.1 hI).1).trans hI
  have hK1 : w1.heap[w.heap.size + 1 + 1]? = _ := (hb1.block _ (Array.getElem?_eq_some_iff.1 hK).1).trans hK
  have hC1 : w1.heap[w.heap.size + 1 + 1 + 1]? = _ := (hb1.block _ (Array.getElem?_eq_some_iff.1 hC).1).trans hC
  have s3 := s1.keep hb1
  have s4 := s2.keep hb1
  have hbw1 := bel_via hb hb1
  have hlt1 : w.heap.size + 1 + 1 + 1 < w1.heap.size := (Array.getElem?_eq_some_iff.1 hC1).1
  have hlt2 : w.heap.size + 1 + 1 < w1.heap.size := by omega
  have hlt3 : w.heap.size + 1 < w1.heap.size := by omega
  clear hI hK hC s1 s2 hb hb1
  have i0 : w1.cell? ⟨w.heap.size + 1, 0, none⟩ = some (.int .u64 ih) := by simp [World.cell?, hI1]
  have i1 : w1.cell? ⟨w.heap.size + 1, 1, none⟩ = some (.int .u64 il) := by simp [World.cell?, hI1]
  have k0 : w1.cell? ⟨w.heap.size + 1 + 1, 0, none⟩ = some (.int .i64 kp) := by simp [World.cell?, hK1]
  have k1 : w1.cell? ⟨w.heap.size + 1 + 1, 1, none⟩ = some (.int .u64 ksh) := by simp [World.cell?, hK1]
  have k2 : w1.cell? ⟨w.heap.size + 1 + 1, 2, none⟩ = some (.int .u64 ksl) := by simp [World.cell?, hK1]
  have k3 : w1.cell? ⟨w.heap.size + 1 + 1, 3, none⟩ = some (.int .u64 oh) := by simp [World.cell?, hK1]
  have k4 : w1.cell? ⟨w.heap.size + 1 + 1, 4, none⟩ = some (.int .u64 ol) := by simp [World.cell?, hK1]
  have k5 : w1.cell? ⟨w.heap.size + 1 + 1, 5, none⟩ = some (.int .i64 ksp) := by simp [World.cell?, hK1]
  have k6 : w1.cell? ⟨w.heap.size + 1 + 1, 6, none⟩ = some (.int .i64 kdp) := by simp [World.cell?, hK1]
  have z1 : w1.frozen? ⟨w.heap.size + 1 + 1, 1, none⟩ = false := by simp [World.frozen?, hK1]
  have z2 : w1.frozen? ⟨w.heap.size + 1 + 1, 2, none⟩ = false := by simp [World.frozen?, hK1]
  have c0 : w1.cell? ⟨w.heap.size + 1 + 1 + 1, 0, none⟩ = some (.slice (some ⟨w.heap.size + 1 + 1 + 1 + 1 + 1, 0, none⟩) 1 zc) := by simp [World.cell?, hC1]
  have c1 : w1.cell? ⟨w.heap.size + 1 + 1 + 1, 1, none⟩ = some (.slice none 0 0) := by simp [World.cell?, hC1]
  have c2 : w1.cell? ⟨w.heap.size + 1 + 1 + 1, 2, none⟩ = some (.slice none 0 0) := by simp [World.cell?, hC1]
  have c3 : w1.cell? ⟨w.heap.size + 1 + 1 + 1, 3, none⟩ = some (.slice none 0 0) := by simp [World.cell?, hC1]
  have c4 : w1.cell? ⟨w.heap.size + 1 + 1 + 1, 4, none⟩ = some (.slice none 0 0) := by simp [World.cell?, hC1]
  have c5 : w1.cell? ⟨w.heap.size + 1 + 1 + 1, 5, none⟩ = some (.slice (some ⟨w.heap.size + 1 + 1 + 1 + 1 + 1 + 1 + 1, 0, none⟩) 1 nc) := by simp [World.cell?, hC1]
  have c6 : w1.cell? ⟨w.heap.size + 1 + 1 + 1, 6, none⟩ = some (.slice none 0 0) := by simp [World.cell?, hC1]
  have c7 : w1.cell? ⟨w.heap.size + 1 + 1 + 1, 7, none⟩ = some (.int .i64 0) := by simp [World.cell?, hC1]
  go_wp2_with fail
  refine calls_gen fun W2 hW2 => ?_
  have hsz : ((w1.setCell ⟨w.heap.size + 1 + 1, 1, none⟩ (.int .u64 ih)).setCell ⟨w.heap.size + 1 + 1, 2, none⟩ (.int .u64 il)).heap.size = w1.heap.size := by simp [World.setCell]
  have hA2 : W2.heap[w1.heap.size]? = some (.cells #[.int .u64 ih, .int .u64 il] 24 (0, 0)) := by rw [hW2]; exact al_new hsz.symm _
  have hI2 : W2.heap[w.heap.size + 1]? = some (.cells #[.int .u64 ih, .int .u64 il] 24 (0, 0)) := by
    rw [hW2, al_old (by omega), set_other (by omega), set_other (by omega)]; exact hI1
  have hC2 : W2.heap[w.heap.size + 1 + 1 + 1]? = some (.cells #[.slice (some ⟨w.heap.size + 1 + 1 + 1 + 1 + 1, 0, none⟩) 1 zc, .slice none 0 0, .slice none 0 0, .slice none 0 0, .slice none 0 0, .slice (some ⟨w.heap.size + 1 + 1 + 1 + 1 + 1 + 1 + 1, 0, none⟩) 1 nc, .slice none 0 0, .int .i64 0] 35 (0, 0)) := by
    rw [hW2, al_old (by omega), set_other (by omega), set_other (by omega)]; exact hC1
  have hK2 : W2.heap[w.heap.size + 1 + 1]? = some (.cells #[.int .i64 kp, .int .u64 ih, .int .u64 il, .int .u64 oh, .int .u64 ol, .int .i64 ksp, .int .i64 kdp] 26 (0, 0)) := by
    rw [hW2, al_old (by omega)]; simp [World.setCell, Array.getElem?_modify, hK1]
  have hb2 : Below w.heap.size w W2 := by rw [hW2]; exact Below.al (below_set (below_set hbw1 (B := w.heap.size + 1 + 1) (by omega) 1 _) (B := w.heap.size + 1 + 1) (by omega) 2 _) _
  have s5 : Sl W2 4 zrc (some ⟨w.heap.size + 1 + 1 + 1 + 1 + 1, 0, none⟩) 1 [⟨outS, 0, 0, none, 0, 0, []⟩] := by rw [hW2]; exact ((s3.set (B := w.heap.size + 1 + 1) (fun b off sp h => by cases h; omega) 1 (.int .u64 ih)).set (B := w.heap.size + 1 + 1) (fun b off sp h => by cases h; omega) 2 (.int .u64 il)).keep (Below.al (Below.refl _ _) _)
  have s6 : Sl W2 10 nrc (some ⟨w.heap.size + 1 + 1 + 1 + 1 + 1 + 1 + 1, 0, none⟩) 1 [⟨3, outS, ByteArray.empty, ByteArray.empty, oh, ol, ih, il, 0, 0⟩] := by rw [hW2]; exact ((s4.set (B := w.heap.size + 1 + 1) (fun b off sp h => by cases h; omega) 1 (.int .u64 ih)).set (B := w.heap.size + 1 + 1) (fun b off sp h => by cases h; omega) 2 (.int .u64 il)).keep (Below.al (Below.refl _ _) _)
  clear hW2 hsz hI1 hK1 hC1 s3 s4 hbw1 hlt1 hlt2 hlt3 i0 i1 k0 k1 k2 k3 k4 k5 k6 z1 z2 c0 c1 c2 c3 c4 c5 c6 c7
  refine (source_at hw hi s5 s6).mono ?_
  rintro e w3 ⟨rfl, hb3⟩
  have hA3 : w3.heap[w1.heap.size]? = _ := (hb3.block _ (Array.getElem?_eq_some_iff.1 hA2).1).trans hA2
  have hI3 : w3.heap[w.heap.size + 1]? = _ := (hb3.block _ (Array.getElem?_eq_some_iff.1 hI2).1).trans hI2
  have hK3 : w3.heap[w.heap.size + 1 + 1]? = _ := (hb3.block _ (Array.getElem?_eq_some_iff.1 hK2).1).trans hK2
  have hC3 : w3.heap[w.heap.size + 1 + 1 + 1]? = _ := (hb3.block _ (Array.getElem?_eq_some_iff.1 hC2).1).trans hC2
  have s7 := s5.keep hb3
  have s8 := s6.keep hb3
  have hbw3 := bel_via hb2 hb3
  have cs := source_at1 (kp := kp) (kdh := oh) (kdl := ol) (ksp := ksp) (kdp := kdp) (zc := zc) (nc := nc) hw hi s7 s8
  have a0 : w3.cell? ⟨w1.heap.size, 0, none⟩ = some (.int .u64 ih) := by simp [World.cell?, hA3]
  have i0 : w3.cell? ⟨w.heap.size + 1, 0, none⟩ = some (.int .u64 ih) := by simp [World.cell?, hI3]
  have a1 : w3.cell? ⟨w1.heap.size, 1, none⟩ = some (.int .u64 il) := by simp [World.cell?, hA3]
  have i1 : w3.cell? ⟨w.heap.size + 1, 1, none⟩ = some (.int .u64 il) := by simp [World.cell?, hI3]
  have k0 : w3.cell? ⟨w.heap.size + 1 + 1, 0, none⟩ = some (.int .i64 kp) := by simp [World.cell?, hK3]
  have k1 : w3.cell? ⟨w.heap.size + 1 + 1, 1, none⟩ = some (.int .u64 ih) := by simp [World.cell?, hK3]
  have k2 : w3.cell? ⟨w.heap.size + 1 + 1, 2, none⟩ = some (.int .u64 il) := by simp [World.cell?, hK3]
  have k3 : w3.cell? ⟨w.heap.size + 1 + 1, 3, none⟩ = some (.int .u64 oh) := by simp [World.cell?, hK3]
  have k4 : w3.cell? ⟨w.heap.size + 1 + 1, 4, none⟩ = some (.int .u64 ol) := by simp [World.cell?, hK3]
  have k5 : w3.cell? ⟨w.heap.size + 1 + 1, 5, none⟩ = some (.int .i64 ksp) := by simp [World.cell?, hK3]
  have k6 : w3.cell? ⟨w.heap.size + 1 + 1, 6, none⟩ = some (.int .i64 kdp) := by simp [World.cell?, hK3]
  have c0 : w3.cell? ⟨w.heap.size + 1 + 1 + 1, 0, none⟩ = some (.slice (some ⟨w.heap.size + 1 + 1 + 1 + 1 + 1, 0, none⟩) 1 zc) := by simp [World.cell?, hC3]
  have c1 : w3.cell? ⟨w.heap.size + 1 + 1 + 1, 1, none⟩ = some (.slice none 0 0) := by simp [World.cell?, hC3]
  have c2 : w3.cell? ⟨w.heap.size + 1 + 1 + 1, 2, none⟩ = some (.slice none 0 0) := by simp [World.cell?, hC3]
  have c3 : w3.cell? ⟨w.heap.size + 1 + 1 + 1, 3, none⟩ = some (.slice none 0 0) := by simp [World.cell?, hC3]
  have c4 : w3.cell? ⟨w.heap.size + 1 + 1 + 1, 4, none⟩ = some (.slice none 0 0) := by simp [World.cell?, hC3]
  have c5 : w3.cell? ⟨w.heap.size + 1 + 1 + 1, 5, none⟩ = some (.slice (some ⟨w.heap.size + 1 + 1 + 1 + 1 + 1 + 1 + 1, 0, none⟩) 1 nc) := by simp [World.cell?, hC3]
  have c6 : w3.cell? ⟨w.heap.size + 1 + 1 + 1, 6, none⟩ = some (.slice none 0 0) := by simp [World.cell?, hC3]
  have c7 : w3.cell? ⟨w.heap.size + 1 + 1 + 1, 7, none⟩ = some (.int .i64 0) := by simp [World.cell?, hC3]
  clear hA2 hI2 hK2 hC2 hA3 hI3 hK3 hC3 s5 s6 s7 s8 hb2 hb3
  go_wp2_with (go_at_call 10; with_reducible refine cs.mono ?_; rintro e w4 ⟨rfl, hb4⟩)
  go_ret
  exact ⟨by simp, bel_via hbw3 hb4⟩
end Go.Proofs.Ytplfmgcgniledaa
