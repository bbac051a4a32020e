/- The point of a header, both sides; by-name template (gen_mpt.py). -/
import Derived.Test.YtmnnjkdmnfadhaaGreatDoorZH
import Derived.Laws.StructEq
import Derived.Lib.QuietBelow
import Derived.Deep.QuietTactic
import Derived.Deep.WholeRow
import Derived.Test.YtmnnjkdmnfadhaaGreatDoorLCheck
import Derived.WalkLawsBesides
namespace Go.Proofs.YtmnnjkdmnfadhaaGreatDoor
open Go.Shelf Go.RowKit Go.Lib Go.Sort
set_option linter.unusedVariables false
set_option linter.unusedSimpArgs false

def ptc (x0 x1 x2 x3 x4 x5 x6 x7 x8 x9 x10 x11 : Int) : Array Value := #[.int .u64 x0, .int .u64 x1, .int .u64 x2, .int .u64 x3, .int .u64 x4, .int .u64 x5, .int .u64 x6, .int .u64 x7, .int .u64 x8, .int .u64 x9, .int .u64 x10, .int .u64 x11]
theorem ptk0 {w : World} {B : Nat} {t : TypeId} {x0 x1 x2 x3 x4 x5 x6 x7 x8 x9 x10 x11 : Int} (h : w.heap[B]? = some (.cells (ptc x0 x1 x2 x3 x4 x5 x6 x7 x8 x9 x10 x11) t (0, 0))) : w.cell? ⟨B, 0, none⟩ = some (.int .u64 x0) ∧ w.cell? ⟨B, 1, none⟩ = some (.int .u64 x1) ∧ w.frozen? ⟨B, 0, none⟩ = false ∧ w.frozen? ⟨B, 1, none⟩ = false := by
  have f := fun o => show w.frozen? ⟨B, o, none⟩ = false by simp [World.frozen?, h]
  unfold ptc at h
  exact ⟨by simp [World.cell?, h], by simp [World.cell?, h], f _, f _⟩
theorem ptz0 (x0 x1 x2 x3 x4 x5 x6 x7 x8 x9 x10 x11 u v : Int) : ((ptc x0 x1 x2 x3 x4 x5 x6 x7 x8 x9 x10 x11).setIfInBounds 0 (.int .u64 u)).setIfInBounds 1 (.int .u64 v) = ptc u v x2 x3 x4 x5 x6 x7 x8 x9 x10 x11 := by kernel_rfl
theorem pts0 {w : World} {B : Nat} {t : TypeId} {x0 x1 x2 x3 x4 x5 x6 x7 x8 x9 x10 x11 : Int} (h : w.heap[B]? = some (.cells (ptc x0 x1 x2 x3 x4 x5 x6 x7 x8 x9 x10 x11) t (0, 0))) (u v : Int) : ((w.setCell ⟨B, 0, none⟩ (.int .u64 u)).setCell ⟨B, 1, none⟩ (.int .u64 v)).heap[B]? = some (.cells (ptc u v x2 x3 x4 x5 x6 x7 x8 x9 x10 x11) t (0, 0)) := by
  rw [← ptz0 x0 x1 x2 x3 x4 x5 x6 x7 x8 x9 x10 x11 u v]
  simp [World.setCell, Array.getElem?_modify, h]
theorem ptk1 {w : World} {B : Nat} {t : TypeId} {x0 x1 x2 x3 x4 x5 x6 x7 x8 x9 x10 x11 : Int} (h : w.heap[B]? = some (.cells (ptc x0 x1 x2 x3 x4 x5 x6 x7 x8 x9 x10 x11) t (0, 0))) : w.cell? ⟨B, 2, none⟩ = some (.int .u64 x2) ∧ w.cell? ⟨B, 3, none⟩ = some (.int .u64 x3) ∧ w.frozen? ⟨B, 2, none⟩ = false ∧ w.frozen? ⟨B, 3, none⟩ = false := by
  have f := fun o => show w.frozen? ⟨B, o, none⟩ = false by simp [World.frozen?, h]
  unfold ptc at h
  exact ⟨by simp [World.cell?, h], by simp [World.cell?, h], f _, f _⟩
theorem ptz1 (x0 x1 x2 x3 x4 x5 x6 x7 x8 x9 x10 x11 u v : Int) : ((ptc x0 x1 x2 x3 x4 x5 x6 x7 x8 x9 x10 x11).setIfInBounds 2 (.int .u64 u)).setIfInBounds 3 (.int .u64 v) = ptc x0 x1 u v x4 x5 x6 x7 x8 x9 x10 x11 := by kernel_rfl
theorem pts1 {w : World} {B : Nat} {t : TypeId} {x0 x1 x2 x3 x4 x5 x6 x7 x8 x9 x10 x11 : Int} (h : w.heap[B]? = some (.cells (ptc x0 x1 x2 x3 x4 x5 x6 x7 x8 x9 x10 x11) t (0, 0))) (u v : Int) : ((w.setCell ⟨B, 2, none⟩ (.int .u64 u)).setCell ⟨B, 3, none⟩ (.int .u64 v)).heap[B]? = some (.cells (ptc x0 x1 u v x4 x5 x6 x7 x8 x9 x10 x11) t (0, 0)) := by
  rw [← ptz1 x0 x1 x2 x3 x4 x5 x6 x7 x8 x9 x10 x11 u v]
  simp [World.setCell, Array.getElem?_modify, h]
theorem ptk2 {w : World} {B : Nat} {t : TypeId} {x0 x1 x2 x3 x4 x5 x6 x7 x8 x9 x10 x11 : Int} (h : w.heap[B]? = some (.cells (ptc x0 x1 x2 x3 x4 x5 x6 x7 x8 x9 x10 x11) t (0, 0))) : w.cell? ⟨B, 4, none⟩ = some (.int .u64 x4) ∧ w.cell? ⟨B, 5, none⟩ = some (.int .u64 x5) ∧ w.frozen? ⟨B, 4, none⟩ = false ∧ w.frozen? ⟨B, 5, none⟩ = false := by
  have f := fun o => show w.frozen? ⟨B, o, none⟩ = false by simp [World.frozen?, h]
  unfold ptc at h
  exact ⟨by simp [World.cell?, h], by simp [World.cell?, h], f _, f _⟩
theorem ptz2 (x0 x1 x2 x3 x4 x5 x6 x7 x8 x9 x10 x11 u v : Int) : ((ptc x0 x1 x2 x3 x4 x5 x6 x7 x8 x9 x10 x11).setIfInBounds 4 (.int .u64 u)).setIfInBounds 5 (.int .u64 v) = ptc x0 x1 x2 x3 u v x6 x7 x8 x9 x10 x11 := by kernel_rfl
theorem pts2 {w : World} {B : Nat} {t : TypeId} {x0 x1 x2 x3 x4 x5 x6 x7 x8 x9 x10 x11 : Int} (h : w.heap[B]? = some (.cells (ptc x0 x1 x2 x3 x4 x5 x6 x7 x8 x9 x10 x11) t (0, 0))) (u v : Int) : ((w.setCell ⟨B, 4, none⟩ (.int .u64 u)).setCell ⟨B, 5, none⟩ (.int .u64 v)).heap[B]? = some (.cells (ptc x0 x1 x2 x3 u v x6 x7 x8 x9 x10 x11) t (0, 0)) := by
  rw [← ptz2 x0 x1 x2 x3 x4 x5 x6 x7 x8 x9 x10 x11 u v]
  simp [World.setCell, Array.getElem?_modify, h]
theorem ptk3 {w : World} {B : Nat} {t : TypeId} {x0 x1 x2 x3 x4 x5 x6 x7 x8 x9 x10 x11 : Int} (h : w.heap[B]? = some (.cells (ptc x0 x1 x2 x3 x4 x5 x6 x7 x8 x9 x10 x11) t (0, 0))) : w.cell? ⟨B, 6, none⟩ = some (.int .u64 x6) ∧ w.cell? ⟨B, 7, none⟩ = some (.int .u64 x7) ∧ w.frozen? ⟨B, 6, none⟩ = false ∧ w.frozen? ⟨B, 7, none⟩ = false := by
  have f := fun o => show w.frozen? ⟨B, o, none⟩ = false by simp [World.frozen?, h]
  unfold ptc at h
  exact ⟨by simp [World.cell?, h], by simp [World.cell?, h], f _, f _⟩
theorem ptz3 (x0 x1 x2 x3 x4 x5 x6 x7 x8 x9 x10 x11 u v : Int) : ((ptc x0 x1 x2 x3 x4 x5 x6 x7 x8 x9 x10 x11).setIfInBounds 6 (.int .u64 u)).setIfInBounds 7 (.int .u64 v) = ptc x0 x1 x2 x3 x4 x5 u v x8 x9 x10 x11 := by kernel_rfl
theorem pts3 {w : World} {B : Nat} {t : TypeId} {x0 x1 x2 x3 x4 x5 x6 x7 x8 x9 x10 x11 : Int} (h : w.heap[B]? = some (.cells (ptc x0 x1 x2 x3 x4 x5 x6 x7 x8 x9 x10 x11) t (0, 0))) (u v : Int) : ((w.setCell ⟨B, 6, none⟩ (.int .u64 u)).setCell ⟨B, 7, none⟩ (.int .u64 v)).heap[B]? = some (.cells (ptc x0 x1 x2 x3 x4 x5 u v x8 x9 x10 x11) t (0, 0)) := by
  rw [← ptz3 x0 x1 x2 x3 x4 x5 x6 x7 x8 x9 x10 x11 u v]
  simp [World.setCell, Array.getElem?_modify, h]
theorem ptk4 {w : World} {B : Nat} {t : TypeId} {x0 x1 x2 x3 x4 x5 x6 x7 x8 x9 x10 x11 : Int} (h : w.heap[B]? = some (.cells (ptc x0 x1 x2 x3 x4 x5 x6 x7 x8 x9 x10 x11) t (0, 0))) : w.cell? ⟨B, 8, none⟩ = some (.int .u64 x8) ∧ w.cell? ⟨B, 9, none⟩ = some (.int .u64 x9) ∧ w.frozen? ⟨B, 8, none⟩ = false ∧ w.frozen? ⟨B, 9, none⟩ = false := by
  have f := fun o => show w.frozen? ⟨B, o, none⟩ = false by simp [World.frozen?, h]
  unfold ptc at h
  exact ⟨by simp [World.cell?, h], by simp [World.cell?, h], f _, f _⟩
theorem ptz4 (x0 x1 x2 x3 x4 x5 x6 x7 x8 x9 x10 x11 u v : Int) : ((ptc x0 x1 x2 x3 x4 x5 x6 x7 x8 x9 x10 x11).setIfInBounds 8 (.int .u64 u)).setIfInBounds 9 (.int .u64 v) = ptc x0 x1 x2 x3 x4 x5 x6 x7 u v x10 x11 := by kernel_rfl
theorem pts4 {w : World} {B : Nat} {t : TypeId} {x0 x1 x2 x3 x4 x5 x6 x7 x8 x9 x10 x11 : Int} (h : w.heap[B]? = some (.cells (ptc x0 x1 x2 x3 x4 x5 x6 x7 x8 x9 x10 x11) t (0, 0))) (u v : Int) : ((w.setCell ⟨B, 8, none⟩ (.int .u64 u)).setCell ⟨B, 9, none⟩ (.int .u64 v)).heap[B]? = some (.cells (ptc x0 x1 x2 x3 x4 x5 x6 x7 u v x10 x11) t (0, 0)) := by
  rw [← ptz4 x0 x1 x2 x3 x4 x5 x6 x7 x8 x9 x10 x11 u v]
  simp [World.setCell, Array.getElem?_modify, h]
theorem ptk5 {w : World} {B : Nat} {t : TypeId} {x0 x1 x2 x3 x4 x5 x6 x7 x8 x9 x10 x11 : Int} (h : w.heap[B]? = some (.cells (ptc x0 x1 x2 x3 x4 x5 x6 x7 x8 x9 x10 x11) t (0, 0))) : w.cell? ⟨B, 10, none⟩ = some (.int .u64 x10) ∧ w.cell? ⟨B, 11, none⟩ = some (.int .u64 x11) ∧ w.frozen? ⟨B, 10, none⟩ = false ∧ w.frozen? ⟨B, 11, none⟩ = false := by
  have f := fun o => show w.frozen? ⟨B, o, none⟩ = false by simp [World.frozen?, h]
  unfold ptc at h
  exact ⟨by simp [World.cell?, h], by simp [World.cell?, h], f _, f _⟩
theorem ptz5 (x0 x1 x2 x3 x4 x5 x6 x7 x8 x9 x10 x11 u v : Int) : ((ptc x0 x1 x2 x3 x4 x5 x6 x7 x8 x9 x10 x11).setIfInBounds 10 (.int .u64 u)).setIfInBounds 11 (.int .u64 v) = ptc x0 x1 x2 x3 x4 x5 x6 x7 x8 x9 u v := by kernel_rfl
theorem pts5 {w : World} {B : Nat} {t : TypeId} {x0 x1 x2 x3 x4 x5 x6 x7 x8 x9 x10 x11 : Int} (h : w.heap[B]? = some (.cells (ptc x0 x1 x2 x3 x4 x5 x6 x7 x8 x9 x10 x11) t (0, 0))) (u v : Int) : ((w.setCell ⟨B, 10, none⟩ (.int .u64 u)).setCell ⟨B, 11, none⟩ (.int .u64 v)).heap[B]? = some (.cells (ptc x0 x1 x2 x3 x4 x5 x6 x7 x8 x9 u v) t (0, 0)) := by
  rw [← ptz5 x0 x1 x2 x3 x4 x5 x6 x7 x8 x9 x10 x11 u v]
  simp [World.setCell, Array.getElem?_modify, h]
theorem inf12 {x0 x1 x2 x3 x4 x5 x6 x7 x8 x9 x10 x11 : Int} : (Tryz.prog.info? 53).map (·.size) = some (ptc x0 x1 x2 x3 x4 x5 x6 x7 x8 x9 x10 x11).size := by rw [show (ptc x0 x1 x2 x3 x4 x5 x6 x7 x8 x9 x10 x11).size = 12 from rfl]; kernel_rfl
theorem one12 {x0 x1 x2 x3 x4 x5 x6 x7 x8 x9 x10 x11 : Int} : (ptc x0 x1 x2 x3 x4 x5 x6 x7 x8 x9 x10 x11).all (·.oneCell') = true := by simp [ptc, Value.oneCell']
theorem results_ptA {fn : Func} {p u : Tmp} {ty : TypeId} (h : fn.results = #[.cell p ty, .tmp u]) (tmps : Array Value) (W : World) (g : Nat) (t : TypeId) (cs : Array Value) (fr : Nat × Nat) (fs)
    (hp : tmps.getD p undef = .pointer (some ⟨g, 0, none⟩)) (hg : W.heap[g]? = some (.cells cs t fr))
    (hu : Tryz.prog.underlying ty = some (.struct fs)) (hi : (Tryz.prog.info? ty).map (·.size) = some cs.size) :
    (results fn tmps).run Tryz.prog W = .ok (.tuple #[.agg cs, tmps.getD u undef]) W := by
  have hp' : tmps[p]?.getD undef = .pointer (some ⟨g, 0, none⟩) := by simpa using hp
  simp [results, h, hp', asAddr, run_loadVar_row W g t ty cs fr (.struct fs) hg hu rfl hi]
theorem wp_gen1 {P : Program} {code : Code} {Q : Exit → Act → World → Prop} {a : Act} {W : World} (h : ∀ W', W' = W → Code.wp P code Q a W') : Code.wp P code Q a W := h W rfl
def hdA (i o pr sh sl dh dl sp dp : Int) : Array Value := #[.int .i64 i, .int .i64 o, .int .i64 pr, .int .u64 sh, .int .u64 sl, .int .u64 dh, .int .u64 dl, .int .i64 sp, .int .i64 dp]
def ptB (i o pr sp dp : Int) : Bool := witB i 15 && (witB o 15 && (witB pr 255 && (witB sp 65535 && witB dp 65535)))
def ptA (i o pr sh sl dh dl sp dp : Int) : Array Value := if ptB i o pr sp dp = true then ptc 0 (ofN (i * 16 + o)) 0 (ofN pr) 0 (ofN sp) 0 (ofN dp) sh sl dh dl else ptc 0 0 0 0 0 0 0 0 0 0 0 0
def PtPost (i o pr sh sl dh dl sp dp : Int) (w : World) (e : Ending) (w' : World) : Prop := e = .returned (.tuple #[.agg (ptA i o pr sh sl dh dl sp dp), .bool (ptB i o pr sp dp)]) ∧ Below w.heap.size w w'
theorem witB_iff {n m : Int} (h : witB n m = true) : 0 ≤ n ∧ n ≤ m := by simpa [witB] using h

set_option maxHeartbeats 8000000 in
set_option maxRecDepth 100000 in
theorem pt_any (i o pr sh sl dh dl sp dp : Int) (w : World) : Calls Tryz.prog 11 #[.agg (hdA i o pr sh sl dh dl sp dp)] w (PtPost i o pr sh sl dh dl sp dp w) := by
  unfold hdA
  have iZ : Hid ((Tryz.prog.info? 53).map (·.size) = some (#[.int .u64 0, .int .u64 0, .int .u64 0, .int .u64 0, .int .u64 0, .int .u64 0, .int .u64 0, .int .u64 0, .int .u64 0, .int .u64 0, .int .u64 0, .int .u64 0] : Array Value).size) := Lib.hid (by rw [show (#[.int .u64 0, .int .u64 0, .int .u64 0, .int .u64 0, .int .u64 0, .int .u64 0, .int .u64 0, .int .u64 0, .int .u64 0, .int .u64 0, .int .u64 0, .int .u64 0] : Array Value).size = 12 from rfl]; kernel_rfl)
  have k1 := fun W : World => wit_any i 15 W
  have k2 := fun W : World => wit_any o 15 W
  have k3 := fun W : World => wit_any pr 255 W
  have k4 := fun W : World => wit_any sp 65535 W
  have k5 := fun W : World => wit_any dp 65535 W
  obtain ⟨b1, e1⟩ : ∃ b, witB i 15 = b := ⟨_, rfl⟩
  obtain ⟨b2, e2⟩ : ∃ b, witB o 15 = b := ⟨_, rfl⟩
  obtain ⟨b3, e3⟩ : ∃ b, witB pr 255 = b := ⟨_, rfl⟩
  obtain ⟨b4, e4⟩ : ∃ b, witB sp 65535 = b := ⟨_, rfl⟩
  obtain ⟨b5, e5⟩ : ∃ b, witB dp 65535 = b := ⟨_, rfl⟩
  rw [e1] at k1
  rw [e2] at k2
  rw [e3] at k3
  rw [e4] at k4
  rw [e5] at k5
  have HE := Lib.hid (And.intro e1 (And.intro e2 (And.intro e3 (And.intro e4 e5))))
  clear e1 e2 e3 e4 e5
  go_enter Tryz.func11, Tryz.ntmps11
  go_upto_region 2 with fail
  refine wp_gen1 fun W hW => ?_
  have b0 : Below w.heap.size w W := by rw [hW]; repeat (first | exact Below.refl _ _ | apply Below.dr | apply Below.al)
  have hH : W.heap[w.heap.size]? = some (.cells #[.int .i64 i, .int .i64 o, .int .i64 pr, .int .u64 sh, .int .u64 sl, .int .u64 dh, .int .u64 dl, .int .i64 sp, .int .i64 dp] 40 (0, 0)) := by rw [hW]; exact blk_al (blk_al (heap_alloc_new w _) _) _
  have hR : W.heap[w.heap.size + 1]? = some (.cells #[.int .u64 0, .int .u64 0, .int .u64 0, .int .u64 0, .int .u64 0, .int .u64 0, .int .u64 0, .int .u64 0, .int .u64 0, .int .u64 0, .int .u64 0, .int .u64 0] 53 (0, 0)) := by rw [hW]; exact blk_al (al_new (by simp) _) _
  have hK : W.heap[w.heap.size + 1 + 1]? = some (.cells #[.int .i64 pr, .int .u64 sh, .int .u64 sl, .int .u64 dh, .int .u64 dl, .int .i64 sp, .int .i64 dp] 38 (0, 0)) := by rw [hW]; exact al_new (by simp) _
  have hcells : W.cell? ⟨w.heap.size, 0, none⟩ = some (.int .i64 i) ∧ W.cell? ⟨w.heap.size, 1, none⟩ = some (.int .i64 o) ∧ W.cell? ⟨w.heap.size + 1 + 1, 0, none⟩ = some (.int .i64 pr) ∧ W.cell? ⟨w.heap.size + 1 + 1, 1, none⟩ = some (.int .u64 sh) ∧ W.cell? ⟨w.heap.size + 1 + 1, 2, none⟩ = some (.int .u64 sl) ∧ W.cell? ⟨w.heap.size + 1 + 1, 3, none⟩ = some (.int .u64 dh) ∧ W.cell? ⟨w.heap.size + 1 + 1, 4, none⟩ = some (.int .u64 dl) ∧ W.cell? ⟨w.heap.size + 1 + 1, 5, none⟩ = some (.int .i64 sp) ∧ W.cell? ⟨w.heap.size + 1 + 1, 6, none⟩ = some (.int .i64 dp) := by
    refine ⟨?_, ?_, ?_, ?_, ?_, ?_, ?_, ?_, ?_⟩ <;> simp [World.cell?, hH, hK]
  clear hW
  by_cases hall : b1 = true ∧ b2 = true ∧ b3 = true ∧ b4 = true ∧ b5 = true
  · obtain ⟨rfl, rfl, rfl, rfl, rfl⟩ := hall
    obtain ⟨c0, c1, d0, d1, d2, d3, d4, d5, d6⟩ := hcells
    have hT : ptB i o pr sp dp = true := by unfold ptB; rw [HE.out.1, HE.out.2.1, HE.out.2.2.1, HE.out.2.2.2.1, HE.out.2.2.2.2]; rfl
    have hi15 := witB_iff HE.out.1
    have ho15 := witB_iff HE.out.2.1
    have hp255 := witB_iff HE.out.2.2.1
    have hs65 := witB_iff HE.out.2.2.2.1
    have hd65 := witB_iff HE.out.2.2.2.2
    go_upto_region 5 with (go_at_call 34; go_loud ((first | with_reducible refine (k1 _).mono ?_ | with_reducible refine (k2 _).mono ?_ | with_reducible refine (k3 _).mono ?_ | with_reducible refine (k4 _).mono ?_ | with_reducible refine (k5 _).mono ?_); rintro e w2 ⟨rfl, hw2⟩; rw [hw2]; clear hw2))
    have hKl := (Array.getElem?_eq_some_iff.1 hK).1
    have hRl := (Array.getElem?_eq_some_iff.1 hR).1
    have hHl := (Array.getElem?_eq_some_iff.1 hH).1
    have hP0 : (W.alloc (.cells #[.int .u64 0, .int .u64 0, .int .u64 0, .int .u64 0, .int .u64 0, .int .u64 0, .int .u64 0, .int .u64 0, .int .u64 0, .int .u64 0, .int .u64 0, .int .u64 0] 53)).heap[W.heap.size]? = some (.cells (ptc 0 0 0 0 0 0 0 0 0 0 0 0) 53 (0, 0)) := heap_alloc_new W _
    have b9 : Below w.heap.size w (W.alloc (.cells #[.int .u64 0, .int .u64 0, .int .u64 0, .int .u64 0, .int .u64 0, .int .u64 0, .int .u64 0, .int .u64 0, .int .u64 0, .int .u64 0, .int .u64 0, .int .u64 0] 53)) := Below.al b0 _
    have hRz := blk_al (o := .cells #[.int .u64 0, .int .u64 0, .int .u64 0, .int .u64 0, .int .u64 0, .int .u64 0, .int .u64 0, .int .u64 0, .int .u64 0, .int .u64 0, .int .u64 0, .int .u64 0] 53) hR (.cells #[.int .u64 0, .int .u64 0, .int .u64 0, .int .u64 0, .int .u64 0, .int .u64 0, .int .u64 0, .int .u64 0, .int .u64 0, .int .u64 0, .int .u64 0, .int .u64 0] 53)
    have hWl : W.heap.size < (W.alloc (.cells #[.int .u64 0, .int .u64 0, .int .u64 0, .int .u64 0, .int .u64 0, .int .u64 0, .int .u64 0, .int .u64 0, .int .u64 0, .int .u64 0, .int .u64 0, .int .u64 0] 53)).heap.size := by simp
    have HWal := Below.al (Below.refl _ W) (.cells #[.int .u64 0, .int .u64 0, .int .u64 0, .int .u64 0, .int .u64 0, .int .u64 0, .int .u64 0, .int .u64 0, .int .u64 0, .int .u64 0, .int .u64 0, .int .u64 0] 53)
    generalize W.alloc (.cells #[.int .u64 0, .int .u64 0, .int .u64 0, .int .u64 0, .int .u64 0, .int .u64 0, .int .u64 0, .int .u64 0, .int .u64 0, .int .u64 0, .int .u64 0, .int .u64 0] 53) = W0 at *
    generalize hB : W.heap.size = B at *
    have e1 : W0.heap[w.heap.size]? = some (.cells #[.int .i64 i, .int .i64 o, .int .i64 pr, .int .u64 sh, .int .u64 sl, .int .u64 dh, .int .u64 dl, .int .i64 sp, .int .i64 dp] 40 (0, 0)) := (HWal.block _ (by omega)).trans hH
    have e2 : W0.heap[w.heap.size + 1 + 1]? = some (.cells #[.int .i64 pr, .int .u64 sh, .int .u64 sl, .int .u64 dh, .int .u64 dl, .int .i64 sp, .int .i64 dp] 38 (0, 0)) := (HWal.block _ (by omega)).trans hK
    have e3 : W0.heap[w.heap.size + 1]? = some (.cells #[.int .u64 0, .int .u64 0, .int .u64 0, .int .u64 0, .int .u64 0, .int .u64 0, .int .u64 0, .int .u64 0, .int .u64 0, .int .u64 0, .int .u64 0, .int .u64 0] 53 (0, 0)) := (HWal.block _ (by omega)).trans hR
    have hne : B ≠ w.heap.size ∧ B ≠ w.heap.size + 1 + 1 ∧ B ≠ w.heap.size + 1 := by omega
    have hsz := HWal.size
    clear hRz HWal
    have hHl0 := (Array.getElem?_eq_some_iff.1 e1).1
    have hKl0 := (Array.getElem?_eq_some_iff.1 e2).1
    have hRl0 := (Array.getElem?_eq_some_iff.1 e3).1
    have HC : Hid (∀ V : World, OffE (fun q => q = B) W0.heap.size W0 V → V.cell? ⟨w.heap.size, 0, none⟩ = some (.int .i64 i) ∧ V.cell? ⟨w.heap.size, 1, none⟩ = some (.int .i64 o) ∧ V.cell? ⟨w.heap.size + 1 + 1, 0, none⟩ = some (.int .i64 pr) ∧ V.cell? ⟨w.heap.size + 1 + 1, 1, none⟩ = some (.int .u64 sh) ∧ V.cell? ⟨w.heap.size + 1 + 1, 2, none⟩ = some (.int .u64 sl) ∧ V.cell? ⟨w.heap.size + 1 + 1, 3, none⟩ = some (.int .u64 dh) ∧ V.cell? ⟨w.heap.size + 1 + 1, 4, none⟩ = some (.int .u64 dl) ∧ V.cell? ⟨w.heap.size + 1 + 1, 5, none⟩ = some (.int .i64 sp) ∧ V.cell? ⟨w.heap.size + 1 + 1, 6, none⟩ = some (.int .i64 dp)) := Lib.hid (fun V hV => by
      have f1 := (hV.block _ hHl0 (fun h => hne.1 h.symm)).trans e1
      have f2 := (hV.block _ hKl0 (fun h => hne.2.1 h.symm)).trans e2
      refine ⟨?_, ?_, ?_, ?_, ?_, ?_, ?_, ?_, ?_⟩ <;> simp [World.cell?, f1, f2])
    have HR : Hid (∀ V : World, OffE (fun q => q = B) W0.heap.size W0 V → V.heap[w.heap.size + 1]? = some (.cells #[.int .u64 0, .int .u64 0, .int .u64 0, .int .u64 0, .int .u64 0, .int .u64 0, .int .u64 0, .int .u64 0, .int .u64 0, .int .u64 0, .int .u64 0, .int .u64 0] 53 (0, 0))) := Lib.hid (fun V hV => (hV.block _ hRl0 (fun h => hne.2.2 h.symm)).trans e3)
    have HBl : Hid (w.heap.size ≤ B ∧ True) := Lib.hid ⟨by omega, trivial⟩
    have HW0 : OffE (fun q => q = B) W0.heap.size W0 W0 := OffE.refl _ _
    clear c0 c1 d0 d1 d2 d3 d4 d5 d6 hH hK hR e1 e2 e3
    obtain ⟨y0, y1, z0, z1⟩ := ptk0 hP0
    obtain ⟨q0, q1, g0, g1, g2, g3, g4, g5, g6⟩ := HC.out _ HW0
    have kzp := fun W : World => zp_any (a := i) (b := o) (by omega) (by omega) W
    have kof := fun W : World => of_any (n := (i * 16 + o)) (by omega) W
    go_upto_region 6 with (first | (go_at_call 36; go_loud ((refine (kzp _).mono ?_); rintro e wz ⟨rfl, hwz⟩; rw [hwz]; clear hwz)) | (go_at_call 35; go_loud ((refine (kof _).mono ?_); rintro e wq ⟨rfl, bq⟩; have hPq := blkB bq hP0; have HWq := HW0.below bq; obtain ⟨u0, u1, v0, v1⟩ := ptk0 hPq)))
    have hP1 := pts0 hPq 0 (ofN (i * 16 + o))
    have HW1 : OffE (fun q => q = B) W0.heap.size W0 ((wq.setCell ⟨B, 0, none⟩ (.int .u64 0)).setCell ⟨B, 1, none⟩ (.int .u64 (ofN (i * 16 + o)))) := OffE.set (OffE.set HWq rfl _ _) rfl _ _
    clear y0 y1 z0 z1 q0 q1 g0 g1 g2 g3 g4 g5 g6 u0 u1 v0 v1 hP0 HW0 hPq HWq bq kof
    generalize (wq.setCell ⟨B, 0, none⟩ (.int .u64 0)).setCell ⟨B, 1, none⟩ (.int .u64 (ofN (i * 16 + o))) = s1 at HW1 hP1 ⊢
    obtain ⟨y0, y1, z0, z1⟩ := ptk1 hP1
    obtain ⟨q0, q1, g0, g1, g2, g3, g4, g5, g6⟩ := HC.out _ HW1
    have kof := fun W : World => of_any (n := pr) (by omega) W
    go_upto_region 7 with (first | (go_at_call 35; go_loud ((refine (kof _).mono ?_); rintro e wq ⟨rfl, bq⟩; have hPq := blkB bq hP1; have HWq := HW1.below bq; obtain ⟨u0, u1, v0, v1⟩ := ptk1 hPq)))
    have hP2 := pts1 hPq 0 (ofN pr)
    have HW2 : OffE (fun q => q = B) W0.heap.size W0 ((wq.setCell ⟨B, 2, none⟩ (.int .u64 0)).setCell ⟨B, 3, none⟩ (.int .u64 (ofN pr))) := OffE.set (OffE.set HWq rfl _ _) rfl _ _
    clear y0 y1 z0 z1 q0 q1 g0 g1 g2 g3 g4 g5 g6 u0 u1 v0 v1 hP1 HW1 hPq HWq bq kof
    generalize (wq.setCell ⟨B, 2, none⟩ (.int .u64 0)).setCell ⟨B, 3, none⟩ (.int .u64 (ofN pr)) = s2 at HW2 hP2 ⊢
    obtain ⟨y0, y1, z0, z1⟩ := ptk2 hP2
    obtain ⟨q0, q1, g0, g1, g2, g3, g4, g5, g6⟩ := HC.out _ HW2
    have kof := fun W : World => of_any (n := sp) (by omega) W
    go_upto_region 8 with (first | (go_at_call 35; go_loud ((refine (kof _).mono ?_); rintro e wq ⟨rfl, bq⟩; have hPq := blkB bq hP2; have HWq := HW2.below bq; obtain ⟨u0, u1, v0, v1⟩ := ptk2 hPq)))
    have hP3 := pts2 hPq 0 (ofN sp)
    have HW3 : OffE (fun q => q = B) W0.heap.size W0 ((wq.setCell ⟨B, 4, none⟩ (.int .u64 0)).setCell ⟨B, 5, none⟩ (.int .u64 (ofN sp))) := OffE.set (OffE.set HWq rfl _ _) rfl _ _
    clear y0 y1 z0 z1 q0 q1 g0 g1 g2 g3 g4 g5 g6 u0 u1 v0 v1 hP2 HW2 hPq HWq bq kof
    generalize (wq.setCell ⟨B, 4, none⟩ (.int .u64 0)).setCell ⟨B, 5, none⟩ (.int .u64 (ofN sp)) = s3 at HW3 hP3 ⊢
    obtain ⟨y0, y1, z0, z1⟩ := ptk3 hP3
    obtain ⟨q0, q1, g0, g1, g2, g3, g4, g5, g6⟩ := HC.out _ HW3
    have kof := fun W : World => of_any (n := dp) (by omega) W
    go_upto_region 9 with (first | (go_at_call 35; go_loud ((refine (kof _).mono ?_); rintro e wq ⟨rfl, bq⟩; have hPq := blkB bq hP3; have HWq := HW3.below bq; obtain ⟨u0, u1, v0, v1⟩ := ptk3 hPq)))
    have hP4 := pts3 hPq 0 (ofN dp)
    have HW4 : OffE (fun q => q = B) W0.heap.size W0 ((wq.setCell ⟨B, 6, none⟩ (.int .u64 0)).setCell ⟨B, 7, none⟩ (.int .u64 (ofN dp))) := OffE.set (OffE.set HWq rfl _ _) rfl _ _
    clear y0 y1 z0 z1 q0 q1 g0 g1 g2 g3 g4 g5 g6 u0 u1 v0 v1 hP3 HW3 hPq HWq bq kof
    generalize (wq.setCell ⟨B, 6, none⟩ (.int .u64 0)).setCell ⟨B, 7, none⟩ (.int .u64 (ofN dp)) = s4 at HW4 hP4 ⊢
    obtain ⟨y0, y1, z0, z1⟩ := ptk4 hP4
    obtain ⟨q0, q1, g0, g1, g2, g3, g4, g5, g6⟩ := HC.out _ HW4
    go_upto_region 10 with fail
    have hP5 := pts4 hP4 sh sl
    have HW5 : OffE (fun q => q = B) W0.heap.size W0 ((s4.setCell ⟨B, 8, none⟩ (.int .u64 sh)).setCell ⟨B, 9, none⟩ (.int .u64 sl)) := OffE.set (OffE.set HW4 rfl _ _) rfl _ _
    clear y0 y1 z0 z1 q0 q1 g0 g1 g2 g3 g4 g5 g6 hP4 HW4
    generalize (s4.setCell ⟨B, 8, none⟩ (.int .u64 sh)).setCell ⟨B, 9, none⟩ (.int .u64 sl) = s5 at HW5 hP5 ⊢
    obtain ⟨y0, y1, z0, z1⟩ := ptk5 hP5
    obtain ⟨q0, q1, g0, g1, g2, g3, g4, g5, g6⟩ := HC.out _ HW5
    go_upto_region 11 with fail
    have hP6 := pts5 hP5 dh dl
    have HW6 : OffE (fun q => q = B) W0.heap.size W0 ((s5.setCell ⟨B, 10, none⟩ (.int .u64 dh)).setCell ⟨B, 11, none⟩ (.int .u64 dl)) := OffE.set (OffE.set HW5 rfl _ _) rfl _ _
    clear y0 y1 z0 z1 q0 q1 g0 g1 g2 g3 g4 g5 g6 hP5 HW5
    generalize (s5.setCell ⟨B, 10, none⟩ (.int .u64 dh)).setCell ⟨B, 11, none⟩ (.int .u64 dl) = s6 at HW6 hP6 ⊢
    have hRf := HR.out _ HW6
    have bf := Below.trans b9 (HW6.toBelow b9.size (fun q hq => by rw [hq]; exact HBl.out.1))
    obtain ⟨D, hD⟩ : ∃ D, ptc 0 (ofN (i * 16 + o)) 0 (ofN pr) 0 (ofN sp) 0 (ofN dp) sh sl dh dl = D := ⟨_, rfl⟩
    rw [hD] at hP6
    have iD : Hid ((Tryz.prog.info? 53).map (·.size) = some D.size) := Lib.hid (by rw [← hD]; exact inf12)
    have zD : Hid ((#[.int .u64 0, .int .u64 0, .int .u64 0, .int .u64 0, .int .u64 0, .int .u64 0, .int .u64 0, .int .u64 0, .int .u64 0, .int .u64 0, .int .u64 0, .int .u64 0] : Array Value).size = D.size) := Lib.hid (by rw [← hD]; rfl)
    have oD : Hid (D.all (·.oneCell') = true) := Lib.hid (by rw [← hD]; exact one12)
    have hA : ptA i o pr sh sl dh dl sp dp = D := by unfold ptA; rw [if_pos hT]; exact hD
    clear hD
    go_wp2_with (first
      | (refine wpList_load_row rfl 53 (.tmp 5) rfl B rfl 53 D (0, 0) _ hP6 Tryz.underlying53 rfl iD.out ?_)
      | (refine wpList_store_row rfl 53 (.tmp 2) (.tmp 68) rfl (w.heap.size + 1) D rfl rfl 53 #[.int .u64 0, .int .u64 0, .int .u64 0, .int .u64 0, .int .u64 0, .int .u64 0, .int .u64 0, .int .u64 0, .int .u64 0, .int .u64 0, .int .u64 0, .int .u64 0] hRf iD.out zD.out oD.out ?_))
    refine bodyPost_ret_by (results_ptA Tryz.results11 _ _ (w.heap.size + 1) 53 D _ _ rfl (blk_setRow hRf D) Tryz.underlying53 iD.out) rfl ⟨by rw [hA, hT]; rfl, Below.setRow bf (by omega) _⟩
  · have hF : ptB i o pr sp dp = false := by
      unfold ptB
      rw [HE.out.1, HE.out.2.1, HE.out.2.2.1, HE.out.2.2.2.1, HE.out.2.2.2.2]
      cases b1 <;> cases b2 <;> cases b3 <;> cases b4 <;> cases b5 <;> simp_all
    have hA : ptA i o pr sh sl dh dl sp dp = #[.int .u64 0, .int .u64 0, .int .u64 0, .int .u64 0, .int .u64 0, .int .u64 0, .int .u64 0, .int .u64 0, .int .u64 0, .int .u64 0, .int .u64 0, .int .u64 0] := by unfold ptA; rw [if_neg (by rw [hF]; decide)]; rfl
    have oZ : Hid ((#[.int .u64 0, .int .u64 0, .int .u64 0, .int .u64 0, .int .u64 0, .int .u64 0, .int .u64 0, .int .u64 0, .int .u64 0, .int .u64 0, .int .u64 0, .int .u64 0] : Array Value).all (·.oneCell') = true) := Lib.hid (by simp [Value.oneCell'])
    obtain ⟨c0, c1, d0, d1, d2, d3, d4, d5, d6⟩ := hcells
    have HF := Lib.hid hF
    have HA := Lib.hid hA
    clear hF hA
    cases b1 with
    | false => (clear hall HE; go_wp2_with (first | (go_at_call 34; go_loud ((first | with_reducible refine (k1 _).mono ?_ | with_reducible refine (k2 _).mono ?_ | with_reducible refine (k3 _).mono ?_ | with_reducible refine (k4 _).mono ?_ | with_reducible refine (k5 _).mono ?_); rintro e w2 ⟨rfl, hw2⟩; rw [hw2]; clear hw2)) | (refine wpList_store_row rfl 53 (.tmp 2) (.tmp 36) rfl (w.heap.size + 1) #[.int .u64 0, .int .u64 0, .int .u64 0, .int .u64 0, .int .u64 0, .int .u64 0, .int .u64 0, .int .u64 0, .int .u64 0, .int .u64 0, .int .u64 0, .int .u64 0] rfl rfl 53 #[.int .u64 0, .int .u64 0, .int .u64 0, .int .u64 0, .int .u64 0, .int .u64 0, .int .u64 0, .int .u64 0, .int .u64 0, .int .u64 0, .int .u64 0, .int .u64 0] hR iZ.out rfl oZ.out ?_)); refine bodyPost_ret_by (results_ptA Tryz.results11 _ _ (w.heap.size + 1) 53 #[.int .u64 0, .int .u64 0, .int .u64 0, .int .u64 0, .int .u64 0, .int .u64 0, .int .u64 0, .int .u64 0, .int .u64 0, .int .u64 0, .int .u64 0, .int .u64 0] _ _ rfl (blk_setRow hR #[.int .u64 0, .int .u64 0, .int .u64 0, .int .u64 0, .int .u64 0, .int .u64 0, .int .u64 0, .int .u64 0, .int .u64 0, .int .u64 0, .int .u64 0, .int .u64 0]) Tryz.underlying53 iZ.out) rfl ⟨by rw [HA.out, HF.out]; rfl, Below.setRow b0 (by omega) _⟩)
    | true => cases b2 with
      | false => (clear hall HE; go_wp2_with (first | (go_at_call 34; go_loud ((first | with_reducible refine (k1 _).mono ?_ | with_reducible refine (k2 _).mono ?_ | with_reducible refine (k3 _).mono ?_ | with_reducible refine (k4 _).mono ?_ | with_reducible refine (k5 _).mono ?_); rintro e w2 ⟨rfl, hw2⟩; rw [hw2]; clear hw2)) | (refine wpList_store_row rfl 53 (.tmp 2) (.tmp 36) rfl (w.heap.size + 1) #[.int .u64 0, .int .u64 0, .int .u64 0, .int .u64 0, .int .u64 0, .int .u64 0, .int .u64 0, .int .u64 0, .int .u64 0, .int .u64 0, .int .u64 0, .int .u64 0] rfl rfl 53 #[.int .u64 0, .int .u64 0, .int .u64 0, .int .u64 0, .int .u64 0, .int .u64 0, .int .u64 0, .int .u64 0, .int .u64 0, .int .u64 0, .int .u64 0, .int .u64 0] hR iZ.out rfl oZ.out ?_)); refine bodyPost_ret_by (results_ptA Tryz.results11 _ _ (w.heap.size + 1) 53 #[.int .u64 0, .int .u64 0, .int .u64 0, .int .u64 0, .int .u64 0, .int .u64 0, .int .u64 0, .int .u64 0, .int .u64 0, .int .u64 0, .int .u64 0, .int .u64 0] _ _ rfl (blk_setRow hR #[.int .u64 0, .int .u64 0, .int .u64 0, .int .u64 0, .int .u64 0, .int .u64 0, .int .u64 0, .int .u64 0, .int .u64 0, .int .u64 0, .int .u64 0, .int .u64 0]) Tryz.underlying53 iZ.out) rfl ⟨by rw [HA.out, HF.out]; rfl, Below.setRow b0 (by omega) _⟩)
      | true => cases b3 with
        | false => (clear hall HE; go_wp2_with (first | (go_at_call 34; go_loud ((first | with_reducible refine (k1 _).mono ?_ | with_reducible refine (k2 _).mono ?_ | with_reducible refine (k3 _).mono ?_ | with_reducible refine (k4 _).mono ?_ | with_reducible refine (k5 _).mono ?_); rintro e w2 ⟨rfl, hw2⟩; rw [hw2]; clear hw2)) | (refine wpList_store_row rfl 53 (.tmp 2) (.tmp 36) rfl (w.heap.size + 1) #[.int .u64 0, .int .u64 0, .int .u64 0, .int .u64 0, .int .u64 0, .int .u64 0, .int .u64 0, .int .u64 0, .int .u64 0, .int .u64 0, .int .u64 0, .int .u64 0] rfl rfl 53 #[.int .u64 0, .int .u64 0, .int .u64 0, .int .u64 0, .int .u64 0, .int .u64 0, .int .u64 0, .int .u64 0, .int .u64 0, .int .u64 0, .int .u64 0, .int .u64 0] hR iZ.out rfl oZ.out ?_)); refine bodyPost_ret_by (results_ptA Tryz.results11 _ _ (w.heap.size + 1) 53 #[.int .u64 0, .int .u64 0, .int .u64 0, .int .u64 0, .int .u64 0, .int .u64 0, .int .u64 0, .int .u64 0, .int .u64 0, .int .u64 0, .int .u64 0, .int .u64 0] _ _ rfl (blk_setRow hR #[.int .u64 0, .int .u64 0, .int .u64 0, .int .u64 0, .int .u64 0, .int .u64 0, .int .u64 0, .int .u64 0, .int .u64 0, .int .u64 0, .int .u64 0, .int .u64 0]) Tryz.underlying53 iZ.out) rfl ⟨by rw [HA.out, HF.out]; rfl, Below.setRow b0 (by omega) _⟩)
        | true => cases b4 with
          | false => (clear hall HE; go_wp2_with (first | (go_at_call 34; go_loud ((first | with_reducible refine (k1 _).mono ?_ | with_reducible refine (k2 _).mono ?_ | with_reducible refine (k3 _).mono ?_ | with_reducible refine (k4 _).mono ?_ | with_reducible refine (k5 _).mono ?_); rintro e w2 ⟨rfl, hw2⟩; rw [hw2]; clear hw2)) | (refine wpList_store_row rfl 53 (.tmp 2) (.tmp 36) rfl (w.heap.size + 1) #[.int .u64 0, .int .u64 0, .int .u64 0, .int .u64 0, .int .u64 0, .int .u64 0, .int .u64 0, .int .u64 0, .int .u64 0, .int .u64 0, .int .u64 0, .int .u64 0] rfl rfl 53 #[.int .u64 0, .int .u64 0, .int .u64 0, .int .u64 0, .int .u64 0, .int .u64 0, .int .u64 0, .int .u64 0, .int .u64 0, .int .u64 0, .int .u64 0, .int .u64 0] hR iZ.out rfl oZ.out ?_)); refine bodyPost_ret_by (results_ptA Tryz.results11 _ _ (w.heap.size + 1) 53 #[.int .u64 0, .int .u64 0, .int .u64 0, .int .u64 0, .int .u64 0, .int .u64 0, .int .u64 0, .int .u64 0, .int .u64 0, .int .u64 0, .int .u64 0, .int .u64 0] _ _ rfl (blk_setRow hR #[.int .u64 0, .int .u64 0, .int .u64 0, .int .u64 0, .int .u64 0, .int .u64 0, .int .u64 0, .int .u64 0, .int .u64 0, .int .u64 0, .int .u64 0, .int .u64 0]) Tryz.underlying53 iZ.out) rfl ⟨by rw [HA.out, HF.out]; rfl, Below.setRow b0 (by omega) _⟩)
          | true => cases b5 with
            | false => (clear hall HE; go_wp2_with (first | (go_at_call 34; go_loud ((first | with_reducible refine (k1 _).mono ?_ | with_reducible refine (k2 _).mono ?_ | with_reducible refine (k3 _).mono ?_ | with_reducible refine (k4 _).mono ?_ | with_reducible refine (k5 _).mono ?_); rintro e w2 ⟨rfl, hw2⟩; rw [hw2]; clear hw2)) | (refine wpList_store_row rfl 53 (.tmp 2) (.tmp 36) rfl (w.heap.size + 1) #[.int .u64 0, .int .u64 0, .int .u64 0, .int .u64 0, .int .u64 0, .int .u64 0, .int .u64 0, .int .u64 0, .int .u64 0, .int .u64 0, .int .u64 0, .int .u64 0] rfl rfl 53 #[.int .u64 0, .int .u64 0, .int .u64 0, .int .u64 0, .int .u64 0, .int .u64 0, .int .u64 0, .int .u64 0, .int .u64 0, .int .u64 0, .int .u64 0, .int .u64 0] hR iZ.out rfl oZ.out ?_)); refine bodyPost_ret_by (results_ptA Tryz.results11 _ _ (w.heap.size + 1) 53 #[.int .u64 0, .int .u64 0, .int .u64 0, .int .u64 0, .int .u64 0, .int .u64 0, .int .u64 0, .int .u64 0, .int .u64 0, .int .u64 0, .int .u64 0, .int .u64 0] _ _ rfl (blk_setRow hR #[.int .u64 0, .int .u64 0, .int .u64 0, .int .u64 0, .int .u64 0, .int .u64 0, .int .u64 0, .int .u64 0, .int .u64 0, .int .u64 0, .int .u64 0, .int .u64 0]) Tryz.underlying53 iZ.out) rfl ⟨by rw [HA.out, HF.out]; rfl, Below.setRow b0 (by omega) _⟩)
            | true => exact absurd ⟨rfl, rfl, rfl, rfl, rfl⟩ hall
end Go.Proofs.YtmnnjkdmnfadhaaGreatDoor

namespace Go.Proofs.YtmnnjkdmnfadhaaGreatDoor
open Go.Shelf Go.RowKit Go.Lib Go.Sort
set_option maxRecDepth 100000
set_option linter.unusedVariables false
set_option linter.unusedSimpArgs false

def eqB (a b : Nat → R4) : Bool := eqR (a 0) (b 0) && (eqR (a 1) (b 1) && (eqR (a 2) (b 2) && (eqR (a 3) (b 3) && (eqR (a 4) (b 4) && eqR (a 5) (b 5)))))
set_option maxHeartbeats 1000000 in
theorem eq_arrD (D : Nat) (a b : Nat → R4) (w : World) (E : ∀ (r s : R4) (w : World), (Op.equalIn D 45 (.agg #[.int .u64 r.fh, .int .u64 r.fl, .int .u64 r.th, .int .u64 r.tl]) (.agg #[.int .u64 s.fh, .int .u64 s.fl, .int .u64 s.th, .int .u64 s.tl])).run Tryz.prog w = .ok (eqR r s) w) : (Op.equalIn (D + 1) 46 (.agg (bxc a)) (.agg (bxc b))).run Tryz.prog w = .ok (eqB a b) w := by
  have hs : ∀ W, (Go.sizeOf 45).run Tryz.prog W = .ok 4 W := fun W => by kernel_rfl
  have e0 := E (a 0) (b 0)
  have e1 := E (a 1) (b 1)
  have e2 := E (a 2) (b 2)
  have e3 := E (a 3) (b 3)
  have e4 := E (a 4) (b 4)
  have e5 := E (a 5) (b 5)
  have pa0 : ∀ W, (part 45 (bxc a) (0 * 4)).run Tryz.prog W = .ok (.agg #[.int .u64 (a 0).fh, .int .u64 (a 0).fl, .int .u64 (a 0).th, .int .u64 (a 0).tl]) W := fun W => by kernel_rfl
  have pb0 : ∀ W, (part 45 (bxc b) (0 * 4)).run Tryz.prog W = .ok (.agg #[.int .u64 (b 0).fh, .int .u64 (b 0).fl, .int .u64 (b 0).th, .int .u64 (b 0).tl]) W := fun W => by kernel_rfl
  have pa1 : ∀ W, (part 45 (bxc a) (1 * 4)).run Tryz.prog W = .ok (.agg #[.int .u64 (a 1).fh, .int .u64 (a 1).fl, .int .u64 (a 1).th, .int .u64 (a 1).tl]) W := fun W => by kernel_rfl
  have pb1 : ∀ W, (part 45 (bxc b) (1 * 4)).run Tryz.prog W = .ok (.agg #[.int .u64 (b 1).fh, .int .u64 (b 1).fl, .int .u64 (b 1).th, .int .u64 (b 1).tl]) W := fun W => by kernel_rfl
  have pa2 : ∀ W, (part 45 (bxc a) (2 * 4)).run Tryz.prog W = .ok (.agg #[.int .u64 (a 2).fh, .int .u64 (a 2).fl, .int .u64 (a 2).th, .int .u64 (a 2).tl]) W := fun W => by kernel_rfl
  have pb2 : ∀ W, (part 45 (bxc b) (2 * 4)).run Tryz.prog W = .ok (.agg #[.int .u64 (b 2).fh, .int .u64 (b 2).fl, .int .u64 (b 2).th, .int .u64 (b 2).tl]) W := fun W => by kernel_rfl
  have pa3 : ∀ W, (part 45 (bxc a) (3 * 4)).run Tryz.prog W = .ok (.agg #[.int .u64 (a 3).fh, .int .u64 (a 3).fl, .int .u64 (a 3).th, .int .u64 (a 3).tl]) W := fun W => by kernel_rfl
  have pb3 : ∀ W, (part 45 (bxc b) (3 * 4)).run Tryz.prog W = .ok (.agg #[.int .u64 (b 3).fh, .int .u64 (b 3).fl, .int .u64 (b 3).th, .int .u64 (b 3).tl]) W := fun W => by kernel_rfl
  have pa4 : ∀ W, (part 45 (bxc a) (4 * 4)).run Tryz.prog W = .ok (.agg #[.int .u64 (a 4).fh, .int .u64 (a 4).fl, .int .u64 (a 4).th, .int .u64 (a 4).tl]) W := fun W => by kernel_rfl
  have pb4 : ∀ W, (part 45 (bxc b) (4 * 4)).run Tryz.prog W = .ok (.agg #[.int .u64 (b 4).fh, .int .u64 (b 4).fl, .int .u64 (b 4).th, .int .u64 (b 4).tl]) W := fun W => by kernel_rfl
  have pa5 : ∀ W, (part 45 (bxc a) (5 * 4)).run Tryz.prog W = .ok (.agg #[.int .u64 (a 5).fh, .int .u64 (a 5).fl, .int .u64 (a 5).th, .int .u64 (a 5).tl]) W := fun W => by kernel_rfl
  have pb5 : ∀ W, (part 45 (bxc b) (5 * 4)).run Tryz.prog W = .ok (.agg #[.int .u64 (b 5).fh, .int .u64 (b 5).fl, .int .u64 (b 5).th, .int .u64 (b 5).tl]) W := fun W => by kernel_rfl
  unfold eqB
  generalize eqR (a 0) (b 0) = R0 at *
  generalize eqR (a 1) (b 1) = R1 at *
  generalize eqR (a 2) (b 2) = R2 at *
  generalize eqR (a 3) (b 3) = R3 at *
  generalize eqR (a 4) (b 4) = R4 at *
  generalize eqR (a 5) (b 5) = R5 at *
  generalize bxc a = A at *
  generalize bxc b = B at *
  clear E
  simp only [Op.equalIn, Sem.run_bind, run_underlying Tryz.underlying46, Result.andThen_ok, hs]
  rw [Std.Legacy.Range.forIn_eq_forIn_range']
  rw [show List.range' ({ start := 0, stop := 6, step := 1, step_pos := Nat.one_pos } : Std.Legacy.Range).start ({ start := 0, stop := 6, step := 1, step_pos := Nat.one_pos } : Std.Legacy.Range).size ({ start := 0, stop := 6, step := 1, step_pos := Nat.one_pos } : Std.Legacy.Range).step = [0, 1, 2, 3, 4, 5] from rfl]
  simp only [List.forIn_cons, List.forIn_nil]
  simp only [Sem.run_bind, e0, e1, e2, e3, e4, e5, pa0, pb0, pa1, pb1, pa2, pb2, pa3, pb3, pa4, pb4, pa5, pb5, Result.andThen_ok]
  cases R0
  · rfl
  cases R1
  · simp [Sem.run_bind, e0, e1, e2, e3, e4, e5, pa0, pb0, pa1, pb1, pa2, pb2, pa3, pb3, pa4, pb4, pa5, pb5]
  cases R2
  · simp [Sem.run_bind, e0, e1, e2, e3, e4, e5, pa0, pb0, pa1, pb1, pa2, pb2, pa3, pb3, pa4, pb4, pa5, pb5]
  cases R3
  · simp [Sem.run_bind, e0, e1, e2, e3, e4, e5, pa0, pb0, pa1, pb1, pa2, pb2, pa3, pb3, pa4, pb4, pa5, pb5]
  cases R4
  · simp [Sem.run_bind, e0, e1, e2, e3, e4, e5, pa0, pb0, pa1, pb1, pa2, pb2, pa3, pb3, pa4, pb4, pa5, pb5]
  cases R5
  · simp [Sem.run_bind, e0, e1, e2, e3, e4, e5, pa0, pb0, pa1, pb1, pa2, pb2, pa3, pb3, pa4, pb4, pa5, pb5]
  simp [Sem.run_bind, e0, e1, e2, e3, e4, e5, pa0, pb0, pa1, pb1, pa2, pb2, pa3, pb3, pa4, pb4, pa5, pb5]
theorem eqB_iff (a b : Nat → R4) : eqB a b = true ↔ ∀ k, k < 6 → a k = b k := by
  unfold eqB
  simp only [Bool.and_eq_true, eqR_iff]
  constructor
  · rintro ⟨h0, h1, h2, h3, h4, h5⟩ k hk
    match k, hk with
    | 0, _ => exact h0
    | 1, _ => exact h1
    | 2, _ => exact h2
    | 3, _ => exact h3
    | 4, _ => exact h4
    | 5, _ => exact h5
  · intro h
    exact ⟨h 0 (by omega), h 1 (by omega), h 2 (by omega), h 3 (by omega), h 4 (by omega), h 5 (by omega)⟩
theorem eq_inD (d : Nat) (a b : Nat → R4) (w : World) : (Op.equalIn (d + 5) 48 (.agg (bxc a)) (.agg (bxc b))).run Tryz.prog w = .ok (eqB a b) w := by
  have H := eq_arrD (d + 3) a b w (fun r s W => eq_rng d r s W)
  have pa : ∀ W, (part 46 (bxc a) 0).run Tryz.prog W = .ok (.agg (bxc a)) W := fun W => by kernel_rfl
  have pb : ∀ W, (part 46 (bxc b) 0).run Tryz.prog W = .ok (.agg (bxc b)) W := fun W => by kernel_rfl
  generalize bxc a = A at *
  generalize bxc b = B at *
  generalize eqB a b = R at *
  rw [run_equalIn_struct w (d + 4) 48 _ _ (by kernel_rfl) (by kernel_rfl)]
  rw [show (Tryz.prog.fieldsOf 48).toList = [{ name := "F", type := 46, offset := 0, embedded := false, tag := "", pkgPath := "", byteOffset := 0 }] from by kernel_rfl]
  rw [eqF_cons (by decide) (pa w) (pb w) H]
  cases R <;> rfl
def eqE (x y : EN) : Bool := eqB x.bx y.bx && x.ru == y.ru
theorem eqE_refl (x : EN) : eqE x x = true := by unfold eqE; rw [(eqB_iff _ _).2 (fun _ _ => rfl)]; simp
theorem eq_enD (d : Nat) (x y : EN) (w : World) : (Op.equalIn (d + 6) 50 (.agg (enc25 x).toArray) (.agg (enc25 y).toArray)).run Tryz.prog w = .ok (eqE x y) w := by
  have H := eq_inD d x.bx y.bx w
  have pa : ∀ W, (part 48 (enc25 x).toArray 0).run Tryz.prog W = .ok (.agg (bxc x.bx)) W := fun W => by kernel_rfl
  have pb : ∀ W, (part 48 (enc25 y).toArray 0).run Tryz.prog W = .ok (.agg (bxc y.bx)) W := fun W => by kernel_rfl
  have qa : ∀ W, (part 3 (enc25 x).toArray 24).run Tryz.prog W = .ok (.int .i64 x.ru) W := fun W => by kernel_rfl
  have qb : ∀ W, (part 3 (enc25 y).toArray 24).run Tryz.prog W = .ok (.int .i64 y.ru) W := fun W => by kernel_rfl
  unfold eqE
  generalize bxc x.bx = A at *
  generalize bxc y.bx = B at *
  generalize eqB x.bx y.bx = R at *
  generalize (enc25 x).toArray = X at *
  generalize (enc25 y).toArray = Y at *
  rw [run_equalIn_struct w (d + 5) 50 _ _ (by kernel_rfl) (by kernel_rfl)]
  rw [show (Tryz.prog.fieldsOf 50).toList = [{ name := "Box", type := 48, offset := 0, embedded := false, tag := "", pkgPath := "", byteOffset := 0 }, { name := "Rule", type := 3, offset := 24, embedded := false, tag := "", pkgPath := "", byteOffset := 192 }] from by kernel_rfl]
  rw [eqF_cons (by decide) (pa w) (pb w) H]
  rw [eqF_cons (by decide) (qa w) (qb w) (run_equalIn_int w (d + 4) 3 .i64 .i64 x.ru y.ru Tryz.underlying3)]
  cases R <;> cases (x.ru == y.ru) <;> rfl
theorem neq_en (x y : EN) (w : World) : (binOp .neq 50 (.agg (enc25 x).toArray) (.agg (enc25 y).toArray)).run Tryz.prog w = .ok (.bool (!eqE x y)) w := by
  rw [run_neq_struct]
  rw [show (10000 : Nat) = 9994 + 6 from rfl, eq_enD 9994 x y w]
  rfl
theorem neq_self (x : EN) (w : World) : (binOp .neq 50 (.agg (enc25 x).toArray) (.agg (enc25 x).toArray)).run Tryz.prog w = .ok (.bool false) w := by
  rw [neq_en, eqE_refl]
  rfl
set_option maxHeartbeats 1000000 in
theorem eq_arrA (D : Nat) {x0 x1 x2 x3 x4 x5 x6 x7 x8 x9 x10 x11 : Int} (w : World) (E : ∀ (a b : Int) (w : World), (Op.equalIn D 36 (.agg #[.int .u64 a, .int .u64 b]) (.agg #[.int .u64 a, .int .u64 b])).run Tryz.prog w = .ok true w) : (Op.equalIn (D + 1) 51 (.agg (ptc x0 x1 x2 x3 x4 x5 x6 x7 x8 x9 x10 x11)) (.agg (ptc x0 x1 x2 x3 x4 x5 x6 x7 x8 x9 x10 x11))).run Tryz.prog w = .ok true w := by
  have hs : ∀ W, (Go.sizeOf 36).run Tryz.prog W = .ok 2 W := fun W => by kernel_rfl
  have e0 := E x0 x1
  have pa0 : ∀ W, (part 36 (ptc x0 x1 x2 x3 x4 x5 x6 x7 x8 x9 x10 x11) (0 * 2)).run Tryz.prog W = .ok (.agg #[.int .u64 x0, .int .u64 x1]) W := fun W => by kernel_rfl
  have e1 := E x2 x3
  have pa1 : ∀ W, (part 36 (ptc x0 x1 x2 x3 x4 x5 x6 x7 x8 x9 x10 x11) (1 * 2)).run Tryz.prog W = .ok (.agg #[.int .u64 x2, .int .u64 x3]) W := fun W => by kernel_rfl
  have e2 := E x4 x5
  have pa2 : ∀ W, (part 36 (ptc x0 x1 x2 x3 x4 x5 x6 x7 x8 x9 x10 x11) (2 * 2)).run Tryz.prog W = .ok (.agg #[.int .u64 x4, .int .u64 x5]) W := fun W => by kernel_rfl
  have e3 := E x6 x7
  have pa3 : ∀ W, (part 36 (ptc x0 x1 x2 x3 x4 x5 x6 x7 x8 x9 x10 x11) (3 * 2)).run Tryz.prog W = .ok (.agg #[.int .u64 x6, .int .u64 x7]) W := fun W => by kernel_rfl
  have e4 := E x8 x9
  have pa4 : ∀ W, (part 36 (ptc x0 x1 x2 x3 x4 x5 x6 x7 x8 x9 x10 x11) (4 * 2)).run Tryz.prog W = .ok (.agg #[.int .u64 x8, .int .u64 x9]) W := fun W => by kernel_rfl
  have e5 := E x10 x11
  have pa5 : ∀ W, (part 36 (ptc x0 x1 x2 x3 x4 x5 x6 x7 x8 x9 x10 x11) (5 * 2)).run Tryz.prog W = .ok (.agg #[.int .u64 x10, .int .u64 x11]) W := fun W => by kernel_rfl
  generalize ptc x0 x1 x2 x3 x4 x5 x6 x7 x8 x9 x10 x11 = A at *
  clear E
  simp only [Op.equalIn, Sem.run_bind, run_underlying Tryz.underlying51, Result.andThen_ok, hs]
  rw [Std.Legacy.Range.forIn_eq_forIn_range']
  rw [show List.range' ({ start := 0, stop := 6, step := 1, step_pos := Nat.one_pos } : Std.Legacy.Range).start ({ start := 0, stop := 6, step := 1, step_pos := Nat.one_pos } : Std.Legacy.Range).size ({ start := 0, stop := 6, step := 1, step_pos := Nat.one_pos } : Std.Legacy.Range).step = [0, 1, 2, 3, 4, 5] from rfl]
  simp only [List.forIn_cons, List.forIn_nil]
  simp only [Sem.run_bind, e0, pa0, e1, pa1, e2, pa2, e3, pa3, e4, pa4, e5, pa5, Result.andThen_ok]
  simp [Sem.run_bind, e0, pa0, e1, pa1, e2, pa2, e3, pa3, e4, pa4, e5, pa5]
theorem eql_pt {x0 x1 x2 x3 x4 x5 x6 x7 x8 x9 x10 x11 : Int} (w : World) : (binOp .eql 53 (.agg (ptc x0 x1 x2 x3 x4 x5 x6 x7 x8 x9 x10 x11)) (.agg (ptc x0 x1 x2 x3 x4 x5 x6 x7 x8 x9 x10 x11))).run Tryz.prog w = .ok (.bool true) w := by
  have H := eq_arrA (x0 := x0) (x1 := x1) (x2 := x2) (x3 := x3) (x4 := x4) (x5 := x5) (x6 := x6) (x7 := x7) (x8 := x8) (x9 := x9) (x10 := x10) (x11 := x11) 9998 w (fun a b W => by rw [eq_addr 9996 a b a b W]; simp)
  have pa : ∀ W, (part 51 (ptc x0 x1 x2 x3 x4 x5 x6 x7 x8 x9 x10 x11) 0).run Tryz.prog W = .ok (.agg (ptc x0 x1 x2 x3 x4 x5 x6 x7 x8 x9 x10 x11)) W := fun W => by kernel_rfl
  rw [run_eql_struct]
  rw [show (10000 : Nat) = 9999 + 1 from rfl]
  generalize ptc x0 x1 x2 x3 x4 x5 x6 x7 x8 x9 x10 x11 = A at *
  rw [run_equalIn_struct w 9999 53 _ _ (by kernel_rfl) (by kernel_rfl)]
  rw [show (Tryz.prog.fieldsOf 53).toList = [{ name := "F", type := 51, offset := 0, embedded := false, tag := "", pkgPath := "", byteOffset := 0 }] from by kernel_rfl]
  rw [eqF_cons (by decide) (pa w) (pa w) H]
  rfl
theorem quiet_load_cells {P : Program} {ops : Array Oper} {C : World → Prop} {Q : Act → Prop} {a : Act} {o : Oper} {rest : List Oper} (hw : Region.wanted o (yielded ops a.tmps) = true) (ty : TypeId) (x : Operand) (ho : o.op = .load ty x)
    (ad : Addr) (hx : a.eval x = .pointer (some ad)) (cs : Array Value) (d : TypeDesc) (hg : ∀ w, C w → ∀ j v, cs.toList[j]? = some v → w.cell? (ad.add j) = some v)
    (hu : P.underlying ty = some d) (hd : (match d with | .struct _ | .array _ _ => true | _ => false) = true) (hi : (P.info? ty).map (·.size) = some cs.size)
    (h : wpQuiet P ops C Q rest (a.put o.dst (.agg cs))) : wpQuiet P ops C Q (o :: rest) a :=
  wpQuiet_step fun K hK => by
    rw [if_pos hw]
    refine ⟨.agg cs, fun w hC => ?_, hK _ h⟩
    unfold Oper.quietAt execOp
    simp only [ho, hx, Instr.loadAt, Instr.sureAddr, Sem.run_bind, Sem.run_pure, Result.andThen_ok, run_loadVar_cells w ad ty cs d (hg w hC) hu hd hi]
    exact ⟨rfl, rfl⟩
theorem rg_cells {w1 : World} {ad : Addr} {cs : Array Value} (h : ∀ j v, cs.toList[j]? = some v → w1.cell? (ad.add j) = some v) : ∀ w', (∃ p : Regrown, w' = grow (redrawn w1 p.d) p.os) → ∀ j v, cs.toList[j]? = some v → w'.cell? (ad.add j) = some v := fun w' ⟨p, hp⟩ j v hj => by
  rw [hp]; exact keepc (below_regrown w1 p.d p.os) (h j v hj)
end Go.Proofs.YtmnnjkdmnfadhaaGreatDoor

namespace Go.Proofs.YtmnnjkdmnfadhaaGreatDoor
open Go.Shelf Go.RowKit Go.Lib Go.Sort
set_option linter.unusedVariables false
set_option linter.unusedSimpArgs false

set_option maxHeartbeats 8000000 in
set_option maxRecDepth 100000 in
theorem rpt_any (i o pr sh sl dh dl sp dp : Int) (w : World) : Calls Tryz.prog 12 #[.agg (hdA i o pr sh sl dh dl sp dp)] w (PtPost i o pr sh sl dh dl sp dp w) := by
  unfold hdA
  have iZ : Hid ((Tryz.prog.info? 53).map (·.size) = some (#[.int .u64 0, .int .u64 0, .int .u64 0, .int .u64 0, .int .u64 0, .int .u64 0, .int .u64 0, .int .u64 0, .int .u64 0, .int .u64 0, .int .u64 0, .int .u64 0] : Array Value).size) := Lib.hid (by rw [show (#[.int .u64 0, .int .u64 0, .int .u64 0, .int .u64 0, .int .u64 0, .int .u64 0, .int .u64 0, .int .u64 0, .int .u64 0, .int .u64 0, .int .u64 0, .int .u64 0] : Array Value).size = 12 from rfl]; kernel_rfl)
  have k1 := fun W : World => rwit_any i 15 W
  have k2 := fun W : World => rwit_any o 15 W
  have k3 := fun W : World => rwit_any pr 255 W
  have k4 := fun W : World => rwit_any sp 65535 W
  have k5 := fun W : World => rwit_any dp 65535 W
  obtain ⟨b1, e1⟩ : ∃ b, witB i 15 = b := ⟨_, rfl⟩
  obtain ⟨b2, e2⟩ : ∃ b, witB o 15 = b := ⟨_, rfl⟩
  obtain ⟨b3, e3⟩ : ∃ b, witB pr 255 = b := ⟨_, rfl⟩
  obtain ⟨b4, e4⟩ : ∃ b, witB sp 65535 = b := ⟨_, rfl⟩
  obtain ⟨b5, e5⟩ : ∃ b, witB dp 65535 = b := ⟨_, rfl⟩
  rw [e1] at k1
  rw [e2] at k2
  rw [e3] at k3
  rw [e4] at k4
  rw [e5] at k5
  have HE := Lib.hid (And.intro e1 (And.intro e2 (And.intro e3 (And.intro e4 e5))))
  clear e1 e2 e3 e4 e5
  go_enter Tryz.func12, Tryz.ntmps12
  go_upto_region 3 with fail
  refine wp_gen1 fun W hW => ?_
  have b0 : Below w.heap.size w W := by rw [hW]; repeat (first | exact Below.refl _ _ | apply Below.dr | apply Below.al)
  have hH : W.heap[w.heap.size]? = some (.cells #[.int .i64 i, .int .i64 o, .int .i64 pr, .int .u64 sh, .int .u64 sl, .int .u64 dh, .int .u64 dl, .int .i64 sp, .int .i64 dp] 40 (0, 0)) := by rw [hW]; exact blk_al (blk_al (blk_al (heap_alloc_new w _) _) _) _
  have hR : W.heap[w.heap.size + 1]? = some (.cells #[.int .u64 0, .int .u64 0, .int .u64 0, .int .u64 0, .int .u64 0, .int .u64 0, .int .u64 0, .int .u64 0, .int .u64 0, .int .u64 0, .int .u64 0, .int .u64 0] 53 (0, 0)) := by rw [hW]; exact blk_al (blk_al (al_new (by simp) _) _) _
  have hK : W.heap[w.heap.size + 1 + 1 + 1]? = some (.cells #[.int .i64 pr, .int .u64 sh, .int .u64 sl, .int .u64 dh, .int .u64 dl, .int .i64 sp, .int .i64 dp] 38 (0, 0)) := by rw [hW]; exact al_new (by simp) _
  have hBz : W.heap[w.heap.size + 1 + 1]? = some (.cells #[.int .u64 0, .int .u64 0, .int .u64 0, .int .u64 0, .int .u64 0, .int .u64 0, .int .u64 0, .int .u64 0, .int .u64 0, .int .u64 0, .int .u64 0, .int .u64 0] 53 (0, 0)) := by rw [hW]; exact blk_al (al_new (by simp) _) _
  have hcells : W.cell? ⟨w.heap.size, 0, none⟩ = some (.int .i64 i) ∧ W.cell? ⟨w.heap.size, 1, none⟩ = some (.int .i64 o) ∧ W.cell? ⟨w.heap.size + 1 + 1 + 1, 0, none⟩ = some (.int .i64 pr) ∧ W.cell? ⟨w.heap.size + 1 + 1 + 1, 1, none⟩ = some (.int .u64 sh) ∧ W.cell? ⟨w.heap.size + 1 + 1 + 1, 2, none⟩ = some (.int .u64 sl) ∧ W.cell? ⟨w.heap.size + 1 + 1 + 1, 3, none⟩ = some (.int .u64 dh) ∧ W.cell? ⟨w.heap.size + 1 + 1 + 1, 4, none⟩ = some (.int .u64 dl) ∧ W.cell? ⟨w.heap.size + 1 + 1 + 1, 5, none⟩ = some (.int .i64 sp) ∧ W.cell? ⟨w.heap.size + 1 + 1 + 1, 6, none⟩ = some (.int .i64 dp) := by
    refine ⟨?_, ?_, ?_, ?_, ?_, ?_, ?_, ?_, ?_⟩ <;> simp [World.cell?, hH, hK]
  clear hW
  by_cases hall : b1 = true ∧ b2 = true ∧ b3 = true ∧ b4 = true ∧ b5 = true
  · obtain ⟨rfl, rfl, rfl, rfl, rfl⟩ := hall
    obtain ⟨c0, c1, d0, d1, d2, d3, d4, d5, d6⟩ := hcells
    have hT : ptB i o pr sp dp = true := by unfold ptB; rw [HE.out.1, HE.out.2.1, HE.out.2.2.1, HE.out.2.2.2.1, HE.out.2.2.2.2]; rfl
    have hi15 := witB_iff HE.out.1
    have ho15 := witB_iff HE.out.2.1
    have hp255 := witB_iff HE.out.2.2.1
    have hs65 := witB_iff HE.out.2.2.2.1
    have hd65 := witB_iff HE.out.2.2.2.2
    go_upto_region 5 with (go_at_call 37; go_loud ((first | with_reducible refine (k1 _).mono ?_ | with_reducible refine (k2 _).mono ?_ | with_reducible refine (k3 _).mono ?_ | with_reducible refine (k4 _).mono ?_ | with_reducible refine (k5 _).mono ?_); rintro e w2 ⟨rfl, hw2⟩; rw [hw2]; clear hw2))
    have hKl := (Array.getElem?_eq_some_iff.1 hK).1
    have hRl := (Array.getElem?_eq_some_iff.1 hR).1
    have hHl := (Array.getElem?_eq_some_iff.1 hH).1
    have hP0 : W.heap[w.heap.size + 1 + 1]? = some (.cells (ptc 0 0 0 0 0 0 0 0 0 0 0 0) 53 (0, 0)) := hBz
    have b9 := b0
    have e1 := hH
    have e2 := hK
    have e3 := hR
    have hBl0 := (Array.getElem?_eq_some_iff.1 hBz).1
    obtain ⟨B, hB⟩ : ∃ B, w.heap.size + 1 + 1 = B := ⟨_, rfl⟩
    have hne : B ≠ w.heap.size ∧ B ≠ B + 1 ∧ B ≠ w.heap.size + 1 := by omega
    generalize W = W0 at *
    rw [hB] at hP0 e2
    rw [hB]
    have hHl0 := (Array.getElem?_eq_some_iff.1 e1).1
    have hKl0 := (Array.getElem?_eq_some_iff.1 e2).1
    have hRl0 := (Array.getElem?_eq_some_iff.1 e3).1
    have HC : Hid (∀ V : World, OffE (fun q => q = B) W0.heap.size W0 V → V.cell? ⟨w.heap.size, 0, none⟩ = some (.int .i64 i) ∧ V.cell? ⟨w.heap.size, 1, none⟩ = some (.int .i64 o) ∧ V.cell? ⟨B + 1, 0, none⟩ = some (.int .i64 pr) ∧ V.cell? ⟨B + 1, 1, none⟩ = some (.int .u64 sh) ∧ V.cell? ⟨B + 1, 2, none⟩ = some (.int .u64 sl) ∧ V.cell? ⟨B + 1, 3, none⟩ = some (.int .u64 dh) ∧ V.cell? ⟨B + 1, 4, none⟩ = some (.int .u64 dl) ∧ V.cell? ⟨B + 1, 5, none⟩ = some (.int .i64 sp) ∧ V.cell? ⟨B + 1, 6, none⟩ = some (.int .i64 dp)) := Lib.hid (fun V hV => by
      have f1 := (hV.block _ hHl0 (fun h => hne.1 h.symm)).trans e1
      have f2 := (hV.block _ hKl0 (fun h => hne.2.1 h.symm)).trans e2
      refine ⟨?_, ?_, ?_, ?_, ?_, ?_, ?_, ?_, ?_⟩ <;> simp [World.cell?, f1, f2])
    have HR : Hid (∀ V : World, OffE (fun q => q = B) W0.heap.size W0 V → V.heap[w.heap.size + 1]? = some (.cells #[.int .u64 0, .int .u64 0, .int .u64 0, .int .u64 0, .int .u64 0, .int .u64 0, .int .u64 0, .int .u64 0, .int .u64 0, .int .u64 0, .int .u64 0, .int .u64 0] 53 (0, 0))) := Lib.hid (fun V hV => (hV.block _ hRl0 (fun h => hne.2.2 h.symm)).trans e3)
    have HBl : Hid (w.heap.size ≤ B ∧ True) := Lib.hid ⟨by omega, trivial⟩
    have HW0 : OffE (fun q => q = B) W0.heap.size W0 W0 := OffE.refl _ _
    clear c0 c1 d0 d1 d2 d3 d4 d5 d6 hH hK hR e1 e2 e3 hBz hBl0
    obtain ⟨y0, y1, z0, z1⟩ := ptk0 hP0
    obtain ⟨q0, q1, g0, g1, g2, g3, g4, g5, g6⟩ := HC.out _ HW0
    have hw1 : IntKind.i64.wrap (16 * i) = 16 * i := i64_id ⟨by omega, by omega⟩
    have hw2 : IntKind.i64.wrap (16 * i + o) = i * 16 + o := by rw [i64_id ⟨by omega, by omega⟩]; omega
    have kof := fun W : World => rof_any (n := (i * 16 + o)) (by omega) W
    go_upto_region 6 with (first | (go_at_call 38; go_loud ((refine (kof _).mono ?_); rintro e wq ⟨rfl, bq⟩; have hPq := blkB bq hP0; have HWq := HW0.below bq; obtain ⟨u0, u1, v0, v1⟩ := ptk0 hPq)))
    have hP1 := pts0 hPq 0 (ofN (i * 16 + o))
    have HW1 : OffE (fun q => q = B) W0.heap.size W0 ((wq.setCell ⟨B, 0, none⟩ (.int .u64 0)).setCell ⟨B, 1, none⟩ (.int .u64 (ofN (i * 16 + o)))) := OffE.set (OffE.set HWq rfl _ _) rfl _ _
    clear y0 y1 z0 z1 q0 q1 g0 g1 g2 g3 g4 g5 g6 u0 u1 v0 v1 hP0 HW0 hPq HWq bq kof
    generalize (wq.setCell ⟨B, 0, none⟩ (.int .u64 0)).setCell ⟨B, 1, none⟩ (.int .u64 (ofN (i * 16 + o))) = s1 at HW1 hP1 ⊢
    obtain ⟨y0, y1, z0, z1⟩ := ptk1 hP1
    obtain ⟨q0, q1, g0, g1, g2, g3, g4, g5, g6⟩ := HC.out _ HW1
    have kof := fun W : World => rof_any (n := pr) (by omega) W
    go_upto_region 7 with (first | (go_at_call 38; go_loud ((refine (kof _).mono ?_); rintro e wq ⟨rfl, bq⟩; have hPq := blkB bq hP1; have HWq := HW1.below bq; obtain ⟨u0, u1, v0, v1⟩ := ptk1 hPq)))
    have hP2 := pts1 hPq 0 (ofN pr)
    have HW2 : OffE (fun q => q = B) W0.heap.size W0 ((wq.setCell ⟨B, 2, none⟩ (.int .u64 0)).setCell ⟨B, 3, none⟩ (.int .u64 (ofN pr))) := OffE.set (OffE.set HWq rfl _ _) rfl _ _
    clear y0 y1 z0 z1 q0 q1 g0 g1 g2 g3 g4 g5 g6 u0 u1 v0 v1 hP1 HW1 hPq HWq bq kof
    generalize (wq.setCell ⟨B, 2, none⟩ (.int .u64 0)).setCell ⟨B, 3, none⟩ (.int .u64 (ofN pr)) = s2 at HW2 hP2 ⊢
    obtain ⟨y0, y1, z0, z1⟩ := ptk2 hP2
    obtain ⟨q0, q1, g0, g1, g2, g3, g4, g5, g6⟩ := HC.out _ HW2
    have kof := fun W : World => rof_any (n := sp) (by omega) W
    go_upto_region 8 with (first | (go_at_call 38; go_loud ((refine (kof _).mono ?_); rintro e wq ⟨rfl, bq⟩; have hPq := blkB bq hP2; have HWq := HW2.below bq; obtain ⟨u0, u1, v0, v1⟩ := ptk2 hPq)))
    have hP3 := pts2 hPq 0 (ofN sp)
    have HW3 : OffE (fun q => q = B) W0.heap.size W0 ((wq.setCell ⟨B, 4, none⟩ (.int .u64 0)).setCell ⟨B, 5, none⟩ (.int .u64 (ofN sp))) := OffE.set (OffE.set HWq rfl _ _) rfl _ _
    clear y0 y1 z0 z1 q0 q1 g0 g1 g2 g3 g4 g5 g6 u0 u1 v0 v1 hP2 HW2 hPq HWq bq kof
    generalize (wq.setCell ⟨B, 4, none⟩ (.int .u64 0)).setCell ⟨B, 5, none⟩ (.int .u64 (ofN sp)) = s3 at HW3 hP3 ⊢
    obtain ⟨y0, y1, z0, z1⟩ := ptk3 hP3
    obtain ⟨q0, q1, g0, g1, g2, g3, g4, g5, g6⟩ := HC.out _ HW3
    have kof := fun W : World => rof_any (n := dp) (by omega) W
    go_upto_region 9 with (first | (go_at_call 38; go_loud ((refine (kof _).mono ?_); rintro e wq ⟨rfl, bq⟩; have hPq := blkB bq hP3; have HWq := HW3.below bq; obtain ⟨u0, u1, v0, v1⟩ := ptk3 hPq)))
    have hP4 := pts3 hPq 0 (ofN dp)
    have HW4 : OffE (fun q => q = B) W0.heap.size W0 ((wq.setCell ⟨B, 6, none⟩ (.int .u64 0)).setCell ⟨B, 7, none⟩ (.int .u64 (ofN dp))) := OffE.set (OffE.set HWq rfl _ _) rfl _ _
    clear y0 y1 z0 z1 q0 q1 g0 g1 g2 g3 g4 g5 g6 u0 u1 v0 v1 hP3 HW3 hPq HWq bq kof
    generalize (wq.setCell ⟨B, 6, none⟩ (.int .u64 0)).setCell ⟨B, 7, none⟩ (.int .u64 (ofN dp)) = s4 at HW4 hP4 ⊢
    obtain ⟨y0, y1, z0, z1⟩ := ptk4 hP4
    obtain ⟨q0, q1, g0, g1, g2, g3, g4, g5, g6⟩ := HC.out _ HW4
    go_upto_region 10 with fail
    have hP5 := pts4 hP4 sh sl
    have HW5 : OffE (fun q => q = B) W0.heap.size W0 ((s4.setCell ⟨B, 8, none⟩ (.int .u64 sh)).setCell ⟨B, 9, none⟩ (.int .u64 sl)) := OffE.set (OffE.set HW4 rfl _ _) rfl _ _
    clear y0 y1 z0 z1 q0 q1 g0 g1 g2 g3 g4 g5 g6 hP4 HW4
    generalize (s4.setCell ⟨B, 8, none⟩ (.int .u64 sh)).setCell ⟨B, 9, none⟩ (.int .u64 sl) = s5 at HW5 hP5 ⊢
    obtain ⟨y0, y1, z0, z1⟩ := ptk5 hP5
    obtain ⟨q0, q1, g0, g1, g2, g3, g4, g5, g6⟩ := HC.out _ HW5
    go_upto_region 11 with fail
    have hP6 := pts5 hP5 dh dl
    have HW6 : OffE (fun q => q = B) W0.heap.size W0 ((s5.setCell ⟨B, 10, none⟩ (.int .u64 dh)).setCell ⟨B, 11, none⟩ (.int .u64 dl)) := OffE.set (OffE.set HW5 rfl _ _) rfl _ _
    clear y0 y1 z0 z1 q0 q1 g0 g1 g2 g3 g4 g5 g6 hP5 HW5
    generalize (s5.setCell ⟨B, 10, none⟩ (.int .u64 dh)).setCell ⟨B, 11, none⟩ (.int .u64 dl) = s6 at HW6 hP6 ⊢
    have hRf := HR.out _ HW6
    have bf := Below.trans b9 (HW6.toBelow b9.size (fun q hq => by rw [hq]; exact HBl.out.1))
    obtain ⟨D, hD⟩ : ∃ D, ptc 0 (ofN (i * 16 + o)) 0 (ofN pr) 0 (ofN sp) 0 (ofN dp) sh sl dh dl = D := ⟨_, rfl⟩
    rw [hD] at hP6
    have iD : Hid ((Tryz.prog.info? 53).map (·.size) = some D.size) := Lib.hid (by rw [← hD]; exact inf12)
    have zD : Hid ((#[.int .u64 0, .int .u64 0, .int .u64 0, .int .u64 0, .int .u64 0, .int .u64 0, .int .u64 0, .int .u64 0, .int .u64 0, .int .u64 0, .int .u64 0, .int .u64 0] : Array Value).size = D.size) := Lib.hid (by rw [← hD]; rfl)
    have oD : Hid (D.all (·.oneCell') = true) := Lib.hid (by rw [← hD]; exact one12)
    have hA : ptA i o pr sh sl dh dl sp dp = D := by unfold ptA; rw [if_pos hT]; exact hD
    clear hD
    go_wp2_with (first
      | (refine wpList_load_row rfl 53 (.tmp 4) rfl B rfl 53 D (0, 0) _ hP6 Tryz.underlying53 rfl iD.out ?_)
      | (refine wpList_store_row rfl 53 (.tmp 2) (.tmp 70) rfl (w.heap.size + 1) D rfl rfl 53 #[.int .u64 0, .int .u64 0, .int .u64 0, .int .u64 0, .int .u64 0, .int .u64 0, .int .u64 0, .int .u64 0, .int .u64 0, .int .u64 0, .int .u64 0, .int .u64 0] hRf iD.out zD.out oD.out ?_))
    refine bodyPost_ret_by (results_ptA Tryz.results12 _ _ (w.heap.size + 1) 53 D _ _ rfl (blk_setRow hRf D) Tryz.underlying53 iD.out) rfl ⟨by rw [hA, hT]; rfl, Below.setRow bf (by omega) _⟩
  · have hF : ptB i o pr sp dp = false := by
      unfold ptB
      rw [HE.out.1, HE.out.2.1, HE.out.2.2.1, HE.out.2.2.2.1, HE.out.2.2.2.2]
      cases b1 <;> cases b2 <;> cases b3 <;> cases b4 <;> cases b5 <;> simp_all
    have hA : ptA i o pr sh sl dh dl sp dp = #[.int .u64 0, .int .u64 0, .int .u64 0, .int .u64 0, .int .u64 0, .int .u64 0, .int .u64 0, .int .u64 0, .int .u64 0, .int .u64 0, .int .u64 0, .int .u64 0] := by unfold ptA; rw [if_neg (by rw [hF]; decide)]; rfl
    have oZ : Hid ((#[.int .u64 0, .int .u64 0, .int .u64 0, .int .u64 0, .int .u64 0, .int .u64 0, .int .u64 0, .int .u64 0, .int .u64 0, .int .u64 0, .int .u64 0, .int .u64 0] : Array Value).all (·.oneCell') = true) := Lib.hid (by simp [Value.oneCell'])
    obtain ⟨c0, c1, d0, d1, d2, d3, d4, d5, d6⟩ := hcells
    have HF := Lib.hid hF
    have HA := Lib.hid hA
    clear hF hA
    cases b1 with
    | false => (clear hall HE; go_wp2_with (first | (go_at_call 37; go_loud ((first | with_reducible refine (k1 _).mono ?_ | with_reducible refine (k2 _).mono ?_ | with_reducible refine (k3 _).mono ?_ | with_reducible refine (k4 _).mono ?_ | with_reducible refine (k5 _).mono ?_); rintro e w2 ⟨rfl, hw2⟩; rw [hw2]; clear hw2)) | (refine wpList_load_row rfl 53 (.tmp 4) rfl (w.heap.size + 1 + 1) rfl 53 #[.int .u64 0, .int .u64 0, .int .u64 0, .int .u64 0, .int .u64 0, .int .u64 0, .int .u64 0, .int .u64 0, .int .u64 0, .int .u64 0, .int .u64 0, .int .u64 0] (0, 0) _ hBz Tryz.underlying53 rfl iZ.out ?_) | (refine wpList_store_row rfl 53 (.tmp 2) (.tmp 37) rfl (w.heap.size + 1) #[.int .u64 0, .int .u64 0, .int .u64 0, .int .u64 0, .int .u64 0, .int .u64 0, .int .u64 0, .int .u64 0, .int .u64 0, .int .u64 0, .int .u64 0, .int .u64 0] rfl rfl 53 #[.int .u64 0, .int .u64 0, .int .u64 0, .int .u64 0, .int .u64 0, .int .u64 0, .int .u64 0, .int .u64 0, .int .u64 0, .int .u64 0, .int .u64 0, .int .u64 0] hR iZ.out rfl oZ.out ?_)); refine bodyPost_ret_by (results_ptA Tryz.results12 _ _ (w.heap.size + 1) 53 #[.int .u64 0, .int .u64 0, .int .u64 0, .int .u64 0, .int .u64 0, .int .u64 0, .int .u64 0, .int .u64 0, .int .u64 0, .int .u64 0, .int .u64 0, .int .u64 0] _ _ rfl (blk_setRow hR #[.int .u64 0, .int .u64 0, .int .u64 0, .int .u64 0, .int .u64 0, .int .u64 0, .int .u64 0, .int .u64 0, .int .u64 0, .int .u64 0, .int .u64 0, .int .u64 0]) Tryz.underlying53 iZ.out) rfl ⟨by rw [HA.out, HF.out]; rfl, Below.setRow b0 (by omega) _⟩)
    | true => cases b2 with
      | false => (clear hall HE; go_wp2_with (first | (go_at_call 37; go_loud ((first | with_reducible refine (k1 _).mono ?_ | with_reducible refine (k2 _).mono ?_ | with_reducible refine (k3 _).mono ?_ | with_reducible refine (k4 _).mono ?_ | with_reducible refine (k5 _).mono ?_); rintro e w2 ⟨rfl, hw2⟩; rw [hw2]; clear hw2)) | (refine wpList_load_row rfl 53 (.tmp 4) rfl (w.heap.size + 1 + 1) rfl 53 #[.int .u64 0, .int .u64 0, .int .u64 0, .int .u64 0, .int .u64 0, .int .u64 0, .int .u64 0, .int .u64 0, .int .u64 0, .int .u64 0, .int .u64 0, .int .u64 0] (0, 0) _ hBz Tryz.underlying53 rfl iZ.out ?_) | (refine wpList_store_row rfl 53 (.tmp 2) (.tmp 37) rfl (w.heap.size + 1) #[.int .u64 0, .int .u64 0, .int .u64 0, .int .u64 0, .int .u64 0, .int .u64 0, .int .u64 0, .int .u64 0, .int .u64 0, .int .u64 0, .int .u64 0, .int .u64 0] rfl rfl 53 #[.int .u64 0, .int .u64 0, .int .u64 0, .int .u64 0, .int .u64 0, .int .u64 0, .int .u64 0, .int .u64 0, .int .u64 0, .int .u64 0, .int .u64 0, .int .u64 0] hR iZ.out rfl oZ.out ?_)); refine bodyPost_ret_by (results_ptA Tryz.results12 _ _ (w.heap.size + 1) 53 #[.int .u64 0, .int .u64 0, .int .u64 0, .int .u64 0, .int .u64 0, .int .u64 0, .int .u64 0, .int .u64 0, .int .u64 0, .int .u64 0, .int .u64 0, .int .u64 0] _ _ rfl (blk_setRow hR #[.int .u64 0, .int .u64 0, .int .u64 0, .int .u64 0, .int .u64 0, .int .u64 0, .int .u64 0, .int .u64 0, .int .u64 0, .int .u64 0, .int .u64 0, .int .u64 0]) Tryz.underlying53 iZ.out) rfl ⟨by rw [HA.out, HF.out]; rfl, Below.setRow b0 (by omega) _⟩)
      | true => cases b3 with
        | false => (clear hall HE; go_wp2_with (first | (go_at_call 37; go_loud ((first | with_reducible refine (k1 _).mono ?_ | with_reducible refine (k2 _).mono ?_ | with_reducible refine (k3 _).mono ?_ | with_reducible refine (k4 _).mono ?_ | with_reducible refine (k5 _).mono ?_); rintro e w2 ⟨rfl, hw2⟩; rw [hw2]; clear hw2)) | (refine wpList_load_row rfl 53 (.tmp 4) rfl (w.heap.size + 1 + 1) rfl 53 #[.int .u64 0, .int .u64 0, .int .u64 0, .int .u64 0, .int .u64 0, .int .u64 0, .int .u64 0, .int .u64 0, .int .u64 0, .int .u64 0, .int .u64 0, .int .u64 0] (0, 0) _ hBz Tryz.underlying53 rfl iZ.out ?_) | (refine wpList_store_row rfl 53 (.tmp 2) (.tmp 37) rfl (w.heap.size + 1) #[.int .u64 0, .int .u64 0, .int .u64 0, .int .u64 0, .int .u64 0, .int .u64 0, .int .u64 0, .int .u64 0, .int .u64 0, .int .u64 0, .int .u64 0, .int .u64 0] rfl rfl 53 #[.int .u64 0, .int .u64 0, .int .u64 0, .int .u64 0, .int .u64 0, .int .u64 0, .int .u64 0, .int .u64 0, .int .u64 0, .int .u64 0, .int .u64 0, .int .u64 0] hR iZ.out rfl oZ.out ?_)); refine bodyPost_ret_by (results_ptA Tryz.results12 _ _ (w.heap.size + 1) 53 #[.int .u64 0, .int .u64 0, .int .u64 0, .int .u64 0, .int .u64 0, .int .u64 0, .int .u64 0, .int .u64 0, .int .u64 0, .int .u64 0, .int .u64 0, .int .u64 0] _ _ rfl (blk_setRow hR #[.int .u64 0, .int .u64 0, .int .u64 0, .int .u64 0, .int .u64 0, .int .u64 0, .int .u64 0, .int .u64 0, .int .u64 0, .int .u64 0, .int .u64 0, .int .u64 0]) Tryz.underlying53 iZ.out) rfl ⟨by rw [HA.out, HF.out]; rfl, Below.setRow b0 (by omega) _⟩)
        | true => cases b4 with
          | false => (clear hall HE; go_wp2_with (first | (go_at_call 37; go_loud ((first | with_reducible refine (k1 _).mono ?_ | with_reducible refine (k2 _).mono ?_ | with_reducible refine (k3 _).mono ?_ | with_reducible refine (k4 _).mono ?_ | with_reducible refine (k5 _).mono ?_); rintro e w2 ⟨rfl, hw2⟩; rw [hw2]; clear hw2)) | (refine wpList_load_row rfl 53 (.tmp 4) rfl (w.heap.size + 1 + 1) rfl 53 #[.int .u64 0, .int .u64 0, .int .u64 0, .int .u64 0, .int .u64 0, .int .u64 0, .int .u64 0, .int .u64 0, .int .u64 0, .int .u64 0, .int .u64 0, .int .u64 0] (0, 0) _ hBz Tryz.underlying53 rfl iZ.out ?_) | (refine wpList_store_row rfl 53 (.tmp 2) (.tmp 37) rfl (w.heap.size + 1) #[.int .u64 0, .int .u64 0, .int .u64 0, .int .u64 0, .int .u64 0, .int .u64 0, .int .u64 0, .int .u64 0, .int .u64 0, .int .u64 0, .int .u64 0, .int .u64 0] rfl rfl 53 #[.int .u64 0, .int .u64 0, .int .u64 0, .int .u64 0, .int .u64 0, .int .u64 0, .int .u64 0, .int .u64 0, .int .u64 0, .int .u64 0, .int .u64 0, .int .u64 0] hR iZ.out rfl oZ.out ?_)); refine bodyPost_ret_by (results_ptA Tryz.results12 _ _ (w.heap.size + 1) 53 #[.int .u64 0, .int .u64 0, .int .u64 0, .int .u64 0, .int .u64 0, .int .u64 0, .int .u64 0, .int .u64 0, .int .u64 0, .int .u64 0, .int .u64 0, .int .u64 0] _ _ rfl (blk_setRow hR #[.int .u64 0, .int .u64 0, .int .u64 0, .int .u64 0, .int .u64 0, .int .u64 0, .int .u64 0, .int .u64 0, .int .u64 0, .int .u64 0, .int .u64 0, .int .u64 0]) Tryz.underlying53 iZ.out) rfl ⟨by rw [HA.out, HF.out]; rfl, Below.setRow b0 (by omega) _⟩)
          | true => cases b5 with
            | false => (clear hall HE; go_wp2_with (first | (go_at_call 37; go_loud ((first | with_reducible refine (k1 _).mono ?_ | with_reducible refine (k2 _).mono ?_ | with_reducible refine (k3 _).mono ?_ | with_reducible refine (k4 _).mono ?_ | with_reducible refine (k5 _).mono ?_); rintro e w2 ⟨rfl, hw2⟩; rw [hw2]; clear hw2)) | (refine wpList_load_row rfl 53 (.tmp 4) rfl (w.heap.size + 1 + 1) rfl 53 #[.int .u64 0, .int .u64 0, .int .u64 0, .int .u64 0, .int .u64 0, .int .u64 0, .int .u64 0, .int .u64 0, .int .u64 0, .int .u64 0, .int .u64 0, .int .u64 0] (0, 0) _ hBz Tryz.underlying53 rfl iZ.out ?_) | (refine wpList_store_row rfl 53 (.tmp 2) (.tmp 37) rfl (w.heap.size + 1) #[.int .u64 0, .int .u64 0, .int .u64 0, .int .u64 0, .int .u64 0, .int .u64 0, .int .u64 0, .int .u64 0, .int .u64 0, .int .u64 0, .int .u64 0, .int .u64 0] rfl rfl 53 #[.int .u64 0, .int .u64 0, .int .u64 0, .int .u64 0, .int .u64 0, .int .u64 0, .int .u64 0, .int .u64 0, .int .u64 0, .int .u64 0, .int .u64 0, .int .u64 0] hR iZ.out rfl oZ.out ?_)); refine bodyPost_ret_by (results_ptA Tryz.results12 _ _ (w.heap.size + 1) 53 #[.int .u64 0, .int .u64 0, .int .u64 0, .int .u64 0, .int .u64 0, .int .u64 0, .int .u64 0, .int .u64 0, .int .u64 0, .int .u64 0, .int .u64 0, .int .u64 0] _ _ rfl (blk_setRow hR #[.int .u64 0, .int .u64 0, .int .u64 0, .int .u64 0, .int .u64 0, .int .u64 0, .int .u64 0, .int .u64 0, .int .u64 0, .int .u64 0, .int .u64 0, .int .u64 0]) Tryz.underlying53 iZ.out) rfl ⟨by rw [HA.out, HF.out]; rfl, Below.setRow b0 (by omega) _⟩)
            | true => exact absurd ⟨rfl, rfl, rfl, rfl, rfl⟩ hall
end Go.Proofs.YtmnnjkdmnfadhaaGreatDoor

namespace Go.Proofs.YtmnnjkdmnfadhaaGreatDoor
open Go.Shelf Go.RowKit Go.Lib Go.Sort
set_option linter.unusedVariables false
set_option linter.unusedSimpArgs false

def HvPost (w : World) (e : Ending) (w' : World) : Prop := ∃ b : Bool, e = .returned (.bool b) ∧ Below w.heap.size w w'

set_option maxHeartbeats 8000000 in
set_option maxRecDepth 100000 in
theorem hv10_any (c : CF) {w : World} (hc : c.Ok w) :
    Calls Tryz.prog 8 #[.agg (cfc c)] w (HvPost w) := by
  obtain ⟨w0, hw0⟩ : ∃ w0, w0 = w.alloc (.cells (cfc c) 30) := ⟨_, rfl⟩
  have hb : Below w.heap.size w w0 := by rw [hw0]; exact Below.al (Below.refl _ _) _
  have hB : CfB w0 w.heap.size c := by rw [hw0]; exact CfB.made w c
  have hSz := hc.z.keep hb
  have hSo := hc.o.keep hb
  have hzb := hSz.big
  have hob := hSo.big
  have hzl := Lib.hid hSz.len
  have hol := Lib.hid hSo.len
  clear hc
  obtain ⟨c0, c1, c2, c3, c4, c5, c6, c7⟩ := hB
  simp only [cfc] at *
  go_enter Tryz.func8, Tryz.ntmps8
  go_upto_region 1 with fail
  rw [← hw0]
  clear hw0
  go_cut [3] from 6 to 32 (fun v wx => ∃ m : Int, v = .int .i64 m ∧ wx = w0)
  case first =>
    go_wp2_with fail
    go_meet
    exact ⟨_, rfl, rfl⟩
  case rest =>
  obtain ⟨m0, rfl, rfl⟩ := hcut
  go_wp2
  go_loop [3, 4] (fun vn vi => ∃ (m : Int) (k : Nat), k ≤ c.zn ∧ vn = .int .i64 m ∧ vi = .int .i64 k) (fun _ vi => c.zn - (intOf vi).toNat)
  case atStart => exact ⟨_, 0, by omega, rfl, rfl⟩
  case round =>
    obtain ⟨m, k, hk, rfl, rfl⟩ := hrel
    by_cases hgo : k < c.zn ∧ m ≤ 4096
    · obtain ⟨hlt, hm⟩ := hgo
      have hlti : (k : Int) < (c.zn : Int) := by omega
      obtain ⟨b, off, hA, hblt, hrow⟩ := hSz.row (by omega)
      obtain ⟨z, hz⟩ : ∃ z, c.zs[k]? = some z := ⟨_, List.getElem?_eq_getElem (by rw [hzl.out]; omega)⟩
      have r3 := hrow k z hz 3 _ rfl
      rw [hA] at c0
      clear hz hrow hSz hSo hA
      go_wp2
      exact ⟨⟨_, k + 1, by omega, rfl, by go_num⟩, by simp [intOf]; omega⟩
    · by_cases hlt : k < c.zn
      · have hm : ¬ m ≤ 4096 := fun h => hgo ⟨hlt, h⟩
        have hmd : decide (m ≤ 4096) = false := by simp [hm]
        have hlti : (k : Int) < (c.zn : Int) := by omega
        clear hgo hSz
        go_wp2
        go_loop [3, 5] (fun vn vi => ∃ (m : Int) (k : Nat), k ≤ c.on ∧ vn = .int .i64 m ∧ vi = .int .i64 k) (fun _ vi => c.on - (intOf vi).toNat)
        case atStart => exact ⟨_, 0, by omega, rfl, rfl⟩
        case round =>
          obtain ⟨m2, k2, hk2, rfl, rfl⟩ := hrel
          by_cases hgo2 : k2 < c.on ∧ m2 ≤ 4096
          · obtain ⟨hlt2, hm2⟩ := hgo2
            have hlti2 : (k2 : Int) < (c.on : Int) := by omega
            obtain ⟨b, off, hA, hblt, hrow⟩ := hSo.row (by omega)
            obtain ⟨z, hz⟩ : ∃ z, c.os[k2]? = some z := ⟨_, List.getElem?_eq_getElem (by rw [hol.out]; omega)⟩
            have r1 := hrow k2 z hz 1 _ rfl
            rw [hA] at c1
            clear hz hrow hSo hA
            go_wp2
            exact ⟨⟨_, k2 + 1, by omega, rfl, by go_num⟩, by simp [intOf]; omega⟩
          · by_cases hlt2 : k2 < c.on
            · have hm5 : ¬ m2 ≤ 4096 := fun h => hgo2 ⟨hlt2, h⟩
              have hmd2 : decide (m2 ≤ 4096) = false := by simp [hm5]
              have hlti2 : (k2 : Int) < (c.on : Int) := by omega
              clear hgo2 hSo
              go_wp2
              go_ret
              exact ⟨_, rfl, hb⟩
            · obtain rfl : k2 = c.on := by omega
              clear hgo2 hSo hlt2
              go_wp2
              all_goals
                go_ret
                exact ⟨_, rfl, hb⟩
      · obtain rfl : k = c.zn := by omega
        clear hgo hSz hlt
        go_wp2
        go_loop [3, 5] (fun vn vi => ∃ (m : Int) (k : Nat), k ≤ c.on ∧ vn = .int .i64 m ∧ vi = .int .i64 k) (fun _ vi => c.on - (intOf vi).toNat)
        case atStart => exact ⟨_, 0, by omega, rfl, rfl⟩
        case round =>
          obtain ⟨m2, k2, hk2, rfl, rfl⟩ := hrel
          by_cases hgo2 : k2 < c.on ∧ m2 ≤ 4096
          · obtain ⟨hlt2, hm2⟩ := hgo2
            have hlti2 : (k2 : Int) < (c.on : Int) := by omega
            obtain ⟨b, off, hA, hblt, hrow⟩ := hSo.row (by omega)
            obtain ⟨z, hz⟩ : ∃ z, c.os[k2]? = some z := ⟨_, List.getElem?_eq_getElem (by rw [hol.out]; omega)⟩
            have r1 := hrow k2 z hz 1 _ rfl
            rw [hA] at c1
            clear hz hrow hSo hA
            go_wp2
            exact ⟨⟨_, k2 + 1, by omega, rfl, by go_num⟩, by simp [intOf]; omega⟩
          · by_cases hlt2 : k2 < c.on
            · have hm5 : ¬ m2 ≤ 4096 := fun h => hgo2 ⟨hlt2, h⟩
              have hmd2 : decide (m2 ≤ 4096) = false := by simp [hm5]
              have hlti2 : (k2 : Int) < (c.on : Int) := by omega
              clear hgo2 hSo
              go_wp2
              go_ret
              exact ⟨_, rfl, hb⟩
            · obtain rfl : k2 = c.on := by omega
              clear hgo2 hSo hlt2
              go_wp2
              all_goals
                go_ret
                exact ⟨_, rfl, hb⟩
end Go.Proofs.YtmnnjkdmnfadhaaGreatDoor

namespace Go.Proofs.YtmnnjkdmnfadhaaGreatDoor
open Go.Shelf Go.RowKit Go.Lib Go.Sort
set_option linter.unusedVariables false
set_option linter.unusedSimpArgs false

theorem en_cells {w : World} {b off i : Nat} {l : List EN} {x : EN} (h : ∀ j x, l[j]? = some x → ∀ k v, (enc25 x)[k]? = some v → w.cell? ⟨b, off + j * 25 + k, none⟩ = some v) (hx : l[i]? = some x) :
    ∀ k v, (enc25 x).toArray.toList[k]? = some v → w.cell? ((⟨b, off + i * 25, none⟩ : Addr).add k) = some v := by
  intro k v hk
  rw [show (⟨b, off + i * 25, none⟩ : Addr).add k = ⟨b, off + i * 25 + k, none⟩ by unfold Addr.add; split <;> simp_all]
  exact h i x hx k v (by simpa using hk)
theorem ptA_is (i o pr sh sl dh dl sp dp : Int) : ∃ x0 x1 x2 x3 x4 x5 x6 x7 x8 x9 x10 x11 : Int, ptA i o pr sh sl dh dl sp dp = ptc x0 x1 x2 x3 x4 x5 x6 x7 x8 x9 x10 x11 := by
  unfold ptA
  split
  · exact ⟨_, _, _, _, _, _, _, _, _, _, _, _, rfl⟩
  · exact ⟨_, _, _, _, _, _, _, _, _, _, _, _, rfl⟩

set_option maxHeartbeats 8000000 in
set_option maxRecDepth 100000 in
theorem cen_any (c : CF) (i o pr sh sl dh dl sp dp : Int) {w : World} (hc : c.Ok w) (hg : c.Good) (hG : Glob w) :
    Calls Tryz.prog 4 #[.agg (cfc c), .agg (hdA i o pr sh sl dh dl sp dp)] w fun e w' => e = .returned (.bool true) ∧ Below w.heap.size w w' := by
  have kh : ∀ W, Below w.heap.size w W → Calls Tryz.prog 8 #[.agg (cfc c)] W (HvPost W) := fun W h => hv10_any c (hc.keep h)
  have kp : ∀ W, Below w.heap.size w W → Calls Tryz.prog 9 #[.agg (cfc c)] W (EnPost c W) := fun W h => pents_any c (hc.keep h) hg (hG.on h)
  have kr : ∀ W, Below w.heap.size w W → Calls Tryz.prog 10 #[.agg (cfc c)] W (EnPost c W) := fun W h => rents_any c (hc.keep h) hg
  have iC : Hid ((Tryz.prog.info? 30).map (·.size) = some (cfc c).size) := Lib.hid (by rw [show (cfc c).size = 8 from rfl]; kernel_rfl)
  have iH : Hid ((Tryz.prog.info? 40).map (·.size) = some (hdA i o pr sh sl dh dl sp dp).size) := Lib.hid (by rw [show (hdA i o pr sh sl dh dl sp dp).size = 9 from rfl]; kernel_rfl)
  have k1 : ∀ W : World, Calls Tryz.prog 11 #[.agg (hdA i o pr sh sl dh dl sp dp)] W fun e w' => e = .returned (.tuple #[.agg (ptA i o pr sh sl dh dl sp dp), .bool (ptB i o pr sp dp)]) ∧ Below W.heap.size W w' := fun W => pt_any i o pr sh sl dh dl sp dp W
  have k2 : ∀ W : World, Calls Tryz.prog 12 #[.agg (hdA i o pr sh sl dh dl sp dp)] W fun e w' => e = .returned (.tuple #[.agg (ptA i o pr sh sl dh dl sp dp), .bool (ptB i o pr sp dp)]) ∧ Below W.heap.size W w' := fun W => rpt_any i o pr sh sl dh dl sp dp W
  have hV : ∃ V : Array Value, ptA i o pr sh sl dh dl sp dp = V ∧ (∀ W, (binOp .eql 53 (.agg V) (.agg V)).run Tryz.prog W = .ok (.bool true) W) ∧ Hid ((Tryz.prog.info? 53).map (·.size) = some V.size) ∧ Hid ((#[.int .u64 0, .int .u64 0, .int .u64 0, .int .u64 0, .int .u64 0, .int .u64 0, .int .u64 0, .int .u64 0, .int .u64 0, .int .u64 0, .int .u64 0, .int .u64 0] : Array Value).size = V.size) ∧ Hid (V.all (·.oneCell') = true) := by
    obtain ⟨x0, x1, x2, x3, x4, x5, x6, x7, x8, x9, x10, x11, hx⟩ := ptA_is i o pr sh sl dh dl sp dp
    exact ⟨_, hx, fun W => eql_pt W, Lib.hid inf12, Lib.hid rfl, Lib.hid one12⟩
  obtain ⟨V, hV, eqp, iV, zV, oV⟩ := hV
  rw [hV] at k1 k2
  clear hV
  generalize ptB i o pr sp dp = B at k1 k2
  generalize hdA i o pr sh sl dh dl sp dp = H at *
  generalize cfc c = C at *
  clear hc hg hG
  go_enter Tryz.func4, Tryz.ntmps4
  go_upto_region 1 with fail
  have b0 : Below w.heap.size w ((w.alloc (.cells C 30)).alloc (.cells H 40)) := Below.al (Below.al (Below.refl _ _) _) _
  have hB := blk_al (heap_alloc_new w (.cells C 30)) (.cells H 40)
  have hH : ((w.alloc (.cells C 30)).alloc (.cells H 40)).heap[w.heap.size + 1]? = some (.cells H 40 (0, 0)) := al_new (by simp) _
  generalize (w.alloc (.cells C 30)).alloc (.cells H 40) = w0 at *
  go_wp2_with (refine wpList_load_row rfl 30 (.tmp 2) rfl w.heap.size rfl 30 C (0, 0) _ hB Tryz.underlying30 rfl iC.out ?_)
  refine (kh _ b0).mono ?_
  rintro e w1 ⟨b, rfl, hb1⟩
  have b1 := bel_via b0 hb1
  have hB1 := blkB hb1 hB
  have hH1 := blkB hb1 hH
  clear kh hb1 hB hH b0
  cases b
  · go_upto_region 4 with (first
      | (refine wpList_load_row rfl 30 (.tmp 2) rfl w.heap.size rfl 30 C (0, 0) _ hB1 Tryz.underlying30 rfl iC.out ?_)
      | (go_at_call 9; go_loud ((refine (kp _ b1).mono ?_); rintro e w2 ⟨A1, n1, p1, rfl, S1, b2⟩)))
    have bw2 := bel_via b1 b2
    have hB2 := blkB b2 hB1
    have hH2 := blkB b2 hH1
    clear hB1 hH1 kp
    go_upto_region 5 with (first
      | (refine wpList_load_row rfl 30 (.tmp 2) rfl w.heap.size rfl 30 C (0, 0) _ hB2 Tryz.underlying30 rfl iC.out ?_)
      | (go_at_call 10; go_loud ((refine (kr _ bw2).mono ?_); rintro e w3 ⟨A2, n2, p2, rfl, S2, b3⟩)))
    have bw3 := bel_via bw2 b3
    have hH3 := blkB b3 hH2
    obtain rfl : n2 = n1 := by rw [← S1.len, S2.len]
    have HS1 := Lib.hid (S1.keep b3)
    have HS2 := Lib.hid S2
    have hbig : n2 ≤ 9223372036854775807 := S2.big
    generalize (entsR c).1 = L at *
    generalize (entsR c).2 = E at *
    clear S1 S2 b2 b3 hB2 hH2 bw2 kr
    go_wp2_with fail
    go_loopw [9] (fun v9 wr => ∃ j : Nat, j ≤ n2 ∧ v9 = .int .i64 (j : Int) ∧ Below w3.heap.size w3 wr) (fun v9 _ => n2 - (intOf v9).toNat)
    case atStart => exact ⟨0, by omega, rfl, Below.refl _ _⟩
    case round =>
      obtain ⟨j, hj, rfl, bw⟩ := hrel
      by_cases hlt : j < n2
      · have hlti : (j : Int) < (n2 : Int) := by omega
        obtain ⟨g1, o1, hA1, hbl1, hr1⟩ := (HS1.out.keep bw).row (by omega)
        obtain ⟨g2, o2, hA2, hbl2, hr2⟩ := (HS2.out.keep bw).row (by omega)
        obtain ⟨x, hx⟩ : ∃ x, L[j]? = some x := ⟨_, List.getElem?_eq_getElem (by rw [HS2.out.len]; exact hlt)⟩
        have d1 := en_cells hr1 hx
        have d2 := en_cells hr2 hx
        have nee := fun W : World => neq_self x W
        have iE := inf50 x
        generalize (enc25 x).toArray = EA at *
        have iE := Lib.hid iE
        have d1 := Lib.hid d1
        have d2 := Lib.hid d2
        subst hA1 hA2
        clear hr1 hr2 hx
        go_wp2_with fail
        refine wp_region_quiet_below (by kernel_rfl) (by kernel_rfl) ?_
        repeat (first | go_big_quiet_skip | (refine quiet_load_cells (by rfl) 50 (.tmp 44) rfl ⟨g1, o1 + j * 25, none⟩ rfl EA _ (rg_cells d1.out) Tryz.underlying50 rfl iE.out ?_; simp only [Act.put, List.setIfInBounds_toArray, List.set_cons_succ, List.set_cons_zero]) | (refine quiet_load_cells (by rfl) 50 (.tmp 48) rfl ⟨g2, o2 + j * 25, none⟩ rfl EA _ (rg_cells d2.out) Tryz.underlying50 rfl iE.out ?_; simp only [Act.put, List.setIfInBounds_toArray, List.set_cons_succ, List.set_cons_zero]) | quiet_step (fail))
        refine wpQuiet_nil ?_
        intro _ hw'
        obtain ⟨⟨dq, osq⟩, hw''⟩ := hw'
        subst hw''
        have hbq := below_regrown wr dq osq
        obtain ⟨wq, hwy⟩ : ∃ x, x = grow (redrawn wr dq) osq := ⟨_, rfl⟩
        rw [← hwy] at hbq ⊢
        clear hwy
        go_wp2_with fail
        go_roundw
        case rel => exact ⟨j + 1, by omega, by go_num, bel_via bw hbq⟩
        case measure => simp [intOf]; omega
      · obtain rfl : j = n2 := by omega
        have bwr := bel_via bw3 bw
        have hHr := blkB bw hH3
        clear HS1 HS2 hH3
        go_upto_region 13 with (first
          | (refine wpList_load_row rfl 40 (.tmp 3) rfl (w.heap.size + 1) rfl 40 H (0, 0) _ hHr Tryz.underlying40 rfl iH.out ?_)
          | (go_at_call 11; go_loud ((refine (k1 _).mono ?_); rintro e w5 ⟨rfl, b5⟩))
          | (refine wpList_store_row rfl 53 (.tmp 10) (.tmp 54) rfl w5.heap.size V rfl rfl 53 #[.int .u64 0, .int .u64 0, .int .u64 0, .int .u64 0, .int .u64 0, .int .u64 0, .int .u64 0, .int .u64 0, .int .u64 0, .int .u64 0, .int .u64 0, .int .u64 0] (heap_alloc_new w5 _) iV.out zV.out oV.out ?_; rw [World.setRow_alloc_new]))
        have hH5 := blk_al (blkB b5 hHr) (.cells V 53)
        have hV5 := heap_alloc_new w5 (.cells V 53)
        have bw5 := Below.al (bel_via bwr b5) (.cells V 53)
        generalize w5.alloc (.cells V 53) = w6 at *
        generalize w5.heap.size = G5 at *
        clear hHr b5
        go_upto_region 14 with (first
          | (refine wpList_load_row rfl 40 (.tmp 3) rfl (w.heap.size + 1) rfl 40 H (0, 0) _ hH5 Tryz.underlying40 rfl iH.out ?_)
          | (go_at_call 12; go_loud ((refine (k2 _).mono ?_); rintro e w7 ⟨rfl, b7⟩))
          | (refine wpList_store_row rfl 53 (.tmp 12) (.tmp 59) rfl w7.heap.size V rfl rfl 53 #[.int .u64 0, .int .u64 0, .int .u64 0, .int .u64 0, .int .u64 0, .int .u64 0, .int .u64 0, .int .u64 0, .int .u64 0, .int .u64 0, .int .u64 0, .int .u64 0] (heap_alloc_new w7 _) iV.out zV.out oV.out ?_; rw [World.setRow_alloc_new]))
        have hV7 := blk_al (blkB b7 hV5) (.cells V 53)
        have hW7 := heap_alloc_new w7 (.cells V 53)
        have bw7 := Below.al (bel_via bw5 b7) (.cells V 53)
        generalize w7.alloc (.cells V 53) = w8 at *
        generalize w7.heap.size = G7 at *
        clear hV5 b7 hH5
        go_wp2_with (first
          | (refine wpList_load_row rfl 53 (.tmp 10) rfl G5 rfl 53 V (0, 0) _ hV7 Tryz.underlying53 rfl iV.out ?_)
          | (refine wpList_load_row rfl 53 (.tmp 12) rfl G7 rfl 53 V (0, 0) _ hW7 Tryz.underlying53 rfl iV.out ?_))
        go_ret
        exact ⟨by simp, bw7⟩
  · go_wp2_with fail
    go_ret
    exact ⟨rfl, b1⟩
end Go.Proofs.YtmnnjkdmnfadhaaGreatDoor
