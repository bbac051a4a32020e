/- A view in memory, and where a packet's bytes belong; by-name template. -/
import Derived.Test.YtpmbdjdhgcjkfaaWFamOf
namespace Go.Proofs.Ytpmbdjdhgcjkfaa
open Go.RowKit Go.Sort
set_option linter.unusedVariables false
set_option linter.unusedSimpArgs false

def vcells (v : VW) : Array Value := #[.bool v.v6, .int .i64 v.head, .int .i64 v.total, .int .i64 v.ttl, .int .i64 v.proto, .int .u64 v.srcH, .int .u64 v.srcL, .int .u64 v.dstH, .int .u64 v.dstL, .bool v.frag, .int .u32 v.id, .int .i64 v.off, .bool v.more]

def ViewAt (w : World) (B : Nat) (v : VW) : Prop := w.heap[B]? = some (.cells (vcells v) 40 (0, 0))

theorem heap_setw {w : World} {B : Nat} {cs : Array Value} {t : TypeId} {fz : Nat × Nat} (h : w.heap[B]? = some (.cells cs t fz)) (o : Nat) (v : Value) :
    (w.setCell ⟨B, o, none⟩ v).heap[B]? = some (.cells (cs.setIfInBounds o v) t fz) := by
  simp [World.setCell, Array.getElem?_modify, h]
theorem ViewAt.free {w : World} {B : Nat} {v : VW} (h : ViewAt w B v) (o : Nat) : w.frozen? ⟨B, o, none⟩ = false := by
  simp [World.frozen?, show w.heap[B]? = _ from h]
theorem ViewAt.cell {w : World} {B : Nat} {v : VW} (h : ViewAt w B v) (o : Nat) : w.cell? ⟨B, o, none⟩ = (vcells v)[o]? := by
  simp [World.cell?, show w.heap[B]? = _ from h]
theorem ViewAt.set {w : World} {B : Nat} {v v' : VW} (h : ViewAt w B v) {o : Nat} {x : Value} (hc : (vcells v).setIfInBounds o x = vcells v') : ViewAt (w.setCell ⟨B, o, none⟩ x) B v' := by
  unfold ViewAt
  rw [heap_setw h, hc]

/-- Three cells of a block were written. -/
def Set3 (w : World) (B : Nat) (w' : World) : Prop := ∃ x y z, w' = ((w.setCell ⟨B, 11, none⟩ x).setCell ⟨B, 12, none⟩ y).setCell ⟨B, 9, none⟩ z

set_option maxHeartbeats 600000 in
set_option maxRecDepth 100000 in
theorem part_any (v : VW) (B : Nat) (off more : Int) (h0 : 0 ≤ off) (h1 : off < 65536) {w : World} (hv : ViewAt w B v) :
    Calls Try.prog 84 #[.pointer (some ⟨B, 0, none⟩), .int .u64 off, .int .u64 more] w fun e w' => e = .returned (.tuple #[]) ∧ ViewAt w' B (partP v off more) ∧ Set3 w B w' := by
  have wr : IntKind.i64.wrap off = off := by rw [IntKind.wrap_i64]; omega
  have k11 : w.cell? ⟨B, 11, none⟩ = some (.int .i64 v.off) := hv.cell 11
  have k12 : w.cell? ⟨B, 12, none⟩ = some (.bool v.more) := hv.cell 12
  have k9 : w.cell? ⟨B, 9, none⟩ = some (.bool v.frag) := hv.cell 9
  have f11 := hv.free 11
  have f12 := hv.free 12
  have f9 := hv.free 9
  have d1 : ViewAt (w.setCell ⟨B, 11, none⟩ (.int .i64 off)) B { v with off := off } := hv.set rfl
  have d2 : ViewAt ((w.setCell ⟨B, 11, none⟩ (.int .i64 off)).setCell ⟨B, 12, none⟩ (.bool (decide (more = 1)))) B { v with off := off, more := decide (more = 1) } := d1.set rfl
  have d3 : ViewAt (((w.setCell ⟨B, 11, none⟩ (.int .i64 off)).setCell ⟨B, 12, none⟩ (.bool (decide (more = 1)))).setCell ⟨B, 9, none⟩ (.bool (decide (more = 1) || decide (off ≠ 0)))) B (partP v off more) := d2.set rfl
  have D3 := Lib.hid d3
  clear d1 d2 d3 hv
  have bq : ¬ more = 1 → (more == 1) = false := fun h => by simp [h]
  have oq : ¬ off = 0 → (off != 0) = true := fun h => by simp [h]
  by_cases hm : more = 1 <;> by_cases ho : off = 0
  all_goals (
    simp only [hm, ho, decide_true, decide_false, Bool.true_or, Bool.false_or, ne_eq, not_true_eq_false, not_false_eq_true, if_true, if_false] at D3
    go_enter Try.func84, Try.ntmps84
    go_wp2
    try simp only [hm, ho]
    try rw [bq hm]
    try rw [oq ho]
    simp [bodyPost, results, Try.results84, go_sem]
    first | exact ⟨D3.out, _, _, _, rfl⟩ | (refine ⟨by simpa [hm, ho, bq, oq] using D3.out, _, _, _, rfl⟩))
end Go.Proofs.Ytpmbdjdhgcjkfaa
