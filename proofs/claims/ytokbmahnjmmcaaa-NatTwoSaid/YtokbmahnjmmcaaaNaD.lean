/- A draft in memory; by-name template (gen_na.py). -/
import Derived.Test.YtokbmahnjmmcaaaNaL
import Derived.Test.YtokbmahnjmmcaaaRRoute
import Derived.Test.YtokbmahnjmmcaaaRDest
import Derived.Test.YtokbmahnjmmcaaaRDoc3
import Derived.Test.YtokbmahnjmmcaaaRDoc4
namespace Go.Proofs.Ytokbmahnjmmcaaa
open Go.RowKit Go.Lib Go.Maps
set_option linter.unusedVariables false
set_option linter.unusedSimpArgs false

structure DR where
  ju : KR
  op : KR
  ou : KR
  ba : KR
  ho : KR
  ifc : Int
  zo : Int
  c : CF
  inn : Int
  mt : Nat
  dest : Int
  looks : Bool
  frm : Int
  til : Int
def DA (d : DR) : Array Value := #[.int .i64 d.ju.proto, .int .u64 d.ju.sh, .int .u64 d.ju.sl, .int .u64 d.ju.dh, .int .u64 d.ju.dl, .int .i64 d.ju.sp, .int .i64 d.ju.dp, .int .i64 d.op.proto, .int .u64 d.op.sh, .int .u64 d.op.sl, .int .u64 d.op.dh, .int .u64 d.op.dl, .int .i64 d.op.sp, .int .i64 d.op.dp, .int .i64 d.ou.proto, .int .u64 d.ou.sh, .int .u64 d.ou.sl, .int .u64 d.ou.dh, .int .u64 d.ou.dl, .int .i64 d.ou.sp, .int .i64 d.ou.dp, .int .i64 d.ba.proto, .int .u64 d.ba.sh, .int .u64 d.ba.sl, .int .u64 d.ba.dh, .int .u64 d.ba.dl, .int .i64 d.ba.sp, .int .i64 d.ba.dp, .int .i64 d.ho.proto, .int .u64 d.ho.sh, .int .u64 d.ho.sl, .int .u64 d.ho.dh, .int .u64 d.ho.dl, .int .i64 d.ho.sp, .int .i64 d.ho.dp, .int .i64 d.ifc, .int .i64 d.zo, .slice d.c.zA d.c.zn d.c.zc, .slice d.c.oA d.c.on d.c.oc, .slice d.c.sA d.c.sn d.c.sc, .slice d.c.lA d.c.ln d.c.lc, .slice d.c.tA d.c.tn d.c.tc, .slice d.c.nA d.c.nn d.c.nc, .slice d.c.uA d.c.un d.c.uc, .int .i64 d.c.dflt, .int .i64 d.inn, .map (some d.mt), .int .i64 d.dest, .bool d.looks, .int .i64 d.frm, .int .i64 d.til]
def DAt (w : World) (B : Nat) (d : DR) : Prop := w.heap[B]? = some (.cells (DA d) 76 (0, 0))
theorem setCells_heap : ∀ (vs : List Value) (o : Nat) {w : World} {B : Nat} {cs : Array Value} {t : TypeId} {fz : Nat × Nat}, w.heap[B]? = some (.cells cs t fz) → (w.setCells B o vs).heap[B]? = some (.cells (vs.foldl (fun a v => (a.1.setIfInBounds a.2 v, a.2 + 1)) (cs, o)).1 t fz)
  | [], _, _, _, _, _, _, h => h
  | v :: r, o, w, B, cs, t, fz, h => by
    rw [World.setCells]
    exact setCells_heap r (o + 1) (heap_set h o v)
theorem setCells_off : ∀ (vs : List Value) (o : Nat) (w : World) (B : Nat), Off B w (w.setCells B o vs)
  | [], _, w, B => Off.refl B w
  | v :: r, o, w, B => by
    rw [World.setCells]
    exact (Off.set (Off.refl B w) o v).trans (setCells_off r (o + 1) _ B)
theorem there_of {w : World} {B : Nat} {cs : Array Value} {t : TypeId} (h : w.heap[B]? = some (.cells cs t (0, 0))) {o n : Nat} (hn : o + n ≤ cs.size) : w.there B o n := fun j hj => by
  refine ⟨?_, free_of h _⟩
  rw [cell_of_row _ _ _ _ _ _ h, Array.getElem?_eq_getElem (by omega)]
  rfl
theorem off_bel {B : Nat} {w w' : World} (b : Below w.heap.size w w') : Off B w w' := ⟨b.os, b.tape, b.output, b.size, fun k hk _ => b.block k hk⟩
theorem c_inf (c : CF) : (Try.prog.info? 30).map (·.size) = some (cfc c).size := by rw [show (cfc c).size = 8 from rfl]; kernel_rfl
section
variable {w w' : World} {B : Nat} {d : DR}
theorem DAt.lt (h : DAt w B d) : B < w.heap.size := blk_lt h
theorem DAt.bel (h : DAt w B d) (b : Below w.heap.size w w') : DAt w' B d := kb b h
theorem DAt.cell (h : DAt w B d) (j : Nat) {v : Value} (hv : (DA d)[j]? = some v) : w.cell? ⟨B, j, none⟩ = some v := (cell_of_row _ B j _ _ _ h).trans hv
theorem DAt.k_ju (h : DAt w B d) : ∀ j v, (KA d.ju).toList[j]? = some v → w.cell? ((⟨B, 0, none⟩ : Addr).add j) = some v := by
  intro j v hv
  rw [addr_add]
  have hl : j < 7 := (List.getElem?_eq_some_iff.1 hv).1
  match j, hl with
  | 0, _ => exact h.cell 0 hv
  | 1, _ => exact h.cell 1 hv
  | 2, _ => exact h.cell 2 hv
  | 3, _ => exact h.cell 3 hv
  | 4, _ => exact h.cell 4 hv
  | 5, _ => exact h.cell 5 hv
  | 6, _ => exact h.cell 6 hv
theorem DAt.set_ju (h : DAt w B d) (k : KR) : DAt (w.setCells B 0 (KA k).toList) B { d with ju := k } := by
  have q := setCells_heap (KA k).toList 0 h
  have e : (List.foldl (fun (a : Array Value × Nat) v => (a.1.setIfInBounds a.2 v, a.2 + 1)) (DA d, 0) (KA k).toList).1 = DA { d with ju := k } := by kernel_rfl
  rw [e] at q
  exact q
theorem DAt.k_op (h : DAt w B d) : ∀ j v, (KA d.op).toList[j]? = some v → w.cell? ((⟨B, 7, none⟩ : Addr).add j) = some v := by
  intro j v hv
  rw [addr_add]
  have hl : j < 7 := (List.getElem?_eq_some_iff.1 hv).1
  match j, hl with
  | 0, _ => exact h.cell 7 hv
  | 1, _ => exact h.cell 8 hv
  | 2, _ => exact h.cell 9 hv
  | 3, _ => exact h.cell 10 hv
  | 4, _ => exact h.cell 11 hv
  | 5, _ => exact h.cell 12 hv
  | 6, _ => exact h.cell 13 hv
theorem DAt.set_op (h : DAt w B d) (k : KR) : DAt (w.setCells B 7 (KA k).toList) B { d with op := k } := by
  have q := setCells_heap (KA k).toList 7 h
  have e : (List.foldl (fun (a : Array Value × Nat) v => (a.1.setIfInBounds a.2 v, a.2 + 1)) (DA d, 7) (KA k).toList).1 = DA { d with op := k } := by kernel_rfl
  rw [e] at q
  exact q
theorem DAt.k_ou (h : DAt w B d) : ∀ j v, (KA d.ou).toList[j]? = some v → w.cell? ((⟨B, 14, none⟩ : Addr).add j) = some v := by
  intro j v hv
  rw [addr_add]
  have hl : j < 7 := (List.getElem?_eq_some_iff.1 hv).1
  match j, hl with
  | 0, _ => exact h.cell 14 hv
  | 1, _ => exact h.cell 15 hv
  | 2, _ => exact h.cell 16 hv
  | 3, _ => exact h.cell 17 hv
  | 4, _ => exact h.cell 18 hv
  | 5, _ => exact h.cell 19 hv
  | 6, _ => exact h.cell 20 hv
theorem DAt.set_ou (h : DAt w B d) (k : KR) : DAt (w.setCells B 14 (KA k).toList) B { d with ou := k } := by
  have q := setCells_heap (KA k).toList 14 h
  have e : (List.foldl (fun (a : Array Value × Nat) v => (a.1.setIfInBounds a.2 v, a.2 + 1)) (DA d, 14) (KA k).toList).1 = DA { d with ou := k } := by kernel_rfl
  rw [e] at q
  exact q
theorem DAt.k_ba (h : DAt w B d) : ∀ j v, (KA d.ba).toList[j]? = some v → w.cell? ((⟨B, 21, none⟩ : Addr).add j) = some v := by
  intro j v hv
  rw [addr_add]
  have hl : j < 7 := (List.getElem?_eq_some_iff.1 hv).1
  match j, hl with
  | 0, _ => exact h.cell 21 hv
  | 1, _ => exact h.cell 22 hv
  | 2, _ => exact h.cell 23 hv
  | 3, _ => exact h.cell 24 hv
  | 4, _ => exact h.cell 25 hv
  | 5, _ => exact h.cell 26 hv
  | 6, _ => exact h.cell 27 hv
theorem DAt.set_ba (h : DAt w B d) (k : KR) : DAt (w.setCells B 21 (KA k).toList) B { d with ba := k } := by
  have q := setCells_heap (KA k).toList 21 h
  have e : (List.foldl (fun (a : Array Value × Nat) v => (a.1.setIfInBounds a.2 v, a.2 + 1)) (DA d, 21) (KA k).toList).1 = DA { d with ba := k } := by kernel_rfl
  rw [e] at q
  exact q
theorem DAt.k_ho (h : DAt w B d) : ∀ j v, (KA d.ho).toList[j]? = some v → w.cell? ((⟨B, 28, none⟩ : Addr).add j) = some v := by
  intro j v hv
  rw [addr_add]
  have hl : j < 7 := (List.getElem?_eq_some_iff.1 hv).1
  match j, hl with
  | 0, _ => exact h.cell 28 hv
  | 1, _ => exact h.cell 29 hv
  | 2, _ => exact h.cell 30 hv
  | 3, _ => exact h.cell 31 hv
  | 4, _ => exact h.cell 32 hv
  | 5, _ => exact h.cell 33 hv
  | 6, _ => exact h.cell 34 hv
theorem DAt.set_ho (h : DAt w B d) (k : KR) : DAt (w.setCells B 28 (KA k).toList) B { d with ho := k } := by
  have q := setCells_heap (KA k).toList 28 h
  have e : (List.foldl (fun (a : Array Value × Nat) v => (a.1.setIfInBounds a.2 v, a.2 + 1)) (DA d, 28) (KA k).toList).1 = DA { d with ho := k } := by kernel_rfl
  rw [e] at q
  exact q
theorem DAt.k_c (h : DAt w B d) : ∀ j v, (cfc d.c).toList[j]? = some v → w.cell? ((⟨B, 37, none⟩ : Addr).add j) = some v := by
  intro j v hv
  rw [addr_add]
  have hl : j < 8 := (List.getElem?_eq_some_iff.1 hv).1
  match j, hl with
  | 0, _ => exact h.cell 37 hv
  | 1, _ => exact h.cell 38 hv
  | 2, _ => exact h.cell 39 hv
  | 3, _ => exact h.cell 40 hv
  | 4, _ => exact h.cell 41 hv
  | 5, _ => exact h.cell 42 hv
  | 6, _ => exact h.cell 43 hv
  | 7, _ => exact h.cell 44 hv
theorem DAt.there (h : DAt w B d) {o n : Nat} (hn : o + n ≤ 51) : w.there B o n := there_of h (by simpa [DA] using hn)
end
end Go.Proofs.Ytokbmahnjmmcaaa
