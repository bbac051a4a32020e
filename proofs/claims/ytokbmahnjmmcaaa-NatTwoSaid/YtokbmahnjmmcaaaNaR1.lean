/- The document's Make; by-name template (gen_na.py). -/
import Derived.Test.YtokbmahnjmmcaaaNaR0
import Derived.Test.YtokbmahnjmmcaaaNaM8
namespace Go.Proofs.Ytokbmahnjmmcaaa
open Go.RowKit Go.Lib Go.Maps
set_option linter.unusedVariables false
set_option linter.unusedSimpArgs false

/-- the four blocks of the document's Make. -/
structure RQ (w wN : World) (gc gk gp gq : Nat) (c : CF) (k : KR) (p : PN) : Prop where
  bel : Below w.heap.size w wN
  cb : wN.heap[gc]? = some (.cells (cfc c) 30 (0, 0))
  kb : wN.heap[gk]? = some (.cells (KA k) 35 (0, 0))
  pb : wN.heap[gp]? = some (.cells (PA zP) 54 (0, 0))
  qb : wN.heap[gq]? = some (.cells (PA p) 54 (0, 0))
  n1 : gq ≠ gc
  n2 : gq ≠ gk
  n3 : gq ≠ gp
  n4 : w.heap.size ≤ gq
section
variable {w wN wM : World} {gc gk gp gq : Nat} {c : CF} {k : KR} {p : PN}
theorem RQ.below (h : RQ w wN gc gk gp gq c k p) (b : Below wN.heap.size wN wM) : RQ w wM gc gk gp gq c k p :=
  ⟨h.bel.trans (b.mono h.bel.size), Go.Proofs.Ytokbmahnjmmcaaa.kb b h.cb, Go.Proofs.Ytokbmahnjmmcaaa.kb b h.kb, Go.Proofs.Ytokbmahnjmmcaaa.kb b h.pb, Go.Proofs.Ytokbmahnjmmcaaa.kb b h.qb, h.n1, h.n2, h.n3, h.n4⟩
theorem RQ.off (h : RQ w wN gc gk gp gq c k p) (o : Off gq wN wM) {p' : PN} (hq : wM.heap[gq]? = some (.cells (PA p') 54 (0, 0))) : RQ w wM gc gk gp gq c k p' :=
  ⟨h.bel.trans (o.toBelow h.n4 h.bel.size), (o.block _ (blk_lt h.cb) (fun e => h.n1 e.symm)).trans h.cb, (o.block _ (blk_lt h.kb) (fun e => h.n2 e.symm)).trans h.kb, (o.block _ (blk_lt h.pb) (fun e => h.n3 e.symm)).trans h.pb, hq, h.n1, h.n2, h.n3, h.n4⟩
theorem RQ.setq (h : RQ w wN gc gk gp gq c k p) (o : Nat) (vs : List Value) (p' : PN) (e : (List.foldl (fun (a : Array Value × Nat) v => (a.1.setIfInBounds a.2 v, a.2 + 1)) (PA p, o) vs).1 = PA p') : RQ w (wN.setCells gq o vs) gc gk gp gq c k p' :=
  h.off (setCells_off vs o wN gq) (by have q := setCells_heap vs o h.qb; rw [e] at q; exact q)
theorem RQ.set1 (h : RQ w wN gc gk gp gq c k p) (j : Nat) (v : Value) (p' : PN) (e : (PA p).setIfInBounds j v = PA p') : RQ w (wN.setCell ⟨gq, j, none⟩ v) gc gk gp gq c k p' :=
  h.off ((Off.refl gq wN).set j v) (by have q := heap_set h.qb j v; rw [e] at q; exact q)
theorem RQ.cell (h : RQ w wN gc gk gp gq c k p) (j : Nat) {v : Value} (hv : (PA p)[j]? = some v) : wN.cell? ⟨gq, j, none⟩ = some v := (cell_of_row _ gq j _ _ _ h.qb).trans hv
theorem RQ.kcell (h : RQ w wN gc gk gp gq c k p) (j : Nat) {v : Value} (hv : (KA k)[j]? = some v) : wN.cell? ⟨gk, j, none⟩ = some v := (cell_of_row _ gk j _ _ _ h.kb).trans hv
theorem RQ.ccell (h : RQ w wN gc gk gp gq c k p) (j : Nat) {v : Value} (hv : (cfc c)[j]? = some v) : wN.cell? ⟨gc, j, none⟩ = some v := (cell_of_row _ gc j _ _ _ h.cb).trans hv
theorem RQ.there (h : RQ w wN gc gk gp gq c k p) {o n : Nat} (hn : o + n ≤ 37) : wN.there gq o n := there_of h.qb (by simpa [PA] using hn)
theorem RQ.free (h : RQ w wN gc gk gp gq c k p) (j : Nat) : wN.frozen? ⟨gq, j, none⟩ = false := free_of h.qb j
end
theorem rp_inf (p : PN) : (Try.prog.info? 54).map (·.size) = some (PA p).size := by rw [show (PA p).size = 37 from rfl]; kernel_rfl
def p0 (k : KR) : PN := ⟨k, k, zK, zK, turnK k, 0, 0⟩
theorem RQ.c_ju {w wN : World} {gc gk gp gq : Nat} {c : CF} {k : KR} {p : PN} (h : RQ w wN gc gk gp gq c k p) : ∀ j v, (KA p.ju).toList[j]? = some v → wN.cell? ((⟨gq, 0, none⟩ : Addr).add j) = some v := by
  intro j v hv
  rw [addr_add]
  have hl : j < 7 := (List.getElem?_eq_some_iff.1 hv).1
  match j, hl with
  | 0, _ => exact h.cell 0 hv
  | 1, _ => exact h.cell 1 hv
  | 2, _ => exact h.cell 2 hv
  | 3, _ => exact h.cell 3 hv
  | 4, _ => exact h.cell 4 hv
  | 5, _ => exact h.cell 5 hv
  | 6, _ => exact h.cell 6 hv
theorem RQ.c_ou {w wN : World} {gc gk gp gq : Nat} {c : CF} {k : KR} {p : PN} (h : RQ w wN gc gk gp gq c k p) : ∀ j v, (KA p.ou).toList[j]? = some v → wN.cell? ((⟨gq, 14, none⟩ : Addr).add j) = some v := by
  intro j v hv
  rw [addr_add]
  have hl : j < 7 := (List.getElem?_eq_some_iff.1 hv).1
  match j, hl with
  | 0, _ => exact h.cell 14 hv
  | 1, _ => exact h.cell 15 hv
  | 2, _ => exact h.cell 16 hv
  | 3, _ => exact h.cell 17 hv
  | 4, _ => exact h.cell 18 hv
  | 5, _ => exact h.cell 19 hv
  | 6, _ => exact h.cell 20 hv
theorem RQ.c_ba {w wN : World} {gc gk gp gq : Nat} {c : CF} {k : KR} {p : PN} (h : RQ w wN gc gk gp gq c k p) : ∀ j v, (KA p.ba).toList[j]? = some v → wN.cell? ((⟨gq, 21, none⟩ : Addr).add j) = some v := by
  intro j v hv
  rw [addr_add]
  have hl : j < 7 := (List.getElem?_eq_some_iff.1 hv).1
  match j, hl with
  | 0, _ => exact h.cell 21 hv
  | 1, _ => exact h.cell 22 hv
  | 2, _ => exact h.cell 23 hv
  | 3, _ => exact h.cell 24 hv
  | 4, _ => exact h.cell 25 hv
  | 5, _ => exact h.cell 26 hv
  | 6, _ => exact h.cell 27 hv
theorem RQ.c_all {w wN : World} {gc gk gp gq : Nat} {c : CF} {k : KR} {p : PN} (h : RQ w wN gc gk gp gq c k p) : ∀ j v, (PA p).toList[j]? = some v → wN.cell? ((⟨gq, 0, none⟩ : Addr).add j) = some v := blk_all h.qb
theorem icmp_port {p : Int} (h : icmpB p = true) : portedP p = false := by
  unfold icmpB at h
  unfold portedP
  rcases Bool.or_eq_true_iff.1 h with h | h <;> (have := eq_of_beq h; subst this; rfl)
theorem icmp_jud {c : CF} {k : KR} (h : icmpB k.proto = true) : (dstP c k).2.2.1 = k.dp := by
  unfold dstP
  cases c.ns.find? (calledP c k) with
  | none => rfl
  | some n =>
    show (if n.kind = 2 ∧ ¬ n.frm = 0 ∧ portedP k.proto = true then n.frm else k.dp) = k.dp
    rw [if_neg (by rw [icmp_port h]; simp)]
theorem zeroR (w : World) : (zeroValue 54).run Try.prog w = .ok (.agg (PA zP)) w := by kernel_rfl
end Go.Proofs.Ytokbmahnjmmcaaa
