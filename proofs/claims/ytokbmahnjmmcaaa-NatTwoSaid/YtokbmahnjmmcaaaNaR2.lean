/- The document's Make: what the leaves say; by-name template (gen_na.py). -/
import Derived.Test.YtokbmahnjmmcaaaNaR1
namespace Go.Proofs.Ytokbmahnjmmcaaa
open Go.RowKit Go.Lib Go.Maps
set_option linter.unusedVariables false
set_option linter.unusedSimpArgs false

def pO (c : CF) (k o b : KR) : PN := ⟨judK c k, k, o, b, turnK k, (routeP c (judK c k).dh (judK c k).dl).1, (routeP c (judK c k).dh (judK c k).dl).2⟩
theorem d3_rest (c : CF) (inn : Int) (k : KR) (mt : Nat) : (d3 c inn k mt).ju = judK c k ∧ (d3 c inn k mt).ho = turnK k ∧ (d3 c inn k mt).ifc = (routeP c (judK c k).dh (judK c k).dl).1 ∧ (d3 c inn k mt).zo = (routeP c (judK c k).dh (judK c k).dl).2 := by
  unfold d3 sourceD hairD lookD
  repeat' split
  all_goals exact ⟨rfl, rfl, rfl, rfl⟩
theorem make_rest {c : CF} {inn : Int} {k : KR} {tk : List KR} (h1 : (routeP c (judK c k).dh (judK c k).dl).1 ≠ -1) (h2 : (routeP c (judK c k).dh (judK c k).dl).2 ≠ -1) : makeP c inn k tk = match portQ (d3 c inn k 0) tk with
    | none => (zP, 15)
    | some r => (pO c k r (turnK r), 0) := by
  unfold makeP
  rw [if_neg h1, if_neg h2]
  obtain ⟨q1, q2, q3, q4⟩ := d3_rest c inn k 0
  have q5 := d3_op c inn k 0
  cases portQ (d3 c inn k 0) tk with
  | none => rfl
  | some r =>
    simp only [planD, pO]
    rw [q1, q2, q3, q4, q5]
theorem portQ_no {c : CF} {inn : Int} {k o : KR} {tk : List KR} (h : (d3 c inn k 0).looks = false) (ho : (d3 c inn k 0).ou = o) : portQ (d3 c inn k 0) tk = if freeB (turnK o) k tk then some o else none := by
  unfold portQ
  rw [h, ho, d3_op]
  rfl
theorem portQ_yes {c : CF} {inn : Int} {k o : KR} {tk : List KR} {f t : Int} (h : (d3 c inn k 0).looks = true) (ho : (d3 c inn k 0).ou = o) (hf : (d3 c inn k 0).frm = f) (ht : (d3 c inn k 0).til = t) : portQ (d3 c inn k 0) tk = scanK o k tk f t (cnt f t) 0 := by
  unfold portQ
  rw [h, ho, d3_op, hf, ht]
  rfl
def bD (c : CF) (inn : Int) (k : KR) : DR := wayD (judgeD (D0 c inn 0 k))
theorem d3_nat {c : CF} {inn : Int} {k : KR} {i : Nat} {n : NR} (hs : srcP c (routeP c (judK c k).dh (judK c k).dl).2 (judK c k) = (i : Int)) (hn : c.ns[i]? = some n) :
    d3 c inn k 0 = if n.kind = 1 then lookD { bD c inn k with ou := { judK c k with sh := n.oh, sl := n.ol } } n.frm n.til else { bD c inn k with ou := { judK c k with sh := n.oh, sl := n.ol } } :=
  source_some (d := bD c inn k) hs hn
theorem d3_hair {c : CF} {inn : Int} {k : KR} (hs : srcP c (routeP c (judK c k).dh (judK c k).dl).2 (judK c k) = -1) : d3 c inn k 0 = hairD { bD c inn k with ou := judK c k } := by
  have : d3 c inn k 0 = sourceD (bD c inn k) := rfl
  rw [this]
  unfold sourceD
  exact if_pos hs
theorem d3_hair_no {c : CF} {inn : Int} {k : KR} (hs : srcP c (routeP c (judK c k).dh (judK c k).dl).2 (judK c k) = -1) (h : (dstP c k).2.2.2 = -1 ∨ ¬ (routeP c (judK c k).dh (judK c k).dl).2 = inn) : d3 c inn k 0 = { bD c inn k with ou := judK c k } := by
  rw [d3_hair hs]
  unfold hairD
  exact if_pos h
theorem d3_hair_z {c : CF} {inn : Int} {k : KR} (hs : srcP c (routeP c (judK c k).dh (judK c k).dl).2 (judK c k) = -1) (h1 : ¬ (dstP c k).2.2.2 = -1) (h2 : (routeP c (judK c k).dh (judK c k).dl).2 = inn) {j : Nat} {z : ZR} (hj : (routeP c (judK c k).dh (judK c k).dl).2 = (j : Int)) (hz : c.zs[j]? = some z) :
    d3 c inn k 0 = if is4I z.ah z.al == is4I k.sh k.sl then lookD { bD c inn k with ou := { judK c k with sh := z.ah, sl := z.al } } 1024 65535 else { bD c inn k with ou := judK c k } := by
  rw [d3_hair hs]
  exact hair_some (d := { bD c inn k with ou := judK c k }) h1 h2 hj hz
theorem nat_no {c : CF} {inn : Int} {k : KR} {i : Nat} {n : NR} (hs : srcP c (routeP c (judK c k).dh (judK c k).dl).2 (judK c k) = (i : Int)) (hn : c.ns[i]? = some n) (hk : ¬ n.kind = 1) : (d3 c inn k 0).looks = false ∧ (d3 c inn k 0).ou = { judK c k with sh := n.oh, sl := n.ol } := by
  rw [d3_nat hs hn, if_neg hk]; exact ⟨rfl, rfl⟩
theorem nat_un {c : CF} {inn : Int} {k : KR} {i : Nat} {n : NR} (hs : srcP c (routeP c (judK c k).dh (judK c k).dl).2 (judK c k) = (i : Int)) (hn : c.ns[i]? = some n) (hk : n.kind = 1) (hp : portedB k.proto = false) : (d3 c inn k 0).looks = false ∧ (d3 c inn k 0).ou = { judK c k with sh := n.oh, sl := n.ol } := by
  rw [d3_nat hs hn, if_pos hk]
  unfold lookD
  have e : portedB (bD c inn k).op.proto = false := hp
  rw [if_neg (by rw [e]; simp)]
  exact ⟨rfl, rfl⟩
theorem nat_yes {c : CF} {inn : Int} {k : KR} {i : Nat} {n : NR} (hs : srcP c (routeP c (judK c k).dh (judK c k).dl).2 (judK c k) = (i : Int)) (hn : c.ns[i]? = some n) (hk : n.kind = 1) (hp : portedB k.proto = true) : (d3 c inn k 0).looks = true ∧ (d3 c inn k 0).ou = { judK c k with sh := n.oh, sl := n.ol } ∧ (d3 c inn k 0).frm = n.frm ∧ (d3 c inn k 0).til = n.til := by
  rw [d3_nat hs hn, if_pos hk]
  unfold lookD
  have e : portedB (bD c inn k).op.proto = true := hp
  rw [if_pos e]
  exact ⟨rfl, rfl, rfl, rfl⟩
theorem hair_no {c : CF} {inn : Int} {k : KR} (hs : srcP c (routeP c (judK c k).dh (judK c k).dl).2 (judK c k) = -1) (h : (dstP c k).2.2.2 = -1 ∨ ¬ (routeP c (judK c k).dh (judK c k).dl).2 = inn) : (d3 c inn k 0).looks = false ∧ (d3 c inn k 0).ou = judK c k := by
  rw [d3_hair_no hs h]; exact ⟨rfl, rfl⟩
theorem hair_ne {c : CF} {inn : Int} {k : KR} (hs : srcP c (routeP c (judK c k).dh (judK c k).dl).2 (judK c k) = -1) (h1 : ¬ (dstP c k).2.2.2 = -1) (h2 : (routeP c (judK c k).dh (judK c k).dl).2 = inn) {j : Nat} {z : ZR} (hj : (routeP c (judK c k).dh (judK c k).dl).2 = (j : Int)) (hz : c.zs[j]? = some z) (h4 : (is4I z.ah z.al == is4I k.sh k.sl) = false) : (d3 c inn k 0).looks = false ∧ (d3 c inn k 0).ou = judK c k := by
  rw [d3_hair_z hs h1 h2 hj hz, if_neg (by rw [h4]; simp)]; exact ⟨rfl, rfl⟩
theorem hair_un {c : CF} {inn : Int} {k : KR} (hs : srcP c (routeP c (judK c k).dh (judK c k).dl).2 (judK c k) = -1) (h1 : ¬ (dstP c k).2.2.2 = -1) (h2 : (routeP c (judK c k).dh (judK c k).dl).2 = inn) {j : Nat} {z : ZR} (hj : (routeP c (judK c k).dh (judK c k).dl).2 = (j : Int)) (hz : c.zs[j]? = some z) (h4 : (is4I z.ah z.al == is4I k.sh k.sl) = true) (hp : portedB k.proto = false) : (d3 c inn k 0).looks = false ∧ (d3 c inn k 0).ou = { judK c k with sh := z.ah, sl := z.al } := by
  rw [d3_hair_z hs h1 h2 hj hz, if_pos h4]
  unfold lookD
  have e : portedB (bD c inn k).op.proto = false := hp
  rw [if_neg (by rw [e]; simp)]
  exact ⟨rfl, rfl⟩
theorem hair_yes {c : CF} {inn : Int} {k : KR} (hs : srcP c (routeP c (judK c k).dh (judK c k).dl).2 (judK c k) = -1) (h1 : ¬ (dstP c k).2.2.2 = -1) (h2 : (routeP c (judK c k).dh (judK c k).dl).2 = inn) {j : Nat} {z : ZR} (hj : (routeP c (judK c k).dh (judK c k).dl).2 = (j : Int)) (hz : c.zs[j]? = some z) (h4 : (is4I z.ah z.al == is4I k.sh k.sl) = true) (hp : portedB k.proto = true) : (d3 c inn k 0).looks = true ∧ (d3 c inn k 0).ou = { judK c k with sh := z.ah, sl := z.al } ∧ (d3 c inn k 0).frm = 1024 ∧ (d3 c inn k 0).til = 65535 := by
  rw [d3_hair_z hs h1 h2 hj hz, if_pos h4]
  unfold lookD
  have e : portedB (bD c inn k).op.proto = true := hp
  rw [if_pos e]
  exact ⟨rfl, rfl, rfl, rfl⟩
theorem cnt_of {f t : Int} {i : Nat} (h : i < cnt f t) : (i : Int) ≤ t - f := by
  unfold cnt at h
  split at h <;> omega
theorem cnt_rng {f t : Int} {i : Nat} (h : i < cnt f t) : 0 ≤ f ∧ t ≤ 65535 ∧ f ≤ t := by
  unfold cnt at h
  split at h <;> omega
theorem ky_w {k : KR} (h : KyOk k) : Word k.sh ∧ Word k.sl := ⟨h.2.1, h.2.2.1⟩
theorem dst_ge (c : CF) (k : KR) : -1 ≤ (dstP c k).2.2.2 := by
  unfold dstP
  cases c.ns.find? (calledP c k) with
  | none => exact Int.le_refl _
  | some n => exact (pl_lt (calledP c k) c.ns).1
end Go.Proofs.Ytokbmahnjmmcaaa
