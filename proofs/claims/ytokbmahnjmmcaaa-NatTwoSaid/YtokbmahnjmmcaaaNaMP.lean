/- Plans in plain words; by-name template (gen_na.py). -/
import Derived.Test.YtokbmahnjmmcaaaNaM7
namespace Go.Proofs.Ytokbmahnjmmcaaa
open Go.RowKit Go.Lib Go.Maps
set_option linter.unusedVariables false
set_option linter.unusedSimpArgs false

structure PN where
  ju : KR
  op : KR
  ou : KR
  ba : KR
  ho : KR
  ifc : Int
  zo : Int
  deriving DecidableEq
def PA (p : PN) : Array Value := #[.int .i64 p.ju.proto, .int .u64 p.ju.sh, .int .u64 p.ju.sl, .int .u64 p.ju.dh, .int .u64 p.ju.dl, .int .i64 p.ju.sp, .int .i64 p.ju.dp, .int .i64 p.op.proto, .int .u64 p.op.sh, .int .u64 p.op.sl, .int .u64 p.op.dh, .int .u64 p.op.dl, .int .i64 p.op.sp, .int .i64 p.op.dp, .int .i64 p.ou.proto, .int .u64 p.ou.sh, .int .u64 p.ou.sl, .int .u64 p.ou.dh, .int .u64 p.ou.dl, .int .i64 p.ou.sp, .int .i64 p.ou.dp, .int .i64 p.ba.proto, .int .u64 p.ba.sh, .int .u64 p.ba.sl, .int .u64 p.ba.dh, .int .u64 p.ba.dl, .int .i64 p.ba.sp, .int .i64 p.ba.dp, .int .i64 p.ho.proto, .int .u64 p.ho.sh, .int .u64 p.ho.sl, .int .u64 p.ho.dh, .int .u64 p.ho.dl, .int .i64 p.ho.sp, .int .i64 p.ho.dp, .int .i64 p.ifc, .int .i64 p.zo]
def zP : PN := ⟨zK, zK, zK, zK, zK, 0, 0⟩
def planD (d : DR) : PN := ⟨d.ju, d.op, d.ou, d.ba, d.ho, d.ifc, d.zo⟩
def d3 (c : CF) (inn : Int) (k : KR) (mt : Nat) : DR := sourceD (wayD (judgeD (D0 c inn mt k)))
/-- a plan, or why not. -/
def makeP (c : CF) (inn : Int) (k : KR) (tk : List KR) : PN × Int :=
  if (routeP c (judK c k).dh (judK c k).dl).1 = -1 then (zP, 8)
  else if (routeP c (judK c k).dh (judK c k).dl).2 = -1 then (zP, 3)
  else match portQ (d3 c inn k 0) tk with
    | none => (zP, 15)
    | some r => (planD { d3 c inn k 0 with ou := r, ba := turnK r }, 0)
theorem look_mt (d : DR) (f t : Int) (m : Nat) : lookD { d with mt := m } f t = { lookD d f t with mt := m } := by
  unfold lookD
  split <;> rfl
theorem hair_mt (d : DR) (m : Nat) : hairD { d with mt := m } = { hairD d with mt := m } := by
  unfold hairD
  dsimp only
  by_cases h : d.dest = -1 ∨ ¬ d.zo = d.inn
  · rw [if_pos h, if_pos h]
  · rw [if_neg h, if_neg h]
    cases d.c.zs[d.zo.toNat]? with
    | none => rfl
    | some z =>
      dsimp only
      by_cases q : (is4I z.ah z.al == is4I d.op.sh d.op.sl) = true
      · rw [if_pos q, if_pos q]
        exact look_mt { d with ou := { d.ou with sh := z.ah, sl := z.al } } 1024 65535 m
      · rw [if_neg q, if_neg q]
theorem src_mt (d : DR) (m : Nat) : sourceD { d with mt := m } = { sourceD d with mt := m } := by
  unfold sourceD
  dsimp only
  by_cases h : srcP d.c d.zo d.ju = -1
  · rw [if_pos h, if_pos h]
    exact hair_mt { d with ou := d.ju } m
  · rw [if_neg h, if_neg h]
    cases d.c.ns[(srcP d.c d.zo d.ju).toNat]? with
    | none => rfl
    | some n =>
      dsimp only
      by_cases q : n.kind = 1
      · rw [if_pos q, if_pos q]
        exact look_mt { d with ou := { d.ju with sh := n.oh, sl := n.ol } } n.frm n.til m
      · rw [if_neg q, if_neg q]
theorem d3_mt (c : CF) (inn : Int) (k : KR) (m : Nat) : d3 c inn k m = { d3 c inn k 0 with mt := m } := src_mt (wayD (judgeD (D0 c inn 0 k))) m
theorem zone_place (c : CF) (x : Int) : zoneP c x = -1 ∨ ∃ (j : Nat) (z : ZR), zoneP c x = (j : Int) ∧ c.zs[j]? = some z := by
  unfold zoneP
  obtain ⟨h1, h2⟩ := pl_lt (inZ x) c.zs
  by_cases e : pl (inZ x) c.zs = -1
  · exact .inl e
  · exact .inr ⟨(pl (inZ x) c.zs).toNat, _, by omega, List.getElem?_eq_getElem (by omega)⟩
theorem route_zone (c : CF) (a b : Int) : (routeP c a b).2 = -1 ∨ ∃ (j : Nat) (z : ZR), (routeP c a b).2 = (j : Int) ∧ c.zs[j]? = some z := by
  unfold routeP
  split
  · exact .inl rfl
  · split
    · exact .inl rfl
    · rename_i t _
      exact zone_place c t.ifc
theorem find_mem {α : Type} {p : α → Bool} {l : List α} {x : α} (h : l.find? p = some x) : x ∈ l := List.mem_of_find?_eq_some h
theorem jud_ok {c : CF} {k : KR} {w : World} (hc : c.Ok w) (hk : KyOk k) : KyOk (judK c k) := by
  obtain ⟨a, b, d, e, f, g, h⟩ := hk
  unfold judK dstP
  cases hn : c.ns.find? (calledP c k) with
  | none => exact ⟨a, b, d, e, f, g, h⟩
  | some n =>
    obtain ⟨q1, q2, q3⟩ := hc.nx n (find_mem hn)
    refine ⟨a, b, d, q1.1, q1.2, g, ?_⟩
    show i64ok (if n.kind = 2 ∧ ¬ n.frm = 0 ∧ portedP k.proto = true then n.frm else k.dp)
    split
    · exact q2
    · exact h
def D3Ok (d : DR) : Prop := KyOk d.ou ∧ i64ok d.frm ∧ i64ok d.til
theorem look_ok {d : DR} (h : D3Ok d) {f t : Int} (hf : i64ok f) (ht : i64ok t) : D3Ok (lookD d f t) := by
  unfold lookD
  split
  · exact ⟨h.1, hf, ht⟩
  · exact h
theorem ky_src {k : KR} (h : KyOk k) {a b : Int} (ha : Word a) (hb : Word b) : KyOk { k with sh := a, sl := b } := by
  obtain ⟨q, _, _, r⟩ := h
  exact ⟨q, ha, hb, r⟩
theorem d3_ok (c : CF) (inn : Int) (k : KR) (mt : Nat) {w : World} (hc : c.Ok w) (hk : KyOk k) : D3Ok (d3 c inn k mt) := by
  have hj := jud_ok hc hk
  have h0 : i64ok 0 := by unfold i64ok; omega
  unfold d3 sourceD
  split
  · unfold hairD
    split
    · exact ⟨hj, h0, h0⟩
    · split
      · exact ⟨hj, h0, h0⟩
      · rename_i z hz
        have hw := hc.zw z (List.mem_of_getElem? hz)
        split
        · exact look_ok (d := { (wayD (judgeD (D0 c inn mt k))) with ou := { judK c k with sh := z.ah, sl := z.al } }) ⟨ky_src hj hw.1 hw.2, h0, h0⟩ (by unfold i64ok; omega) (by unfold i64ok; omega)
        · exact ⟨hj, h0, h0⟩
  · split
    · exact ⟨by unfold KyOk i64ok u64ok; simp [wayD, judgeD, D0, zK], h0, h0⟩
    · rename_i n hn
      have hw := hc.nw n (List.mem_of_getElem? hn)
      have hx := hc.nx n (List.mem_of_getElem? hn)
      split
      · exact look_ok (d := { (wayD (judgeD (D0 c inn mt k))) with ou := { judK c k with sh := n.oh, sl := n.ol } }) ⟨ky_src hj hw.1 hw.2, h0, h0⟩ hx.2.1 hx.2.2
      · exact ⟨ky_src hj hw.1 hw.2, h0, h0⟩
theorem d3_op (c : CF) (inn : Int) (k : KR) (mt : Nat) : (d3 c inn k mt).op = k := by
  unfold d3 sourceD hairD lookD
  repeat' split
  all_goals rfl
end Go.Proofs.Ytokbmahnjmmcaaa
