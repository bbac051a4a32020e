/- What a run over the pieces leaves, and what a Set comes to; by-name template. -/
import Derived.Test.YtikaeblmjlfgcaaPlain
namespace Go.Proofs.Ytikaeblmjlfgcaa

def RS.put (R : RS) (q : Pc) (x : Nat) : RS := { R with P := R.P.set (pos q) (x : Int) }
def RS.clr (R : RS) (s : Nat) : RS := { R with P := (List.range 64).map fun j => if j / 8 = s then 0 else R.P.getD j 0 }
def bump (n : Int) : Int := if n + 1 = 18446744073709551616 then 0 else n + 1
def clrAll (R : RS) (L : List Pt) : RS := L.foldl (fun R p => R.clr p.slot.toNat) R
def next0 (R : RS) (L : List Pt) : RS := clrAll { R with n := bump R.n } L

/-- A run: the pieces are laid, one behind another, into the sectors that come. -/
inductive Runs (D0 : DS) (R0 : RS) (ps0 : List Pc) : List Nat → DS → RS → List Pc → Prop
  | nil : Runs D0 R0 ps0 [] D0 R0 ps0
  | snoc {pre : List Nat} {D : DS} {R : RS} {q : Pc} {ps : List Pc} {x : Nat} : Runs D0 R0 ps0 pre D R (q :: ps) → wres D x q.text = 0 → Runs D0 R0 ps0 (pre ++ [x]) (wst D x q.text) (R.put q x) ps

/-- What a Set that has something to do comes to: its answer, and the disk. -/
def WOut (D0 : DS) (L : List Pt) (e : Int) (D' : DS) : Prop :=
  (∃ (pre : List Nat) (D : DS) (R : RS) (ps : List Pc), (ps = [] ∨ pre = frees (root D0)) ∧ pre <+: frees (root D0) ∧ Runs D0 (next0 (root D0) L) (pieces L) pre D R ps ∧ e = wres D 0 (textOf R) ∧ D' = wst D 0 (textOf R)) ∨
  (∃ (pre : List Nat) (x : Nat) (D : DS) (R : RS) (q : Pc) (ps : List Pc), pre ++ [x] <+: frees (root D0) ∧ Runs D0 (next0 (root D0) L) (pieces L) pre D R (q :: ps) ∧ e = wres D x q.text ∧ e ≠ 0 ∧ D' = wst D x q.text)

theorem clr_len (R : RS) (s : Nat) : (R.clr s).P.length = 64 := by simp [RS.clr]
theorem clr_get (R : RS) (s j : Nat) (hj : j < 64) : (R.clr s).P.getD j 0 = if j / 8 = s then 0 else R.P.getD j 0 := by
  simp [RS.clr, List.getD_eq_getElem?_getD, List.getElem?_range hj]
theorem clrAll_spec : ∀ (L : List Pt) (R : RS), R.P.length = 64 → (∀ x ∈ R.P, 0 ≤ x ∧ x < 256) → (clrAll R L).P.length = 64 ∧ (clrAll R L).n = R.n ∧ (∀ x ∈ (clrAll R L).P, 0 ≤ x ∧ x < 256) ∧
    (∀ j, j < 64 → (∃ p ∈ L, p.slot.toNat = j / 8) → (clrAll R L).P.getD j 0 = 0) ∧ (∀ j, j < 64 → (∀ p ∈ L, p.slot.toNat ≠ j / 8) → (clrAll R L).P.getD j 0 = R.P.getD j 0)
  | [], R, h, hb => ⟨h, rfl, hb, fun j _ ⟨p, hp, _⟩ => absurd hp List.not_mem_nil, fun j _ _ => rfl⟩
  | p :: L, R, h, hb => by
    have hb' : ∀ x ∈ (R.clr p.slot.toNat).P, 0 ≤ x ∧ x < 256 := by
      intro x hx
      simp only [RS.clr, List.mem_map, List.mem_range] at hx
      obtain ⟨j, hj, rfl⟩ := hx
      split
      · omega
      · have hjl : j < R.P.length := by omega
        rw [List.getD_eq_getElem?_getD, List.getElem?_eq_getElem hjl]
        exact hb _ (List.getElem_mem hjl)
    obtain ⟨h1, h2, h3, h4, h5⟩ := clrAll_spec L (R.clr p.slot.toNat) (clr_len _ _) hb'
    refine ⟨h1, h2, h3, fun j hj ⟨q, hq, he⟩ => ?_, fun j hj hn => ?_⟩
    · by_cases hx : ∃ p ∈ L, p.slot.toNat = j / 8
      · exact h4 j hj hx
      · have hx' : ∀ p ∈ L, p.slot.toNat ≠ j / 8 := fun p hp e => hx ⟨p, hp, e⟩
        refine (h5 j hj hx').trans ?_
        rw [clr_get _ _ _ hj, if_pos]
        rcases List.mem_cons.1 hq with rfl | hq'
        · exact he.symm
        · exact absurd he (hx' q hq')
    · refine (h5 j hj fun q hq => hn q (List.mem_cons_of_mem _ hq)).trans ?_
      rw [clr_get _ _ _ hj, if_neg]
      exact fun e => hn p List.mem_cons_self e.symm
theorem bump_ok {n : Int} (h0 : 0 ≤ n) (h1 : n < 18446744073709551616) : 0 ≤ bump n ∧ bump n < 18446744073709551616 := by
  unfold bump
  split <;> omega
theorem next0_spec {R : RS} (hR : RSok R) (L : List Pt) : RSok (next0 R L) ∧ (next0 R L).n = bump R.n ∧
    (∀ j, j < 64 → (∃ p ∈ L, p.slot.toNat = j / 8) → (next0 R L).P.getD j 0 = 0) ∧ (∀ j, j < 64 → (∀ p ∈ L, p.slot.toNat ≠ j / 8) → (next0 R L).P.getD j 0 = R.P.getD j 0) := by
  obtain ⟨h1, h2, h3, h4, h5⟩ := clrAll_spec L { R with n := bump R.n } hR.len hR.b
  obtain ⟨b0, b1⟩ := bump_ok hR.n0 hR.n1
  exact ⟨⟨by rw [next0, h2]; exact b0, by rw [next0, h2]; exact b1, h1, h3⟩, h2, h4, h5⟩

/-! ### A raw write -/
theorem wres_zero {D : DS} {i : Int} {s : ByteArray} (h : wres D i s = 0) : stuck D = false ∧ wst D i s = { (if D.c then { D with l := D.l - 1 } else D) with S := D.S.set i.toNat s, n := D.n + 1 } ∧ D.d = false ∧ (D.c = true → D.l ≠ 0) := by
  unfold wres at h
  unfold wst
  by_cases h1 : inSec i = false
  · simp [h1] at h
  · rw [if_neg h1] at h ⊢
    by_cases h2 : 512 < s.size
    · simp [h2] at h
    · rw [if_neg h2] at h ⊢
      by_cases h3 : stuck D = true
      · simp [h3] at h
      · rw [if_neg h3]
        have h3' : stuck D = false := by simpa using h3
        refine ⟨h3', ?_⟩
        obtain ⟨S, n, c, l, d⟩ := D
        simp only [stuck, Bool.or_eq_false_iff] at h3'
        obtain ⟨ha, hb⟩ := h3'
        subst hb
        cases c
        · simp [spent]
        · simp at ha
          simp [spent, ha]
theorem wres_not {D : DS} {i : Int} {s : ByteArray} (h : wres D i s ≠ 0) (h0 : 0 ≤ i) (h1 : i < 160) (hs : s.size ≤ 512) : wres D i s = 12 ∧ wst D i s = { D with d := true } ∧ (D.d = true ∨ (D.c = true ∧ D.l = 0)) := by
  have e1 : wres D i s = if stuck D then 12 else 0 := by
    unfold wres
    rw [if_neg (by rw [inSec_yes h0 h1]; simp), if_neg (by omega)]
  have e2 : wst D i s = if stuck D then spent D else { spent D with S := (spent D).S.set i.toNat s, n := (spent D).n + 1 } := by
    unfold wst
    rw [if_neg (by rw [inSec_yes h0 h1]; simp), if_neg (by omega)]
  rw [e1] at h ⊢
  rw [e2]
  by_cases h3 : stuck D = true
  · rw [if_pos h3, if_pos h3]
    refine ⟨rfl, ?_⟩
    obtain ⟨S, n, c, l, d⟩ := D
    cases c <;> cases d <;> simp [stuck, spent] at h3 ⊢ <;> simp_all
  · rw [if_neg h3] at h
    exact absurd rfl h

structure RunFacts (D0 : DS) (R0 : RS) (ps0 : List Pc) (pre : List Nat) (D : DS) (R : RS) (ps done : List Pc) : Prop where
  cut : ps0 = done ++ ps
  len : done.length = pre.length
  ds : D.S.length = 160
  rok : RSok R
  rn : R.n = R0.n
  keep : ∀ y, y ∉ pre → sec D y = sec D0 y
  other : ∀ j, (∀ q ∈ done, pos q ≠ j) → R.P.getD j 0 = R0.P.getD j 0
  laid : ∀ q ∈ done, ∃ x ∈ pre, R.P.getD (pos q) 0 = (x : Int) ∧ sec D x = q.text
  c : D.c = D0.c
  d : D.d = D0.d
  l : D.l = if D0.c then D0.l - pre.length else D0.l
  lk : D0.c = true → (pre.length : Int) ≤ D0.l
  n : D.n = D0.n + pre.length

theorem Runs.facts {D0 : DS} {R0 : RS} {ps0 : List Pc} {pre : List Nat} {D : DS} {R : RS} {ps : List Pc} (h : Runs D0 R0 ps0 pre D R ps) (hl : D0.S.length = 160) (hl0 : 0 ≤ D0.l) (hR : RSok R0) (hap : ps0.Pairwise fun q r => pos q ≠ pos r) (hpos : ∀ q ∈ ps0, pos q < 64) :
    pre.Nodup → (∀ x ∈ pre, x < 160) → ∃ done, RunFacts D0 R0 ps0 pre D R ps done := by
  induction h with
  | nil => exact fun _ _ => ⟨[], rfl, rfl, hl, hR, rfl, fun _ _ => rfl, fun _ _ => rfl, fun q hq => absurd hq List.not_mem_nil, rfl, rfl, by simp, fun _ => by simpa using hl0, by simp⟩
  | @snoc pre D R q ps x _ hw ih =>
    intro hnd hlt
    have hnd' : pre.Nodup := (List.nodup_append.1 hnd).1
    have hxn : x ∉ pre := by
      intro hx
      exact (List.nodup_append.1 hnd).2.2 x hx x (by simp) rfl
    obtain ⟨done, f⟩ := ih hnd' fun y hy => hlt y (by simp [hy])
    obtain ⟨_, hws, hd, hc⟩ := wres_zero hw
    have hx160 := hlt x (by simp)
    have hqm : q ∈ ps0 := by rw [f.cut]; simp
    have hq64 := hpos q hqm
    have hS : (wst D x q.text).S = D.S.set x q.text := by rw [hws]; rfl
    have hget : ∀ y, sec (wst D x q.text) y = if x = y then q.text else sec D y := by
      intro y
      unfold sec
      rw [hS, List.getD_eq_getElem?_getD, List.getElem?_set]
      have := f.ds
      by_cases e : x = y
      · subst e
        simp [show x < D.S.length by omega]
      · simp [e]
    have hput : ∀ j, (R.put q x).P.getD j 0 = if pos q = j then (x : Int) else R.P.getD j 0 := by
      intro j
      unfold RS.put
      rw [List.getD_eq_getElem?_getD, List.getElem?_set]
      have := f.rok.len
      by_cases e : pos q = j
      · subst e
        simp [show pos q < R.P.length by omega]
      · simp [e]
    have hapq : ∀ r ∈ done, pos r ≠ pos q := by
      intro r hr
      rw [f.cut, List.pairwise_append] at hap
      exact hap.2.2 r hr q (by simp)
    have hlc : D.l = if D0.c then D0.l - pre.length else D0.l := f.l
    have hlk := f.lk
    refine ⟨done ++ [q], ⟨by rw [f.cut]; simp, by simp [f.len], by rw [hS]; simp [f.ds], ⟨f.rok.n0, f.rok.n1, by simp [RS.put, f.rok.len], ?_⟩, f.rn, ?_, ?_, ?_, ?_, ?_, ?_, ?_, ?_⟩⟩
    · intro y hy
      rcases List.mem_or_eq_of_mem_set hy with h | h
      · exact f.rok.b y h
      · omega
    · intro y hy
      simp at hy
      rw [hget, if_neg (fun e => hy.2 e.symm)]
      exact f.keep y hy.1
    · intro j hj
      rw [hput, if_neg (hj q (by simp))]
      exact f.other j fun r hr => hj r (by simp [hr])
    · intro r hr
      rcases List.mem_append.1 hr with hr | hr
      · obtain ⟨y, hy, h1, h2⟩ := f.laid r hr
        refine ⟨y, by simp [hy], ?_, ?_⟩
        · rw [hput, if_neg (fun e => hapq r hr e.symm)]
          exact h1
        · rw [hget, if_neg (fun e => hxn (by rw [e]; exact hy))]
          exact h2
      · simp at hr
        subst hr
        exact ⟨x, by simp, by rw [hput, if_pos rfl], by rw [hget, if_pos rfl]⟩
    · rw [hws, ← f.c]; cases hDc : D.c <;> simp [hDc]
    · rw [hws]; cases hDc : D.c <;> simp <;> exact f.d
    · rw [hws]
      have hcc := f.c
      cases hDc : D.c
      · rw [hDc] at hcc
        simp [← hcc]
        rw [hlc, ← hcc]
        simp
      · rw [hDc] at hcc
        simp [← hcc]
        rw [hlc, ← hcc]
        simp
        omega
    · intro h0
      have h1 : D.c = true := f.c.trans h0
      have h2 := hc h1
      have h3 := hlk h0
      rw [hlc, if_pos h0] at h2
      simp
      omega
    · rw [hws]
      have := f.n
      simp
      omega
end Go.Proofs.Ytikaeblmjlfgcaa
