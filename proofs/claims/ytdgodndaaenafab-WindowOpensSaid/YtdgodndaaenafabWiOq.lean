/- How a connection opens, in plain words; by-name template (gen_wi2.py). -/
import Derived.Test.YtdgodndaaenafabWiQ
namespace Go.Proofs.Ytdgodndaaenafab
open Go.RowKit Go.Lib Go.Sort
set_option linter.unusedVariables false
set_option linter.unusedSimpArgs false

def mkT (sq ak fl wi : Int) : TR := ⟨0, 0, sq, ak, fl, wi, 0, 0, 0, 0⟩
theorem lessP_self (a : Int) : lessP a a = false := by unfold lessP; simp
theorem less_back {e w : Int} (h0 : 0 ≤ e) (h1 : e < 4294967296) (w0 : 0 ≤ w) (w1 : w < 65536) : lessP ((e + w) % 4294967296) e = false := by
  unfold lessP
  rw [Bool.and_eq_false_iff, decide_eq_false_iff_not, decide_eq_false_iff_not]
  omega
theorem less_old {e : Int} (h0 : 0 ≤ e) (h1 : e < 4294967296) : lessP e ((e - 65536) % 4294967296) = false := by
  unfold lessP
  rw [Bool.and_eq_false_iff, decide_eq_false_iff_not, decide_eq_false_iff_not]
  omega
theorem opens_head {a b w1 w2 : Int} (ha0 : 0 ≤ a) (ha1 : a < 4294967296) (hb0 : 0 ≤ b) (hb1 : b < 4294967296) (p0 : 0 ≤ w1) (p1 : w1 < 65536) (q0 : 0 ≤ w2) (q1 : w2 < 65536) :
    ∃ C X Y : CN, openP (mkT a 0 2 w1) = (C, true) ∧ C.st = 1 ∧ nextP C true (mkT b ((a + 1) % 4294967296) 18 w2) = (X, true) ∧ X.st = 2 ∧ nextP X false (mkT ((a + 1) % 4294967296) ((b + 1) % 4294967296) 16 w1) = (Y, true) ∧ Y.st = 3 := by
  obtain ⟨T1, e1⟩ : ∃ x, x = mkT a 0 2 w1 := ⟨_, rfl⟩
  obtain ⟨T2, e2⟩ : ∃ x, x = mkT b ((a + 1) % 4294967296) 18 w2 := ⟨_, rfl⟩
  obtain ⟨T3, e3⟩ : ∃ x, x = mkT ((a + 1) % 4294967296) ((b + 1) % 4294967296) 16 w1 := ⟨_, rfl⟩
  rw [← e1, ← e2, ← e3]
  have f1 : hb T1 1 = false ∧ hb T1 2 = true ∧ hb T1 4 = false ∧ hb T1 16 = false ∧ hb T1 5 = false := by subst e1; exact ⟨show (bits .and .i64 (2 : Int) 1 != 0) = false by decide, show (bits .and .i64 (2 : Int) 2 != 0) = true by decide, show (bits .and .i64 (2 : Int) 4 != 0) = false by decide, show (bits .and .i64 (2 : Int) 16 != 0) = false by decide, show (bits .and .i64 (2 : Int) 5 != 0) = false by decide⟩
  have f2 : hb T2 1 = false ∧ hb T2 2 = true ∧ hb T2 4 = false ∧ hb T2 16 = true ∧ hb T2 5 = false := by subst e2; exact ⟨show (bits .and .i64 (18 : Int) 1 != 0) = false by decide, show (bits .and .i64 (18 : Int) 2 != 0) = true by decide, show (bits .and .i64 (18 : Int) 4 != 0) = false by decide, show (bits .and .i64 (18 : Int) 16 != 0) = true by decide, show (bits .and .i64 (18 : Int) 5 != 0) = false by decide⟩
  have f3 : hb T3 1 = false ∧ hb T3 2 = false ∧ hb T3 4 = false ∧ hb T3 16 = true ∧ hb T3 5 = false := by subst e3; exact ⟨show (bits .and .i64 (16 : Int) 1 != 0) = false by decide, show (bits .and .i64 (16 : Int) 2 != 0) = false by decide, show (bits .and .i64 (16 : Int) 4 != 0) = false by decide, show (bits .and .i64 (16 : Int) 16 != 0) = true by decide, show (bits .and .i64 (16 : Int) 5 != 0) = false by decide⟩
  have d1 : T1.da = 0 ∧ T1.sq = a ∧ T1.wi = w1 := by subst e1; exact ⟨rfl, rfl, rfl⟩
  have d2 : T2.da = 0 ∧ T2.sq = b ∧ T2.wi = w2 ∧ T2.ak = (a + 1) % 4294967296 := by subst e2; exact ⟨rfl, rfl, rfl, rfl⟩
  have d3 : T3.da = 0 ∧ T3.sq = (a + 1) % 4294967296 ∧ T3.wi = w1 ∧ T3.ak = (b + 1) % 4294967296 := by subst e3; exact ⟨rfl, rfl, rfl, rfl⟩
  clear e1 e2 e3
  have E1 : endP T1 = (a + 1) % 4294967296 := by
    unfold endP e1P e0P
    rw [f1.1, f1.2.1, d1.1, d1.2.1]
    simp only [Bool.false_eq_true, if_false, if_true]
    omega
  have E2 : endP T2 = (b + 1) % 4294967296 := by
    unfold endP e1P e0P
    rw [f2.1, f2.2.1, d2.1, d2.2.1]
    simp only [Bool.false_eq_true, if_false, if_true]
    omega
  have E3 : endP T3 = (a + 1) % 4294967296 := by
    unfold endP e1P e0P
    rw [f3.1, f3.2.1, d3.1, d3.2.1]
    simp only [Bool.false_eq_true, if_false]
    omega
  have o1 : opensP T1 = true := by unfold opensP; rw [f1.1, f1.2.1, f1.2.2.1, f1.2.2.2.1, d1.1]; rfl
  have hA : (firstP T1).e = (a + 1) % 4294967296 := E1
  have hAm : (firstP T1).m = ((a + 1) % 4294967296 + w1) % 4294967296 := by show (endP T1 + T1.wi) % 4294967296 = _; rw [E1, d1.2.2]
  refine ⟨⟨1, firstP T1, zsd⟩, ⟨2, allowP (firstP T1) T2, firstP T2⟩, ⟨3, sentP (allowP (firstP T1) T2) T3, allowP (firstP T2) T3⟩, ?_, rfl, ?_, rfl, ?_, rfl⟩
  · unfold openP; rw [if_pos o1]
  · rw [nextP_b, st_syn (by unfold strayP; rw [f2.2.2.2.1]; show (decide ((1 : Int) < 1) || decide ((5 : Int) ≤ 1) || (if true = true then (firstP T1).seen && lessP (firstP T1).e T2.ak else _)) = false; rw [if_pos rfl, hA, d2.2.2.2, lessP_self]; simp) f2.2.1 rfl (by
      unfold bareP acksP
      rw [f2.2.2.2.2, d2.1, f2.2.2.2.1, d2.2.2.2]
      show (true && true && true && (true && (a + 1) % 4294967296 == (firstP T1).e)) = true
      rw [hA]; simp)]
  · have hal : allowP (firstP T1) T2 = ⟨true, (a + 1) % 4294967296, grP (((a + 1) % 4294967296 + w1) % 4294967296) (((a + 1) % 4294967296 + w2) % 4294967296), false⟩ := by
      unfold allowP
      rw [if_pos (by rw [f2.2.2.2.1]; rfl), hA, hAm, d2.2.2.1, d2.2.2.2]
      rfl
    have hm : lessP (allowP (firstP T1) T2).m (endP T3) = false := by
      rw [hal, E3]
      show lessP (grP _ _) _ = false
      unfold grP
      split
      · exact less_back (by omega) (by omega) q0 q1
      · exact less_back (by omega) (by omega) p0 p1
    have ho : lessP T3.sq (((allowP (firstP T1) T2).e - 65536) % 4294967296) = false := by
      rw [hal, d3.2.1]
      exact less_old (by omega) (by omega)
    have hz : stateP 2 (sentP (allowP (firstP T1) T2) T3).fin (allowP (firstP T2) T3).fin (!false) T3 = 3 := by
      have q1 : (sentP (allowP (firstP T1) T2) T3).fin = false := by
        show ((allowP (firstP T1) T2).fin || hb T3 1) = false
        rw [hal, f3.1]; rfl
      have q2 : (allowP (firstP T2) T3).fin = false := by unfold allowP; split <;> rfl
      unfold stateP
      rw [q1, q2, f3.2.2.1, f3.2.2.2.1]
      rfl
    rw [nextP_f, st_in (by
      unfold strayP
      rw [f3.2.2.2.1]
      show (decide ((2 : Int) < 1) || decide ((5 : Int) ≤ 2) || (if true = true then (firstP T2).seen && lessP (firstP T2).e T3.ak else _)) = false
      rw [if_pos rfl, show (firstP T2).e = (b + 1) % 4294967296 from E2, d3.2.2.2, lessP_self]; simp) f3.2.1 (by rw [hal]) (by rw [hm, ho]; rfl)]
    rw [hz]
end Go.Proofs.Ytdgodndaaenafab
