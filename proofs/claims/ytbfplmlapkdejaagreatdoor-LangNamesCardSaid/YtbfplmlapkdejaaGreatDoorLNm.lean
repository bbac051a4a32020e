/- LangNames: the walk of the law; by-name template (gen_lnm.py). -/
import Derived.Test.YtbfplmlapkdejaaGreatDoorLChk
import Derived.Test.YtbfplmlapkdejaaGreatDoorLRul
namespace Go.Proofs.YtbfplmlapkdejaaGreatDoor
open Go.Shelf Go.RowKit Go.Lib
set_option linter.unusedVariables false
set_option linter.unusedSimpArgs false

theorem cut_ge (n old : Nat) (e : TypeId) (x : Nat) : n ≤ (Question.appendCap n old e).cut x := by
  simp [Question.cut]

def rF (c : CF) : Nat → Int
  | 0 => countsP c
  | 4 => firstP (chkN (·.nm) limChk) c.ls
  | 7 => firstP (rulChk c) c.us
  | 8 => defP c
  | _ => 0
/-- Check of what has limits and rules alone. -/
theorem chk_few (c : CF) {w : World} (hok : c.Ok w) (hcap : c.Cap) (hn : ∀ x ∈ c.ls, x.nm.size ≤ 65536) (e1 : c.zs = []) (e2 : c.os = []) (e3 : c.ss = []) (e5 : c.ts = []) (e6 : c.ns = []) :
    Calls Tryz.prog 5 #[.agg (cfc c)] w fun e w' => e = .returned (.int .i64 (fromN (rF c) 0 9)) ∧ Below w.heap.size w w' :=
  check_any c (rF c) (fun W _ => ccounts_any c)
    (fun W hW => (czon_any c (fun _ _ => 0) (hok.keep hW) hcap (by simp [e1]) (fun W j x hj => by simp [e1] at hj)).mono fun e w' ⟨he, hb⟩ => ⟨by rw [he, e1]; rfl, hb⟩)
    (fun W hW => (cobj_any c (fun _ _ => 0) (hok.keep hW) hcap (by simp [e2]) (fun W j x hj => by simp [e2] at hj)).mono fun e w' ⟨he, hb⟩ => ⟨by rw [he, e2]; rfl, hb⟩)
    (fun W hW => (csrv_any c (fun _ _ => 0) (hok.keep hW) hcap (by simp [e3]) (fun W j x hj => by simp [e3] at hj)).mono fun e w' ⟨he, hb⟩ => ⟨by rw [he, e3]; rfl, hb⟩)
    (fun W hW => clim_any c limChk (hok.keep hW) hcap hn (fun W j x hj hW => lim1_any x _ _ _ _))
    (fun W hW => (crte_any c (fun _ _ => 0) (hok.keep hW) hcap (fun W j x hj => by simp [e5] at hj)).mono fun e w' ⟨he, hb⟩ => ⟨by rw [he, e5]; rfl, hb⟩)
    (fun W hW => (cnat_any c (fun _ _ => 0) (hok.keep hW) hcap (fun W j x hj => by simp [e6] at hj)).mono fun e w' ⟨he, hb⟩ => ⟨by rw [he, e6]; rfl, hb⟩)
    (fun W hW => crul_any c (rulChk c) (hok.keep hW) hcap (fun W' j x hj hW' hB => rul1_any c _ x _ _ _ _ ((hok.keep hW).keep hW') hB))
    (fun W _ => cdef_any c)

def oneS : ByteArray := { data := #[111, 110, 101] }
def anyS : ByteArray := { data := #[97, 110, 121] }
def lrO (s : ByteArray) : LR := ⟨s, 0, 1, false⟩
def urO (s : ByteArray) : UR := ⟨anyS, anyS, anyS, anyS, anyS, 1, s, false⟩
def cC (s t : ByteArray) (b lc : Nat) : CF :=
  ⟨none, 0, 0, [], none, 0, 0, [], none, 0, 0, [], some ⟨b, 0, none⟩, 2, lc, [lrO s, lrO t], none, 0, 0, [], none, 0, 0, [], none, 0, 0, [], 2⟩
def cD (s : ByteArray) (b lc b2 uc : Nat) : CF :=
  ⟨none, 0, 0, [], none, 0, 0, [], none, 0, 0, [], some ⟨b, 0, none⟩, 1, lc, [lrO oneS], none, 0, 0, [], none, 0, 0, [], some ⟨b2, 0, none⟩, 1, uc, [urO s], 2⟩
def EP (s t : ByteArray) : Int := if nmB s = true then (if nmB t = true then (if eqs s t = true then 63 else 0) else 62) else 62
def FP (s : ByteArray) : Int := if (s.toList.isEmpty || eqs oneS s) = true then 0 else 62

theorem few_c (s t : ByteArray) (b lc : Nat) : fromN (rF (cC s t b lc)) 0 9 = EP s t := by
  have hd : defP (cC s t b lc) = 0 := by show (if defB 2 = true then (0 : Int) else 1) = 0; decide
  have hl : ∀ x l, limChk (lrO x) l = 0 := fun _ _ => rfl
  have hf : firstP (chkN (·.nm) limChk) [lrO s, lrO t] = EP s t := by
    simp only [firstP, firstAt, chkN, hl, EP]
    have e1 : (lrO s).nm = s := rfl
    have e2 : (lrO t).nm = t := rfl
    rw [e1, e2]
    cases nmB s <;> cases nmB t <;> cases hq : eqs s t <;> simp [e1, hq]
  have h4 : rF (cC s t b lc) 4 = EP s t := hf
  have h7 : rF (cC s t b lc) 7 = 0 := rfl
  have h0 : rF (cC s t b lc) 0 = 0 := by show countsP _ = 0; simp [countsP, cC]
  have h8 : rF (cC s t b lc) 8 = 0 := hd
  have hz : rF (cC s t b lc) 1 = 0 ∧ rF (cC s t b lc) 2 = 0 ∧ rF (cC s t b lc) 3 = 0 ∧ rF (cC s t b lc) 5 = 0 ∧ rF (cC s t b lc) 6 = 0 := ⟨rfl, rfl, rfl, rfl, rfl⟩
  simp only [fromN, h0, hz.1, hz.2.1, hz.2.2.1, hz.2.2.2.1, hz.2.2.2.2, h4, h7, h8, Nat.zero_add, Nat.reduceAdd, if_true]
  split <;> simp_all
theorem few_d (s : ByteArray) (b lc b2 uc : Nat) : fromN (rF (cD s b lc b2 uc)) 0 9 = FP s := by
  have h4 : rF (cD s b lc b2 uc) 4 = 0 := by
    show firstP (chkN (·.nm) limChk) [lrO oneS] = 0
    have hk : nmB oneS = true := by decide +kernel
    have hl : ∀ x l, limChk (lrO x) l = 0 := fun _ _ => rfl
    have e1 : (lrO oneS).nm = oneS := rfl
    simp [firstP, firstAt, chkN, e1, hk, hl]
  have ha : isAny anyS = true := by decide +kernel
  have h7 : rF (cD s b lc b2 uc) 7 = FP s := by
    show firstP (rulChk (cD s b lc b2 uc)) [urO s] = FP s
    have hr : rnB (cD s b lc b2 uc) (urO s) = (s.toList.isEmpty || eqs oneS s) := by simp [rnB, zoB, obB, svB, lmB, urO, ha, cD, lrO]
    have hact : actB 1 = true := by decide
    simp only [firstP, firstAt, rulChk, hr, FP]
    cases (s.toList.isEmpty || eqs oneS s) <;> simp [urO, hact]
  have h0 : rF (cD s b lc b2 uc) 0 = 0 := by show countsP _ = 0; simp [countsP, cD]
  have h8 : rF (cD s b lc b2 uc) 8 = 0 := by show (if defB 2 = true then (0 : Int) else 1) = 0; decide
  have hz : rF (cD s b lc b2 uc) 1 = 0 ∧ rF (cD s b lc b2 uc) 2 = 0 ∧ rF (cD s b lc b2 uc) 3 = 0 ∧ rF (cD s b lc b2 uc) 5 = 0 ∧ rF (cD s b lc b2 uc) 6 = 0 := ⟨rfl, rfl, rfl, rfl, rfl⟩
  simp only [fromN, h0, hz.1, hz.2.1, hz.2.2.1, hz.2.2.2.1, hz.2.2.2.2, h4, h7, h8, Nat.zero_add, Nat.reduceAdd, if_true]
  split <;> simp_all
theorem chk_c (s t : ByteArray) (hs : s.size ≤ 4096) (ht : t.size ≤ 4096) (b lc : Nat) (hlc : 2 ≤ lc) {W : World} (h : Sl W 4 lrc (some ⟨b, 0, none⟩) 2 [lrO s, lrO t]) :
    Calls Tryz.prog 5 #[.agg #[.slice none 0 0, .slice none 0 0, .slice none 0 0, .slice (some ⟨b, 0, none⟩) 2 lc, .slice none 0 0, .slice none 0 0, .slice none 0 0, .int .i64 2]] W fun e w' => e = .returned (.int .i64 (EP s t)) ∧ Below W.heap.size W w' := by
  have := chk_few (cC s t b lc) (w := W) ⟨Sl.nil _ _, Sl.nil _ _, Sl.nil _ _, h, Sl.nil _ _, Sl.nil _ _, Sl.nil _ _, fun z hz => by simp [cC] at hz, fun o ho => by simp [cC] at ho, fun n hn => by simp [cC] at hn⟩
    ⟨Nat.le_refl _, Nat.le_refl _, Nat.le_refl _, hlc, Nat.le_refl _, Nat.le_refl _, Nat.le_refl _⟩ (fun x hx => by simp [cC] at hx; rcases hx with rfl | rfl <;> simp [lrO] <;> omega) rfl rfl rfl rfl rfl
  rw [few_c] at this
  exact this
theorem chk_d (s : ByteArray) (b lc b2 uc : Nat) (hlc : 1 ≤ lc) (huc : 1 ≤ uc) {W : World} (h : Sl W 4 lrc (some ⟨b, 0, none⟩) 1 [lrO oneS]) (h2 : Sl W 8 urc (some ⟨b2, 0, none⟩) 1 [urO s]) :
    Calls Tryz.prog 5 #[.agg #[.slice none 0 0, .slice none 0 0, .slice none 0 0, .slice (some ⟨b, 0, none⟩) 1 lc, .slice none 0 0, .slice none 0 0, .slice (some ⟨b2, 0, none⟩) 1 uc, .int .i64 2]] W fun e w' => e = .returned (.int .i64 (FP s)) ∧ Below W.heap.size W w' := by
  have := chk_few (cD s b lc b2 uc) (w := W) ⟨Sl.nil _ _, Sl.nil _ _, Sl.nil _ _, h, Sl.nil _ _, Sl.nil _ _, h2, fun z hz => by simp [cD] at hz, fun o ho => by simp [cD] at ho, fun n hn => by simp [cD] at hn⟩
    ⟨Nat.le_refl _, Nat.le_refl _, Nat.le_refl _, hlc, Nat.le_refl _, Nat.le_refl _, huc⟩ (fun x hx => by simp [cD] at hx; subst hx; decide) rfl rfl rfl rfl rfl
  rw [few_d] at this
  exact this
theorem eqs_iff (a b : ByteArray) : eqs a b = true ↔ a.toList = b.toList := by simp [eqs]

set_option maxHeartbeats 16000000 in
set_option maxRecDepth 100000 in
theorem names_any (s t : ByteArray) {w : World} :
    Calls Tryz.prog 3 #[.string s, .string t] w fun e w' => e = .returned (.bool true) ∧ Below w.heap.size w w' := by
  by_cases hs : s.size ≤ 4096
  · have hsd : decide (4096 < s.size) = false := by simp; omega
    have hsi : ¬ (4096 : Int) < (s.size : Int) := by omega
    by_cases ht : t.size ≤ 4096
    · have htd : decide (4096 < t.size) = false := by simp; omega
      have hti : ¬ (4096 : Int) < (t.size : Int) := by omega
      go_enter Tryz.func3, Tryz.ntmps3
      go_wp2_with fail
      refine calls_gen fun W hW => ?_
      have g1 := cut_ge 2 0 32
      have g2 := cut_ge 1 0 32
      have g3 := cut_ge 1 0 34
      generalize hz1 : (Question.appendCap 2 0 32).cut _ = zc at *
      generalize hz2 : (Question.appendCap 1 0 32).cut _ = zd at *
      generalize hz3 : (Question.appendCap 1 0 34).cut _ = ze at *
      have gc : 2 ≤ zc := by rw [← hz1]; exact g1 _
      have gd : 1 ≤ zd := by rw [← hz2]; exact g2 _
      have ge : 1 ≤ ze := by rw [← hz3]; exact g3 _
      clear hz1 hz2 hz3 g1 g2 g3
      have hd : ∀ (X : World) (k : Nat), X.drew.heap[k]? = X.heap[k]? := fun _ _ => rfl
      have hL : W.heap[w.heap.size + 1 + 1]? = some (.cells (#[.string s, .int .i64 0, .int .i64 1, .bool false, .string t, .int .i64 0, .int .i64 1, .bool false] ++ Builtin.zeroCells #[.string { data := #[] }, .int .i64 0, .int .i64 0, .bool false] (zc - 2)) 32 (0, 0)) := by rw [hW, hd, hd, hd]; repeat (first | exact al_new (by simp <;> omega) _ | refine (al_old (by simp <;> omega) _).trans ?_)
      have hD : W.heap[w.heap.size + 1 + 1 + 1]? = some (.cells #[.slice none 0 0, .slice none 0 0, .slice none 0 0, .slice (some ⟨w.heap.size + 1 + 1 + 1 + 1 + 1, 0, none⟩) 1 zd, .slice none 0 0, .slice none 0 0, .slice (some ⟨w.heap.size + 1 + 1 + 1 + 1 + 1 + 1 + 1, 0, none⟩) 1 ze, .int .i64 2] 30 (0, 0)) := by rw [hW, hd, hd, hd]; repeat (first | exact al_new (by simp <;> omega) _ | refine (al_old (by simp <;> omega) _).trans ?_)
      have hO : W.heap[w.heap.size + 1 + 1 + 1 + 1 + 1]? = some (.cells (#[.string oneS, .int .i64 0, .int .i64 1, .bool false] ++ Builtin.zeroCells #[.string { data := #[] }, .int .i64 0, .int .i64 0, .bool false] (zd - 1)) 32 (0, 0)) := by rw [hW, hd, hd, hd]; repeat (first | exact al_new (by simp <;> omega) _ | refine (al_old (by simp <;> omega) _).trans ?_)
      have hU : W.heap[w.heap.size + 1 + 1 + 1 + 1 + 1 + 1 + 1]? = some (.cells (#[.string anyS, .string anyS, .string anyS, .string anyS, .string anyS, .int .i64 1, .string s, .bool false] ++ Builtin.zeroCells #[.string { data := #[] }, .string { data := #[] }, .string { data := #[] }, .string { data := #[] }, .string { data := #[] }, .int .i64 0, .string { data := #[] }, .bool false] (ze - 1)) 34 (0, 0)) := by rw [hW, hd, hd, hd]; repeat (first | exact al_new (by simp <;> omega) _ | refine (al_old (by simp <;> omega) _).trans ?_)
      have hb : Below w.heap.size w W := by rw [hW]; repeat (first | exact Below.refl _ _ | apply Below.dr | apply Below.al)
      have s1 : Sl W 4 lrc (some ⟨w.heap.size + 1 + 1, 0, none⟩) 2 [lrO s, lrO t] := sl_block (α := LR) (k := 4) (enc := lrc) (l := [lrO s, lrO t]) (fun _ => rfl) hL (by simp) fun j v hv => pre_get (l := [.string s, .int .i64 0, .int .i64 1, .bool false, .string t, .int .i64 0, .int .i64 1, .bool false]) rfl j v hv
      have s2 : Sl W 4 lrc (some ⟨w.heap.size + 1 + 1 + 1 + 1 + 1, 0, none⟩) 1 [lrO oneS] := sl_block (α := LR) (k := 4) (enc := lrc) (l := [lrO oneS]) (fun _ => rfl) hO (by simp) fun j v hv => pre_get (l := [.string oneS, .int .i64 0, .int .i64 1, .bool false]) rfl j v hv
      have s3 : Sl W 8 urc (some ⟨w.heap.size + 1 + 1 + 1 + 1 + 1 + 1 + 1, 0, none⟩) 1 [urO s] := sl_block (α := UR) (k := 8) (enc := urc) (l := [urO s]) (fun _ => rfl) hU (by simp) fun j v hv => pre_get (l := [.string anyS, .string anyS, .string anyS, .string anyS, .string anyS, .int .i64 1, .string s, .bool false]) rfl j v hv
      clear hW hd hL hO hU
      refine (chk_c s t hs ht _ _ gc s1).mono ?_
      rintro e w1 ⟨rfl, hb1⟩
      have hD1 : w1.heap[w.heap.size + 1 + 1 + 1]? = _ := (hb1.block _ (Array.getElem?_eq_some_iff.1 hD).1).trans hD
      have cd := chk_d s _ _ _ _ gd ge (s2.keep hb1) (s3.keep hb1)
      have hbw1 := bel_via hb hb1
      have d0 : w1.cell? ⟨w.heap.size + 1 + 1 + 1, 0, none⟩ = some (.slice none 0 0) := by simp [World.cell?, hD1]
      have d1 : w1.cell? ⟨w.heap.size + 1 + 1 + 1, 1, none⟩ = some (.slice none 0 0) := by simp [World.cell?, hD1]
      have d2 : w1.cell? ⟨w.heap.size + 1 + 1 + 1, 2, none⟩ = some (.slice none 0 0) := by simp [World.cell?, hD1]
      have d3 : w1.cell? ⟨w.heap.size + 1 + 1 + 1, 3, none⟩ = some (.slice (some ⟨w.heap.size + 1 + 1 + 1 + 1 + 1, 0, none⟩) 1 zd) := by simp [World.cell?, hD1]
      have d4 : w1.cell? ⟨w.heap.size + 1 + 1 + 1, 4, none⟩ = some (.slice none 0 0) := by simp [World.cell?, hD1]
      have d5 : w1.cell? ⟨w.heap.size + 1 + 1 + 1, 5, none⟩ = some (.slice none 0 0) := by simp [World.cell?, hD1]
      have d6 : w1.cell? ⟨w.heap.size + 1 + 1 + 1, 6, none⟩ = some (.slice (some ⟨w.heap.size + 1 + 1 + 1 + 1 + 1 + 1 + 1, 0, none⟩) 1 ze) := by simp [World.cell?, hD1]
      have d7 : w1.cell? ⟨w.heap.size + 1 + 1 + 1, 7, none⟩ = some (.int .i64 2) := by simp [World.cell?, hD1]
      clear hD hD1 s1 s2 s3 hb hb1
      obtain ⟨E, hE⟩ : ∃ E, E = EP s t := ⟨_, rfl⟩
      obtain ⟨F, hF⟩ : ∃ F, F = FP s := ⟨_, rfl⟩
      rw [← hE]
      rw [← hF] at cd
      have HE := Lib.hid hE
      have HF := Lib.hid hF
      clear hE hF
      go_wp2_with fail
      refine cd.mono ?_
      rintro e w2 ⟨rfl, hb2⟩
      have hbz := bel_via hbw1 hb2
      clear cd d0 d1 d2 d3 d4 d5 d6 d7 hb2 hbw1 gc gd ge
      have cs := rnameB_any s (by omega)
      have ct := rnameB_any t (by omega)
      clear hsd hsi htd hti
      generalize hNS : nmB s = NS at *
      generalize hNT : nmB t = NT at *
      have HNS := Lib.hid hNS
      have HNT := Lib.hid hNT
      clear hNS hNT
      by_cases h0 : s.toList = []
      · have h1 : s.toList.isEmpty = true := by simp [h0]
        have h2 : (s.toList == []) = true := by simp [h0]
        obtain rfl : F = 0 := by rw [HF.out]; simp [FP, h1]
        obtain rfl : NS = false := by
          have hz : s.size = 0 := by rw [← toList_len, h0]; rfl
          rw [← HNS.out]; simp [nmB, hz]
        obtain rfl : E = 62 := by rw [HE.out]; simp [EP, HNS.out]
        go_wp2_with (go_at_call 6; first | ((with_reducible refine (cs _).mono ?_); rintro e w' ⟨rfl, rfl⟩) | ((with_reducible refine (ct _).mono ?_); rintro e w' ⟨rfl, rfl⟩))
        go_ret
        exact ⟨by simp, hbz⟩
      · have h1 : s.toList.isEmpty = false := by simpa using h0
        have h2 : (s.toList == []) = false := by simp [h0]
        by_cases h3 : s.toList = [111, 110, 101]
        · have h4 : (s.toList == [111, 110, 101]) = true := by simp [h3]
          obtain rfl : F = 0 := by
            have ho : oneS.toList = [111, 110, 101] := by rw [Lib.toList_data]; rfl
            rw [HF.out]; simp [FP, eqs, h3, ho]
          clear h3 h0
          by_cases hst : s.toList = t.toList
          · obtain rfl : s = t := by obtain ⟨⟨a⟩⟩ := s; obtain ⟨⟨b⟩⟩ := t; simp [ByteArray.toList_eq] at hst; subst hst; rfl
            clear hst
            cases NS with
            | false =>
              obtain rfl : E = 62 := by rw [HE.out]; simp [EP, HNS.out]
              go_wp2_with (go_at_call 6; first | ((with_reducible refine (cs _).mono ?_); rintro e w' ⟨rfl, rfl⟩) | ((with_reducible refine (ct _).mono ?_); rintro e w' ⟨rfl, rfl⟩))
              go_ret
              exact ⟨by simp, hbz⟩
            | true =>
              obtain rfl : E = 63 := by rw [HE.out]; simp [EP, HNS.out, eqs]
              go_wp2_with (go_at_call 6; first | ((with_reducible refine (cs _).mono ?_); rintro e w' ⟨rfl, rfl⟩) | ((with_reducible refine (ct _).mono ?_); rintro e w' ⟨rfl, rfl⟩))
              go_ret
              exact ⟨by simp, hbz⟩
          · have hq1 : (s.toList == t.toList) = false := by simp [hst]
            have hq2 : (s.toList != t.toList) = true := by simp [hst]
            have hqe : Hid (eqs s t = false) := hq1
            cases NS with
            | false =>
              obtain rfl : E = 62 := by rw [HE.out]; simp [EP, HNS.out]
              go_wp2_with (go_at_call 6; first | ((with_reducible refine (cs _).mono ?_); rintro e w' ⟨rfl, rfl⟩) | ((with_reducible refine (ct _).mono ?_); rintro e w' ⟨rfl, rfl⟩))
              go_ret
              exact ⟨by simp, hbz⟩
            | true =>
              cases NT with
              | false =>
                obtain rfl : E = 62 := by rw [HE.out]; simp [EP, HNS.out, HNT.out]
                go_wp2_with (go_at_call 6; first | ((with_reducible refine (cs _).mono ?_); rintro e w' ⟨rfl, rfl⟩) | ((with_reducible refine (ct _).mono ?_); rintro e w' ⟨rfl, rfl⟩))
                go_ret
                exact ⟨by simp, hbz⟩
              | true =>
                obtain rfl : E = 0 := by rw [HE.out]; simp [EP, HNS.out, HNT.out, hqe.out]
                go_wp2_with (go_at_call 6; first | ((with_reducible refine (cs _).mono ?_); rintro e w' ⟨rfl, rfl⟩) | ((with_reducible refine (ct _).mono ?_); rintro e w' ⟨rfl, rfl⟩))
                go_ret
                exact ⟨by simp, hbz⟩
        · have h4 : (s.toList == [111, 110, 101]) = false := by simp [h3]
          obtain rfl : F = 62 := by
            have hq : eqs oneS s = false := by
              have ho : oneS.toList = [111, 110, 101] := by rw [Lib.toList_data]; rfl
              simp only [eqs, ho]; simpa using fun h : [111, 110, 101] = s.toList => h3 h.symm
            rw [HF.out]; simp [FP, h1, hq]
          clear h3 h0
          by_cases hst : s.toList = t.toList
          · obtain rfl : s = t := by obtain ⟨⟨a⟩⟩ := s; obtain ⟨⟨b⟩⟩ := t; simp [ByteArray.toList_eq] at hst; subst hst; rfl
            clear hst
            cases NS with
            | false =>
              obtain rfl : E = 62 := by rw [HE.out]; simp [EP, HNS.out]
              go_wp2_with (go_at_call 6; first | ((with_reducible refine (cs _).mono ?_); rintro e w' ⟨rfl, rfl⟩) | ((with_reducible refine (ct _).mono ?_); rintro e w' ⟨rfl, rfl⟩))
              go_ret
              exact ⟨by simp, hbz⟩
            | true =>
              obtain rfl : E = 63 := by rw [HE.out]; simp [EP, HNS.out, eqs]
              go_wp2_with (go_at_call 6; first | ((with_reducible refine (cs _).mono ?_); rintro e w' ⟨rfl, rfl⟩) | ((with_reducible refine (ct _).mono ?_); rintro e w' ⟨rfl, rfl⟩))
              go_ret
              exact ⟨by simp, hbz⟩
          · have hq1 : (s.toList == t.toList) = false := by simp [hst]
            have hq2 : (s.toList != t.toList) = true := by simp [hst]
            have hqe : Hid (eqs s t = false) := hq1
            cases NS with
            | false =>
              obtain rfl : E = 62 := by rw [HE.out]; simp [EP, HNS.out]
              go_wp2_with (go_at_call 6; first | ((with_reducible refine (cs _).mono ?_); rintro e w' ⟨rfl, rfl⟩) | ((with_reducible refine (ct _).mono ?_); rintro e w' ⟨rfl, rfl⟩))
              go_ret
              exact ⟨by simp, hbz⟩
            | true =>
              cases NT with
              | false =>
                obtain rfl : E = 62 := by rw [HE.out]; simp [EP, HNS.out, HNT.out]
                go_wp2_with (go_at_call 6; first | ((with_reducible refine (cs _).mono ?_); rintro e w' ⟨rfl, rfl⟩) | ((with_reducible refine (ct _).mono ?_); rintro e w' ⟨rfl, rfl⟩))
                go_ret
                exact ⟨by simp, hbz⟩
              | true =>
                obtain rfl : E = 0 := by rw [HE.out]; simp [EP, HNS.out, HNT.out, hqe.out]
                go_wp2_with (go_at_call 6; first | ((with_reducible refine (cs _).mono ?_); rintro e w' ⟨rfl, rfl⟩) | ((with_reducible refine (ct _).mono ?_); rintro e w' ⟨rfl, rfl⟩))
                go_ret
                exact ⟨by simp, hbz⟩
    · have htd : decide (4096 < t.size) = true := by simp; omega
      have hti : (4096 : Int) < (t.size : Int) := by omega
      go_enter Tryz.func3, Tryz.ntmps3
      go_wp2
      go_ret
      exact ⟨rfl, Below.refl _ _⟩
  · have hsd : decide (4096 < s.size) = true := by simp; omega
    have hsi : (4096 : Int) < (s.size : Int) := by omega
    go_enter Tryz.func3, Tryz.ntmps3
    go_wp2
    go_ret
    exact ⟨rfl, Below.refl _ _⟩
end Go.Proofs.YtbfplmlapkdejaaGreatDoor
