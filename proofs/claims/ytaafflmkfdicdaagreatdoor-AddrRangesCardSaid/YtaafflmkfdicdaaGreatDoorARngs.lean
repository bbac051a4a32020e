/- AddrRanges' walk; by-name template (gen_arngs.py). -/
import Derived.Test.YtaafflmkfdicdaaGreatDoorARAll
import Derived.Test.YtaafflmkfdicdaaGreatDoorARQ
namespace Go.Proofs.YtaafflmkfdicdaaGreatDoor
open Go.RowKit Go.Sort
set_option linter.unusedVariables false
set_option linter.unusedSimpArgs false

def rtxtL (fh fl th tl : Nat) : List UInt8 :=
  if fh = th ∧ fl = tl then printA fh fl
  else match (List.range 129).find? (fun n : Nat => decide (preV (fh : Int) (fl : Int) (n : Int) = some ((th : Int), (tl : Int)))) with
    | some n => printA fh fl ++ 47 :: digs 10 n
    | none => printA fh fl ++ 45 :: printA th tl
theorem pre_same (fh fl : Nat) : preV (fh : Int) (fl : Int) (128 - (ahead fh fl : Int)) = some ((fh : Int), (fl : Int)) := by
  have hab : ahead (fh : Int) fl ≤ 96 := by unfold ahead; split <;> omega
  have hk : ahead (fh : Int) fl + (128 - (ahead (fh : Int) fl : Int)).toNat = 128 := by omega
  unfold preV
  rw [if_neg (by omega), hk]
  have p1 : phi 128 = 1 := rfl
  have p2 : plo 128 = 1 := rfl
  rw [p1, p2]
  simp
theorem rtxt_of {fh fl th tl : Nat} (h0 : fh < 18446744073709551616) (h1 : fl < 18446744073709551616) (h2 : th < 18446744073709551616) (h3 : tl < 18446744073709551616) {S : ByteArray}
    (h : (fh = th ∧ fl = tl ∧ S.data.toList = printA fh fl) ∨ (∃ n : Nat, n ≤ 128 ∧ preV fh fl (n : Int) = some ((th : Int), (tl : Int)) ∧ S.data.toList = printA fh fl ++ 47 :: digs 10 n ∧ ¬ (fh = th ∧ fl = tl)) ∨ (S.data.toList = printA fh fl ++ 45 :: printA th tl ∧ ∀ m : Int, preV (fh : Int) (fl : Int) m ≠ some ((th : Int), (tl : Int)))) :
    (⟨(rtxtL fh fl th tl).toArray⟩ : ByteArray) = S := by
  apply bytes_of
  unfold rtxtL
  rcases h with ⟨e1, e2, e3⟩ | ⟨n, hn, hv, e3, hne⟩ | ⟨e3, hne⟩
  · rw [if_pos ⟨e1, e2⟩, e3]
  · rw [if_neg hne, e3]
    cases hf : (List.range 129).find? (fun n : Nat => decide (preV (fh : Int) (fl : Int) (n : Int) = some ((th : Int), (tl : Int)))) with
    | none =>
      have := List.find?_eq_none.1 hf n (by simp; omega)
      simp [hv] at this
    | some k =>
      have hk := List.find?_some hf
      simp only [decide_eq_true_eq] at hk
      have a1 := pre_exact fh fl th tl h0 h1 h2 h3 _ hk
      have a2 := pre_exact fh fl th tl h0 h1 h2 h3 _ hv
      rw [show k = n by omega]
  · rw [if_neg (fun ⟨a, b⟩ => by subst a; subst b; exact hne _ (pre_same fh fl)), e3]
    cases hf : (List.range 129).find? (fun n : Nat => decide (preV (fh : Int) (fl : Int) (n : Int) = some ((th : Int), (tl : Int)))) with
    | none => rfl
    | some k =>
      have hk := List.find?_some hf
      simp only [decide_eq_true_eq] at hk
      exact absurd hk (hne _)
theorem two_texts (fh fl th tl : Nat) (h0 : fh < 18446744073709551616) (h1 : fl < 18446744073709551616) (h2 : th < 18446744073709551616) (h3 : tl < 18446744073709551616) :
    ∃ (S : ByteArray) (E : Int), (∀ W : World, Glob W → Calls Tryz.prog 8 #[.agg #[.int .u64 (fh : Nat), .int .u64 (fl : Nat), .int .u64 (th : Nat), .int .u64 (tl : Nat)]] W fun e w' => e = .returned (.tuple #[.string S, .int .i64 E]) ∧ Below W.heap.size W w') ∧
      (∀ W : World, Calls Tryz.prog 9 #[.agg #[.int .u64 (fh : Nat), .int .u64 (fl : Nat), .int .u64 (th : Nat), .int .u64 (tl : Nat)]] W fun e w' => e = .returned (.tuple #[.string S, .int .i64 E]) ∧ Below W.heap.size W w') := by
  by_cases hc : 0 < cmpA (fh : Int) fl th tl ∨ is4I (fh : Int) fl ≠ is4I (th : Int) tl
  · exact ⟨_, _, fun W _ => prange_bad fh fl th tl h0 h1 h2 h3 hc W, fun W => rprange_bad fh fl th tl h0 h1 h2 h3 hc W⟩
  · have hc1 : cmpA (fh : Int) fl th tl ≤ 0 := by
      by_cases h : 0 < cmpA (fh : Int) fl th tl
      · exact absurd (Or.inl h) hc
      · omega
    have hc2 : is4I (fh : Int) fl = is4I (th : Int) tl := by
      by_cases h : is4I (fh : Int) fl = is4I (th : Int) tl
      · exact h
      · exact absurd (Or.inr h) hc
    exact ⟨⟨(rtxtL fh fl th tl).toArray⟩, 0,
      fun W hg => (prange_ok fh fl th tl h0 h1 h2 h3 hc1 hc2 hg).mono fun e w' ⟨S, he, hb, hS⟩ => ⟨by rw [he, rtxt_of h0 h1 h2 h3 hS], hb⟩,
      fun W => (rprange_ok fh fl th tl h0 h1 h2 h3 hc1 hc2 W).mono fun e w' ⟨S, he, hb, hS⟩ => ⟨by rw [he, rtxt_of h0 h1 h2 h3 hS], hb⟩⟩

theorem ratmost_any (ah al bh bl : Int) (w : World) : Calls Tryz.prog 31 #[.agg #[.int .u64 ah, .int .u64 al], .agg #[.int .u64 bh, .int .u64 bl]] w fun e w' => e = .returned (.bool (decide (cmpA ah al bh bl ≤ 0))) ∧ Below w.heap.size w w' := by
  have cc := rcmp_any ah al bh bl
  generalize cmpA ah al bh bl = c at cc
  by_cases h : c ≤ 0
  · have e : decide (c ≤ 0) = true := by simp [h]
    rw [e]
    go_enter Tryz.func31, Tryz.ntmps31
    go_wp2_with (go_at_call 36; refine (cc _).mono ?_; rintro e w2 ⟨rfl, hb2⟩)
    go_ret
    exact ⟨by simp [h], bel_via (Below.al (Below.al (Below.refl _ _) _) _) hb2⟩
  · have e : decide (c ≤ 0) = false := by simp [h]
    rw [e]
    go_enter Tryz.func31, Tryz.ntmps31
    go_wp2_with (go_at_call 36; refine (cc _).mono ?_; rintro e w2 ⟨rfl, hb2⟩)
    go_ret
    exact ⟨by simp [h], bel_via (Below.al (Below.al (Below.refl _ _) _) _) hb2⟩
theorem rhas_any (fh fl th tl ah al : Int) (w : World) : Calls Tryz.prog 11 #[.agg #[.int .u64 fh, .int .u64 fl, .int .u64 th, .int .u64 tl], .agg #[.int .u64 ah, .int .u64 al]] w fun e w' => e = .returned (.bool (hasI fh fl th tl ah al)) ∧ Below w.heap.size w w' := by
  unfold hasI
  have c1 := ratmost_any fh fl ah al
  have c2 := ratmost_any ah al th tl
  generalize decide (cmpA fh fl ah al ≤ 0) = X at *
  generalize decide (cmpA ah al th tl ≤ 0) = Y at *
  cases X with
  | true =>
    go_enter Tryz.func11, Tryz.ntmps11
    go_wp2_with fail
    obtain ⟨w0, hw0⟩ : ∃ w0, w0 = (w.alloc (Obj.cells #[Value.int IntKind.u64 fh, Value.int IntKind.u64 fl, Value.int IntKind.u64 th, Value.int IntKind.u64 tl] 26)).alloc (Obj.cells #[Value.int IntKind.u64 ah, Value.int IntKind.u64 al] 24) := ⟨_, rfl⟩
    have b0 : Below w.heap.size w w0 := by rw [hw0]; repeat (first | exact Below.refl _ _ | apply Below.dr | apply Below.al)
    have hC : ∀ w', Below w0.heap.size w0 w' → w'.cell? ⟨w.heap.size, 2, none⟩ = some (.int .u64 th) ∧ w'.cell? ⟨w.heap.size, 3, none⟩ = some (.int .u64 tl) ∧ w'.cell? ⟨w.heap.size + 1, 0, none⟩ = some (.int .u64 ah) ∧ w'.cell? ⟨w.heap.size + 1, 1, none⟩ = some (.int .u64 al) := by
      intro w' h
      refine ⟨keepc h ?_, keepc h ?_, keepc h ?_, keepc h ?_⟩ <;> (rw [hw0]; simp [go_sem, World.cell?_alloc_past])
    rw [← hw0]
    clear hw0
    refine (kept (c1 _) (Below.refl _ _) hC).mono ?_
    rintro e w1 ⟨rfl, ⟨k0, k1, k2, k3⟩, hb⟩
    go_wp2_with (go_at_call 31; refine (kept (c2 _) (by assumption) hC).mono ?_; rintro e w2 ⟨rfl, ⟨k0, k1, k2, k3⟩, hb⟩)
    go_ret
    exact ⟨by simp, bel_via b0 (by assumption)⟩
  | false =>
    go_enter Tryz.func11, Tryz.ntmps11
    go_wp2_with (go_at_call 31; refine (c1 _).mono ?_; rintro e w1 ⟨rfl, hb⟩)
    go_ret
    exact ⟨by simp, bel_via (Below.al (Below.al (Below.refl _ _) _) _) hb⟩

set_option maxHeartbeats 4000000 in
set_option maxRecDepth 100000 in
theorem rngs_mid (fh fl th tl ah al : Nat) (h0 : fh < 18446744073709551616) (h1 : fl < 18446744073709551616) (h2 : th < 18446744073709551616) (h3 : tl < 18446744073709551616) (h4 : ah < 18446744073709551616) (h5 : al < 18446744073709551616) (n : Int) (hn0 : -9223372036854775808 ≤ n) (hn1 : n < 9223372036854775808) (s : ByteArray) (hs : s.size ≤ 4096) {w : World} (hG : Glob w) :
    Calls Tryz.prog 3 #[.agg #[.int .u64 (fh : Nat), .int .u64 (fl : Nat), .int .u64 (th : Nat), .int .u64 (tl : Nat)], .agg #[.int .u64 (ah : Nat), .int .u64 (al : Nat)], .int .i64 n, .string s] w (LawPostD w) := by
  have hsi : ¬ (4096 : Int) < (s.size : Int) := by omega
  have hsd : decide (4096 < s.size) = false := by simp; omega
  have f4 : (ah : Int) < 18446744073709551616 := by omega
  have f5 : (al : Int) < 18446744073709551616 := by omega
  have f0 : (fh : Int) < 18446744073709551616 := by omega
  have f1 : (fl : Int) < 18446744073709551616 := by omega
  have f2 : (th : Int) < 18446744073709551616 := by omega
  have f3 : (tl : Int) < 18446744073709551616 := by omega
  have c1 := pre_any (ah : Int) (al : Int) n ⟨by omega, by omega⟩ ⟨by omega, by omega⟩ hn0 hn1
  have c2 := rpre_any (ah : Int) (al : Int) n ⟨by omega, by omega⟩ ⟨by omega, by omega⟩ hn0 hn1
  obtain ⟨p0, p1, p2, p3, pe, hp⟩ := preT_quad (ah : Int) (al : Int) n
  rw [hp] at c1 c2
  have c3 := fun (W : World) (hg : Glob W) => prngA_any s (by omega) hg
  have c4 := fun (W : World) => rprngA_any s (by omega) W
  obtain ⟨q0, q1, q2, q3, qe, hq⟩ := rngT_quad s.data.toList
  rw [hq] at c3 c4
  simp only [quadT] at c1 c2 c3 c4
  obtain ⟨S, E, c5, c6⟩ := two_texts fh fl th tl h0 h1 h2 h3
  have c7 := has_any (fh : Int) (fl : Int) (th : Int) (tl : Int) (ah : Int) (al : Int)
  have c8 := rhas_any (fh : Int) (fl : Int) (th : Int) (tl : Int) (ah : Int) (al : Int)
  generalize hasI (fh : Int) (fl : Int) (th : Int) (tl : Int) (ah : Int) (al : Int) = HB at *
  clear hp hq hn0 hn1 h0 h1 h2 h3 h4 h5
  have e0 : (World.alloc (w.alloc (.cells #[.int .u64 (fh : Nat), .int .u64 (fl : Nat), .int .u64 (th : Nat), .int .u64 (tl : Nat)] 26)) (.cells #[.int .u64 (ah : Nat), .int .u64 (al : Nat)] 24)).heap[w.heap.size]? = some (.cells #[.int .u64 (fh : Nat), .int .u64 (fl : Nat), .int .u64 (th : Nat), .int .u64 (tl : Nat)] 26) := by rw [al_old (by simp)]; exact al_new rfl _
  have e1 : (World.alloc (w.alloc (.cells #[.int .u64 (fh : Nat), .int .u64 (fl : Nat), .int .u64 (th : Nat), .int .u64 (tl : Nat)] 26)) (.cells #[.int .u64 (ah : Nat), .int .u64 (al : Nat)] 24)).heap[w.heap.size + 1]? = some (.cells #[.int .u64 (ah : Nat), .int .u64 (al : Nat)] 24) := al_new (by simp) _
  have bz : Below w.heap.size w (World.alloc (w.alloc (.cells #[.int .u64 (fh : Nat), .int .u64 (fl : Nat), .int .u64 (th : Nat), .int .u64 (tl : Nat)] 26)) (.cells #[.int .u64 (ah : Nat), .int .u64 (al : Nat)] 24)) := Below.al (Below.al (Below.refl _ _) _) _
  unfold LawPostD
  go_enter Tryz.func3, Tryz.ntmps3
  go_wp2_with (go_at_call 4; refine (c1 _).mono ?_; rintro e w1 ⟨rfl, hb1⟩; refine Hid.out ?_)
  have bw1 := bel_via bz hb1
  have R1 : w1.heap[w.heap.size]? = some (.cells #[.int .u64 (fh : Nat), .int .u64 (fl : Nat), .int .u64 (th : Nat), .int .u64 (tl : Nat)] 26) := by rw [hb1.block _ (by simp; omega)]; exact e0
  have A1 : w1.heap[w.heap.size + 1]? = some (.cells #[.int .u64 (ah : Nat), .int .u64 (al : Nat)] 24) := by rw [hb1.block _ (by simp)]; exact e1
  have lr1 : w.heap.size < w1.heap.size := (Array.getElem?_eq_some_iff.1 R1).1
  have la1 : w.heap.size + 1 < w1.heap.size := (Array.getElem?_eq_some_iff.1 A1).1
  obtain ⟨x0, x1, _, _⟩ := cells_of A1
  have y0 := fun o => keepc (Below.al (Below.refl _ w1) o) x0
  have y1 := fun o => keepc (Below.al (Below.refl _ w1) o) x1
  clear hb1 c1 x0 x1 e0 e1 bz
  refine Lib.hid ?_
  go_wp2_with (go_at_call 5; refine (c2 _).mono ?_; rintro e w2 ⟨rfl, hb2⟩; refine Hid.out ?_)
  have bw2 := bel_via (Below.al bw1 _) hb2
  have P2 : w2.heap[w1.heap.size]? = some (.cells #[.int .u64 p0, .int .u64 p1, .int .u64 p2, .int .u64 p3] 26) := by rw [hb2.block _ (by simp)]; exact al_new rfl _
  have R2 : w2.heap[w.heap.size]? = some (.cells #[.int .u64 (fh : Nat), .int .u64 (fl : Nat), .int .u64 (th : Nat), .int .u64 (tl : Nat)] 26) := by rw [hb2.block _ (by simp; omega), al_old lr1]; exact R1
  have A2 : w2.heap[w.heap.size + 1]? = some (.cells #[.int .u64 (ah : Nat), .int .u64 (al : Nat)] 24) := by rw [hb2.block _ (by simp; omega), al_old la1]; exact A1
  obtain ⟨BP, hBP⟩ : ∃ b, b = w1.heap.size := ⟨_, rfl⟩
  rw [← hBP] at P2
  rw [← hBP]
  have lp2 : BP < w2.heap.size := (Array.getElem?_eq_some_iff.1 P2).1
  have lr2 : w.heap.size < w2.heap.size := (Array.getElem?_eq_some_iff.1 R2).1
  have la2 : w.heap.size + 1 < w2.heap.size := (Array.getElem?_eq_some_iff.1 A2).1
  clear hb2 c2 y0 y1 R1 A1 lr1 la1 bw1 hBP
  refine Lib.hid ?_
  go_wp2_with (go_at_call 6; refine (c3 _ (hG.on (Below.al bw2 _))).mono ?_; rintro e w3 ⟨rfl, hb3⟩; refine Hid.out ?_)
  have bw3 := bel_via (Below.al bw2 _) hb3
  have Q3 : w3.heap[w2.heap.size]? = some (.cells #[.int .u64 p0, .int .u64 p1, .int .u64 p2, .int .u64 p3] 26) := by rw [hb3.block _ (by simp)]; exact al_new rfl _
  have R3 : w3.heap[w.heap.size]? = some (.cells #[.int .u64 (fh : Nat), .int .u64 (fl : Nat), .int .u64 (th : Nat), .int .u64 (tl : Nat)] 26) := by rw [hb3.block _ (by simp; omega), al_old lr2]; exact R2
  have A3 : w3.heap[w.heap.size + 1]? = some (.cells #[.int .u64 (ah : Nat), .int .u64 (al : Nat)] 24) := by rw [hb3.block _ (by simp; omega), al_old la2]; exact A2
  have P3 : w3.heap[BP]? = some (.cells #[.int .u64 p0, .int .u64 p1, .int .u64 p2, .int .u64 p3] 26) := by rw [hb3.block _ (by simp; omega), al_old lp2]; exact P2
  obtain ⟨BQ, hBQ⟩ : ∃ b, b = w2.heap.size := ⟨_, rfl⟩
  rw [← hBQ] at Q3
  rw [← hBQ]
  have lr3 : w.heap.size < w3.heap.size := (Array.getElem?_eq_some_iff.1 R3).1
  have la3 : w.heap.size + 1 < w3.heap.size := (Array.getElem?_eq_some_iff.1 A3).1
  have lp3 : BP < w3.heap.size := (Array.getElem?_eq_some_iff.1 P3).1
  have lq3 : BQ < w3.heap.size := (Array.getElem?_eq_some_iff.1 Q3).1
  clear hb3 bw2 hBQ R2 lr2 A2 la2 P2 lp2
  clear c3
  refine Lib.hid ?_
  go_wp2_with (go_at_call 7; refine (c4 _).mono ?_; rintro e w4 ⟨rfl, hb4⟩; refine Hid.out ?_)
  have bw4 := bel_via (Below.al bw3 _) hb4
  have U4 : w4.heap[w3.heap.size]? = some (.cells #[.int .u64 q0, .int .u64 q1, .int .u64 q2, .int .u64 q3] 26) := by rw [hb4.block _ (by simp)]; exact al_new rfl _
  have R4 : w4.heap[w.heap.size]? = some (.cells #[.int .u64 (fh : Nat), .int .u64 (fl : Nat), .int .u64 (th : Nat), .int .u64 (tl : Nat)] 26) := by rw [hb4.block _ (by simp; omega), al_old lr3]; exact R3
  have A4 : w4.heap[w.heap.size + 1]? = some (.cells #[.int .u64 (ah : Nat), .int .u64 (al : Nat)] 24) := by rw [hb4.block _ (by simp; omega), al_old la3]; exact A3
  have P4 : w4.heap[BP]? = some (.cells #[.int .u64 p0, .int .u64 p1, .int .u64 p2, .int .u64 p3] 26) := by rw [hb4.block _ (by simp; omega), al_old lp3]; exact P3
  have Q4 : w4.heap[BQ]? = some (.cells #[.int .u64 p0, .int .u64 p1, .int .u64 p2, .int .u64 p3] 26) := by rw [hb4.block _ (by simp; omega), al_old lq3]; exact Q3
  obtain ⟨BU, hBU⟩ : ∃ b, b = w3.heap.size := ⟨_, rfl⟩
  rw [← hBU] at U4
  rw [← hBU]
  have lr4 : w.heap.size < w4.heap.size := (Array.getElem?_eq_some_iff.1 R4).1
  have la4 : w.heap.size + 1 < w4.heap.size := (Array.getElem?_eq_some_iff.1 A4).1
  have lp4 : BP < w4.heap.size := (Array.getElem?_eq_some_iff.1 P4).1
  have lq4 : BQ < w4.heap.size := (Array.getElem?_eq_some_iff.1 Q4).1
  have lu4 : BU < w4.heap.size := (Array.getElem?_eq_some_iff.1 U4).1
  clear hb4 bw3 hBU R3 lr3 A3 la3 P3 lp3 Q3 lq3
  obtain ⟨z0, z1, z2, z3⟩ := rcells_of R4
  have t0 := fun o => keepc (Below.al (Below.refl _ w4) o) z0
  have t1 := fun o => keepc (Below.al (Below.refl _ w4) o) z1
  have t2 := fun o => keepc (Below.al (Below.refl _ w4) o) z2
  have t3 := fun o => keepc (Below.al (Below.refl _ w4) o) z3
  clear c4 z0 z1 z2 z3
  refine Lib.hid ?_
  go_wp2_with (go_at_call 8; refine (c5 _ (hG.on (Below.al bw4 _))).mono ?_; rintro e w5 ⟨rfl, hb5⟩; refine Hid.out ?_)
  have bw5 := bel_via (Below.al bw4 _) hb5
  have V5 : w5.heap[w4.heap.size]? = some (.cells #[.int .u64 q0, .int .u64 q1, .int .u64 q2, .int .u64 q3] 26) := by rw [hb5.block _ (by simp)]; exact al_new rfl _
  have R5 : w5.heap[w.heap.size]? = some (.cells #[.int .u64 (fh : Nat), .int .u64 (fl : Nat), .int .u64 (th : Nat), .int .u64 (tl : Nat)] 26) := by rw [hb5.block _ (by simp; omega), al_old lr4]; exact R4
  have A5 : w5.heap[w.heap.size + 1]? = some (.cells #[.int .u64 (ah : Nat), .int .u64 (al : Nat)] 24) := by rw [hb5.block _ (by simp; omega), al_old la4]; exact A4
  have P5 : w5.heap[BP]? = some (.cells #[.int .u64 p0, .int .u64 p1, .int .u64 p2, .int .u64 p3] 26) := by rw [hb5.block _ (by simp; omega), al_old lp4]; exact P4
  have Q5 : w5.heap[BQ]? = some (.cells #[.int .u64 p0, .int .u64 p1, .int .u64 p2, .int .u64 p3] 26) := by rw [hb5.block _ (by simp; omega), al_old lq4]; exact Q4
  have U5 : w5.heap[BU]? = some (.cells #[.int .u64 q0, .int .u64 q1, .int .u64 q2, .int .u64 q3] 26) := by rw [hb5.block _ (by simp; omega), al_old lu4]; exact U4
  obtain ⟨BV, hBV⟩ : ∃ b, b = w4.heap.size := ⟨_, rfl⟩
  rw [← hBV] at V5
  rw [← hBV]
  have lr5 : w.heap.size < w5.heap.size := (Array.getElem?_eq_some_iff.1 R5).1
  have la5 : w.heap.size + 1 < w5.heap.size := (Array.getElem?_eq_some_iff.1 A5).1
  have lp5 : BP < w5.heap.size := (Array.getElem?_eq_some_iff.1 P5).1
  have lq5 : BQ < w5.heap.size := (Array.getElem?_eq_some_iff.1 Q5).1
  have lu5 : BU < w5.heap.size := (Array.getElem?_eq_some_iff.1 U5).1
  have lv5 : BV < w5.heap.size := (Array.getElem?_eq_some_iff.1 V5).1
  clear hb5 bw4 hBV R4 lr4 A4 la4 P4 lp4 Q4 lq4 U4 lu4
  obtain ⟨z0, z1, z2, z3⟩ := rcells_of R5
  clear c5 t0 t1 t2 t3
  refine Lib.hid ?_
  go_wp2_with (go_at_call 9; refine (c6 _).mono ?_; rintro e w6 ⟨rfl, hb6⟩; refine Hid.out ?_)
  have bw6 := bel_via bw5 hb6
  have R6 : w6.heap[w.heap.size]? = some (.cells #[.int .u64 (fh : Nat), .int .u64 (fl : Nat), .int .u64 (th : Nat), .int .u64 (tl : Nat)] 26) := by rw [hb6.block _ lr5]; exact R5
  have A6 : w6.heap[w.heap.size + 1]? = some (.cells #[.int .u64 (ah : Nat), .int .u64 (al : Nat)] 24) := by rw [hb6.block _ la5]; exact A5
  have P6 : w6.heap[BP]? = some (.cells #[.int .u64 p0, .int .u64 p1, .int .u64 p2, .int .u64 p3] 26) := by rw [hb6.block _ lp5]; exact P5
  have Q6 : w6.heap[BQ]? = some (.cells #[.int .u64 p0, .int .u64 p1, .int .u64 p2, .int .u64 p3] 26) := by rw [hb6.block _ lq5]; exact Q5
  have U6 : w6.heap[BU]? = some (.cells #[.int .u64 q0, .int .u64 q1, .int .u64 q2, .int .u64 q3] 26) := by rw [hb6.block _ lu5]; exact U5
  have V6 : w6.heap[BV]? = some (.cells #[.int .u64 q0, .int .u64 q1, .int .u64 q2, .int .u64 q3] 26) := by rw [hb6.block _ lv5]; exact V5
  clear z0 z1 z2 z3 c6 hb6 bw5 R5 lr5 A5 la5 P5 lp5 Q5 lq5 U5 lu5 V5 lv5
  obtain ⟨mP0, mP1, mP2, mP3⟩ := rcells_of P6
  obtain ⟨mQ0, mQ1, mQ2, mQ3⟩ := rcells_of Q6
  obtain ⟨mU0, mU1, mU2, mU3⟩ := rcells_of U6
  obtain ⟨mV0, mV1, mV2, mV3⟩ := rcells_of V6
  obtain ⟨mR0, mR1, mR2, mR3⟩ := rcells_of R6
  obtain ⟨mA0, mA1, _, _⟩ := cells_of A6
  have k0 := cell_regrown mP0
  have k1 := cell_regrown mP1
  have k2 := cell_regrown mP2
  have k3 := cell_regrown mP3
  have k4 := cell_regrown mQ0
  have k5 := cell_regrown mQ1
  have k6 := cell_regrown mQ2
  have k7 := cell_regrown mQ3
  have k8 := cell_regrown mU0
  have k9 := cell_regrown mU1
  have k10 := cell_regrown mU2
  have k11 := cell_regrown mU3
  have k12 := cell_regrown mV0
  have k13 := cell_regrown mV1
  have k14 := cell_regrown mV2
  have k15 := cell_regrown mV3
  have k16 := cell_regrown mR0
  have k17 := cell_regrown mR1
  have k18 := cell_regrown mR2
  have k19 := cell_regrown mR3
  have k20 := cell_regrown mA0
  have k21 := cell_regrown mA1
  have d7 := fun d os => Calls.regrown_of (c7 (grow (redrawn w6 d) os))
  have d8 := fun d os => Calls.regrown_of (c8 (grow (redrawn w6 d) os))
  clear c7 c8 mP0 mP1 mP2 mP3 mQ0 mQ1 mQ2 mQ3 mU0 mU1 mU2 mU3 mV0 mV1 mV2 mV3 mR0 mR1 mR2 mR3 mA0 mA1 R6 A6 P6 Q6 U6 V6
  refine Lib.hid ?_
  go_wp2
  refine wp_region_quiet_below (by kernel_rfl) (by kernel_rfl) ?_
  repeat (first | go_big_quiet_skip | quiet_step (first | (go_at_call 10; with_reducible exact d7 _ _) | (go_at_call 11; with_reducible exact d8 _ _)))
  refine wpQuiet_nil ?_
  intro _ hw'
  obtain ⟨⟨dq, osq⟩, hw''⟩ := hw'
  subst hw''
  go_wp2
  go_ret
  exact ⟨by simp, bel_via bw6 (below_regrown w6 dq osq)⟩

theorem long_rngs (a b c d e f : Int) (n : Int) (s : ByteArray) (h : 4096 < s.size) (hm : s.size ≤ 9223372036854775807) (w : World) : Calls Tryz.prog 3 #[.agg #[.int .u64 a, .int .u64 b, .int .u64 c, .int .u64 d], .agg #[.int .u64 e, .int .u64 f], .int .i64 n, .string s] w (LawPostD w) := by
  have hsi : (4096 : Int) < (s.size : Int) := by omega
  have hsd : decide (4096 < s.size) = true := by simpa using h
  unfold LawPostD
  go_enter Tryz.func3, Tryz.ntmps3
  go_wp2
  go_ret
  exact ⟨rfl, Below.al (Below.al (Below.refl _ _) _) _⟩
theorem rngs_any (a b c d e f n : Int) (s : ByteArray) (h0 : Word a) (h1 : Word b) (h2 : Word c) (h3 : Word d) (h4 : Word e) (h5 : Word f) (hn : -9223372036854775808 ≤ n ∧ n < 9223372036854775808) (hs : s.size ≤ maxLen) {w : World} (hG : Glob w) : Calls Tryz.prog 3 #[.agg #[.int .u64 a, .int .u64 b, .int .u64 c, .int .u64 d], .agg #[.int .u64 e, .int .u64 f], .int .i64 n, .string s] w (LawPostD w) := by
  unfold maxLen at hs
  by_cases h : 4096 < s.size
  · exact long_rngs a b c d e f n s h (by omega) w
  · obtain ⟨p0, p1⟩ := h0
    obtain ⟨q0, q1⟩ := h1
    obtain ⟨r0, r1⟩ := h2
    obtain ⟨s0, s1⟩ := h3
    obtain ⟨t0, t1⟩ := h4
    obtain ⟨u0, u1⟩ := h5
    obtain ⟨A, rfl⟩ : ∃ N : Nat, a = (N : Nat) := ⟨a.toNat, by omega⟩
    obtain ⟨B, rfl⟩ : ∃ N : Nat, b = (N : Nat) := ⟨b.toNat, by omega⟩
    obtain ⟨C, rfl⟩ : ∃ N : Nat, c = (N : Nat) := ⟨c.toNat, by omega⟩
    obtain ⟨D, rfl⟩ : ∃ N : Nat, d = (N : Nat) := ⟨d.toNat, by omega⟩
    obtain ⟨E, rfl⟩ : ∃ N : Nat, e = (N : Nat) := ⟨e.toNat, by omega⟩
    obtain ⟨F, rfl⟩ : ∃ N : Nat, f = (N : Nat) := ⟨f.toNat, by omega⟩
    exact rngs_mid A B C D E F (by omega) (by omega) (by omega) (by omega) (by omega) (by omega) n hn.1 hn.2 s (by omega) hG
end Go.Proofs.YtaafflmkfdicdaaGreatDoor
