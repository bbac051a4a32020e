/- AddrRangeBack's walk; by-name template. -/
import Derived.Test.YtaafflmkfdicdaaDoorARngF
namespace Go.Proofs.YtaafflmkfdicdaaDoor
open Go.RowKit Go.Sort
set_option linter.unusedVariables false
set_option linter.unusedSimpArgs false

theorem cmp_refl (ah al : Int) : cmpA ah al ah al = 0 := by
  rw [cmpA_cases]
  split
  · omega
  · rw [if_pos ⟨rfl, rfl⟩]
theorem has_from {fh fl th tl : Int} (h : cmpA fh fl th tl ≤ 0) : hasI fh fl th tl fh fl = true := by
  unfold hasI; rw [cmp_refl]; simp [h]
theorem has_to {fh fl th tl : Int} (h : cmpA fh fl th tl ≤ 0) : hasI fh fl th tl th tl = true := by
  unfold hasI; rw [cmp_refl]; simp [h]

set_option maxHeartbeats 1000000 in
set_option maxRecDepth 100000 in
theorem rback_bad (fh fl th tl : Nat) (h0 : fh < 18446744073709551616) (h1 : fl < 18446744073709551616) (h2 : th < 18446744073709551616) (h3 : tl < 18446744073709551616) (hc : 0 < cmpA (fh : Int) fl th tl ∨ is4I (fh : Int) fl ≠ is4I (th : Int) tl) (w : World) : Calls Tryd.prog 3 #[.agg #[.int .u64 (fh : Nat), .int .u64 (fl : Nat), .int .u64 (th : Nat), .int .u64 (tl : Nat)]] w (LawPostD w) := by
  have c1 := prange_bad fh fl th tl h0 h1 h2 h3 hc
  have c2 := rprange_bad fh fl th tl h0 h1 h2 h3 hc
  have f0 : (fh : Int) < 18446744073709551616 := by omega
  have f1 : (fl : Int) < 18446744073709551616 := by omega
  have f2 : (th : Int) < 18446744073709551616 := by omega
  have f3 : (tl : Int) < 18446744073709551616 := by omega
  clear hc
  go_enter Tryd.func3, Tryd.ntmps3
  go_wp2_with (go_at_call 4; refine (c1 _).mono ?_; rintro e w2 ⟨rfl, hb2⟩; refine Hid.out ?_)
  have bw2 : Below w.heap.size w w2 := bel_via (Below.al (Below.refl _ w) _) hb2
  have hR2 : w2.heap[w.heap.size]? = some (.cells #[.int .u64 (fh : Nat), .int .u64 (fl : Nat), .int .u64 (th : Nat), .int .u64 (tl : Nat)] 26 (0, 0)) := by rw [hb2.block _ (by simp)]; exact al_new rfl _
  obtain ⟨d0, d1, d2, d3⟩ := rcells_of hR2
  clear hb2
  refine Lib.hid ?_
  go_wp2_with (go_at_call 5; refine (c2 _).mono ?_; rintro e w3 ⟨rfl, hb3⟩)
  go_ret
  exact ⟨by simp, bel_via bw2 hb3⟩

set_option maxHeartbeats 2000000 in
set_option maxRecDepth 100000 in
theorem rback_ok (fh fl th tl : Nat) (h0 : fh < 18446744073709551616) (h1 : fl < 18446744073709551616) (h2 : th < 18446744073709551616) (h3 : tl < 18446744073709551616) (hc : cmpA (fh : Int) fl th tl ≤ 0) (hi : is4I (fh : Int) fl = is4I (th : Int) tl) {w : World} (hG : Glob w) : Calls Tryd.prog 3 #[.agg #[.int .u64 (fh : Nat), .int .u64 (fl : Nat), .int .u64 (th : Nat), .int .u64 (tl : Nat)]] w (LawPostD w) := by
  have c1 := fun (W : World) (hg : Glob W) => prange_ok fh fl th tl h0 h1 h2 h3 hc hi hg
  have c2 := rprange_ok fh fl th tl h0 h1 h2 h3 hc hi
  have ch1 := has_any (fh : Int) (fl : Int) (th : Int) (tl : Int) (fh : Int) (fl : Int)
  have ch2 := has_any (fh : Int) (fl : Int) (th : Int) (tl : Int) (th : Int) (tl : Int)
  rw [has_from hc] at ch1
  rw [has_to hc] at ch2
  have f0 : (fh : Int) < 18446744073709551616 := by omega
  have f1 : (fl : Int) < 18446744073709551616 := by omega
  have f2 : (th : Int) < 18446744073709551616 := by omega
  have f3 : (tl : Int) < 18446744073709551616 := by omega
  -- the text is read back
  have cpr : ∀ (S : ByteArray), ((fh = th ∧ fl = tl ∧ S.data.toList = printA fh fl) ∨ (∃ n : Nat, n ≤ 128 ∧ preV fh fl (n : Int) = some ((th : Int), (tl : Int)) ∧ S.data.toList = printA fh fl ++ 47 :: digs 10 n) ∨ S.data.toList = printA fh fl ++ 45 :: printA th tl) →
      ∀ W, Glob W → Calls Tryd.prog 6 #[.string S] W fun e w' => e = .returned (.tuple #[.agg #[.int .u64 (fh : Nat), .int .u64 (fl : Nat), .int .u64 (th : Nat), .int .u64 (tl : Nat)], .int .i64 0]) ∧ Below W.heap.size W w' := by
    intro S hS W hg
    have la := len_print (a := fh) (b := fl)
    have lb := len_print (a := th) (b := tl)
    have hsz : S.data.toList.length = S.size := by rw [Lib.size_eq]
    obtain ⟨A, hA⟩ : ∃ A : ByteArray, A = ⟨(printA fh fl).toArray⟩ := ⟨_, rfl⟩
    have hAd : A.data.toList = printA fh fl := by rw [hA]
    obtain ⟨B, hB⟩ : ∃ B : ByteArray, B = ⟨(printA th tl).toArray⟩ := ⟨_, rfl⟩
    have hBd : B.data.toList = printA th tl := by rw [hB]
    have hAs : A.size ≤ 39 := by rw [← hAd, ← Lib.size_eq] at la; exact la
    have hBs : B.size ≤ 39 := by rw [← hBd, ← Lib.size_eq] at lb; exact lb
    have n47 := notin_print 47 not_isDig_47 (by decide) (by decide)
    have n45 := notin_print 45 not_isDig_45 (by decide) (by decide)
    rcases hS with ⟨e1, e2, e3⟩ | ⟨n, hn, hv, e3⟩ | e3
    · subst e1; subst e2
      exact prng_one S (by rw [e3] at hsz; omega) fh fl (by rw [e3]; exact parse_print h0 h1) (by rw [e3]; exact n47 _ _) (by rw [e3]; exact n45 _ _) hg
    · have ld := digs10_len (n := n) 2 (by omega)
      exact prng_pre S A (by rw [e3, List.length_append, List.length_cons] at hsz; omega) (by omega) n hn (by rw [e3, cut_at 47 _ _ (n47 _ _), hAd]) fh fl (by rw [hAd]; exact parse_print h0 h1) th tl h2 h3 hv hg
    · have m47 : (47 : UInt8) ∉ S.data.toList := by
        rw [e3]
        intro hm
        rcases List.mem_append.1 hm with hm | hm
        · exact n47 _ _ hm
        · rcases List.mem_cons.1 hm with hm | hm
          · exact absurd hm (by decide)
          · exact n47 _ _ hm
      exact prng_ends S A B (by rw [e3, List.length_append, List.length_cons] at hsz; omega) (by omega) (by omega) m47 (by rw [e3, cut_at 45 _ _ (n45 _ _), hAd, hBd]) fh fl th tl (by rw [hAd]; exact parse_print h0 h1) (by rw [hBd]; exact parse_print h2 h3) hc hi hg
  have HP := Lib.hid cpr
  clear hc hi cpr
  go_enter Tryd.func3, Tryd.ntmps3
  go_wp2_with (go_at_call 4; refine (c1 _ (hG.on (Below.al (Below.refl _ _) _))).mono ?_; rintro e w2 ⟨S, rfl, hb2, hS⟩; refine Hid.out ?_)
  have HS := Lib.hid hS
  clear hS
  have bw2 : Below w.heap.size w w2 := bel_via (Below.al (Below.refl _ w) _) hb2
  have hR2 : w2.heap[w.heap.size]? = some (.cells #[.int .u64 (fh : Nat), .int .u64 (fl : Nat), .int .u64 (th : Nat), .int .u64 (tl : Nat)] 26 (0, 0)) := by rw [hb2.block _ (by simp)]; exact al_new rfl _
  have hz2 : w.heap.size < w2.heap.size := (Array.getElem?_eq_some_iff.1 hR2).1
  obtain ⟨d0, d1, d2, d3⟩ := rcells_of hR2
  clear hb2 c1
  refine Lib.hid ?_
  go_wp2_with (go_at_call 5; refine (c2 _).mono ?_; rintro e w3 ⟨T, rfl, hb3, -⟩; refine Hid.out ?_)
  have bw3 := bel_via bw2 hb3
  have hR3 : w3.heap[w.heap.size]? = some (.cells #[.int .u64 (fh : Nat), .int .u64 (fl : Nat), .int .u64 (th : Nat), .int .u64 (tl : Nat)] 26 (0, 0)) := by rw [hb3.block _ hz2]; exact hR2
  have hz3 : w.heap.size < w3.heap.size := (Array.getElem?_eq_some_iff.1 hR3).1
  clear hb3 c2 d0 d1 d2 d3 hR2 hz2
  have cpa := HP.out S (by
    rcases HS.out with h | ⟨n, a, b, c, _⟩ | ⟨h, _⟩
    · exact .inl h
    · exact .inr (.inl ⟨n, a, b, c⟩)
    · exact .inr (.inr h))
  refine Lib.hid ?_
  go_wp2_with (go_at_call 6; refine (cpa _ (hG.on bw3)).mono ?_; rintro e w4 ⟨rfl, hb4⟩; refine Hid.out ?_)
  have bw4 := bel_via bw3 hb4
  have hR4 : w4.heap[w.heap.size]? = some (.cells #[.int .u64 (fh : Nat), .int .u64 (fl : Nat), .int .u64 (th : Nat), .int .u64 (tl : Nat)] 26 (0, 0)) := by rw [hb4.block _ hz3]; exact hR3
  have hz4 : w.heap.size < w4.heap.size := (Array.getElem?_eq_some_iff.1 hR4).1
  clear hb4 cpa HP HS hR3 hz3
  refine Lib.hid ?_
  go_wp2_with (with_reducible refine stop_op (o := ⟨some 35, _, _, _, _, _⟩) ?_)
  obtain ⟨w5, hw5⟩ : ∃ v, v = w4.alloc (.cells #[.int .u64 (fh : Nat), .int .u64 (fl : Nat), .int .u64 (th : Nat), .int .u64 (tl : Nat)] 26) := ⟨_, rfl⟩
  have hX5 : w5.heap[w4.heap.size]? = some (.cells #[.int .u64 (fh : Nat), .int .u64 (fl : Nat), .int .u64 (th : Nat), .int .u64 (tl : Nat)] 26 (0, 0)) := by rw [hw5]; exact al_new rfl _
  have hR5 : w5.heap[w.heap.size]? = some (.cells #[.int .u64 (fh : Nat), .int .u64 (fl : Nat), .int .u64 (th : Nat), .int .u64 (tl : Nat)] 26 (0, 0)) := by rw [hw5, al_old hz4]; exact hR4
  have bw5 : Below w.heap.size w w5 := by rw [hw5]; exact Below.al bw4 _
  have hz5 : w.heap.size < w5.heap.size := (Array.getElem?_eq_some_iff.1 hR5).1
  obtain ⟨x0, x1, x2, x3⟩ := rcells_of hX5
  obtain ⟨d0, d1, d2, d3⟩ := rcells_of hR5
  rw [← hw5]
  clear hw5 hR4 hz4 bw4
  refine Lib.hid ?_
  go_wp2_with (go_at_call_of 7 (Value.agg #[Value.int IntKind.u64 (fh : Int), Value.int IntKind.u64 (fl : Int)]); refine (ch1 _).mono ?_; rintro e w6 ⟨rfl, hb6⟩; refine Hid.out ?_)
  have bw6 := bel_via bw5 hb6
  have hR6 : w6.heap[w.heap.size]? = some (.cells #[.int .u64 (fh : Nat), .int .u64 (fl : Nat), .int .u64 (th : Nat), .int .u64 (tl : Nat)] 26 (0, 0)) := by rw [hb6.block _ hz5]; exact hR5
  clear d0 d1 d2 d3 x0 x1 x2 x3 hX5 hR5 hb6 bw5 ch1
  obtain ⟨d0, d1, d2, d3⟩ := rcells_of hR6
  refine Lib.hid ?_
  go_wp2_with (go_at_call 7; refine (ch2 _).mono ?_; rintro e w7 ⟨rfl, hb7⟩)
  go_ret
  exact ⟨by simp, bel_via bw6 hb7⟩

theorem rback_any (a b c d : Int) (h0 : Word a) (h1 : Word b) (h2 : Word c) (h3 : Word d) {w : World} (hG : Glob w) : Calls Tryd.prog 3 #[.agg #[.int .u64 a, .int .u64 b, .int .u64 c, .int .u64 d]] w (LawPostD w) := by
  obtain ⟨p0, p1⟩ := h0
  obtain ⟨q0, q1⟩ := h1
  obtain ⟨r0, r1⟩ := h2
  obtain ⟨s0, s1⟩ := h3
  obtain ⟨A, rfl⟩ : ∃ N : Nat, a = (N : Nat) := ⟨a.toNat, by omega⟩
  obtain ⟨B, rfl⟩ : ∃ N : Nat, b = (N : Nat) := ⟨b.toNat, by omega⟩
  obtain ⟨C, rfl⟩ : ∃ N : Nat, c = (N : Nat) := ⟨c.toNat, by omega⟩
  obtain ⟨D, rfl⟩ : ∃ N : Nat, d = (N : Nat) := ⟨d.toNat, by omega⟩
  by_cases hc : 0 < cmpA (A : Int) B C D
  · exact rback_bad A B C D (by omega) (by omega) (by omega) (by omega) (.inl hc) w
  · by_cases hi : is4I (A : Int) B = is4I (C : Int) D
    · exact rback_ok A B C D (by omega) (by omega) (by omega) (by omega) (by omega) hi hG
    · exact rback_bad A B C D (by omega) (by omega) (by omega) (by omega) (.inr hi) w
end Go.Proofs.YtaafflmkfdicdaaDoor
