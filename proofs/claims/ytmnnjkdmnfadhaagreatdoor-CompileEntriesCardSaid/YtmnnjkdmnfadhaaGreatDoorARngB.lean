/- A range is printed: the program's way; by-name template. -/
import Derived.Test.YtmnnjkdmnfadhaaGreatDoorAExact
namespace Go.Proofs.YtmnnjkdmnfadhaaGreatDoor
open Go.RowKit
set_option linter.unusedVariables false
set_option linter.unusedSimpArgs false

/-- What a range's text is; E: the error. -/
def RtxtPost (fh fl th tl : Nat) (w : World) (e : Ending) (w' : World) : Prop :=
  ∃ (S : ByteArray), e = .returned (.tuple #[.string S, .int .i64 0]) ∧ Below w.heap.size w w' ∧
    ((fh = th ∧ fl = tl ∧ S.data.toList = printA fh fl) ∨ (∃ n : Nat, n ≤ 128 ∧ preV fh fl (n : Int) = some ((th : Int), (tl : Int)) ∧ S.data.toList = printA fh fl ++ 47 :: digs 10 n ∧ ¬ (fh = th ∧ fl = tl)) ∨ (S.data.toList = printA fh fl ++ 45 :: printA th tl ∧ ∀ m : Int, preV (fh : Int) (fl : Int) m ≠ some ((th : Int), (tl : Int))))

theorem preV_bd {fh fl n : Int} {x : Int × Int} (h : preV fh fl n = some x) : 0 ≤ n ∧ n ≤ 128 := by
  unfold preV at h
  split at h
  · cases h
  · omega

theorem itoa_any (n : Nat) (hn : n ≤ 128) {w : World} (hG : Glob w) : Calls Tryz.prog 107 #[.int .i64 (n : Nat)] w fun e w' => e = .returned (.string ⟨(digs 10 n).toArray⟩) ∧ Below w.heap.size w w' := by
  refine (Tryz.strconv_Itoa (n : Int) (by omega) (by omega) w hG.tab).mono fun e w' ⟨h1, k, os, h2⟩ => ⟨by rw [h1, itoa_digs], ?_⟩
  rw [h2]
  exact Lib.below_grow w.heap.size w (Nat.le_refl _) k os

set_option maxHeartbeats 2000000 in
set_option maxRecDepth 100000 in
theorem prange_ok (fh fl th tl : Nat) (h0 : fh < 18446744073709551616) (h1 : fl < 18446744073709551616) (h2 : th < 18446744073709551616) (h3 : tl < 18446744073709551616) (hc : cmpA (fh : Int) fl th tl ≤ 0) (hi : is4I (fh : Int) fl = is4I (th : Int) tl) {w : World} (hG : Glob w) : Calls Tryz.prog 52 #[.agg #[.int .u64 (fh : Nat), .int .u64 (fl : Nat), .int .u64 (th : Nat), .int .u64 (tl : Nat)]] w (RtxtPost fh fl th tl w) := by
  have cb := fun W => pbits_any (fh : Int) (fl : Int) (th : Int) (tl : Int) ⟨by omega, by omega⟩ ⟨by omega, by omega⟩ W
  have ccm := cmp_any (fh : Int) (fl : Int) (th : Int) (tl : Int)
  have ci1 := is4_any (fh : Int) (fl : Int) ⟨by omega, by omega⟩ ⟨by omega, by omega⟩
  have ci2 := is4_any (th : Int) (tl : Int) ⟨by omega, by omega⟩ ⟨by omega, by omega⟩
  obtain ⟨c, hce⟩ : ∃ c, c = cmpA (fh : Int) fl th tl := ⟨_, rfl⟩
  rw [← hce] at ccm hc
  obtain ⟨i1, hie⟩ : ∃ i, i = is4I (fh : Int) fl := ⟨_, rfl⟩
  rw [← hi] at ci2
  rw [← hie] at ci1 ci2
  clear hce hi hie
  have hcd : decide (0 < c) = false := by simp; omega
  have cp1 := fun (W : World) (hg : Glob W) => print_any fh fl h0 h1 hg
  have cp2 := fun (W : World) (hg : Glob W) => print_any th tl h2 h3 hg
  have cit := fun (n : Nat) (hn : n ≤ 128) (W : World) (hg : Glob W) => itoa_any n hn hg
  have l1 := len_print (a := fh) (b := fl)
  have l2 := len_print (a := th) (b := tl)
  obtain ⟨P1, hP1⟩ : ∃ P, P = printA fh fl := ⟨_, rfl⟩
  obtain ⟨P2, hP2⟩ : ∃ P, P = printA th tl := ⟨_, rfl⟩
  rw [← hP1] at cp1 l1
  rw [← hP2] at cp2 l2
  have HP := Lib.hid (show P1 = printA fh fl ∧ P2 = printA th tl from ⟨hP1, hP2⟩)
  clear hP1 hP2
  have f0 : (fh : Int) < 18446744073709551616 := by omega
  have f1 : (fl : Int) < 18446744073709551616 := by omega
  have f2 : (th : Int) < 18446744073709551616 := by omega
  have f3 : (tl : Int) < 18446744073709551616 := by omega
  go_enter Tryz.func52, Tryz.ntmps52
  go_wp2_with (go_at_call 103; refine (cb _).mono ?_; rintro e w1 ⟨n, ok, rfl, hok, hb1, hn2, hok2⟩; refine Hid.out ?_)
  have HK : Hid (ok = false → ∀ m : Int, preV (fh : Int) (fl : Int) m ≠ some ((th : Int), (tl : Int))) := Lib.hid fun h m hm => hok2 h (by rw [hn2.out, ← pre_exact fh fl th tl h0 h1 h2 h3 m hm]; exact hm)
  clear hn2 hok2
  have bw1 : Below w.heap.size w w1 := bel_via (Below.al (Below.refl _ _) _) hb1
  have hR1 : w1.heap[w.heap.size]? = some (.cells #[.int .u64 (fh : Nat), .int .u64 (fl : Nat), .int .u64 (th : Nat), .int .u64 (tl : Nat)] 45 (0, 0)) := by rw [hb1.block _ (by simp)]; exact al_new rfl _
  obtain ⟨BR, hBR⟩ : ∃ b, b = w.heap.size := ⟨_, rfl⟩
  rw [← hBR] at hR1
  rw [← hBR]
  have hlt1 : BR < w1.heap.size := (Array.getElem?_eq_some_iff.1 hR1).1
  obtain ⟨c0, c1, c2, c3⟩ := rcells_of hR1
  have hC1 : ∀ w', Below w1.heap.size w1 w' → w'.cell? ⟨BR, 0, none⟩ = some (.int .u64 (fh : Nat)) ∧ w'.cell? ⟨BR, 1, none⟩ = some (.int .u64 (fl : Nat)) ∧ w'.cell? ⟨BR, 2, none⟩ = some (.int .u64 (th : Nat)) ∧ w'.cell? ⟨BR, 3, none⟩ = some (.int .u64 (tl : Nat)) :=
    fun w' h => ⟨keepc h c0, keepc h c1, keepc h c2, keepc h c3⟩
  clear hBR c0 c1 c2 c3 hb1 hR1 cb
  refine Lib.hid ?_
  go_wp2
  cases i1 with
  | false =>
    go_region_held3 (fun w' => Below w1.heap.size w1 w' ∧ w'.cell? ⟨BR, 0, none⟩ = some (.int .u64 (fh : Nat)) ∧ w'.cell? ⟨BR, 1, none⟩ = some (.int .u64 (fl : Nat)) ∧ w'.cell? ⟨BR, 2, none⟩ = some (.int .u64 (th : Nat)) ∧ w'.cell? ⟨BR, 3, none⟩ = some (.int .u64 (tl : Nat))) (first | exact keep00 hC1 | exact keep0 hC1 | exact keepD hC1 (by assumption) | exact keepB hC1 hb (by assumption) | exact keepB hC1 (by assumption) (by assumption))
      (first
        | (go_at_call 104; refine (ccm _).mono ?_; rintro e w' ⟨rfl, hb⟩)
        | (go_at_call_of 105 (Value.agg #[Value.int IntKind.u64 (fh : Int), Value.int IntKind.u64 (fl : Int)]); refine (ci1 _).mono ?_; rintro e w' ⟨rfl, hb⟩)
        | (go_at_call 105; refine (ci2 _).mono ?_; rintro e w' ⟨rfl, hb⟩))
    obtain ⟨hbS, s0, s1, s2, s3⟩ : Below w1.heap.size w1 _ ∧ _ ∧ _ ∧ _ ∧ _ := by assumption
    have bS := bel_via bw1 hbS
    have hGS := hG.on bS
    by_cases e1 : fh = th
    · subst e1
      by_cases e2 : fl = tl
      · subst e2
        clear cp2 cit ccm ci1 ci2 hC1 hok
        go_wp2_with (go_at_call 106; refine (cp1 _ hGS).mono ?_; rintro e w2 ⟨rfl, hb2⟩)
        go_ret2
        exact ⟨⟨P1.toArray⟩, rfl, bel_via bS hb2, .inl ⟨rfl, rfl, by rw [← HP.out.1]⟩⟩
      · have hA1 : ((fl : Int) == (tl : Int)) = false := by rw [beq_eq_false_iff_ne]; omega
        have hA2 : (fl == tl) = false := by rw [beq_eq_false_iff_ne]; exact e2
        clear e2
        cases ok with
        | true =>
          clear HK
          have hpv := hok rfl
          obtain ⟨n0, n1⟩ := preV_bd hpv
          obtain ⟨m, rfl⟩ : ∃ m : Nat, n = (m : Nat) := ⟨n.toNat, by omega⟩
          have hm : m ≤ 128 := by omega
          have HV := Lib.hid hpv
          have ci := cit m hm
          have ld := digs10_len (n := m) 2 (by omega)
          obtain ⟨D, hD⟩ : ∃ D, D = digs 10 m := ⟨_, rfl⟩
          rw [← hD] at ci ld
          have HD := Lib.hid hD
          have h47 : ∀ W, (Op.stringOp .add ⟨P1.toArray⟩ ⟨#[47]⟩).run Tryz.prog W = .ok (.string ⟨(P1 ++ [47]).toArray⟩) W := fun W => run_string_add_lists W P1 [47] (by omega) (by simp)
          have hcat : ∀ W, (Op.stringOp .add ⟨(P1 ++ [47]).toArray⟩ ⟨D.toArray⟩).run Tryz.prog W = .ok (.string ⟨(P1 ++ [47] ++ D).toArray⟩) W := fun W => run_string_add_lists W (P1 ++ [47]) D (by simp; omega) (by omega)
          clear cp2 cit ccm ci1 ci2 hC1 hok hpv hD
          go_wp2_with (first
            | (go_at_call 106; refine (cp1 _ hGS).mono ?_; rintro e w2 ⟨rfl, hb2⟩)
            | (go_at_call 107; refine (ci _ (hGS.on hb2)).mono ?_; rintro e w3 ⟨rfl, hb3⟩))
          go_ret2
          exact ⟨⟨(P1 ++ 47 :: D).toArray⟩, rfl, bel_via (bel_via bS hb2) hb3, .inr (.inl ⟨m, hm, HV.out, by rw [← HP.out.1, ← HD.out], fun h => by first | (simp [h.1] at hA2; done) | (simp [h.2] at hA2; done)⟩)⟩
        | false =>
          have HK2 : Hid (∀ m : Int, preV (fh : Int) (fl : Int) m ≠ some ((fh : Int), (tl : Int))) := Lib.hid (HK.out rfl)
          clear HK
          have h45 : ∀ W, (Op.stringOp .add ⟨P1.toArray⟩ ⟨#[45]⟩).run Tryz.prog W = .ok (.string ⟨(P1 ++ [45]).toArray⟩) W := fun W => run_string_add_lists W P1 [45] (by omega) (by simp)
          have hcat : ∀ W, (Op.stringOp .add ⟨(P1 ++ [45]).toArray⟩ ⟨P2.toArray⟩).run Tryz.prog W = .ok (.string ⟨(P1 ++ [45] ++ P2).toArray⟩) W := fun W => run_string_add_lists W (P1 ++ [45]) P2 (by simp; omega) (by omega)
          clear cit ccm ci1 ci2 hok
          go_wp2
          obtain ⟨wq, hwq⟩ : ∃ v : World, Below w1.heap.size w1 v := ⟨_, hbS⟩
          go_region_held3 (fun w' => Below w1.heap.size w1 w' ∧ w'.cell? ⟨BR, 0, none⟩ = some (.int .u64 (fh : Nat)) ∧ w'.cell? ⟨BR, 1, none⟩ = some (.int .u64 (fl : Nat)) ∧ w'.cell? ⟨BR, 2, none⟩ = some (.int .u64 (fh : Nat)) ∧ w'.cell? ⟨BR, 3, none⟩ = some (.int .u64 (tl : Nat))) (first | exact keep00 hC1 | exact keep0 hC1 | exact keepD hC1 (by assumption) | exact keepB hC1 hb (by assumption) | exact keepB hC1 (by assumption) (by assumption) | exact ⟨Below.dr hbS, s0, s1, s2, s3⟩ | exact ⟨hbS, s0, s1, s2, s3⟩)
            (first
              | (go_at_call_of 106 (Value.agg #[Value.int IntKind.u64 (fh : Int), Value.int IntKind.u64 (fl : Int)]); refine (cp1 _ ((hG.on bw1).on (And.left (by assumption)))).mono ?_; rintro e w' ⟨rfl, hb⟩)
              | (go_at_call 106; refine (cp2 _ ((hG.on bw1).on (And.left (by assumption)))).mono ?_; rintro e w' ⟨rfl, hb⟩))
          all_goals (go_wp2; go_ret2; exact ⟨⟨(P1 ++ 45 :: P2).toArray⟩, rfl, by have hx : Below w1.heap.size w1 _ := And.left (by assumption); exact bel_via bw1 hx, .inr (.inr ⟨by rw [← HP.out.1, ← HP.out.2], HK2.out⟩)⟩)
    · have hA1 : ((fh : Int) == (th : Int)) = false := by rw [beq_eq_false_iff_ne]; omega
      have hA2 : (fh == th) = false := by rw [beq_eq_false_iff_ne]; exact e1
      clear e1
      cases ok with
      | true =>
        clear HK
        have hpv := hok rfl
        obtain ⟨n0, n1⟩ := preV_bd hpv
        obtain ⟨m, rfl⟩ : ∃ m : Nat, n = (m : Nat) := ⟨n.toNat, by omega⟩
        have hm : m ≤ 128 := by omega
        have HV := Lib.hid hpv
        have ci := cit m hm
        have ld := digs10_len (n := m) 2 (by omega)
        obtain ⟨D, hD⟩ : ∃ D, D = digs 10 m := ⟨_, rfl⟩
        rw [← hD] at ci ld
        have HD := Lib.hid hD
        have h47 : ∀ W, (Op.stringOp .add ⟨P1.toArray⟩ ⟨#[47]⟩).run Tryz.prog W = .ok (.string ⟨(P1 ++ [47]).toArray⟩) W := fun W => run_string_add_lists W P1 [47] (by omega) (by simp)
        have hcat : ∀ W, (Op.stringOp .add ⟨(P1 ++ [47]).toArray⟩ ⟨D.toArray⟩).run Tryz.prog W = .ok (.string ⟨(P1 ++ [47] ++ D).toArray⟩) W := fun W => run_string_add_lists W (P1 ++ [47]) D (by simp; omega) (by omega)
        clear cp2 cit ccm ci1 ci2 hC1 hok hpv hD
        go_wp2_with (first
          | (go_at_call 106; refine (cp1 _ hGS).mono ?_; rintro e w2 ⟨rfl, hb2⟩)
          | (go_at_call 107; refine (ci _ (hGS.on hb2)).mono ?_; rintro e w3 ⟨rfl, hb3⟩))
        go_ret2
        exact ⟨⟨(P1 ++ 47 :: D).toArray⟩, rfl, bel_via (bel_via bS hb2) hb3, .inr (.inl ⟨m, hm, HV.out, by rw [← HP.out.1, ← HD.out], fun h => by first | (simp [h.1] at hA2; done) | (simp [h.2] at hA2; done)⟩)⟩
      | false =>
        have HK2 : Hid (∀ m : Int, preV (fh : Int) (fl : Int) m ≠ some ((th : Int), (tl : Int))) := Lib.hid (HK.out rfl)
        clear HK
        have h45 : ∀ W, (Op.stringOp .add ⟨P1.toArray⟩ ⟨#[45]⟩).run Tryz.prog W = .ok (.string ⟨(P1 ++ [45]).toArray⟩) W := fun W => run_string_add_lists W P1 [45] (by omega) (by simp)
        have hcat : ∀ W, (Op.stringOp .add ⟨(P1 ++ [45]).toArray⟩ ⟨P2.toArray⟩).run Tryz.prog W = .ok (.string ⟨(P1 ++ [45] ++ P2).toArray⟩) W := fun W => run_string_add_lists W (P1 ++ [45]) P2 (by simp; omega) (by omega)
        clear cit ccm ci1 ci2 hok
        go_wp2
        obtain ⟨wq, hwq⟩ : ∃ v : World, Below w1.heap.size w1 v := ⟨_, hbS⟩
        go_region_held3 (fun w' => Below w1.heap.size w1 w' ∧ w'.cell? ⟨BR, 0, none⟩ = some (.int .u64 (fh : Nat)) ∧ w'.cell? ⟨BR, 1, none⟩ = some (.int .u64 (fl : Nat)) ∧ w'.cell? ⟨BR, 2, none⟩ = some (.int .u64 (th : Nat)) ∧ w'.cell? ⟨BR, 3, none⟩ = some (.int .u64 (tl : Nat))) (first | exact keep00 hC1 | exact keep0 hC1 | exact keepD hC1 (by assumption) | exact keepB hC1 hb (by assumption) | exact keepB hC1 (by assumption) (by assumption) | exact ⟨Below.dr hbS, s0, s1, s2, s3⟩ | exact ⟨hbS, s0, s1, s2, s3⟩)
          (first
            | (go_at_call_of 106 (Value.agg #[Value.int IntKind.u64 (fh : Int), Value.int IntKind.u64 (fl : Int)]); refine (cp1 _ ((hG.on bw1).on (And.left (by assumption)))).mono ?_; rintro e w' ⟨rfl, hb⟩)
            | (go_at_call 106; refine (cp2 _ ((hG.on bw1).on (And.left (by assumption)))).mono ?_; rintro e w' ⟨rfl, hb⟩))
        all_goals (go_wp2; go_ret2; exact ⟨⟨(P1 ++ 45 :: P2).toArray⟩, rfl, by have hx : Below w1.heap.size w1 _ := And.left (by assumption); exact bel_via bw1 hx, .inr (.inr ⟨by rw [← HP.out.1, ← HP.out.2], HK2.out⟩)⟩)
  | true =>
    go_region_held3 (fun w' => Below w1.heap.size w1 w' ∧ w'.cell? ⟨BR, 0, none⟩ = some (.int .u64 (fh : Nat)) ∧ w'.cell? ⟨BR, 1, none⟩ = some (.int .u64 (fl : Nat)) ∧ w'.cell? ⟨BR, 2, none⟩ = some (.int .u64 (th : Nat)) ∧ w'.cell? ⟨BR, 3, none⟩ = some (.int .u64 (tl : Nat))) (first | exact keep00 hC1 | exact keep0 hC1 | exact keepD hC1 (by assumption) | exact keepB hC1 hb (by assumption) | exact keepB hC1 (by assumption) (by assumption))
      (first
        | (go_at_call 104; refine (ccm _).mono ?_; rintro e w' ⟨rfl, hb⟩)
        | (go_at_call_of 105 (Value.agg #[Value.int IntKind.u64 (fh : Int), Value.int IntKind.u64 (fl : Int)]); refine (ci1 _).mono ?_; rintro e w' ⟨rfl, hb⟩)
        | (go_at_call 105; refine (ci2 _).mono ?_; rintro e w' ⟨rfl, hb⟩))
    obtain ⟨hbS, s0, s1, s2, s3⟩ : Below w1.heap.size w1 _ ∧ _ ∧ _ ∧ _ ∧ _ := by assumption
    have bS := bel_via bw1 hbS
    have hGS := hG.on bS
    by_cases e1 : fh = th
    · subst e1
      by_cases e2 : fl = tl
      · subst e2
        clear cp2 cit ccm ci1 ci2 hC1 hok
        go_wp2_with (go_at_call 106; refine (cp1 _ hGS).mono ?_; rintro e w2 ⟨rfl, hb2⟩)
        go_ret2
        exact ⟨⟨P1.toArray⟩, rfl, bel_via bS hb2, .inl ⟨rfl, rfl, by rw [← HP.out.1]⟩⟩
      · have hA1 : ((fl : Int) == (tl : Int)) = false := by rw [beq_eq_false_iff_ne]; omega
        have hA2 : (fl == tl) = false := by rw [beq_eq_false_iff_ne]; exact e2
        clear e2
        cases ok with
        | true =>
          clear HK
          have hpv := hok rfl
          obtain ⟨n0, n1⟩ := preV_bd hpv
          obtain ⟨m, rfl⟩ : ∃ m : Nat, n = (m : Nat) := ⟨n.toNat, by omega⟩
          have hm : m ≤ 128 := by omega
          have HV := Lib.hid hpv
          have ci := cit m hm
          have ld := digs10_len (n := m) 2 (by omega)
          obtain ⟨D, hD⟩ : ∃ D, D = digs 10 m := ⟨_, rfl⟩
          rw [← hD] at ci ld
          have HD := Lib.hid hD
          have h47 : ∀ W, (Op.stringOp .add ⟨P1.toArray⟩ ⟨#[47]⟩).run Tryz.prog W = .ok (.string ⟨(P1 ++ [47]).toArray⟩) W := fun W => run_string_add_lists W P1 [47] (by omega) (by simp)
          have hcat : ∀ W, (Op.stringOp .add ⟨(P1 ++ [47]).toArray⟩ ⟨D.toArray⟩).run Tryz.prog W = .ok (.string ⟨(P1 ++ [47] ++ D).toArray⟩) W := fun W => run_string_add_lists W (P1 ++ [47]) D (by simp; omega) (by omega)
          clear cp2 cit ccm ci1 ci2 hC1 hok hpv hD
          go_wp2_with (first
            | (go_at_call 106; refine (cp1 _ hGS).mono ?_; rintro e w2 ⟨rfl, hb2⟩)
            | (go_at_call 107; refine (ci _ (hGS.on hb2)).mono ?_; rintro e w3 ⟨rfl, hb3⟩))
          go_ret2
          exact ⟨⟨(P1 ++ 47 :: D).toArray⟩, rfl, bel_via (bel_via bS hb2) hb3, .inr (.inl ⟨m, hm, HV.out, by rw [← HP.out.1, ← HD.out], fun h => by first | (simp [h.1] at hA2; done) | (simp [h.2] at hA2; done)⟩)⟩
        | false =>
          have HK2 : Hid (∀ m : Int, preV (fh : Int) (fl : Int) m ≠ some ((fh : Int), (tl : Int))) := Lib.hid (HK.out rfl)
          clear HK
          have h45 : ∀ W, (Op.stringOp .add ⟨P1.toArray⟩ ⟨#[45]⟩).run Tryz.prog W = .ok (.string ⟨(P1 ++ [45]).toArray⟩) W := fun W => run_string_add_lists W P1 [45] (by omega) (by simp)
          have hcat : ∀ W, (Op.stringOp .add ⟨(P1 ++ [45]).toArray⟩ ⟨P2.toArray⟩).run Tryz.prog W = .ok (.string ⟨(P1 ++ [45] ++ P2).toArray⟩) W := fun W => run_string_add_lists W (P1 ++ [45]) P2 (by simp; omega) (by omega)
          clear cit ccm ci1 ci2 hok
          go_wp2
          obtain ⟨wq, hwq⟩ : ∃ v : World, Below w1.heap.size w1 v := ⟨_, hbS⟩
          go_region_held3 (fun w' => Below w1.heap.size w1 w' ∧ w'.cell? ⟨BR, 0, none⟩ = some (.int .u64 (fh : Nat)) ∧ w'.cell? ⟨BR, 1, none⟩ = some (.int .u64 (fl : Nat)) ∧ w'.cell? ⟨BR, 2, none⟩ = some (.int .u64 (fh : Nat)) ∧ w'.cell? ⟨BR, 3, none⟩ = some (.int .u64 (tl : Nat))) (first | exact keep00 hC1 | exact keep0 hC1 | exact keepD hC1 (by assumption) | exact keepB hC1 hb (by assumption) | exact keepB hC1 (by assumption) (by assumption) | exact ⟨Below.dr hbS, s0, s1, s2, s3⟩ | exact ⟨hbS, s0, s1, s2, s3⟩)
            (first
              | (go_at_call_of 106 (Value.agg #[Value.int IntKind.u64 (fh : Int), Value.int IntKind.u64 (fl : Int)]); refine (cp1 _ ((hG.on bw1).on (And.left (by assumption)))).mono ?_; rintro e w' ⟨rfl, hb⟩)
              | (go_at_call 106; refine (cp2 _ ((hG.on bw1).on (And.left (by assumption)))).mono ?_; rintro e w' ⟨rfl, hb⟩))
          all_goals (go_wp2; go_ret2; exact ⟨⟨(P1 ++ 45 :: P2).toArray⟩, rfl, by have hx : Below w1.heap.size w1 _ := And.left (by assumption); exact bel_via bw1 hx, .inr (.inr ⟨by rw [← HP.out.1, ← HP.out.2], HK2.out⟩)⟩)
    · have hA1 : ((fh : Int) == (th : Int)) = false := by rw [beq_eq_false_iff_ne]; omega
      have hA2 : (fh == th) = false := by rw [beq_eq_false_iff_ne]; exact e1
      clear e1
      cases ok with
      | true =>
        clear HK
        have hpv := hok rfl
        obtain ⟨n0, n1⟩ := preV_bd hpv
        obtain ⟨m, rfl⟩ : ∃ m : Nat, n = (m : Nat) := ⟨n.toNat, by omega⟩
        have hm : m ≤ 128 := by omega
        have HV := Lib.hid hpv
        have ci := cit m hm
        have ld := digs10_len (n := m) 2 (by omega)
        obtain ⟨D, hD⟩ : ∃ D, D = digs 10 m := ⟨_, rfl⟩
        rw [← hD] at ci ld
        have HD := Lib.hid hD
        have h47 : ∀ W, (Op.stringOp .add ⟨P1.toArray⟩ ⟨#[47]⟩).run Tryz.prog W = .ok (.string ⟨(P1 ++ [47]).toArray⟩) W := fun W => run_string_add_lists W P1 [47] (by omega) (by simp)
        have hcat : ∀ W, (Op.stringOp .add ⟨(P1 ++ [47]).toArray⟩ ⟨D.toArray⟩).run Tryz.prog W = .ok (.string ⟨(P1 ++ [47] ++ D).toArray⟩) W := fun W => run_string_add_lists W (P1 ++ [47]) D (by simp; omega) (by omega)
        clear cp2 cit ccm ci1 ci2 hC1 hok hpv hD
        go_wp2_with (first
          | (go_at_call 106; refine (cp1 _ hGS).mono ?_; rintro e w2 ⟨rfl, hb2⟩)
          | (go_at_call 107; refine (ci _ (hGS.on hb2)).mono ?_; rintro e w3 ⟨rfl, hb3⟩))
        go_ret2
        exact ⟨⟨(P1 ++ 47 :: D).toArray⟩, rfl, bel_via (bel_via bS hb2) hb3, .inr (.inl ⟨m, hm, HV.out, by rw [← HP.out.1, ← HD.out], fun h => by first | (simp [h.1] at hA2; done) | (simp [h.2] at hA2; done)⟩)⟩
      | false =>
        have HK2 : Hid (∀ m : Int, preV (fh : Int) (fl : Int) m ≠ some ((th : Int), (tl : Int))) := Lib.hid (HK.out rfl)
        clear HK
        have h45 : ∀ W, (Op.stringOp .add ⟨P1.toArray⟩ ⟨#[45]⟩).run Tryz.prog W = .ok (.string ⟨(P1 ++ [45]).toArray⟩) W := fun W => run_string_add_lists W P1 [45] (by omega) (by simp)
        have hcat : ∀ W, (Op.stringOp .add ⟨(P1 ++ [45]).toArray⟩ ⟨P2.toArray⟩).run Tryz.prog W = .ok (.string ⟨(P1 ++ [45] ++ P2).toArray⟩) W := fun W => run_string_add_lists W (P1 ++ [45]) P2 (by simp; omega) (by omega)
        clear cit ccm ci1 ci2 hok
        go_wp2
        obtain ⟨wq, hwq⟩ : ∃ v : World, Below w1.heap.size w1 v := ⟨_, hbS⟩
        go_region_held3 (fun w' => Below w1.heap.size w1 w' ∧ w'.cell? ⟨BR, 0, none⟩ = some (.int .u64 (fh : Nat)) ∧ w'.cell? ⟨BR, 1, none⟩ = some (.int .u64 (fl : Nat)) ∧ w'.cell? ⟨BR, 2, none⟩ = some (.int .u64 (th : Nat)) ∧ w'.cell? ⟨BR, 3, none⟩ = some (.int .u64 (tl : Nat))) (first | exact keep00 hC1 | exact keep0 hC1 | exact keepD hC1 (by assumption) | exact keepB hC1 hb (by assumption) | exact keepB hC1 (by assumption) (by assumption) | exact ⟨Below.dr hbS, s0, s1, s2, s3⟩ | exact ⟨hbS, s0, s1, s2, s3⟩)
          (first
            | (go_at_call_of 106 (Value.agg #[Value.int IntKind.u64 (fh : Int), Value.int IntKind.u64 (fl : Int)]); refine (cp1 _ ((hG.on bw1).on (And.left (by assumption)))).mono ?_; rintro e w' ⟨rfl, hb⟩)
            | (go_at_call 106; refine (cp2 _ ((hG.on bw1).on (And.left (by assumption)))).mono ?_; rintro e w' ⟨rfl, hb⟩))
        all_goals (go_wp2; go_ret2; exact ⟨⟨(P1 ++ 45 :: P2).toArray⟩, rfl, by have hx : Below w1.heap.size w1 _ := And.left (by assumption); exact bel_via bw1 hx, .inr (.inr ⟨by rw [← HP.out.1, ← HP.out.2], HK2.out⟩)⟩)
end Go.Proofs.YtmnnjkdmnfadhaaGreatDoor
