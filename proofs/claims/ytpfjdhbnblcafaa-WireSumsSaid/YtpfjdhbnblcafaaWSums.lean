/- WireSums's walk; by-name template. -/
import Derived.Test.YtpfjdhbnblcafaaWNum
import Derived.OwnWalk
import Derived.Deep.AppendLies
import Derived.Laws.OwnMore
namespace Go.Proofs.Ytpfjdhbnblcafaa
open Go.RowKit
set_option linter.unusedVariables false
set_option linter.unusedSimpArgs false

/-- Bytes as cells. -/
def bc (l : List UInt8) : List Value := l.map fun x => Value.int .u8 (x.toNat : Nat)
theorem bc_get {l : List UInt8} {k : Nat} {x : UInt8} (h : l[k]? = some x) : (bc l)[k]? = some (.int .u8 (x.toNat : Nat)) := by simp [bc, h]
theorem info8 : (Try.prog.info? 5).map (fun i => (i.zero, i.size, i.bytes)) = some (some (.int .u8 0), 1, 1) := by kernel_rfl

/-- A row of the call's own, its block written out. -/
theorem own_form {w : World} {B : Nat} {e : TypeId} {v : Value} {n : Nat} {xs : List Value} (h : w.ownsRow B e 1 v n xs) (hn : 0 < n) :
    ∃ g cap, v = .slice (some ⟨g, 0, none⟩) n cap ∧ B ≤ g ∧ g < w.heap.size ∧ n ≤ cap ∧ cap ≤ maxLen ∧ (∀ k u, xs[k]? = some u → w.cell? ⟨g, k, none⟩ = some u) ∧ ∀ k, w.frozen? ⟨g, k, none⟩ = false := by
  have h' := h
  rcases h.2 with ⟨_, h0⟩ | ⟨g, cap, cur, rfl, h1, h2, h3, h4, h5, h6⟩
  · omega
  · refine ⟨g, cap, rfl, h1, (Array.getElem?_eq_some_iff.1 h2).1, h3, h4, fun k u hu => ?_, fun k => by simp [World.frozen?, h2]⟩
    have := h'.cells (g := g) rfl k u hu
    have e : (⟨g, 0, none⟩ : Addr).add k = ⟨g, k, none⟩ := by unfold Addr.add; split <;> simp_all
    rw [← e]; exact this

theorem own_set {w : World} {B : Nat} {e : TypeId} {g n cap : Nat} {xs : List Value} (h : w.ownsRow B e 1 (.slice (some ⟨g, 0, none⟩) n cap) n xs) (i : Nat) (hi : i < n) (u : Value) :
    (w.setCell ⟨g, i, none⟩ u).ownsRow B e 1 (.slice (some ⟨g, 0, none⟩) n cap) n (xs.set i u) := by
  obtain ⟨h0, h1⟩ := h
  refine ⟨by simpa using h0, .inr ?_⟩
  rcases h1 with ⟨h2, _⟩ | ⟨g', cap', cur, hv, k1, k2, k3, k4, k5, k6⟩
  · cases h2
  · injection hv with e1 e2 e3
    injection e1 with e1
    injection e1 with e1
    subst e1; subst e3
    refine ⟨g, cap, cur.setIfInBounds i u, rfl, k1, by simp [World.setCell, Array.getElem?_modify, k2], k3, k4, by simpa using k5, ?_⟩
    rw [Array.toList_setIfInBounds, List.take_set, k6]

theorem Byt.own {w : World} {B : Nat} {e : TypeId} {g n cap : Nat} {l : List UInt8} (h : w.ownsRow B e 1 (.slice (some ⟨g, 0, none⟩) n cap) n (bc l)) : Byt w g 0 l := fun k x hx => by
  have := h.cells (g := g) rfl k _ (bc_get hx)
  have e : (⟨g, 0, none⟩ : Addr).add k = ⟨g, k, none⟩ := by unfold Addr.add; split <;> simp_all
  rw [e] at this
  simpa using this

theorem below_set {N B : Nat} {w w1 : World} (h : Below N w w1) (hB : N ≤ B) (o : Nat) (v : Value) : Below N w (w1.setCell ⟨B, o, none⟩ v) :=
  ⟨h.os, h.tape, h.output, by simpa [World.setCell] using h.size, fun k hk => by
    have : B ≠ k := by omega
    simp only [World.setCell, Array.getElem?_modify]
    rw [if_neg this]; exact h.block k hk⟩

theorem long_any (A : Option Addr) (n c : Nat) (hn : n ≤ 9223372036854775807) (w : World) : Calls Try.prog 10 #[.slice A n c] w fun e w' => e = .returned (.bool (decide (65536 < n))) ∧ w = w' := by
  by_cases h : 65536 < n
  · have hi : (65536 : Int) < (n : Int) := by omega
    have e : decide (65536 < n) = true := by simp [h]
    rw [e]
    go_enter Try.func10, Try.ntmps10
    go_wp2
    go_ret
    exact ⟨by first | rfl | simp, rfl⟩
  · have hi : decide ((65536 : Int) < (n : Int)) = false := by simp; omega
    have e : decide (65536 < n) = false := by simp [h]
    rw [e]
    go_enter Try.func10, Try.ntmps10
    go_wp2
    go_ret
    exact ⟨by first | rfl | simp, rfl⟩

/-- Where a byte goes: i taken by h, from 0 on. -/
theorem place (i : Int) (h : Nat) (h2 : 2 ≤ h) : ∃ (p : Int) (q j : Nat), i.tmod (h : Int) = p ∧ p + (h : Int) = (q : Int) ∧ (q : Int).tmod (h : Int) = (j : Int) ∧ (q : Int) % (h : Int) = (j : Int) ∧ j < h ∧ -(h : Int) < p ∧ p < (h : Int) ∧ q < 2 * h := by
  have hp : i.tmod (h : Int) < (h : Int) := Int.tmod_lt_of_pos _ (by omega)
  have hm : -(h : Int) < i.tmod (h : Int) := by
    have h1 := Int.neg_tmod (a := -i) (b := (h : Int))
    rw [Int.neg_neg] at h1
    have h3 : (-i).tmod (h : Int) < (h : Int) := Int.tmod_lt_of_pos _ (by omega)
    omega
  have hq : i.tmod (h : Int) + (h : Int) = ((i.tmod (h : Int) + (h : Int)).toNat : Int) := by omega
  have hmod : ((i.tmod (h : Int) + (h : Int)).toNat : Int) % (h : Int) = (((i.tmod (h : Int) + (h : Int)).toNat % h : Nat) : Int) := by omega
  refine ⟨_, (i.tmod (h : Int) + (h : Int)).toNat, (i.tmod (h : Int) + (h : Int)).toNat % h, rfl, hq, ?_, hmod, Nat.mod_lt _ (by omega), hm, hp, by omega⟩
  rw [Int.tmod_eq_emod_of_nonneg (by omega)]; exact hmod

theorem stop_op {P : Program} {w : World} {ops : Array Oper} {rest : List Oper} {o : Oper} {a : Act} {Q : Exit → Act → World → Prop} (h : Hid (wpList P ops Q (o :: rest) a w)) : wpList P ops Q (o :: rest) a w := h.out
theorem bc_set (l : List UInt8) (i : Nat) (x : UInt8) : bc (l.set i x) = (bc l).set i (.int .u8 (x.toNat : Nat)) := by simp [bc, List.map_set]
theorem bc_app (l m : List UInt8) : bc (l ++ m) = bc l ++ bc m := by simp [bc]

def SumsPost (w : World) (e : Ending) (w' : World) : Prop := e = .returned (.bool true) ∧ Below w.heap.size w w'

set_option maxHeartbeats 2000000 in
set_option maxRecDepth 100000 in
theorem sums_mid (g o c n : Nat) (l : List UInt8) (i k : Int) (hn : l.length = n) (hc : n ≤ c) (hcm : c ≤ 9223372036854775807) (h4 : 4 ≤ n) (hm : n ≤ 65536) {w : World} (hb : Byt w g o l) :
    Calls Try.prog 5 #[.slice (some ⟨g, o, none⟩) n c, .int .i64 i, .int .i64 k] w (SumsPost w) := by
  have hni : (n : Int) ≤ 65536 := by omega
  have h4i : (4 : Int) ≤ (n : Int) := by omega
  have cl := long_any (some ⟨g, o, none⟩) n c (by omega) w
  rw [show decide (65536 < n) = false by simp; omega] at cl
  have cs := sum_any g o c n l hn hc hcm (by omega) hb
  have cr := rsum_any g o c n l hn (by omega) hb
  have hS := sumP_le l
  obtain ⟨S, hSe⟩ : ∃ S, S = sumP l := ⟨_, rfl⟩
  rw [← hSe] at cs cr hS
  have HS := Lib.hid hSe
  have HN := Lib.hid hn
  have HB := Lib.hid hb
  have hSi : (S : Int) ≤ 65535 := by omega
  clear hSe hn hb
  obtain ⟨i0, hi, hz0, hz1, hz2⟩ := info_parts info8
  go_enter Try.func5, Try.ntmps5
  go_wp2_with (first | (go_at_call 10; refine cl.mono ?_; rintro e w' ⟨rfl, rfl⟩) | (go_at_call 15; refine cs.mono ?_; rintro e w' ⟨rfl, rfl⟩) | (go_at_call 16; refine cr.mono ?_; rintro e w' ⟨rfl, rfl⟩) | (at_builtin; go_loud (refine wpList_append_own _ rfl _ _ 22 rfl w.heap.size 5 i0 (.int .u8 0) 1 1 Try.underlying22 hi hz0 hz1 hz2 rfl (by decide) _ _ _ rfl (World.ownsRow_made w #[] 0 (Nat.le_refl _) (by unfold maxLen; omega) rfl) ⟨g, o, none⟩ n c (bc l) rfl (by rw [Nat.mul_one, ← HN.out]; simp [bc]) ?c1 ?c2 ?c3 ?c4 ?c5 ?c6)))
  case c6 =>
    intro v3 w3 hown3 hgrow _
    have hown3 : w3.ownsRow w.heap.size 5 1 v3 n (bc l) := by first | exact hown3 | simpa using hown3
    have hb3 : Below w.heap.size w w3 := (Below.al (Below.refl _ _) _).grown hgrow (by simp) (fun k hk => by simp [Value.ownBlock] at hk; omega)
    clear hgrow
    obtain ⟨h, hh⟩ : ∃ h, h = n / 2 := ⟨_, rfl⟩
    have hh1 : (n : Int) / 2 = (h : Int) := by omega
    have hh2 : (n : Int).tdiv 2 = (h : Int) := by rw [Int.tdiv_eq_ediv_of_nonneg (by omega)]; exact hh1
    have h2h : 2 ≤ h := by omega
    have hhn : 2 * h ≤ n := by omega
    have hhi : (h : Int) ≤ 32768 := by omega
    have hh0 : ((h : Int) == 0) = false := by simp; omega
    clear hh
    obtain ⟨p1, q1, j1, a1, a2, a3, a4, a5, a6, a7, a8⟩ := place i h h2h
    obtain ⟨p2, q2, j2, b1, b2, b3, b4, b5, b6, b7, b8⟩ := place k h h2h
    obtain ⟨J, hJ⟩ : ∃ J, J = 2 * j1 := ⟨_, rfl⟩
    obtain ⟨K, hK⟩ : ∃ K, K = 2 * j2 := ⟨_, rfl⟩
    have eJ : (j1 : Int) * 2 = (J : Int) := by omega
    have eK : (j2 : Int) * 2 = (K : Int) := by omega
    have hJn : J < n := by omega
    have hKn : K < n := by omega
    have HJ := Lib.hid hJ
    have HK := Lib.hid hK
    clear hJ hK
    have common : ∃ L m, (l = L ∧ n % 2 = 0 ∧ m = n) ∨ (L = l ++ [0] ∧ n % 2 = 1 ∧ m = n + 1) := by
      by_cases hp : n % 2 = 0
      · exact ⟨l, n, .inl ⟨rfl, hp, rfl⟩⟩
      · exact ⟨_, _, .inr ⟨rfl, by omega, rfl⟩⟩
    obtain ⟨L, m, hcase⟩ := common
    have hLw : L.length = m ∧ m % 2 = 0 ∧ w16 L = w16 l ∧ n ≤ m ∧ m ≤ n + 1 := by
      have := HN.out
      rcases hcase with ⟨e1, e2, e3⟩ | ⟨e1, e2, e3⟩
      · subst e1; exact ⟨by omega, by omega, rfl, by omega, by omega⟩
      · subst e1; exact ⟨by rw [List.length_append]; simp; omega, by omega, w16_pad l (by omega), by omega, by omega⟩
    obtain ⟨hL1, hL2, hL3, hL4, hL5⟩ := hLw
    have HL := Lib.hid (show L.length = m ∧ m % 2 = 0 ∧ w16 L = w16 l from ⟨hL1, hL2, hL3⟩)
    obtain ⟨x, hx⟩ : ∃ x, L[J]? = some x := ⟨L[J]'(by omega), List.getElem?_eq_getElem _⟩
    obtain ⟨y, hy⟩ : ∃ y, L[K]? = some y := ⟨L[K]'(by omega), List.getElem?_eq_getElem _⟩
    have HX := Lib.hid hx
    have HY := Lib.hid hy
    clear hL1 hL2 hL3 hx hy
    have hmi : (m : Int) ≤ 65537 := by omega
    have hJm : (J : Int) < (m : Int) := by omega
    have hKm : (K : Int) < (m : Int) := by omega
    rcases hcase with ⟨e1, e2, e3⟩ | ⟨e1, e2, e3⟩
    · have hr : (m : Int) % 2 = 0 := by omega
      have hr2 : (m : Int).tmod 2 = 0 := by rw [Int.tmod_eq_emod_of_nonneg (by omega)]; exact hr
      have hown4 : w3.ownsRow w.heap.size 5 1 v3 m (bc L) := by rw [← e1, e3]; exact hown3
      clear e1 e2 e3 hown3
      obtain ⟨v4, w4, hv4, hw4⟩ : ∃ v w, v = v3 ∧ w = w3 := ⟨_, _, rfl, rfl⟩
      rw [← hv4, ← hw4] at hown4 ⊢
      rw [← hw4] at hb3
      have hb4 := hb3
      clear hv4 hw4 hb3
      obtain ⟨gx, cx, hv5, hgx, hgl, hmc, hcm2, hcells, hfrz⟩ := own_form hown4 (by omega)
      subst hv5
      have cJ := hcells J _ (bc_get HX.out)
      have cK := hcells K _ (bc_get HY.out)
      have fJ := hfrz J
      have fK := hfrz K
      clear hcells hfrz
      have hown5 := own_set (own_set hown4 J (by omega) (.int .u8 (y.toNat : Nat))) K (by omega) (.int .u8 (x.toNat : Nat))
      rw [← bc_set, ← bc_set] at hown5
      have hb5 : Below w.heap.size w ((w4.setCell ⟨gx, J, none⟩ (.int .u8 (y.toNat : Nat))).setCell ⟨gx, K, none⟩ (.int .u8 (x.toNat : Nat))) := below_set (below_set hb4 hgx J _) hgx K _
      obtain ⟨L2, hL2e⟩ : ∃ L2, L2 = (L.set J y).set K x := ⟨_, rfl⟩
      rw [← hL2e] at hown5
      have hL2w : w16 L2 = w16 L := by
        have h1 := HX.out
        have h2 := HY.out
        rw [HJ.out] at h1 hL2e
        rw [HK.out] at h2 hL2e
        rw [hL2e]; exact w16_swap h1 h2
      have hL2l : L2.length = m := by rw [hL2e, List.length_set, List.length_set]; exact HL.out.1
      have hL2s : sumP L2 = S := by
        have h1 := HL.out.2.2
        rw [HS.out]; unfold sumP; rw [hL2w, h1]
      have hm2 : m % 2 = 0 := HL.out.2.1
      clear hL2e hL2w HX HY HJ HK hown4 hb4
      have cs5 := sum_any gx 0 cx m L2 hL2l hmc (by unfold maxLen at hcm2; omega) (by omega) (Byt.own hown5)
      rw [hL2s] at cs5
      have HL2 := Lib.hid (show L2.length = m ∧ m % 2 = 0 ∧ sumP L2 = S from ⟨hL2l, hm2, hL2s⟩)
      clear hL2l hm2 hL2s HL
      obtain ⟨A, hA⟩ : ∃ A, A = S / 256 := ⟨_, rfl⟩
      obtain ⟨B, hB⟩ : ∃ B, B = S % 256 := ⟨_, rfl⟩
      have hA1 : (S : Int) / 256 = (A : Int) := by omega
      have hB1 : (S : Int) % 256 = (B : Int) := by omega
      have hA2 : (A : Int) < 256 := by omega
      have hB2 : (B : Int) < 256 := by omega
      have hAB : A * 256 + B = S := by omega
      clear hA hB
      have HAB := Lib.hid hAB
      clear hAB
      go_wp2_with (with_reducible refine stop_op (o := ⟨none, .store 5 (.tmp 84) (.tmp 83), _, _, _, _⟩) ?_)
      obtain ⟨wa, hwa⟩ : ∃ v, v = w4.setCell ⟨gx, J, none⟩ (.int .u8 (y.toNat : Nat)) := ⟨_, rfl⟩
      have cK2 : ∃ u, wa.cell? ⟨gx, K, none⟩ = some u := by
        rw [hwa]
        by_cases hJK : J = K
        · subst hJK; exact ⟨_, World.cell?_setCell_same _ _ _ cJ⟩
        · exact ⟨_, (World.cell?_setCell_other _ _ _ _ (by intro e; injection e with _ e2; exact hJK e2)).trans cK⟩
      obtain ⟨u2, cK3⟩ := cK2
      have fK3 : wa.frozen? ⟨gx, K, none⟩ = false := by rw [hwa, World.frozen?_setCell]; exact fK
      rw [← hwa] at hown5 hb5 cs5 ⊢
      clear hwa cJ cK fJ fK
      refine Lib.hid ?_
      go_wp2_with (go_at_call 15; refine cs5.mono ?_; rintro e w' ⟨rfl, rfl⟩; refine Hid.out ?_)
      obtain ⟨w5, hw5⟩ : ∃ v, v = wa.setCell ⟨gx, K, none⟩ (.int .u8 (x.toNat : Nat)) := ⟨_, rfl⟩
      rw [← hw5] at hown5 hb5 ⊢
      clear hw5 cs5 cK3 fK3
      refine Lib.hid ?_
      have hs5 : w.heap.size ≤ w5.heap.size := hb5.size
      go_wp2_with (at_builtin; refine wpList_append_own _ rfl _ _ 22 rfl w.heap.size 5 i0 (.int .u8 0) 1 1 Try.underlying22 hi hz0 hz1 hz2 rfl (by decide) _ _ _ rfl (hown5.alloc _) ⟨w5.heap.size, 0, none⟩ 2 2 [Value.int .u8 (A : Int), Value.int .u8 (B : Int)] rfl rfl (by intro j u' hj; match j, hj with | 0, hj => (simp at hj; subst hj; simp [Addr.add]) | 1, hj => (simp at hj; subst hj; simp [Addr.add])) (by intro u' hu'; simp at hu'; rcases hu' with rfl | rfl <;> rfl) (by unfold maxLen; omega) (by omega) (by simp; omega) ?_)
      intro v6 w6 hown6 hgrow6 _
      have hb6 : Below w.heap.size w w6 := (Below.al hb5 _).grown hgrow6 (by simp; omega) (fun k hk => (hown5.lt k hk).1)
      obtain ⟨g6, c6, hv6, _, _, hmc6, hcm6, _, _⟩ := own_form hown6 (by omega)
      subst hv6
      have e6 : bc L2 ++ [Value.int .u8 (A : Int), Value.int .u8 (B : Int)] = bc (L2 ++ [UInt8.ofNat A, UInt8.ofNat B]) := by
        rw [bc_app]
        have h1 : (UInt8.ofNat A).toNat = A := by rw [UInt8.toNat_ofNat']; omega
        have h2 : (UInt8.ofNat B).toNat = B := by rw [UInt8.toNat_ofNat']; omega
        simp [bc, h1, h2]
      rw [e6] at hown6
      have cs6 := sum_any g6 0 c6 (m + 2) _ (by rw [List.length_append]; have := HL2.out.1; simp; omega) hmc6 (by unfold maxLen at hcm6; omega) (by omega) (Byt.own hown6)
      have ez : sumP (L2 ++ [UInt8.ofNat A, UInt8.ofNat B]) = 0 := by
        refine sumP_own (by have := HL2.out; omega) ?_
        have h1 : (UInt8.ofNat A).toNat = A := by rw [UInt8.toNat_ofNat']; omega
        have h2 : (UInt8.ofNat B).toNat = B := by rw [UInt8.toNat_ofNat']; omega
        rw [h1, h2, HAB.out]; exact HL2.out.2.2.symm
      rw [ez] at cs6
      clear e6 ez hown6 hgrow6 hown5 hb5
      go_wp2_with (go_at_call 15; refine cs6.mono ?_; rintro e w' ⟨rfl, rfl⟩)
      go_ret
      exact ⟨rfl, hb6⟩
    · have hr : (n : Int) % 2 = 1 := by omega
      have hr2 : (n : Int).tmod 2 = 1 := by rw [Int.tmod_eq_emod_of_nonneg (by omega)]; exact hr
      have HE := Lib.hid (show L = l ++ [0] ∧ m = n + 1 from ⟨e1, e3⟩)
      clear e1 e2 e3
      obtain ⟨g3, c3, hv3, _, _, hmc3, hcm3, _, _⟩ := own_form hown3 (by omega)
      subst hv3
      go_wp2_with (at_builtin; go_loud (refine wpList_append_own _ rfl _ _ 22 rfl w.heap.size 5 i0 (.int .u8 0) 1 1 Try.underlying22 hi hz0 hz1 hz2 rfl (by decide) _ _ _ rfl (hown3.alloc _) ⟨w3.heap.size, 0, none⟩ 1 1 [Value.int .u8 0] rfl rfl (by intro j u' hj; match j, hj with | 0, hj => simp at hj; subst hj; simp [Addr.add]) (by intro u' hu'; simp at hu'; subst hu'; rfl) (by unfold maxLen; omega) (by omega) (by have := hb3.size; simp; omega) ?_))
      intro v4 w4 hown4' hgrow4 _
      have hown4 : w4.ownsRow w.heap.size 5 1 v4 m (bc L) := by
        obtain ⟨e1, e2⟩ := HE.out
        rw [e1, e2, bc_app]; exact hown4'
      have hb4 : Below w.heap.size w w4 := (Below.al hb3 _).grown hgrow4 (by have := hb3.size; simp; omega) (fun k hk => (hown3.lt k hk).1)
      clear hown4' hgrow4 hown3 hb3 HE
      obtain ⟨gx, cx, hv5, hgx, hgl, hmc, hcm2, hcells, hfrz⟩ := own_form hown4 (by omega)
      subst hv5
      have cJ := hcells J _ (bc_get HX.out)
      have cK := hcells K _ (bc_get HY.out)
      have fJ := hfrz J
      have fK := hfrz K
      clear hcells hfrz
      have hown5 := own_set (own_set hown4 J (by omega) (.int .u8 (y.toNat : Nat))) K (by omega) (.int .u8 (x.toNat : Nat))
      rw [← bc_set, ← bc_set] at hown5
      have hb5 : Below w.heap.size w ((w4.setCell ⟨gx, J, none⟩ (.int .u8 (y.toNat : Nat))).setCell ⟨gx, K, none⟩ (.int .u8 (x.toNat : Nat))) := below_set (below_set hb4 hgx J _) hgx K _
      obtain ⟨L2, hL2e⟩ : ∃ L2, L2 = (L.set J y).set K x := ⟨_, rfl⟩
      rw [← hL2e] at hown5
      have hL2w : w16 L2 = w16 L := by
        have h1 := HX.out
        have h2 := HY.out
        rw [HJ.out] at h1 hL2e
        rw [HK.out] at h2 hL2e
        rw [hL2e]; exact w16_swap h1 h2
      have hL2l : L2.length = m := by rw [hL2e, List.length_set, List.length_set]; exact HL.out.1
      have hL2s : sumP L2 = S := by
        have h1 := HL.out.2.2
        rw [HS.out]; unfold sumP; rw [hL2w, h1]
      have hm2 : m % 2 = 0 := HL.out.2.1
      clear hL2e hL2w HX HY HJ HK hown4 hb4
      have cs5 := sum_any gx 0 cx m L2 hL2l hmc (by unfold maxLen at hcm2; omega) (by omega) (Byt.own hown5)
      rw [hL2s] at cs5
      have HL2 := Lib.hid (show L2.length = m ∧ m % 2 = 0 ∧ sumP L2 = S from ⟨hL2l, hm2, hL2s⟩)
      clear hL2l hm2 hL2s HL
      obtain ⟨A, hA⟩ : ∃ A, A = S / 256 := ⟨_, rfl⟩
      obtain ⟨B, hB⟩ : ∃ B, B = S % 256 := ⟨_, rfl⟩
      have hA1 : (S : Int) / 256 = (A : Int) := by omega
      have hB1 : (S : Int) % 256 = (B : Int) := by omega
      have hA2 : (A : Int) < 256 := by omega
      have hB2 : (B : Int) < 256 := by omega
      have hAB : A * 256 + B = S := by omega
      clear hA hB
      have HAB := Lib.hid hAB
      clear hAB
      go_wp2_with (with_reducible refine stop_op (o := ⟨none, .store 5 (.tmp 84) (.tmp 83), _, _, _, _⟩) ?_)
      obtain ⟨wa, hwa⟩ : ∃ v, v = w4.setCell ⟨gx, J, none⟩ (.int .u8 (y.toNat : Nat)) := ⟨_, rfl⟩
      have cK2 : ∃ u, wa.cell? ⟨gx, K, none⟩ = some u := by
        rw [hwa]
        by_cases hJK : J = K
        · subst hJK; exact ⟨_, World.cell?_setCell_same _ _ _ cJ⟩
        · exact ⟨_, (World.cell?_setCell_other _ _ _ _ (by intro e; injection e with _ e2; exact hJK e2)).trans cK⟩
      obtain ⟨u2, cK3⟩ := cK2
      have fK3 : wa.frozen? ⟨gx, K, none⟩ = false := by rw [hwa, World.frozen?_setCell]; exact fK
      rw [← hwa] at hown5 hb5 cs5 ⊢
      clear hwa cJ cK fJ fK
      refine Lib.hid ?_
      go_wp2_with (go_at_call 15; refine cs5.mono ?_; rintro e w' ⟨rfl, rfl⟩; refine Hid.out ?_)
      obtain ⟨w5, hw5⟩ : ∃ v, v = wa.setCell ⟨gx, K, none⟩ (.int .u8 (x.toNat : Nat)) := ⟨_, rfl⟩
      rw [← hw5] at hown5 hb5 ⊢
      clear hw5 cs5 cK3 fK3
      refine Lib.hid ?_
      have hs5 : w.heap.size ≤ w5.heap.size := hb5.size
      go_wp2_with (at_builtin; refine wpList_append_own _ rfl _ _ 22 rfl w.heap.size 5 i0 (.int .u8 0) 1 1 Try.underlying22 hi hz0 hz1 hz2 rfl (by decide) _ _ _ rfl (hown5.alloc _) ⟨w5.heap.size, 0, none⟩ 2 2 [Value.int .u8 (A : Int), Value.int .u8 (B : Int)] rfl rfl (by intro j u' hj; match j, hj with | 0, hj => (simp at hj; subst hj; simp [Addr.add]) | 1, hj => (simp at hj; subst hj; simp [Addr.add])) (by intro u' hu'; simp at hu'; rcases hu' with rfl | rfl <;> rfl) (by unfold maxLen; omega) (by omega) (by simp; omega) ?_)
      intro v6 w6 hown6 hgrow6 _
      have hb6 : Below w.heap.size w w6 := (Below.al hb5 _).grown hgrow6 (by simp; omega) (fun k hk => (hown5.lt k hk).1)
      obtain ⟨g6, c6, hv6, _, _, hmc6, hcm6, _, _⟩ := own_form hown6 (by omega)
      subst hv6
      have e6 : bc L2 ++ [Value.int .u8 (A : Int), Value.int .u8 (B : Int)] = bc (L2 ++ [UInt8.ofNat A, UInt8.ofNat B]) := by
        rw [bc_app]
        have h1 : (UInt8.ofNat A).toNat = A := by rw [UInt8.toNat_ofNat']; omega
        have h2 : (UInt8.ofNat B).toNat = B := by rw [UInt8.toNat_ofNat']; omega
        simp [bc, h1, h2]
      rw [e6] at hown6
      have cs6 := sum_any g6 0 c6 (m + 2) _ (by rw [List.length_append]; have := HL2.out.1; simp; omega) hmc6 (by unfold maxLen at hcm6; omega) (by omega) (Byt.own hown6)
      have ez : sumP (L2 ++ [UInt8.ofNat A, UInt8.ofNat B]) = 0 := by
        refine sumP_own (by have := HL2.out; omega) ?_
        have h1 : (UInt8.ofNat A).toNat = A := by rw [UInt8.toNat_ofNat']; omega
        have h2 : (UInt8.ofNat B).toNat = B := by rw [UInt8.toNat_ofNat']; omega
        rw [h1, h2, HAB.out]; exact HL2.out.2.2.symm
      rw [ez] at cs6
      clear e6 ez hown6 hgrow6 hown5 hb5
      go_wp2_with (go_at_call 15; refine cs6.mono ?_; rintro e w' ⟨rfl, rfl⟩)
      go_ret
      exact ⟨rfl, hb6⟩
  case c1 =>
    intro j u hj
    have e : (⟨g, o, none⟩ : Addr).add j = ⟨g, o + j, none⟩ := by unfold Addr.add; split <;> simp_all
    rw [e]
    rw [bc, List.getElem?_map] at hj
    obtain ⟨x, hx, rfl⟩ := Option.map_eq_some_iff.1 hj
    exact keepc (Below.al (Below.refl _ _) _) (HB.out j x hx)
  case c2 =>
    intro u hu
    obtain ⟨x, _, rfl⟩ := List.mem_map.1 hu
    rfl
  case c3 => unfold maxLen; omega
  case c4 => omega
  case c5 => simp
end Go.Proofs.Ytpfjdhbnblcafaa
