/- heap.down on the queue; by-name template (gen_wdown.py). -/
import Derived.Test.YtdgodndaaenafaaWUp
namespace Go.Proofs.Ytdgodndaaenafaa
open Go.RowKit Go.Lib Go.Maps
set_option linter.unusedVariables false
set_option linter.unusedSimpArgs false

section
variable {w : World} {S : Nat → Prop} {Bw Mp : Nat} {A : Option Addr} {cap : Nat} {E : List DE}

/-- What down leaves: a heap, or it did nothing, and up is to follow. -/
def DownPost (w : World) (S : Nat → Prop) (Bw Mp : Nat) (A : Option Addr) (cap : Nat) (E : List DE) (i0 m : Nat) (e : Ending) (w' : World) : Prop :=
  ∃ b : Bool, e = .returned (.bool b) ∧ (b = true → HeapPost w S Bw Mp A cap E m w') ∧ (b = false → HQ w' S Bw Mp A cap E ∧ UpF (gk E) i0 m ∧ OffS S w w')

set_option maxHeartbeats 2000000 in
theorem down_any (h : HQ w S Bw Mp A cap E) {i0 m : Nat} (hi : i0 < m) (hm : m ≤ E.length) (hd : DownF (gk E) i0 i0 m) :
    Calls Try.prog 44 #[.iface 91 (qp Bw), .int .i64 (i0 : Int), .int .i64 (m : Int)] w (DownPost w S Bw Mp A cap E i0 m) := by
  obtain ⟨M, hM⟩ : ∃ M, M = DownPost w S Bw Mp A cap E i0 m := ⟨_, rfl⟩
  rw [← hM]
  have HM := Lib.hid hM
  clear hM
  have hbig := h.big
  have m1 := fun (w : World) (x : Value) (k : Nat) => hm_less k w x
  have m2 := fun (w : World) (x : Value) (k : Nat) => hm_swap k w x
  have HS := Lib.hid (And.intro h hd)
  clear h hd
  generalize hQ : qp Bw = Q
  have HQ' := Lib.hid hQ
  clear hQ
  go_enter Try.func44, Try.ntmps44
  go_wp2
  go_loopw [7] (fun c wr => ∃ (k : Nat) (E' : List DE), c = .int .i64 (k : Int) ∧ i0 ≤ k ∧ k < m ∧ HQ wr S Bw Mp A cap E' ∧ E'.Perm E ∧ DownF (gk E') i0 k m ∧ (k = i0 → E' = E) ∧ (∀ q, m ≤ q → E'[q]? = E[q]?) ∧ OffS S w wr) (fun c _ => m - (intOf c).toNat)
  case atStart => exact ⟨i0, E, rfl, Nat.le_refl _, hi, HS.out.1, List.Perm.refl _, HS.out.2, fun _ => rfl, fun _ _ => rfl, OffS.refl _ _⟩
  case round =>
    obtain ⟨k, E', rfl, hik, hk, hq, hp, hu, he, ht, ho⟩ := hrel
    have hlen := hp.length_eq
    have STAY : ∀ w2, Below wr.heap.size wr w2 → (∀ q, 0 < q → q < m → par q = k → ¬ LtK (gk E' q) (gk E' k)) → M (.returned (.bool (decide (i0 < k)))) w2 := fun w2 hb2 hs => by
      rw [HM.out]
      refine ⟨_, rfl, fun hb => ?_, fun hb => ?_⟩
      · have hlt := of_decide_eq_true hb
        exact ⟨E', hq.below hb2, hp, down_end hu hs (by omega), ht, ho.trans (offS_below hb2)⟩
      · have hlt := of_decide_eq_false hb
        have e1 : k = i0 := by omega
        subst e1
        obtain rfl := he rfl
        exact ⟨hq.below hb2, down_up hu hs, ho.trans (offS_below hb2)⟩
    have HSTAY := Lib.hid STAY
    have HP := Lib.hid (And.intro hp (And.intro hu (And.intro ht ho)))
    clear hp hu he ht ho STAY
    obtain ⟨j1, hj1⟩ : ∃ j1, j1 = 2 * k + 1 := ⟨_, rfl⟩
    have q1 : 2 * (k : Int) + 1 = (j1 : Int) := by omega
    by_cases hl : m ≤ j1
    · have FIN := HSTAY.out wr (Below.refl _ _) (down_leaf (by omega))
      have HF := Lib.hid FIN
      have hlI : (m : Int) ≤ (j1 : Int) := by omega
      clear FIN hq hj1
      go_wp2
      exact HF.out
    · have HJ1 := Lib.hid hj1
      obtain ⟨j2, hj2⟩ : ∃ j2, j2 = 2 * k + 2 := ⟨_, rfl⟩
      have q2 : (j1 : Int) + 1 = (j2 : Int) := by omega
      have HJ2 := Lib.hid hj2
      have hlI : (j1 : Int) < (m : Int) := by omega
      have hl0 : ¬ (j1 : Int) < 0 := by omega
      have hjm : j1 < m := by omega
      have hLs := fun w2 (h2 : HQ w2 S Bw Mp A cap E') a b ha hb => qless_any h2 (i := a) (j := b) ha hb
      have hSw := fun w2 (h2 : HQ w2 S Bw Mp A cap E') a b ha hb hne => qswap_any h2 (i := a) (j := b) ha hb hne
      rw [HQ'.out] at hLs hSw
      have HL := Lib.hid hLs
      have HW := Lib.hid hSw
      have hkE : k < E'.length := by omega
      have hj1E : j1 < E'.length := by omega
      have hj1k : k < j1 := by omega
      have hpar1 : par j1 = k := by rw [hj1]; exact par_l k
      have HP1 := Lib.hid hpar1
      have HQ2 := Lib.hid hq
      have NEXT : ∀ j w3, k < j → j < m → par j = k → (∀ q, 0 < q → q < m → par q = k → ¬ LtK (gk E' q) (gk E' j)) → LtK (gk E' j) (gk E' k) → HQ w3 S Bw Mp A cap (swapL E' k j) → OffS S wr w3 →
          HQ w3 S Bw Mp A cap (swapL E' k j) ∧ (swapL E' k j).Perm E ∧ DownF (gk (swapL E' k j)) i0 j m ∧ (j = i0 → swapL E' k j = E) ∧ (∀ q, m ≤ q → (swapL E' k j)[q]? = E[q]?) ∧ OffS S w w3 := fun j w3 hkj hjm2 hpj hmin hlt h3 o3 => by
        refine ⟨h3, (swap_perm (by omega) (by omega)).trans HP.out.1, down_step HP.out.2.1 hik (by omega) hjm2 hpj hmin hlt (swap_f (by omega) (by omega) (by omega)), fun e => by omega, fun q hq => ?_, HP.out.2.2.2.trans o3⟩
        rw [swap_o (by omega) (by omega)]
        exact HP.out.2.2.1 q hq
      have HN := Lib.hid NEXT
      clear hq hLs hSw hj1 hj2 NEXT hpar1
      by_cases h2 : m ≤ j2
      · have h2I : ¬ (j2 : Int) < (m : Int) := by omega
        have h3L := fun w2 (h2 : HQ w2 S Bw Mp A cap E') => HL.out w2 h2 j1 k hj1E hkE
        have hmin : ∀ q, 0 < q → q < m → par q = k → ¬ LtK (gk E' q) (gk E' j1) := fun q q0 qm qp => by
          have e1 := par_of q0 qp
          have e2 := HJ1.out
          have e3 := HJ2.out
          have e4 : q = j1 := by omega
          rw [e4]; exact lt_irr _
        have HMIN := Lib.hid hmin
        clear hmin
        rcases hb : decide (LtK (gk E' j1) (gk E' k)) with _ | _
        · rw [hb] at h3L
          have FIN := fun w2 hb2 => HSTAY.out w2 hb2 (down_stay (j := j1) (by omega) HP1.out HMIN.out (of_decide_eq_false hb))
          have HF := Lib.hid FIN
          clear FIN hb
          go_wp2_with (first
            | (go_at_call 63; refine (h3L _ HQ2.out).mono ?_; rintro e wz ⟨rfl, hbz⟩))
          exact HF.out _ hbz
        · rw [hb] at h3L
          have HB := Lib.hid (of_decide_eq_true hb)
          clear hb
          go_wp2_with (first
            | (go_at_call 63; refine (h3L _ HQ2.out).mono ?_; rintro e wz ⟨rfl, hbz⟩)
            | (go_at_call 66; refine (HW.out _ (HQ2.out.below hbz) k j1 hkE hj1E (by omega)).mono ?_; rintro e w9 ⟨rfl, hq9, ho9⟩))
          exact ⟨⟨j1, _, rfl, by omega, by omega, HN.out j1 _ (by omega) (by omega) HP1.out HMIN.out HB.out hq9 ((offS_below hbz).trans ho9)⟩, by simp [intOf]; omega⟩
      · have h2I : (j2 : Int) < (m : Int) := by omega
        have h2m : j2 < m := by omega
        have hj2E : j2 < E'.length := by omega
        have hpar2 : par j2 = k := by rw [HJ2.out]; exact par_r k
        have HP2 := Lib.hid hpar2
        have hj12 : k < j2 := by have := HJ2.out; omega
        clear hpar2
        have hL2 := HL.out wr HQ2.out j2 j1 hj2E hj1E
        rcases hb2 : decide (LtK (gk E' j2) (gk E' j1)) with _ | _
        · rw [hb2] at hL2
          have h3L := fun w2 (h2 : HQ w2 S Bw Mp A cap E') => HL.out w2 h2 j1 k hj1E hkE
          have hmin : ∀ q, 0 < q → q < m → par q = k → ¬ LtK (gk E' q) (gk E' j1) := fun q q0 qm qp => by
            have e1 := par_of q0 qp
            have e2 := HJ1.out
            have e3 := HJ2.out
            rcases e1 with e1 | e1
            · rw [show q = j1 by omega]; exact lt_irr _
            · rw [show q = j2 by omega]; exact of_decide_eq_false hb2
          have HMIN := Lib.hid hmin
          clear hmin hb2
          rcases hb : decide (LtK (gk E' j1) (gk E' k)) with _ | _
          · rw [hb] at h3L
            have FIN := fun w2 hb2 => HSTAY.out w2 hb2 (down_stay (j := j1) (by omega) HP1.out HMIN.out (of_decide_eq_false hb))
            have HF := Lib.hid FIN
            clear FIN hb
            go_wp2_with (first
              | (go_at_call 63; refine hL2.mono ?_; rintro e w2 ⟨rfl, hb2⟩; clear hL2)
              | (go_at_call 63; refine (h3L _ (HQ2.out.below hb2)).mono ?_; rintro e wz ⟨rfl, hbz⟩))
            exact HF.out _ (bel_via hb2 hbz)
          · rw [hb] at h3L
            have HB := Lib.hid (of_decide_eq_true hb)
            clear hb
            go_wp2_with (first
              | (go_at_call 63; refine hL2.mono ?_; rintro e w2 ⟨rfl, hb2⟩; clear hL2)
              | (go_at_call 63; refine (h3L _ (HQ2.out.below hb2)).mono ?_; rintro e wz ⟨rfl, hbz⟩)
              | (go_at_call 66; refine (HW.out _ (HQ2.out.below (bel_via hb2 hbz)) k j1 hkE hj1E (by omega)).mono ?_; rintro e w9 ⟨rfl, hq9, ho9⟩))
            exact ⟨⟨j1, _, rfl, by omega, by omega, HN.out j1 _ (by omega) (by omega) HP1.out HMIN.out HB.out hq9 ((offS_below (bel_via hb2 hbz)).trans ho9)⟩, by simp [intOf]; omega⟩
        · rw [hb2] at hL2
          have h3L := fun w2 (h2 : HQ w2 S Bw Mp A cap E') => HL.out w2 h2 j2 k hj2E hkE
          have hmin : ∀ q, 0 < q → q < m → par q = k → ¬ LtK (gk E' q) (gk E' j2) := fun q q0 qm qp => by
            have e1 := par_of q0 qp
            have e2 := HJ1.out
            have e3 := HJ2.out
            rcases e1 with e1 | e1
            · rw [show q = j1 by omega]; exact lt_asymm (of_decide_eq_true hb2)
            · rw [show q = j2 by omega]; exact lt_irr _
          have HMIN := Lib.hid hmin
          clear hmin hb2
          rcases hb : decide (LtK (gk E' j2) (gk E' k)) with _ | _
          · rw [hb] at h3L
            have FIN := fun w2 hb2 => HSTAY.out w2 hb2 (down_stay (j := j2) (by omega) HP2.out HMIN.out (of_decide_eq_false hb))
            have HF := Lib.hid FIN
            clear FIN hb
            go_wp2_with (first
              | (go_at_call 63; refine hL2.mono ?_; rintro e w2 ⟨rfl, hb2⟩; clear hL2)
              | (go_at_call 63; refine (h3L _ (HQ2.out.below hb2)).mono ?_; rintro e wz ⟨rfl, hbz⟩))
            exact HF.out _ (bel_via hb2 hbz)
          · rw [hb] at h3L
            have HB := Lib.hid (of_decide_eq_true hb)
            clear hb
            go_wp2_with (first
              | (go_at_call 63; refine hL2.mono ?_; rintro e w2 ⟨rfl, hb2⟩; clear hL2)
              | (go_at_call 63; refine (h3L _ (HQ2.out.below hb2)).mono ?_; rintro e wz ⟨rfl, hbz⟩)
              | (go_at_call 66; refine (HW.out _ (HQ2.out.below (bel_via hb2 hbz)) k j2 hkE hj2E (by omega)).mono ?_; rintro e w9 ⟨rfl, hq9, ho9⟩))
            exact ⟨⟨j2, _, rfl, by omega, by omega, HN.out j2 _ (by omega) (by omega) HP2.out HMIN.out HB.out hq9 ((offS_below (bel_via hb2 hbz)).trans ho9)⟩, by simp [intOf]; omega⟩
end
end Go.Proofs.Ytdgodndaaenafaa
