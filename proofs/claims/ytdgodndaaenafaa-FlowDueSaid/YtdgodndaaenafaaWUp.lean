/- heap.up on the queue; by-name template. -/
import Derived.Test.YtdgodndaaenafaaWSwap
namespace Go.Proofs.Ytdgodndaaenafaa
open Go.RowKit Go.Lib Go.Maps
set_option linter.unusedVariables false
set_option linter.unusedSimpArgs false

theorem hm_len (k : Nat) (w : World) (x : Value) : (method (k + 1) 91 x "Len").run Try.prog w = .ok (62, x) w := by kernel_rfl
theorem hm_less (k : Nat) (w : World) (x : Value) : (method (k + 1) 91 x "Less").run Try.prog w = .ok (63, x) w := by kernel_rfl
theorem hm_swap (k : Nat) (w : World) (x : Value) : (method (k + 1) 91 x "Swap").run Try.prog w = .ok (66, x) w := by kernel_rfl
theorem hm_push (k : Nat) (w : World) (x : Value) : (method (k + 1) 91 x "Push").run Try.prog w = .ok (65, x) w := by kernel_rfl
theorem hm_pop (k : Nat) (w : World) (x : Value) : (method (k + 1) 91 x "Pop").run Try.prog w = .ok (64, x) w := by kernel_rfl

section
variable {w : World} {S : Nat → Prop} {Bw Mp : Nat} {A : Option Addr} {cap : Nat} {E : List DE}

/-- What the heap's functions leave: the same deadlines, in a heap; those from m on where they were. -/
def HeapPost (w : World) (S : Nat → Prop) (Bw Mp : Nat) (A : Option Addr) (cap : Nat) (E : List DE) (m : Nat) (w' : World) : Prop :=
  ∃ E', HQ w' S Bw Mp A cap E' ∧ E'.Perm E ∧ HeapF (gk E') m ∧ (∀ k, m ≤ k → E'[k]? = E[k]?) ∧ OffS S w w'

set_option maxHeartbeats 1000000 in
theorem up_any (h : HQ w S Bw Mp A cap E) {j m : Nat} (hj : j < m) (hm : m ≤ E.length) (hu : UpF (gk E) j m) :
    Calls Try.prog 45 #[.iface 91 (qp Bw), .int .i64 (j : Int)] w fun e w' => e = .returned (.tuple #[]) ∧ HeapPost w S Bw Mp A cap E m w' := by
  obtain ⟨M, hM⟩ : ∃ M : World → Prop, M = HeapPost w S Bw Mp A cap E m := ⟨_, rfl⟩
  rw [← hM]
  have HM := Lib.hid hM
  clear hM
  have hbig := h.big
  have m1 := fun (w : World) (x : Value) (k : Nat) => hm_less k w x
  have m2 := fun (w : World) (x : Value) (k : Nat) => hm_swap k w x
  have HS := Lib.hid (And.intro h hu)
  clear h hu
  generalize hQ : qp Bw = Q
  have HQ' := Lib.hid hQ
  clear hQ
  go_enter Try.func45, Try.ntmps45
  go_wp2
  go_loopw [1] (fun c wr => ∃ (k : Nat) (E' : List DE), c = .int .i64 (k : Int) ∧ k < m ∧ HQ wr S Bw Mp A cap E' ∧ E'.Perm E ∧ UpF (gk E') k m ∧ (∀ q, m ≤ q → E'[q]? = E[q]?) ∧ OffS S w wr) (fun c _ => (intOf c).toNat)
  case atStart => exact ⟨j, E, rfl, hj, HS.out.1, List.Perm.refl _, HS.out.2, fun _ _ => rfl, OffS.refl _ _⟩
  case round =>
    obtain ⟨k, E', rfl, hk, hq, hp, hu, ht, ho⟩ := hrel
    have hlen := hp.length_eq
    have HP := Lib.hid (And.intro hp (And.intro hu (And.intro ht ho)))
    clear hp hu ht ho
    rcases Nat.eq_zero_or_pos k with h0 | h0
    · subst h0
      have HQ2 := Lib.hid hq
      clear hq
      have FIN : M wr := by
        rw [HM.out]
        exact ⟨E', HQ2.out, HP.out.1, up_end HP.out.2.1 (.inl rfl), HP.out.2.2.1, HP.out.2.2.2⟩
      have HF := Lib.hid FIN
      clear FIN
      go_wp2
      simp [bodyPost, results, Try.results45, go_sem]
      exact HF.out
    · have hpk := par_lt h0
      obtain ⟨p, hpp⟩ : ∃ p, p = par k := ⟨_, rfl⟩
      rw [← hpp] at hpk
      have hL := qless_any hq (i := k) (j := p) (by omega) (by omega)
      have hSw := fun w2 (h2 : HQ w2 S Bw Mp A cap E') => qswap_any h2 (i := p) (j := k) (by omega) (by omega) (by omega)
      have hkE : k < E'.length := by omega
      have hpE : p < E'.length := by omega
      have hq1 : ((k : Int) - 1).tdiv 2 = (p : Int) := by rw [Int.tdiv_eq_ediv_of_nonneg (by omega)]; subst hpp; unfold par; omega
      have hq2 : ((k : Int) - 1) / 2 = (p : Int) := by subst hpp; unfold par; omega
      have HPP := Lib.hid hpp
      clear hpp
      rw [HQ'.out] at hL hSw
      have HQ2 := Lib.hid hq
      have HW := Lib.hid hSw
      clear hq hSw
      rcases hb : decide (LtK (gk E' k) (gk E' p)) with _ | _
      · rw [hb] at hL
        have FIN : ∀ w2, Below wr.heap.size wr w2 → M w2 := fun w2 hb2 => by
          rw [HM.out]
          exact ⟨E', HQ2.out.below hb2, HP.out.1, up_end HP.out.2.1 (.inr (by rw [← HPP.out]; exact of_decide_eq_false hb)), HP.out.2.2.1, HP.out.2.2.2.trans (offS_below hb2)⟩
        have HF := Lib.hid FIN
        clear FIN
        go_wp2_with (go_at_call 63; refine hL.mono ?_; rintro e w2 ⟨rfl, hb2⟩)
        simp [bodyPost, results, Try.results45, go_sem]
        exact HF.out _ hb2
      · rw [hb] at hL
        have hl := of_decide_eq_true hb
        have HL := Lib.hid hl
        clear hl hb
        go_wp2_with (first
          | (go_at_call 63; refine hL.mono ?_; rintro e w2 ⟨rfl, hb2⟩)
          | (go_at_call 66; refine (HW.out _ (HQ2.out.below hb2)).mono ?_; rintro e w3 ⟨rfl, hq3, ho3⟩))
        refine ⟨⟨p, _, rfl, by omega, hq3, (swap_perm hpE hkE).trans HP.out.1, ?_, ?_, (HP.out.2.2.2.trans (offS_below hb2)).trans ho3⟩, by simp [intOf]; omega⟩
        · have := HPP.out
          subst this
          exact up_step HP.out.2.1 h0 hk HL.out (swap_f hpE hkE (by omega))
        · intro q hq
          rw [swap_o (by omega) (by omega)]
          exact HP.out.2.2.1 q hq
end
end Go.Proofs.Ytdgodndaaenafaa
