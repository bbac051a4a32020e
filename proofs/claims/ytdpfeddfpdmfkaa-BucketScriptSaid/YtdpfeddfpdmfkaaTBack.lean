/- BucketBack's walk; by-name template. -/
import Derived.Test.YtdpfeddfpdmfkaaTFrame
namespace Go.Proofs.Ytdpfeddfpdmfkaa
open Go.RowKit Go.Lib
set_option linter.unusedVariables false

theorem new_at (r b t : Int) (w : World) : Calls Try.prog 8 #[.int .i64 r, .int .i64 b, .int .i64 t] w fun e w' => ∃ B, e = .returned (.pointer (some ⟨B, 0, none⟩)) ∧ w.heap.size ≤ B ∧ BkAt 41 w' B (newP r b t) ∧ Below w.heap.size w w' :=
  (new_any r b t w).mono fun e w' ⟨he, h1, h2, h3⟩ => ⟨_, he, Nat.le_refl _, h1, h2⟩
theorem rnew_at (r b t : Int) (w : World) : Calls Try.prog 11 #[.int .i64 r, .int .i64 b, .int .i64 t] w fun e w' => ∃ B, e = .returned (.pointer (some ⟨B, 0, none⟩)) ∧ w.heap.size ≤ B ∧ BkAt 44 w' B (newP r b t) ∧ Below w.heap.size w w' :=
  (rnew_any r b t w).mono fun e w' ⟨he, h1, h2, h3⟩ => ⟨_, he, Nat.le_refl _, h1, h2⟩

theorem take_k (D : BK) (t m : Int) : (takeD D t m).k = max D.k t := by
  unfold takeD; split <;> simp [learn_k]

set_option maxHeartbeats 1000000 in
theorem back_walk {a : Option Addr} {Z : List Int} (r b t : Int) (cap : Nat) {w : World} (ht : i64ok t) (h : NumsAt .i64 w a Z) :
    Calls Try.prog 4 #[.int .i64 r, .int .i64 b, .int .i64 t, .slice a Z.length cap] w fun e w' => e = .returned (.bool true) ∧ Below w.heap.size w w' := by
  have hl := h.1
  have HS := Lib.hid h
  clear h
  generalize hlen : Z.length = len at *
  have HL := Lib.hid hlen
  clear hlen
  by_cases hbig : 1024 < len
  · go_enter Try.func4, Try.ntmps4
    go_wp2
    go_ret
    exact ⟨rfl, Below.refl _ _⟩
  · have g0 := good_new r b t ht
    have g1 := g0.take ht 1
    obtain ⟨E, hE⟩ : ∃ E, E = takeD (newP r b t) t 1 := ⟨_, rfl⟩
    have hk : E.k = t := by rw [hE, take_k]; simp [newP]
    have hold : ∀ u, u ≤ t → learnP E u = E := fun u hu => learn_old (by omega)
    rw [← hE] at g1
    have HE := Lib.hid hE
    have HK := Lib.hid hk
    have HO := Lib.hid hold
    clear hE hk hold
    go_enter Try.func4, Try.ntmps4
    go_wp2_with (first
      | (go_at_call 8; refine (new_at r b t _).mono ?_; rintro e w1 ⟨B, rfl, hB, h1, b1⟩; have hB1 := h1.lt)
      | (go_at_call 11; refine (rnew_at r b t _).mono ?_; rintro e w2 ⟨R, rfl, hR, r2, b2⟩; have h2 := h1.below b2 hB1; have hR2 := r2.lt; have hBR : B ≠ R := (by omega))
      | (go_at_call 9; refine (take_any h2 g0 ht 1).mono ?_; rintro e w3 ⟨rfl, h3, o3⟩; have r3 := r2.off o3 hBR.symm)
      | (go_at_call 12; refine (rtake_any r3 g0 ht 1).mono ?_; rintro e w4 ⟨rfl, r4, o4⟩; have h4 := h3.off o4 hBR; rw [← HE.out] at r4 h4; have hto := tokens_any h4 g1 ht; rw [HO.out t (Int.le_refl _)] at hto)
      | (go_at_call 10; refine hto.mono ?_; rintro e w5 ⟨rfl, h5, o5⟩; have r5 := r4.off o5 hBR.symm))
    have hsz := b1.size
    have bel : Below w.heap.size w w5 := (((b1.trans (b2.mono hsz)).trans (o3.toBelow hB (Nat.le_trans hsz b2.size))).trans (o4.toBelow (Nat.le_trans hsz hR) (Nat.le_trans (Nat.le_trans hsz b2.size) o3.size))).trans (o5.toBelow hB (Nat.le_trans (Nat.le_trans (Nat.le_trans hsz b2.size) o3.size) o4.size))
    have hN : w.heap.size ≤ R := Nat.le_trans hsz hR
    clear hto h1 b1 hR r2 b2 h2 h3 o3 r3 r4 o4 h4 o5 hB1 hR2 hsz
    have HN := Lib.hid hN
    have HB := Lib.hid hB
    clear hN hB
    go_loopw [12] (fun c wr => ∃ k : Nat, k ≤ len ∧ c = .int .i64 (k : Int) ∧ BkAt 41 wr B E ∧ BkAt 44 wr R E ∧ Below w.heap.size w wr) (fun c _ => len - (intOf c).toNat)
    case atStart => exact ⟨0, by omega, rfl, h5, r5, bel⟩
    case round =>
      clear h5 r5 bel
      obtain ⟨k, hk, rfl, hp, hr, hb⟩ := hrel
      by_cases hlt : k < len
      · obtain ⟨gb, off, z, ha, hgb, hc, hwz⟩ := HS.out.get (k := k) (by rw [HL.out]; exact hlt)
        have hzo := ok_of_wf hwz
        have hc0 : wr.cell? ⟨gb, off + k, none⟩ = some (.int .i64 z) := (hb.cell (p := ⟨gb, off + k, none⟩) hgb).trans hc
        subst ha
        clear hc hwz
        by_cases hzt : z ≤ t
        · have hcall := tokens_any hp g1 hzo
          rw [HO.out z hzt] at hcall
          go_wp2_with (go_at_call 10; refine hcall.mono ?_; rintro e w6 ⟨rfl, h6, o6⟩)
          have hr6 := hr.off o6 hBR.symm
          have hb6 := hb.trans (o6.toBelow HB.out hb.size)
          go_roundw
          case rel => exact ⟨k + 1, by omega, by go_num, h6, hr6, hb6⟩
          case measure => simp [intOf]; omega
        · go_wp2_with fail
          go_roundw
          case rel => exact ⟨k + 1, by omega, by go_num, hp, hr, hb⟩
          case measure => simp [intOf]; omega
      · have hcall := rtokens_any hr g1 ht
        rw [HO.out t (Int.le_refl _)] at hcall
        go_wp2_with (go_at_call 13; refine hcall.mono ?_; rintro e w6 ⟨rfl, h6, o6⟩)
        go_ret
        exact ⟨rfl, hb.trans (o6.toBelow HN.out hb.size)⟩
end Go.Proofs.Ytdpfeddfpdmfkaa
