/- BucketInside's walk; by-name template. -/
import Derived.Test.YtdpfeddfpdmfkaaTBack
namespace Go.Proofs.Ytdpfeddfpdmfkaa
open Go.RowKit Go.Lib
set_option linter.unusedVariables false

theorem takeB_yes {D : BK} {t : Int} (e : learnP D t = D) (h : 0 < D.n) : takeB D t 1 = true ∧ takeD D t 1 = { D with n := D.n - 1 } := by
  have hb : takeB D t 1 = true := by unfold takeB; rw [e]; simp; omega
  exact ⟨hb, by unfold takeD; rw [hb, e]; simp⟩
theorem takeB_no {D : BK} {t : Int} (e : learnP D t = D) (h : ¬ 0 < D.n) : takeB D t 1 = false ∧ takeD D t 1 = D := by
  have hb : takeB D t 1 = false := by unfold takeB; rw [e]; simp; omega
  exact ⟨hb, by unfold takeD; rw [hb, e]; simp⟩
theorem learn_fix {D : BK} {t : Int} (e : learnP D t = D) (m : Int) : learnP { D with n := m } t = { D with n := m } := by
  have h : t ≤ D.k := by have := learn_k D t; rw [e] at this; omega
  exact learn_old h

set_option maxHeartbeats 2000000 in
theorem inside_walk {a : Option Addr} {Z : List Int} (r b : Int) (cap : Nat) {w : World} (h : NumsAt .i64 w a Z) :
    Calls Try.prog 6 #[.int .i64 r, .int .i64 b, .slice a Z.length cap] w fun e w' => e = .returned (.bool true) ∧ Below w.heap.size w w' := by
  have hl := h.1
  have HS := Lib.hid h
  clear h
  generalize hlen : Z.length = len at *
  have HL := Lib.hid hlen
  clear hlen
  have h00 : i64ok 0 := by unfold i64ok; decide
  by_cases hbig : 16384 < len
  · go_enter Try.func6, Try.ntmps6
    go_wp2
    go_ret
    exact ⟨rfl, Below.refl _ _⟩
  · have g0 := good_new r b 0 h00
    obtain ⟨M, hM⟩ : ∃ M, M = min (max b 1) 1048576 := ⟨_, rfl⟩
    have hto : ∀ B w, BkAt 41 w B (newP r b 0) → Calls Try.prog 10 #[.pointer (some ⟨B, 0, none⟩), .int .i64 0] w fun e w' => e = .returned (.int .i64 M) ∧ BkAt 41 w' B (newP r b 0) ∧ Off B w w' := by
      intro B w hb
      have := tokens_any hb g0 h00
      rw [learn_old (by simp [newP])] at this
      rw [hM]
      exact this
    have hbM : (newP r b 0).b = M := by rw [hM]; rfl
    have HBM := Lib.hid hbM
    have HM := Lib.hid hM
    clear hM hbM
    have hnew0 := fun w => new_at r b 0 w
    generalize newP r b 0 = D0 at *
    have hnew : ∀ w, Calls Try.prog 8 #[.int .i64 r, .int .i64 b, .int .i64 0] w fun e w' => ∃ B, e = .returned (.pointer (some ⟨B, 0, none⟩)) ∧ w.heap.size ≤ B ∧ BkAt 41 w' B D0 ∧ Below w.heap.size w w' := by
      exact hnew0
    clear hnew0
    go_enter Try.func6, Try.ntmps6
    go_upto_region 4 with (go_at_call 8; refine (hnew _).mono ?_; rintro e w1 ⟨B, rfl, hB, h1, b1⟩)
    go_cut [8] from 19 to 24 (fun v wx => v = .int .i64 M ∧ wx = w1)
    case first =>
      have hM := HM.out
      go_wp2_with fail
      all_goals (go_meet; exact ⟨by congr 1; omega, rfl⟩)
    case rest =>
      obtain ⟨rfl, rfl⟩ := hcut
      have hto1 := hto B wc h1
      go_wp2_with (go_at_call 10; refine hto1.mono ?_; rintro e w5 ⟨rfl, h5, o5⟩)
      have bel := b1.trans (o5.toBelow hB b1.size)
      clear hto hto1 h1 b1 o5 hnew
      have HB := Lib.hid hB
      clear hB
      go_loopw [9] (fun c wr => ∃ (k : Nat) (D : BK), k ≤ len ∧ c = .int .i64 (k : Int) ∧ BkAt 41 wr B D ∧ Good D ∧ Hid (D.b = M) ∧ Below w.heap.size w wr) (fun c _ => len - (intOf c).toNat)
      case atStart => exact ⟨0, D0, by omega, rfl, h5, g0, HBM, bel⟩
      case round =>
        clear h5 g0 bel
        obtain ⟨k, D, hk, rfl, hp, hg, hbm, hb⟩ := hrel
        by_cases hlt : k < len
        · obtain ⟨gb, off, z, ha, hgb, hc, hwz⟩ := HS.out.get (k := k) (by rw [HL.out]; exact hlt)
          have hzo := ok_of_wf hwz
          have hcA : ∀ w', Below w.heap.size w w' → w'.cell? ⟨gb, off + k, none⟩ = some (.int .i64 z) := fun w' hb' => (hb'.cell (p := ⟨gb, off + k, none⟩) hgb).trans hc
          have hc0 := hcA wr hb
          subst ha
          clear hc hwz
          have hcall := tokens_any hp hg hzo
          have gE := hg.learn hzo
          have idE := learn_again D z
          have bE : (learnP D z).b = M := by rw [learn_b]; exact hbm.out
          clear hp hg hbm
          generalize learnP D z = E at *
          obtain ⟨er, eb, en, ek⟩ := E
          simp only at *
          subst bE
          have n0 : 0 ≤ en := gE.n0
          have n1 : en ≤ eb := gE.n1
          have m1 : eb ≤ 1048576 := gE.b1
          have hnn : ¬ eb < en := by omega
          have hn0 : ¬ en < 0 := by omega
          have hw : IntKind.i64.wrap (en - 1) = en - 1 := i64_self (by unfold i64ok; omega)
          by_cases hpos : 0 < en
          · have ty := takeB_yes idE hpos
            have gT := gE.take hzo 1
            rw [ty.2] at gT
            have tk : ∀ w', BkAt 41 w' B ⟨er, eb, en, ek⟩ → Calls Try.prog 9 #[.pointer (some ⟨B, 0, none⟩), .int .i64 z, .int .i64 1] w' fun e w'' => e = .returned (.bool true) ∧ BkAt 41 w'' B ⟨er, eb, en - 1, ek⟩ ∧ Off B w' w'' := by
              intro w' h
              have := take_any h gE hzo 1
              rw [ty.1, ty.2] at this
              exact this
            have to2 : ∀ w', BkAt 41 w' B ⟨er, eb, en - 1, ek⟩ → Calls Try.prog 10 #[.pointer (some ⟨B, 0, none⟩), .int .i64 z] w' fun e w'' => e = .returned (.int .i64 (en - 1)) ∧ BkAt 41 w'' B ⟨er, eb, en - 1, ek⟩ ∧ Off B w' w'' := by
              intro w' h
              have := tokens_any h gT hzo
              have hx : learnP ⟨er, eb, en - 1, ek⟩ z = ⟨er, eb, en - 1, ek⟩ := learn_fix idE (en - 1)
              rw [hx] at this
              exact this
            clear ty idE
            have HG := Lib.hid gT
            clear gT gE
            go_wp2_with (first
              | (go_at_call 9; refine (tk _ h6).mono ?_; rintro e w7 ⟨rfl, h7, o7⟩; have hb7 := hb6.trans (o7.toBelow HB.out hb6.size); have hc7 := hcA w7 hb7)
              | (go_at_call 10; refine (to2 _ h7).mono ?_; rintro e w8 ⟨rfl, h8, o8⟩; have hb8 := hb7.trans (o8.toBelow HB.out hb7.size))
              | (go_at_call 10; refine hcall.mono ?_; rintro e w6 ⟨rfl, h6, o6⟩; have hb6 := hb.trans (o6.toBelow HB.out hb.size); have hc6 := hcA w6 hb6))
            go_roundw
            case rel => exact ⟨k + 1, _, by omega, by go_num, h8, HG.out, Lib.hid rfl, hb8⟩
            case measure => simp [intOf]; omega
          · have ty := takeB_no idE hpos
            have hz0 : en = 0 := by omega
            subst hz0
            have tk : ∀ w', BkAt 41 w' B ⟨er, eb, 0, ek⟩ → Calls Try.prog 9 #[.pointer (some ⟨B, 0, none⟩), .int .i64 z, .int .i64 1] w' fun e w'' => e = .returned (.bool false) ∧ BkAt 41 w'' B ⟨er, eb, 0, ek⟩ ∧ Off B w' w'' := by
              intro w' h
              have := take_any h gE hzo 1
              rw [ty.1, ty.2] at this
              exact this
            have to2 : ∀ w', BkAt 41 w' B ⟨er, eb, 0, ek⟩ → Calls Try.prog 10 #[.pointer (some ⟨B, 0, none⟩), .int .i64 z] w' fun e w'' => e = .returned (.int .i64 0) ∧ BkAt 41 w'' B ⟨er, eb, 0, ek⟩ ∧ Off B w' w'' := by
              intro w' h
              have := tokens_any h gE hzo
              rw [idE] at this
              exact this
            clear ty idE
            have HG := Lib.hid gE
            clear gE hw
            go_wp2_with (first
              | (go_at_call 9; refine (tk _ h6).mono ?_; rintro e w7 ⟨rfl, h7, o7⟩; have hb7 := hb6.trans (o7.toBelow HB.out hb6.size); have hc7 := hcA w7 hb7)
              | (go_at_call 10; refine (to2 _ h7).mono ?_; rintro e w8 ⟨rfl, h8, o8⟩; have hb8 := hb7.trans (o8.toBelow HB.out hb7.size))
              | (go_at_call 10; refine hcall.mono ?_; rintro e w6 ⟨rfl, h6, o6⟩; have hb6 := hb.trans (o6.toBelow HB.out hb.size); have hc6 := hcA w6 hb6))
            go_roundw
            case rel => exact ⟨k + 1, _, by omega, by go_num, h8, HG.out, Lib.hid rfl, hb8⟩
            case measure => simp [intOf]; omega
        · go_wp2_with fail
          go_ret
          exact ⟨rfl, hb⟩
end Go.Proofs.Ytdpfeddfpdmfkaa
