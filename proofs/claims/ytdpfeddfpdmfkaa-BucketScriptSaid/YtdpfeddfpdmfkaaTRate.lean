/- BucketRate's walk; by-name template. -/
import Derived.Test.YtdpfeddfpdmfkaaTInside
namespace Go.Proofs.Ytdpfeddfpdmfkaa
open Go.RowKit Go.Lib
set_option linter.unusedVariables false

/-- What is so after k rounds: W is the time, T how many were taken. -/
structure RInv (M R : Int) (D : BK) (W T : Int) (k : Nat) : Prop where
  g : Good D
  b : D.b = M
  r : D.r = R
  kk : D.k = W
  up : D.n + T ≤ M + R * W
  lo : M ≤ D.n + T
  eq : (k : Int) ≤ M → T = k
  w0 : 0 ≤ W
  w1 : W ≤ 7 * k
  t0 : 0 ≤ T
  t1 : T ≤ k

theorem rinv_zero {M R : Int} {D : BK} (g : Good D) (b : D.b = M) (r : D.r = R) (k : D.k = 0) (n : D.n = M) : RInv M R D 0 0 0 :=
  ⟨g, b, r, k, by omega, by omega, fun _ => rfl, by omega, by omega, by omega, by omega⟩

theorem rinv_learn {M R : Int} {D : BK} {W T : Int} {k : Nat} (h : RInv M R D W T k) {u : Int} (h0 : 0 ≤ u) (h1 : u ≤ 7) (hk : k < 4096) :
    i64ok (W + u) ∧ Good (learnP D (W + u)) ∧ (learnP D (W + u)).b = M ∧ (learnP D (W + u)).r = R ∧ (learnP D (W + u)).k = W + u ∧ (learnP D (W + u)).n + T ≤ M + R * (W + u) ∧ M ≤ (learnP D (W + u)).n + T := by
  have ho : i64ok (W + u) := by have := h.w0; have := h.w1; unfold i64ok; omega
  have hg := h.g
  have hr0 := hg.r0
  have e : R * (W + u) = R * W + R * u := Int.mul_add _ _ _
  refine ⟨ho, hg.learn ho, by rw [learn_b]; exact h.b, by rw [learn_r]; exact h.r, by rw [learn_k, h.kk]; omega, ?_, ?_⟩
  · have := h.up
    have hru : 0 ≤ R * u := Int.mul_nonneg (by rw [← h.r]; exact hr0) h0
    unfold learnP
    split
    · rw [e]; omega
    · simp only
      rw [h.kk, h.r, show W + u - W = u by omega, e]
      omega
  · have := h.lo
    have hb := h.b
    have hn1 := hg.n1
    have hru : 0 ≤ D.r * u := Int.mul_nonneg hr0 h0
    have ht := h.t0
    unfold learnP
    split
    · exact this
    · simp only
      rw [h.kk, show W + u - W = u by omega]
      omega

theorem rinv_yes {M R : Int} {D : BK} {W T : Int} {k : Nat} (h : RInv M R D W T k) {u : Int} (h0 : 0 ≤ u) (h1 : u ≤ 7) (hk : k < 4096) (hp : 0 < (learnP D (W + u)).n) :
    RInv M R { learnP D (W + u) with n := (learnP D (W + u)).n - 1 } (W + u) (T + 1) (k + 1) := by
  obtain ⟨a, g, b, r, kk, up, lo⟩ := rinv_learn h h0 h1 hk
  have n0 := g.n0
  have n1 := g.n1
  have gg : Good { learnP D (W + u) with n := (learnP D (W + u)).n - 1 } := ⟨g.r0, g.r1, g.b0, g.b1, by simp only; omega, by simp only; omega, g.k⟩
  have := h.eq
  have := h.w0
  have := h.w1
  have := h.t0
  have := h.t1
  exact ⟨gg, b, r, kk, by simp only; omega, by simp only; omega, fun hh => by omega, by omega, by omega, by omega, by omega⟩

theorem rinv_no {M R : Int} {D : BK} {W T : Int} {k : Nat} (h : RInv M R D W T k) {u : Int} (h0 : 0 ≤ u) (h1 : u ≤ 7) (hk : k < 4096) (hp : ¬ 0 < (learnP D (W + u)).n) :
    RInv M R (learnP D (W + u)) (W + u) T (k + 1) ∧ M ≤ k := by
  obtain ⟨a, g, b, r, kk, up, lo⟩ := rinv_learn h h0 h1 hk
  have n0 := g.n0
  have e := h.eq
  have := h.w0
  have := h.w1
  have := h.t0
  have := h.t1
  have hM : M ≤ k := by omega
  exact ⟨⟨g, b, r, kk, up, lo, fun hh => by omega, by omega, by omega, by omega, by omega⟩, hM⟩

theorem rinv_small {M R : Int} {D : BK} {W T : Int} {k : Nat} (h : RInv M R D W T k) (hk : k ≤ 4096) : 0 ≤ R * W ∧ R * W ≤ 1048576 * 28672 ∧ 1 ≤ M ∧ M ≤ 1048576 := by
  have hr0 := h.g.r0
  have hr1 := h.g.r1
  have hb0 := h.g.b0
  have hb1 := h.g.b1
  rw [h.r] at hr0 hr1
  rw [h.b] at hb0 hb1
  have w0 := h.w0
  have w1 := h.w1
  have a := Int.mul_nonneg hr0 w0
  have b : R * W ≤ 1048576 * W := Int.mul_le_mul_of_nonneg_right hr1 w0
  exact ⟨a, by omega, hb0, hb1⟩

theorem take_one_yes {D : BK} {t : Int} (h : 0 < (learnP D t).n) : takeB D t 1 = true ∧ takeD D t 1 = { learnP D t with n := (learnP D t).n - 1 } := by
  have hb : takeB D t 1 = true := by unfold takeB; simp; omega
  exact ⟨hb, by unfold takeD; rw [hb]; simp⟩
theorem take_one_no {D : BK} {t : Int} (h : ¬ 0 < (learnP D t).n) : takeB D t 1 = false ∧ takeD D t 1 = learnP D t := by
  have hb : takeB D t 1 = false := by unfold takeB; simp; omega
  exact ⟨hb, by unfold takeD; rw [hb]; simp⟩

set_option maxHeartbeats 2000000 in
theorem rate_walk {a : Option Addr} {Z : List Int} (r b : Int) (cap : Nat) {w : World} (h : NumsAt .u8 w a Z) :
    Calls Try.prog 7 #[.int .i64 r, .int .i64 b, .slice a Z.length cap] w fun e w' => e = .returned (.bool true) ∧ Below w.heap.size w w' := by
  have hl := h.1
  have HS := Lib.hid h
  clear h
  generalize hlen : Z.length = len at *
  have HL := Lib.hid hlen
  clear hlen
  have h00 : i64ok 0 := by unfold i64ok; decide
  by_cases hbig : 4096 < len
  · go_enter Try.func7, Try.ntmps7
    go_wp2
    go_ret
    exact ⟨rfl, Below.refl _ _⟩
  · have g0 := good_new r b 0 h00
    obtain ⟨M, hM⟩ : ∃ M, M = min (max b 1) 1048576 := ⟨_, rfl⟩
    obtain ⟨R, hR⟩ : ∃ R, R = min (max r 0) 1048576 := ⟨_, rfl⟩
    have hinv : RInv M R (newP r b 0) 0 0 0 := rinv_zero g0 (by rw [hM]; rfl) (by rw [hR]; rfl) rfl (by rw [hM]; rfl)
    have HM := Lib.hid hM
    have HR := Lib.hid hR
    have hnew := fun w => new_at r b 0 w
    clear hM hR g0
    generalize newP r b 0 = D0 at *
    have HI := Lib.hid hinv
    clear hinv
    go_enter Try.func7, Try.ntmps7
    go_upto_region 4 with (go_at_call 8; refine (hnew _).mono ?_; rintro e w1 ⟨B, rfl, hB, h1, b1⟩)
    go_cut [8] from 19 to 22 (fun u wx => u = .int .i64 R ∧ wx = w1)
    case first =>
      have hR := HR.out
      go_wp2_with fail
      all_goals (go_meet; exact ⟨by congr 1; omega, rfl⟩)
    case rest =>
    obtain ⟨rfl, rfl⟩ := hcut
    go_upto_region 5 with fail
    go_cut [9] from 22 to 25 (fun v wx => v = .int .i64 M ∧ wx = wc)
    case first =>
      have hM := HM.out
      go_wp2_with fail
      all_goals (go_meet; exact ⟨by congr 1; omega, rfl⟩)
    case rest =>
      obtain ⟨rfl, rfl⟩ := hcut
      have HB := Lib.hid hB
      clear hB hnew
      go_wp2_with fail
      go_loopw [10, 11, 12] (fun nw tk c wr => ∃ (k : Nat) (D : BK) (W T : Int), k ≤ len ∧ c = .int .i64 (k : Int) ∧ nw = .int .i64 W ∧ tk = .int .i64 T ∧ BkAt 41 wr B D ∧ Hid (RInv M R D W T k) ∧ Below w.heap.size w wr) (fun _ _ c _ => len - (intOf c).toNat)
      case atStart => exact ⟨0, D0, 0, 0, by omega, rfl, rfl, rfl, h1, HI, b1⟩
      case round =>
        clear h1 b1
        obtain ⟨k, D, W, T, hk, rfl, rfl, rfl, hp, hI, hb⟩ := hrel
        by_cases hlt : k < len
        · obtain ⟨gb, off, z, ha, hgb, hc, hwz⟩ := HS.out.get (k := k) (by rw [HL.out]; exact hlt)
          have hzo := u8_of_wf hwz
          have hc0 : wr.cell? ⟨gb, off + k, none⟩ = some (.int .u8 z) := (hb.cell (p := ⟨gb, off + k, none⟩) hgb).trans hc
          subst ha
          have hzi : IntKind.i64.wrap z = z := i64_self (by unfold i64ok; omega)
          obtain ⟨u, hu⟩ : ∃ u, z.tmod 8 = u := ⟨_, rfl⟩
          have hu0 : 0 ≤ u := by rw [← hu, Int.tmod_eq_emod_of_nonneg hzo.1]; omega
          have hu7 : u ≤ 7 := by rw [← hu, Int.tmod_eq_emod_of_nonneg hzo.1]; omega
          have hui : IntKind.i64.wrap u = u := i64_self (by unfold i64ok; omega)
          have hkk : k < 4096 := by omega
          obtain ⟨ho, gE, bE, rE, kE, up, lo⟩ := rinv_learn hI.out hu0 hu7 hkk
          have hwi : IntKind.i64.wrap (W + u) = W + u := i64_self ho
          have idE := learn_again D (W + u)
          have hyes := fun hp => rinv_yes hI.out hu0 hu7 hkk hp
          have hno := fun hp => rinv_no hI.out hu0 hu7 hkk hp
          have hw0 := hI.out.w0
          have ht0 := hI.out.t0
          have ht1 := hI.out.t1
          have heq := hI.out.eq
          have hcall := take_any hp hI.out.g ho 1
          have hk1 : IntKind.i64.wrap ((k : Int) + 1) = (k : Int) + 1 := i64_self (by unfold i64ok; omega)
          have ht1i : IntKind.i64.wrap (T + 1) = T + 1 := i64_self (by unfold i64ok; omega)
          have HC := Lib.hid hc
          clear hc hwz hp hI up lo kE
          by_cases hpos : 0 < (learnP D (W + u)).n
          · have hI2 := hyes hpos
            clear hyes hno
            have hsm := rinv_small hI2 (by omega)
            have hupp := hI2.up
            have hFn := hI2.g.n0
            have hFe := hI2.eq
            have hT := take_one_yes hpos
            rw [hT.1, hT.2] at hcall
            clear hT gE bE rE idE
            generalize ({ learnP D (W + u) with n := (learnP D (W + u)).n - 1 } : BK) = F at *
            have HI2 := Lib.hid hI2
            obtain ⟨s1, s2, s3, s4⟩ := hsm
            have hup : ¬ M + R * (W + u) < T + 1 := by omega
            have hPi : IntKind.i64.wrap (R * (W + u)) = R * (W + u) := i64_self (by unfold i64ok; omega)
            have hMP : IntKind.i64.wrap (M + R * (W + u)) = M + R * (W + u) := i64_self (by unfold i64ok; omega)
            clear hI2 hupp hFn
            generalize hPe : R * (W + u) = P at *
            by_cases hkm : (k : Int) < M
            · have hTk : T = k := by have := hFe (by push_cast; omega); push_cast at this; omega
              subst hTk
              clear hFe heq
              go_wp2_with (go_at_call 9; refine hcall.mono ?_; rintro e w6 ⟨rfl, h6, o6⟩; have hb6 := hb.trans (o6.toBelow HB.out hb.size))
              go_roundw
              case rel => exact ⟨k + 1, _, _, _, by omega, by go_num, by go_num, by go_num, h6, HI2, hb6⟩
              case measure => simp [intOf]; omega
            · clear hFe heq
              go_wp2_with (go_at_call 9; refine hcall.mono ?_; rintro e w6 ⟨rfl, h6, o6⟩; have hb6 := hb.trans (o6.toBelow HB.out hb.size))
              go_roundw
              case rel => exact ⟨k + 1, _, _, _, by omega, by go_num, by go_num, by go_num, h6, HI2, hb6⟩
              case measure => simp [intOf]; omega
          · have hI2 := (hno hpos).1
            have hMk := (hno hpos).2
            clear hyes hno
            have hsm := rinv_small hI2 (by omega)
            have hupp := hI2.up
            have hFn := hI2.g.n0
            have hT := take_one_no hpos
            rw [hT.1, hT.2] at hcall
            clear hT gE bE rE idE
            generalize learnP D (W + u) = F at *
            have HI2 := Lib.hid hI2
            obtain ⟨s1, s2, s3, s4⟩ := hsm
            have hup : ¬ M + R * (W + u) < T := by omega
            have hPi : IntKind.i64.wrap (R * (W + u)) = R * (W + u) := i64_self (by unfold i64ok; omega)
            have hMP : IntKind.i64.wrap (M + R * (W + u)) = M + R * (W + u) := i64_self (by unfold i64ok; omega)
            clear hI2 hupp hFn
            generalize hPe : R * (W + u) = P at *
            have hkm : ¬ (k : Int) < M := by omega
            clear heq
            go_wp2_with (go_at_call 9; refine hcall.mono ?_; rintro e w6 ⟨rfl, h6, o6⟩; have hb6 := hb.trans (o6.toBelow HB.out hb.size))
            go_roundw
            case rel => exact ⟨k + 1, _, _, _, by omega, by go_num, by go_num, by go_num, h6, HI2, hb6⟩
            case measure => simp [intOf]; omega
        · go_wp2_with fail
          go_ret
          exact ⟨rfl, hb⟩
end Go.Proofs.Ytdpfeddfpdmfkaa
