/- BucketScript's walk; by-name template. -/
import Derived.Test.YtdpfeddfpdmfkaaTParts
namespace Go.Proofs.Ytdpfeddfpdmfkaa
open Go.RowKit Go.Lib
set_option linter.unusedVariables false

theorem Below.al {N : Nat} {w w' : World} (h : Below N w w') (hN : N ≤ w'.heap.size) (o : Obj) : Below N w (w'.alloc o) := h.alloc hN o
theorem BkAt.alloc {T : TypeId} {w : World} {B : Nat} {D : BK} (h : BkAt T w B D) (o : Obj) : BkAt T (w.alloc o) B D := by
  have := h.lt
  unfold BkAt at h ⊢
  rw [Below.heap_alloc _ _ _ this]; exact h

set_option maxHeartbeats 4000000 in
theorem script_walk {a : Option Addr} {L : List Stp} (r b t : Int) (cap : Nat) {w : World} (ht : i64ok t) (h : StepsAt w a L) :
    Calls Try.prog 5 #[.int .i64 r, .int .i64 b, .int .i64 t, .slice a L.length cap] w fun e w' => e = .returned (.bool true) ∧ Below w.heap.size w w' := by
  have hl := h.1
  have HS := Lib.hid h
  clear h
  generalize hlen : L.length = len at *
  have HL := Lib.hid hlen
  clear hlen
  by_cases hbig : 16384 < len
  · go_enter Try.func5, Try.ntmps5
    go_wp2
    go_ret
    exact ⟨rfl, Below.refl _ _⟩
  · have g0 := good_new r b t ht
    have hnew := fun w => new_at r b t w
    have hrnew := fun w => rnew_at r b t w
    generalize newP r b t = D0 at *
    go_enter Try.func5, Try.ntmps5
    go_wp2_with (first
      | (go_at_call 8; refine (hnew _).mono ?_; rintro e w1 ⟨B, rfl, hB, h1, b1⟩; have hB1 := h1.lt)
      | (go_at_call 11; refine (hrnew _).mono ?_; rintro e w2 ⟨R, rfl, hR, r2, b2⟩; have h2 := h1.below b2 hB1; have hR2 := r2.lt; have hBR : B ≠ R := (by omega)))
    have hsz := b1.size
    have bel := b1.trans (b2.mono hsz)
    have hN : w.heap.size ≤ R := Nat.le_trans hsz hR
    clear hnew hrnew h1 b1 hR b2 hB1 hR2 hsz
    have HN := Lib.hid hN
    have HB := Lib.hid hB
    clear hN hB
    go_loopw [11] (fun c wr => ∃ (k : Nat) (D : BK), k ≤ len ∧ c = .int .i64 (k : Int) ∧ BkAt 41 wr B D ∧ BkAt 44 wr R D ∧ Good D ∧ Below w.heap.size w wr) (fun c _ => len - (intOf c).toNat)
    case atStart => exact ⟨0, D0, by omega, rfl, h2, r2, g0, bel⟩
    case round =>
      clear h2 r2 bel g0
      obtain ⟨k, D, hk, rfl, hp, hr, hg, hb⟩ := hrel
      by_cases hlt : k < len
      · obtain ⟨gb, off, s, ha, hgb, _, hst0⟩ := HS.out.get (k := k) (by rw [HL.out]; exact hlt)
        have hst := hst0.block (hb.block gb (by omega))
        have k1 := hst.ck
        have k2 := hst.ct
        have k3 := hst.cn
        have hto := hst.wt
        subst ha
        clear hst hst0
        generalize s.kind = kd at *
        generalize s.now = ti at *
        generalize s.n = mi at *
        by_cases hk0 : kd = 0
        · have hkb : (kd == 0) = true := by simpa using hk0
          have HK := Lib.hid hk0
          clear hk0
          go_wp2_with fail
          have q1 : (wr.alloc (.cells #[.int .i64 kd, .int .i64 ti, .int .i64 mi] 34)).cell? ⟨wr.heap.size, 1, none⟩ = some (.int .i64 ti) := cell_of_row _ wr.heap.size 1 _ _ _ (heap_alloc_new wr _)
          have q2 : (wr.alloc (.cells #[.int .i64 kd, .int .i64 ti, .int .i64 mi] 34)).cell? ⟨wr.heap.size, 2, none⟩ = some (.int .i64 mi) := cell_of_row _ wr.heap.size 2 _ _ _ (heap_alloc_new wr _)
          have hol : wr.heap.size < (wr.alloc (.cells #[.int .i64 kd, .int .i64 ti, .int .i64 mi] 34)).heap.size := by simp
          have hx := hp.alloc (.cells #[.int .i64 kd, .int .i64 ti, .int .i64 mi] 34)
          have rx := hr.alloc (.cells #[.int .i64 kd, .int .i64 ti, .int .i64 mi] 34)
          have bx := Below.al hb hb.size (.cells #[.int .i64 kd, .int .i64 ti, .int .i64 mi] 34)
          have hBw := hp.lt
          have hRw := hr.lt
          generalize hob : wr.heap.size = ob at *
          have hoB : ob ≠ B := by omega
          have hoR : ob ≠ R := by omega
          clear k1 k2 k3 hp hr hb hBw hRw
          generalize (wr.alloc (.cells #[.int .i64 kd, .int .i64 ti, .int .i64 mi] 34)) = wx at *
          clear hob
          have gE := hg.take hto mi
          have hwA : ∀ w', BkAt 41 w' B D → Calls Try.prog 9 #[.pointer (some ⟨B, 0, none⟩), .int .i64 ti, .int .i64 mi] w' fun e w'' => e = .returned (.bool (takeB D ti mi)) ∧ BkAt 41 w'' B (takeD D ti mi) ∧ Off B w' w'' := fun w' h => take_any h hg hto mi
          have hwR : ∀ w', BkAt 44 w' R D → Calls Try.prog 12 #[.pointer (some ⟨R, 0, none⟩), .int .i64 ti, .int .i64 mi] w' fun e w'' => e = .returned (.bool (takeB D ti mi)) ∧ BkAt 44 w'' R (takeD D ti mi) ∧ Off R w' w'' := fun w' h => rtake_any h hg hto mi
          obtain ⟨v, hv⟩ : ∃ v, takeB D ti mi = v := ⟨_, rfl⟩
          rw [hv] at hwA hwR
          clear hv
          generalize takeD D ti mi = F at *
          have HG := Lib.hid gE
          clear gE
          go_region_held3 (fun w' => w'.cell? ⟨ob, 1, none⟩ = some (.int .i64 ti) ∧ w'.cell? ⟨ob, 2, none⟩ = some (.int .i64 mi))
            (first | exact ⟨q1, q2⟩ | exact ⟨q3, q4⟩ | exact ⟨q5, q6⟩)
            (first
              | (go_at_call 9; refine (hwA _ ?_).mono ?_; exact hx.drew; rintro e w5 ⟨rfl, h5, o5⟩; have r5 := rx.drew.off o5 hBR.symm; have hg5 := o5.block ob hol hoB; have q3 : w5.cell? ⟨ob, 1, none⟩ = some (.int .i64 ti) := (World.cell?_of_block (a := ⟨ob, 1, none⟩) hg5).trans q1; have q4 : w5.cell? ⟨ob, 2, none⟩ = some (.int .i64 mi) := (World.cell?_of_block (a := ⟨ob, 2, none⟩) hg5).trans q2; clear hg5)
              | (go_at_call 12; refine (hwR _ ?_).mono ?_; exact r5; rintro e w9 ⟨rfl, r9, o9⟩; have h9 := h5.off o9 hBR; have hg9 := o9.block ob (Nat.lt_of_lt_of_le hol o5.size) hoR; have q5 : w9.cell? ⟨ob, 1, none⟩ = some (.int .i64 ti) := (World.cell?_of_block (a := ⟨ob, 1, none⟩) hg9).trans q3; have q6 : w9.cell? ⟨ob, 2, none⟩ = some (.int .i64 mi) := (World.cell?_of_block (a := ⟨ob, 2, none⟩) hg9).trans q4; clear hg9))
          have b5 := bx.drew.trans (o5.toBelow HB.out bx.size)
          have b9 := b5.trans (o9.toBelow HN.out b5.size)
          clear q1 q2 hwA hwR hx rx bx h5 r5
          go_wp2_with fail
          go_roundw
          case rel => exact ⟨k + 1, F, by omega, by go_num, h9, r9, HG.out, b9⟩
          case measure => simp [intOf]; omega
        · have hkb0 : (kd == 0) = false := by simpa using hk0
          by_cases hk1 : kd = 1
          · have hkb : (kd == 1) = true := by simpa using hk1
            have HK := Lib.hid hk1
            have HK0 := Lib.hid hk0
            clear hk0 hk1
            go_wp2_with fail
            have q1 : (wr.alloc (.cells #[.int .i64 kd, .int .i64 ti, .int .i64 mi] 34)).cell? ⟨wr.heap.size, 1, none⟩ = some (.int .i64 ti) := cell_of_row _ wr.heap.size 1 _ _ _ (heap_alloc_new wr _)
            have q2 : (wr.alloc (.cells #[.int .i64 kd, .int .i64 ti, .int .i64 mi] 34)).cell? ⟨wr.heap.size, 2, none⟩ = some (.int .i64 mi) := cell_of_row _ wr.heap.size 2 _ _ _ (heap_alloc_new wr _)
            have hol : wr.heap.size < (wr.alloc (.cells #[.int .i64 kd, .int .i64 ti, .int .i64 mi] 34)).heap.size := by simp
            have hx := hp.alloc (.cells #[.int .i64 kd, .int .i64 ti, .int .i64 mi] 34)
            have rx := hr.alloc (.cells #[.int .i64 kd, .int .i64 ti, .int .i64 mi] 34)
            have bx := Below.al hb hb.size (.cells #[.int .i64 kd, .int .i64 ti, .int .i64 mi] 34)
            have hBw := hp.lt
            have hRw := hr.lt
            generalize hob : wr.heap.size = ob at *
            have hoB : ob ≠ B := by omega
            have hoR : ob ≠ R := by omega
            clear k1 k2 k3 hp hr hb hBw hRw
            generalize (wr.alloc (.cells #[.int .i64 kd, .int .i64 ti, .int .i64 mi] 34)) = wx at *
            clear hob
            have gE := hg.learn hto
            have hwA : ∀ w', BkAt 41 w' B D → Calls Try.prog 10 #[.pointer (some ⟨B, 0, none⟩), .int .i64 ti] w' fun e w'' => e = .returned (.int .i64 (learnP D ti).n) ∧ BkAt 41 w'' B (learnP D ti) ∧ Off B w' w'' := fun w' h => tokens_any h hg hto
            have hwR : ∀ w', BkAt 44 w' R D → Calls Try.prog 13 #[.pointer (some ⟨R, 0, none⟩), .int .i64 ti] w' fun e w'' => e = .returned (.int .i64 (learnP D ti).n) ∧ BkAt 44 w'' R (learnP D ti) ∧ Off R w' w'' := fun w' h => rtokens_any h hg hto
            obtain ⟨v, hv⟩ : ∃ v, (learnP D ti).n = v := ⟨_, rfl⟩
            rw [hv] at hwA hwR
            clear hv
            generalize learnP D ti = F at *
            have HG := Lib.hid gE
            clear gE
            go_region_held3 (fun w' => w'.cell? ⟨ob, 1, none⟩ = some (.int .i64 ti))
              (first | exact q1 | exact q3 | exact q5)
              (first
                | (go_at_call 10; refine (hwA _ ?_).mono ?_; exact hx.drew; rintro e w5 ⟨rfl, h5, o5⟩; have r5 := rx.drew.off o5 hBR.symm; have hg5 := o5.block ob hol hoB; have q3 : w5.cell? ⟨ob, 1, none⟩ = some (.int .i64 ti) := (World.cell?_of_block (a := ⟨ob, 1, none⟩) hg5).trans q1; clear hg5)
                | (go_at_call 13; refine (hwR _ ?_).mono ?_; exact r5; rintro e w9 ⟨rfl, r9, o9⟩; have h9 := h5.off o9 hBR; have hg9 := o9.block ob (Nat.lt_of_lt_of_le hol o5.size) hoR; have q5 : w9.cell? ⟨ob, 1, none⟩ = some (.int .i64 ti) := (World.cell?_of_block (a := ⟨ob, 1, none⟩) hg9).trans q3; clear hg9))
            have b5 := bx.drew.trans (o5.toBelow HB.out bx.size)
            have b9 := b5.trans (o9.toBelow HN.out b5.size)
            clear q1 q2 hwA hwR hx rx bx h5 r5
            go_wp2_with fail
            go_roundw
            case rel => exact ⟨k + 1, F, by omega, by go_num, h9, r9, HG.out, b9⟩
            case measure => simp [intOf]; omega
          · have hkb1 : (kd == 1) = false := by simpa using hk1
            by_cases hk2 : kd = 2
            · have hkb : (kd == 2) = true := by simpa using hk2
              have HK := Lib.hid hk2
              have HK0 := Lib.hid hk0
              have HK1 := Lib.hid hk1
              clear hk0 hk1 hk2
              go_wp2_with fail
              have q1 : (wr.alloc (.cells #[.int .i64 kd, .int .i64 ti, .int .i64 mi] 34)).cell? ⟨wr.heap.size, 1, none⟩ = some (.int .i64 ti) := cell_of_row _ wr.heap.size 1 _ _ _ (heap_alloc_new wr _)
              have q2 : (wr.alloc (.cells #[.int .i64 kd, .int .i64 ti, .int .i64 mi] 34)).cell? ⟨wr.heap.size, 2, none⟩ = some (.int .i64 mi) := cell_of_row _ wr.heap.size 2 _ _ _ (heap_alloc_new wr _)
              have hol : wr.heap.size < (wr.alloc (.cells #[.int .i64 kd, .int .i64 ti, .int .i64 mi] 34)).heap.size := by simp
              have hx := hp.alloc (.cells #[.int .i64 kd, .int .i64 ti, .int .i64 mi] 34)
              have rx := hr.alloc (.cells #[.int .i64 kd, .int .i64 ti, .int .i64 mi] 34)
              have bx := Below.al hb hb.size (.cells #[.int .i64 kd, .int .i64 ti, .int .i64 mi] 34)
              have hBw := hp.lt
              have hRw := hr.lt
              generalize hob : wr.heap.size = ob at *
              have hoB : ob ≠ B := by omega
              have hoR : ob ≠ R := by omega
              clear k1 k2 k3 hp hr hb hBw hRw
              generalize (wr.alloc (.cells #[.int .i64 kd, .int .i64 ti, .int .i64 mi] 34)) = wx at *
              clear hob
              have gE := hg.learn hto
              have hwA : ∀ w', BkAt 41 w' B D → Calls Try.prog 14 #[.pointer (some ⟨B, 0, none⟩), .int .i64 ti] w' fun e w'' => e = .returned (.bool (decide ((learnP D ti).n = (learnP D ti).b))) ∧ BkAt 41 w'' B (learnP D ti) ∧ Off B w' w'' := fun w' h => full_any h hg hto
              have hwR : ∀ w', BkAt 44 w' R D → Calls Try.prog 15 #[.pointer (some ⟨R, 0, none⟩), .int .i64 ti] w' fun e w'' => e = .returned (.bool (decide ((learnP D ti).n = (learnP D ti).b))) ∧ BkAt 44 w'' R (learnP D ti) ∧ Off R w' w'' := fun w' h => rfull_any h hg hto
              obtain ⟨v, hv⟩ : ∃ v, decide ((learnP D ti).n = (learnP D ti).b) = v := ⟨_, rfl⟩
              rw [hv] at hwA hwR
              clear hv
              generalize learnP D ti = F at *
              have HG := Lib.hid gE
              clear gE
              go_region_held3 (fun w' => w'.cell? ⟨ob, 1, none⟩ = some (.int .i64 ti))
                (first | exact q1 | exact q3 | exact q5)
                (first
                  | (go_at_call 14; refine (hwA _ ?_).mono ?_; exact hx.drew; rintro e w5 ⟨rfl, h5, o5⟩; have r5 := rx.drew.off o5 hBR.symm; have hg5 := o5.block ob hol hoB; have q3 : w5.cell? ⟨ob, 1, none⟩ = some (.int .i64 ti) := (World.cell?_of_block (a := ⟨ob, 1, none⟩) hg5).trans q1; clear hg5)
                  | (go_at_call 15; refine (hwR _ ?_).mono ?_; exact r5; rintro e w9 ⟨rfl, r9, o9⟩; have h9 := h5.off o9 hBR; have hg9 := o9.block ob (Nat.lt_of_lt_of_le hol o5.size) hoR; have q5 : w9.cell? ⟨ob, 1, none⟩ = some (.int .i64 ti) := (World.cell?_of_block (a := ⟨ob, 1, none⟩) hg9).trans q3; clear hg9))
              have b5 := bx.drew.trans (o5.toBelow HB.out bx.size)
              have b9 := b5.trans (o9.toBelow HN.out b5.size)
              clear q1 q2 hwA hwR hx rx bx h5 r5
              go_wp2_with fail
              go_roundw
              case rel => exact ⟨k + 1, F, by omega, by go_num, h9, r9, HG.out, b9⟩
              case measure => simp [intOf]; omega
            · have hkb2 : (kd == 2) = false := by simpa using hk2
              have bx := Below.al hb hb.size (.cells #[.int .i64 kd, .int .i64 ti, .int .i64 mi] 34)
              have hx := hp.alloc (.cells #[.int .i64 kd, .int .i64 ti, .int .i64 mi] 34)
              have rx := hr.alloc (.cells #[.int .i64 kd, .int .i64 ti, .int .i64 mi] 34)
              go_wp2_with fail
              go_roundw
              case rel => exact ⟨k + 1, D, by omega, by go_num, hx, rx, hg, bx⟩
              case measure => simp [intOf]; omega
      · have hc1 := tokens_any hp hg ht
        have hc2 : ∀ w', BkAt 44 w' R D → Calls Try.prog 13 #[.pointer (some ⟨R, 0, none⟩), .int .i64 t] w' fun e w'' => e = .returned (.int .i64 (learnP D t).n) ∧ BkAt 44 w'' R (learnP D t) ∧ Off R w' w'' := fun w' h => rtokens_any h hg ht
        generalize learnP D t = E at *
        go_wp2_with (first
          | (go_at_call 10; refine hc1.mono ?_; rintro e w6 ⟨rfl, h6, o6⟩; have hr6 := hr.off o6 hBR.symm)
          | (go_at_call 13; refine (hc2 _ hr6).mono ?_; rintro e w7 ⟨rfl, h7, o7⟩))
        go_ret
        exact ⟨rfl, (hb.trans (o6.toBelow HB.out hb.size)).trans (o7.toBelow HN.out (Nat.le_trans hb.size o6.size))⟩
end Go.Proofs.Ytdpfeddfpdmfkaa
