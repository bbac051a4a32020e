/- DiskScript's walk; by-name template. -/
import Derived.Test.YtgdbjlmlgnjpoaaSame
import Derived.Test.YtgdbjlmlgnjpoaaReads
import Derived.LaidEqlPtr
namespace Go.Proofs.Ytgdbjlmlgnjpoaa
open Go.RowKit

theorem below_drewN (N : Nat) (w : World) (m : Nat) : Below N w (w.drewN m) := ⟨rfl, rfl, rfl, Nat.le_refl _, fun _ _ => rfl⟩
theorem Off.of_alloc (B : Nat) (w : World) (o : Obj) : Off B w (w.alloc o) := (Off.refl B w).alloc o

/-- What is left of the last clone. -/
def LeftInv (w : World) (B R g BL RL : Nat) : Prop := BL = B ∨
  ∃ gL capL D, BL ≠ B ∧ BL ≠ R ∧ BL ≠ g ∧ RL ≠ B ∧ RL ≠ R ∧ RL ≠ g ∧ gL ≠ B ∧ gL ≠ R ∧ gL ≠ g ∧ DiskAt w BL D ∧ RefAt w RL gL capL D
theorem LeftInv.off {w w' : World} {B R g BL RL : Nat} (h : LeftInv w B R g BL RL) (ho : Off B w w') : LeftInv w' B R g BL RL := by
  rcases h with h | ⟨gL, capL, D, a1, a2, a3, a4, a5, a6, a7, a8, a9, hd, hr⟩
  · exact .inl h
  · exact .inr ⟨gL, capL, D, a1, a2, a3, a4, a5, a6, a7, a8, a9, hd.off ho a1, hr.off ho a4 a7⟩
theorem LeftInv.off2 {w w' : World} {B R g BL RL : Nat} (h : LeftInv w B R g BL RL) (ho : Off2 R g w w') : LeftInv w' B R g BL RL := by
  rcases h with h | ⟨gL, capL, D, a1, a2, a3, a4, a5, a6, a7, a8, a9, hd, hr⟩
  · exact .inl h
  · exact .inr ⟨gL, capL, D, a1, a2, a3, a4, a5, a6, a7, a8, a9, hd.off2 ho a2 a3, hr.off2 ho a5 a6 a8 a9⟩
theorem LeftInv.drewN {w : World} {B R g BL RL : Nat} (h : LeftInv w B R g BL RL) (n : Nat) : LeftInv (w.drewN n) B R g BL RL := h.off ⟨rfl, rfl, rfl, Nat.le_refl _, fun _ _ _ => rfl⟩
theorem RefAt.drewN {w : World} {R g cap : Nat} {D : DS} (h : RefAt w R g cap D) (n : Nat) : RefAt (w.drewN n) R g cap D := h.blocks rfl rfl
theorem RefAt.drew {w : World} {R g cap : Nat} {D : DS} (h : RefAt w R g cap D) : RefAt w.drew R g cap D := h.blocks rfl rfl
theorem Sound.power {D : DS} {k : Nat} (h : Sound D k) : Sound { D with d := false, c := false } k := ⟨h.l0, h.l1, h.n0, h.n1, h.s⟩

/-- Both answer a read alike. -/
theorem read_both (D : DS) (i : Int) : ∃ (t : ByteArray) (r : Int), (∀ (w : World) (B : Nat), DiskAt w B D → Calls Try.prog 14 #[.pointer (some ⟨B, 0, none⟩), .int .i64 i] w fun e w' => e = .returned (.tuple #[.string t, .int .i64 r]) ∧ w = w') ∧
    (∀ (w : World) (R g cap : Nat), RefAt w R g cap D → Calls Try.prog 20 #[.pointer (some ⟨R, 0, none⟩), .int .i64 i] w fun e w' => e = .returned (.tuple #[.string t, .int .i64 r]) ∧ w = w') := by
  by_cases hi : inSec i = true
  · obtain ⟨h0, h1⟩ := inSec_iff.1 hi
    obtain ⟨j, rfl⟩ := Int.eq_ofNat_of_zero_le h0
    exact ⟨_, _, fun w B h => read_at h (by omega), fun w R g cap h => rread_at h (by omega)⟩
  · have hi' : inSec i = false := by simpa using hi
    exact ⟨_, _, fun w B _ => read_no hi' B w, fun w R g cap _ => rread_no hi' R w⟩

set_option maxHeartbeats 4000000 in
set_option maxRecDepth 100000 in
theorem script_walk {a : Option Addr} {L : List Stp} (cap : Nat) {w : World} (h : StepsAt w a L) :
    Calls Try.prog 5 #[.slice a L.length cap] w fun e w' => e = .returned (.bool true) ∧ Below w.heap.size w w' := by
  have hhv := heavy_any cap h
  have hl := h.1
  have hnew := new_any w
  have HS := Lib.hid h
  clear h
  generalize hlen : L.length = len at *
  have HL := Lib.hid hlen
  clear hlen
  go_enter Try.func5, Try.ntmps5
  go_wp2_with fail
  refine hhv.mono ?_
  rintro e w' ⟨bv, rfl, hb, rfl⟩
  clear hhv
  cases bv
  · have hlen : len ≤ 1024 := by rw [← HL.out]; exact hb rfl
    clear hb
    obtain ⟨N, hNe⟩ : ∃ N, N = w.heap.size := ⟨_, rfl⟩
    rw [← hNe] at hnew
    have hlN : w.heap.size ≤ N := Nat.le_of_eq hNe.symm
    clear hNe
    go_wp2_with (first
      | (go_at_call 9; refine hnew.mono ?_; rintro e w1 ⟨rfl, hd1, hb1, hs1⟩)
      | (go_at_call 17; refine (rnew_any w1).mono ?_; rintro e w2 ⟨R, g, capg, rfl, hr2, hR2, hg2, hb2⟩; have hd2 := hd1.below hb2 hs1; have hbel2 := hb1.trans (hb2.mono (Nat.le_of_lt hs1)))
      | (go_at_call 18; refine (same_any hd2 hr2).mono ?_; rintro e w3 ⟨rfl, m3, rfl⟩))
    have hRN : N < R := by omega
    have hgN : N < g := by omega
    have hd3 := hd2.drewN m3
    have hr3 := hr2.drewN m3
    have hbel3 := hbel2.trans (below_drewN N w2 m3)
    clear hnew hd1 hb1 hs1 hR2 hg2 hb2 hd2 hr2 hbel2
    go_loopw [3, 5, 6, 7] (fun d l kp c wr => ∃ (k B BL RL : Nat) (D : DS), k ≤ len ∧ c = .int .i64 (k : Int) ∧ d = .pointer (some ⟨B, 0, none⟩) ∧ l = .pointer (some ⟨BL, 0, none⟩) ∧ kp = .pointer (some ⟨RL, 0, none⟩) ∧ DiskAt wr B D ∧ RefAt wr R g capg D ∧ Sound D k ∧ N ≤ B ∧ B ≠ R ∧ B ≠ g ∧ Below N w wr ∧ LeftInv wr B R g BL RL) (fun _ _ _ c _ => len - (intOf c).toNat)
    case atStart => exact ⟨0, N, N, R, D0, by omega, rfl, rfl, rfl, rfl, hd3, hr3, calm0.sound, Nat.le_refl _, by omega, by omega, hbel3, .inl rfl⟩
    case round =>
      clear hd3 hr3 hbel3
      obtain ⟨k, B, BL, RL, D, hk, rfl, rfl, rfl, rfl, hA, hR, hc, hNB, hBR, hBg, hbel, hleft⟩ := hrel
      by_cases hlt : k < len
      · obtain ⟨b, off, s, ha, hbb, _, hst0⟩ := HS.out.get (k := k) (by rw [HL.out]; exact hlt)
        have hst := hst0.block (hbel.block b (by omega))
        have k1 := hst.ck
        have k2 := hst.cn
        have k3 := hst.ct
        have hwn := hst.wn
        subst ha
        clear hst hst0
        generalize s.kind = kd at *
        generalize s.n = ni at *
        generalize s.text = tx at *
        have hAx := hA.alloc (.cells #[.int .i64 kd, .int .i64 ni, .string tx] 29)
        have hRx := hR.alloc (.cells #[.int .i64 kd, .int .i64 ni, .string tx] 29)
        have hbelx : Below N w (wr.alloc (.cells #[.int .i64 kd, .int .i64 ni, .string tx] 29)) := hbel.alloc (by have := hA.lt; omega) _
        have hleftx := hleft.off (Off.of_alloc B wr (.cells #[.int .i64 kd, .int .i64 ni, .string tx] 29))
        have hBw := hA.lt
        have hRw := hR.lt
        have hgw := hR.s.lt
        by_cases hk0 : kd = 0
        · have hkb : (kd == 0) = true := by simpa using hk0
          have HK := Lib.hid hk0
          clear hk0
          go_wp2_with fail
          have q1 : (wr.alloc (.cells #[.int .i64 kd, .int .i64 ni, .string tx] 29)).cell? ⟨wr.heap.size, 1, none⟩ = some (.int .i64 ni) := cell_of_row _ wr.heap.size 1 _ _ _ (heap_alloc_new wr _)
          have q2 : (wr.alloc (.cells #[.int .i64 kd, .int .i64 ni, .string tx] 29)).cell? ⟨wr.heap.size, 2, none⟩ = some (.string tx) := cell_of_row _ wr.heap.size 2 _ _ _ (heap_alloc_new wr _)
          have hol : wr.heap.size < (wr.alloc (.cells #[.int .i64 kd, .int .i64 ni, .string tx] 29)).heap.size := by simp
          generalize hob : wr.heap.size = ob at *
          have hoB : ob ≠ B := by omega
          have hoR : ob ≠ R := by omega
          have hog : ob ≠ g := by omega
          clear k1 k2 k3 hA hR hbel hleft hBw hRw hgw
          generalize wr.alloc (.cells #[.int .i64 kd, .int .i64 ni, .string tx] 29) = wx at *
          clear hob
          obtain ⟨r, hr⟩ : ∃ r, wres D ni tx = r := ⟨_, rfl⟩
          have hc9 := hc.wst ni tx
          have hwrA : ∀ w', DiskAt w' B D → Calls Try.prog 12 #[.pointer (some ⟨B, 0, none⟩), .int .i64 ni, .string tx] w' fun e w'' => e = .returned (.int .i64 r) ∧ DiskAt w'' B (wst D ni tx) ∧ Off B w' w'' := by
            intro w' hw'
            rw [← hr]
            exact write_any hw' hc.l0 hc.l1 hc.n0 (by have := hc.n1; omega) ni tx
          have hwrR : ∀ w', RefAt w' R g capg D → Calls Try.prog 19 #[.pointer (some ⟨R, 0, none⟩), .int .i64 ni, .string tx] w' fun e w'' => e = .returned (.int .i64 r) ∧ RefAt w'' R g capg (wst D ni tx) ∧ Off2 R g w' w'' := by
            intro w' hw'
            rw [← hr]
            exact rwrite_any hw' hc.l0 hc.l1 hc.n0 (by have := hc.n1; omega) ni tx
          clear hr
          generalize wst D ni tx = D9 at *
          go_region_held3 (fun w' => w'.cell? ⟨ob, 1, none⟩ = some (.int .i64 ni) ∧ w'.cell? ⟨ob, 2, none⟩ = some (.string tx))
            (first | exact ⟨q1, q2⟩ | exact ⟨q3, q4⟩ | exact ⟨q5, q6⟩)
            (first
              | (go_at_call 12; refine (hwrA _ ?_).mono ?_; exact hAx.drew; rintro e w5 ⟨rfl, hA5, hoA5⟩; have hR5 := hRx.drew.off hoA5 hBR.symm hBg.symm; have hg5 := hoA5.block ob hol hoB; have q3 : w5.cell? ⟨ob, 1, none⟩ = some (.int .i64 ni) := (World.cell?_of_block (a := ⟨ob, 1, none⟩) hg5).trans q1; have q4 : w5.cell? ⟨ob, 2, none⟩ = some (.string tx) := (World.cell?_of_block (a := ⟨ob, 2, none⟩) hg5).trans q2; clear hg5)
              | (go_at_call 19; refine (hwrR _ ?_).mono ?_; exact hR5; rintro e w9 ⟨rfl, hR9, hoR9⟩; have hA9 := hA5.off2 hoR9 hBR hBg; have hg6 := hoR9.block ob (Nat.lt_of_lt_of_le hol hoA5.size) hoR hog; have q5 : w9.cell? ⟨ob, 1, none⟩ = some (.int .i64 ni) := (World.cell?_of_block (a := ⟨ob, 1, none⟩) hg6).trans q3; have q6 : w9.cell? ⟨ob, 2, none⟩ = some (.string tx) := (World.cell?_of_block (a := ⟨ob, 2, none⟩) hg6).trans q4; clear hg6))
          have hbel9 := (hbelx.drew.trans ((hoA5.toBelow (Nat.le_of_lt hAx.lt)).mono hNB)).trans (hoR9.toBelow (A := N) (by have := hA5.lt; omega) (Nat.le_of_lt hRN) (Nat.le_of_lt hgN))
          have hleft9 := ((hleftx.drewN 1).off hoA5).off2 hoR9
          clear q1 q2 q3 q4 q5 q6 hwrA hwrR hAx hRx hbelx hleftx hA5 hR5
          go_wp2_with fail
          have g1 := hR9.c1
          have g4 := hR9.c4
          have hwr := fun n => (writes_any (hA9.drewN n)).mono fun _ _ ⟨he, hw⟩ => (⟨he, hw.symm⟩ : _ ∧ _)
          have hde := fun n => (dead_any (hA9.drewN n)).mono fun _ _ ⟨he, hw⟩ => (⟨he, hw.symm⟩ : _ ∧ _)
          have HK9 : Hid (DiskAt w9 B D9 ∧ RefAt w9 R g capg D9 ∧ Sound D9 (k + 1) ∧ Below N w w9 ∧ LeftInv w9 B R g BL RL) := ⟨hA9, hR9, hc9, hbel9, hleft9⟩
          clear hA9 hR9 hc9 hbel9 hleft9
          go_quiet (first
            | (go_at_call 15; exact Calls.quiet_of_same (hwr _))
            | (go_at_call 13; exact Calls.quiet_of_same (hde _)))
          go_wp2_with fail
          go_roundw
          case rel => exact ⟨k + 1, B, BL, RL, D9, by omega, by go_num, rfl, rfl, rfl, HK9.out.1.drewN _, HK9.out.2.1.drewN _, HK9.out.2.2.1, hNB, hBR, hBg, HK9.out.2.2.2.1.trans (below_drewN N w9 _), HK9.out.2.2.2.2.drewN _⟩
          case measure => simp [intOf]; omega
        · by_cases hk1 : kd = 1
          · have hkb0 : (kd == 0) = false := by simpa using hk0
            have hkb : (kd == 1) = true := by simpa using hk1
            have HK0 := Lib.hid hk0
            have HK1 := Lib.hid hk1
            clear hk0 hk1
            obtain ⟨t, r, hrA, hrR⟩ := read_both D ni
            go_wp2_with (first
              | (go_at_call 14; refine (hrA _ B hAx).mono ?_; rintro e w5 ⟨rfl, rfl⟩)
              | (go_at_call 20; refine (hrR _ R g capg hRx).mono ?_; rintro e w5 ⟨rfl, rfl⟩))
            have hA9 := hAx
            have hR9 := hRx
            have hc9 := hc.mono (Nat.le_succ k)
            have hbel9 := hbelx
            have hleft9 := hleftx
            clear k1 k2 k3 hA hR hbel hleft hBw hRw hgw hrA hrR hAx hRx hbelx hleftx
            generalize wr.alloc (.cells #[.int .i64 kd, .int .i64 ni, .string tx] 29) = w9 at *
            have g1 := hR9.c1
            have g4 := hR9.c4
            have hwr := fun n => (writes_any (hA9.drewN n)).mono fun _ _ ⟨he, hw⟩ => (⟨he, hw.symm⟩ : _ ∧ _)
            have hde := fun n => (dead_any (hA9.drewN n)).mono fun _ _ ⟨he, hw⟩ => (⟨he, hw.symm⟩ : _ ∧ _)
            have HK9 : Hid (DiskAt w9 B D ∧ RefAt w9 R g capg D ∧ Sound D (k + 1) ∧ Below N w w9 ∧ LeftInv w9 B R g BL RL) := ⟨hA9, hR9, hc9, hbel9, hleft9⟩
            clear hA9 hR9 hc9 hbel9 hleft9
            go_quiet (first
              | (go_at_call 15; exact Calls.quiet_of_same (hwr _))
              | (go_at_call 13; exact Calls.quiet_of_same (hde _)))
            go_wp2_with fail
            go_roundw
            case rel => exact ⟨k + 1, B, BL, RL, D, by omega, by go_num, rfl, rfl, rfl, HK9.out.1.drewN _, HK9.out.2.1.drewN _, HK9.out.2.2.1, hNB, hBR, hBg, HK9.out.2.2.2.1.trans (below_drewN N w9 _), HK9.out.2.2.2.2.drewN _⟩
            case measure => simp [intOf]; omega
          · by_cases hk2 : kd = 2
            · have hkb0 : (kd == 0) = false := by simpa using hk0
              have hkb1 : (kd == 1) = false := by simpa using hk1
              have hkb : (kd == 2) = true := by simpa using hk2
              have HK0 := Lib.hid hk0
              have HK1 := Lib.hid hk1
              have HK2 := Lib.hid hk2
              clear hk0 hk1 hk2
              have hoB : wr.heap.size ≠ B := by omega
              have hob := heap_alloc_new wr (.cells #[.int .i64 kd, .int .i64 ni, .string tx] 29)
              have HOB := Lib.hid hob
              clear hob
              go_wp2_with (first
                | (go_at_call 10; refine (cut_any hAx ni).mono ?_; rintro e w5 ⟨rfl, hA5, hoA5⟩; have hR5 := hRx.off hoA5 hBR.symm hBg.symm; have q3 : w5.cell? ⟨wr.heap.size, 1, none⟩ = some (.int .i64 ni) := cell_of_row w5 wr.heap.size 1 _ _ _ ((hoA5.block wr.heap.size (by simp) hoB).trans HOB.out))
                | (go_at_call 21; refine (rcut_any hR5 ni).mono ?_; rintro e w9 ⟨rfl, hR9, hoR9⟩))
              have hA9 := hA5.off2 hoR9 hBR hBg
              have hc9 := (hc.cut hwn).mono (Nat.le_succ k)
              have hbel9 := (hbelx.trans (hoA5.toBelow (by simp; omega) |>.mono hNB)).trans (hoR9.toBelow (A := N) (by have := hA5.lt; omega) (Nat.le_of_lt hRN) (Nat.le_of_lt hgN))
              have hleft9 := (hleftx.off hoA5).off2 hoR9
              clear k1 k2 k3 hA hR hbel hleft hBw hRw hgw hAx hRx hbelx hleftx q3 hA5 hR5 hoA5 hoR9 HOB
              generalize hD9 : ({ D with c := true, l := max ni 0 } : DS) = D9 at *
              clear hD9
              have g1 := hR9.c1
              have g4 := hR9.c4
              have hwr := fun n => (writes_any (hA9.drewN n)).mono fun _ _ ⟨he, hw⟩ => (⟨he, hw.symm⟩ : _ ∧ _)
              have hde := fun n => (dead_any (hA9.drewN n)).mono fun _ _ ⟨he, hw⟩ => (⟨he, hw.symm⟩ : _ ∧ _)
              have HK9 : Hid (DiskAt w9 B D9 ∧ RefAt w9 R g capg D9 ∧ Sound D9 (k + 1) ∧ Below N w w9 ∧ LeftInv w9 B R g BL RL) := ⟨hA9, hR9, hc9, hbel9, hleft9⟩
              clear hA9 hR9 hc9 hbel9 hleft9
              go_quiet (first
                | (go_at_call 15; exact Calls.quiet_of_same (hwr _))
                | (go_at_call 13; exact Calls.quiet_of_same (hde _)))
              go_wp2_with fail
              go_roundw
              case rel => exact ⟨k + 1, B, BL, RL, D9, by omega, by go_num, rfl, rfl, rfl, HK9.out.1.drewN _, HK9.out.2.1.drewN _, HK9.out.2.2.1, hNB, hBR, hBg, HK9.out.2.2.2.1.trans (below_drewN N w9 _), HK9.out.2.2.2.2.drewN _⟩
              case measure => simp [intOf]; omega
            · by_cases hk3 : kd = 3
              · have hkb0 : (kd == 0) = false := by simpa using hk0
                have hkb1 : (kd == 1) = false := by simpa using hk1
                have hkb2 : (kd == 2) = false := by simpa using hk2
                have hkb : (kd == 3) = true := by simpa using hk3
                have HK0 := Lib.hid hk0
                have HK1 := Lib.hid hk1
                have HK2 := Lib.hid hk2
                have HK3 := Lib.hid hk3
                clear hk0 hk1 hk2 hk3
                go_wp2_with (first
                  | (go_at_call 11; refine (power_any hAx).mono ?_; rintro e w5 ⟨rfl, hA5, hoA5⟩; have hR5 := hRx.off hoA5 hBR.symm hBg.symm)
                  | (go_at_call 22; refine (rpower_any hR5).mono ?_; rintro e w9 ⟨rfl, hR9, hoR9⟩))
                have hA9 := hA5.off2 hoR9 hBR hBg
                have hc9 := hc.power.mono (Nat.le_succ k)
                have hbel9 := (hbelx.trans (hoA5.toBelow (by simp; omega) |>.mono hNB)).trans (hoR9.toBelow (A := N) (by have := hA5.lt; omega) (Nat.le_of_lt hRN) (Nat.le_of_lt hgN))
                have hleft9 := (hleftx.off hoA5).off2 hoR9
                clear k1 k2 k3 hA hR hbel hleft hBw hRw hgw hAx hRx hbelx hleftx hA5 hR5 hoA5 hoR9
                generalize hD9 : ({ D with d := false, c := false } : DS) = D9 at *
                clear hD9
                have g1 := hR9.c1
                have g4 := hR9.c4
                have hwr := fun n => (writes_any (hA9.drewN n)).mono fun _ _ ⟨he, hw⟩ => (⟨he, hw.symm⟩ : _ ∧ _)
                have hde := fun n => (dead_any (hA9.drewN n)).mono fun _ _ ⟨he, hw⟩ => (⟨he, hw.symm⟩ : _ ∧ _)
                have HK9 : Hid (DiskAt w9 B D9 ∧ RefAt w9 R g capg D9 ∧ Sound D9 (k + 1) ∧ Below N w w9 ∧ LeftInv w9 B R g BL RL) := ⟨hA9, hR9, hc9, hbel9, hleft9⟩
                clear hA9 hR9 hc9 hbel9 hleft9
                go_quiet (first
                  | (go_at_call 15; exact Calls.quiet_of_same (hwr _))
                  | (go_at_call 13; exact Calls.quiet_of_same (hde _)))
                go_wp2_with fail
                go_roundw
                case rel => exact ⟨k + 1, B, BL, RL, D9, by omega, by go_num, rfl, rfl, rfl, HK9.out.1.drewN _, HK9.out.2.1.drewN _, HK9.out.2.2.1, hNB, hBR, hBg, HK9.out.2.2.2.1.trans (below_drewN N w9 _), HK9.out.2.2.2.2.drewN _⟩
                case measure => simp [intOf]; omega
              · by_cases hk4 : kd = 4
                · have hkb0 : (kd == 0) = false := by simpa using hk0
                  have hkb1 : (kd == 1) = false := by simpa using hk1
                  have hkb2 : (kd == 2) = false := by simpa using hk2
                  have hkb3 : (kd == 3) = false := by simpa using hk3
                  have hkb : (kd == 4) = true := by simpa using hk4
                  have HK0 := Lib.hid hk0
                  have HK1 := Lib.hid hk1
                  have HK2 := Lib.hid hk2
                  have HK3 := Lib.hid hk3
                  have HK4 := Lib.hid hk4
                  clear hk0 hk1 hk2 hk3 hk4
                  obtain ⟨RL2, hRL2⟩ : ∃ x, x = (wr.alloc (.cells #[.int .i64 kd, .int .i64 ni, .string tx] 29)).heap.size := ⟨_, rfl⟩
                  have hcl := rclone_any hRx
                  unfold RClonePost at hcl
                  rw [← hRL2] at hcl
                  have hRL3 : wr.heap.size < RL2 := by rw [hRL2]; simp
                  have hlx : (wr.alloc (.cells #[.int .i64 kd, .int .i64 ni, .string tx] 29)).heap.size ≤ RL2 := Nat.le_of_eq hRL2.symm
                  clear hRL2
                  go_wp2_with (first
                    | (go_at_call 23; refine hcl.mono ?_; rintro e w5 ⟨gL, capL, rfl, hRL5, hgL, hb5⟩; have hA5 := hAx.below hb5 (by omega); have hR5 := hRx.below hb5 (by omega) (by omega); have hbel5 := hbelx.trans (hb5.mono (by omega)))
                    | (go_at_call 16; refine (clone_any hA5).mono ?_; rintro e w9 ⟨rfl, hA9, hb9, hs9⟩))
                  have hR9 := hR5.below hb9 hR5.lt hR5.s.lt
                  have hc9 := hc.mono (Nat.le_succ k)
                  have hbel9 := hbel5.trans (hb9.mono (by have := hA5.lt; omega))
                  have hleft9 : LeftInv w9 w5.heap.size R g B RL2 := .inr ⟨gL, capL, D, by have := hA5.lt; omega, hBR, hBg, by have := hRL5.lt; omega, by omega, by omega, by have := hRL5.s.lt; omega, by omega, by omega, hA5.below hb9 hA5.lt, hRL5.below hb9 hRL5.lt hRL5.s.lt⟩
                  have hNB9 : N ≤ w5.heap.size := by have := hA5.lt; omega
                  have hBR9 : w5.heap.size ≠ R := by have := hR5.lt; omega
                  have hBg9 : w5.heap.size ≠ g := by have := hR5.s.lt; omega
                  clear k1 k2 k3 hA hR hbel hleft hBw hRw hgw hAx hRx hbelx hleftx hA5 hR5 hbel5 hb9 hb5 hRL5 hcl hs9
                  generalize w5.heap.size = B9 at *
                  have g1 := hR9.c1
                  have g4 := hR9.c4
                  have hwr := fun n => (writes_any (hA9.drewN n)).mono fun _ _ ⟨he, hw⟩ => (⟨he, hw.symm⟩ : _ ∧ _)
                  have hde := fun n => (dead_any (hA9.drewN n)).mono fun _ _ ⟨he, hw⟩ => (⟨he, hw.symm⟩ : _ ∧ _)
                  have HK9 : Hid (DiskAt w9 B9 D ∧ RefAt w9 R g capg D ∧ Sound D (k + 1) ∧ Below N w w9 ∧ LeftInv w9 B9 R g B RL2) := ⟨hA9, hR9, hc9, hbel9, hleft9⟩
                  clear hA9 hR9 hc9 hbel9 hleft9
                  go_quiet (first
                    | (go_at_call 15; exact Calls.quiet_of_same (hwr _))
                    | (go_at_call 13; exact Calls.quiet_of_same (hde _)))
                  go_wp2_with fail
                  go_roundw
                  case rel => exact ⟨k + 1, B9, B, RL2, D, by omega, by go_num, rfl, rfl, rfl, HK9.out.1.drewN _, HK9.out.2.1.drewN _, HK9.out.2.2.1, hNB9, hBR9, hBg9, HK9.out.2.2.2.1.trans (below_drewN N w9 _), HK9.out.2.2.2.2.drewN _⟩
                  case measure => simp [intOf]; omega
                · have hkb0 : (kd == 0) = false := by simpa using hk0
                  have hkb1 : (kd == 1) = false := by simpa using hk1
                  have hkb2 : (kd == 2) = false := by simpa using hk2
                  have hkb3 : (kd == 3) = false := by simpa using hk3
                  have hkb4 : (kd == 4) = false := by simpa using hk4
                  have HK0 := Lib.hid hk0
                  have HK1 := Lib.hid hk1
                  have HK2 := Lib.hid hk2
                  have HK3 := Lib.hid hk3
                  have HK4 := Lib.hid hk4
                  clear hk0 hk1 hk2 hk3 hk4
                  go_wp2_with fail
                  have hA9 := hAx
                  have hR9 := hRx
                  have hc9 := hc.mono (Nat.le_succ k)
                  have hbel9 := hbelx
                  have hleft9 := hleftx
                  clear k1 k2 k3 hA hR hbel hleft hBw hRw hgw hAx hRx hbelx hleftx
                  generalize wr.alloc (.cells #[.int .i64 kd, .int .i64 ni, .string tx] 29) = w9 at *
                  have g1 := hR9.c1
                  have g4 := hR9.c4
                  have hwr := fun n => (writes_any (hA9.drewN n)).mono fun _ _ ⟨he, hw⟩ => (⟨he, hw.symm⟩ : _ ∧ _)
                  have hde := fun n => (dead_any (hA9.drewN n)).mono fun _ _ ⟨he, hw⟩ => (⟨he, hw.symm⟩ : _ ∧ _)
                  have HK9 : Hid (DiskAt w9 B D ∧ RefAt w9 R g capg D ∧ Sound D (k + 1) ∧ Below N w w9 ∧ LeftInv w9 B R g BL RL) := ⟨hA9, hR9, hc9, hbel9, hleft9⟩
                  clear hA9 hR9 hc9 hbel9 hleft9
                  go_quiet (first
                    | (go_at_call 15; exact Calls.quiet_of_same (hwr _))
                    | (go_at_call 13; exact Calls.quiet_of_same (hde _)))
                  go_wp2_with fail
                  go_roundw
                  case rel => exact ⟨k + 1, B, BL, RL, D, by omega, by go_num, rfl, rfl, rfl, HK9.out.1.drewN _, HK9.out.2.1.drewN _, HK9.out.2.2.1, hNB, hBR, hBg, HK9.out.2.2.2.1.trans (below_drewN N w9 _), HK9.out.2.2.2.2.drewN _⟩
                  case measure => simp [intOf]; omega
      · rcases hleft with rfl | ⟨gL, capL, D', a1, a2, a3, a4, a5, a6, a7, a8, a9, hAL, hRL⟩
        · obtain ⟨ti, hti⟩ : ∃ j, Try.prog.info? 46 = some j := by
            cases hq : Try.prog.info? 46 with
            | none => have := disk_info; simp [hq] at this
            | some j => exact ⟨j, rfl⟩
          have hpe := fun wq => run_eql_ptr_same (P := Try.prog) wq (tp := 25) ⟨BL, 0, none⟩ Try.underlying25 hti
          clear hti
          go_wp2_with (go_at_call 18; refine (same_any hA hR).mono ?_; rintro e w3 ⟨rfl, m3, rfl⟩)
          go_ret
          exact ⟨rfl, (hbel.trans (below_drewN N wr _)).mono hlN⟩
        · obtain ⟨ti, hti, hts⟩ : ∃ j, Try.prog.info? 46 = some j ∧ j.size ≠ 0 := by
            cases hq : Try.prog.info? 46 with
            | none => have := disk_info; simp [hq] at this
            | some j => exact ⟨j, rfl, by have := disk_info; simp [hq] at this; omega⟩
          have hpe := fun n => run_eql_ptr_other (P := Try.prog) (wr.drewN n) (tp := 25) (a := ⟨BL, 0, none⟩) (b := ⟨B, 0, none⟩) Try.underlying25 hti hts (by intro e; injection e; contradiction) (hAL.drewN n).2 (hA.drewN n).2
          have hALn := fun n => hAL.drewN n
          have hRLn := fun n => hRL.drewN n
          have HALn := Lib.hid hALn
          have HRLn := Lib.hid hRLn
          clear hAL hRL hALn hRLn a4 a5 a6 a7 a8 a9 a2 a3 hti hts
          go_wp2_with (first
            | (go_at_call_of 18 (Value.pointer (some ⟨B, 0, none⟩)); refine (same_any hA hR).mono ?_; rintro e w3 ⟨rfl, m3, rfl⟩; have hpe3 := hpe m3; clear hpe)
            | (go_at_call 18; refine (same_any (HALn.out _) (HRLn.out _)).mono ?_; rintro e w4 ⟨rfl, m4, rfl⟩))
          go_ret
          exact ⟨rfl, (hbel.trans (below_drewN N wr _)).mono hlN⟩
  · go_wp2_with fail
    go_ret
    exact ⟨rfl, Below.refl _ _⟩
end Go.Proofs.Ytgdbjlmlgnjpoaa
