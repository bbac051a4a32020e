/- WheelDrop's walk; by-name template (gen_whdrop.py). -/
import Derived.Test.YtcmdelmgklidjaaWhSo
import Derived.Test.YtcmdelmgklidjaaWhFrame
import Derived.Test.YtcmdelmgklidjaaWhPl
namespace Go.Proofs.Ytcmdelmgklidjaa
open Go.RowKit Go.Lib Go.Maps
set_option linter.unusedVariables false
set_option linter.unusedSimpArgs false

set_option maxHeartbeats 8000000 in
set_option maxRecDepth 100000 in
theorem drop_walk {a1 a2 : Option Addr} {Z Y : List Int} (cap1 cap2 : Nat) (gone : Int) {w : World} (h : IntsAt w a1 Z) (h' : IntsAt w a2 Y) (hg : i64ok gone) :
    Calls Try.prog 4 #[.slice a1 Z.length cap1, .slice a2 Y.length cap2, .int .i64 gone] w fun e w' => e = .returned (.bool true) ∧ Below w.heap.size w w' := by
  have hl := h.1
  have hl' := h'.1
  have HS := Lib.hid h
  have HS' := Lib.hid h'
  clear h h'
  obtain ⟨m, hm⟩ : ∃ m, m = min Z.length Y.length := ⟨_, rfl⟩
  have hmn : m ≤ Z.length := by omega
  have hmy : m ≤ Y.length := by omega
  have hmm : m = Z.length ∨ m = Y.length := by omega
  clear hm
  generalize hlen : Z.length = n at *
  generalize hlen' : Y.length = n' at *
  have HL := Lib.hid (And.intro hlen hlen')
  clear hlen hlen'
  by_cases hbig : 200 < n
  · go_enter Try.func4, Try.ntmps4
    go_wp2
    go_ret
    exact ⟨rfl, Below.refl _ _⟩
  · have hnew := fun w => new_wheel w
    go_enter Try.func4, Try.ntmps4
    go_wp2_with (go_at_call 8; refine (hnew _).mono ?_; rintro e w1 ⟨Bw, rfl, hp1, b1⟩)
    have hboth := bo_new hp1 b1
    clear hnew hp1 b1
    generalize w1.heap.size = Br at *
    go_loopw [9] (fun c wr => ∃ k : Nat, k ≤ m ∧ c = .int .i64 (k : Int) ∧ Bo (fun _ => False) w wr Bw Br (setsP Z Y k) (remP (setsP Z Y k) gone)) (fun c _ => m - (intOf c).toNat)
    case atStart => exact ⟨0, by omega, rfl, hboth⟩
    case round =>
      clear hboth
      obtain ⟨k, hk, rfl, hB⟩ := hrel
      by_cases hlt : k < m
      · obtain ⟨gb, off, ha, c0, hzo⟩ := getD_at HS.out hB.bl (k := k) (by rw [HL.out.1]; omega)
        obtain ⟨gb', off', ha', c1, hyo⟩ := getD_at HS'.out hB.bl (k := k) (by rw [HL.out.2]; omega)
        subst ha
        subst ha'
        have hlk := sets_len Z Y k
        have hS := fun w' (b : Below wr.heap.size wr w') => bo_set_p (hB.below b) hzo (t := Y.getD k 0)
        have hUM := rem_uid hB.uidL gone
        have hSR := fun w' (h : Bo (fun _ => False) w w' Bw Br (setsP Z Y (k + 1)) (remP (setsP Z Y k) gone)) => bo_set_r h hUM (id := Z.getD k 0) (t := Y.getD k 0)
        have HSET := Lib.hid hS
        have HSETR := Lib.hid hSR
        have hnx : setsP Z Y (k + 1) = setP (setsP Z Y k) (Z.getD k 0) (Y.getD k 0) := rfl
        rw [← hnx] at HSET
        have hE : remP (setsP Z Y (k + 1)) gone = if Z.getD k 0 = gone then remP (setsP Z Y k) gone else setP (remP (setsP Z Y k) gone) (Z.getD k 0) (Y.getD k 0) := by
          rw [hnx]; exact rem_set hB.ris (by omega) _ _ _
        have HE := Lib.hid hE
        have HNXT := Lib.hid (fun w' M (h : Bo (fun _ => False) w w' Bw Br (setsP Z Y (k + 1)) M) (e : M = remP (setsP Z Y (k + 1)) gone) => e ▸ h)
        have ltI : (k : Int) < (n : Int) := by omega
        have ltI' : (k : Int) < (n' : Int) := by omega
        have dI : decide (k < n) = true := by simp; omega
        have dI' : decide (k < n') = true := by simp; omega
        have hbd := bel_dr (Below.refl wr.heap.size wr)
        have HC := Lib.hid (fun w' (b : Below w.heap.size w w') => And.intro (getD_at HS.out b (k := k) (by rw [HL.out.1]; omega)) (getD_at HS'.out b (k := k) (by rw [HL.out.2]; omega)))
        clear hnx hB hS hSR hE hUM
        generalize hLL : setsP Z Y (k + 1) = L' at *
        have HLL := Lib.hid hLL
        clear hLL
        generalize setsP Z Y k = L0 at *
        generalize hz : Z.getD k 0 = z at *
        generalize hy : Y.getD k 0 = y at *
        clear hz hy
        by_cases hzg : z = gone
        · have HE2 := HE.out
          rw [if_pos hzg] at HE2
          have HE2 := Lib.hid HE2
          have HZG := Lib.hid hzg
          subst hzg
          clear HZG HE
          generalize setR L0 z = vr at *
          go_wp2_with fail
          go_still_tail 9, (by kernel_rfl)
          change wpList _ _ _ _ _ wr.drew
          go_wp2_with (go_at_call 9; refine (HSET.out _ hbd).mono ?_; rintro e w5 ⟨rfl, hB5, _⟩; obtain ⟨⟨g2, o2, e2, c0', _⟩, g3, o3, e3, c1', _⟩ := HC.out _ hB5.bl; cases e2; cases e3)
          go_roundw
          case rel => exact ⟨k + 1, by omega, by go_num, by rw [HLL.out]; exact HNXT.out _ _ hB5 HE2.out.symm⟩
          case measure => first | (simp [intOf]; omega) | simp [intOf]
        · have HE2 := HE.out
          rw [if_neg hzg] at HE2
          have HE2 := Lib.hid HE2
          have hzb : (z == gone) = false := by simpa using hzg
          clear HE
          generalize setR L0 z = vr at *
          generalize setR (remP L0 gone) z = vr' at *
          generalize setP (remP L0 gone) z y = MM at *
          go_wp2_with fail
          go_still_tail 9, (by kernel_rfl)
          change wpList _ _ _ _ _ wr.drew
          go_upto_region 10 with (go_at_call 9; refine (HSET.out _ hbd).mono ?_; rintro e w5 ⟨rfl, hB5, _⟩; obtain ⟨⟨g2, o2, e2, c0', _⟩, g3, o3, e3, c1', _⟩ := HC.out _ hB5.bl; cases e2; cases e3)
          have hB5d := hB5.dr
          go_still_tail 9, (by kernel_rfl)
          change wpList _ _ _ _ _ w5.drew
          go_wp2_with (go_at_call 13; refine (HSETR.out _ hB5d).mono ?_; rintro e w6 ⟨rfl, hB6, _⟩)
          go_roundw
          case rel => exact ⟨k + 1, by omega, by go_num, by rw [HLL.out]; exact HNXT.out _ _ hB6 HE2.out.symm⟩
          case measure => first | (simp [intOf]; omega) | simp [intOf]
      · have ek : k = m := by omega
        subst ek
        have hD1 := bo_drop_p hB hg
        have hnb := has_rem_due (setsP Z Y k) gone 9223372036854775807
        generalize remP (setsP Z Y k) gone = M at *
        generalize hasP (setsP Z Y k) gone = hv at *
        generalize setsP Z Y k = L0 at *
        have hlm := hB
        clear hB
        rcases hmm with hmm | hmm
        · have dI : decide (k < n) = false := by simp; omega
          have ltI : ¬ (k : Int) < (n : Int) := by omega
          go_upto_region 12 with (go_at_call 10; refine hD1.mono ?_; rintro e w5 ⟨rfl, hB5, _⟩)
          clear dI ltI hlm
          obtain ⟨Ar, cr, ccr⟩ := hB5.cr
          have ccd : w5.drew.cell? ⟨Br, 0, none⟩ = some (.slice Ar M.length cr) := ccr
          have hln := hB5.lenL
          have HB5 := Lib.hid hB5.dr
          have hLen := fun w' (b : Below w5.drew.heap.size w5.drew w') => (bo_len_p (HB5.out.below b)).mono (fun e w'' h => And.intro h.1 (bel_via b h.2))
          have hDueP := fun w' (b : Below w5.drew.heap.size w5.drew w') => bo_due_p (HB5.out.below b) (now := 9223372036854775807)
          have hDueR := fun X w' (h : Bo X w w' Bw Br (lefP M 9223372036854775807) M) => bo_due_r h (now := 9223372036854775807)
          have hSI : (dueP M 9223372036854775807).length ≤ 65536 := by
            have h1 : (dueP M 9223372036854775807).length ≤ M.length := by unfold dueP; rw [List.length_map]; exact (List.takeWhile_sublist _).length_le
            omega
          have HSM := Lib.hid (fun (w' : World) (A B : Option Addr) (c d : Nat) (h1 : Sl w' 1 e1 A (dueP M 9223372036854775807).length (dueP M 9223372036854775807)) (h2 : Sl w' 1 e1 B (dueP M 9223372036854775807).length (dueP M 9223372036854775807)) => (same_ints hSI h1 h2 (c := c) (d := d)).mono (fun e w'' h => And.intro (h.1.trans (by simp : _ = Ending.returned (.bool true))) h.2))
          have hDrop := fun X w' (h : Bo X w w' Bw Br (lefP M 9223372036854775807) (lefP M 9223372036854775807)) => bo_drop_p h hg
          rw [hnb] at hDrop
          have HLen := Lib.hid hLen
          have HDueP := Lib.hid hDueP
          have HDueR := Lib.hid hDueR
          have HDrop := Lib.hid hDrop
          have hb0 := Below.refl w5.drew.heap.size w5.drew
          have HCC := Lib.hid (fun w' (b : Below w5.drew.heap.size w5.drew w') => (World.cell?_of_block (a := ⟨Br, 0, none⟩) (b.block Br (World.block_lt_of_cell? _ _ ccd))).trans ccd)
          clear hLen hDueP hDueR hDrop hnb hB5 hSI hD1
          generalize remP (lefP M 9223372036854775807) gone = M3 at *
          generalize dueP M 9223372036854775807 = DD at *
          generalize lefP M 9223372036854775807 = LL at *
          generalize M.length = ml at *
          go_region_with (first
            | (go_at_call 11; refine (HLen.out _ hb0).mono ?_; rintro e w6 ⟨rfl, b6⟩; have cc6 := HCC.out _ b6)
            | (go_at_call 12; refine (HDueP.out _ b6).mono ?_; rintro e w7 ⟨A7, c7, rfl, hR7, hB7, _⟩; have TR := HDueR.out _ _ hB7)
            | (go_at_call 15; refine TR.mono ?_; rintro e w8 ⟨A8, c8, rfl, hR8, hB8, hS8⟩; have hR7' := hS8.sl hR7 (fun b off sp e => .inr ⟨off, sp, e⟩); have TS := HSM.out _ _ _ c7 c8 hR7' hR8)
            | (go_at_call 14; refine TS.mono ?_; rintro e w9 ⟨rfl, b9⟩; have TD := HDrop.out _ _ (hB8.below b9))
            | (go_at_call 10; refine TD.mono ?_; rintro e w10 ⟨rfl, hB10, _⟩))
          all_goals
            go_wp2
            first | exact ⟨rfl, hB10.bl⟩ | (go_ret; exact ⟨rfl, hB10.bl⟩)
        · by_cases hnn : k < n
          · have dI : decide (k < n) = true := by simp; omega
            have ltI : (k : Int) < (n : Int) := by omega
            have dI' : decide (k < n') = false := by simp; omega
            have ltI' : ¬ (k : Int) < (n' : Int) := by omega
            go_upto_region 12 with (go_at_call 10; refine hD1.mono ?_; rintro e w5 ⟨rfl, hB5, _⟩)
            clear dI ltI hlm
            obtain ⟨Ar, cr, ccr⟩ := hB5.cr
            have ccd : w5.drew.cell? ⟨Br, 0, none⟩ = some (.slice Ar M.length cr) := ccr
            have hln := hB5.lenL
            have HB5 := Lib.hid hB5.dr
            have hLen := fun w' (b : Below w5.drew.heap.size w5.drew w') => (bo_len_p (HB5.out.below b)).mono (fun e w'' h => And.intro h.1 (bel_via b h.2))
            have hDueP := fun w' (b : Below w5.drew.heap.size w5.drew w') => bo_due_p (HB5.out.below b) (now := 9223372036854775807)
            have hDueR := fun X w' (h : Bo X w w' Bw Br (lefP M 9223372036854775807) M) => bo_due_r h (now := 9223372036854775807)
            have hSI : (dueP M 9223372036854775807).length ≤ 65536 := by
              have h1 : (dueP M 9223372036854775807).length ≤ M.length := by unfold dueP; rw [List.length_map]; exact (List.takeWhile_sublist _).length_le
              omega
            have HSM := Lib.hid (fun (w' : World) (A B : Option Addr) (c d : Nat) (h1 : Sl w' 1 e1 A (dueP M 9223372036854775807).length (dueP M 9223372036854775807)) (h2 : Sl w' 1 e1 B (dueP M 9223372036854775807).length (dueP M 9223372036854775807)) => (same_ints hSI h1 h2 (c := c) (d := d)).mono (fun e w'' h => And.intro (h.1.trans (by simp : _ = Ending.returned (.bool true))) h.2))
            have hDrop := fun X w' (h : Bo X w w' Bw Br (lefP M 9223372036854775807) (lefP M 9223372036854775807)) => bo_drop_p h hg
            rw [hnb] at hDrop
            have HLen := Lib.hid hLen
            have HDueP := Lib.hid hDueP
            have HDueR := Lib.hid hDueR
            have HDrop := Lib.hid hDrop
            have hb0 := Below.refl w5.drew.heap.size w5.drew
            have HCC := Lib.hid (fun w' (b : Below w5.drew.heap.size w5.drew w') => (World.cell?_of_block (a := ⟨Br, 0, none⟩) (b.block Br (World.block_lt_of_cell? _ _ ccd))).trans ccd)
            clear hLen hDueP hDueR hDrop hnb hB5 hSI hD1
            generalize remP (lefP M 9223372036854775807) gone = M3 at *
            generalize dueP M 9223372036854775807 = DD at *
            generalize lefP M 9223372036854775807 = LL at *
            generalize M.length = ml at *
            go_region_with (first
              | (go_at_call 11; refine (HLen.out _ hb0).mono ?_; rintro e w6 ⟨rfl, b6⟩; have cc6 := HCC.out _ b6)
              | (go_at_call 12; refine (HDueP.out _ b6).mono ?_; rintro e w7 ⟨A7, c7, rfl, hR7, hB7, _⟩; have TR := HDueR.out _ _ hB7)
              | (go_at_call 15; refine TR.mono ?_; rintro e w8 ⟨A8, c8, rfl, hR8, hB8, hS8⟩; have hR7' := hS8.sl hR7 (fun b off sp e => .inr ⟨off, sp, e⟩); have TS := HSM.out _ _ _ c7 c8 hR7' hR8)
              | (go_at_call 14; refine TS.mono ?_; rintro e w9 ⟨rfl, b9⟩; have TD := HDrop.out _ _ (hB8.below b9))
              | (go_at_call 10; refine TD.mono ?_; rintro e w10 ⟨rfl, hB10, _⟩))
            all_goals
              go_wp2
              first | exact ⟨rfl, hB10.bl⟩ | (go_ret; exact ⟨rfl, hB10.bl⟩)
          · have dI : decide (k < n) = false := by simp; omega
            have ltI : ¬ (k : Int) < (n : Int) := by omega
            go_upto_region 12 with (go_at_call 10; refine hD1.mono ?_; rintro e w5 ⟨rfl, hB5, _⟩)
            clear dI ltI hlm
            obtain ⟨Ar, cr, ccr⟩ := hB5.cr
            have ccd : w5.drew.cell? ⟨Br, 0, none⟩ = some (.slice Ar M.length cr) := ccr
            have hln := hB5.lenL
            have HB5 := Lib.hid hB5.dr
            have hLen := fun w' (b : Below w5.drew.heap.size w5.drew w') => (bo_len_p (HB5.out.below b)).mono (fun e w'' h => And.intro h.1 (bel_via b h.2))
            have hDueP := fun w' (b : Below w5.drew.heap.size w5.drew w') => bo_due_p (HB5.out.below b) (now := 9223372036854775807)
            have hDueR := fun X w' (h : Bo X w w' Bw Br (lefP M 9223372036854775807) M) => bo_due_r h (now := 9223372036854775807)
            have hSI : (dueP M 9223372036854775807).length ≤ 65536 := by
              have h1 : (dueP M 9223372036854775807).length ≤ M.length := by unfold dueP; rw [List.length_map]; exact (List.takeWhile_sublist _).length_le
              omega
            have HSM := Lib.hid (fun (w' : World) (A B : Option Addr) (c d : Nat) (h1 : Sl w' 1 e1 A (dueP M 9223372036854775807).length (dueP M 9223372036854775807)) (h2 : Sl w' 1 e1 B (dueP M 9223372036854775807).length (dueP M 9223372036854775807)) => (same_ints hSI h1 h2 (c := c) (d := d)).mono (fun e w'' h => And.intro (h.1.trans (by simp : _ = Ending.returned (.bool true))) h.2))
            have hDrop := fun X w' (h : Bo X w w' Bw Br (lefP M 9223372036854775807) (lefP M 9223372036854775807)) => bo_drop_p h hg
            rw [hnb] at hDrop
            have HLen := Lib.hid hLen
            have HDueP := Lib.hid hDueP
            have HDueR := Lib.hid hDueR
            have HDrop := Lib.hid hDrop
            have hb0 := Below.refl w5.drew.heap.size w5.drew
            have HCC := Lib.hid (fun w' (b : Below w5.drew.heap.size w5.drew w') => (World.cell?_of_block (a := ⟨Br, 0, none⟩) (b.block Br (World.block_lt_of_cell? _ _ ccd))).trans ccd)
            clear hLen hDueP hDueR hDrop hnb hB5 hSI hD1
            generalize remP (lefP M 9223372036854775807) gone = M3 at *
            generalize dueP M 9223372036854775807 = DD at *
            generalize lefP M 9223372036854775807 = LL at *
            generalize M.length = ml at *
            go_region_with (first
              | (go_at_call 11; refine (HLen.out _ hb0).mono ?_; rintro e w6 ⟨rfl, b6⟩; have cc6 := HCC.out _ b6)
              | (go_at_call 12; refine (HDueP.out _ b6).mono ?_; rintro e w7 ⟨A7, c7, rfl, hR7, hB7, _⟩; have TR := HDueR.out _ _ hB7)
              | (go_at_call 15; refine TR.mono ?_; rintro e w8 ⟨A8, c8, rfl, hR8, hB8, hS8⟩; have hR7' := hS8.sl hR7 (fun b off sp e => .inr ⟨off, sp, e⟩); have TS := HSM.out _ _ _ c7 c8 hR7' hR8)
              | (go_at_call 14; refine TS.mono ?_; rintro e w9 ⟨rfl, b9⟩; have TD := HDrop.out _ _ (hB8.below b9))
              | (go_at_call 10; refine TD.mono ?_; rintro e w10 ⟨rfl, hB10, _⟩))
            all_goals
              go_wp2
              first | exact ⟨rfl, hB10.bl⟩ | (go_ret; exact ⟨rfl, hB10.bl⟩)
end Go.Proofs.Ytcmdelmgklidjaa
