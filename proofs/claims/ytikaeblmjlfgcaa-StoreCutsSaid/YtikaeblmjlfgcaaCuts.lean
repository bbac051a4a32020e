/- StoreCuts's walk; by-name template. -/
import Derived.Test.YtikaeblmjlfgcaaRegion
import Derived.Deep.CutRange
import Derived.Deep.Cut
import Derived.Deep.RegionLaw
namespace Go.Proofs.Ytikaeblmjlfgcaa
open Go.RowKit
set_option linter.unusedVariables false

theorem getv_new {j : Nat} (hj : j < 8) : getv D0 j = none := by
  unfold getv
  rw [root_new]
  exact if_pos ((show ∀ j, j < 8 → place RS0 j = List.replicate 8 0 by decide) j hj)
theorem rn_new : (root D0).n = 0 := by rw [root_new]; rfl
theorem clone_at {w : World} {B E : Nat} {D : DS} (h : DiskAt w B D) (hE : E = w.heap.size) : Calls Try.prog 16 #[.pointer (some ⟨B, 0, none⟩)] w fun e w' => e = .returned (.pointer (some ⟨E, 0, none⟩)) ∧ DiskAt w' E D ∧ Below w.heap.size w w' ∧ E < w'.heap.size := by
  subst hE
  exact clone_any h

set_option maxHeartbeats 4000000 in
set_option maxRecDepth 100000 in
theorem cuts_any {a0 a1 : Option Addr} {L0 L1 : List Pt} (cap0 cap1 : Nat) {w : World} (h0 : PutsAt w a0 L0) (hf0 : L0.length * 32 ≤ 140737488355328) (h1 : PutsAt w a1 L1) (hf1 : L1.length * 32 ≤ 140737488355328) : Calls Try.prog 5 #[.slice a0 L0.length cap0, .slice a1 L1.length cap1] w (FewPost w) := by
  have hz := zero_vals
  have hone0 := vcells_one (fun _ => none) 0
  have hinf0 := vcells_info (fun _ => none) 0
  have hsz0 := vcells_size (fun _ => none) 0
  obtain ⟨Z, hZ⟩ : ∃ Z, Z = vcells (fun _ => none) 0 := ⟨_, rfl⟩
  rw [← hZ] at hz hone0 hinf0 hsz0
  have HZ := Lib.hid hZ
  clear hZ
  have hl0 := h0.1
  have hl1 := h1.1
  have hhv := heavy_any 2 (row_two cap0 cap1 h0 h1) (fits_two hf0 hf1)
  have hb1 : Below w.heap.size w (w.alloc (.cells #[.int .i64 0, .int .i64 0, .slice a0 L0.length cap0, .int .i64 0, .int .i64 0, .slice a1 L1.length cap1] 26)) := (Below.refl _ _).alloc (Nat.le_refl _) _
  have hs1 : w.heap.size < (w.alloc (.cells #[.int .i64 0, .int .i64 0, .slice a0 L0.length cap0, .int .i64 0, .int .i64 0, .slice a1 L1.length cap1] 26)).heap.size := (Blk.new w _ _).lt
  go_enter Try.func5, Try.ntmps5
  go_wp2_with fail
  generalize w.alloc (.cells #[.int .i64 0, .int .i64 0, .slice a0 L0.length cap0, .int .i64 0, .int .i64 0, .slice a1 L1.length cap1] 26) = w1 at *
  refine hhv.mono ?_
  rintro e w1' ⟨b, rfl, -, rfl⟩
  clear hhv
  cases b
  · have hth := theirs_any cap0 (h0.below hb1 (Nat.le_refl _)) hf0
    go_wp2_with fail
    refine hth.mono ?_
    rintro e w2 ⟨a2, cap2, rfl, hP2, hb2⟩
    have hB2 := hb1.trans (hb2.mono hb1.size)
    have hrc := rcheck_any cap2 hP2
    clear hth
    go_wp2_with fail
    refine hrc.mono ?_
    rintro e w3 ⟨c0, rfl, hc0, hb3⟩
    have hB3 := hB2.trans (hb3.mono hB2.size)
    clear hrc hb3 hP2 hb2
    by_cases hz0 : c0 = 0
    · subst hz0
      have hth := theirs_any cap1 (h1.below hB3 (Nat.le_refl _)) hf1
      go_wp2_with fail
      refine hth.mono ?_
      rintro e w4 ⟨a4, cap4, rfl, hP4, hb4⟩
      have hB4 := hB3.trans (hb4.mono hB3.size)
      have hrc := rcheck_any cap4 hP4
      clear hth
      go_wp2_with fail
      refine hrc.mono ?_
      rintro e w5 ⟨c1, rfl, hc1, hb5⟩
      have hB5 := hB4.trans (hb5.mono hB4.size)
      clear hrc hb5 hP4 hb4 hB4 hB3 hB2
      by_cases hz1 : c1 = 0
      · subst hz1
        by_cases hL1 : L1 = []
        · have hlb : ((L1.length : Int) == 0) = true := by rw [hL1]; rfl
          go_wp2_with fail
          go_ret
          exact ⟨rfl, hB5⟩
        · have hlen1 : 0 < L1.length := List.length_pos_iff.2 hL1
          have hlb1 : ((L1.length : Int) == 0) = false := by rw [beq_eq_false_iff_ne]; omega
          by_cases hL0 : L0 = []
          · have hlb : ((L0.length : Int) == 0) = true := by rw [hL0]; rfl
            go_wp2_with fail
            go_ret
            exact ⟨rfl, hB5⟩
          · have hlen0 : 0 < L0.length := List.length_pos_iff.2 hL0
            have hlb0 : ((L0.length : Int) == 0) = false := by rw [beq_eq_false_iff_ne]; omega
            have HL0 := Lib.hid hL0
            have HL1 := Lib.hid hL1
            have HC0 := Lib.hid hc0
            have HC1 := Lib.hid hc1
            have HP0 := Lib.hid h0
            have HP1 := Lib.hid h1
            have HF0 := Lib.hid hf0
            have HF1 := Lib.hid hf1
            obtain ⟨B, hBe⟩ : ∃ B, B = w5.heap.size := ⟨_, rfl⟩
            have hnew := new_at hBe
            have hBa : w5.heap.size ≤ B := Nat.le_of_eq hBe.symm
            have HB := Lib.hid hBe
            clear hBe hL0 hL1 hc0 hc1
            go_wp2_with fail
            refine hnew.mono ?_
            rintro e w6 ⟨rfl, hd6, hb6, hs6⟩
            clear hnew
            have hwB : w.heap.size ≤ B := Nat.le_trans hB5.size hBa
            have hB6 := hB5.trans (hb6.mono hwB)
            obtain ⟨S, hSe⟩ : ∃ S, S = w6.heap.size := ⟨_, rfl⟩
            have hop := open_at B hSe
            have hSa : w6.heap.size ≤ S := Nat.le_of_eq hSe.symm
            have HS := Lib.hid hSe
            clear hSe hb6 hB5
            go_wp2_with fail
            refine hop.mono ?_
            rintro e w7 ⟨rfl, hS7, hb7, hs7⟩
            clear hop
            have hd7 := hd6.below hb7 hd6.lt
            have hB7 := hB6.trans (hb7.mono hB6.size)
            have hset := set_done cap0 (HP0.out.below hB7 (Nat.le_refl _)) hS7 hd7 (by omega) sane_new (by decide)
            clear hd6 hb7 hB6
            go_wp2_with fail
            refine hset.mono ?_
            rintro e w8 ⟨c, D, rfl, hd8, ho8, hdo⟩
            obtain ⟨rfl, hDc, hDd⟩ := hdo.zero rfl rfl HC0.out
            have hB8 := hB7.trans (ho8.toB hB7.size hwB (by omega))
            clear hset hS7 hd7 ho8 hB7
            have hl8 := hd8.lt
            have HDO := Lib.hid hdo
            clear hdo
            obtain ⟨f, hfe⟩ : ∃ f, f = afterF (fun _ => none) L0 := ⟨_, rfl⟩
            have htl : Hid ((∀ j, j < 8 → getv D j = f j) ∧ (root D).n = 1) := Lib.hid (by rw [hfe]; exact HDO.out.tells HL0.out (fun j hj => getv_new hj) rn_new (by decide) (by decide))
            obtain ⟨C7, hC7⟩ : ∃ C7, C7 = vcells f 1 := ⟨_, rfl⟩
            obtain ⟨C8, hC8⟩ : ∃ C8, C8 = vcells (afterF f L1) 2 := ⟨_, rfl⟩
            have H7 : Hid (C7 = vcells (afterF (fun _ => none) L0) (0 + 1)) := Lib.hid (by rw [hC7, hfe]; rfl)
            have H7' := Lib.hid hC7
            have H8 : Hid (C8 = vcells (afterF f L1) (1 + 1)) := Lib.hid hC8
            have hi7 : (Try.prog.info? 33).map (·.size) = some C7.size := by rw [hC7]; exact vcells_info _ _
            have ho7 : C7.all (·.oneCell') = true := by rw [hC7]; exact vcells_one _ _
            have hz7 : C7.size = 17 := by rw [hC7]; exact vcells_size _ _
            have hi8 : (Try.prog.info? 33).map (·.size) = some C8.size := by rw [hC8]; exact vcells_info _ _
            have ho8 : C8.all (·.oneCell') = true := by rw [hC8]; exact vcells_one _ _
            have hz8 : C8.size = 17 := by rw [hC8]; exact vcells_size _ _
            have HFE := Lib.hid hfe
            clear hC7 hC8 hfe
            obtain ⟨v, hve⟩ : ∃ v, v = w8.heap.size := ⟨_, rfl⟩
            have hK : Keep w B D v Z (w8.alloc (.cells Z 33)) := ⟨hB8.alloc hB8.size _, hd8.below ((Below.refl _ _).alloc (Nat.le_refl _) _) hd8.lt, by rw [hve]; exact Blk.new _ _ _⟩
            have hvB : B < v := by omega
            have HVE := Lib.hid hve
            clear hve hd8 hB8
            go_upto_region 8 with (refine wpList_store_row rfl 33 (.tmp 7) (.tmp 48) rfl w8.heap.size Z rfl rfl 33 Z (heap_alloc_new w8 _) hinf0 rfl hone0 ?_; rw [World.setRow_alloc_new])
            rw [← HVE.out]
            generalize w8.alloc (.cells Z 33) = w9 at *
            have hwv : w.heap.size ≤ v := by omega
            have hvB2 : v ≠ B := by omega
            simp only [Act.put]
            go_cut [] from 49 (fun wx => Keep w B D v C7 wx)
            case first =>
              have q0 := hK.drew
              have hk0 := (HC0.out.ok rfl).1
              have HK0 := Lib.hid hk0
              clear hk0
              refine wp_region_any (by kernel_rfl) ?_
              change wpAny _ _ _ _ _ _ _ (World.drew _)
              refine wpAny_take (i := 1) (v := ?_) rfl (by kernel_rfl) (by kernel_rfl) (by kernel_rfl) (fun _ _ _ h => h) (Or.inl ⟨by rfl, ?_⟩) ?_
              rotate_left 1
              · intro w
                go_simp
                with_reducible rfl
              refine wpAny_ready (rs := [0, 2]) (by kernel_rfl) (by simp) ?_
              refine AllReady.cons rfl (fun K hK => ?_) (AllReady.cons rfl (fun K hK => ?_) AllReady.nil)
              · refine step_load_row rfl 33 (.tmp 7) rfl v rfl 33 Z (0, 0) _ (Keep.blk (by assumption)) Try.underlying33 rfl hinf0 ?_
                refine hK _ _ ?_
                clear hK K
                refine wpAny_ready (rs := [2]) (by kernel_rfl) (by simp) ?_
                refine AllReady.cons rfl (fun K hK => ?_) AllReady.nil
                go_simp
                go_at_call 9
                refine (tstep cap0 (by assumption) HP0.out HF0.out).mono ?_
                rintro e wT ⟨aT, capT, rfl, hPT, qT, hbT⟩
                refine hK _ _ ?_
                clear hK K
                refine wpAny_ready (rs := [3]) (by kernel_rfl) (by simp) ?_
                refine AllReady.cons rfl (fun K hK => ?_) AllReady.nil
                go_simp
                go_at_call 13
                refine (astep capT (by assumption) hPT HZ H7 (by decide) (by decide) HK0.out).mono ?_
                rintro e wA ⟨rfl, qA, hbA⟩
                refine hK _ _ ?_
                clear hK K
                refine wpAny_ready (rs := [4]) (by kernel_rfl) (by simp) ?_
                refine AllReady.cons rfl (fun K hK => ?_) AllReady.nil
                refine step_store_row rfl 33 (.tmp 7) (.tmp 52) rfl v C7 rfl rfl 33 Z (Keep.blk (by assumption)) hi7 (hsz0.trans hz7.symm) ho7 ?_
                refine hK _ _ ?_
                clear hK K
                refine wpAny_done (by kernel_rfl) ?_ _
                go_wp2_with fail
                go_meet
                exact qA.set hvB2 hwv
              · go_simp
                go_at_call 9
                refine (tstep cap0 (by assumption) HP0.out HF0.out).mono ?_
                rintro e wT ⟨aT, capT, rfl, hPT, qT, hbT⟩
                refine hK _ _ ?_
                clear hK K
                refine wpAny_ready (rs := [0]) (by kernel_rfl) (by simp) ?_
                refine AllReady.cons rfl (fun K hK => ?_) AllReady.nil
                refine step_load_row rfl 33 (.tmp 7) rfl v rfl 33 Z (0, 0) _ (Keep.blk (by assumption)) Try.underlying33 rfl hinf0 ?_
                refine hK _ _ ?_
                clear hK K
                refine wpAny_ready (rs := [3]) (by kernel_rfl) (by simp) ?_
                refine AllReady.cons rfl (fun K hK => ?_) AllReady.nil
                go_simp
                go_at_call 13
                refine (astep capT (by assumption) hPT HZ H7 (by decide) (by decide) HK0.out).mono ?_
                rintro e wA ⟨rfl, qA, hbA⟩
                refine hK _ _ ?_
                clear hK K
                refine wpAny_ready (rs := [4]) (by kernel_rfl) (by simp) ?_
                refine AllReady.cons rfl (fun K hK => ?_) AllReady.nil
                refine step_store_row rfl 33 (.tmp 7) (.tmp 52) rfl v C7 rfl rfl 33 Z (Keep.blk (by assumption)) hi7 (hsz0.trans hz7.symm) ho7 ?_
                refine hK _ _ ?_
                clear hK K
                refine wpAny_done (by kernel_rfl) ?_ _
                go_wp2_with fail
                go_meet
                exact qA.set hvB2 hwv
            case rest =>
              go_wp2_with fail
              have hinv : ∀ m, 0 ≤ m → True := fun _ _ => trivial
              clear hinv
              go_cut [8] from 53 (fun s8 wx => ∃ g, s8 = .pointer (some ⟨g, 0, none⟩) ∧ Keep w B D v C7 wx ∧ Blk wx g C8 33)
              case first =>
                have q0 := hcut.drew
                have HK1 := Lib.hid (HC1.out.ok rfl).1
                refine wp_region_any (by kernel_rfl) ?_
                change wpAny _ _ _ _ _ _ _ (World.drew _)
                refine wpAny_take (i := 1) (v := ?_) rfl (by kernel_rfl) (by kernel_rfl) (by kernel_rfl) (fun _ _ _ h => h) (Or.inl ⟨by rfl, ?_⟩) ?_
                rotate_left 1
                · intro w
                  go_simp
                  with_reducible rfl
                refine wpAny_ready (rs := [0, 2, 4]) (by kernel_rfl) (by simp) ?_
                refine AllReady.cons rfl (fun K hK => ?_) (AllReady.cons rfl (fun K hK => ?_) (AllReady.cons rfl (fun K hK => ?_) AllReady.nil))
                · refine step_load_row rfl 33 (.tmp 7) rfl v rfl 33 C7 (0, 0) _ q0.blk Try.underlying33 rfl hi7 ?_
                  refine hK _ _ ?_
                  clear hK K
                  refine wpAny_ready (rs := [2, 4]) (by kernel_rfl) (by simp) ?_
                  refine AllReady.cons rfl (fun K hK => ?_) (AllReady.cons rfl (fun K hK => ?_) AllReady.nil)
                  · go_simp
                    go_at_call 9
                    refine (tstep cap1 q0 HP1.out HF1.out).mono ?_
                    rintro e wT ⟨aT, capT, rfl, hPT, qT, hbT⟩
                    refine hK _ _ ?_
                    clear hK K
                    refine wpAny_ready (rs := [3, 4]) (by kernel_rfl) (by simp) ?_
                    refine AllReady.cons rfl (fun K hK => ?_) (AllReady.cons rfl (fun K hK => ?_) AllReady.nil)
                    · go_simp
                      go_at_call 13
                      refine (astep capT qT hPT H7' H8 (by decide) (by decide) HK1.out).mono ?_
                      rintro e wA ⟨rfl, qA, hbA⟩
                      refine hK _ _ ?_
                      clear hK K
                      refine wpAny_ready (rs := [4]) (by kernel_rfl) (by simp) ?_
                      refine AllReady.cons rfl (fun K hK => ?_) AllReady.nil
                      refine step_alloc rfl 33 rfl Z hz (fun wZ g qz hbZ hgv => ?_)
                      have hvg : v < g := Nat.lt_of_lt_of_le (Blk.lt qA.blk) hgv
                      have qZ := qA.below hbZ
                      refine hK _ _ ?_
                      clear hK K
                      refine wpAny_ready (rs := [5]) (by kernel_rfl) (by simp) ?_
                      refine AllReady.cons rfl (fun K hK => ?_) AllReady.nil
                      refine step_store_row rfl 33 (.tmp 8) (.tmp 56) rfl g C8 rfl rfl 33 Z qz hi8 (hsz0.trans hz8.symm) ho8 ?_
                      refine hK _ _ ?_
                      clear hK K
                      refine wpAny_done (by kernel_rfl) ?_ _
                      go_wp2_with fail
                      go_meet
                      exact ⟨g, rfl, qZ.other (by omega) (by omega) (by omega), Blk.setRow qz⟩
                    · refine step_alloc rfl 33 rfl Z hz (fun wZ g qz hbZ hgv => ?_)
                      have hvg : v < g := Nat.lt_of_lt_of_le (Blk.lt qT.blk) hgv
                      have qZ := qT.below hbZ
                      have hPT := hPT.below hbZ (Nat.le_refl _)
                      refine hK _ _ ?_
                      clear hK K
                      refine wpAny_ready (rs := [3]) (by kernel_rfl) (by simp) ?_
                      refine AllReady.cons rfl (fun K hK => ?_) AllReady.nil
                      go_simp
                      go_at_call 13
                      refine (astep capT qZ hPT H7' H8 (by decide) (by decide) HK1.out).mono ?_
                      rintro e wA ⟨rfl, qA, hbA⟩
                      have qz := Blk.below qz hbA (Blk.lt qz)
                      refine hK _ _ ?_
                      clear hK K
                      refine wpAny_ready (rs := [5]) (by kernel_rfl) (by simp) ?_
                      refine AllReady.cons rfl (fun K hK => ?_) AllReady.nil
                      refine step_store_row rfl 33 (.tmp 8) (.tmp 56) rfl g C8 rfl rfl 33 Z qz hi8 (hsz0.trans hz8.symm) ho8 ?_
                      refine hK _ _ ?_
                      clear hK K
                      refine wpAny_done (by kernel_rfl) ?_ _
                      go_wp2_with fail
                      go_meet
                      exact ⟨g, rfl, qA.other (by omega) (by omega) (by omega), Blk.setRow qz⟩
                  · refine step_alloc rfl 33 rfl Z hz (fun wZ g qz hbZ hgv => ?_)
                    have hvg : v < g := Nat.lt_of_lt_of_le (Blk.lt q0.blk) hgv
                    have qZ := q0.below hbZ
                    refine hK _ _ ?_
                    clear hK K
                    refine wpAny_ready (rs := [2]) (by kernel_rfl) (by simp) ?_
                    refine AllReady.cons rfl (fun K hK => ?_) AllReady.nil
                    go_simp
                    go_at_call 9
                    refine (tstep cap1 qZ HP1.out HF1.out).mono ?_
                    rintro e wT ⟨aT, capT, rfl, hPT, qT, hbT⟩
                    have qz := Blk.below qz hbT (Blk.lt qz)
                    refine hK _ _ ?_
                    clear hK K
                    refine wpAny_ready (rs := [3]) (by kernel_rfl) (by simp) ?_
                    refine AllReady.cons rfl (fun K hK => ?_) AllReady.nil
                    go_simp
                    go_at_call 13
                    refine (astep capT qT hPT H7' H8 (by decide) (by decide) HK1.out).mono ?_
                    rintro e wA ⟨rfl, qA, hbA⟩
                    have qz := Blk.below qz hbA (Blk.lt qz)
                    refine hK _ _ ?_
                    clear hK K
                    refine wpAny_ready (rs := [5]) (by kernel_rfl) (by simp) ?_
                    refine AllReady.cons rfl (fun K hK => ?_) AllReady.nil
                    refine step_store_row rfl 33 (.tmp 8) (.tmp 56) rfl g C8 rfl rfl 33 Z qz hi8 (hsz0.trans hz8.symm) ho8 ?_
                    refine hK _ _ ?_
                    clear hK K
                    refine wpAny_done (by kernel_rfl) ?_ _
                    go_wp2_with fail
                    go_meet
                    exact ⟨g, rfl, qA.other (by omega) (by omega) (by omega), Blk.setRow qz⟩
                · go_simp
                  go_at_call 9
                  refine (tstep cap1 q0 HP1.out HF1.out).mono ?_
                  rintro e wT ⟨aT, capT, rfl, hPT, qT, hbT⟩
                  refine hK _ _ ?_
                  clear hK K
                  refine wpAny_ready (rs := [0, 4]) (by kernel_rfl) (by simp) ?_
                  refine AllReady.cons rfl (fun K hK => ?_) (AllReady.cons rfl (fun K hK => ?_) AllReady.nil)
                  · refine step_load_row rfl 33 (.tmp 7) rfl v rfl 33 C7 (0, 0) _ qT.blk Try.underlying33 rfl hi7 ?_
                    refine hK _ _ ?_
                    clear hK K
                    refine wpAny_ready (rs := [3, 4]) (by kernel_rfl) (by simp) ?_
                    refine AllReady.cons rfl (fun K hK => ?_) (AllReady.cons rfl (fun K hK => ?_) AllReady.nil)
                    · go_simp
                      go_at_call 13
                      refine (astep capT qT hPT H7' H8 (by decide) (by decide) HK1.out).mono ?_
                      rintro e wA ⟨rfl, qA, hbA⟩
                      refine hK _ _ ?_
                      clear hK K
                      refine wpAny_ready (rs := [4]) (by kernel_rfl) (by simp) ?_
                      refine AllReady.cons rfl (fun K hK => ?_) AllReady.nil
                      refine step_alloc rfl 33 rfl Z hz (fun wZ g qz hbZ hgv => ?_)
                      have hvg : v < g := Nat.lt_of_lt_of_le (Blk.lt qA.blk) hgv
                      have qZ := qA.below hbZ
                      refine hK _ _ ?_
                      clear hK K
                      refine wpAny_ready (rs := [5]) (by kernel_rfl) (by simp) ?_
                      refine AllReady.cons rfl (fun K hK => ?_) AllReady.nil
                      refine step_store_row rfl 33 (.tmp 8) (.tmp 56) rfl g C8 rfl rfl 33 Z qz hi8 (hsz0.trans hz8.symm) ho8 ?_
                      refine hK _ _ ?_
                      clear hK K
                      refine wpAny_done (by kernel_rfl) ?_ _
                      go_wp2_with fail
                      go_meet
                      exact ⟨g, rfl, qZ.other (by omega) (by omega) (by omega), Blk.setRow qz⟩
                    · refine step_alloc rfl 33 rfl Z hz (fun wZ g qz hbZ hgv => ?_)
                      have hvg : v < g := Nat.lt_of_lt_of_le (Blk.lt qT.blk) hgv
                      have qZ := qT.below hbZ
                      have hPT := hPT.below hbZ (Nat.le_refl _)
                      refine hK _ _ ?_
                      clear hK K
                      refine wpAny_ready (rs := [3]) (by kernel_rfl) (by simp) ?_
                      refine AllReady.cons rfl (fun K hK => ?_) AllReady.nil
                      go_simp
                      go_at_call 13
                      refine (astep capT qZ hPT H7' H8 (by decide) (by decide) HK1.out).mono ?_
                      rintro e wA ⟨rfl, qA, hbA⟩
                      have qz := Blk.below qz hbA (Blk.lt qz)
                      refine hK _ _ ?_
                      clear hK K
                      refine wpAny_ready (rs := [5]) (by kernel_rfl) (by simp) ?_
                      refine AllReady.cons rfl (fun K hK => ?_) AllReady.nil
                      refine step_store_row rfl 33 (.tmp 8) (.tmp 56) rfl g C8 rfl rfl 33 Z qz hi8 (hsz0.trans hz8.symm) ho8 ?_
                      refine hK _ _ ?_
                      clear hK K
                      refine wpAny_done (by kernel_rfl) ?_ _
                      go_wp2_with fail
                      go_meet
                      exact ⟨g, rfl, qA.other (by omega) (by omega) (by omega), Blk.setRow qz⟩
                  · refine step_alloc rfl 33 rfl Z hz (fun wZ g qz hbZ hgv => ?_)
                    have hvg : v < g := Nat.lt_of_lt_of_le (Blk.lt qT.blk) hgv
                    have qZ := qT.below hbZ
                    have hPT := hPT.below hbZ (Nat.le_refl _)
                    refine hK _ _ ?_
                    clear hK K
                    refine wpAny_ready (rs := [0]) (by kernel_rfl) (by simp) ?_
                    refine AllReady.cons rfl (fun K hK => ?_) AllReady.nil
                    refine step_load_row rfl 33 (.tmp 7) rfl v rfl 33 C7 (0, 0) _ qZ.blk Try.underlying33 rfl hi7 ?_
                    refine hK _ _ ?_
                    clear hK K
                    refine wpAny_ready (rs := [3]) (by kernel_rfl) (by simp) ?_
                    refine AllReady.cons rfl (fun K hK => ?_) AllReady.nil
                    go_simp
                    go_at_call 13
                    refine (astep capT qZ hPT H7' H8 (by decide) (by decide) HK1.out).mono ?_
                    rintro e wA ⟨rfl, qA, hbA⟩
                    have qz := Blk.below qz hbA (Blk.lt qz)
                    refine hK _ _ ?_
                    clear hK K
                    refine wpAny_ready (rs := [5]) (by kernel_rfl) (by simp) ?_
                    refine AllReady.cons rfl (fun K hK => ?_) AllReady.nil
                    refine step_store_row rfl 33 (.tmp 8) (.tmp 56) rfl g C8 rfl rfl 33 Z qz hi8 (hsz0.trans hz8.symm) ho8 ?_
                    refine hK _ _ ?_
                    clear hK K
                    refine wpAny_done (by kernel_rfl) ?_ _
                    go_wp2_with fail
                    go_meet
                    exact ⟨g, rfl, qA.other (by omega) (by omega) (by omega), Blk.setRow qz⟩
                · refine step_alloc rfl 33 rfl Z hz (fun wZ g qz hbZ hgv => ?_)
                  have hvg : v < g := Nat.lt_of_lt_of_le (Blk.lt q0.blk) hgv
                  have qZ := q0.below hbZ
                  refine hK _ _ ?_
                  clear hK K
                  refine wpAny_ready (rs := [0, 2]) (by kernel_rfl) (by simp) ?_
                  refine AllReady.cons rfl (fun K hK => ?_) (AllReady.cons rfl (fun K hK => ?_) AllReady.nil)
                  · refine step_load_row rfl 33 (.tmp 7) rfl v rfl 33 C7 (0, 0) _ qZ.blk Try.underlying33 rfl hi7 ?_
                    refine hK _ _ ?_
                    clear hK K
                    refine wpAny_ready (rs := [2]) (by kernel_rfl) (by simp) ?_
                    refine AllReady.cons rfl (fun K hK => ?_) AllReady.nil
                    go_simp
                    go_at_call 9
                    refine (tstep cap1 qZ HP1.out HF1.out).mono ?_
                    rintro e wT ⟨aT, capT, rfl, hPT, qT, hbT⟩
                    have qz := Blk.below qz hbT (Blk.lt qz)
                    refine hK _ _ ?_
                    clear hK K
                    refine wpAny_ready (rs := [3]) (by kernel_rfl) (by simp) ?_
                    refine AllReady.cons rfl (fun K hK => ?_) AllReady.nil
                    go_simp
                    go_at_call 13
                    refine (astep capT qT hPT H7' H8 (by decide) (by decide) HK1.out).mono ?_
                    rintro e wA ⟨rfl, qA, hbA⟩
                    have qz := Blk.below qz hbA (Blk.lt qz)
                    refine hK _ _ ?_
                    clear hK K
                    refine wpAny_ready (rs := [5]) (by kernel_rfl) (by simp) ?_
                    refine AllReady.cons rfl (fun K hK => ?_) AllReady.nil
                    refine step_store_row rfl 33 (.tmp 8) (.tmp 56) rfl g C8 rfl rfl 33 Z qz hi8 (hsz0.trans hz8.symm) ho8 ?_
                    refine hK _ _ ?_
                    clear hK K
                    refine wpAny_done (by kernel_rfl) ?_ _
                    go_wp2_with fail
                    go_meet
                    exact ⟨g, rfl, qA.other (by omega) (by omega) (by omega), Blk.setRow qz⟩
                  · go_simp
                    go_at_call 9
                    refine (tstep cap1 qZ HP1.out HF1.out).mono ?_
                    rintro e wT ⟨aT, capT, rfl, hPT, qT, hbT⟩
                    have qz := Blk.below qz hbT (Blk.lt qz)
                    refine hK _ _ ?_
                    clear hK K
                    refine wpAny_ready (rs := [0]) (by kernel_rfl) (by simp) ?_
                    refine AllReady.cons rfl (fun K hK => ?_) AllReady.nil
                    refine step_load_row rfl 33 (.tmp 7) rfl v rfl 33 C7 (0, 0) _ qT.blk Try.underlying33 rfl hi7 ?_
                    refine hK _ _ ?_
                    clear hK K
                    refine wpAny_ready (rs := [3]) (by kernel_rfl) (by simp) ?_
                    refine AllReady.cons rfl (fun K hK => ?_) AllReady.nil
                    go_simp
                    go_at_call 13
                    refine (astep capT qT hPT H7' H8 (by decide) (by decide) HK1.out).mono ?_
                    rintro e wA ⟨rfl, qA, hbA⟩
                    have qz := Blk.below qz hbA (Blk.lt qz)
                    refine hK _ _ ?_
                    clear hK K
                    refine wpAny_ready (rs := [5]) (by kernel_rfl) (by simp) ?_
                    refine AllReady.cons rfl (fun K hK => ?_) AllReady.nil
                    refine step_store_row rfl 33 (.tmp 8) (.tmp 56) rfl g C8 rfl rfl 33 Z qz hi8 (hsz0.trans hz8.symm) ho8 ?_
                    refine hK _ _ ?_
                    clear hK K
                    refine wpAny_done (by kernel_rfl) ?_ _
                    go_wp2_with fail
                    go_meet
                    exact ⟨g, rfl, qA.other (by omega) (by omega) (by omega), Blk.setRow qz⟩
              case rest =>
                obtain ⟨g, rfl, hK9, hV8⟩ := hcut
                have hgl := hV8.lt
                clear hK hi7 ho7 hz7 ho8 hz8
                have hi7 : (Try.prog.info? 33).map (·.size) = some C7.size := by rw [H7'.out]; exact vcells_info _ _
                go_wp2_with fail
                go_loopw [9, 10, 11, 12] (fun n _ _ _ wr => ∃ i : Nat, i ≤ 65 ∧ n = .int .i64 (i : Int) ∧ Keep w B D v C7 wr ∧ Blk wr g C8 33) (fun n _ _ _ _ => 66 - (intOf n).toNat)
                case atStart => exact ⟨0, by omega, rfl, hK9, hV8⟩
                case round =>
                  obtain ⟨i, hi65, rfl, hKr, hVr⟩ := hrel
                  clear hK9 hV8
                  have hDr := hKr.disk
                  have hwr := hKr.bel.size
                  obtain ⟨E, hEe⟩ : ∃ E, E = wr.heap.size := ⟨_, rfl⟩
                  have hcl := clone_at hDr hEe
                  have hEa : wr.heap.size ≤ E := Nat.le_of_eq hEe.symm
                  have HE := Lib.hid hEe
                  clear hEe
                  have hi80 : (i : Int) ≤ 80 := by omega
                  go_wp2_with fail
                  refine hcl.mono ?_
                  rintro e w10 ⟨rfl, hd10, hb10, hs10⟩
                  clear hcl
                  have hcu := cut_any hd10 (i : Int)
                  go_wp2_with fail
                  refine hcu.mono ?_
                  rintro e w11 ⟨rfl, hd11, ho11⟩
                  clear hcu
                  have hR11 : Below wr.heap.size wr w11 := hb10.trans ((ho11.toBelow (Nat.le_of_lt hs10)).mono hEa)
                  have hs11 : E < w11.heap.size := hd11.lt
                  obtain ⟨S3, hS3e⟩ : ∃ S3, S3 = w11.heap.size := ⟨_, rfl⟩
                  have hop3 := open_at E hS3e
                  have hS3a : w11.heap.size ≤ S3 := Nat.le_of_eq hS3e.symm
                  have HS3 := Lib.hid hS3e
                  clear hS3e ho11 hd10 hb10
                  go_wp2_with fail
                  refine hop3.mono ?_
                  rintro e w12 ⟨rfl, hS12, hb12, hs12⟩
                  clear hop3
                  have hR12 := hR11.trans (hb12.mono hR11.size)
                  have hd12 := hd11.below hb12 hs11
                  have hsD := HDO.out.sane
                  have hsD2 : Sane { D with c := true, l := max (i : Int) 0 } (0 + 65) := ⟨by show 0 ≤ max (i : Int) 0; omega, by show max (i : Int) 0 ≤ _; omega, hsD.n0, hsD.n1, hsD.len, hsD.small⟩
                  have hset2 := set_done cap1 (HP1.out.below (hKr.bel.trans (hR12.mono hwr)) (Nat.le_refl _)) hS12 hd12 (by omega) hsD2 (by decide)
                  clear hd11 hb12 hR11
                  go_wp2_with fail
                  refine hset2.mono ?_
                  rintro e w13 ⟨c, D3, rfl, hd13, ho13, hdo3⟩
                  clear hset2 hS12 hd12
                  have hR13 := hR12.trans (ho13.toB hR12.size hEa (by omega))
                  have hpw := power_any hd13
                  have hl13 := hd13.lt
                  clear ho13 hR12
                  go_wp2_with fail
                  refine hpw.mono ?_
                  rintro e w14 ⟨rfl, hd14, ho14⟩
                  clear hpw
                  have hR14 := hR13.trans ((ho14.toBelow (Nat.le_of_lt hl13)).mono hEa)
                  have hl14 := hd14.lt
                  obtain ⟨S4, hS4e⟩ : ∃ S4, S4 = w14.heap.size := ⟨_, rfl⟩
                  have hop4 := open_at E hS4e
                  have hS4a : w14.heap.size ≤ S4 := Nat.le_of_eq hS4e.symm
                  have HS4 := Lib.hid hS4e
                  clear hS4e ho14 hd13 hR13
                  go_wp2_with fail
                  refine hop4.mono ?_
                  rintro e w15 ⟨rfl, hS15, hb15, hs15⟩
                  clear hop4
                  have hR15 := hR14.trans (hb15.mono hR14.size)
                  have hd15 := hd14.below hb15 hl14
                  have hK15 := hKr.below hR15
                  have hV15 := Blk.below hVr hR15 (Blk.lt hVr)
                  have hs3 := hdo3.sane
                  have hs4 : Sane { D3 with d := false, c := false } (0 + 65 + 65) := ⟨hs3.l0, hs3.l1, hs3.n0, hs3.n1, hs3.len, hs3.small⟩
                  clear hd14 hb15 hR14
                  by_cases hc0 : c = 0
                  · subst hc0
                    obtain ⟨hg3, hn3⟩ := hdo3.tells HL1.out htl.out.1 htl.out.2 (by decide) (by decide)
                    have hvo : VOf C8 { D3 with d := false, c := false } 2 := ⟨_, _, H8.out, hg3, hn3, by decide, by decide⟩
                    have hsa := same_at hS15 hd15 hs4.small hvo (by decide)
                    clear hg3 hn3
                    have hst := hK15.bel.size
                    go_wp2_with (refine wpList_load_row rfl 33 (.tmp 8) rfl g rfl 33 C8 (0, 0) _ hV15 Try.underlying33 rfl hi8 ?_)
                    refine hsa.mono ?_
                    rintro e w16 ⟨rfl, hb16⟩
                    clear hsa
                    go_wp2_with fail
                    go_ret
                    exact ⟨rfl, hK15.bel.trans (hb16.mono hst)⟩
                  · have h12 : c = 12 := Classical.byContradiction fun h => hc0 ((hdo3.chk h).uniq HC1.out)
                    subst h12
                    have hl65 : i < 65 := by
                      rcases (hdo3.dead rfl).2.2 with h | ⟨_, h⟩
                      · have h' : D.d = true := h
                        rw [hDd] at h'
                        cases h'
                      · have h' : max (i : Int) 0 < 65 := h
                        omega
                    obtain ⟨hg3, hn3, _⟩ := hdo3.same (.inl hc0)
                    have hvo : VOf C7 { D3 with d := false, c := false } 1 := ⟨_, _, H7'.out, fun j hj => (hg3 j).trans (htl.out.1 j hj), hn3.trans htl.out.2, by decide, by decide⟩
                    have hsa := same_at hS15 hd15 hs4.small hvo (by decide)
                    have hV7 := hK15.blk
                    clear hg3 hn3 hc0
                    go_wp2_with (refine wpList_load_row_on (by rfl) 33 (.tmp 7) rfl v rfl 33 C7 (0, 0) _ hV7 Try.underlying33 rfl hi7 ?_)
                    refine hsa.mono ?_
                    rintro e w16 ⟨rfl, hb16⟩
                    clear hsa hV7
                    have hR16 := hR15.trans (hb16.mono hR15.size)
                    have hd16 := hd15.below hb16 hd15.lt
                    have hl16 := hd16.lt
                    obtain ⟨S5, hS5e⟩ : ∃ S5, S5 = w16.heap.size := ⟨_, rfl⟩
                    have hop5 := open_at E hS5e
                    have hS5a : w16.heap.size ≤ S5 := Nat.le_of_eq hS5e.symm
                    have HS5 := Lib.hid hS5e
                    clear hS5e hd15 hS15 hK15 hV15
                    go_wp2_with fail
                    refine hop5.mono ?_
                    rintro e w17 ⟨rfl, hS17, hb17, hs17⟩
                    clear hop5
                    have hR17 := hR16.trans (hb17.mono hR16.size)
                    have hd17 := hd16.below hb17 hl16
                    have hset3 := set_done cap1 (HP1.out.below (hKr.bel.trans (hR17.mono hwr)) (Nat.le_refl _)) hS17 hd17 (by omega) hs4 (by decide)
                    clear hd16 hb17 hR16
                    go_wp2_with fail
                    refine hset3.mono ?_
                    rintro e w18 ⟨c, D5, rfl, hd18, ho18, hdo5⟩
                    obtain ⟨rfl, _, _⟩ := hdo5.zero rfl rfl HC1.out
                    have hR18 := hR17.trans (ho18.toB hR17.size hEa (by omega))
                    clear hset3 ho18 hd17
                    go_wp2_with fail
                    go_roundw
                    case rel => exact ⟨i + 1, by omega, by go_num, hKr.below hR18, Blk.below hVr hR18 (Blk.lt hVr)⟩
                    case measure => simp [intOf]; omega
      · have hcb : (c1 == 0) = false := by simpa using hz1
        go_wp2_with fail
        go_ret
        exact ⟨rfl, hB5⟩
    · have hcb : (c0 == 0) = false := by simpa using hz0
      go_wp2_with fail
      go_ret
      exact ⟨rfl, hB3⟩
  · go_wp2_with fail
    go_ret
    exact ⟨rfl, hb1⟩
end Go.Proofs.Ytikaeblmjlfgcaa
