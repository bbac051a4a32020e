/- WheelScript's walk; by-name template (gen_whscript.py). -/
import Derived.Test.YtcmdelmgklidjaaWhBo
import Derived.Test.YtcmdelmgklidjaaWhFrame
namespace Go.Proofs.Ytcmdelmgklidjaa
open Go.RowKit Go.Lib Go.Maps
set_option linter.unusedVariables false
set_option linter.unusedSimpArgs false

set_option maxHeartbeats 8000000 in
set_option maxRecDepth 100000 in
theorem script_walk {a : Option Addr} {L : List Stp} (cap : Nat) {w : World} (h : StepsAt w a L) :
    Calls Try.prog 5 #[.slice a L.length cap] w fun e w' => e = .returned (.bool true) ∧ Below w.heap.size w w' := by
  have hl := h.1
  have HS := Lib.hid h
  clear h
  generalize hlen : L.length = len at *
  have HL := Lib.hid hlen
  clear hlen
  by_cases hbig : 4096 < len
  · go_enter Try.func5, Try.ntmps5
    go_wp2
    go_ret
    exact ⟨rfl, Below.refl _ _⟩
  · have hnew := fun w => new_wheel w
    go_enter Try.func5, Try.ntmps5
    go_wp2_with (go_at_call 8; refine (hnew _).mono ?_; rintro e w1 ⟨Bw, rfl, hp1, b1⟩)
    have hboth := bo_new hp1 b1
    clear hnew hp1 b1
    generalize w1.heap.size = Br at *
    go_loopw [5] (fun c wr => ∃ (k : Nat) (M : List K2), k ≤ len ∧ c = .int .i64 (k : Int) ∧ Bo (fun _ => False) w wr Bw Br M M) (fun c _ => len - (intOf c).toNat)
    case atStart => exact ⟨0, [], by omega, rfl, hboth⟩
    case round =>
      clear hboth
      obtain ⟨k, M, hk, rfl, hB⟩ := hrel
      by_cases hlt : k < len
      · obtain ⟨gb, off, s, ha, hgb, _, hst0⟩ := HS.out.get (k := k) (by rw [HL.out]; exact hlt)
        have hd := hst0.block (hB.bl.block gb hgb)
        have hso := hst0.w_id
        have hto := hst0.w_tm
        subst ha
        have c0 := hd.c0
        have c1 := hd.c1
        have c2 := hd.c2
        have hBo := (hB.with (.cells #[.int .i64 s.kind, .int .i64 s.id, .int .i64 s.tm] 38)).mono (Y := fun k => k = wr.heap.size) (fun k hk => .inr hk)
        have hO : (wr.alloc (.cells #[.int .i64 s.kind, .int .i64 s.id, .int .i64 s.tm] 38)).heap[wr.heap.size]? = some (.cells #[.int .i64 s.kind, .int .i64 s.id, .int .i64 s.tm] 38 (0, 0)) := heap_alloc_new wr _
        have hUM := hB.uidL
        have HSO := Lib.hid hso
        clear hd hst0 hB
        by_cases hk0 : s.kind = 0
        · have hkb0 : (s.kind == 0) = true := by simpa using hk0
          have HK := Lib.hid hk0
          have HTP := Lib.hid (fun w' (h : Bo (fun k => k = wr.heap.size) w w' Bw Br M M) => bo_set_p h hso (t := s.tm))
          have HTR := Lib.hid (fun w' (h : Bo (fun k => k = wr.heap.size) w w' Bw Br (setP M s.id s.tm) M) => bo_set_r h hUM (id := s.id) (t := s.tm))
          have HO := Lib.hid hO
          have hBd := hBo.dr
          clear hk0 hBo hO
          generalize setP M s.id s.tm = M' at *
          generalize setR M s.id = vO at *
          go_wp2_with fail
          have y1 := cell_of_row _ _ 1 _ _ _ HO.out
          have y2 := cell_of_row _ _ 2 _ _ _ HO.out
          clear c0 c1 c2
          have HO' : Hid ((wr.alloc (.cells #[.int .i64 s.kind, .int .i64 s.id, .int .i64 s.tm] 38)).drew.heap[wr.heap.size]? = _) := HO
          generalize wr.heap.size = O at *
          generalize wr.alloc (.cells #[.int .i64 s.kind, .int .i64 s.id, .int .i64 s.tm] 38) = wo at *
          go_region_held3 (fun w' => w'.cell? ⟨O, 1, none⟩ = some (.int .i64 s.id) ∧ w'.cell? ⟨O, 2, none⟩ = some (.int .i64 s.tm))
            (first | exact ⟨y1, y2⟩ | exact ⟨z1, z2⟩ | exact ⟨v1, v2⟩)
            (first
              | (go_at_call 9; refine (HTP.out _ hBd).mono ?_; rintro e w5 ⟨rfl, hB5, hS5⟩; have hO5 := (hS5.2 _ rfl).trans HO'.out; have z1 := cell_of_row _ _ 1 _ _ _ hO5; have z2 := cell_of_row _ _ 2 _ _ _ hO5; have TR := HTR.out _ hB5)
              | (go_at_call 13; refine TR.mono ?_; rintro e w6 ⟨rfl, hB6, hS6⟩; have hO6 := (hS6.2 _ rfl).trans hO5; have v1 := cell_of_row _ _ 1 _ _ _ hO6; have v2 := cell_of_row _ _ 2 _ _ _ hO6))
          clear TR hB5 hO5 y1 y2 z1 z2 v1 v2 hS5 hS6 HTR HTP HO HO' hO6
          clear hUM
          obtain ⟨Ar, cr, ccr⟩ := hB6.cr
          have hN1 := bo_next_p hB6
          have HN2 := Lib.hid (fun w' (b : Below w6.heap.size w6 w') => bo_next_r (hB6.below b))
          have HBB := Lib.hid (fun w' (b : Below w6.heap.size w6 w') => hB6.below b)
          have hlM := hB6.lenL
          generalize hi1 : nid M' = vi at *
          generalize hi2 : nat' M' = vt at *
          generalize hi3 : decide (0 < M'.length) = vb at *
          generalize hi4 : M'.length = ml at *
          have HI := Lib.hid (And.intro hi1 (And.intro hi2 (And.intro hi3 hi4)))
          clear hi1 hi2 hi3 hi4 hB6
          go_wp2_with (first
            | (go_at_call 17; refine hN1.mono ?_; rintro e w7 ⟨rfl, b7⟩)
            | (go_at_call 18; refine (HN2.out _ b7).mono ?_; rintro e w8 ⟨rfl, b8⟩))
          have b68 := bel_via b7 b8
          have hB8 := HBB.out _ b68
          have ccr8 : w8.cell? ⟨Br, 0, none⟩ = some (.slice Ar ml cr) := (World.cell?_of_block (b68.block Br (World.block_lt_of_cell? _ _ ccr))).trans ccr
          have k_r := cell_regrown ccr8
          have HBR := Lib.hid (fun d os => hB8.below (below_regrown w8 d os))
          have ql := fun d os => Calls.regrown_of (bo_len_p (HBR.out d os))
          rw [HI.out.2.2.2] at ql
          clear ccr ccr8 hN1 HN2 HBB b7 b8 b68 hB8
          refine wp_region_quiet_below (by kernel_rfl) (by kernel_rfl) ?_
          repeat (first | go_big_quiet_skip | quiet_step (first | (go_at_call 11; with_reducible exact ql _ _)))
          refine wpQuiet_nil ?_
          intro _ hw'
          obtain ⟨⟨dq, osq⟩, hw''⟩ := hw'
          subst hw''
          have hB9 := (HBR.out dq osq).only
          clear ql k_r HBR
          generalize Go.Sort.grow (redrawn w8 dq) osq = w9 at *
          go_wp2_with fail
          go_roundw
          case rel => exact ⟨k + 1, M', by omega, by go_num, hB9⟩
          case measure => simp [intOf]; omega
        · have hkb0 : (s.kind == 0) = false := by simpa using hk0
          by_cases hk1 : s.kind = 1
          · have hkb1 : (s.kind == 1) = true := by simpa using hk1
            have HK := Lib.hid (And.intro hk0 hk1)
            have HTP := Lib.hid (fun w' (h : Bo (fun k => k = wr.heap.size) w w' Bw Br M M) => bo_drop_p h hso)
            have HTR := Lib.hid (fun w' (h : Bo (fun k => k = wr.heap.size) w w' Bw Br (remP M s.id) M) => bo_drop_r h hUM (id := s.id))
            have HO := Lib.hid hO
            have hBd := hBo.dr
            clear hk0 hk1 hBo hO
            generalize remP M s.id = M' at *
            generalize hasP M s.id = vO at *
            go_wp2_with fail
            have y1 := cell_of_row _ _ 1 _ _ _ HO.out
            clear c0 c1 c2
            have HO' : Hid ((wr.alloc (.cells #[.int .i64 s.kind, .int .i64 s.id, .int .i64 s.tm] 38)).drew.heap[wr.heap.size]? = _) := HO
            generalize wr.heap.size = O at *
            generalize wr.alloc (.cells #[.int .i64 s.kind, .int .i64 s.id, .int .i64 s.tm] 38) = wo at *
            go_region_held3 (fun w' => w'.cell? ⟨O, 1, none⟩ = some (.int .i64 s.id))
              (first | exact y1 | exact z1 | exact v1)
              (first
                | (go_at_call 10; refine (HTP.out _ hBd).mono ?_; rintro e w5 ⟨rfl, hB5, hS5⟩; have hO5 := (hS5.2 _ rfl).trans HO'.out; have z1 := cell_of_row _ _ 1 _ _ _ hO5; have TR := HTR.out _ hB5)
                | (go_at_call 16; refine TR.mono ?_; rintro e w6 ⟨rfl, hB6, hS6⟩; have hO6 := (hS6.2 _ rfl).trans hO5; have v1 := cell_of_row _ _ 1 _ _ _ hO6))
            clear TR hB5 hO5 y1 z1 v1 hS5 hS6 HTR HTP HO HO' hO6
            clear hUM
            obtain ⟨Ar, cr, ccr⟩ := hB6.cr
            have hN1 := bo_next_p hB6
            have HN2 := Lib.hid (fun w' (b : Below w6.heap.size w6 w') => bo_next_r (hB6.below b))
            have HBB := Lib.hid (fun w' (b : Below w6.heap.size w6 w') => hB6.below b)
            have hlM := hB6.lenL
            generalize hi1 : nid M' = vi at *
            generalize hi2 : nat' M' = vt at *
            generalize hi3 : decide (0 < M'.length) = vb at *
            generalize hi4 : M'.length = ml at *
            have HI := Lib.hid (And.intro hi1 (And.intro hi2 (And.intro hi3 hi4)))
            clear hi1 hi2 hi3 hi4 hB6
            go_wp2_with (first
              | (go_at_call 17; refine hN1.mono ?_; rintro e w7 ⟨rfl, b7⟩)
              | (go_at_call 18; refine (HN2.out _ b7).mono ?_; rintro e w8 ⟨rfl, b8⟩))
            have b68 := bel_via b7 b8
            have hB8 := HBB.out _ b68
            have ccr8 : w8.cell? ⟨Br, 0, none⟩ = some (.slice Ar ml cr) := (World.cell?_of_block (b68.block Br (World.block_lt_of_cell? _ _ ccr))).trans ccr
            have k_r := cell_regrown ccr8
            have HBR := Lib.hid (fun d os => hB8.below (below_regrown w8 d os))
            have ql := fun d os => Calls.regrown_of (bo_len_p (HBR.out d os))
            rw [HI.out.2.2.2] at ql
            clear ccr ccr8 hN1 HN2 HBB b7 b8 b68 hB8
            refine wp_region_quiet_below (by kernel_rfl) (by kernel_rfl) ?_
            repeat (first | go_big_quiet_skip | quiet_step (first | (go_at_call 11; with_reducible exact ql _ _)))
            refine wpQuiet_nil ?_
            intro _ hw'
            obtain ⟨⟨dq, osq⟩, hw''⟩ := hw'
            subst hw''
            have hB9 := (HBR.out dq osq).only
            clear ql k_r HBR
            generalize Go.Sort.grow (redrawn w8 dq) osq = w9 at *
            go_wp2_with fail
            go_roundw
            case rel => exact ⟨k + 1, M', by omega, by go_num, hB9⟩
            case measure => simp [intOf]; omega
          · have hkb1 : (s.kind == 1) = false := by simpa using hk1
            by_cases hk2 : s.kind = 2
            · have hkb2 : (s.kind == 2) = true := by simpa using hk2
              have HK := Lib.hid (And.intro hk0 (And.intro hk1 hk2))
              have HTP := Lib.hid (fun w' (h : Bo (fun k => k = wr.heap.size) w w' Bw Br M M) => bo_due_p h (now := s.tm))
              have HTR := Lib.hid (fun w' X (h : Bo X w w' Bw Br (lefP M s.tm) M) => bo_due_r h (now := s.tm))
              have HLN : Hid ((dueP M s.tm).length ≤ 65536) := Lib.hid (by
                have := hBo.lenL
                have h1 : (dueP M s.tm).length ≤ M.length := by unfold dueP; rw [List.length_map]; exact (List.takeWhile_sublist _).length_le
                omega)
              have HSM := Lib.hid (fun (w' : World) (A B : Option Addr) (c d : Nat) (h1 : Sl w' 1 e1 A (dueP M s.tm).length (dueP M s.tm)) (h2 : Sl w' 1 e1 B (dueP M s.tm).length (dueP M s.tm)) => (same_ints HLN.out h1 h2 (c := c) (d := d)).mono (fun e w'' h => And.intro (h.1.trans (by simp : _ = Ending.returned (.bool true))) h.2))
              have HO := Lib.hid hO
              have hBd := hBo.dr
              clear hk0 hk1 hk2 hBo hO
              generalize lefP M s.tm = M' at *
              generalize dueP M s.tm = DD at *
              go_wp2_with fail
              have y1 := cell_of_row _ _ 2 _ _ _ HO.out
              clear c0 c1 c2
              have HO' : Hid ((wr.alloc (.cells #[.int .i64 s.kind, .int .i64 s.id, .int .i64 s.tm] 38)).drew.heap[wr.heap.size]? = _) := HO
              generalize wr.heap.size = O at *
              generalize wr.alloc (.cells #[.int .i64 s.kind, .int .i64 s.id, .int .i64 s.tm] 38) = wo at *
              go_region_held3 (fun w' => w'.cell? ⟨O, 2, none⟩ = some (.int .i64 s.tm))
                (first | exact y1 | exact z1 | exact v1 | exact x1)
                (first
                  | (go_at_call 12; refine (HTP.out _ hBd).mono ?_; rintro e w5 ⟨A5, c5, rfl, hR5, hB5, hS5⟩; have hO5 := (hS5.2 _ rfl).trans HO'.out; have z1 := cell_of_row _ _ 2 _ _ _ hO5; have TR := HTR.out _ _ hB5)
                  | (go_at_call 15; refine TR.mono ?_; rintro e w6 ⟨A6, c6, rfl, hR6, hB6, hS6⟩; have hO6 := (hS6.2 _ (.inl rfl)).trans hO5; have v1 := cell_of_row _ _ 2 _ _ _ hO6; have hR5' := hS6.sl hR5 (fun b off sp e => .inr ⟨off, sp, e⟩); have TS := HSM.out _ _ _ c5 c6 hR5' hR6)
                  | (go_at_call 14; refine TS.mono ?_; rintro e w66 ⟨rfl, b66⟩; have x1 := cell_of_row _ _ 2 _ _ _ ((b66.block _ (blk_lt hO6)).trans hO6); have hB66 := hB6.below b66))
              clear TR hB5 hO5 y1 z1 v1 x1 hS5 hS6 HTR HTP HO HO' hO6 hR5 hR5' hR6 TS HSM HLN b66 hB6
              replace hB66 := hB66.mono (Y := fun k => k = O) (fun k hk => .inl (.inl hk))
              obtain ⟨w6, hB6, hw6⟩ : ∃ w6, Bo (fun k => k = O) w w6 Bw Br M' M' ∧ w6 = w66 := ⟨_, hB66, rfl⟩
              subst hw6
              clear hB66
              clear hUM
              obtain ⟨Ar, cr, ccr⟩ := hB6.cr
              have hN1 := bo_next_p hB6
              have HN2 := Lib.hid (fun w' (b : Below w6.heap.size w6 w') => bo_next_r (hB6.below b))
              have HBB := Lib.hid (fun w' (b : Below w6.heap.size w6 w') => hB6.below b)
              have hlM := hB6.lenL
              generalize hi1 : nid M' = vi at *
              generalize hi2 : nat' M' = vt at *
              generalize hi3 : decide (0 < M'.length) = vb at *
              generalize hi4 : M'.length = ml at *
              have HI := Lib.hid (And.intro hi1 (And.intro hi2 (And.intro hi3 hi4)))
              clear hi1 hi2 hi3 hi4 hB6
              go_wp2_with (first
                | (go_at_call 17; refine hN1.mono ?_; rintro e w7 ⟨rfl, b7⟩)
                | (go_at_call 18; refine (HN2.out _ b7).mono ?_; rintro e w8 ⟨rfl, b8⟩))
              have b68 := bel_via b7 b8
              have hB8 := HBB.out _ b68
              have ccr8 : w8.cell? ⟨Br, 0, none⟩ = some (.slice Ar ml cr) := (World.cell?_of_block (b68.block Br (World.block_lt_of_cell? _ _ ccr))).trans ccr
              have k_r := cell_regrown ccr8
              have HBR := Lib.hid (fun d os => hB8.below (below_regrown w8 d os))
              have ql := fun d os => Calls.regrown_of (bo_len_p (HBR.out d os))
              rw [HI.out.2.2.2] at ql
              clear ccr ccr8 hN1 HN2 HBB b7 b8 b68 hB8
              refine wp_region_quiet_below (by kernel_rfl) (by kernel_rfl) ?_
              repeat (first | go_big_quiet_skip | quiet_step (first | (go_at_call 11; with_reducible exact ql _ _)))
              refine wpQuiet_nil ?_
              intro _ hw'
              obtain ⟨⟨dq, osq⟩, hw''⟩ := hw'
              subst hw''
              have hB9 := (HBR.out dq osq).only
              clear ql k_r HBR
              generalize Go.Sort.grow (redrawn w8 dq) osq = w9 at *
              go_wp2_with fail
              go_roundw
              case rel => exact ⟨k + 1, M', by omega, by go_num, hB9⟩
              case measure => simp [intOf]; omega
            · have hkb2 : (s.kind == 2) = false := by simpa using hk2
              have HK := Lib.hid (And.intro hk0 (And.intro hk1 hk2))
              clear hk0 hk1 hk2
              go_upto_region 21 with fail
              have hB6 := hBo
              clear hBo hO c0 c1 c2
              generalize wr.heap.size = O at *
              generalize wr.alloc (.cells #[.int .i64 s.kind, .int .i64 s.id, .int .i64 s.tm] 38) = w6 at *
              obtain ⟨M', hM'⟩ : ∃ M', M' = M := ⟨_, rfl⟩
              subst hM'
              clear hUM
              obtain ⟨Ar, cr, ccr⟩ := hB6.cr
              have hN1 := bo_next_p hB6
              have HN2 := Lib.hid (fun w' (b : Below w6.heap.size w6 w') => bo_next_r (hB6.below b))
              have HBB := Lib.hid (fun w' (b : Below w6.heap.size w6 w') => hB6.below b)
              have hlM := hB6.lenL
              generalize hi1 : nid M' = vi at *
              generalize hi2 : nat' M' = vt at *
              generalize hi3 : decide (0 < M'.length) = vb at *
              generalize hi4 : M'.length = ml at *
              have HI := Lib.hid (And.intro hi1 (And.intro hi2 (And.intro hi3 hi4)))
              clear hi1 hi2 hi3 hi4 hB6
              go_wp2_with (first
                | (go_at_call 17; refine hN1.mono ?_; rintro e w7 ⟨rfl, b7⟩)
                | (go_at_call 18; refine (HN2.out _ b7).mono ?_; rintro e w8 ⟨rfl, b8⟩))
              have b68 := bel_via b7 b8
              have hB8 := HBB.out _ b68
              have ccr8 : w8.cell? ⟨Br, 0, none⟩ = some (.slice Ar ml cr) := (World.cell?_of_block (b68.block Br (World.block_lt_of_cell? _ _ ccr))).trans ccr
              have k_r := cell_regrown ccr8
              have HBR := Lib.hid (fun d os => hB8.below (below_regrown w8 d os))
              have ql := fun d os => Calls.regrown_of (bo_len_p (HBR.out d os))
              rw [HI.out.2.2.2] at ql
              clear ccr ccr8 hN1 HN2 HBB b7 b8 b68 hB8
              refine wp_region_quiet_below (by kernel_rfl) (by kernel_rfl) ?_
              repeat (first | go_big_quiet_skip | quiet_step (first | (go_at_call 11; with_reducible exact ql _ _)))
              refine wpQuiet_nil ?_
              intro _ hw'
              obtain ⟨⟨dq, osq⟩, hw''⟩ := hw'
              subst hw''
              have hB9 := (HBR.out dq osq).only
              clear ql k_r HBR
              generalize Go.Sort.grow (redrawn w8 dq) osq = w9 at *
              go_wp2_with fail
              go_roundw
              case rel => exact ⟨k + 1, M', by omega, by go_num, hB9⟩
              case measure => simp [intOf]; omega
      · have hk' : k = len := by omega
        subst hk'
        have HB := Lib.hid hB
        clear hB
        go_wp2_with fail
        go_ret
        exact ⟨rfl, HB.out.bl⟩
end Go.Proofs.Ytcmdelmgklidjaa
