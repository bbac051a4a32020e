/- MeterScript's walk; by-name template (gen_mtscript.py). -/
import Derived.Test.YtpkmloanbddefaaMTBoT
import Derived.Test.YtpkmloanbddefaaMTFrame
namespace Go.Proofs.Ytpkmloanbddefaa
open Go.RowKit Go.Lib Go.Maps
set_option linter.unusedVariables false
set_option linter.unusedSimpArgs false

theorem Both.mono_k {w wr : World} {r b : Int} {Bm Mp Rm k k' : Nat} {LP LR : LL} (h : Both w wr r b Bm Mp Rm k LP LR) (hk : k ≤ k') : Both w wr r b Bm Mp Rm k' LP LR := by
  obtain ⟨⟨S1, S2, tk, E1, E2, v, hp, hr, h1, h2, h3, rest⟩, bel⟩ := h
  exact ⟨⟨S1, S2, tk, E1, E2, v, hp, hr, h1, h2, by omega, rest⟩, bel⟩

set_option maxHeartbeats 4000000 in
set_option maxRecDepth 100000 in
theorem script_walk {a : Option Addr} {L : List Stp} (r b : Int) (cap : Nat) {w : World} (h : StepsAt w a L) :
    Calls Try.prog 5 #[.int .i64 r, .int .i64 b, .slice a L.length cap] w fun e w' => e = .returned (.bool true) ∧ Below w.heap.size w w' := by
  have hl := h.1
  have HS := Lib.hid h
  clear h
  generalize hlen : L.length = len at *
  have HL := Lib.hid hlen
  clear hlen
  by_cases hbig : 4096 < len
  · go_enter Try.func5, Try.ntmps5
    go_wp2
    go_ret
    exact ⟨rfl, Below.refl _ _⟩
  · have hnew := fun w => new_meters r b w
    have hrnew := fun w => rnew_meters r b w
    go_enter Try.func5, Try.ntmps5
    go_wp2_with (first
      | (go_at_call 8; refine (hnew _).mono ?_; rintro e w1 ⟨Bm, Mp, rfl, hp1, b1⟩)
      | (go_at_call 9; refine (hrnew _).mono ?_; rintro e w2 ⟨Rm, rfl, hr2, b2⟩))
    have hboth := both_start hp1 b1 hr2 b2
    clear hnew hrnew hp1 b1 hr2 b2
    go_loopw [9] (fun c wr => ∃ (k : Nat) (M : LL), k ≤ len ∧ c = .int .i64 (k : Int) ∧ Both w wr r b Bm Mp Rm k M M) (fun c _ => len - (intOf c).toNat)
    case atStart => exact ⟨0, [], by omega, rfl, hboth⟩
    case round =>
      clear hboth
      obtain ⟨k, M, hk, rfl, hB⟩ := hrel
      by_cases hlt : k < len
      · obtain ⟨gb, off, s, ha, hgb, _, hst0⟩ := HS.out.get (k := k) (by rw [HL.out]; exact hlt)
        have hd := hst0.block (hB.bel.block gb hgb)
        have hso := hst0.w_src
        have hto := hst0.w_now
        subst ha
        have c0 := hd.c0
        have c1 := hd.c1
        have c2 := hd.c2
        have c3 := hd.c3
        have hBo := hB.one (.cells #[.int .i64 s.kind, .int .u64 s.src.1, .int .u64 s.src.2, .int .i64 s.now] 33)
        have hO : (wr.alloc (.cells #[.int .i64 s.kind, .int .u64 s.src.1, .int .u64 s.src.2, .int .i64 s.now] 33)).heap[wr.heap.size]? = some (.cells #[.int .i64 s.kind, .int .u64 s.src.1, .int .u64 s.src.2, .int .i64 s.now] 33 (0, 0)) := heap_alloc_new wr _
        have hkb : k < 9223372036854775807 := by omega
        have HSO := Lib.hid hso
        clear hd hst0 hB
        by_cases hk0 : s.kind = 0
        · have hkb0 : (s.kind == 0) = true := by simpa using hk0
          have HK := Lib.hid hk0
          have TP := bot_take_p hBo hkb hso hto
          have HTR := Lib.hid (fun w' (h : BoT (fun x => x = wr.heap.size) w w' r b Bm Mp Rm (k + 1) (takeL r b M s.src s.now) M) => bot_take_r h hso hto)
          have HO := Lib.hid hO
          clear hk0 hBo hO
          generalize takeL r b M s.src s.now = M' at *
          generalize takeO r b M s.src s.now = vO at *
          generalize takeR M s.src s.now = vR at *
          go_wp2_with (first
            | (go_at_call 10; refine TP.mono ?_; rintro e w5 ⟨rfl, hB5, hS5⟩; have hO5 := (hS5 _ rfl).trans HO.out; have y1 := cell_of_row _ _ 1 _ _ _ hO5; have y2 := cell_of_row _ _ 2 _ _ _ hO5; have y3 := cell_of_row _ _ 3 _ _ _ hO5; have TR := HTR.out _ hB5)
            | (go_at_call 11; refine TR.mono ?_; rintro e w6 ⟨rfl, hB6, hS6⟩; have hO6 := (hS6 _ rfl).trans hO5))
          clear TP TR hB5 hO5 y1 y2 y3 hS5 hS6 HTR HO c0 c1 c2 c3
          generalize wr.heap.size = O at *
          have x1 := cell_of_row _ _ 1 _ _ _ hO6
          have x2 := cell_of_row _ _ 2 _ _ _ hO6
          obtain ⟨ra, rc, cr⟩ := hB6.both.len_r
          have k_1 := cell_regrown x1
          have k_2 := cell_regrown x2
          have k_r := cell_regrown cr
          have HBR := Lib.hid (fun d os => hB6.both.below (below_regrown w6 d os))
          have qh1 := fun d os => Calls.regrown_of (both_has_p (HBR.out d os) hso)
          have qh2 := fun d os => Calls.regrown_of (both_has_r (HBR.out d os) hso)
          have ql := fun d os => Calls.regrown_of ((both_len_p (HBR.out d os)).mono (fun e w' (h : _ ∧ _) => ⟨h.1, h.2 ▸ Below.refl _ _⟩))
          clear x1 x2 cr hO6
          generalize hh : hasP M' s.src = hp at *
          clear hh
          go_wp2_with fail
          refine wp_region_quiet_below (by kernel_rfl) (by kernel_rfl) ?_
          repeat (first | go_big_quiet_skip | quiet_step (first | (go_at_call 12; with_reducible exact qh1 _ _) | (go_at_call 13; with_reducible exact qh2 _ _) | (go_at_call 14; with_reducible exact ql _ _)))
          refine wpQuiet_nil ?_
          intro _ hw'
          obtain ⟨⟨dq, osq⟩, hw''⟩ := hw'
          subst hw''
          have hB7 := HBR.out dq osq
          clear qh1 qh2 ql k_1 k_2 k_r HBR hB6
          generalize Go.Sort.grow (redrawn w6 dq) osq = w7 at *
          go_wp2_with fail
          go_roundw
          case rel => exact ⟨k + 1, M', by omega, by go_num, hB7.mono_k (by omega)⟩
          case measure => simp [intOf]; omega

        · have hkb0 : (s.kind == 0) = false := by simpa using hk0
          by_cases hk1 : s.kind = 1
          · have hkb1 : (s.kind == 1) = true := by simpa using hk1
            have HK := Lib.hid (And.intro hk0 hk1)
            have HTP := Lib.hid (fun w' (h : BoT (fun x => x = wr.heap.size) w w' r b Bm Mp Rm k M M) => bot_tok_p h hso hto)
            have HTR := Lib.hid (fun w' (h : BoT (fun x => x = wr.heap.size) w w' r b Bm Mp Rm k (tokL M s.src s.now) M) => bot_tok_r h hso hto)
            have HO := Lib.hid hO
            have hBd := hBo.dr
            clear hk0 hk1 hBo hO
            generalize tokL M s.src s.now = M' at *
            generalize tokV M s.src s.now = vV at *
            go_wp2_with fail
            have y1 := cell_of_row _ _ 1 _ _ _ HO.out
            have y2 := cell_of_row _ _ 2 _ _ _ HO.out
            have y3 := cell_of_row _ _ 3 _ _ _ HO.out
            clear c0 c1 c2 c3
            have HO' : Hid ((wr.alloc (.cells #[.int .i64 s.kind, .int .u64 s.src.1, .int .u64 s.src.2, .int .i64 s.now] 33)).drew.heap[wr.heap.size]? = _) := HO
            generalize wr.heap.size = O at *
            generalize wr.alloc (.cells #[.int .i64 s.kind, .int .u64 s.src.1, .int .u64 s.src.2, .int .i64 s.now] 33) = wo at *
            go_region_held3 (fun w' => w'.cell? ⟨O, 1, none⟩ = some (.int .u64 s.src.1) ∧ w'.cell? ⟨O, 2, none⟩ = some (.int .u64 s.src.2) ∧ w'.cell? ⟨O, 3, none⟩ = some (.int .i64 s.now))
              (first | exact ⟨y1, y2, y3⟩ | exact ⟨z1, z2, z3⟩ | exact ⟨v1, v2, v3⟩)
              (first
                | (go_at_call 15; refine (HTP.out _ hBd).mono ?_; rintro e w5 ⟨rfl, hB5, hS5⟩; have hO5 := (hS5 _ rfl).trans HO'.out; have z1 := cell_of_row _ _ 1 _ _ _ hO5; have z2 := cell_of_row _ _ 2 _ _ _ hO5; have z3 := cell_of_row _ _ 3 _ _ _ hO5; have TR := HTR.out _ hB5)
                | (go_at_call 17; refine TR.mono ?_; rintro e w6 ⟨rfl, hB6, hS6⟩; have hO6 := (hS6 _ rfl).trans hO5; have v1 := cell_of_row _ _ 1 _ _ _ hO6; have v2 := cell_of_row _ _ 2 _ _ _ hO6; have v3 := cell_of_row _ _ 3 _ _ _ hO6))
            clear TR hB5 hO5 y1 y2 y3 z1 z2 z3 v1 v2 v3 hS5 hS6 HTR HTP HO HO'
            go_wp2_with fail
            have x1 := cell_of_row _ _ 1 _ _ _ hO6
            have x2 := cell_of_row _ _ 2 _ _ _ hO6
            obtain ⟨ra, rc, cr⟩ := hB6.both.len_r
            have k_1 := cell_regrown x1
            have k_2 := cell_regrown x2
            have k_r := cell_regrown cr
            have HBR := Lib.hid (fun d os => hB6.both.below (below_regrown w6 d os))
            have qh1 := fun d os => Calls.regrown_of (both_has_p (HBR.out d os) hso)
            have qh2 := fun d os => Calls.regrown_of (both_has_r (HBR.out d os) hso)
            have ql := fun d os => Calls.regrown_of ((both_len_p (HBR.out d os)).mono (fun e w' (h : _ ∧ _) => ⟨h.1, h.2 ▸ Below.refl _ _⟩))
            clear x1 x2 cr hO6
            generalize hh : hasP M' s.src = hp at *
            clear hh
            go_wp2_with fail
            refine wp_region_quiet_below (by kernel_rfl) (by kernel_rfl) ?_
            repeat (first | go_big_quiet_skip | quiet_step (first | (go_at_call 12; with_reducible exact qh1 _ _) | (go_at_call 13; with_reducible exact qh2 _ _) | (go_at_call 14; with_reducible exact ql _ _)))
            refine wpQuiet_nil ?_
            intro _ hw'
            obtain ⟨⟨dq, osq⟩, hw''⟩ := hw'
            subst hw''
            have hB7 := HBR.out dq osq
            clear qh1 qh2 ql k_1 k_2 k_r HBR hB6
            generalize Go.Sort.grow (redrawn w6 dq) osq = w7 at *
            go_wp2_with fail
            go_roundw
            case rel => exact ⟨k + 1, M', by omega, by go_num, hB7.mono_k (by omega)⟩
            case measure => simp [intOf]; omega

          · have hkb1 : (s.kind == 1) = false := by simpa using hk1
            have HK := Lib.hid (And.intro hk0 hk1)
            clear hk0 hk1
            go_wp2_with fail
            have hB6 := hBo
            have hO6 := hO
            clear hBo hO c0 c1 c2 c3
            generalize wr.heap.size = O at *
            generalize wr.alloc (.cells #[.int .i64 s.kind, .int .u64 s.src.1, .int .u64 s.src.2, .int .i64 s.now] 33) = w6 at *
            obtain ⟨M', hM'⟩ : ∃ M', M' = M := ⟨_, rfl⟩
            subst hM'
            have x1 := cell_of_row _ _ 1 _ _ _ hO6
            have x2 := cell_of_row _ _ 2 _ _ _ hO6
            obtain ⟨ra, rc, cr⟩ := hB6.both.len_r
            have k_1 := cell_regrown x1
            have k_2 := cell_regrown x2
            have k_r := cell_regrown cr
            have HBR := Lib.hid (fun d os => hB6.both.below (below_regrown w6 d os))
            have qh1 := fun d os => Calls.regrown_of (both_has_p (HBR.out d os) hso)
            have qh2 := fun d os => Calls.regrown_of (both_has_r (HBR.out d os) hso)
            have ql := fun d os => Calls.regrown_of ((both_len_p (HBR.out d os)).mono (fun e w' (h : _ ∧ _) => ⟨h.1, h.2 ▸ Below.refl _ _⟩))
            clear x1 x2 cr hO6
            generalize hh : hasP M' s.src = hp at *
            clear hh
            go_wp2_with fail
            refine wp_region_quiet_below (by kernel_rfl) (by kernel_rfl) ?_
            repeat (first | go_big_quiet_skip | quiet_step (first | (go_at_call 12; with_reducible exact qh1 _ _) | (go_at_call 13; with_reducible exact qh2 _ _) | (go_at_call 14; with_reducible exact ql _ _)))
            refine wpQuiet_nil ?_
            intro _ hw'
            obtain ⟨⟨dq, osq⟩, hw''⟩ := hw'
            subst hw''
            have hB7 := HBR.out dq osq
            clear qh1 qh2 ql k_1 k_2 k_r HBR hB6
            generalize Go.Sort.grow (redrawn w6 dq) osq = w7 at *
            go_wp2_with fail
            go_roundw
            case rel => exact ⟨k + 1, M', by omega, by go_num, hB7.mono_k (by omega)⟩
            case measure => simp [intOf]; omega

      · have hk' : k = len := by omega
        subst hk'
        have hln := hB.ln.2
        have HB := Lib.hid hB
        obtain ⟨wo, hwo⟩ : ∃ wo : World, wo = wr := ⟨_, rfl⟩
        subst hwo
        clear hB
        go_wp2_with fail
        go_loopw [15] (fun c wr => ∃ j : Nat, j ≤ M.length ∧ c = .int .i64 (j : Int) ∧ Both w wr r b Bm Mp Rm k M M) (fun c _ => M.length - (intOf c).toNat)
        case atStart => exact ⟨0, by omega, rfl, HB.out⟩
        case round =>
          obtain ⟨j, hj, rfl, hB⟩ := hrel
          by_cases hjl : j < M.length
          · obtain ⟨g, cp, O, s, cr, hc1, hc2, p0, p1, p2, hso, hhas⟩ := hB.at_r hjl
            have hH := both_has_p hB hso
            rw [hhas] at hH
            have HBB := Lib.hid hB
            clear hB hhas
            generalize hml : M.length = ml at *
            go_wp2_with (go_at_call 12; refine hH.mono ?_; rintro e w3 ⟨rfl, b3⟩; have hB3 := HBB.out.below b3)
            go_roundw
            case rel => exact ⟨j + 1, by omega, by go_num, hB3⟩
            case measure => simp [intOf]; omega
          · obtain ⟨ra, rc, cr⟩ := hB.len_r
            have HBB := Lib.hid hB.bel
            clear hB
            generalize hml : M.length = ml at *
            go_wp2_with fail
            go_ret
            exact ⟨rfl, HBB.out⟩
end Go.Proofs.Ytpkmloanbddefaa
