/- MeterFresh's walk; by-name template. -/
import Derived.Test.YtpkmloanbddefaaMTBoth
import Derived.Test.YtpkmloanbddefaaMTFrame
namespace Go.Proofs.Ytpkmloanbddefaa
open Go.RowKit Go.Lib Go.Maps
set_option linter.unusedVariables false
set_option linter.unusedSimpArgs false

theorem newB_yes (r b t : Int) : newB r b t = true := by
  have h : (newP r b t).n = min (max b 1) 1048576 := rfl
  unfold newB takeB
  rw [learn_old (show t ≤ (newP r b t).k from Int.le_refl _), h, decide_eq_false (by omega), decide_eq_false (by omega)]; rfl
theorem newT_eq (r b t : Int) : newT r b t = { newP r b t with n := min (max b 1) 1048576 - 1 } := by
  have h := newB_yes r b t
  unfold newT takeD
  rw [show takeB (newP r b t) t 1 = true from h, if_pos rfl, learn_old (show t ≤ (newP r b t).k from Int.le_refl _)]
  rfl
theorem tok_new {r b : Int} {L : LL} {s : Src} {t : Int} (hi : ¬ idxP L s < L.length) : tokV (L ++ [(s, newT r b t)]) s t = min (max b 1) 1048576 - 1 := by
  have h1 : idxP (L ++ [(s, newT r b t)]) s = L.length := by
    unfold idxP at hi ⊢
    rw [List.findIdx_append, if_neg hi]
    simp
  unfold tokV
  rw [h1, if_pos (by simp)]
  unfold bkP
  rw [List.getD_eq_getElem?_getD, List.getElem?_append_right (Nat.le_refl _)]
  simp only [Nat.sub_self, List.getElem?_cons_zero, Option.getD_some]
  rw [newT_eq]
  exact congrArg BK.n (learn_old (D := { newP r b t with n := min (max b 1) 1048576 - 1 }) (Int.le_refl t))
theorem tok_take {r b : Int} {L : LL} {s : Src} {t : Int} (hi : hasP L s = false) (hR : takeR L s t = true) : tokV (takeL r b L s t) s t = min (max b 1) 1048576 - 1 ∧ takeO r b L s t = true := by
  have h1 : ¬ idxP L s < L.length := by simpa [hasP] using hi
  have hk : ∀ L' : LL, (∀ p ∈ L', p.1 ≠ s) → ¬ idxP L' s < L'.length := fun L' h hlt => by
    obtain ⟨p, hp, he⟩ := List.findIdx_lt_length.1 hlt
    exact h p hp (by simpa using he)
  have hno : ∀ p ∈ L, p.1 ≠ s := fun p hp he => h1 (List.findIdx_lt_length.2 ⟨p, hp, by simpa using he⟩)
  unfold takeR at hR
  unfold takeL takeO
  rw [if_neg h1, if_neg h1]
  by_cases h2 : L.length < 32
  · rw [if_pos h2, if_pos h2]
    exact ⟨tok_new h1, newB_yes r b t⟩
  · rw [decide_eq_false h1, decide_eq_false h2, Bool.false_or, Bool.false_or] at hR
    rw [if_neg h2, if_neg h2, if_pos (of_decide_eq_true hR), if_pos (of_decide_eq_true hR)]
    refine ⟨tok_new (hk _ fun p hp he => ?_), newB_yes r b t⟩
    have hp := List.mem_of_mem_eraseIdx hp
    obtain ⟨q, hq, rfl⟩ := List.mem_map.1 hp
    exact hno q hq he
theorem take_no {r b : Int} {L : LL} {s : Src} {t : Int} (h : takeR L s t = false) : hasP L s = false ∧ ¬ L.length < 32 ∧ takeO r b L s t = false ∧ (takeL r b L s t).length = L.length := by
  unfold takeR at h
  simp only [Bool.or_eq_false_iff] at h
  obtain ⟨⟨h1, h2⟩, h3⟩ := h
  refine ⟨h1, of_decide_eq_false h2, ?_, ?_⟩
  · unfold takeO
    rw [if_neg (of_decide_eq_false h1), if_neg (of_decide_eq_false h2), if_neg (of_decide_eq_false h3)]
  · unfold takeL
    rw [if_neg (of_decide_eq_false h1), if_neg (of_decide_eq_false h2), if_neg (of_decide_eq_false h3)]
    simp [learnL]

set_option maxHeartbeats 4000000 in
set_option maxRecDepth 100000 in
theorem fresh_walk {a : Option Addr} {L : List Stp} (r b : Int) (cap : Nat) (src : Src) (now : Int) {w : World} (h : StepsAt w a L) (hsrc : SrcOk src) (hnow : i64ok now) :
    Calls Try.prog 3 #[.int .i64 r, .int .i64 b, .slice a L.length cap, .agg #[.int .u64 src.1, .int .u64 src.2], .int .i64 now] w fun e w' => e = .returned (.bool true) ∧ Below w.heap.size w w' := by
  have hl := h.1
  have HS := Lib.hid h
  clear h
  generalize hlen : L.length = len at *
  have HL := Lib.hid hlen
  clear hlen
  have hb0 : Below w.heap.size w (w.alloc (.cells #[.int .u64 src.1, .int .u64 src.2] 25)) := (Below.refl _ _).alloc (Nat.le_refl _) _
  have q0 : (w.alloc (.cells #[.int .u64 src.1, .int .u64 src.2] 25)).heap[w.heap.size]? = some (.cells #[.int .u64 src.1, .int .u64 src.2] 25 (0, 0)) := heap_alloc_new w _
  have hz0 : w.heap.size < (w.alloc (.cells #[.int .u64 src.1, .int .u64 src.2] 25)).heap.size := by simp
  have HB0 := Lib.hid hb0
  have HQ0 := Lib.hid q0
  clear hb0 q0
  by_cases hbig : 4096 < len
  · go_enter Try.func3, Try.ntmps3
    go_wp2
    go_ret
    exact ⟨rfl, HB0.out⟩
  · have hnew := fun w => new_meters r b w
    have hrnew := fun w => rnew_meters r b w
    go_enter Try.func3, Try.ntmps3
    go_wp2_with (first
      | (go_at_call 8; refine (hnew _).mono ?_; rintro e w1 ⟨Bm, Mp, rfl, hp1, b1⟩)
      | (go_at_call 9; refine (hrnew _).mono ?_; rintro e w2 ⟨Rm, rfl, hr2, b2⟩))
    have hboth := both_start hp1 b1 hr2 b2
    clear hnew hrnew hp1 b1 hr2 b2
    generalize hwA : w.alloc (.cells #[.int .u64 src.1, .int .u64 src.2] 25) = wA at *
    go_loopw [13] (fun c wr => ∃ (k : Nat) (M : LL), k ≤ len ∧ c = .int .i64 (k : Int) ∧ Both wA wr r b Bm Mp Rm k M M) (fun c _ => len - (intOf c).toNat)
    case atStart => exact ⟨0, [], by omega, rfl, hboth⟩
    case round =>
      clear hboth
      obtain ⟨k, M, hk, rfl, hB⟩ := hrel
      by_cases hlt : k < len
      · obtain ⟨gb, off, s, ha, hgb, _, hst0⟩ := HS.out.get (k := k) (by rw [HL.out]; exact hlt)
        have hst := fun (w' : World) (h : Below wA.heap.size wA w') => hst0.block ((h.block gb (by omega)).trans (HB0.out.block gb hgb))
        have hso := hst0.w_src
        have hto := hst0.w_now
        subst ha
        have hd := hst _ hB.bel
        have c1 := hd.c1
        have c2 := hd.c2
        have c3 := hd.c3
        have TP := fun w' (h : Both wA w' r b Bm Mp Rm k M M) => both_take_p h (by omega) hso hto
        have TR := fun w' (h : Both wA w' r b Bm Mp Rm (k + 1) (takeL r b M s.src s.now) M) => both_take_r h hso hto
        have HTP := Lib.hid TP
        have HTR := Lib.hid TR
        have HST := Lib.hid hst
        have hBd := hB.dr
        clear TP TR hst hd hst0 hB
        generalize takeL r b M s.src s.now = M' at *
        have C1 := fun w' h => (HST.out w' h).c1
        have C2 := fun w' h => (HST.out w' h).c2
        have C3 := fun w' h => (HST.out w' h).c3
        have HC1 := Lib.hid C1
        have HC2 := Lib.hid C2
        have HC3 := Lib.hid C3
        clear C1 C2 C3
        go_wp2_with fail
        go_region_held3 (fun w' => w'.cell? ⟨gb, off + k * 4 + 1, none⟩ = some (.int .u64 s.src.1) ∧ w'.cell? ⟨gb, off + k * 4 + 2, none⟩ = some (.int .u64 s.src.2) ∧ w'.cell? ⟨gb, off + k * 4 + 3, none⟩ = some (.int .i64 s.now))
          (first | exact ⟨c1, c2, c3⟩ | exact ⟨HC1.out _ hB5.bel, HC2.out _ hB5.bel, HC3.out _ hB5.bel⟩)
          (first
            | (go_at_call 10; refine (HTP.out _ hBd).mono ?_; rintro e w5 ⟨rfl, hB5⟩))
        go_wp2_with fail
        have d1 := HC1.out _ hB5.bel
        have d2 := HC2.out _ hB5.bel
        have d3 := HC3.out _ hB5.bel
        have hB5d := hB5.dr
        clear c1 c2 c3
        go_region_held3 (fun w' => w'.cell? ⟨gb, off + k * 4 + 1, none⟩ = some (.int .u64 s.src.1) ∧ w'.cell? ⟨gb, off + k * 4 + 2, none⟩ = some (.int .u64 s.src.2) ∧ w'.cell? ⟨gb, off + k * 4 + 3, none⟩ = some (.int .i64 s.now))
          (first | exact ⟨d1, d2, d3⟩ | exact ⟨HC1.out _ hB6.bel, HC2.out _ hB6.bel, HC3.out _ hB6.bel⟩)
          (first
            | (go_at_call 11; refine (HTR.out _ hB5d).mono ?_; rintro e w6 ⟨rfl, hB6⟩))
        go_wp2_with fail
        go_roundw
        case rel => exact ⟨k + 1, M', by omega, by go_num, hB6⟩
        case measure => simp [intOf]; omega
      · have hQ := fun (w' : World) (h : Below wA.heap.size wA w') => (h.block w.heap.size hz0).trans HQ0.out
        have HQ := Lib.hid hQ
        have hq := hQ _ hB.bel
        have s0 := cell_of_row _ w.heap.size 0 _ _ _ hq
        have s1 := cell_of_row _ w.heap.size 1 _ _ _ hq
        obtain ⟨ra, rc, cr⟩ := hB.len_r
        have hln := hB.ln.1
        have BR := fun d os => hB.below (below_regrown wr d os)
        have HBR := Lib.hid BR
        have HASP := fun w' (h : Both wA w' r b Bm Mp Rm k M M) => both_has_p h hsrc
        have HASR := fun w' (h : Both wA w' r b Bm Mp Rm k M M) => both_has_r h hsrc
        have LENP := fun w' (h : Both wA w' r b Bm Mp Rm k M M) => both_len_p h
        have TP := fun w' (h : Both wA w' r b Bm Mp Rm k M M) => both_take_p h (by omega) hsrc hnow
        have TOK := fun w' (h : Both wA w' r b Bm Mp Rm (k + 1) (takeL r b M src now) M) => both_tok_p h hsrc hnow
        have LENT := fun w' (h : Both wA w' r b Bm Mp Rm (k + 1) (takeL r b M src now) M) => both_len_p h
        have HHASP := Lib.hid HASP
        have HLENT := Lib.hid LENT
        have HTP := Lib.hid TP
        have HTOK := Lib.hid TOK
        have k_s0 := cell_regrown s0
        have k_s1 := cell_regrown s1
        have k_cr := cell_regrown cr
        have qh1 := fun d os => Calls.regrown_of (HASP _ (HBR.out d os))
        have qh2 := fun d os => Calls.regrown_of (HASR _ (HBR.out d os))
        have ql := fun d os => Calls.regrown_of ((LENP _ (HBR.out d os)).mono (fun e w' (h : _ ∧ _) => ⟨h.1, h.2 ▸ Below.refl _ _⟩))
        clear HASP HASR LENP TP TOK LENT BR s0 s1 cr hQ hq hB
        generalize hh : hasP M src = hp at *
        have HH := Lib.hid hh
        clear hh
        rcases hp with _ | _
        · rcases hR : takeR M src now with _ | _
          · obtain ⟨n1, n2, n3, n4⟩ := take_no (r := r) (b := b) hR
            have n5 : (takeL r b M src now).length = 32 := by omega
            have HN := Lib.hid (And.intro (And.intro hR n3) n5)
            clear hR n1 n2 n3 n4 n5
            go_wp2_with fail
            refine wp_region_quiet_below (by kernel_rfl) (by kernel_rfl) ?_
            repeat (first | go_big_quiet_skip | quiet_step (first | (go_at_call 12; with_reducible exact qh1 _ _) | (go_at_call 13; with_reducible exact qh2 _ _) | (go_at_call 14; with_reducible exact ql _ _)))
            refine wpQuiet_nil ?_
            intro _ hw'
            obtain ⟨⟨dq, osq⟩, hw''⟩ := hw'
            subst hw''
            have hB7 := HBR.out dq osq
            clear qh1 qh2 ql k_s0 k_s1 k_cr HBR
            generalize Go.Sort.grow (redrawn wr dq) osq = w7 at *
            have hq7 := HQ.out _ hB7.bel
            have t0 := cell_of_row _ w.heap.size 0 _ _ _ hq7
            have t1 := cell_of_row _ w.heap.size 1 _ _ _ hq7
            have hH7 := HHASP.out _ hB7
            clear hq7
            go_wp2_with (first
              | (go_at_call 12; refine hH7.mono ?_; rintro e w8 ⟨rfl, b8⟩; have hB8 := hB7.below b8; have hq8 := HQ.out _ hB8.bel; have v0 := cell_of_row _ w.heap.size 0 _ _ _ hq8; have v1 := cell_of_row _ w.heap.size 1 _ _ _ hq8; clear hq8)
              | (go_at_call 10; refine (HTP.out _ hB8).mono ?_; rintro e w9 ⟨he9, hB9⟩; rw [HN.out.1.1, HN.out.1.2] at he9; subst he9; have hL9 := HLENT.out _ hB9; rw [HN.out.2] at hL9)
              | (go_at_call 14; refine hL9.mono ?_; rintro e w10 ⟨rfl, rfl⟩))
            go_ret
            exact ⟨rfl, HB0.out.trans (hB9.bel.mono (by omega))⟩
          · have hT := tok_take (r := r) (b := b) HH.out hR
            have HN := Lib.hid (And.intro hR hT)
            have hrn := fun w => rnew_any r b now w
            clear hR hT
            go_wp2_with fail
            refine wp_region_quiet_below (by kernel_rfl) (by kernel_rfl) ?_
            repeat (first | go_big_quiet_skip | quiet_step (first | (go_at_call 12; with_reducible exact qh1 _ _) | (go_at_call 13; with_reducible exact qh2 _ _) | (go_at_call 14; with_reducible exact ql _ _)))
            refine wpQuiet_nil ?_
            intro _ hw'
            obtain ⟨⟨dq, osq⟩, hw''⟩ := hw'
            subst hw''
            have hB7 := HBR.out dq osq
            clear qh1 qh2 ql k_s0 k_s1 k_cr HBR
            generalize Go.Sort.grow (redrawn wr dq) osq = w7 at *
            have hq7 := HQ.out _ hB7.bel
            have t0 := cell_of_row _ w.heap.size 0 _ _ _ hq7
            have t1 := cell_of_row _ w.heap.size 1 _ _ _ hq7
            have hH7 := HHASP.out _ hB7
            clear hq7
            go_wp2_with (first
              | (go_at_call 12; refine hH7.mono ?_; rintro e w8 ⟨rfl, b8⟩; have hB8 := hB7.below b8; have hq8 := HQ.out _ hB8.bel; have v0 := cell_of_row _ w.heap.size 0 _ _ _ hq8; have v1 := cell_of_row _ w.heap.size 1 _ _ _ hq8; clear hq8)
              | (go_at_call 10; refine (HTP.out _ hB8).mono ?_; rintro e w9 ⟨he9, hB9⟩; rw [HN.out.1, HN.out.2.2] at he9; subst he9; have hL9 := HTOK.out _ hB9; rw [HN.out.2.1] at hL9; have hq9 := HQ.out _ hB9.bel; have u0 := cell_of_row _ w.heap.size 0 _ _ _ hq9; have u1 := cell_of_row _ w.heap.size 1 _ _ _ hq9)
              | (go_at_call 15; refine hL9.mono ?_; rintro e w10 ⟨rfl, hB10⟩)
              | (go_at_call 16; refine (hrn _).mono ?_; rintro e w11 ⟨rfl, hk11, hb11, _⟩; have hcb := hk11.cb))
            go_ret
            exact ⟨ret_bool (by simp [newP]; exact (IntWalk.wrap64_in _ ⟨by omega, by omega⟩).symm), HB0.out.trans ((hB10.bel.trans (hb11.mono hB10.bel.size)).mono (by omega))⟩
        · go_wp2_with fail
          refine wp_region_quiet_below (by kernel_rfl) (by kernel_rfl) ?_
          repeat (first | go_big_quiet_skip | quiet_step (first | (go_at_call 12; with_reducible exact qh1 _ _) | (go_at_call 13; with_reducible exact qh2 _ _) | (go_at_call 14; with_reducible exact ql _ _)))
          refine wpQuiet_nil ?_
          intro _ hw'
          obtain ⟨⟨dq, osq⟩, hw''⟩ := hw'
          subst hw''
          have hB7 := HBR.out dq osq
          clear qh1 qh2 ql k_s0 k_s1 k_cr HBR
          generalize Go.Sort.grow (redrawn wr dq) osq = w7 at *
          have hq7 := HQ.out _ hB7.bel
          have t0 := cell_of_row _ w.heap.size 0 _ _ _ hq7
          have t1 := cell_of_row _ w.heap.size 1 _ _ _ hq7
          have hH7 := HHASP.out _ hB7
          clear hq7
          go_wp2_with (go_at_call 12; refine hH7.mono ?_; rintro e w8 ⟨rfl, b8⟩; have hB8 := hB7.below b8; have hq8 := HQ.out _ hB8.bel; have v0 := cell_of_row _ w.heap.size 0 _ _ _ hq8; have v1 := cell_of_row _ w.heap.size 1 _ _ _ hq8; clear hq8)
          go_ret
          exact ⟨rfl, HB0.out.trans (hB8.bel.mono (by omega))⟩
end Go.Proofs.Ytpkmloanbddefaa
