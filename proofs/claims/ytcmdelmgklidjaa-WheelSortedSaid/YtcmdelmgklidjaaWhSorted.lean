/- WheelSorted's walk; by-name template (gen_whsorted.py). -/
import Derived.Test.YtcmdelmgklidjaaWhSm
namespace Go.Proofs.Ytcmdelmgklidjaa
open Go.RowKit Go.Lib Go.Maps
set_option linter.unusedVariables false
set_option linter.unusedSimpArgs false

theorem LMap.mono {w : World} {Mp k k' : Nat} {L : List K2} (h : LMap w Mp k L) (hk : k ≤ k') : LMap w Mp k' L := by
  obtain ⟨D, h1, h2⟩ := h
  exact ⟨D, h1.mono hk, h2⟩
theorem Sm.mono {w0 w : World} {Bw Mp k k' : Nat} {L K : List K2} (h : Sm w0 w Bw Mp k L K) (hk : k ≤ k') : Sm w0 w Bw Mp k' L K :=
  ⟨h.ex, h.mp.mono hk, h.lo, h.ok, h.bl⟩

set_option maxHeartbeats 8000000 in
set_option maxRecDepth 100000 in
theorem sorted_walk {a1 a2 : Option Addr} {Z Y : List Int} (cap1 cap2 : Nat) (now : Int) {w : World} (h : IntsAt w a1 Z) (h' : IntsAt w a2 Y) :
    Calls Try.prog 7 #[.slice a1 Z.length cap1, .slice a2 Y.length cap2, .int .i64 now] w fun e w' => e = .returned (.bool true) ∧ Below w.heap.size w w' := by
  have hl := h.1
  have hl' := h'.1
  have HS := Lib.hid h
  have HS' := Lib.hid h'
  clear h h'
  obtain ⟨m, hm⟩ : ∃ m, m = min Z.length Y.length := ⟨_, rfl⟩
  have hmn : m ≤ Z.length := by omega
  have hmy : m ≤ Y.length := by omega
  have hmm : m = Z.length ∨ m = Y.length := by omega
  clear hm
  generalize hlen : Z.length = n at *
  generalize hlen' : Y.length = n' at *
  have HL := Lib.hid (And.intro hlen hlen')
  clear hlen hlen'
  by_cases hbig : 4096 < n
  · go_enter Try.func7, Try.ntmps7
    go_wp2
    go_ret
    exact ⟨rfl, Below.refl _ _⟩
  · have hnew := fun w => new_wheel w
    have hmk := @run_makeMap Try.prog
    go_enter Try.func7, Try.ntmps7
    go_upto_region 5 with (go_at_call 8; refine (hnew _).mono ?_; rintro e w1 ⟨Bw, rfl, hp1, b1⟩)
    have hboth := sm_new hp1 b1
    clear hnew hp1 b1 hmk
    generalize w1.heap.size = Mp at *
    go_wp2_with fail
    go_loopw [9] (fun c wr => ∃ (k kk : Nat) (L : List K2), k ≤ m ∧ kk ≤ k ∧ c = .int .i64 (k : Int) ∧ Sm w wr Bw Mp kk L L) (fun c _ => m - (intOf c).toNat)
    case atStart => exact ⟨0, 0, [], by omega, by omega, rfl, hboth⟩
    case round =>
      clear hboth
      obtain ⟨k, kk, L, hk, hkk, rfl, hB⟩ := hrel
      by_cases hlt : k < m
      · obtain ⟨gb, off, ha, c0, hzo⟩ := getD_at HS.out hB.bl (k := k) (by rw [HL.out.1]; omega)
        obtain ⟨gb', off', ha', c1, hyo⟩ := getD_at HS'.out hB.bl (k := k) (by rw [HL.out.2]; omega)
        subst ha
        subst ha'
        have hS := fun w' (b : Below wr.heap.size wr w') => sm_set (hB.below b) hzo (t := Y.getD k 0)
        have HSA := Lib.hid hS
        have hUM := hB.uid
        have hL256 := hB.lenL
        have ltI : (k : Int) < (n : Int) := by omega
        have ltI' : (k : Int) < (n' : Int) := by omega
        have dI : decide (k < n) = true := by simp; omega
        have dI' : decide (k < n') = true := by simp; omega
        have hbd := bel_dr (Below.refl wr.heap.size wr)
        have HC := Lib.hid (fun w' (b : Below w.heap.size w w') => And.intro (getD_at HS.out b (k := k) (by rw [HL.out.1]; omega)) (getD_at HS'.out b (k := k) (by rw [HL.out.2]; omega)))
        clear hB hS
        generalize Z.getD k 0 = z at *
        generalize Y.getD k 0 = y at *
        by_cases hfull : hasP L z = true ∨ L.length ≠ 256
        · have hr0 : setR L z = 0 := by
            unfold setR
            split
            · rfl
            · rename_i hh
              rw [if_neg (hfull.resolve_left hh)]
          rw [hr0] at HSA
          have HPUT := Lib.hid (fun w' (h : Sm w w' Bw Mp kk (setP L z y) L) => sm_put h (by omega) hzo hyo hUM hfull)
          clear hfull hUM hr0 hzo hyo hL256
          generalize setP L z y = L' at *
          go_wp2_with fail
          go_still_tail 9, (by kernel_rfl)
          change wpList _ _ _ _ _ wr.drew
          go_upto_region 10 with (go_at_call 9; refine (HSA.out _ hbd).mono ?_; rintro e w5 ⟨rfl, hB5⟩; obtain ⟨⟨g2, o2, e2, c0', _⟩, g3, o3, e3, c1', _⟩ := HC.out _ hB5.bl; cases e2; cases e3)
          obtain ⟨w6, hr6, hB6⟩ := HPUT.out _ hB5.dr
          have hLen := sm_len hB6
          have hl6 := hB6.lenL
          have HB6 := Lib.hid hB6
          obtain ⟨D, hd1, _, _, hd4⟩ := hB6.mp
          have HD4 := Lib.hid hd4
          clear hB5 hB6 HPUT HSA HC c0 c1 hd4 hbd
          go_region
          all_goals
            go_wp2_with (first
              | (go_at_call 11; refine hLen.mono ?_; rintro e w7 ⟨rfl, rfl⟩)
              | (at_len; refine wpList_len_own _ rfl _ 43 rfl 3 3 Try.underlying43 _ Mp _ D rfl hd1 ?_; rw [HD4.out]))
            go_roundw
            case rel => exact ⟨k + 1, kk + 1, _, by omega, by omega, by go_num, HB6.out⟩
            case measure => first | (simp [intOf]; omega) | simp [intOf]
        · have hh : hasP L z = false := by
            rcases hb : hasP L z with _ | _
            · rfl
            · exact absurd (.inl hb) hfull
          have h256 : L.length = 256 := by
            apply Classical.byContradiction
            intro q
            exact hfull (.inr q)
          have hr0 : setR L z = 120 := by
            unfold setR
            rw [if_neg (by rw [hh]; simp), if_pos h256]
          have hs0 : setP L z y = L := by
            unfold setP
            rw [if_neg (by rw [hh]; simp), if_pos h256]
          rw [hr0, hs0] at HSA
          clear hfull hUM hr0 hs0 hzo hyo hL256 hh
          go_wp2_with fail
          go_still_tail 9, (by kernel_rfl)
          change wpList _ _ _ _ _ wr.drew
          go_upto_region 11 with (go_at_call 9; refine (HSA.out _ hbd).mono ?_; rintro e w5 ⟨rfl, hB5⟩)
          have hLen := sm_len hB5
          have HB6 := Lib.hid hB5
          obtain ⟨D, hd1, _, _, hd4⟩ := hB5.mp
          rw [h256] at hLen hd4
          have HD4 := Lib.hid hd4
          have H256 := Lib.hid h256
          clear hB5 HSA HC c0 c1 hd4 hbd h256
          go_wp2_with (first
            | (go_at_call 11; refine hLen.mono ?_; rintro e w7 ⟨rfl, rfl⟩)
            | (at_len; refine wpList_len_own _ rfl _ 43 rfl 3 3 Try.underlying43 _ Mp _ D rfl hd1 ?_; rw [HD4.out]))
          go_roundw
          case rel => exact ⟨k + 1, kk, L, by omega, by omega, by go_num, HB6.out⟩
          case measure => first | (simp [intOf]; omega) | simp [intOf]
      · have ek : k = m := by omega
        subst ek
        have hDue := sm_due hB (now := now)
        have hris := hB.ris
        have hok := hB.ok
        have hL256 := hB.lenL
        obtain ⟨Dn, t1, t2, t3, t4, t5⟩ := tw_spec (fun x : K2 => decide (x.2 ≤ now)) L
        have eD : dueP L now = (L.take Dn).map Prod.fst := by unfold dueP; rw [t1]
        have eL : lefP L now = L.drop Dn := t2
        have eDl : (dueP L now).length = Dn := by rw [eD, List.length_map, List.length_take]; omega
        rw [eDl, eL] at hDue
        have hsum : Dn + (L.drop Dn).length = L.length := by rw [List.length_drop]; omega
        have hDDi : ∀ i (hi : i < Dn), ∃ x, L[i]? = some x ∧ (dueP L now)[i]? = some x.1 ∧ x ∈ L ∧ x.2 ≤ now := fun i hi => by
          have hiL : i < L.length := by omega
          refine ⟨L[i], List.getElem?_eq_getElem hiL, ?_, List.getElem_mem hiL, of_decide_eq_true (t4 i _ hi (List.getElem?_eq_getElem hiL))⟩
          rw [eD, List.getElem?_map, List.getElem?_take, if_pos hi, List.getElem?_eq_getElem hiL]; rfl
        have hMx : ∀ x t, L.drop Dn = x :: t → now < x.2 ∧ x ∈ L := fun x t e => by
          have hx : L[Dn]? = some x := by
            have : (L.drop Dn)[0]? = some x := by rw [e]; rfl
            rw [List.getElem?_drop] at this; simpa using this
          have := of_decide_eq_false (t5 x hx)
          exact ⟨by omega, List.mem_of_getElem? hx⟩
        have hpair : ∀ i x y, L[i]? = some x → L[i + 1]? = some y → LtK x y := fun i x y hx hy => by
          obtain ⟨h1, e1⟩ := List.getElem?_eq_some_iff.1 hx
          obtain ⟨h2, e2⟩ := List.getElem?_eq_some_iff.1 hy
          have := List.pairwise_iff_getElem.1 hris i (i + 1) h1 h2 (by omega)
          rw [e1, e2] at this; exact this
        have HI := Lib.hid (And.intro hDDi (And.intro hMx (And.intro hpair hok)))
        clear hDDi hMx hpair hris hok hB t1 t2 t4 t5 eD eL eDl
        generalize dueP L now = DD at *
        generalize hMM : L.drop Dn = MM at *
        have HMM := Lib.hid hMM
        clear hMM
        rcases hmm with hmm | hmm
        · have dI : decide (k < n) = false := by simp; omega
          have ltI : ¬ (k : Int) < (n : Int) := by omega
          go_upto_region 15 with (go_at_call 12; refine hDue.mono ?_; rintro e w5 ⟨A5, c5, rfl, hR5, hB5⟩)
          clear dI ltI hDue

          have HSm := Lib.hid hB5
          have HR := Lib.hid hR5
          clear hB5 hR5
          go_loopw [12] (fun c wq => ∃ i : Nat, i ≤ Dn ∧ c = .int .i64 (i : Int) ∧ Below w5.heap.size w5 wq) (fun c _ => Dn - (intOf c).toNat)
          case atStart => exact ⟨0, by omega, by first | rfl | simp, Below.refl _ _⟩
          case round =>
            obtain ⟨i, hi, rfl, hb⟩ := hrel
            have hBq := HSm.out.below hb
            have hRq := HR.out.keep hb
            by_cases hiD : i < Dn
            · obtain ⟨x, hx, hdx, hxm, hxn⟩ := HI.out.1 i hiD
              obtain ⟨b, off, rfl, hbl, hrow⟩ := hRq.row (by omega)
              have r0 := hrow i x.1 hdx 0 _ rfl
              simp only [Nat.mul_one, Nat.add_zero] at r0
              have hiI : (i : Int) < (Dn : Int) := by omega
              have diD : decide (i < Dn) = true := by simp [hiD]
              have hlk := lmap_ok hBq.mp hxm (HI.out.2.2.2 x hxm)
              have dnx : decide (now < x.2) = false := by simp; omega
              rcases Nat.eq_zero_or_pos i with hi0 | hi0
              · subst hi0
                simp only [Nat.add_zero] at r0
                clear hBq hRq hrow hxm hx hdx
                unfold vI at r0
                generalize x.1 = xi at *
                generalize x.2 = xt at *
                go_wp2_with fail
                go_quiet (fail)
                go_wp2_with fail
                go_roundw
                case rel => exact ⟨1, by omega, by first | rfl | go_num, bel_dn hb _⟩
                case measure => first | (simp [intOf]; omega) | simp [intOf]
              · obtain ⟨j, hj⟩ : ∃ j, i = j + 1 := ⟨i - 1, by omega⟩
                obtain ⟨p, hp, hdp, hpm, hpn⟩ := HI.out.1 j (by omega)
                have hlt2 := HI.out.2.2.1 j p x hp (by rw [← hj]; exact hx)
                have rp := hrow j p.1 hdp 0 _ rfl
                simp only [Nat.mul_one, Nat.add_zero] at rp
                have hlp := fun n => lmap_one (hBq.below (bel_dn (Below.refl wr.heap.size wr) n)).mp hpm (HI.out.2.2.2 p hpm)
                have hjI : (j : Int) < (Dn : Int) := by omega
                have djD : decide (j < Dn) = true := by simp; omega
                have ej : (i : Int) - 1 = (j : Int) := by omega
                have i0I : (0 : Int) < (i : Int) := by omega
                have di0 : decide (0 < i) = true := by simp; omega
                have HJ := Lib.hid hj
                clear hBq hRq hrow hxm hx hdx hp hdp hpm hj
                unfold vI at r0 rp
                unfold LtK at hlt2
                generalize x.1 = xi at *
                generalize x.2 = xt at *
                generalize p.1 = pi at *
                generalize p.2 = pt at *
                by_cases hpe : pt = xt
                · subst hpe
                  have d1 : decide (xi ≤ pi) = false := by simp; omega
                  have d1I : ¬ xi ≤ pi := by omega
                  go_wp2_with fail
                  go_quiet (fail)
                  go_wp2_with fail
                  go_roundw
                  case rel => exact ⟨i + 1, by omega, by go_num, bel_dn hb _⟩
                  case measure => first | (simp [intOf]; omega) | simp [intOf]
                · have d2 : decide (xt < pt) = false := by simp; omega
                  have d3 : (pt == xt) = false := by simpa using hpe
                  have d2I : ¬ xt < pt := by omega
                  go_wp2_with fail
                  go_quiet (fail)
                  go_wp2_with fail
                  go_roundw
                  case rel => exact ⟨i + 1, by omega, by go_num, bel_dn hb _⟩
                  case measure => first | (simp [intOf]; omega) | simp [intOf]
            · have ei : i = Dn := by omega
              subst ei
              have diD : decide (i < i) = false := by simp
              have hiI : ¬ (i : Int) < (i : Int) := by omega
              have hNx := sm_next hBq
              have HLn := Lib.hid (fun w' (b : Below wr.heap.size wr w') => sm_len (hBq.below b))
              have HMp := Lib.hid (fun w' (b : Below wr.heap.size wr w') => (hBq.below b).mp)
              have HBl := Lib.hid (fun w' (b : Below wr.heap.size wr w') => (hBq.below b).bl)
              cases MM with
              | nil =>
                have hs0 : i + 0 = L.length := hsum
                have hsI : (i : Int) + 0 = (L.length : Int) := by omega
                have hsI2 : (i : Int) = (L.length : Int) := by omega
                have HSI := Lib.hid hsI2
                have hNx2 : Calls Try.prog 17 #[.pointer (some ⟨Bw, 0, none⟩)] wr fun e w' => e = .returned (.tuple #[.int .i64 0, .int .i64 0, .bool false]) ∧ Below wr.heap.size wr w' ∧ (Builtin.len_ #[43] 3 #[.map (some Mp)]).run Try.prog w' = .ok (.int .i64 (i : Int)) w' :=
                  hNx.mono fun e w' ⟨he, hb'⟩ => ⟨he, hb', by have q := sm_maplen (hBq.below hb') 3; rw [show (L.length : Int) = (i : Int) by omega] at q; exact q⟩
                clear hNx hBq hRq hsI hsI2 hs0 hsum
                go_wp2_with (first
                  | (go_at_call 17; refine hNx2.mono ?_; rintro e w6 ⟨rfl, b6, hml⟩; have hLen := HLn.out _ b6)
                  | (go_at_call 11; refine hLen.mono ?_; rintro e w7 ⟨rfl, rfl⟩))
                first | exact ⟨rfl, HBl.out _ b6⟩ | (go_ret; exact ⟨rfl, HBl.out _ b6⟩)
              | cons x t =>
                obtain ⟨hxn, hxm⟩ := HI.out.2.1 x t rfl
                have hxo := HI.out.2.2.2 x hxm
                obtain ⟨q, hq⟩ : ∃ q, q = (x :: t).length := ⟨_, rfl⟩
                have hq0 : 0 < q := by rw [hq, List.length_cons]; omega
                rw [← hq] at hsum
                have hNx2 : Calls Try.prog 17 #[.pointer (some ⟨Bw, 0, none⟩)] wr fun e w' => e = .returned (.tuple #[.int .i64 x.1, .int .i64 x.2, .bool true]) ∧ Below wr.heap.size wr w' ∧ (Builtin.len_ #[43] 3 #[.map (some Mp)]).run Try.prog w' = .ok (.int .i64 ((i : Int) + (q : Int))) w' :=
                  hNx.mono fun e w' ⟨he, hb'⟩ => ⟨he, hb', by have q5 := sm_maplen (hBq.below hb') 3; rw [show (L.length : Int) = (i : Int) + (q : Int) by omega] at q5; exact q5⟩
                have HLK := Lib.hid (fun w' (b : Below wr.heap.size wr w') => lmap_one (HMp.out w' b) hxm hxo)
                have HLn2 : Hid (∀ w', Below wr.heap.size wr w' → Calls Try.prog 11 #[.pointer (some ⟨Bw, 0, none⟩)] w' fun e w'' => e = .returned (.int .i64 (q : Int)) ∧ w' = w'') := Lib.hid (by intro w' b; rw [hq]; exact HLn.out w' b)
                have hqI : (0 : Int) < (q : Int) := by omega
                have dq : decide (0 < q) = true := by simp [hq0]
                have dnx : decide (now < x.2) = true := by simp [hxn]
                have esum : ((i + q : Nat) : Int) = (i : Int) + (q : Int) := by omega
                have hq256 : q ≤ 256 := by omega
                have hi256 : i ≤ 256 := by omega
                clear hNx hBq hRq HLn hxm hxo hq hsum
                generalize x.1 = xi at *
                generalize x.2 = xt at *
                go_wp2_with (first
                  | (go_at_call 17; refine hNx2.mono ?_; rintro e w6 ⟨rfl, b6, hml⟩; have hLen := HLn2.out _ b6; have hlk := HLK.out _ b6)
                  | (go_at_call 11; refine hLen.mono ?_; rintro e w7 ⟨rfl, rfl⟩))
                first | exact ⟨rfl, HBl.out _ b6⟩ | (go_ret; exact ⟨rfl, HBl.out _ b6⟩)
        · by_cases hnn : k < n
          · have dI : decide (k < n) = true := by simp; omega
            have ltI : (k : Int) < (n : Int) := by omega
            have dI' : decide (k < n') = false := by simp; omega
            have ltI' : ¬ (k : Int) < (n' : Int) := by omega
            go_upto_region 15 with (go_at_call 12; refine hDue.mono ?_; rintro e w5 ⟨A5, c5, rfl, hR5, hB5⟩)
            clear dI ltI hDue

            have HSm := Lib.hid hB5
            have HR := Lib.hid hR5
            clear hB5 hR5
            go_loopw [12] (fun c wq => ∃ i : Nat, i ≤ Dn ∧ c = .int .i64 (i : Int) ∧ Below w5.heap.size w5 wq) (fun c _ => Dn - (intOf c).toNat)
            case atStart => exact ⟨0, by omega, by first | rfl | simp, Below.refl _ _⟩
            case round =>
              obtain ⟨i, hi, rfl, hb⟩ := hrel
              have hBq := HSm.out.below hb
              have hRq := HR.out.keep hb
              by_cases hiD : i < Dn
              · obtain ⟨x, hx, hdx, hxm, hxn⟩ := HI.out.1 i hiD
                obtain ⟨b, off, rfl, hbl, hrow⟩ := hRq.row (by omega)
                have r0 := hrow i x.1 hdx 0 _ rfl
                simp only [Nat.mul_one, Nat.add_zero] at r0
                have hiI : (i : Int) < (Dn : Int) := by omega
                have diD : decide (i < Dn) = true := by simp [hiD]
                have hlk := lmap_ok hBq.mp hxm (HI.out.2.2.2 x hxm)
                have dnx : decide (now < x.2) = false := by simp; omega
                rcases Nat.eq_zero_or_pos i with hi0 | hi0
                · subst hi0
                  simp only [Nat.add_zero] at r0
                  clear hBq hRq hrow hxm hx hdx
                  unfold vI at r0
                  generalize x.1 = xi at *
                  generalize x.2 = xt at *
                  go_wp2_with fail
                  go_quiet (fail)
                  go_wp2_with fail
                  go_roundw
                  case rel => exact ⟨1, by omega, by first | rfl | go_num, bel_dn hb _⟩
                  case measure => first | (simp [intOf]; omega) | simp [intOf]
                · obtain ⟨j, hj⟩ : ∃ j, i = j + 1 := ⟨i - 1, by omega⟩
                  obtain ⟨p, hp, hdp, hpm, hpn⟩ := HI.out.1 j (by omega)
                  have hlt2 := HI.out.2.2.1 j p x hp (by rw [← hj]; exact hx)
                  have rp := hrow j p.1 hdp 0 _ rfl
                  simp only [Nat.mul_one, Nat.add_zero] at rp
                  have hlp := fun n => lmap_one (hBq.below (bel_dn (Below.refl wr.heap.size wr) n)).mp hpm (HI.out.2.2.2 p hpm)
                  have hjI : (j : Int) < (Dn : Int) := by omega
                  have djD : decide (j < Dn) = true := by simp; omega
                  have ej : (i : Int) - 1 = (j : Int) := by omega
                  have i0I : (0 : Int) < (i : Int) := by omega
                  have di0 : decide (0 < i) = true := by simp; omega
                  have HJ := Lib.hid hj
                  clear hBq hRq hrow hxm hx hdx hp hdp hpm hj
                  unfold vI at r0 rp
                  unfold LtK at hlt2
                  generalize x.1 = xi at *
                  generalize x.2 = xt at *
                  generalize p.1 = pi at *
                  generalize p.2 = pt at *
                  by_cases hpe : pt = xt
                  · subst hpe
                    have d1 : decide (xi ≤ pi) = false := by simp; omega
                    have d1I : ¬ xi ≤ pi := by omega
                    go_wp2_with fail
                    go_quiet (fail)
                    go_wp2_with fail
                    go_roundw
                    case rel => exact ⟨i + 1, by omega, by go_num, bel_dn hb _⟩
                    case measure => first | (simp [intOf]; omega) | simp [intOf]
                  · have d2 : decide (xt < pt) = false := by simp; omega
                    have d3 : (pt == xt) = false := by simpa using hpe
                    have d2I : ¬ xt < pt := by omega
                    go_wp2_with fail
                    go_quiet (fail)
                    go_wp2_with fail
                    go_roundw
                    case rel => exact ⟨i + 1, by omega, by go_num, bel_dn hb _⟩
                    case measure => first | (simp [intOf]; omega) | simp [intOf]
              · have ei : i = Dn := by omega
                subst ei
                have diD : decide (i < i) = false := by simp
                have hiI : ¬ (i : Int) < (i : Int) := by omega
                have hNx := sm_next hBq
                have HLn := Lib.hid (fun w' (b : Below wr.heap.size wr w') => sm_len (hBq.below b))
                have HMp := Lib.hid (fun w' (b : Below wr.heap.size wr w') => (hBq.below b).mp)
                have HBl := Lib.hid (fun w' (b : Below wr.heap.size wr w') => (hBq.below b).bl)
                cases MM with
                | nil =>
                  have hs0 : i + 0 = L.length := hsum
                  have hsI : (i : Int) + 0 = (L.length : Int) := by omega
                  have hsI2 : (i : Int) = (L.length : Int) := by omega
                  have HSI := Lib.hid hsI2
                  have hNx2 : Calls Try.prog 17 #[.pointer (some ⟨Bw, 0, none⟩)] wr fun e w' => e = .returned (.tuple #[.int .i64 0, .int .i64 0, .bool false]) ∧ Below wr.heap.size wr w' ∧ (Builtin.len_ #[43] 3 #[.map (some Mp)]).run Try.prog w' = .ok (.int .i64 (i : Int)) w' :=
                    hNx.mono fun e w' ⟨he, hb'⟩ => ⟨he, hb', by have q := sm_maplen (hBq.below hb') 3; rw [show (L.length : Int) = (i : Int) by omega] at q; exact q⟩
                  clear hNx hBq hRq hsI hsI2 hs0 hsum
                  go_wp2_with (first
                    | (go_at_call 17; refine hNx2.mono ?_; rintro e w6 ⟨rfl, b6, hml⟩; have hLen := HLn.out _ b6)
                    | (go_at_call 11; refine hLen.mono ?_; rintro e w7 ⟨rfl, rfl⟩))
                  first | exact ⟨rfl, HBl.out _ b6⟩ | (go_ret; exact ⟨rfl, HBl.out _ b6⟩)
                | cons x t =>
                  obtain ⟨hxn, hxm⟩ := HI.out.2.1 x t rfl
                  have hxo := HI.out.2.2.2 x hxm
                  obtain ⟨q, hq⟩ : ∃ q, q = (x :: t).length := ⟨_, rfl⟩
                  have hq0 : 0 < q := by rw [hq, List.length_cons]; omega
                  rw [← hq] at hsum
                  have hNx2 : Calls Try.prog 17 #[.pointer (some ⟨Bw, 0, none⟩)] wr fun e w' => e = .returned (.tuple #[.int .i64 x.1, .int .i64 x.2, .bool true]) ∧ Below wr.heap.size wr w' ∧ (Builtin.len_ #[43] 3 #[.map (some Mp)]).run Try.prog w' = .ok (.int .i64 ((i : Int) + (q : Int))) w' :=
                    hNx.mono fun e w' ⟨he, hb'⟩ => ⟨he, hb', by have q5 := sm_maplen (hBq.below hb') 3; rw [show (L.length : Int) = (i : Int) + (q : Int) by omega] at q5; exact q5⟩
                  have HLK := Lib.hid (fun w' (b : Below wr.heap.size wr w') => lmap_one (HMp.out w' b) hxm hxo)
                  have HLn2 : Hid (∀ w', Below wr.heap.size wr w' → Calls Try.prog 11 #[.pointer (some ⟨Bw, 0, none⟩)] w' fun e w'' => e = .returned (.int .i64 (q : Int)) ∧ w' = w'') := Lib.hid (by intro w' b; rw [hq]; exact HLn.out w' b)
                  have hqI : (0 : Int) < (q : Int) := by omega
                  have dq : decide (0 < q) = true := by simp [hq0]
                  have dnx : decide (now < x.2) = true := by simp [hxn]
                  have esum : ((i + q : Nat) : Int) = (i : Int) + (q : Int) := by omega
                  have hq256 : q ≤ 256 := by omega
                  have hi256 : i ≤ 256 := by omega
                  clear hNx hBq hRq HLn hxm hxo hq hsum
                  generalize x.1 = xi at *
                  generalize x.2 = xt at *
                  go_wp2_with (first
                    | (go_at_call 17; refine hNx2.mono ?_; rintro e w6 ⟨rfl, b6, hml⟩; have hLen := HLn2.out _ b6; have hlk := HLK.out _ b6)
                    | (go_at_call 11; refine hLen.mono ?_; rintro e w7 ⟨rfl, rfl⟩))
                  first | exact ⟨rfl, HBl.out _ b6⟩ | (go_ret; exact ⟨rfl, HBl.out _ b6⟩)
          · have dI : decide (k < n) = false := by simp; omega
            have ltI : ¬ (k : Int) < (n : Int) := by omega
            go_upto_region 15 with (go_at_call 12; refine hDue.mono ?_; rintro e w5 ⟨A5, c5, rfl, hR5, hB5⟩)
            clear dI ltI hDue

            have HSm := Lib.hid hB5
            have HR := Lib.hid hR5
            clear hB5 hR5
            go_loopw [12] (fun c wq => ∃ i : Nat, i ≤ Dn ∧ c = .int .i64 (i : Int) ∧ Below w5.heap.size w5 wq) (fun c _ => Dn - (intOf c).toNat)
            case atStart => exact ⟨0, by omega, by first | rfl | simp, Below.refl _ _⟩
            case round =>
              obtain ⟨i, hi, rfl, hb⟩ := hrel
              have hBq := HSm.out.below hb
              have hRq := HR.out.keep hb
              by_cases hiD : i < Dn
              · obtain ⟨x, hx, hdx, hxm, hxn⟩ := HI.out.1 i hiD
                obtain ⟨b, off, rfl, hbl, hrow⟩ := hRq.row (by omega)
                have r0 := hrow i x.1 hdx 0 _ rfl
                simp only [Nat.mul_one, Nat.add_zero] at r0
                have hiI : (i : Int) < (Dn : Int) := by omega
                have diD : decide (i < Dn) = true := by simp [hiD]
                have hlk := lmap_ok hBq.mp hxm (HI.out.2.2.2 x hxm)
                have dnx : decide (now < x.2) = false := by simp; omega
                rcases Nat.eq_zero_or_pos i with hi0 | hi0
                · subst hi0
                  simp only [Nat.add_zero] at r0
                  clear hBq hRq hrow hxm hx hdx
                  unfold vI at r0
                  generalize x.1 = xi at *
                  generalize x.2 = xt at *
                  go_wp2_with fail
                  go_quiet (fail)
                  go_wp2_with fail
                  go_roundw
                  case rel => exact ⟨1, by omega, by first | rfl | go_num, bel_dn hb _⟩
                  case measure => first | (simp [intOf]; omega) | simp [intOf]
                · obtain ⟨j, hj⟩ : ∃ j, i = j + 1 := ⟨i - 1, by omega⟩
                  obtain ⟨p, hp, hdp, hpm, hpn⟩ := HI.out.1 j (by omega)
                  have hlt2 := HI.out.2.2.1 j p x hp (by rw [← hj]; exact hx)
                  have rp := hrow j p.1 hdp 0 _ rfl
                  simp only [Nat.mul_one, Nat.add_zero] at rp
                  have hlp := fun n => lmap_one (hBq.below (bel_dn (Below.refl wr.heap.size wr) n)).mp hpm (HI.out.2.2.2 p hpm)
                  have hjI : (j : Int) < (Dn : Int) := by omega
                  have djD : decide (j < Dn) = true := by simp; omega
                  have ej : (i : Int) - 1 = (j : Int) := by omega
                  have i0I : (0 : Int) < (i : Int) := by omega
                  have di0 : decide (0 < i) = true := by simp; omega
                  have HJ := Lib.hid hj
                  clear hBq hRq hrow hxm hx hdx hp hdp hpm hj
                  unfold vI at r0 rp
                  unfold LtK at hlt2
                  generalize x.1 = xi at *
                  generalize x.2 = xt at *
                  generalize p.1 = pi at *
                  generalize p.2 = pt at *
                  by_cases hpe : pt = xt
                  · subst hpe
                    have d1 : decide (xi ≤ pi) = false := by simp; omega
                    have d1I : ¬ xi ≤ pi := by omega
                    go_wp2_with fail
                    go_quiet (fail)
                    go_wp2_with fail
                    go_roundw
                    case rel => exact ⟨i + 1, by omega, by go_num, bel_dn hb _⟩
                    case measure => first | (simp [intOf]; omega) | simp [intOf]
                  · have d2 : decide (xt < pt) = false := by simp; omega
                    have d3 : (pt == xt) = false := by simpa using hpe
                    have d2I : ¬ xt < pt := by omega
                    go_wp2_with fail
                    go_quiet (fail)
                    go_wp2_with fail
                    go_roundw
                    case rel => exact ⟨i + 1, by omega, by go_num, bel_dn hb _⟩
                    case measure => first | (simp [intOf]; omega) | simp [intOf]
              · have ei : i = Dn := by omega
                subst ei
                have diD : decide (i < i) = false := by simp
                have hiI : ¬ (i : Int) < (i : Int) := by omega
                have hNx := sm_next hBq
                have HLn := Lib.hid (fun w' (b : Below wr.heap.size wr w') => sm_len (hBq.below b))
                have HMp := Lib.hid (fun w' (b : Below wr.heap.size wr w') => (hBq.below b).mp)
                have HBl := Lib.hid (fun w' (b : Below wr.heap.size wr w') => (hBq.below b).bl)
                cases MM with
                | nil =>
                  have hs0 : i + 0 = L.length := hsum
                  have hsI : (i : Int) + 0 = (L.length : Int) := by omega
                  have hsI2 : (i : Int) = (L.length : Int) := by omega
                  have HSI := Lib.hid hsI2
                  have hNx2 : Calls Try.prog 17 #[.pointer (some ⟨Bw, 0, none⟩)] wr fun e w' => e = .returned (.tuple #[.int .i64 0, .int .i64 0, .bool false]) ∧ Below wr.heap.size wr w' ∧ (Builtin.len_ #[43] 3 #[.map (some Mp)]).run Try.prog w' = .ok (.int .i64 (i : Int)) w' :=
                    hNx.mono fun e w' ⟨he, hb'⟩ => ⟨he, hb', by have q := sm_maplen (hBq.below hb') 3; rw [show (L.length : Int) = (i : Int) by omega] at q; exact q⟩
                  clear hNx hBq hRq hsI hsI2 hs0 hsum
                  go_wp2_with (first
                    | (go_at_call 17; refine hNx2.mono ?_; rintro e w6 ⟨rfl, b6, hml⟩; have hLen := HLn.out _ b6)
                    | (go_at_call 11; refine hLen.mono ?_; rintro e w7 ⟨rfl, rfl⟩))
                  first | exact ⟨rfl, HBl.out _ b6⟩ | (go_ret; exact ⟨rfl, HBl.out _ b6⟩)
                | cons x t =>
                  obtain ⟨hxn, hxm⟩ := HI.out.2.1 x t rfl
                  have hxo := HI.out.2.2.2 x hxm
                  obtain ⟨q, hq⟩ : ∃ q, q = (x :: t).length := ⟨_, rfl⟩
                  have hq0 : 0 < q := by rw [hq, List.length_cons]; omega
                  rw [← hq] at hsum
                  have hNx2 : Calls Try.prog 17 #[.pointer (some ⟨Bw, 0, none⟩)] wr fun e w' => e = .returned (.tuple #[.int .i64 x.1, .int .i64 x.2, .bool true]) ∧ Below wr.heap.size wr w' ∧ (Builtin.len_ #[43] 3 #[.map (some Mp)]).run Try.prog w' = .ok (.int .i64 ((i : Int) + (q : Int))) w' :=
                    hNx.mono fun e w' ⟨he, hb'⟩ => ⟨he, hb', by have q5 := sm_maplen (hBq.below hb') 3; rw [show (L.length : Int) = (i : Int) + (q : Int) by omega] at q5; exact q5⟩
                  have HLK := Lib.hid (fun w' (b : Below wr.heap.size wr w') => lmap_one (HMp.out w' b) hxm hxo)
                  have HLn2 : Hid (∀ w', Below wr.heap.size wr w' → Calls Try.prog 11 #[.pointer (some ⟨Bw, 0, none⟩)] w' fun e w'' => e = .returned (.int .i64 (q : Int)) ∧ w' = w'') := Lib.hid (by intro w' b; rw [hq]; exact HLn.out w' b)
                  have hqI : (0 : Int) < (q : Int) := by omega
                  have dq : decide (0 < q) = true := by simp [hq0]
                  have dnx : decide (now < x.2) = true := by simp [hxn]
                  have esum : ((i + q : Nat) : Int) = (i : Int) + (q : Int) := by omega
                  have hq256 : q ≤ 256 := by omega
                  have hi256 : i ≤ 256 := by omega
                  clear hNx hBq hRq HLn hxm hxo hq hsum
                  generalize x.1 = xi at *
                  generalize x.2 = xt at *
                  go_wp2_with (first
                    | (go_at_call 17; refine hNx2.mono ?_; rintro e w6 ⟨rfl, b6, hml⟩; have hLen := HLn2.out _ b6; have hlk := HLK.out _ b6)
                    | (go_at_call 11; refine hLen.mono ?_; rintro e w7 ⟨rfl, rfl⟩))
                  first | exact ⟨rfl, HBl.out _ b6⟩ | (go_ret; exact ⟨rfl, HBl.out _ b6⟩)
end Go.Proofs.Ytcmdelmgklidjaa
