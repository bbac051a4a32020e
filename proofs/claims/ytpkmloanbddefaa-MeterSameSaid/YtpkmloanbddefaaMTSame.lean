/- MeterSame's walk; by-name template. -/
import Derived.Test.YtpkmloanbddefaaMTV
import Derived.Test.YtpkmloanbddefaaMTFrame
namespace Go.Proofs.Ytpkmloanbddefaa
open Go.RowKit Go.Lib Go.Maps
set_option linter.unusedVariables false
set_option linter.unusedSimpArgs false

theorem idx_tok (L : LL) (s s' : Src) (t : Int) : idxP (tokL L s t) s' = idxP L s' := by
  unfold tokL
  split
  · rename_i h
    unfold idxP at h ⊢
    have hi : L[L.findIdx fun p => p.1 == s].1 = s := by simpa using List.findIdx_getElem (w := h)
    have e : (L.set (L.findIdx fun p => p.1 == s) (s, learnP (bkP L (L.findIdx fun p => p.1 == s)) t)).map Prod.fst = L.map Prod.fst := by
      rw [List.map_set]
      refine List.ext_getElem? fun j => ?_
      rw [List.getElem?_set]
      split
      · rename_i hij
        subst hij
        rw [List.length_map, if_pos h, List.getElem?_map, List.getElem?_eq_getElem h]
        simp only [Option.map_some]
        rw [hi]
      · rfl
    have e2 : ∀ l : LL, (l.findIdx fun p => p.1 == s') = (l.map Prod.fst).findIdx (fun p => p == s') := fun l => by rw [List.findIdx_map]; rfl
    rw [e2, e2, e]
  · rfl
theorem len_tok (L : LL) (s : Src) (t : Int) : (tokL L s t).length = L.length := by
  unfold tokL; split <;> simp
theorem bk_tok {L : LL} {s : Src} {t : Int} (h : idxP L s < L.length) : bkP (tokL L s t) (idxP L s) = learnP (bkP L (idxP L s)) t := by
  unfold tokL
  rw [if_pos h]
  unfold bkP
  rw [List.getD_eq_getElem?_getD, List.getElem?_set, if_pos rfl, if_pos h]
  rfl
theorem er_tok {L : LL} {s : Src} {t : Int} (h : idxP L s < L.length) : (tokL L s t).eraseIdx (idxP L s) = L.eraseIdx (idxP L s) := by
  unfold tokL
  rw [if_pos h]
  refine List.ext_getElem? fun j => ?_
  rw [List.getElem?_eraseIdx, List.getElem?_eraseIdx, List.getElem?_set, List.getElem?_set]
  split
  · rw [if_neg (by omega)]
  · rw [if_neg (by omega)]
theorem takeB_learn (D : BK) (t m : Int) : takeB (learnP D t) t m = takeB D t m := by unfold takeB; rw [learn_again]
theorem takeD_learn (D : BK) (t m : Int) : takeD (learnP D t) t m = takeD D t m := by unfold takeD; rw [takeB_learn, learn_again]
theorem tok_out {L : LL} {s : Src} {t : Int} (h : ¬ idxP L s < L.length) : tokL L s t = L := by unfold tokL; rw [if_neg h]

theorem same_L (r b : Int) (L : LL) (s : Src) (t : Int) : takeL r b (tokL L s t) s t = takeL r b L s t := by
  by_cases h : idxP L s < L.length
  · unfold takeL
    rw [idx_tok, len_tok, if_pos h, if_pos h, er_tok h, bk_tok h, takeD_learn]
  · rw [tok_out h]
theorem same_O (r b : Int) (L : LL) (s : Src) (t : Int) : takeO r b (tokL L s t) s t = takeO r b L s t := by
  by_cases h : idxP L s < L.length
  · unfold takeO
    rw [idx_tok, len_tok, if_pos h, if_pos h, bk_tok h, takeB_learn]
  · rw [tok_out h]
theorem same_R (L : LL) (s : Src) (t : Int) : takeR (tokL L s t) s t = takeR L s t := by
  by_cases h : idxP L s < L.length
  · unfold takeR
    rw [idx_tok, len_tok, decide_eq_true h]; simp
  · rw [tok_out h]
theorem newB_yes (r b t : Int) : newB r b t = true := by
  have h : (newP r b t).n = min (max b 1) 1048576 := rfl
  unfold newB takeB
  rw [learn_old (show t ≤ (newP r b t).k from Int.le_refl _), h, decide_eq_false (by omega), decide_eq_false (by omega)]; rfl
theorem first_yes (r b : Int) (s : Src) (t : Int) : takeO r b [] s t = true ∧ takeR [] s t = true := by
  constructor
  · unfold takeO
    rw [if_neg (by simp), if_pos (by simp), newB_yes]
  · unfold takeR; simp

set_option maxHeartbeats 4000000 in
set_option maxRecDepth 100000 in
theorem same_walk {a : Option Addr} {L : List Stp} (r b : Int) (cap : Nat) {w : World} (h : StepsAt w a L) :
    Calls Try.prog 4 #[.int .i64 r, .int .i64 b, .slice a L.length cap] w fun e w' => e = .returned (.bool true) ∧ Below w.heap.size w w' := by
  have hl := h.1
  have HS := Lib.hid h
  clear h
  generalize hlen : L.length = len at *
  have HL := Lib.hid hlen
  clear hlen
  by_cases hbig : 4096 < len
  · go_enter Try.func4, Try.ntmps4
    go_wp2
    go_ret
    exact ⟨rfl, Below.refl _ _⟩
  · have hnew := fun w => new_meters r b w
    go_enter Try.func4, Try.ntmps4
    go_wp2_with (first
      | (go_at_call 8; refine (hnew _).mono ?_; rintro e w1 ⟨Ba, Ma, rfl, hp1, b1⟩; go_wp2_with (go_at_call 8; refine (hnew _).mono ?_; rintro e w2 ⟨Bb, Mb, rfl, hp2, b2⟩)))
    have hp1' := hp1.below (b2.mono (Nat.le_refl _))
    have hbb := b1.trans (b2.mono b1.size)
    have hz1 := b1.size
    clear hnew
    go_loopw [9, 10] (fun n c wr => ∃ (k : Nat) (nv t1 t2 : Int) (E1 E2 : List PE) (S1 S2 : Nat → Prop), k ≤ len ∧ n = .int .i64 nv ∧ c = .int .i64 (k : Int) ∧ 0 ≤ nv ∧ nv ≤ 1099511627776 ∧ PAt wr S1 r b t1 Ba Ma E1 ∧ PAt wr S2 r b t2 Bb Mb E2 ∧ E1.map PE.me = E2.map PE.me ∧ t1 ≤ k ∧ t2 ≤ k ∧ (∀ x, S1 x → w.heap.size ≤ x) ∧ (∀ x, S2 x → w.heap.size ≤ x) ∧ (∀ x, S1 x → ¬ S2 x) ∧ (k = 0 → E1 = []) ∧ Below w.heap.size w wr) (fun _ c _ => len - (intOf c).toNat)
    case atStart => exact ⟨0, 0, 0, 0, [], [], _, _, by omega, rfl, rfl, by omega, by omega, hp1', hp2, rfl, by omega, by omega, fun x hx => hx.1, fun x hx => by omega, fun x hx hy => by omega, fun _ => rfl, hbb⟩
    case round =>
      clear hp1 hp1' hp2 b1 b2 hbb hz1
      obtain ⟨k, nv, t1, t2, E1, E2, S1, S2, hk, rfl, rfl, hn0, hn1, hpa, hpb, hE, ht1, ht2, hS1, hS2, hdj, hk0, hb⟩ := hrel
      by_cases hlt : k < len
      · obtain ⟨gb, off, s, ha, hgb, _, hst0⟩ := HS.out.get (k := k) (by rw [HL.out]; exact hlt)
        have hst := fun (w' : World) (h : Below w.heap.size w w') => hst0.block (h.block gb (by omega))
        have hso := hst0.w_src
        have hto := hst0.w_now
        have hc1 := (hst _ hb).c1
        have hc2 := (hst _ hb).c2
        have hc3 := (hst _ hb).c3
        subst ha
        have htk1 : t1 < 9223372036854775807 := by omega
        have htk2 : t2 < 9223372036854775807 := by omega
        go_upto_region 9 with (fail)
        go_cut [9] from 30 to 37 (fun v9 wx => ∃ m : Int, 0 ≤ m ∧ m ≤ 1099511627776 ∧ v9 = .int .i64 m ∧ wx = wr)
        case first =>
          go_wp2_with fail
          all_goals
            go_meet
            case rel => exact ⟨_, by omega, by omega, rfl, rfl⟩
        case rest =>
          obtain ⟨m, hm0, hm1, rfl, rfl⟩ := hcut
          have hN : i64ok m := ⟨by omega, by omega⟩
          have hTOK := tokens_m hpb hso hN
          have hQ : ∃ vO vR : Bool, takeO r b (E1.map PE.me) s.src m = vO ∧ takeR (E1.map PE.me) s.src m = vR ∧ (k = 0 → vO = true ∧ vR = true) := ⟨_, _, rfl, rfl, fun h0 => by rw [hk0 h0]; exact first_yes r b s.src m⟩
          obtain ⟨vO, vR, hvO, hvR, hv0⟩ := hQ
          have TA : ∀ w', PAt w' S1 r b t1 Ba Ma E1 → Calls Try.prog 10 #[.pointer (some ⟨Ba, 0, none⟩), .agg #[.int .u64 s.src.1, .int .u64 s.src.2], .int .i64 m] w' fun e w'' => ∃ S' E' tk', e = .returned (.tuple #[.bool vO, .bool vR]) ∧ PAt w'' S' r b tk' Ba Ma E' ∧ E'.map PE.me = takeL r b (E1.map PE.me) s.src m ∧ OffS S1 w' w'' ∧ (∀ k, S' k → S1 k ∨ w'.heap.size ≤ k) ∧ tk' ≤ t1 + 1 :=
            fun w' h => (take_meters h hso hN htk1).mono fun e w'' ⟨S', E', tk', he, hr⟩ => ⟨S', E', tk', by rw [he, hvO, hvR], hr⟩
          have TB : ∀ w' E2', PAt w' S2 r b t2 Bb Mb E2' → E2'.map PE.me = tokL (E2.map PE.me) s.src m → Calls Try.prog 10 #[.pointer (some ⟨Bb, 0, none⟩), .agg #[.int .u64 s.src.1, .int .u64 s.src.2], .int .i64 m] w' fun e w'' => ∃ S' E' tk', e = .returned (.tuple #[.bool vO, .bool vR]) ∧ PAt w'' S' r b tk' Bb Mb E' ∧ E'.map PE.me = takeL r b (E2'.map PE.me) s.src m ∧ OffS S2 w' w'' ∧ (∀ k, S' k → S2 k ∨ w'.heap.size ≤ k) ∧ tk' ≤ t2 + 1 :=
            fun w' E2' h he2 => (take_meters h hso hN htk2).mono fun e w'' ⟨S', E', tk', he, hr⟩ => ⟨S', E', tk', by rw [he, he2, same_O, same_R, ← hE, hvO, hvR], hr⟩
          have FIN : ∀ w2 w3 w4 E2a S1b E1b S2b E2b t1b t2b, PAt w2 S2 r b t2 Bb Mb E2a → E2a.map PE.me = tokL (E2.map PE.me) s.src m → OffS S2 wc w2 → PAt w3 S1b r b t1b Ba Ma E1b → E1b.map PE.me = takeL r b (E1.map PE.me) s.src m → OffS S1 w2 w3 → (∀ x, S1b x → S1 x ∨ w2.heap.size ≤ x) → t1b ≤ t1 + 1 →
              PAt w4 S2b r b t2b Bb Mb E2b → E2b.map PE.me = takeL r b (E2a.map PE.me) s.src m → OffS S2 w3 w4 → (∀ x, S2b x → S2 x ∨ w3.heap.size ≤ x) → t2b ≤ t2 + 1 →
              E2b.length = E1b.length ∧ PAt w4 S1b r b t1b Ba Ma E1b ∧ E1b.map PE.me = E2b.map PE.me ∧ t1b ≤ k + 1 ∧ t2b ≤ k + 1 ∧ (∀ x, S1b x → w.heap.size ≤ x) ∧ (∀ x, S2b x → w.heap.size ≤ x) ∧ (∀ x, S1b x → ¬ S2b x) ∧ Below w.heap.size w w4 := by
            intro w2 w3 w4 E2a S1b E1b S2b E2b t1b t2b p2 e2 o2 p3 e3 o3 s3 l3 p4 e4 o4 s4 l4
            have hEE : E1b.map PE.me = E2b.map PE.me := by rw [e3, e4, e2, same_L, hE]
            have z2 := o2.size
            have z3 := o3.size
            have zb := hb.size
            have hS1b : ∀ x, S1b x → w.heap.size ≤ x := fun x hx => by rcases s3 x hx with h | h; exact hS1 x h; omega
            have hS2b : ∀ x, S2b x → w.heap.size ≤ x := fun x hx => by rcases s4 x hx with h | h; exact hS2 x h; omega
            have hdd : ∀ x, S1b x → ¬ S2 x := fun x hx hy => by
              rcases s3 x hx with h | h
              · exact hdj x h hy
              · have := p2.lt x hy; omega
            have b2 := hb.trans (o2.toBelow hS2 hb.size)
            have b3 := b2.trans (o3.toBelow hS1 b2.size)
            refine ⟨by have := congrArg List.length hEE; simpa using this.symm, p3.off o4 hdd, hEE, by omega, by omega, hS1b, hS2b, fun x hx hy => ?_, b3.trans (o4.toBelow hS2 b3.size)⟩
            rcases s4 x hy with h | h
            · exact hdd x hx h
            · have := p3.lt x hx; omega
          have HF := Lib.hid FIN
          have HTA := Lib.hid TA
          have HTB := Lib.hid TB
          have HPA := Lib.hid hpa
          have HVO := Lib.hid hvO
          have HVR := Lib.hid hvR
          have HE := Lib.hid hE
          have HDJ := Lib.hid hdj
          have LA := fun w' S' tk' E' (h : PAt w' S' r b tk' Ba Ma E') => len_any h
          have LB := fun w' S' tk' E' (h : PAt w' S' r b tk' Bb Mb E') => len_any h
          have HLA := Lib.hid LA
          have HLB := Lib.hid LB
          clear FIN TA TB hpa hpb hvO hvR hE hdj LA LB hk0
          have hd1 := fun w' (h : Below w.heap.size w w') => (hst w' h).c1
          have hd2 := fun w' (h : Below w.heap.size w w') => (hst w' h).c2
          have HD1 := Lib.hid hd1
          have HD2 := Lib.hid hd2
          clear hd1 hd2
          go_wp2_with (first
            | (go_at_call 15; refine hTOK.mono ?_; rintro e w2 ⟨rfl, ⟨E2a, p2, e2⟩, o2⟩; have b2 := hb.trans (o2.toBelow hS2 hb.size); have x1 := HD1.out _ b2; have x2 := HD2.out _ b2; have q3 := HTA.out _ (HPA.out.off o2 HDJ.out))
            | (go_at_call 10; (with_reducible refine q3.mono ?_); rintro e w3 ⟨S1b, E1b, t1b, rfl, p3, e3, o3, s3, l3⟩; have b3 := b2.trans (o3.toBelow hS1 b2.size); have y1 := HD1.out _ b3; have y2 := HD2.out _ b3; have q4 := HTB.out _ _ (p2.off o3 (fun x hx hy => HDJ.out x hy hx)) e2)
            | (go_at_call 10; (with_reducible refine q4.mono ?_); rintro e w4 ⟨S2b, E2b, t2b, rfl, p4, e4, o4, s4, l4⟩; obtain ⟨g1, g2, g3, g4, g5, g6, g7, g8, g9⟩ := HF.out _ _ _ _ _ _ _ _ _ _ p2 e2 o2 p3 e3 o3 s3 l3 p4 e4 o4 s4 l4; have r1 := HLA.out _ _ _ _ g2; have r2 := HLB.out _ _ _ _ p4; rw [g1] at r2)
            | (go_at_call 14; refine r1.mono ?_; rintro e w5 ⟨rfl, rfl⟩)
            | (go_at_call 14; refine r2.mono ?_; rintro e w6 ⟨rfl, rfl⟩))
          all_goals (try (go_roundw; (case rel => exact ⟨k + 1, m, t1b, t2b, E1b, E2b, S1b, S2b, by omega, rfl, by go_num, hm0, hm1, g2, p4, g3, by omega, by omega, g6, g7, g8, fun h => absurd h (by omega), g9⟩); (case measure => simp [intOf]; omega)))
      · go_wp2
        go_ret
        exact ⟨rfl, hb⟩
end Go.Proofs.Ytpkmloanbddefaa
