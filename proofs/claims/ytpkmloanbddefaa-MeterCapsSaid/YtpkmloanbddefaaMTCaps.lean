/- MeterCaps' walk; by-name template. -/
import Derived.Test.YtpkmloanbddefaaMTV
import Derived.Test.YtpkmloanbddefaaMTFrame
namespace Go.Proofs.Ytpkmloanbddefaa
open Go.RowKit Go.Lib Go.Maps
set_option linter.unusedVariables false
set_option linter.unusedSimpArgs false

theorem take_no {r b : Int} {L : LL} {s : Src} {t : Int} (h : takeR L s t = false) : hasP L s = false ∧ ¬ L.length < 32 ∧ takeO r b L s t = false := by
  unfold takeR at h
  simp only [Bool.or_eq_false_iff] at h
  obtain ⟨⟨h1, h2⟩, h3⟩ := h
  refine ⟨h1, of_decide_eq_false h2, ?_⟩
  unfold takeO
  rw [if_neg (of_decide_eq_false h1), if_neg (of_decide_eq_false h2), if_neg (of_decide_eq_false h3)]
theorem has_last (L : LL) (s : Src) (D : BK) : hasP (L ++ [(s, D)]) s = true := by
  unfold hasP idxP
  rw [decide_eq_true_iff]
  exact List.findIdx_lt_length.2 ⟨(s, D), by simp, by simp⟩
theorem take_yes {r b : Int} {L : LL} {s : Src} {t : Int} (h : takeR L s t = true) : hasP (takeL r b L s t) s = true := by
  unfold takeR at h
  unfold takeL
  split
  · exact has_last _ _ _
  · rename_i h1
    split
    · exact has_last _ _ _
    · rename_i h2
      split
      · exact has_last _ _ _
      · rename_i h3
        rw [decide_eq_false h1, decide_eq_false h2, decide_eq_false h3] at h
        cases h

set_option maxHeartbeats 4000000 in
set_option maxRecDepth 100000 in
theorem caps_walk {a : Option Addr} {L : List Stp} (r b : Int) (cap : Nat) {w : World} (h : StepsAt w a L) :
    Calls Try.prog 6 #[.int .i64 r, .int .i64 b, .slice a L.length cap] w fun e w' => e = .returned (.bool true) ∧ Below w.heap.size w w' := by
  have hl := h.1
  have HS := Lib.hid h
  clear h
  generalize hlen : L.length = len at *
  have HL := Lib.hid hlen
  clear hlen
  by_cases hbig : 4096 < len
  · go_enter Try.func6, Try.ntmps6
    go_wp2
    go_ret
    exact ⟨rfl, Below.refl _ _⟩
  · have hnew := fun w => new_meters r b w
    go_enter Try.func6, Try.ntmps6
    go_wp2_with (go_at_call 8; refine (hnew _).mono ?_; rintro e w1 ⟨Bm, Mp, rfl, hp1, b1⟩)
    clear hnew
    go_loopw [8] (fun c wr => ∃ (k : Nat) (tk : Int) (E : List PE) (S : Nat → Prop), k ≤ len ∧ c = .int .i64 (k : Int) ∧ PAt wr S r b tk Bm Mp E ∧ tk ≤ k ∧ (∀ x, S x → w.heap.size ≤ x) ∧ Below w.heap.size w wr) (fun c _ => len - (intOf c).toNat)
    case atStart => exact ⟨0, 0, [], _, by omega, rfl, hp1, by omega, fun x hx => hx.1, b1⟩
    case round =>
      clear hp1 b1
      obtain ⟨k, tk, E, S, hk, rfl, hp, htk, hSw, hb⟩ := hrel
      by_cases hlt : k < len
      · obtain ⟨gb, off, s, ha, hgb, _, hst0⟩ := HS.out.get (k := k) (by rw [HL.out]; exact hlt)
        have hst := fun (w' : World) (h : Below w.heap.size w w') => hst0.block (h.block gb (by omega))
        have hso := hst0.w_src
        have hto := hst0.w_now
        have hc1 := (hst _ hb).c1
        have hc2 := (hst _ hb).c2
        have hc3 := (hst _ hb).c3
        subst ha
        have hhas := has_any hp hso
        rw [any_idx] at hhas
        have hln := hp.ln
        have hEl : (E.length : Int) = ((E.map PE.me).length : Nat) := by simp
        have LEN := fun w' (h : PAt w' S r b tk Bm Mp E) => len_any h
        rw [hEl] at LEN
        have TAKE := fun w' (h : PAt w' S r b tk Bm Mp E) => take_meters h hso hto (by omega)
        have HAS2 := fun w' S' tk' E' (h : PAt w' S' r b tk' Bm Mp E') => has_any h hso
        have LEN2 := fun w' S' tk' E' (h : PAt w' S' r b tk' Bm Mp E') => len_any h
        rcases hr : takeR (E.map PE.me) s.src s.now with _ | _
        · obtain ⟨n1, n2, n3⟩ := take_no (r := r) (b := b) hr
          have n4 : (E.map PE.me).length = 32 := by simp at n2 ⊢; omega
          rw [n1] at hhas
          rw [n4] at LEN
          have HP := Lib.hid hp
          have HT := Lib.hid TAKE
          have HLE := Lib.hid LEN
          have HL2 := Lib.hid LEN2
          have HR := Lib.hid (And.intro hr n3)
          clear hp TAKE LEN LEN2 HAS2 hr n1 n2 n3 n4 hEl hln
          go_wp2_with (first
            | (go_at_call 12; refine hhas.mono ?_; rintro e w2 ⟨rfl, hb2⟩; have hp2 := HP.out.below hb2; have hbb := hb.trans (hb2.mono hb.size))
            | (go_at_call 14; refine (HLE.out _ hp2).mono ?_; rintro e w3 ⟨rfl, rfl⟩))
          have d1 := (hst _ hbb).c1
          have d2 := (hst _ hbb).c2
          have d3 := (hst _ hbb).c3
          have hp3 := hp2.drew
          have hb3 := bel_dr hbb
          clear hc1 hc2 hc3 hb2 hp2
          go_region_held3 (fun w' => w'.cell? ⟨gb, off + k * 4 + 1, none⟩ = some (.int .u64 s.src.1) ∧ w'.cell? ⟨gb, off + k * 4 + 2, none⟩ = some (.int .u64 s.src.2) ∧ w'.cell? ⟨gb, off + k * 4 + 3, none⟩ = some (.int .i64 s.now))
            (first | exact ⟨d1, d2, d3⟩ | exact ⟨(hst _ hb5).c1, (hst _ hb5).c2, (hst _ hb5).c3⟩)
            (first
              | (go_at_call 10; refine (HT.out _ hp3).mono ?_; rintro e w5 ⟨S', E', tk', he, hp5, hE, ho5, hS5, htk5⟩; rw [HR.out.1, HR.out.2] at he; subst he; have hb5 := hb3.trans (ho5.toBelow hSw hb3.size)))
          go_wp2_with (go_at_call 14; refine (HL2.out _ _ _ _ hp5).mono ?_; rintro e w6 ⟨rfl, rfl⟩; have hl6 := hp5.ln; have hl7 : decide (32 < (E'.length : Int)) = false := decide_eq_false (by omega))
          go_roundw
          case rel => exact ⟨k + 1, tk', E', S', by omega, by go_num, hp5, by omega, fun x hx => by rcases hS5 x hx with h1 | h1; exact hSw x h1; exact Nat.le_trans hb3.size h1, hb5⟩
          case measure => simp [intOf]; omega
        · have n1 := take_yes (r := r) (b := b) hr
          generalize hhb : hasP (E.map PE.me) s.src = hb0 at *
          have HHB := Lib.hid hhb
          clear hhb
          generalize takeO r b (E.map PE.me) s.src s.now = vO at *
          have HP := Lib.hid hp
          have HT := Lib.hid TAKE
          have HLE := Lib.hid LEN
          have HL2 := Lib.hid LEN2
          have HR := Lib.hid (And.intro hr n1)
          have HH2 := Lib.hid HAS2
          clear hp TAKE LEN LEN2 HAS2 hr n1 hEl hln
          go_wp2_with (first
            | (go_at_call 12; refine hhas.mono ?_; rintro e w2 ⟨rfl, hb2⟩; have hp2 := HP.out.below hb2; have hbb := hb.trans (hb2.mono hb.size))
            | (go_at_call 14; refine (HLE.out _ hp2).mono ?_; rintro e w3 ⟨rfl, rfl⟩))
          have d1 := (hst _ hbb).c1
          have d2 := (hst _ hbb).c2
          have d3 := (hst _ hbb).c3
          have hp3 := hp2.drew
          have hb3 := bel_dr hbb
          clear hc1 hc2 hc3 hb2 hp2
          go_region_held3 (fun w' => w'.cell? ⟨gb, off + k * 4 + 1, none⟩ = some (.int .u64 s.src.1) ∧ w'.cell? ⟨gb, off + k * 4 + 2, none⟩ = some (.int .u64 s.src.2) ∧ w'.cell? ⟨gb, off + k * 4 + 3, none⟩ = some (.int .i64 s.now))
            (first | exact ⟨d1, d2, d3⟩ | exact ⟨(hst _ hb5).c1, (hst _ hb5).c2, (hst _ hb5).c3⟩)
            (first
              | (go_at_call 10; refine (HT.out _ hp3).mono ?_; rintro e w5 ⟨S', E', tk', he, hp5, hE, ho5, hS5, htk5⟩; rw [HR.out.1] at he; subst he; have hb5 := hb3.trans (ho5.toBelow hSw hb3.size)))
          have hany5 : E'.any (fun e => e.s == s.src) = true := by rw [any_idx, hE]; exact HR.out.2
          have hH5 := HH2.out _ _ _ _ hp5
          rw [hany5] at hH5
          have e1 := (hst _ hb5).c1
          have e2 := (hst _ hb5).c2
          clear hany5
          go_wp2_with (first
            | (go_at_call 14; refine (HL2.out _ _ _ _ hp5).mono ?_; rintro e w6 ⟨rfl, rfl⟩; have hl6 := hp5.ln; have hl7 : decide (32 < (E'.length : Int)) = false := decide_eq_false (by omega))
            | (go_at_call 12; refine hH5.mono ?_; rintro e w7 ⟨rfl, hb7⟩; have hp7 := hp5.below hb7; have hb8 := hb5.trans (hb7.mono hb5.size)))
          go_roundw
          case rel => exact ⟨k + 1, tk', E', S', by omega, by go_num, hp7, by omega, fun x hx => by rcases hS5 x hx with h1 | h1; exact hSw x h1; exact Nat.le_trans hb3.size h1, hb8⟩
          case measure => simp [intOf]; omega
      · go_wp2
        go_ret
        exact ⟨rfl, hb⟩
end Go.Proofs.Ytpkmloanbddefaa
