/- Transport, the document's, put together; by-name template (gen_wrtrans.py). -/
import Derived.Test.YtpmbdjdhgcjkfaaWRTrans
namespace Go.Proofs.Ytpmbdjdhgcjkfaa
open Go.RowKit Go.Sort
set_option linter.unusedVariables false
set_option linter.unusedSimpArgs false

/-- What a transport header tells of a body, or why there is none. -/
def tP (v : VW) (l : List UInt8) : TW × Int :=
  if (hsP l v.proto).2 ≠ 0 then (ztw, (hsP l v.proto).2) else if rsP v l = false then (ztw, 43)
  else ({ fieldsP l v.v6 v.proto with head := v.head + (hsP l v.proto).1, data := 0 }, 0)

theorem hs_short {l : List UInt8} {p m q : Int} (h : layP p = (m, q)) (hl : (l.length : Int) < m) : hsP l p = (0, 40) := by
  unfold hsP; rw [h, if_pos hl]
theorem tP_e {v : VW} {l : List UInt8} {z e : Int} (h : hsP l v.proto = (z, e)) (he : e ≠ 0) : tP v l = (ztw, e) := by
  unfold tP; rw [h]; simp only; rw [if_pos he]
theorem tP_s {v : VW} {l : List UInt8} {z : Int} (h : hsP l v.proto = (z, 0)) (he : rsP v l = false) : tP v l = (ztw, 43) := by
  unfold tP; rw [h]; simp only; rw [if_neg (by simp), if_pos he]
theorem tP_o {v : VW} {l : List UInt8} {z : Int} (h : hsP l v.proto = (z, 0)) (he : rsP v l = true) : tP v l = ({ fieldsP l v.v6 v.proto with head := v.head + z, data := 0 }, 0) := by
  unfold tP; rw [h]; simp only; rw [if_neg (by simp), if_neg (by simp [he])]

theorem rtcp_any (A : Option Addr) (n c : Nat) (l : List UInt8) (v : VW) (hv : VOk v) (hp : v.proto = 6) (hh0 : 0 ≤ v.head) (hh1 : v.head ≤ 65536) {w : World} (h : BytArg w A n c l) (hm : n < 65536) :
    Calls Try.prog 56 #[.slice A n c, .agg (vcells v)] w fun e w' => e = .returned (.tuple #[.agg (tcells (tP v l).1), .int .i64 (tP v l).2]) ∧ Below w.heap.size w w' := by
  obtain ⟨vv, vhd, vtt, vttl, vp, vsH, vsL, vdH, vdL, vfr, vid, voff, vmo⟩ := v
  simp only at hp hh0 hh1
  subst hp
  obtain ⟨hn, hc, hcm, hs⟩ := id h
  unfold maxLen at hcm
  have hL : layP 6 = (20, 16) := rfl
  by_cases h1 : n < 20
  · rw [tP_e (hs_short hL (by omega)) (by decide)]
    exact rtcp_a A n c vv vhd vtt vttl 6 vsH vsL vdH vdL vfr vid voff vmo h1
  obtain ⟨g, o, rfl, hb⟩ := hs (by omega)
  have hH : hsP l 6 = if byN l 12 / 16 * 4 < 20 then (0, 42) else if l.length < byN l 12 / 16 * 4 then (0, 40) else (((byN l 12 / 16 * 4 : Nat) : Int), 0) := by
    unfold hsP; rw [hL, if_neg (by simp only; omega), if_pos rfl]
  by_cases h2 : byN l 12 / 16 * 4 < 20
  · rw [if_pos h2] at hH
    rw [tP_e hH (by decide)]
    exact rtcp_b g o c n l vv vhd vtt vttl 6 vsH vsL vdH vdL vfr vid voff vmo hn (by omega) hc hcm hb h2
  rw [if_neg h2] at hH
  by_cases h3 : n < byN l 12 / 16 * 4
  · rw [if_pos (by omega)] at hH
    rw [tP_e hH (by decide)]
    exact rtcp_c g o c n l vv vhd vtt vttl 6 vsH vsL vdH vdL vfr vid voff vmo hn (by omega) hc hcm hb h2 h3
  rw [if_neg (by omega)] at hH
  have ct := fun (W : World) (hW : Below w.heap.size w W) => rtotal_any g o c n l ⟨vv, vhd, vtt, vttl, 6, vsH, vsL, vdH, vdL, vfr, vid, voff, vmo⟩ hv hn (by omega) hm hc hcm (hb.below hW)
  have hR : rsP ⟨vv, vhd, vtt, vttl, 6, vsH, vsL, vdH, vdL, vfr, vid, voff, vmo⟩ l = decide (bsP ⟨vv, vhd, vtt, vttl, 6, vsH, vsL, vdH, vdL, vfr, vid, voff, vmo⟩ l = 0) := by simp [rsP]
  by_cases h4 : bsP ⟨vv, vhd, vtt, vttl, 6, vsH, vsL, vdH, vdL, vfr, vid, voff, vmo⟩ l = 0
  · rw [tP_o hH (by rw [hR]; simp [h4])]
    exact rtcp_e g o c n l vv vhd vtt vttl 6 vsH vsL vdH vdL vfr vid voff vmo hn (by omega) hc hcm hb h2 h3 hh0 hh1 _ ct h4
  · rw [tP_s hH (by rw [hR]; simp [h4])]
    exact rtcp_d g o c n l vv vhd vtt vttl 6 vsH vsL vdH vdL vfr vid voff vmo hn (by omega) hc hcm hb h2 h3 _ ct h4

theorem rudp_any (A : Option Addr) (n c : Nat) (l : List UInt8) (v : VW) (hv : VOk v) (hp : v.proto = 17) (hh0 : 0 ≤ v.head) (hh1 : v.head ≤ 65536) {w : World} (h : BytArg w A n c l) (hm : n < 65536) :
    Calls Try.prog 57 #[.slice A n c, .agg (vcells v)] w fun e w' => e = .returned (.tuple #[.agg (tcells (tP v l).1), .int .i64 (tP v l).2]) ∧ Below w.heap.size w w' := by
  obtain ⟨vv, vhd, vtt, vttl, vp, vsH, vsL, vdH, vdL, vfr, vid, voff, vmo⟩ := v
  simp only at hp hh0 hh1
  subst hp
  obtain ⟨hn, hc, hcm, hs⟩ := id h
  unfold maxLen at hcm
  have hL : layP 17 = (8, 6) := rfl
  by_cases h1 : n < 8
  · rw [tP_e (hs_short hL (by omega)) (by decide)]
    exact rudp_a A n c vv vhd vtt vttl 17 vsH vsL vdH vdL vfr vid voff vmo h1
  obtain ⟨g, o, rfl, hb⟩ := hs (by omega)
  have hH : hsP l 17 = if nbN l 4 2 ≠ l.length then (0, 42) else (8, 0) := by
    unfold hsP; rw [hL, if_neg (by simp only; omega), if_neg (by decide), if_pos rfl]
  by_cases h2 : nbN l 4 2 = n
  case neg =>
    rw [if_pos (by omega)] at hH
    rw [tP_e hH (by decide)]
    exact rudp_b g o c n l vv vhd vtt vttl 17 vsH vsL vdH vdL vfr vid voff vmo hn (by omega) hc hcm hb h2
  rw [if_neg (by omega)] at hH
  have hR : rsP ⟨vv, vhd, vtt, vttl, 17, vsH, vsL, vdH, vdL, vfr, vid, voff, vmo⟩ l = if nbN l 6 2 = 0 then !vv else decide (bsP ⟨vv, vhd, vtt, vttl, 17, vsH, vsL, vdH, vdL, vfr, vid, voff, vmo⟩ l = 0) := by simp [rsP]
  by_cases h3 : nbN l 6 2 = 0
  · rw [if_pos h3] at hR
    cases vv with
    | true =>
      rw [tP_s hH (by rw [hR]; rfl)]
      exact rudp_c g o c n l vhd vtt vttl 17 vsH vsL vdH vdL vfr vid voff vmo hn (by omega) hc hcm hb h2 h3
    | false =>
      rw [tP_o hH (by rw [hR]; rfl)]
      exact rudp_d g o c n l vhd vtt vttl 17 vsH vsL vdH vdL vfr vid voff vmo hn (by omega) hc hcm hb h2 h3 hh0 hh1
  rw [if_neg h3] at hR
  have ct := fun (W : World) (hW : Below w.heap.size w W) => rtotal_any g o c n l ⟨vv, vhd, vtt, vttl, 17, vsH, vsL, vdH, vdL, vfr, vid, voff, vmo⟩ hv hn (by omega) hm hc hcm (hb.below hW)
  by_cases h4 : bsP ⟨vv, vhd, vtt, vttl, 17, vsH, vsL, vdH, vdL, vfr, vid, voff, vmo⟩ l = 0
  · rw [tP_o hH (by rw [hR]; simp [h4])]
    exact rudp_f g o c n l vv vhd vtt vttl 17 vsH vsL vdH vdL vfr vid voff vmo hn (by omega) hc hcm hb h2 h3 hh0 hh1 _ ct h4
  · rw [tP_s hH (by rw [hR]; simp [h4])]
    exact rudp_e g o c n l vv vhd vtt vttl 17 vsH vsL vdH vdL vfr vid voff vmo hn (by omega) hc hcm hb h2 h3 _ ct h4

theorem ricmp_any (A : Option Addr) (n c : Nat) (l : List UInt8) (v : VW) (hv : VOk v) (hp : v.proto = 1 ∨ v.proto = 58) (hh0 : 0 ≤ v.head) (hh1 : v.head ≤ 65536) {w : World} (h : BytArg w A n c l) (hm : n < 65536) :
    Calls Try.prog 58 #[.slice A n c, .agg (vcells v)] w fun e w' => e = .returned (.tuple #[.agg (tcells (tP v l).1), .int .i64 (tP v l).2]) ∧ Below w.heap.size w w' := by
  obtain ⟨vv, vhd, vtt, vttl, vp, vsH, vsL, vdH, vdL, vfr, vid, voff, vmo⟩ := v
  simp only at hp hh0 hh1
  obtain ⟨hn, hc, hcm, hs⟩ := id h
  unfold maxLen at hcm
  have hL : layP vp = (8, 2) := by rcases hp with rfl | rfl <;> rfl
  have p6 : vp ≠ 6 := by omega
  have p17 : vp ≠ 17 := by omega
  by_cases h1 : n < 8
  · rw [tP_e (hs_short hL (by omega)) (by decide)]
    exact ricmp_a A n c vv vhd vtt vttl vp vsH vsL vdH vdL vfr vid voff vmo h1
  obtain ⟨g, o, rfl, hb⟩ := hs (by omega)
  have hH : hsP l vp = (8, 0) := by
    unfold hsP; rw [hL, if_neg (by simp only; omega), if_neg p6, if_neg p17]
  have hR : rsP ⟨vv, vhd, vtt, vttl, vp, vsH, vsL, vdH, vdL, vfr, vid, voff, vmo⟩ l = decide (bsP ⟨vv, vhd, vtt, vttl, vp, vsH, vsL, vdH, vdL, vfr, vid, voff, vmo⟩ l = 0) := by
    unfold rsP; simp only; rw [if_neg p17, if_pos (Or.inr hp)]
  have ct := fun (W : World) (hW : Below w.heap.size w W) => rtotal_any g o c n l ⟨vv, vhd, vtt, vttl, vp, vsH, vsL, vdH, vdL, vfr, vid, voff, vmo⟩ hv hn (by omega) hm hc hcm (hb.below hW)
  by_cases h4 : bsP ⟨vv, vhd, vtt, vttl, vp, vsH, vsL, vdH, vdL, vfr, vid, voff, vmo⟩ l = 0
  · rw [tP_o hH (by rw [hR]; simp [h4])]
    have hF : fieldsP l vv vp = if echoP vv (byN l 0) then ⟨nbN l 4 2, nbN l 4 2, 0, 0, 0, 0, byN l 0, byN l 1, 0, 0⟩ else ⟨0, 0, 0, 0, 0, 0, byN l 0, byN l 1, 0, 0⟩ := by
      unfold fieldsP; rw [if_neg p6, if_neg p17, if_pos hp]
    simp only
    rw [hF]
    by_cases he : echoP vv (byN l 0) = true
    · rw [if_pos he]
      exact ricmp_d g o c n l vv vhd vtt vttl vp vsH vsL vdH vdL vfr vid voff vmo hn (by omega) hc hcm hb he hh0 hh1 _ ct h4
    · rw [if_neg he]
      exact ricmp_c g o c n l vv vhd vtt vttl vp vsH vsL vdH vdL vfr vid voff vmo hn (by omega) hc hcm hb (eq_false_of_ne_true he) hh0 hh1 _ ct h4
  · rw [tP_s hH (by rw [hR]; simp [h4])]
    exact ricmp_b g o c n l vv vhd vtt vttl vp vsH vsL vdH vdL vfr vid voff vmo hn (by omega) hc hcm hb _ ct h4

/-- Of a whole packet. -/
theorem transP_tP {l : List UInt8} {v : VW} (h : ¬ (v.head < 0 ∨ v.total < v.head ∨ (l.length : Int) < v.total ∨ v.frag = true)) :
    transP l v = if (tP v (bodyP l v)).2 ≠ 0 then (ztw, (tP v (bodyP l v)).2) else ({ (tP v (bodyP l v)).1 with data := v.total - (tP v (bodyP l v)).1.head }, 0) := by
  unfold transP
  rw [if_neg h]
  rcases hH : hsP (bodyP l v) v.proto with ⟨z, er⟩
  simp only
  by_cases h1 : er = 0
  · subst h1
    rw [if_neg (by simp)]
    by_cases h2 : rsP v (bodyP l v) = false
    · rw [tP_s hH h2, if_pos h2, if_pos (by decide)]
    · rw [tP_o hH (by simpa using h2), if_neg h2, if_neg (by simp)]
  · rw [tP_e hH h1, if_pos h1, if_pos h1]
theorem tP_head {l : List UInt8} {v : VW} (h0 : 0 ≤ v.head) (h1 : v.head ≤ 65536) : 0 ≤ (tP v l).1.head ∧ (tP v l).1.head < 200000 := by
  have hb := hsP_bd l v.proto
  unfold tP
  split
  · exact ⟨by simp [ztw], by simp [ztw]⟩
  · split
    · exact ⟨by simp [ztw], by simp [ztw]⟩
    · simp only; omega

/-- Transport, the document's. -/
theorem rtrans_any (A : Option Addr) (n c : Nat) (l : List UInt8) (v : VW) (hv : VOk v) {w : World} (h : BytArg w A n c l) (hm : n ≤ 65536) (hm2 : v.total - v.head < 65536) :
    Calls Try.prog 18 #[.slice A n c, .agg (vcells v)] w fun e w' => e = .returned (.tuple #[.agg (tcells (transP l v).1), .int .i64 (transP l v).2]) ∧ Below w.heap.size w w' := by
  have hn := h.1
  by_cases hbad : v.head < 0 ∨ v.total < v.head ∨ (l.length : Int) < v.total ∨ v.frag = true
  · have e : transP l v = (ztw, 42) := by unfold transP; rw [if_pos hbad]
    rw [e]
    obtain ⟨vv, vhd, vtt, vttl, vp, vsH, vsL, vdH, vdL, vfr, vid, voff, vmo⟩ := v
    simp only at hbad hm2 ⊢
    rw [hn] at hbad
    by_cases h0 : vhd < 0
    · simp only [vcells]
      exact rt_a A n c (by omega) vv vhd vtt vttl vp vsH vsL vdH vdL vfr vid voff vmo h0
    by_cases h1 : vtt < vhd
    · simp only [vcells]
      exact rt_b A n c (by omega) vv vhd vtt vttl vp vsH vsL vdH vdL vfr vid voff vmo (by omega) h1
    by_cases h2 : (n : Int) < vtt
    · simp only [vcells]
      exact rt_c A n c (by omega) vv vhd vtt vttl vp vsH vsL vdH vdL vfr vid voff vmo (by omega) (by omega) h2
    cases vfr with
    | true =>
      simp only [vcells]
      exact rt_d A n c (by omega) vv vhd vtt vttl vp vsH vsL vdH vdL vid voff vmo (by omega) (by omega) (by omega)
    | false =>
      rcases hbad with e | e | e | e
      · exact absurd e h0
      · exact absurd e h1
      · exact absurd e h2
      · cases e
  · rw [transP_tP hbad]
    have hv' := hv
    obtain ⟨vv, vhd, vtt, vttl, vp, vsH, vsL, vdH, vdL, vfr, vid, voff, vmo⟩ := v
    simp only [not_or, Int.not_lt] at hbad hm2 ⊢
    obtain ⟨b0, b1, b2, b3⟩ := hbad
    rw [hn] at b2
    obtain rfl : vfr = false := by simpa using b3
    obtain ⟨hd, rfl⟩ := Int.eq_ofNat_of_zero_le b0
    obtain ⟨tt, rfl⟩ := Int.eq_ofNat_of_zero_le (show 0 ≤ vtt by omega)
    have hB : bodyP l ⟨vv, hd, tt, vttl, vp, vsH, vsL, vdH, vdL, false, vid, voff, vmo⟩ = (l.drop hd).take (tt - hd) := by simp only [bodyP, Int.toNat_natCast]
    rw [hB]
    obtain ⟨A', sl, hbody⟩ := body_cut h hd tt (by omega) (by omega)
    generalize (l.drop hd).take (tt - hd) = BB at *
    have hhd := tP_head (l := BB) (v := ⟨vv, hd, tt, vttl, vp, vsH, vsL, vdH, vdL, false, vid, voff, vmo⟩) (by simp only; omega) (by simp only; omega)
    by_cases h6 : vp = 6
    · subst h6
      have ct := fun (W : World) (hW : Below w.heap.size w W) => rtcp_any A' (tt - hd) (c - hd) BB ⟨vv, hd, tt, vttl, 6, vsH, vsL, vdH, vdL, false, vid, voff, vmo⟩ hv rfl (by simp only; omega) (by simp only; omega) (hbody.below hW) (by omega)
      by_cases he : (tP ⟨vv, hd, tt, vttl, 6, vsH, vsL, vdH, vdL, false, vid, voff, vmo⟩ BB).2 = 0
      · rw [if_neg (by omega)]
        exact rt_6 A n c hd tt l vv vttl vsH vsL vdH vdL vid voff vmo h (by omega) (by omega) hm _ _ A' sl ct he hhd.1 hhd.2
      · rw [if_pos he]
        exact rt_6x A n c hd tt l vv vttl vsH vsL vdH vdL vid voff vmo h (by omega) (by omega) hm _ _ A' sl ct he
    by_cases h17 : vp = 17
    · subst h17
      have ct := fun (W : World) (hW : Below w.heap.size w W) => rudp_any A' (tt - hd) (c - hd) BB ⟨vv, hd, tt, vttl, 17, vsH, vsL, vdH, vdL, false, vid, voff, vmo⟩ hv rfl (by simp only; omega) (by simp only; omega) (hbody.below hW) (by omega)
      by_cases he : (tP ⟨vv, hd, tt, vttl, 17, vsH, vsL, vdH, vdL, false, vid, voff, vmo⟩ BB).2 = 0
      · rw [if_neg (by omega)]
        exact rt_17 A n c hd tt l vv vttl vsH vsL vdH vdL vid voff vmo h (by omega) (by omega) hm _ _ A' sl ct he hhd.1 hhd.2
      · rw [if_pos he]
        exact rt_17x A n c hd tt l vv vttl vsH vsL vdH vdL vid voff vmo h (by omega) (by omega) hm _ _ A' sl ct he
    by_cases h1 : vp = 1
    · subst h1
      have ct := fun (W : World) (hW : Below w.heap.size w W) => ricmp_any A' (tt - hd) (c - hd) BB ⟨vv, hd, tt, vttl, 1, vsH, vsL, vdH, vdL, false, vid, voff, vmo⟩ hv (Or.inl rfl) (by simp only; omega) (by simp only; omega) (hbody.below hW) (by omega)
      by_cases he : (tP ⟨vv, hd, tt, vttl, 1, vsH, vsL, vdH, vdL, false, vid, voff, vmo⟩ BB).2 = 0
      · rw [if_neg (by omega)]
        exact rt_1 A n c hd tt l vv vttl vsH vsL vdH vdL vid voff vmo h (by omega) (by omega) hm _ _ A' sl ct he hhd.1 hhd.2
      · rw [if_pos he]
        exact rt_1x A n c hd tt l vv vttl vsH vsL vdH vdL vid voff vmo h (by omega) (by omega) hm _ _ A' sl ct he
    by_cases h58 : vp = 58
    · subst h58
      have ct := fun (W : World) (hW : Below w.heap.size w W) => ricmp_any A' (tt - hd) (c - hd) BB ⟨vv, hd, tt, vttl, 58, vsH, vsL, vdH, vdL, false, vid, voff, vmo⟩ hv (Or.inr rfl) (by simp only; omega) (by simp only; omega) (hbody.below hW) (by omega)
      by_cases he : (tP ⟨vv, hd, tt, vttl, 58, vsH, vsL, vdH, vdL, false, vid, voff, vmo⟩ BB).2 = 0
      · rw [if_neg (by omega)]
        exact rt_58 A n c hd tt l vv vttl vsH vsL vdH vdL vid voff vmo h (by omega) (by omega) hm _ _ A' sl ct he hhd.1 hhd.2
      · rw [if_pos he]
        exact rt_58x A n c hd tt l vv vttl vsH vsL vdH vdL vid voff vmo h (by omega) (by omega) hm _ _ A' sl ct he
    have e : tP ⟨vv, hd, tt, vttl, vp, vsH, vsL, vdH, vdL, false, vid, voff, vmo⟩ BB = ({ ztw with head := (hd : Int), data := 0 }, 0) := by
      have hL : layP vp = (0, 0) := by unfold layP; rw [if_neg h6, if_neg h17, if_neg h1, if_neg h58]
      have hH : hsP BB vp = (0, 0) := by unfold hsP; rw [hL, if_neg (by simp only; omega), if_neg h6, if_neg h17]
      rw [tP_o hH (by unfold rsP; simp only; rw [if_neg h17, if_neg (by omega)])]
      simp only
      unfold fieldsP
      rw [if_neg h6, if_neg h17, if_neg (by omega), Int.add_zero]
    rw [e, if_neg (by simp)]
    exact rt_o A n c hd tt l vv vttl vp vsH vsL vdH vdL vid voff vmo h (by omega) (by omega) hm A' sl h6 h17 h1 h58
end Go.Proofs.Ytpmbdjdhgcjkfaa
