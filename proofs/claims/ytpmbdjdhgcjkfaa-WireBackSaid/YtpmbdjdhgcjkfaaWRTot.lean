/- A body's sum with its pseudo header: the document's; by-name template (gen_wrtot.py). -/
import Derived.Test.YtpmbdjdhgcjkfaaWRPs
import Derived.Test.YtpmbdjdhgcjkfaaWRSum
namespace Go.Proofs.Ytpmbdjdhgcjkfaa
open Go.RowKit Go.Sort
set_option linter.unusedVariables false
set_option linter.unusedSimpArgs false

theorem Byt.newsO {w : World} {g o : Nat} {l : List UInt8} (h : Byt w g o l) (j : Nat) (u : Value) (hj : (bc l)[j]? = some u) : w.cell? ((⟨g, o, none⟩ : Addr).add j) = some u := by
  unfold bc at hj
  rw [List.getElem?_map] at hj
  obtain ⟨x, hx, rfl⟩ := Option.map_eq_some_iff.1 hj
  have e : (⟨g, o, none⟩ : Addr).add j = ⟨g, o + j, none⟩ := by unfold Addr.add; split <;> simp_all
  rw [e]; exact h j x hx

set_option maxHeartbeats 2000000 in
set_option maxRecDepth 100000 in
theorem rpseudo0 (sh sl dh dl size : Int) (w : World) :
    Calls Try.prog 82 #[.agg #[.int .u64 sh, .int .u64 sl], .agg #[.int .u64 dh, .int .u64 dl], .int .i64 1, .int .i64 size] w fun e w' => ∃ v, e = .returned v ∧ w'.ownsRow w.heap.size 5 1 v 0 (bc []) ∧ Below w.heap.size w w' := by
  have hm : (((w.alloc (.cells #[.int .u64 sh, .int .u64 sl] 25)).alloc (.cells #[.int .u64 dh, .int .u64 dl] 25)).alloc (.cells #[] 5)).ownsRow w.heap.size 5 1 (.slice (some ⟨w.heap.size + 1 + 1, 0, none⟩) 0 0) 0 [] := by
    have := World.ownsRow_made (base := w.heap.size) (e := 5) (size := 1) ((w.alloc (.cells #[.int .u64 sh, .int .u64 sl] 25)).alloc (.cells #[.int .u64 dh, .int .u64 dl] 25)) #[] 0 (by simp; omega) (by unfold maxLen; omega) rfl
    simpa using this
  go_enter Try.func82, Try.ntmps82
  go_wp2
  go_ret
  refine ⟨_, rfl, hm, ?_⟩
  exact Below.al (Below.al (Below.al (Below.refl _ _) _) _) _

set_option maxHeartbeats 2000000 in
set_option maxRecDepth 100000 in
theorem rtotal_of (ps : List UInt8) (k : Nat) (hk : ps.length = k) (hkm : k ≤ 40) (p sh sl dh dl : Int) (g o c n : Nat) (l : List UInt8) (hn : l.length = n) (h0 : 0 < n) (hm : n < 65536) (hc : n ≤ c) (hcm : c ≤ 9223372036854775807) {w : World} (hb : Byt w g o l)
    (cp : ∀ W, Calls Try.prog 82 #[.agg #[.int .u64 sh, .int .u64 sl], .agg #[.int .u64 dh, .int .u64 dl], .int .i64 p, .int .i64 (n : Nat)] W fun e w' => ∃ v, e = .returned v ∧ w'.ownsRow W.heap.size 5 1 v k (bc ps) ∧ Below W.heap.size W w') :
    Calls Try.prog 73 #[.agg #[.int .u64 sh, .int .u64 sl], .agg #[.int .u64 dh, .int .u64 dl], .int .i64 p, .slice (some ⟨g, o, none⟩) n c] w fun e w' => e = .returned (.int .i64 (sumP (ps ++ l) : Nat)) ∧ Below w.heap.size w w' := by
  obtain ⟨i0, hi, hz0, hz1, hz2⟩ := info_parts info8
  have HN := Lib.hid hn
  have HK := Lib.hid hk
  have HB := Lib.hid hb
  clear hn hk hb
  go_enter Try.func73, Try.ntmps73
  go_wp2_with (go_at_call 82; refine (cp _).mono ?_; rintro e w2 ⟨v2, rfl, hown2, hb2⟩; refine Hid.out ?_)
  have bw2 : Below w.heap.size w w2 := bel_via (Below.al (Below.al (Below.refl _ _) _) _) hb2
  have hown2 := own_base (b' := w.heap.size) hown2 (by simp; omega)
  clear hb2 cp
  refine Lib.hid ?_
  go_wp2_with (at_builtin; refine wpList_append_own _ rfl _ _ 22 rfl w.heap.size 5 i0 (.int .u8 0) 1 1 Try.underlying22 hi hz0 hz1 hz2 rfl (by decide) _ _ _ rfl hown2 ⟨g, o, none⟩ n c (bc l) rfl (by rw [bc_len, HN.out, Nat.mul_one]) (fun j u hj => (HB.out.below bw2).newsO j u hj) (bc_one _) (by unfold maxLen; omega) (by omega) bw2.size ?n3)
  case n3 =>
    intro v3 w3 hown3 hgrow3 _
    have bw3 : Below w.heap.size w w3 := bw2.grown hgrow3 bw2.size (fun k hk => own_lt' hown2 hk)
    rw [← bc_app] at hown3
    obtain ⟨g3, c3, rfl, hg3, hgl3, hcap3, hcm3, _⟩ := own_form hown3 (by omega)
    have cs := rsum_big g3 0 c3 (k + n) (ps ++ l) (by rw [List.length_append, HK.out, HN.out]) (by omega) (Byt.own hown3)
    clear hown2 hgrow3 hown3 bw2
    go_wp2_with (go_at_call 16; refine cs.mono ?_; rintro e w' ⟨rfl, rfl⟩)
    go_ret
    exact ⟨rfl, bw3⟩

/-- The document's sum of a body. -/
theorem rtotal_any (g o c n : Nat) (l : List UInt8) (v : VW) (hv : VOk v) (hn : l.length = n) (h0 : 0 < n) (hm : n < 65536) (hc : n ≤ c) (hcm : c ≤ 9223372036854775807) {w : World} (hb : Byt w g o l) :
    Calls Try.prog 73 #[.agg #[.int .u64 v.srcH, .int .u64 v.srcL], .agg #[.int .u64 v.dstH, .int .u64 v.dstL], .int .i64 v.proto, .slice (some ⟨g, o, none⟩) n c] w fun e w' => e = .returned (.int .i64 (bsP v l : Nat)) ∧ Below w.heap.size w w' := by
  obtain ⟨vv, vhd, vtt, vttl, vp, vsH, vsL, vdH, vdL, vfr, vid, voff, vmo⟩ := v
  obtain ⟨p0, p1, ⟨a0, a1⟩, ⟨b0, b1⟩, ⟨c0, c1⟩, ⟨d0, d1⟩, hf⟩ := hv
  simp only at p0 p1 a0 a1 b0 b1 c0 c1 d0 d1 hf
  obtain ⟨p, rfl⟩ := Int.eq_ofNat_of_zero_le p0
  obtain ⟨sh, rfl⟩ := Int.eq_ofNat_of_zero_le a0
  obtain ⟨sl, rfl⟩ := Int.eq_ofNat_of_zero_le b0
  obtain ⟨dh, rfl⟩ := Int.eq_ofNat_of_zero_le c0
  obtain ⟨dl, rfl⟩ := Int.eq_ofNat_of_zero_le d0
  unfold bsP psP
  simp only [Int.toNat_natCast]
  rw [hn]
  by_cases hp : p = 1
  · subst hp
    rw [if_pos (show ((1 : Nat) : Int) = 1 from rfl)]
    exact rtotal_of [] 0 rfl (by omega) _ _ _ _ _ g o c n l hn h0 hm hc hcm hb (fun W => rpseudo0 _ _ _ _ _ W)
  rw [if_neg (by omega)]
  by_cases h4 : is4I (sh : Int) (sl : Int) = true
  · rw [if_pos h4]
    exact rtotal_of _ 12 (by simp [beB_len, psT4_len]) (by omega) _ _ _ _ _ g o c n l hn h0 hm hc hcm hb (fun W => rpseudo4 p sh sl dh dl n (by omega) (by omega) (by omega) (by omega) h4 (by rw [hf]; exact h4) (by omega) hp hm W)
  · rw [if_neg h4]
    have h4 := eq_false_of_ne_true h4
    exact rtotal_of _ 40 (by simp [beB_len, psT16_len]) (by omega) _ _ _ _ _ g o c n l hn h0 hm hc hcm hb (fun W => rpseudo16 p sh sl dh dl n (by omega) (by omega) (by omega) (by omega) h4 (by rw [hf]; exact h4) (by omega) hp hm W)
end Go.Proofs.Ytpmbdjdhgcjkfaa
