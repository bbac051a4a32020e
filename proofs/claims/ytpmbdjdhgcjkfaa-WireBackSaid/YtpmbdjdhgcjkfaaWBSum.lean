/- A body's check sum: the program's bodySum; by-name template (gen_wbsum.py). -/
import Derived.Test.YtpmbdjdhgcjkfaaWPseudo
namespace Go.Proofs.Ytpmbdjdhgcjkfaa
open Go.RowKit Go.Sort
set_option linter.unusedVariables false
set_option linter.unusedSimpArgs false

theorem sumP_app {a b : List UInt8} (h : a.length % 2 = 0) : sumP (a ++ b) = 65535 - f16 (w16 a + w16 b) := by unfold sumP; rw [w16_app a b h]
theorem psT4_len (p s : Nat) : (psT4 p s).length = 4 := rfl
theorem psT16_len (p s : Nat) : (psT16 p s).length = 8 := rfl

set_option maxHeartbeats 600000 in
set_option maxRecDepth 100000 in
theorem bsum_icmp (vv : Bool) (vhd vtt vttl : Int) (p sh sl dh dl : Nat) (vfr : Bool) (vid voff : Int) (vmo : Bool) (g o c n : Nat) (l : List UInt8) (hn : l.length = n) (h0 : 0 < n) (hm : n ≤ 65540) (hc : n ≤ c) (hcm : c ≤ 9223372036854775807) {w : World} (hb : Byt w g o l) (hp : p = 1) :
    Calls Try.prog 71 #[.slice (some ⟨g, o, none⟩) n c, .agg #[.bool vv, .int .i64 vhd, .int .i64 vtt, .int .i64 vttl, .int .i64 (p : Nat), .int .u64 (sh : Nat), .int .u64 (sl : Nat), .int .u64 (dh : Nat), .int .u64 (dl : Nat), .bool vfr, .int .u32 vid, .int .i64 voff, .bool vmo]] w fun e w' => e = .returned (.int .i64 (sumP l : Nat)) ∧ Below w.heap.size w w' := by
  have cs := fun (W : World) (h : Below w.heap.size w W) => sum_any g o c n l hn hc hcm hm (hb.below h)
  generalize sumP l = S at *
  have b1 : ((p : Int) == 1) = true := by subst hp; rfl
  clear hb hn hp
  go_enter Try.func71, Try.ntmps71
  go_wp2_with (with_reducible refine stop_op (o := ⟨some 6, _, _, _, _, _⟩) ?_)
  obtain ⟨w1, hw1⟩ : ∃ x, x = w.alloc (.cells #[.bool vv, .int .i64 vhd, .int .i64 vtt, .int .i64 vttl, .int .i64 (p : Nat), .int .u64 (sh : Nat), .int .u64 (sl : Nat), .int .u64 (dh : Nat), .int .u64 (dl : Nat), .bool vfr, .int .u32 vid, .int .i64 voff, .bool vmo] 40) := ⟨_, rfl⟩
  have hV : w1.heap[w.heap.size]? = some (.cells #[.bool vv, .int .i64 vhd, .int .i64 vtt, .int .i64 vttl, .int .i64 (p : Nat), .int .u64 (sh : Nat), .int .u64 (sl : Nat), .int .u64 (dh : Nat), .int .u64 (dl : Nat), .bool vfr, .int .u32 vid, .int .i64 voff, .bool vmo] 40 (0, 0)) := by rw [hw1]; exact al_neww rfl _
  have bw1 : Below w.heap.size w w1 := by rw [hw1]; exact Below.al (Below.refl _ _) _
  rw [← hw1]
  clear hw1
  obtain ⟨⟨v0, v1, v2, v3, v4, v5, v6, v7, v8, v9, v10, v11, v12⟩, _⟩ := cells13 hV
  refine Lib.hid ?_
  go_wp2_with (go_at_call 15; refine (cs _ bw1).mono ?_; rintro e w' ⟨rfl, rfl⟩)
  go_ret
  exact ⟨rfl, bw1⟩

set_option maxHeartbeats 600000 in
set_option maxRecDepth 100000 in
theorem bsum_4 (vv : Bool) (vhd vtt vttl : Int) (p sh sl dh dl : Nat) (vfr : Bool) (vid voff : Int) (vmo : Bool) (g o c n : Nat) (l : List UInt8) (hn : l.length = n) (h0 : 0 < n) (hm : n ≤ 65540) (hc : n ≤ c) (hcm : c ≤ 9223372036854775807) (h1 : sh < 18446744073709551616) (h2 : sl < 18446744073709551616) (h3 : dh < 18446744073709551616) (h4 : dl < 18446744073709551616)
    (hs4 : is4I (sh : Int) (sl : Int) = true) (hd4 : is4I (dh : Int) (dl : Int) = true) (hp : p < 256) (hz : n < 65536) {w : World} (hb : Byt w g o l) (hp1 : p ≠ 1) :
    Calls Try.prog 71 #[.slice (some ⟨g, o, none⟩) n c, .agg #[.bool vv, .int .i64 vhd, .int .i64 vtt, .int .i64 vttl, .int .i64 (p : Nat), .int .u64 (sh : Nat), .int .u64 (sl : Nat), .int .u64 (dh : Nat), .int .u64 (dl : Nat), .bool vfr, .int .u32 vid, .int .i64 voff, .bool vmo]] w fun e w' => e = .returned (.int .i64 (sumP (beB 4 sl ++ beB 4 dl ++ psT4 p n ++ l) : Nat)) ∧ Below w.heap.size w w' := by
  have cp := fun (W : World) => pseudo4 vv vhd vtt vttl p sh sl dh dl n vfr vid voff vmo h1 h2 h3 h4 hs4 hd4 hp hz W
  have hl : (beB 4 sl ++ beB 4 dl ++ psT4 p n).length = 12 := by simp [beB_len, psT4_len, psT16_len]
  have hsum := sumP_app (a := beB 4 sl ++ beB 4 dl ++ psT4 p n) (b := l) (by rw [hl])
  rw [hsum]
  have hwl := w16_le (beB 4 sl ++ beB 4 dl ++ psT4 p n)
  rw [hl] at hwl
  have hwb := w16_le l
  rw [hn] at hwb
  have cwp := fun (W : World) (B cap : Nat) (hc' : 12 ≤ cap) (hcm' : cap ≤ maxLen) (hB : Byt W B 0 (beB 4 sl ++ beB 4 dl ++ psT4 p n)) => words_any B 0 cap 12 (beB 4 sl ++ beB 4 dl ++ psT4 p n) hl hc' (by unfold maxLen at hcm'; omega) (by omega) hB
  have cwb := fun (W : World) (h : Below w.heap.size w W) => words_any g o c n l hn hc hcm (by omega) (hb.below h)
  have cf := fold_any (w16 (beB 4 sl ++ beB 4 dl ++ psT4 p n) + w16 l) (by omega)
  generalize 65535 - f16 (w16 (beB 4 sl ++ beB 4 dl ++ psT4 p n) + w16 l) = R at *
  generalize (beB 4 sl ++ beB 4 dl ++ psT4 p n) = PS at *
  generalize w16 PS = WP at *
  generalize w16 l = WB at *
  have b1 : ((p : Int) == 1) = false := by simp; omega
  have wr : IntKind.u64.wrap ((WP : Int) + (WB : Int)) = ((WP + WB : Nat) : Int) := by rw [IntKind.wrap_u64]; omega
  have wr2 : (WP : Int) + (WB : Int) = ((WP + WB : Nat) : Int) := by omega
  obtain ⟨TT, hTT⟩ : ∃ T, T = WP + WB := ⟨_, rfl⟩
  rw [← hTT] at wr wr2 cf
  have hTb : TT < 68719476736 := by omega
  have hTi : (TT : Int) < 68719476736 := by omega
  have wr3 : IntKind.u64.wrap (TT : Int) = (TT : Int) := by rw [IntKind.wrap_u64]; omega
  have HTT := Lib.hid hTT
  clear hTT hb hn hp hp1 hs4 hd4 h1 h2 h3 h4 hl hsum hwl hwb
  go_enter Try.func71, Try.ntmps71
  go_wp2_with (with_reducible refine stop_op (o := ⟨some 6, _, _, _, _, _⟩) ?_)
  obtain ⟨w1, hw1⟩ : ∃ x, x = w.alloc (.cells #[.bool vv, .int .i64 vhd, .int .i64 vtt, .int .i64 vttl, .int .i64 (p : Nat), .int .u64 (sh : Nat), .int .u64 (sl : Nat), .int .u64 (dh : Nat), .int .u64 (dl : Nat), .bool vfr, .int .u32 vid, .int .i64 voff, .bool vmo] 40) := ⟨_, rfl⟩
  have hV : w1.heap[w.heap.size]? = some (.cells #[.bool vv, .int .i64 vhd, .int .i64 vtt, .int .i64 vttl, .int .i64 (p : Nat), .int .u64 (sh : Nat), .int .u64 (sl : Nat), .int .u64 (dh : Nat), .int .u64 (dl : Nat), .bool vfr, .int .u32 vid, .int .i64 voff, .bool vmo] 40 (0, 0)) := by rw [hw1]; exact al_neww rfl _
  have bw1 : Below w.heap.size w w1 := by rw [hw1]; exact Below.al (Below.refl _ _) _
  rw [← hw1]
  clear hw1
  obtain ⟨⟨v0, v1, v2, v3, v4, v5, v6, v7, v8, v9, v10, v11, v12⟩, _⟩ := cells13 hV
  refine Lib.hid ?_
  go_wp2_with (go_at_call 81; refine (cp _).mono ?_; rintro e w2 ⟨B, cap, rfl, hcap, hcm2, hB, hb2⟩; refine Hid.out ?_)
  have bw2 : Below w.heap.size w w2 := bw1.trans (hb2.mono bw1.size)
  have m1 := cwp w2 B cap hcap hcm2 hB
  have m2 := cwb w2 bw2
  clear hb2 hB cp cwp cwb v0 v1 v2 v3 v4 v5 v6 v7 v8 v9 v10 v11 v12
  refine Lib.hid ?_
  go_wp2_with (first | (go_at_call 52; (with_reducible refine m1.mono ?_); rintro e w' ⟨rfl, rfl⟩) | (go_at_call 52; (with_reducible refine m2.mono ?_); rintro e w' ⟨rfl, rfl⟩) | (go_at_call 51; (with_reducible refine (cf _).mono ?_); rintro e w' ⟨rfl, rfl⟩))
  go_ret
  exact ⟨rfl, bw2⟩

set_option maxHeartbeats 600000 in
set_option maxRecDepth 100000 in
theorem bsum_16 (vv : Bool) (vhd vtt vttl : Int) (p sh sl dh dl : Nat) (vfr : Bool) (vid voff : Int) (vmo : Bool) (g o c n : Nat) (l : List UInt8) (hn : l.length = n) (h0 : 0 < n) (hm : n ≤ 65540) (hc : n ≤ c) (hcm : c ≤ 9223372036854775807) (h1 : sh < 18446744073709551616) (h2 : sl < 18446744073709551616) (h3 : dh < 18446744073709551616) (h4 : dl < 18446744073709551616)
    (hs4 : is4I (sh : Int) (sl : Int) = false) (hd4 : is4I (dh : Int) (dl : Int) = false) (hp : p < 256) (hz : n < 65536) {w : World} (hb : Byt w g o l) (hp1 : p ≠ 1) :
    Calls Try.prog 71 #[.slice (some ⟨g, o, none⟩) n c, .agg #[.bool vv, .int .i64 vhd, .int .i64 vtt, .int .i64 vttl, .int .i64 (p : Nat), .int .u64 (sh : Nat), .int .u64 (sl : Nat), .int .u64 (dh : Nat), .int .u64 (dl : Nat), .bool vfr, .int .u32 vid, .int .i64 voff, .bool vmo]] w fun e w' => e = .returned (.int .i64 (sumP (beB 8 sh ++ beB 8 sl ++ (beB 8 dh ++ beB 8 dl) ++ psT16 p n ++ l) : Nat)) ∧ Below w.heap.size w w' := by
  have cp := fun (W : World) => pseudo16 vv vhd vtt vttl p sh sl dh dl n vfr vid voff vmo h1 h2 h3 h4 hs4 hd4 hp hz W
  have hl : (beB 8 sh ++ beB 8 sl ++ (beB 8 dh ++ beB 8 dl) ++ psT16 p n).length = 40 := by simp [beB_len, psT4_len, psT16_len]
  have hsum := sumP_app (a := beB 8 sh ++ beB 8 sl ++ (beB 8 dh ++ beB 8 dl) ++ psT16 p n) (b := l) (by rw [hl])
  rw [hsum]
  have hwl := w16_le (beB 8 sh ++ beB 8 sl ++ (beB 8 dh ++ beB 8 dl) ++ psT16 p n)
  rw [hl] at hwl
  have hwb := w16_le l
  rw [hn] at hwb
  have cwp := fun (W : World) (B cap : Nat) (hc' : 40 ≤ cap) (hcm' : cap ≤ maxLen) (hB : Byt W B 0 (beB 8 sh ++ beB 8 sl ++ (beB 8 dh ++ beB 8 dl) ++ psT16 p n)) => words_any B 0 cap 40 (beB 8 sh ++ beB 8 sl ++ (beB 8 dh ++ beB 8 dl) ++ psT16 p n) hl hc' (by unfold maxLen at hcm'; omega) (by omega) hB
  have cwb := fun (W : World) (h : Below w.heap.size w W) => words_any g o c n l hn hc hcm (by omega) (hb.below h)
  have cf := fold_any (w16 (beB 8 sh ++ beB 8 sl ++ (beB 8 dh ++ beB 8 dl) ++ psT16 p n) + w16 l) (by omega)
  generalize 65535 - f16 (w16 (beB 8 sh ++ beB 8 sl ++ (beB 8 dh ++ beB 8 dl) ++ psT16 p n) + w16 l) = R at *
  generalize (beB 8 sh ++ beB 8 sl ++ (beB 8 dh ++ beB 8 dl) ++ psT16 p n) = PS at *
  generalize w16 PS = WP at *
  generalize w16 l = WB at *
  have b1 : ((p : Int) == 1) = false := by simp; omega
  have wr : IntKind.u64.wrap ((WP : Int) + (WB : Int)) = ((WP + WB : Nat) : Int) := by rw [IntKind.wrap_u64]; omega
  have wr2 : (WP : Int) + (WB : Int) = ((WP + WB : Nat) : Int) := by omega
  obtain ⟨TT, hTT⟩ : ∃ T, T = WP + WB := ⟨_, rfl⟩
  rw [← hTT] at wr wr2 cf
  have hTb : TT < 68719476736 := by omega
  have hTi : (TT : Int) < 68719476736 := by omega
  have wr3 : IntKind.u64.wrap (TT : Int) = (TT : Int) := by rw [IntKind.wrap_u64]; omega
  have HTT := Lib.hid hTT
  clear hTT hb hn hp hp1 hs4 hd4 h1 h2 h3 h4 hl hsum hwl hwb
  go_enter Try.func71, Try.ntmps71
  go_wp2_with (with_reducible refine stop_op (o := ⟨some 6, _, _, _, _, _⟩) ?_)
  obtain ⟨w1, hw1⟩ : ∃ x, x = w.alloc (.cells #[.bool vv, .int .i64 vhd, .int .i64 vtt, .int .i64 vttl, .int .i64 (p : Nat), .int .u64 (sh : Nat), .int .u64 (sl : Nat), .int .u64 (dh : Nat), .int .u64 (dl : Nat), .bool vfr, .int .u32 vid, .int .i64 voff, .bool vmo] 40) := ⟨_, rfl⟩
  have hV : w1.heap[w.heap.size]? = some (.cells #[.bool vv, .int .i64 vhd, .int .i64 vtt, .int .i64 vttl, .int .i64 (p : Nat), .int .u64 (sh : Nat), .int .u64 (sl : Nat), .int .u64 (dh : Nat), .int .u64 (dl : Nat), .bool vfr, .int .u32 vid, .int .i64 voff, .bool vmo] 40 (0, 0)) := by rw [hw1]; exact al_neww rfl _
  have bw1 : Below w.heap.size w w1 := by rw [hw1]; exact Below.al (Below.refl _ _) _
  rw [← hw1]
  clear hw1
  obtain ⟨⟨v0, v1, v2, v3, v4, v5, v6, v7, v8, v9, v10, v11, v12⟩, _⟩ := cells13 hV
  refine Lib.hid ?_
  go_wp2_with (go_at_call 81; refine (cp _).mono ?_; rintro e w2 ⟨B, cap, rfl, hcap, hcm2, hB, hb2⟩; refine Hid.out ?_)
  have bw2 : Below w.heap.size w w2 := bw1.trans (hb2.mono bw1.size)
  have m1 := cwp w2 B cap hcap hcm2 hB
  have m2 := cwb w2 bw2
  clear hb2 hB cp cwp cwb v0 v1 v2 v3 v4 v5 v6 v7 v8 v9 v10 v11 v12
  refine Lib.hid ?_
  go_wp2_with (first | (go_at_call 52; (with_reducible refine m1.mono ?_); rintro e w' ⟨rfl, rfl⟩) | (go_at_call 52; (with_reducible refine m2.mono ?_); rintro e w' ⟨rfl, rfl⟩) | (go_at_call 51; (with_reducible refine (cf _).mono ?_); rintro e w' ⟨rfl, rfl⟩))
  go_ret
  exact ⟨rfl, bw2⟩
end Go.Proofs.Ytpmbdjdhgcjkfaa
