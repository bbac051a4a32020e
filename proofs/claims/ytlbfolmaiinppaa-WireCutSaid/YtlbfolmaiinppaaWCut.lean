/- WireCut's walk; by-name template (gen_wcut.py). -/
import Derived.Test.YtlbfolmaiinppaaWRParse
namespace Go.Proofs.Ytlbfolmaiinppaa
open Go.RowKit Go.Sort
set_option linter.unusedVariables false
set_option linter.unusedSimpArgs false

theorem BytArg.take {w : World} {A : Option Addr} {n c : Nat} {l : List UInt8} (h : BytArg w A n c l) {m : Nat} (hm : m ≤ n) : BytArg w A m c (l.take m) :=
  ⟨by rw [List.length_take, h.1]; omega, Nat.le_trans hm h.2.1, h.2.2.1, fun h0 => by
    obtain ⟨g, o, e, hs⟩ := h.2.2.2 (by omega)
    exact ⟨g, o, e, by have := hs.sub 0 m; simpa using this⟩⟩

set_option maxHeartbeats 2000000 in
set_option maxRecDepth 100000 in
theorem cut_long (A : Option Addr) (n c : Nat) (x : Int) (h : 65536 < n) (hm : n ≤ 9223372036854775807) (w : World) :
    Calls Try.prog 4 #[.slice A n c, .int .i64 x] w fun e w' => e = .returned (.bool true) ∧ Below w.heap.size w w' := by
  have cl := long_any A n c hm w
  rw [show decide (65536 < n) = true by simp; omega] at cl
  go_enter Try.func4, Try.ntmps4
  go_wp2_with (go_at_call 9; refine cl.mono ?_; rintro e w' ⟨rfl, rfl⟩)
  go_ret
  exact ⟨rfl, Below.refl _ _⟩

set_option maxHeartbeats 2000000 in
set_option maxRecDepth 100000 in
theorem cut_bad (A : Option Addr) (n c : Nat) (l : List UInt8) (x : Int) (h : n ≤ 65536) {w : World} (hb : BytArg w A n c l) (h1 : (parseP l).2 ≠ 0) :
    Calls Try.prog 4 #[.slice A n c, .int .i64 x] w fun e w' => e = .returned (.bool true) ∧ Below w.heap.size w w' := by
  have cp := fun (W : World) (h : Below w.heap.size w W) => parse_any A n c l (hb.below h)
  have cr := fun (W : World) (h : Below w.heap.size w W) => rparse_any A n c l (hb.below h)
  have ez := parseP_bad h1
  rw [ez] at cp cr
  generalize (parseP l).2 = er at *
  simp only [vcells, zvw] at cp cr
  have e0 : (er != 0) = true := by simpa using h1
  have e1 : (er != er) = false := by simp
  clear hb ez h1
  have cl := long_any A n c (by omega) w
  rw [show decide (65536 < n) = false by simp; omega] at cl
  go_enter Try.func4, Try.ntmps4
  go_wp2_with (first | (go_at_call 9; refine cl.mono ?_; rintro e w' ⟨rfl, rfl⟩) | (go_at_call 12; refine (cp _ (Below.refl _ _)).mono ?_; rintro e w2 ⟨rfl, hb2⟩; refine Hid.out ?_))
  refine Lib.hid ?_
  go_wp2_with (with_reducible refine stop_op (o := ⟨some 22, _, _, _, _, _⟩) ?_)
  obtain ⟨w3, hw3⟩ : ∃ x, x = w2.alloc (.cells #[.bool false, .int .i64 0, .int .i64 0, .int .i64 0, .int .i64 0, .int .u64 0, .int .u64 0, .int .u64 0, .int .u64 0, .bool false, .int .u32 0, .int .i64 0, .bool false] 40) := ⟨_, rfl⟩
  have hV3 : w3.heap[w2.heap.size]? = some (.cells #[.bool false, .int .i64 0, .int .i64 0, .int .i64 0, .int .i64 0, .int .u64 0, .int .u64 0, .int .u64 0, .int .u64 0, .bool false, .int .u32 0, .int .i64 0, .bool false] 40 (0, 0)) := by rw [hw3]; exact al_neww rfl _
  have bw3 : Below w.heap.size w w3 := by rw [hw3]; exact Below.al hb2 _
  rw [← hw3]
  clear hw3
  refine Lib.hid ?_
  go_wp2_with (go_at_call 13; refine (cr _ bw3).mono ?_; rintro e w4 ⟨rfl, hb4⟩; refine Hid.out ?_)
  have bw4 : Below w.heap.size w w4 := bw3.trans (hb4.mono bw3.size)
  have hV4 := hV_keep hb4 hV3
  have hz4 : w2.heap.size < w4.heap.size := (Array.getElem?_eq_some_iff.1 hV4).1
  clear hV3 hb4 hb2 cr cl
  refine Lib.hid ?_
  go_wp2_with (with_reducible refine stop_op (o := ⟨some 27, _, _, _, _, _⟩) ?_)
  obtain ⟨w5, hw5⟩ : ∃ x, x = w4.alloc (.cells #[.bool false, .int .i64 0, .int .i64 0, .int .i64 0, .int .i64 0, .int .u64 0, .int .u64 0, .int .u64 0, .int .u64 0, .bool false, .int .u32 0, .int .i64 0, .bool false] 43) := ⟨_, rfl⟩
  have hU5 : w5.heap[w4.heap.size]? = some (.cells #[.bool false, .int .i64 0, .int .i64 0, .int .i64 0, .int .i64 0, .int .u64 0, .int .u64 0, .int .u64 0, .int .u64 0, .bool false, .int .u32 0, .int .i64 0, .bool false] 43 (0, 0)) := by rw [hw5]; exact al_neww rfl _
  have hV5 : w5.heap[w2.heap.size]? = some (.cells #[.bool false, .int .i64 0, .int .i64 0, .int .i64 0, .int .i64 0, .int .u64 0, .int .u64 0, .int .u64 0, .int .u64 0, .bool false, .int .u32 0, .int .i64 0, .bool false] 40 (0, 0)) := by rw [hw5, al_oldw hz4]; exact hV4
  have bw5 : Below w.heap.size w w5 := by rw [hw5]; exact Below.al bw4 _
  rw [← hw5]
  clear hw5 hV4 bw4 bw3
  obtain ⟨⟨t0, t1, t2, t3, t4, t5, t6, t7, t8, t9, t10, t11, t12⟩, _⟩ := cells13 hV5
  obtain ⟨⟨u0, u1, u2, u3, u4, u5, u6, u7, u8, u9, u10, u11, u12⟩, _⟩ := cells13 hU5
  refine Lib.hid ?_
  go_wp2
  go_ret
  exact ⟨rfl, bw5⟩

set_option maxHeartbeats 2000000 in
set_option maxRecDepth 100000 in
theorem cut_ok (g o n c : Nat) (l : List UInt8) (x : Int) (h : n ≤ 65536) (hc : n ≤ c) (hcm : c ≤ 9223372036854775807) (hx : -9223372036854775808 ≤ x ∧ x < 9223372036854775808) {w : World} (hb : BytArg w (some ⟨g, o, none⟩) n c l) (h1 : (parseP l).2 = 0) :
    Calls Try.prog 4 #[.slice (some ⟨g, o, none⟩) n c, .int .i64 x] w fun e w' => e = .returned (.bool true) ∧ Below w.heap.size w w' := by
  obtain ⟨hd, tt, e1, e2, k1, k2, k3, k4, k5⟩ := parseP_ends h1
  rw [hb.1] at k4 k5
  obtain ⟨p, q, j, m1, m2, m3, m4, m5, m6, m7, m8⟩ := place x tt (by omega)
  have cp := fun (W : World) (h : Below w.heap.size w W) => parse_any (some ⟨g, o, none⟩) n c l (hb.below h)
  have cr := fun (W : World) (h : Below w.heap.size w W) => rparse_any (some ⟨g, o, none⟩) n c l (hb.below h)
  have cj := fun (W : World) (h : Below w.heap.size w W) => parse_any (some ⟨g, o, none⟩) j c (l.take j) ((hb.take (by omega)).below h)
  have ct := fun (W : World) (h : Below w.heap.size w W) => parse_any (some ⟨g, o, none⟩) tt c (l.take tt) ((hb.take (by omega)).below h)
  rw [parseP_cut h1 (by rw [e2]; omega)] at cj
  rw [parseP_whole h1 e2] at ct
  have sj := cut_h g o n c j (by omega) hcm
  have st := cut_h g o n c tt (by omega) hcm
  generalize parseP l = r at *
  obtain ⟨v, er⟩ := r
  simp only [vcells, zvw] at *
  obtain rfl : er = 0 := h1
  obtain ⟨v6, vhd, vtt, vttl, vpr, sH, sL, dH, dL, fr, vid, voff, mo⟩ := v
  simp only at *
  obtain rfl : vtt = (tt : Int) := e2
  clear e1 hb
  have tp : (0 : Int) < (tt : Int) := by omega
  have tn : ((tt : Int) == 0) = false := by simp; omega
  have tz2 : ¬ tt = 0 := by omega
  have tz3 : ¬ (tt : Int) = -1 := by omega
  have tn2 : (tt == 0) = false := by simp; omega
  have wp : IntKind.i64.wrap p = p := by rw [IntKind.wrap_i64]; omega
  have wq2 : IntKind.i64.wrap (q : Int) = (q : Int) := by rw [IntKind.wrap_i64]; omega
  have wj : IntKind.i64.wrap (j : Int) = (j : Int) := by rw [IntKind.wrap_i64]; omega
  have wq : IntKind.i64.wrap (p + (tt : Int)) = (q : Int) := by rw [IntKind.wrap_i64]; omega
  have tb : (tt : Int) < 2049 := by omega
  have qb : (q : Int) < 5000 := by omega
  have jb : (j : Int) < 2049 := by omega
  have hx0 := hx.1
  have hx1 := hx.2
  clear hx
  have cl := long_any (some ⟨g, o, none⟩) n c (by omega) w
  rw [show decide (65536 < n) = false by simp; omega] at cl
  go_enter Try.func4, Try.ntmps4
  go_wp2_with (first | (go_at_call 9; refine cl.mono ?_; rintro e w' ⟨rfl, rfl⟩) | (go_at_call 12; refine (cp _ (Below.refl _ _)).mono ?_; rintro e w2 ⟨rfl, hb2⟩; refine Hid.out ?_))
  refine Lib.hid ?_
  go_wp2_with (with_reducible refine stop_op (o := ⟨some 22, _, _, _, _, _⟩) ?_)
  obtain ⟨w3, hw3⟩ : ∃ x, x = w2.alloc (.cells #[.bool v6, .int .i64 vhd, .int .i64 (tt : Int), .int .i64 vttl, .int .i64 vpr, .int .u64 sH, .int .u64 sL, .int .u64 dH, .int .u64 dL, .bool fr, .int .u32 vid, .int .i64 voff, .bool mo] 40) := ⟨_, rfl⟩
  have hV3 : w3.heap[w2.heap.size]? = some (.cells #[.bool v6, .int .i64 vhd, .int .i64 (tt : Int), .int .i64 vttl, .int .i64 vpr, .int .u64 sH, .int .u64 sL, .int .u64 dH, .int .u64 dL, .bool fr, .int .u32 vid, .int .i64 voff, .bool mo] 40 (0, 0)) := by rw [hw3]; exact al_neww rfl _
  have bw3 : Below w.heap.size w w3 := by rw [hw3]; exact Below.al hb2 _
  rw [← hw3]
  clear hw3
  refine Lib.hid ?_
  go_wp2_with (go_at_call 13; refine (cr _ bw3).mono ?_; rintro e w4 ⟨rfl, hb4⟩; refine Hid.out ?_)
  have bw4 : Below w.heap.size w w4 := bw3.trans (hb4.mono bw3.size)
  have hV4 := hV_keep hb4 hV3
  have hz4 : w2.heap.size < w4.heap.size := (Array.getElem?_eq_some_iff.1 hV4).1
  clear hV3 hb4 hb2 cr cl
  refine Lib.hid ?_
  go_wp2_with (with_reducible refine stop_op (o := ⟨some 27, _, _, _, _, _⟩) ?_)
  obtain ⟨w5, hw5⟩ : ∃ x, x = w4.alloc (.cells #[.bool v6, .int .i64 vhd, .int .i64 (tt : Int), .int .i64 vttl, .int .i64 vpr, .int .u64 sH, .int .u64 sL, .int .u64 dH, .int .u64 dL, .bool fr, .int .u32 vid, .int .i64 voff, .bool mo] 43) := ⟨_, rfl⟩
  have hU5 : w5.heap[w4.heap.size]? = some (.cells #[.bool v6, .int .i64 vhd, .int .i64 (tt : Int), .int .i64 vttl, .int .i64 vpr, .int .u64 sH, .int .u64 sL, .int .u64 dH, .int .u64 dL, .bool fr, .int .u32 vid, .int .i64 voff, .bool mo] 43 (0, 0)) := by rw [hw5]; exact al_neww rfl _
  have hV5 : w5.heap[w2.heap.size]? = some (.cells #[.bool v6, .int .i64 vhd, .int .i64 (tt : Int), .int .i64 vttl, .int .i64 vpr, .int .u64 sH, .int .u64 sL, .int .u64 dH, .int .u64 dL, .bool fr, .int .u32 vid, .int .i64 voff, .bool mo] 40 (0, 0)) := by rw [hw5, al_oldw hz4]; exact hV4
  have bw5 : Below w.heap.size w w5 := by rw [hw5]; exact Below.al bw4 _
  rw [← hw5]
  clear hw5 hV4 bw4 bw3
  obtain ⟨⟨t0, t1, t2, t3, t4, t5, t6, t7, t8, t9, t10, t11, t12⟩, _⟩ := cells13 hV5
  obtain ⟨⟨u0, u1, u2, u3, u4, u5, u6, u7, u8, u9, u10, u11, u12⟩, _⟩ := cells13 hU5
  refine Lib.hid ?_
  go_wp2_with fail
  have k2 := cell_regrown t2
  have hz5 : w2.heap.size < w5.heap.size := (Array.getElem?_eq_some_iff.1 hV5).1
  clear t0 t1 t2 t3 t4 t5 t6 t7 t8 t9 t10 t11 t12 u0 u1 u2 u3 u4 u5 u6 u7 u8 u9 u10 u11 u12
  refine wp_region_quiet_below (by kernel_rfl) (by kernel_rfl) ?_
  repeat (first | go_big_quiet_skip | quiet_step (fail))
  refine wpQuiet_nil ?_
  intro _ hw'
  obtain ⟨⟨dq, osq⟩, hw''⟩ := hw'
  subst hw''
  obtain ⟨w6, hw6⟩ : ∃ v, v = grow (redrawn w5 dq) osq := ⟨_, rfl⟩
  have b56 : Below w5.heap.size w5 w6 := by rw [hw6]; exact below_regrown _ _ _
  have bw : Below w.heap.size w w6 := bw5.trans (b56.mono bw5.size)
  have hV := hV_keep b56 hV5
  rw [← hw6]
  clear hw6 b56 k2 hV5 bw5 hU5
  obtain ⟨⟨t0, t1, t2, t3, t4, t5, t6, t7, t8, t9, t10, t11, t12⟩, _⟩ := cells13 hV
  go_wp2_with (go_at_call 12; refine (cj _ bw).mono ?_; rintro e w7 ⟨rfl, hbx⟩; refine Hid.out ?_)
  have hV7 := hV_keep hbx hV
  have bwn : Below w.heap.size w w7 := bw.trans (hbx.mono bw.size)
  clear hbx hV bw cj sj t0 t1 t2 t3 t4 t5 t6 t7 t8 t9 t10 t11 t12
  have hV := hV7
  have bw := bwn
  clear hV7 bwn
  refine Lib.hid ?_
  go_wp2_with (with_reducible refine stop_op (o := ⟨some 58, _, _, _, _, _⟩) ?_)
  obtain ⟨w8, hwn⟩ : ∃ x, x = w7.alloc (.cells #[.bool false, .int .i64 0, .int .i64 0, .int .i64 0, .int .i64 0, .int .u64 0, .int .u64 0, .int .u64 0, .int .u64 0, .bool false, .int .u32 0, .int .i64 0, .bool false] 40) := ⟨_, rfl⟩
  have hN_w8 : w8.heap[w7.heap.size]? = some (.cells #[.bool false, .int .i64 0, .int .i64 0, .int .i64 0, .int .i64 0, .int .u64 0, .int .u64 0, .int .u64 0, .int .u64 0, .bool false, .int .u32 0, .int .i64 0, .bool false] 40 (0, 0)) := by rw [hwn]; exact al_neww rfl _
  have hVn := (show w8.heap[w2.heap.size]? = some (.cells #[.bool v6, .int .i64 vhd, .int .i64 (tt : Int), .int .i64 vttl, .int .i64 vpr, .int .u64 sH, .int .u64 sL, .int .u64 dH, .int .u64 dL, .bool fr, .int .u32 vid, .int .i64 voff, .bool mo] 40 (0, 0)) by rw [hwn, al_oldw (Array.getElem?_eq_some_iff.1 hV).1]; exact hV)
  have bwn : Below w.heap.size w w8 := by rw [hwn]; exact Below.al bw _
  rw [← hwn]
  clear hwn bw hV
  have bw := bwn
  clear bwn
  have hV := hVn
  clear hVn
  obtain ⟨⟨t0, t1, t2, t3, t4, t5, t6, t7, t8, t9, t10, t11, t12⟩, _⟩ := cells13 hV
  refine Lib.hid ?_
  go_wp2_with (go_at_call 12; refine (ct _ bw).mono ?_; rintro e w9 ⟨rfl, hbx⟩; refine Hid.out ?_)
  have hV7 := hV_keep hbx hV
  have bwn : Below w.heap.size w w9 := bw.trans (hbx.mono bw.size)
  clear hbx hV bw ct st hN_w8 t0 t1 t2 t3 t4 t5 t6 t7 t8 t9 t10 t11 t12
  have hV := hV7
  have bw := bwn
  clear hV7 bwn
  refine Lib.hid ?_
  go_wp2_with (with_reducible refine stop_op (o := ⟨some 64, _, _, _, _, _⟩) ?_)
  obtain ⟨w10, hwn⟩ : ∃ x, x = w9.alloc (.cells #[.bool v6, .int .i64 vhd, .int .i64 (tt : Int), .int .i64 vttl, .int .i64 vpr, .int .u64 sH, .int .u64 sL, .int .u64 dH, .int .u64 dL, .bool fr, .int .u32 vid, .int .i64 voff, .bool mo] 40) := ⟨_, rfl⟩
  have hN_w10 : w10.heap[w9.heap.size]? = some (.cells #[.bool v6, .int .i64 vhd, .int .i64 (tt : Int), .int .i64 vttl, .int .i64 vpr, .int .u64 sH, .int .u64 sL, .int .u64 dH, .int .u64 dL, .bool fr, .int .u32 vid, .int .i64 voff, .bool mo] 40 (0, 0)) := by rw [hwn]; exact al_neww rfl _
  have hVn := (show w10.heap[w2.heap.size]? = some (.cells #[.bool v6, .int .i64 vhd, .int .i64 (tt : Int), .int .i64 vttl, .int .i64 vpr, .int .u64 sH, .int .u64 sL, .int .u64 dH, .int .u64 dL, .bool fr, .int .u32 vid, .int .i64 voff, .bool mo] 40 (0, 0)) by rw [hwn, al_oldw (Array.getElem?_eq_some_iff.1 hV).1]; exact hV)
  have bwn : Below w.heap.size w w10 := by rw [hwn]; exact Below.al bw _
  rw [← hwn]
  clear hwn bw hV
  have bw := bwn
  clear bwn
  have hV := hVn
  clear hVn
  obtain ⟨⟨t0, t1, t2, t3, t4, t5, t6, t7, t8, t9, t10, t11, t12⟩, _⟩ := cells13 hV
  obtain ⟨⟨u0, u1, u2, u3, u4, u5, u6, u7, u8, u9, u10, u11, u12⟩, _⟩ := cells13 hN_w10
  refine Lib.hid ?_
  go_wp2
  go_ret
  exact ⟨rfl, bw⟩

/-- WireCut. -/
theorem cut_any (A : Option Addr) (n c : Nat) (l : List UInt8) (x : Int) {w : World} (h : BytArg w A n c l) (hx : -9223372036854775808 ≤ x ∧ x < 9223372036854775808) :
    Calls Try.prog 4 #[.slice A n c, .int .i64 x] w fun e w' => e = .returned (.bool true) ∧ Below w.heap.size w w' := by
  obtain ⟨hn, hc, hcm, hs⟩ := id h
  unfold maxLen at hcm
  by_cases h0 : 65536 < n
  · exact cut_long A n c x h0 (by omega) w
  by_cases h1 : (parseP l).2 = 0
  · obtain ⟨hd, tt, e1, e2, k1, k2, k3, k4, k5⟩ := parseP_ends h1
    obtain ⟨g, o, rfl, _⟩ := hs (by omega)
    exact cut_ok g o n c l x (by omega) hc hcm hx h h1
  · exact cut_bad A n c l x (by omega) h h1
end Go.Proofs.Ytlbfolmaiinppaa
