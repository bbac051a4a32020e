/- WireParses' walk; by-name template (gen_wparses.py). -/
import Derived.Test.YtpmbdjdhgcjkfaaWRParse
import Derived.Test.YtpmbdjdhgcjkfaaWRTran
import Derived.Test.YtpmbdjdhgcjkfaaWLent
import Derived.Test.YtpmbdjdhgcjkfaaWKey
import Derived.Test.YtpmbdjdhgcjkfaaWVok
import Derived.Lib.QuietBelow
namespace Go.Proofs.Ytpmbdjdhgcjkfaa
open Go.RowKit Go.Sort
set_option linter.unusedVariables false
set_option linter.unusedSimpArgs false

theorem parse_small (l : List UInt8) : (parseP l).1.total - (parseP l).1.head < 65536 := by
  by_cases h : (parseP l).2 = 0
  · obtain ⟨hd, tt, h1, h2, h3, h4, h5, h6, h7⟩ := parseP_ends h
    rw [h1, h2]; omega
  · rw [parseP_bad h]; simp [zvw]
theorem Byt.front {w : World} {g : Nat} {l m : List UInt8} (h : Byt w g 0 (l ++ m)) : Byt w g 0 l := by
  have := h.sub 0 l.length
  simpa using this
theorem Byt.mark {w : World} {g : Nat} {l : List UInt8} {n : Nat} (hn : l.length = n) (h : Byt w g 0 (l ++ [77])) : w.cell? ⟨g, n, none⟩ = some (.int .u8 77) := by
  have := h n 77 (by rw [List.getElem?_append_right (by omega), hn]; simp)
  rw [Nat.zero_add] at this
  exact this

set_option maxHeartbeats 4000000 in
set_option maxRecDepth 100000 in
theorem parses_long (A : Option Addr) (n c : Nat) (h : 65536 < n) (hm : n ≤ 9223372036854775807) (w : World) :
    Calls Try.prog 5 #[.slice A n c] w fun e w' => e = .returned (.bool true) ∧ Below w.heap.size w w' := by
  have cl := long_any A n c hm w
  rw [show decide (65536 < n) = true by simp; omega] at cl
  go_enter Try.func5, Try.ntmps5
  go_wp2_with (go_at_call 9; refine cl.mono ?_; rintro e w' ⟨rfl, rfl⟩)
  go_ret
  exact ⟨rfl, Below.refl _ _⟩

set_option maxHeartbeats 4000000 in
set_option maxRecDepth 100000 in
theorem parses_ok (A : Option Addr) (n c : Nat) (l : List UInt8) (h : n ≤ 65536) {w : World} (hb : BytA w A n c l) :
    Calls Try.prog 5 #[.slice A n c] w fun e w' => e = .returned (.bool true) ∧ Below w.heap.size w w' := by
  have hn := hb.1.1
  have cl := long_any A n c (by omega) w
  rw [show decide (65536 < n) = false by simp; omega] at cl
  have ct := lent_any A n c l h hb
  have cr := fun (W : World) (h : Below w.heap.size w W) => rparse_any A n c l (hb.1.below h)
  have cs := fun (W : World) (hW : Below w.heap.size w W) => rsum_arg A n c l (by omega) (hb.1.below hW)
  have cv := fun (W : World) (hW : Below w.heap.size w W) => conv_bytes (hb.1.below hW)
  have cu := fun (W : World) (hW : Below w.heap.size w W) => rtrans_any A n c l (parseP l).1 (vok_parse l) (hb.1.below hW) h (parse_small l)
  have pg := fun (g cx : Nat) (hcx : n + 1 ≤ cx) (hcm : cx ≤ maxLen) (W : World) (hW : Byt W g 0 (l ++ [77])) => (show BytArg W (some ⟨g, 0, none⟩) n cx l from ⟨hn, by omega, hcm, fun _ => ⟨g, 0, rfl, hW.front⟩⟩)
  have p1 := fun (g cx : Nat) (hcx : n + 1 ≤ cx) (hcm : cx ≤ maxLen) (W : World) (hW : Byt W g 0 (l ++ [77])) => parse_any (some ⟨g, 0, none⟩) n cx l (pg g cx hcx hcm W hW)
  have p2 := fun (g cx : Nat) (hcx : n + 1 ≤ cx) (hcm : cx ≤ maxLen) (W : World) (hW : Byt W g 0 (l ++ [77])) => sum_any g 0 cx n l hn (by omega) (by unfold maxLen at hcm; omega) (by omega) hW.front
  have p3 := fun (g cx : Nat) (hcx : n + 1 ≤ cx) (hcm : cx ≤ maxLen) (W : World) (hW : Byt W g 0 (l ++ [77])) => trans_any (some ⟨g, 0, none⟩) n cx l (parseP l).1 (vok_parse l) (pg g cx hcx hcm W hW) h (parse_small l)
  have p4 := fun (g cx : Nat) (hcx : n + 1 ≤ cx) (hcm : cx ≤ maxLen) (W : World) (hW : Byt W g 0 (l ++ [77])) => conv_bytes (pg g cx hcx hcm W hW)
  have pm := fun (g : Nat) (W : World) (hW : Byt W g 0 (l ++ [77])) => Byt.mark hn hW
  have k1 := fun (W : World) => key_any (parseP l).1 (transP l (parseP l).1).1 W
  have k2 := fun (W : World) => rkey_any (parseP l).1 (transP l (parseP l).1).1 W
  generalize transP l (parseP l).1 = t at *
  generalize parseP l = r at *
  generalize sumP l = S at *
  generalize strB l = X at *
  obtain ⟨v, er⟩ := r
  obtain ⟨vv, vhd, vtt, vttl, vp, vsH, vsL, vdH, vdL, vfr, vid, voff, vmo⟩ := v
  obtain ⟨t, er2⟩ := t
  obtain ⟨ts, td, tq, ta, tf, tw, ty, tc, th, tx⟩ := t
  simp only [vcells, tcells, kcells] at *
  have hni : (n : Int) ≤ 65536 := by omega
  have d1 : (er != er) = false := by simp
  have hlt : (n : Int) < (n : Int) + 1 := by omega
  have d2 : (er2 == er2) = true := by simp
  have d3 : ((S : Int) != (S : Int)) = false := by simp
  clear hb
  go_enter Try.func5, Try.ntmps5
  go_wp2_with (first | (go_at_call 9; refine cl.mono ?_; rintro e w' ⟨rfl, rfl⟩) | (go_at_call 14; refine ct.mono ?_; rintro e w2 ⟨g, cx, rfl, hcx, hcm, hY, _, bw⟩; refine Hid.out ?_))
  have sc := cut_h g 0 (n + 1) cx n (by omega) (by unfold maxLen at hcm; omega)
  have q1 := p1 g cx hcx hcm
  have q2 := p2 g cx hcx hcm
  have q3 := p3 g cx hcx hcm
  have q4 := p4 g cx hcx hcm
  have qm := pm g
  have ym := qm _ hY
  clear cl ct p1 p2 p3 p4 pg pm
  refine Lib.hid ?_
  go_wp2_with (go_at_call 12; refine (q1 _ hY).mono ?_; rintro e w3 ⟨rfl, hbx⟩; refine Hid.out ?_)
  have hYn := hY.below hbx
  clear hY
  have hY := hYn
  clear hYn
  have ymn := keepc hbx ym
  have bwn : Below w.heap.size w w3 := bw.trans (hbx.mono bw.size)
  clear hbx  bw ym 
  have bw := bwn
  have ym := ymn
  clear bwn ymn 
  clear q1
  refine Lib.hid ?_
  go_wp2_with (with_reducible refine stop_op (o := ⟨some 26, _, _, _, _, _⟩) ?_)
  obtain ⟨w4, hwn⟩ : ∃ x, x = w3.alloc (.cells #[.bool vv, .int .i64 vhd, .int .i64 vtt, .int .i64 vttl, .int .i64 vp, .int .u64 vsH, .int .u64 vsL, .int .u64 vdH, .int .u64 vdL, .bool vfr, .int .u32 vid, .int .i64 voff, .bool vmo] 40) := ⟨_, rfl⟩
  have hV : w4.heap[w3.heap.size]? = some (.cells #[.bool vv, .int .i64 vhd, .int .i64 vtt, .int .i64 vttl, .int .i64 vp, .int .u64 vsH, .int .u64 vsL, .int .u64 vdH, .int .u64 vdL, .bool vfr, .int .u32 vid, .int .i64 voff, .bool vmo] 40 (0, 0)) := by rw [hwn]; exact al_neww rfl _
  have hbx : Below w3.heap.size w3 w4 := by rw [hwn]; exact Below.al (Below.refl _ _) _
  rw [← hwn]
  clear hwn
  have hYn := hY.below hbx
  clear hY
  have hY := hYn
  clear hYn
  have ymn := keepc hbx ym
  have bwn : Below w.heap.size w w4 := bw.trans (hbx.mono bw.size)
  clear hbx  bw ym 
  have bw := bwn
  have ym := ymn
  clear bwn ymn 
  obtain ⟨⟨a0, a1, a2, a3, a4, a5, a6, a7, a8, a9, a10, a11, a12⟩, _⟩ := cells13 hV
  refine Lib.hid ?_
  go_wp2_with (go_at_call 13; refine (cr _ bw).mono ?_; rintro e w5 ⟨rfl, hbx⟩; refine Hid.out ?_)
  have hYn := hY.below hbx
  clear hY
  have hY := hYn
  clear hYn
  have hVn := hV_keep hbx hV
  have ymn := keepc hbx ym
  have bwn : Below w.heap.size w w5 := bw.trans (hbx.mono bw.size)
  clear hbx hV bw ym a0 a1 a2 a3 a4 a5 a6 a7 a8 a9 a10 a11 a12
  have hV := hVn
  have bw := bwn
  have ym := ymn
  clear bwn ymn hVn
  obtain ⟨⟨a0, a1, a2, a3, a4, a5, a6, a7, a8, a9, a10, a11, a12⟩, _⟩ := cells13 hV
  clear cr
  refine Lib.hid ?_
  go_wp2_with (with_reducible refine stop_op (o := ⟨some 31, _, _, _, _, _⟩) ?_)
  obtain ⟨w6, hwn⟩ : ∃ x, x = w5.alloc (.cells #[.bool vv, .int .i64 vhd, .int .i64 vtt, .int .i64 vttl, .int .i64 vp, .int .u64 vsH, .int .u64 vsL, .int .u64 vdH, .int .u64 vdL, .bool vfr, .int .u32 vid, .int .i64 voff, .bool vmo] 43) := ⟨_, rfl⟩
  have hU : w6.heap[w5.heap.size]? = some (.cells #[.bool vv, .int .i64 vhd, .int .i64 vtt, .int .i64 vttl, .int .i64 vp, .int .u64 vsH, .int .u64 vsL, .int .u64 vdH, .int .u64 vdL, .bool vfr, .int .u32 vid, .int .i64 voff, .bool vmo] 43 (0, 0)) := by rw [hwn]; exact al_neww rfl _
  have hbx : Below w5.heap.size w5 w6 := by rw [hwn]; exact Below.al (Below.refl _ _) _
  rw [← hwn]
  clear hwn
  have hYn := hY.below hbx
  clear hY
  have hY := hYn
  clear hYn
  have hVn := hV_keep hbx hV
  have ymn := keepc hbx ym
  have bwn : Below w.heap.size w w6 := bw.trans (hbx.mono bw.size)
  clear hbx hV bw ym a0 a1 a2 a3 a4 a5 a6 a7 a8 a9 a10 a11 a12
  have hV := hVn
  have bw := bwn
  have ym := ymn
  clear bwn ymn hVn
  obtain ⟨⟨a0, a1, a2, a3, a4, a5, a6, a7, a8, a9, a10, a11, a12⟩, _⟩ := cells13 hV
  obtain ⟨⟨b0, b1, b2, b3, b4, b5, b6, b7, b8, b9, b10, b11, b12⟩, _⟩ := cells13 hU
  refine Lib.hid ?_
  have u2 := q2 _ hY
  have us := cs _ bw
  clear q2 cs
  go_wp2_with (first | (go_at_call 15; refine u2.mono ?_; rintro e w' ⟨rfl, hw'⟩; subst hw') | (go_at_call 16; refine us.mono ?_; rintro e w' ⟨rfl, hw'⟩; subst hw') | fail)
  clear u2 us
  have hC1 : ∀ w', Below w6.heap.size w6 w' → w'.cell? ⟨w3.heap.size, 0, none⟩ = some (.bool vv) ∧ w'.cell? ⟨w3.heap.size, 1, none⟩ = some (.int .i64 vhd) ∧ w'.cell? ⟨w3.heap.size, 2, none⟩ = some (.int .i64 vtt) ∧ w'.cell? ⟨w3.heap.size, 3, none⟩ = some (.int .i64 vttl) ∧ w'.cell? ⟨w3.heap.size, 4, none⟩ = some (.int .i64 vp) ∧ w'.cell? ⟨w3.heap.size, 5, none⟩ = some (.int .u64 vsH) ∧ w'.cell? ⟨w3.heap.size, 6, none⟩ = some (.int .u64 vsL) ∧ w'.cell? ⟨w3.heap.size, 7, none⟩ = some (.int .u64 vdH) ∧ w'.cell? ⟨w3.heap.size, 8, none⟩ = some (.int .u64 vdL) ∧ w'.cell? ⟨w3.heap.size, 9, none⟩ = some (.bool vfr) ∧ w'.cell? ⟨w3.heap.size, 10, none⟩ = some (.int .u32 vid) ∧ w'.cell? ⟨w3.heap.size, 11, none⟩ = some (.int .i64 voff) ∧ w'.cell? ⟨w3.heap.size, 12, none⟩ = some (.bool vmo) := fun w' h => ⟨keepc h a0, keepc h a1, keepc h a2, keepc h a3, keepc h a4, keepc h a5, keepc h a6, keepc h a7, keepc h a8, keepc h a9, keepc h a10, keepc h a11, keepc h a12⟩
  have p3 := fun (W : World) (h : Below w6.heap.size w6 W) => q3 W (hY.below h)
  clear q3
  go_cut [8, 9] from 47 (fun v8 v9 wr => ∃ B, v8 = .pointer (some ⟨B, 0, none⟩) ∧ v9 = .int .i64 er2 ∧ w6.heap.size ≤ B ∧ Below w6.heap.size w6 wr ∧ wr.heap[B]? = some (.cells #[.int .i64 ts, .int .i64 td, .int .u32 tq, .int .u32 ta, .int .i64 tf, .int .i64 tw, .int .i64 ty, .int .i64 tc, .int .i64 th, .int .i64 tx] 50 (0, 0)))
  case first =>
    clear cu cv k1 k2 q4 qm hU hV bw ym hY hn d1 d2 d3 hlt a0 a1 a2 a3 a4 a5 a6 a7 a8 a9 a10 a11 a12 b0 b1 b2 b3 b4 b5 b6 b7 b8 b9 b10 b11 b12
    have hz : ∀ w, (zeroValue 50).run Try.prog w = .ok (.agg #[.int .i64 0, .int .i64 0, .int .u32 0, .int .u32 0, .int .i64 0, .int .i64 0, .int .i64 0, .int .i64 0, .int .i64 0, .int .i64 0]) w := fun w => by kernel_rfl
    refine wp_region_held (S := (fun w' => Below w6.heap.size w6 w' ∧ w'.cell? ⟨w3.heap.size, 0, none⟩ = some (.bool vv) ∧ w'.cell? ⟨w3.heap.size, 1, none⟩ = some (.int .i64 vhd) ∧ w'.cell? ⟨w3.heap.size, 2, none⟩ = some (.int .i64 vtt) ∧ w'.cell? ⟨w3.heap.size, 3, none⟩ = some (.int .i64 vttl) ∧ w'.cell? ⟨w3.heap.size, 4, none⟩ = some (.int .i64 vp) ∧ w'.cell? ⟨w3.heap.size, 5, none⟩ = some (.int .u64 vsH) ∧ w'.cell? ⟨w3.heap.size, 6, none⟩ = some (.int .u64 vsL) ∧ w'.cell? ⟨w3.heap.size, 7, none⟩ = some (.int .u64 vdH) ∧ w'.cell? ⟨w3.heap.size, 8, none⟩ = some (.int .u64 vdL) ∧ w'.cell? ⟨w3.heap.size, 9, none⟩ = some (.bool vfr) ∧ w'.cell? ⟨w3.heap.size, 10, none⟩ = some (.int .u32 vid) ∧ w'.cell? ⟨w3.heap.size, 11, none⟩ = some (.int .i64 voff) ∧ w'.cell? ⟨w3.heap.size, 12, none⟩ = some (.bool vmo))) (by kernel_rfl) ?_
    change wpAnyH _ _ _ _ _ _ _ _ (World.drew _)
    have hS0 := keep0 hC1
    generalize w6.drew = wd at hS0 ⊢
    refine wpAnyH_take (i := 0) (v := ?_) rfl (by kernel_rfl) (by kernel_rfl) (by kernel_rfl) (fun _ _ _ h => h) (Or.inl ⟨by rfl, ?_⟩) hS0 ?_
    rotate_left 1
    · intro W hW
      obtain ⟨hW0, hX0, hX1, hX2, hX3, hX4, hX5, hX6, hX7, hX8, hX9, hX10, hX11, hX12⟩ := hW
      go_simp
      with_reducible rfl
    refine wpAnyH_take (i := 1) (v := ?_) rfl (by kernel_rfl) (by kernel_rfl) (by kernel_rfl) (fun _ _ _ h => h) (Or.inl ⟨by rfl, ?_⟩) hS0 ?_
    rotate_left 1
    · intro W hW
      obtain ⟨hW0, hX0, hX1, hX2, hX3, hX4, hX5, hX6, hX7, hX8, hX9, hX10, hX11, hX12⟩ := hW
      go_simp
      with_reducible rfl
    refine wpAnyH_take (i := 2) (v := ?_) rfl (by kernel_rfl) (by kernel_rfl) (by kernel_rfl) (fun _ _ _ h => h) (Or.inl ⟨by rfl, ?_⟩) hS0 ?_
    rotate_left 1
    · intro W hW
      obtain ⟨hW0, hX0, hX1, hX2, hX3, hX4, hX5, hX6, hX7, hX8, hX9, hX10, hX11, hX12⟩ := hW
      go_simp
      with_reducible rfl
    refine wpAnyH_take (i := 3) (v := ?_) rfl (by kernel_rfl) (by kernel_rfl) (by kernel_rfl) (fun _ _ _ h => h) (Or.inl ⟨by rfl, ?_⟩) hS0 ?_
    rotate_left 1
    · intro W hW
      obtain ⟨hW0, hX0, hX1, hX2, hX3, hX4, hX5, hX6, hX7, hX8, hX9, hX10, hX11, hX12⟩ := hW
      go_simp
      with_reducible rfl
    refine wpAnyH_take (i := 4) (v := ?_) rfl (by kernel_rfl) (by kernel_rfl) (by kernel_rfl) (fun _ _ _ h => h) (Or.inl ⟨by rfl, ?_⟩) hS0 ?_
    rotate_left 1
    · intro W hW
      obtain ⟨hW0, hX0, hX1, hX2, hX3, hX4, hX5, hX6, hX7, hX8, hX9, hX10, hX11, hX12⟩ := hW
      go_simp
      with_reducible rfl
    refine wpAnyH_ready (rs := [5, 9]) (by kernel_rfl) (by simp) ?_
    refine AllReadyH.cons rfl (fun K hK => ?_) (AllReadyH.cons rfl (fun K hK => ?_) AllReadyH.nil)
    · go_simp
      go_at_call 17
      refine (p3 _ hS0.1).mono ?_
      rintro e w20 ⟨rfl, hb20⟩
      have hS20 := keepB hC1 hb20 hS0
      refine hK.out _ _ hS20 (fun _ => ?_)
      clear hK K
      refine wpAnyH_take (i := 6) (v := ?_) rfl (by kernel_rfl) (by kernel_rfl) (by kernel_rfl) (fun _ _ _ h => h) (Or.inl ⟨by rfl, ?_⟩) hS20 ?_
      rotate_left 1
      · intro W hW
        obtain ⟨hW0, hX0, hX1, hX2, hX3, hX4, hX5, hX6, hX7, hX8, hX9, hX10, hX11, hX12⟩ := hW
        go_simp
        with_reducible rfl
      refine wpAnyH_take (i := 7) (v := ?_) rfl (by kernel_rfl) (by kernel_rfl) (by kernel_rfl) (fun _ _ _ h => h) (Or.inl ⟨by rfl, ?_⟩) hS20 ?_
      rotate_left 1
      · intro W hW
        obtain ⟨hW0, hX0, hX1, hX2, hX3, hX4, hX5, hX6, hX7, hX8, hX9, hX10, hX11, hX12⟩ := hW
        go_simp
        with_reducible rfl
      refine wpAnyH_take (i := 8) (v := ?_) rfl (by kernel_rfl) (by kernel_rfl) (by kernel_rfl) (fun _ _ _ h => h) (Or.inl ⟨by rfl, ?_⟩) hS20 ?_
      rotate_left 1
      · intro W hW
        obtain ⟨hW0, hX0, hX1, hX2, hX3, hX4, hX5, hX6, hX7, hX8, hX9, hX10, hX11, hX12⟩ := hW
        go_simp
        with_reducible rfl
      refine wpAnyH_ready (rs := [9]) (by kernel_rfl) (by simp) ?_
      refine AllReadyH.cons rfl (fun K hK => ?_) AllReadyH.nil
      refine step_alloc rfl 50 rfl #[.int .i64 0, .int .i64 0, .int .u32 0, .int .u32 0, .int .i64 0, .int .i64 0, .int .i64 0, .int .i64 0, .int .i64 0, .int .i64 0] hz (fun w21 B hT hb21 hg21 => ?_)
      have hS21 := keepB hC1 hb21 hS20
      have hBs : w6.heap.size ≤ B := Nat.le_trans hS20.1.size hg21
      refine hK.out _ _ hS21 (fun _ => ?_)
      clear hK K
      refine wpAnyH_ready (rs := [10]) (by kernel_rfl) (by simp) ?_
      refine AllReadyH.cons rfl (fun K hK => ?_) AllReadyH.nil
      refine step_store_row rfl 50 (.tmp 8) (.tmp 54) rfl B #[.int .i64 ts, .int .i64 td, .int .u32 tq, .int .u32 ta, .int .i64 tf, .int .i64 tw, .int .i64 ty, .int .i64 tc, .int .i64 th, .int .i64 tx] rfl rfl 50 #[.int .i64 0, .int .i64 0, .int .u32 0, .int .u32 0, .int .i64 0, .int .i64 0, .int .i64 0, .int .i64 0, .int .i64 0, .int .i64 0] hT (by kernel_rfl) rfl (by kernel_rfl) ?_
      have hS9 := keepS hC1 (Below.setRow hS21.1 hBs #[.int .i64 ts, .int .i64 td, .int .u32 tq, .int .u32 ta, .int .i64 tf, .int .i64 tw, .int .i64 ty, .int .i64 tc, .int .i64 th, .int .i64 tx])
      refine hK.out _ _ hS9 (fun _ => ?_)
      clear hK K
      refine wpAnyH_take (i := 11) (v := ?_) rfl (by kernel_rfl) (by kernel_rfl) (by kernel_rfl) (fun _ _ _ h => h) (Or.inl ⟨by rfl, ?_⟩) hS9 ?_
      rotate_left 1
      · intro W hW
        obtain ⟨hW0, hX0, hX1, hX2, hX3, hX4, hX5, hX6, hX7, hX8, hX9, hX10, hX11, hX12⟩ := hW
        go_simp
        with_reducible rfl
      refine wpAnyH_done (by kernel_rfl) ?_ _
      go_wp2_with fail
      go_meet
      exact ⟨B, rfl, rfl, hBs, hS9.1, blk_setRow hT _⟩
    · refine step_alloc rfl 50 rfl #[.int .i64 0, .int .i64 0, .int .u32 0, .int .u32 0, .int .i64 0, .int .i64 0, .int .i64 0, .int .i64 0, .int .i64 0, .int .i64 0] hz (fun w20 B hT hb20 hg20 => ?_)
      have hS20 := keepB hC1 hb20 hS0
      have hBs : w6.heap.size ≤ B := Nat.le_trans hS0.1.size hg20
      refine hK.out _ _ hS20 (fun _ => ?_)
      clear hK K
      refine wpAnyH_ready (rs := [5]) (by kernel_rfl) (by simp) ?_
      refine AllReadyH.cons rfl (fun K hK => ?_) AllReadyH.nil
      go_simp
      go_at_call 17
      refine (p3 _ hS20.1).mono ?_
      rintro e w21 ⟨rfl, hb21⟩
      have hS21 := keepB hC1 hb21 hS20
      have hT := hV_keep hb21 hT
      refine hK.out _ _ hS21 (fun _ => ?_)
      clear hK K
      refine wpAnyH_take (i := 6) (v := ?_) rfl (by kernel_rfl) (by kernel_rfl) (by kernel_rfl) (fun _ _ _ h => h) (Or.inl ⟨by rfl, ?_⟩) hS21 ?_
      rotate_left 1
      · intro W hW
        obtain ⟨hW0, hX0, hX1, hX2, hX3, hX4, hX5, hX6, hX7, hX8, hX9, hX10, hX11, hX12⟩ := hW
        go_simp
        with_reducible rfl
      refine wpAnyH_take (i := 7) (v := ?_) rfl (by kernel_rfl) (by kernel_rfl) (by kernel_rfl) (fun _ _ _ h => h) (Or.inl ⟨by rfl, ?_⟩) hS21 ?_
      rotate_left 1
      · intro W hW
        obtain ⟨hW0, hX0, hX1, hX2, hX3, hX4, hX5, hX6, hX7, hX8, hX9, hX10, hX11, hX12⟩ := hW
        go_simp
        with_reducible rfl
      refine wpAnyH_take (i := 8) (v := ?_) rfl (by kernel_rfl) (by kernel_rfl) (by kernel_rfl) (fun _ _ _ h => h) (Or.inl ⟨by rfl, ?_⟩) hS21 ?_
      rotate_left 1
      · intro W hW
        obtain ⟨hW0, hX0, hX1, hX2, hX3, hX4, hX5, hX6, hX7, hX8, hX9, hX10, hX11, hX12⟩ := hW
        go_simp
        with_reducible rfl
      refine wpAnyH_ready (rs := [10]) (by kernel_rfl) (by simp) ?_
      refine AllReadyH.cons rfl (fun K hK => ?_) AllReadyH.nil
      refine step_store_row rfl 50 (.tmp 8) (.tmp 54) rfl B #[.int .i64 ts, .int .i64 td, .int .u32 tq, .int .u32 ta, .int .i64 tf, .int .i64 tw, .int .i64 ty, .int .i64 tc, .int .i64 th, .int .i64 tx] rfl rfl 50 #[.int .i64 0, .int .i64 0, .int .u32 0, .int .u32 0, .int .i64 0, .int .i64 0, .int .i64 0, .int .i64 0, .int .i64 0, .int .i64 0] hT (by kernel_rfl) rfl (by kernel_rfl) ?_
      have hS9 := keepS hC1 (Below.setRow hS21.1 hBs #[.int .i64 ts, .int .i64 td, .int .u32 tq, .int .u32 ta, .int .i64 tf, .int .i64 tw, .int .i64 ty, .int .i64 tc, .int .i64 th, .int .i64 tx])
      refine hK.out _ _ hS9 (fun _ => ?_)
      clear hK K
      refine wpAnyH_take (i := 11) (v := ?_) rfl (by kernel_rfl) (by kernel_rfl) (by kernel_rfl) (fun _ _ _ h => h) (Or.inl ⟨by rfl, ?_⟩) hS9 ?_
      rotate_left 1
      · intro W hW
        obtain ⟨hW0, hX0, hX1, hX2, hX3, hX4, hX5, hX6, hX7, hX8, hX9, hX10, hX11, hX12⟩ := hW
        go_simp
        with_reducible rfl
      refine wpAnyH_done (by kernel_rfl) ?_ _
      go_wp2_with fail
      go_meet
      exact ⟨B, rfl, rfl, hBs, hS9.1, blk_setRow hT _⟩
  case rest =>
  obtain ⟨B, rfl, rfl, hBs, hbx, hT⟩ := hcut
  clear hC1 p3 hBs
  have hYn := hY.below hbx
  clear hY
  have hY := hYn
  clear hYn
  have hVn := hV_keep hbx hV
  have hUn := hV_keep hbx hU
  have ymn := keepc hbx ym
  have bwn : Below w.heap.size w wc := bw.trans (hbx.mono bw.size)
  clear hbx hV hU bw ym a0 a1 a2 a3 a4 a5 a6 a7 a8 a9 a10 a11 a12 b0 b1 b2 b3 b4 b5 b6 b7 b8 b9 b10 b11 b12
  have hV := hVn
  have hU := hUn
  have bw := bwn
  have ym := ymn
  clear bwn ymn hVn hUn
  obtain ⟨⟨a0, a1, a2, a3, a4, a5, a6, a7, a8, a9, a10, a11, a12⟩, _⟩ := cells13 hV
  obtain ⟨⟨b0, b1, b2, b3, b4, b5, b6, b7, b8, b9, b10, b11, b12⟩, _⟩ := cells13 hU
  obtain ⟨⟨x0, x1, x2, x3, x4, x5, x6, x7, x8, x9⟩, _⟩ := cells10 hT
  go_wp2_with (first | (go_at_call 18; refine (cu _ bw).mono ?_; rintro e wA ⟨rfl, hbx⟩; refine Hid.out ?_) | fail)
  have hYn := hY.below hbx
  clear hY
  have hY := hYn
  clear hYn
  have hVn := hV_keep hbx hV
  have hUn := hV_keep hbx hU
  have hTn := hV_keep hbx hT
  have ymn := keepc hbx ym
  have bwn : Below w.heap.size w wA := bw.trans (hbx.mono bw.size)
  clear hbx hV hU hT bw ym a0 a1 a2 a3 a4 a5 a6 a7 a8 a9 a10 a11 a12 b0 b1 b2 b3 b4 b5 b6 b7 b8 b9 b10 b11 b12 x0 x1 x2 x3 x4 x5 x6 x7 x8 x9
  have hV := hVn
  have hU := hUn
  have hT := hTn
  have bw := bwn
  have ym := ymn
  clear bwn ymn hVn hUn hTn
  obtain ⟨⟨a0, a1, a2, a3, a4, a5, a6, a7, a8, a9, a10, a11, a12⟩, _⟩ := cells13 hV
  obtain ⟨⟨b0, b1, b2, b3, b4, b5, b6, b7, b8, b9, b10, b11, b12⟩, _⟩ := cells13 hU
  obtain ⟨⟨x0, x1, x2, x3, x4, x5, x6, x7, x8, x9⟩, _⟩ := cells10 hT
  clear cu
  refine Lib.hid ?_
  go_wp2_with fail
  obtain ⟨wB, hwn⟩ : ∃ x, x = wA.alloc (.cells #[.int .i64 ts, .int .i64 td, .int .u32 tq, .int .u32 ta, .int .i64 tf, .int .i64 tw, .int .i64 ty, .int .i64 tc, .int .i64 th, .int .i64 tx] 53) := ⟨_, rfl⟩
  have hS : wB.heap[wA.heap.size]? = some (.cells #[.int .i64 ts, .int .i64 td, .int .u32 tq, .int .u32 ta, .int .i64 tf, .int .i64 tw, .int .i64 ty, .int .i64 tc, .int .i64 th, .int .i64 tx] 53 (0, 0)) := by rw [hwn]; exact al_neww rfl _
  have hbx : Below wA.heap.size wA wB := by rw [hwn]; exact Below.al (Below.refl _ _) _
  rw [← hwn]
  clear hwn
  have hYn := hY.below hbx
  clear hY
  have hY := hYn
  clear hYn
  have hVn := hV_keep hbx hV
  have hUn := hV_keep hbx hU
  have hTn := hV_keep hbx hT
  have ymn := keepc hbx ym
  have bwn : Below w.heap.size w wB := bw.trans (hbx.mono bw.size)
  clear hbx hV hU hT bw ym a0 a1 a2 a3 a4 a5 a6 a7 a8 a9 a10 a11 a12 b0 b1 b2 b3 b4 b5 b6 b7 b8 b9 b10 b11 b12 x0 x1 x2 x3 x4 x5 x6 x7 x8 x9
  have hV := hVn
  have hU := hUn
  have hT := hTn
  have bw := bwn
  have ym := ymn
  clear bwn ymn hVn hUn hTn
  obtain ⟨⟨a0, a1, a2, a3, a4, a5, a6, a7, a8, a9, a10, a11, a12⟩, _⟩ := cells13 hV
  obtain ⟨⟨b0, b1, b2, b3, b4, b5, b6, b7, b8, b9, b10, b11, b12⟩, _⟩ := cells13 hU
  obtain ⟨⟨x0, x1, x2, x3, x4, x5, x6, x7, x8, x9⟩, _⟩ := cells10 hT
  obtain ⟨⟨y0, y1, y2, y3, y4, y5, y6, y7, y8, y9⟩, _⟩ := cells10 hS
  have ka0 := cell_regrown a0
  have ka1 := cell_regrown a1
  have ka2 := cell_regrown a2
  have ka3 := cell_regrown a3
  have ka4 := cell_regrown a4
  have ka5 := cell_regrown a5
  have ka6 := cell_regrown a6
  have ka7 := cell_regrown a7
  have ka8 := cell_regrown a8
  have ka9 := cell_regrown a9
  have ka10 := cell_regrown a10
  have ka11 := cell_regrown a11
  have ka12 := cell_regrown a12
  have kb0 := cell_regrown b0
  have kb1 := cell_regrown b1
  have kb2 := cell_regrown b2
  have kb3 := cell_regrown b3
  have kb4 := cell_regrown b4
  have kb5 := cell_regrown b5
  have kb6 := cell_regrown b6
  have kb7 := cell_regrown b7
  have kb8 := cell_regrown b8
  have kb9 := cell_regrown b9
  have kb10 := cell_regrown b10
  have kb11 := cell_regrown b11
  have kb12 := cell_regrown b12
  have kx0 := cell_regrown x0
  have kx1 := cell_regrown x1
  have kx2 := cell_regrown x2
  have kx3 := cell_regrown x3
  have kx4 := cell_regrown x4
  have kx5 := cell_regrown x5
  have kx6 := cell_regrown x6
  have kx7 := cell_regrown x7
  have kx8 := cell_regrown x8
  have kx9 := cell_regrown x9
  have ky0 := cell_regrown y0
  have ky1 := cell_regrown y1
  have ky2 := cell_regrown y2
  have ky3 := cell_regrown y3
  have ky4 := cell_regrown y4
  have ky5 := cell_regrown y5
  have ky6 := cell_regrown y6
  have ky7 := cell_regrown y7
  have ky8 := cell_regrown y8
  have ky9 := cell_regrown y9
  have kym := cell_regrown ym
  have z4 := fun d os => q4 _ (hY.below (below_regrown wB d os))
  have zv := fun d os => cv _ (bw.trans ((below_regrown wB d os).mono bw.size))
  have z1 := fun d os => Calls.regrown_of (k1 (grow (redrawn wB d) os))
  have z2 := fun d os => Calls.regrown_of (k2 (grow (redrawn wB d) os))
  clear q4 cv k1 k2 hY qm a0 a1 a2 a3 a4 a5 a6 a7 a8 a9 a10 a11 a12 b0 b1 b2 b3 b4 b5 b6 b7 b8 b9 b10 b11 b12 x0 x1 x2 x3 x4 x5 x6 x7 x8 x9 y0 y1 y2 y3 y4 y5 y6 y7 y8 y9 ym hV hU hT hS
  refine wp_region_quiet_below (by kernel_rfl) (by kernel_rfl) ?_
  repeat (first | go_big_quiet_skip | quiet_step (first | (go_at_call 19; with_reducible exact z1 _ _) | (go_at_call 20; with_reducible exact z2 _ _)))
  refine wpQuiet_nil ?_
  intro _ hw'
  obtain ⟨⟨dq, osq⟩, hw''⟩ := hw'
  subst hw''
  go_wp2
  go_ret
  exact ⟨rfl, bw.trans ((below_regrown wB dq osq).mono bw.size)⟩

/-- WireParses. -/
theorem parses_any (A : Option Addr) (n c : Nat) (l : List UInt8) {w : World} (h : BytA w A n c l) :
    Calls Try.prog 5 #[.slice A n c] w fun e w' => e = .returned (.bool true) ∧ Below w.heap.size w w' := by
  obtain ⟨hn, hc, hcm, hs⟩ := id h.1
  unfold maxLen at hcm
  by_cases h0 : 65536 < n
  · exact parses_long A n c h0 (by omega) w
  · exact parses_ok A n c l (by omega) h
end Go.Proofs.Ytpmbdjdhgcjkfaa
