/- The pseudo header and a body's sum: the document's; by-name template (gen_wrps.py). -/
import Derived.Test.YtpmbdjdhgcjkfaaWRBytes
import Derived.Test.YtpmbdjdhgcjkfaaWRight
namespace Go.Proofs.Ytpmbdjdhgcjkfaa
open Go.RowKit Go.Sort
set_option linter.unusedVariables false
set_option linter.unusedSimpArgs false

theorem own_base {w : World} {b b' : Nat} {e : TypeId} {v : Value} {n : Nat} {xs : List Value} (h : w.ownsRow b e 1 v n xs) (hb : b' ≤ b) : w.ownsRow b' e 1 v n xs := by
  refine ⟨h.1, ?_⟩
  rcases h.2 with h | ⟨g, cap, cur, rfl, hg, r⟩
  · exact .inl h
  · exact .inr ⟨g, cap, cur, rfl, Nat.le_trans hb hg, r⟩
theorem own_cell {w w' : World} {b : Nat} {e : TypeId} {v : Value} {n : Nat} {xs : List Value} (h : w.ownsRow b e 1 v n xs) (hg : w.grownBy w' v.ownBlock) {B k : Nat} (hB : B < b) {u : Value} (hc : w.cell? ⟨B, k, none⟩ = some u) : w'.cell? ⟨B, k, none⟩ = some u :=
  hg.cell hc (fun e => by have := (h.lt B e.symm).1; omega)
theorem own_lt' {w : World} {b : Nat} {e : TypeId} {v : Value} {n : Nat} {xs : List Value} (h : w.ownsRow b e 1 v n xs) {k : Nat} (hk : v.ownBlock = some k) : b ≤ k := (h.lt k hk).1

set_option maxHeartbeats 2000000 in
set_option maxRecDepth 100000 in
theorem rpseudo4 (p sh sl dh dl size : Nat) (h1 : sh < 18446744073709551616) (h2 : sl < 18446744073709551616) (h3 : dh < 18446744073709551616) (h4 : dl < 18446744073709551616)
    (hs4 : is4I (sh : Int) (sl : Int) = true) (hd4 : is4I (dh : Int) (dl : Int) = true) (hp : p < 256) (hp1 : p ≠ 1) (hz : size < 65536) (w : World) :
    Calls Try.prog 82 #[.agg #[.int .u64 (sh : Nat), .int .u64 (sl : Nat)], .agg #[.int .u64 (dh : Nat), .int .u64 (dl : Nat)], .int .i64 (p : Nat), .int .i64 (size : Nat)] w fun e w' => ∃ v, e = .returned v ∧ w'.ownsRow w.heap.size 5 1 v 12 (bc ((beB 4 sl) ++ (beB 4 dl) ++ psT4 p size)) ∧ Below w.heap.size w w' := by
  have c1 := fun (W : World) => rbytes4 sh sl h1 h2 hs4 W
  have c2 := fun (W : World) => rbytes4 dh dl h3 h4 hd4 W
  have ci := fun (W : World) => ris4_any (sh : Int) (sl : Int) ⟨by omega, by omega⟩ ⟨by omega, by omega⟩ W
  rw [hs4] at ci
  obtain ⟨i0, hi, hz0, hz1, hz2⟩ := info_parts info8
  have ls : (beB 4 sl).length = 4 := by simp [beB_len]
  have ld : (beB 4 dl).length = 4 := by simp [beB_len]
  have hpb : ((p : Int) == 1) = false := by simp; omega
  obtain ⟨Z1, hZ1⟩ : ∃ Z, Z = size / 256 := ⟨_, rfl⟩
  obtain ⟨Z0, hZ0⟩ : ∃ Z, Z = size % 256 := ⟨_, rfl⟩
  have e1 : (size : Int) / 256 = (Z1 : Int) := by omega
  have u1 : IntKind.u8.wrap (Z1 : Int) = (Z1 : Int) := by rw [IntKind.wrap_u8]; omega
  have u0 : IntKind.u8.wrap (size : Int) = (Z0 : Int) := by rw [IntKind.wrap_u8]; omega
  have up : IntKind.u8.wrap (p : Int) = (p : Int) := by rw [IntKind.wrap_u8]; omega
  have si : (size : Int) < 65536 := by omega
  have e3 : (size : Int) / 65536 = 0 := by omega
  have e4 : (size : Int) / 16777216 = 0 := by omega
  have uz : IntKind.u8.wrap 0 = 0 := by decide
  have hT : bc (psT4 p size) = [.int .u8 0, .int .u8 (p : Int), .int .u8 (Z1 : Int), .int .u8 (Z0 : Int)] := by simp only [psT4, bc, List.map_cons, List.map_nil, ← hZ1, ← hZ0]; rw [ofN Z1 (by omega), ofN Z0 (by omega), ofN p hp]; rfl
  have HT := Lib.hid hT
  generalize psT4 p size = TL at *
  clear hZ1 hZ0 hT
  generalize hSB : (beB 4 sl) = SB at *
  generalize hDB : (beB 4 dl) = DB at *
  clear h1 h2 h3 h4 hs4 hd4 hSB hDB
  have LS := Lib.hid ls
  have LD := Lib.hid ld
  clear ls ld hp1
  go_enter Try.func82, Try.ntmps82
  go_wp2_with (with_reducible refine stop_op (o := ⟨some 12, _, _, _, _, _⟩) ?_)
  obtain ⟨wa, hwa⟩ : ∃ x, x = (w.alloc (.cells #[.int .u64 (sh : Nat), .int .u64 (sl : Nat)] 25)).alloc (.cells #[.int .u64 (dh : Nat), .int .u64 (dl : Nat)] 25) := ⟨_, rfl⟩
  have hA : wa.heap[w.heap.size]? = some (.cells #[.int .u64 (sh : Nat), .int .u64 (sl : Nat)] 25 (0, 0)) := by rw [hwa, al_oldw (by simp)]; exact al_neww rfl _
  have hB : wa.heap[w.heap.size + 1]? = some (.cells #[.int .u64 (dh : Nat), .int .u64 (dl : Nat)] 25 (0, 0)) := by rw [hwa]; exact al_neww (by simp) _
  have hza : wa.heap.size = w.heap.size + 1 + 1 := by rw [hwa]; simp
  have bwa : Below w.heap.size w wa := by rw [hwa]; exact Below.al (Below.al (Below.refl _ _) _) _
  first | rw [← hwa] | skip
  clear hwa
  obtain ⟨w1, hw1⟩ : ∃ x, x = wa.alloc (.cells #[] 5) := ⟨_, rfl⟩
  have hown1 : w1.ownsRow wa.heap.size 5 1 (.slice (some ⟨w.heap.size + 1 + 1, 0, none⟩) 0 0) 0 [] := by rw [hw1, ← hza]; exact World.ownsRow_made wa #[] 0 (Nat.le_refl _) (by unfold maxLen; omega) rfl
  have hA1 : w1.heap[w.heap.size]? = some (.cells #[.int .u64 (sh : Nat), .int .u64 (sl : Nat)] 25 (0, 0)) := by rw [hw1, al_oldw (by omega)]; exact hA
  have hB1 : w1.heap[w.heap.size + 1]? = some (.cells #[.int .u64 (dh : Nat), .int .u64 (dl : Nat)] 25 (0, 0)) := by rw [hw1, al_oldw (by omega)]; exact hB
  have bw1 : Below w.heap.size w w1 := by rw [hw1]; exact bwa.alloc bwa.size _
  have hN1 : wa.heap.size ≤ w1.heap.size := by rw [hw1]; simp
  first | rw [← hw1] | skip
  generalize Value.slice (some ⟨w.heap.size + 1 + 1, 0, none⟩) 0 0 = V1 at *
  obtain ⟨x0, x1, _, _⟩ := cells2 hA1
  obtain ⟨y0, y1, _, _⟩ := cells2 hB1
  obtain ⟨N, hN⟩ : ∃ N, N = wa.heap.size := ⟨_, rfl⟩
  rw [← hN] at hown1 hza hN1
  have hNa : w.heap.size + 1 < N := by omega
  clear hw1 hA hB bwa hN hza
  refine Lib.hid ?_
  go_wp2_with (go_at_call 63; refine (c1 _).mono ?_; rintro e w2 ⟨B1, rfl, g1, l1, yb1, hb2⟩; refine Hid.out ?_)
  have hown2 := own_below hown1 hb2
  have bw2 : Below w.heap.size w w2 := bw1.trans (hb2.mono bw1.size)
  have y0 := keepc hb2 y0
  have y1 := keepc hb2 y1
  have x0 := keepc hb2 x0
  have x1 := keepc hb2 x1
  have hN2 : N ≤ w2.heap.size := Nat.le_trans hN1 hb2.size
  clear hb2 hown1 c1 bw1 hA1 hB1 hN1
  refine Lib.hid ?_
  go_wp2_with (at_builtin; go_loud (refine wpList_append_own _ rfl _ _ 22 rfl N 5 i0 (.int .u8 0) 1 1 Try.underlying22 hi hz0 hz1 hz2 rfl (by decide) _ _ _ rfl hown2 ⟨B1, 0, none⟩ 4 4 (bc SB) rfl (by rw [bc_len, LS.out]) (fun j u hj => yb1.news j u hj) (bc_one _) (by unfold maxLen; omega) (by omega) hN2 ?n3))
  case n3 =>
    intro v3 w3 hown3 hgrow3 _
    have bw3 : Below w.heap.size w w3 := bw2.grown hgrow3 (bw2.size) (fun k hk => by have := own_lt' hown2 hk; omega)
    have y0 := own_cell hown2 hgrow3 (by omega) y0
    have y1 := own_cell hown2 hgrow3 (by omega) y1
    have x0 := own_cell hown2 hgrow3 (by omega) x0
    have x1 := own_cell hown2 hgrow3 (by omega) x1
    have hN3 : N ≤ w3.heap.size := Nat.le_trans hN2 hgrow3.size
    clear hown2 hgrow3 bw2 hN2 yb1 g1 l1
    go_wp2_with (go_at_call 63; refine (c2 _).mono ?_; rintro e w4 ⟨B2, rfl, g2, l2, yb2, hb4⟩; refine Hid.out ?_)
    have hown4 := own_below hown3 hb4
    have bw4 : Below w.heap.size w w4 := bw3.trans (hb4.mono bw3.size)
    have x0 := keepc hb4 x0
    have x1 := keepc hb4 x1
    have hN4 : N ≤ w4.heap.size := Nat.le_trans hN3 hb4.size
    clear hb4 hown3 c2 bw3 hN3 y0 y1
    refine Lib.hid ?_
    go_wp2_with (at_builtin; go_loud (refine wpList_append_own _ rfl _ _ 22 rfl N 5 i0 (.int .u8 0) 1 1 Try.underlying22 hi hz0 hz1 hz2 rfl (by decide) _ _ _ rfl hown4 ⟨B2, 0, none⟩ 4 4 (bc DB) rfl (by rw [bc_len, LD.out]) (fun j u hj => yb2.news j u hj) (bc_one _) (by unfold maxLen; omega) (by omega) hN4 ?n5))
    case n5 =>
      intro v5 w5 hown5 hgrow5 _
      have bw5 : Below w.heap.size w w5 := bw4.grown hgrow5 (bw4.size) (fun k hk => by have := own_lt' hown4 hk; omega)
      rw [← bc_app] at hown5
      have x0 := own_cell hown4 hgrow5 (by omega) x0
      have x1 := own_cell hown4 hgrow5 (by omega) x1
      have hN5 : N ≤ w5.heap.size := Nat.le_trans hN4 hgrow5.size
      clear hown4 hgrow5 bw4 hN4 yb2 g2 l2
      go_wp2_with (go_at_call 62; refine (ci _).mono ?_; rintro e w6 ⟨rfl, hb6⟩; refine Hid.out ?_)
      have hown6 := own_below hown5 hb6
      have bw6 : Below w.heap.size w w6 := bw5.trans (hb6.mono bw5.size)
      have hN6 : N ≤ w6.heap.size := Nat.le_trans hN5 hb6.size
      clear hb6 hown5 ci bw5 hN5 x0 x1
      refine Lib.hid ?_
      go_wp2_with (at_builtin; go_loud (refine wpList_append_own _ rfl _ _ 22 rfl N 5 i0 (.int .u8 0) 1 1 Try.underlying22 hi hz0 hz1 hz2 rfl (by decide) _ _ _ rfl (hown6.alloc _) ⟨w6.heap.size, 0, none⟩ 4 4 [.int .u8 0, .int .u8 (p : Int), .int .u8 (Z1 : Int), .int .u8 (Z0 : Int)] rfl rfl ?n1 ?n2 (by unfold maxLen; omega) (by omega) (by simp; omega) ?n7))
      case n1 =>
        intro j u hj
        have hb : (w6.alloc (.cells #[.int .u8 0, .int .u8 (p : Int), .int .u8 (Z1 : Int), .int .u8 (Z0 : Int)] 5)).heap[w6.heap.size]? = some (.cells #[.int .u8 0, .int .u8 (p : Int), .int .u8 (Z1 : Int), .int .u8 (Z0 : Int)] 5 (0, 0)) := al_neww rfl _
        rw [show (⟨w6.heap.size, 0, none⟩ : Addr).add j = ⟨w6.heap.size, j, none⟩ by unfold Addr.add; split <;> simp_all]
        simp only [World.cell?, hb]
        simpa using hj
      case n2 =>
        intro u hu
        simp only [List.mem_cons, List.mem_nil_iff, or_false] at hu
        rcases hu with rfl | rfl | rfl | rfl <;> rfl
      case n7 =>
        intro v7 w7 hown7 hgrow7 _
        have bw7 : Below w.heap.size w w7 := (bw6.alloc bw6.size _).grown hgrow7 (by have := bw6.size; simp; omega) (fun k hk => by have := own_lt' hown6 hk; omega)
        rw [← HT.out, ← bc_app] at hown7
        go_wp2
        go_ret
        exact ⟨v7, rfl, own_base (b' := w.heap.size) hown7 (by omega), bw7⟩

set_option maxHeartbeats 2000000 in
set_option maxRecDepth 100000 in
theorem rpseudo16 (p sh sl dh dl size : Nat) (h1 : sh < 18446744073709551616) (h2 : sl < 18446744073709551616) (h3 : dh < 18446744073709551616) (h4 : dl < 18446744073709551616)
    (hs4 : is4I (sh : Int) (sl : Int) = false) (hd4 : is4I (dh : Int) (dl : Int) = false) (hp : p < 256) (hp1 : p ≠ 1) (hz : size < 65536) (w : World) :
    Calls Try.prog 82 #[.agg #[.int .u64 (sh : Nat), .int .u64 (sl : Nat)], .agg #[.int .u64 (dh : Nat), .int .u64 (dl : Nat)], .int .i64 (p : Nat), .int .i64 (size : Nat)] w fun e w' => ∃ v, e = .returned v ∧ w'.ownsRow w.heap.size 5 1 v 40 (bc ((beB 8 sh ++ beB 8 sl) ++ (beB 8 dh ++ beB 8 dl) ++ psT16 p size)) ∧ Below w.heap.size w w' := by
  have c1 := fun (W : World) => rbytes16 sh sl h1 h2 hs4 W
  have c2 := fun (W : World) => rbytes16 dh dl h3 h4 hd4 W
  have ci := fun (W : World) => ris4_any (sh : Int) (sl : Int) ⟨by omega, by omega⟩ ⟨by omega, by omega⟩ W
  rw [hs4] at ci
  obtain ⟨i0, hi, hz0, hz1, hz2⟩ := info_parts info8
  have ls : (beB 8 sh ++ beB 8 sl).length = 16 := by simp [beB_len]
  have ld : (beB 8 dh ++ beB 8 dl).length = 16 := by simp [beB_len]
  have hpb : ((p : Int) == 1) = false := by simp; omega
  obtain ⟨Z1, hZ1⟩ : ∃ Z, Z = size / 256 := ⟨_, rfl⟩
  obtain ⟨Z0, hZ0⟩ : ∃ Z, Z = size % 256 := ⟨_, rfl⟩
  have e1 : (size : Int) / 256 = (Z1 : Int) := by omega
  have u1 : IntKind.u8.wrap (Z1 : Int) = (Z1 : Int) := by rw [IntKind.wrap_u8]; omega
  have u0 : IntKind.u8.wrap (size : Int) = (Z0 : Int) := by rw [IntKind.wrap_u8]; omega
  have up : IntKind.u8.wrap (p : Int) = (p : Int) := by rw [IntKind.wrap_u8]; omega
  have si : (size : Int) < 65536 := by omega
  have e3 : (size : Int) / 65536 = 0 := by omega
  have e4 : (size : Int) / 16777216 = 0 := by omega
  have uz : IntKind.u8.wrap 0 = 0 := by decide
  have hT : bc (psT16 p size) = [.int .u8 0, .int .u8 0, .int .u8 (Z1 : Int), .int .u8 (Z0 : Int), .int .u8 0, .int .u8 0, .int .u8 0, .int .u8 (p : Int)] := by simp only [psT16, bc, List.map_cons, List.map_nil, ← hZ1, ← hZ0]; rw [ofN Z1 (by omega), ofN Z0 (by omega), ofN p hp]; rfl
  have HT := Lib.hid hT
  generalize psT16 p size = TL at *
  clear hZ1 hZ0 hT
  generalize hSB : (beB 8 sh ++ beB 8 sl) = SB at *
  generalize hDB : (beB 8 dh ++ beB 8 dl) = DB at *
  clear h1 h2 h3 h4 hs4 hd4 hSB hDB
  have LS := Lib.hid ls
  have LD := Lib.hid ld
  clear ls ld hp1
  go_enter Try.func82, Try.ntmps82
  go_wp2_with (with_reducible refine stop_op (o := ⟨some 12, _, _, _, _, _⟩) ?_)
  obtain ⟨wa, hwa⟩ : ∃ x, x = (w.alloc (.cells #[.int .u64 (sh : Nat), .int .u64 (sl : Nat)] 25)).alloc (.cells #[.int .u64 (dh : Nat), .int .u64 (dl : Nat)] 25) := ⟨_, rfl⟩
  have hA : wa.heap[w.heap.size]? = some (.cells #[.int .u64 (sh : Nat), .int .u64 (sl : Nat)] 25 (0, 0)) := by rw [hwa, al_oldw (by simp)]; exact al_neww rfl _
  have hB : wa.heap[w.heap.size + 1]? = some (.cells #[.int .u64 (dh : Nat), .int .u64 (dl : Nat)] 25 (0, 0)) := by rw [hwa]; exact al_neww (by simp) _
  have hza : wa.heap.size = w.heap.size + 1 + 1 := by rw [hwa]; simp
  have bwa : Below w.heap.size w wa := by rw [hwa]; exact Below.al (Below.al (Below.refl _ _) _) _
  first | rw [← hwa] | skip
  clear hwa
  obtain ⟨w1, hw1⟩ : ∃ x, x = wa.alloc (.cells #[] 5) := ⟨_, rfl⟩
  have hown1 : w1.ownsRow wa.heap.size 5 1 (.slice (some ⟨w.heap.size + 1 + 1, 0, none⟩) 0 0) 0 [] := by rw [hw1, ← hza]; exact World.ownsRow_made wa #[] 0 (Nat.le_refl _) (by unfold maxLen; omega) rfl
  have hA1 : w1.heap[w.heap.size]? = some (.cells #[.int .u64 (sh : Nat), .int .u64 (sl : Nat)] 25 (0, 0)) := by rw [hw1, al_oldw (by omega)]; exact hA
  have hB1 : w1.heap[w.heap.size + 1]? = some (.cells #[.int .u64 (dh : Nat), .int .u64 (dl : Nat)] 25 (0, 0)) := by rw [hw1, al_oldw (by omega)]; exact hB
  have bw1 : Below w.heap.size w w1 := by rw [hw1]; exact bwa.alloc bwa.size _
  have hN1 : wa.heap.size ≤ w1.heap.size := by rw [hw1]; simp
  first | rw [← hw1] | skip
  generalize Value.slice (some ⟨w.heap.size + 1 + 1, 0, none⟩) 0 0 = V1 at *
  obtain ⟨x0, x1, _, _⟩ := cells2 hA1
  obtain ⟨y0, y1, _, _⟩ := cells2 hB1
  obtain ⟨N, hN⟩ : ∃ N, N = wa.heap.size := ⟨_, rfl⟩
  rw [← hN] at hown1 hza hN1
  have hNa : w.heap.size + 1 < N := by omega
  clear hw1 hA hB bwa hN hza
  refine Lib.hid ?_
  go_wp2_with (go_at_call 63; refine (c1 _).mono ?_; rintro e w2 ⟨B1, rfl, g1, l1, yb1, hb2⟩; refine Hid.out ?_)
  have hown2 := own_below hown1 hb2
  have bw2 : Below w.heap.size w w2 := bw1.trans (hb2.mono bw1.size)
  have y0 := keepc hb2 y0
  have y1 := keepc hb2 y1
  have x0 := keepc hb2 x0
  have x1 := keepc hb2 x1
  have hN2 : N ≤ w2.heap.size := Nat.le_trans hN1 hb2.size
  clear hb2 hown1 c1 bw1 hA1 hB1 hN1
  refine Lib.hid ?_
  go_wp2_with (at_builtin; go_loud (refine wpList_append_own _ rfl _ _ 22 rfl N 5 i0 (.int .u8 0) 1 1 Try.underlying22 hi hz0 hz1 hz2 rfl (by decide) _ _ _ rfl hown2 ⟨B1, 0, none⟩ 16 16 (bc SB) rfl (by rw [bc_len, LS.out]) (fun j u hj => yb1.news j u hj) (bc_one _) (by unfold maxLen; omega) (by omega) hN2 ?n3))
  case n3 =>
    intro v3 w3 hown3 hgrow3 _
    have bw3 : Below w.heap.size w w3 := bw2.grown hgrow3 (bw2.size) (fun k hk => by have := own_lt' hown2 hk; omega)
    have y0 := own_cell hown2 hgrow3 (by omega) y0
    have y1 := own_cell hown2 hgrow3 (by omega) y1
    have x0 := own_cell hown2 hgrow3 (by omega) x0
    have x1 := own_cell hown2 hgrow3 (by omega) x1
    have hN3 : N ≤ w3.heap.size := Nat.le_trans hN2 hgrow3.size
    clear hown2 hgrow3 bw2 hN2 yb1 g1 l1
    go_wp2_with (go_at_call 63; refine (c2 _).mono ?_; rintro e w4 ⟨B2, rfl, g2, l2, yb2, hb4⟩; refine Hid.out ?_)
    have hown4 := own_below hown3 hb4
    have bw4 : Below w.heap.size w w4 := bw3.trans (hb4.mono bw3.size)
    have x0 := keepc hb4 x0
    have x1 := keepc hb4 x1
    have hN4 : N ≤ w4.heap.size := Nat.le_trans hN3 hb4.size
    clear hb4 hown3 c2 bw3 hN3 y0 y1
    refine Lib.hid ?_
    go_wp2_with (at_builtin; go_loud (refine wpList_append_own _ rfl _ _ 22 rfl N 5 i0 (.int .u8 0) 1 1 Try.underlying22 hi hz0 hz1 hz2 rfl (by decide) _ _ _ rfl hown4 ⟨B2, 0, none⟩ 16 16 (bc DB) rfl (by rw [bc_len, LD.out]) (fun j u hj => yb2.news j u hj) (bc_one _) (by unfold maxLen; omega) (by omega) hN4 ?n5))
    case n5 =>
      intro v5 w5 hown5 hgrow5 _
      have bw5 : Below w.heap.size w w5 := bw4.grown hgrow5 (bw4.size) (fun k hk => by have := own_lt' hown4 hk; omega)
      rw [← bc_app] at hown5
      have x0 := own_cell hown4 hgrow5 (by omega) x0
      have x1 := own_cell hown4 hgrow5 (by omega) x1
      have hN5 : N ≤ w5.heap.size := Nat.le_trans hN4 hgrow5.size
      clear hown4 hgrow5 bw4 hN4 yb2 g2 l2
      go_wp2_with (go_at_call 62; refine (ci _).mono ?_; rintro e w6 ⟨rfl, hb6⟩; refine Hid.out ?_)
      have hown6 := own_below hown5 hb6
      have bw6 : Below w.heap.size w w6 := bw5.trans (hb6.mono bw5.size)
      have hN6 : N ≤ w6.heap.size := Nat.le_trans hN5 hb6.size
      clear hb6 hown5 ci bw5 hN5 x0 x1
      refine Lib.hid ?_
      go_wp2_with (at_builtin; go_loud (refine wpList_append_own _ rfl _ _ 22 rfl N 5 i0 (.int .u8 0) 1 1 Try.underlying22 hi hz0 hz1 hz2 rfl (by decide) _ _ _ rfl (hown6.alloc _) ⟨w6.heap.size, 0, none⟩ 8 8 [.int .u8 0, .int .u8 0, .int .u8 (Z1 : Int), .int .u8 (Z0 : Int), .int .u8 0, .int .u8 0, .int .u8 0, .int .u8 (p : Int)] rfl rfl ?n1 ?n2 (by unfold maxLen; omega) (by omega) (by simp; omega) ?n7))
      case n1 =>
        intro j u hj
        have hb : (w6.alloc (.cells #[.int .u8 0, .int .u8 0, .int .u8 (Z1 : Int), .int .u8 (Z0 : Int), .int .u8 0, .int .u8 0, .int .u8 0, .int .u8 (p : Int)] 5)).heap[w6.heap.size]? = some (.cells #[.int .u8 0, .int .u8 0, .int .u8 (Z1 : Int), .int .u8 (Z0 : Int), .int .u8 0, .int .u8 0, .int .u8 0, .int .u8 (p : Int)] 5 (0, 0)) := al_neww rfl _
        rw [show (⟨w6.heap.size, 0, none⟩ : Addr).add j = ⟨w6.heap.size, j, none⟩ by unfold Addr.add; split <;> simp_all]
        simp only [World.cell?, hb]
        simpa using hj
      case n2 =>
        intro u hu
        simp only [List.mem_cons, List.mem_nil_iff, or_false] at hu
        rcases hu with rfl | rfl | rfl | rfl | rfl | rfl | rfl | rfl <;> rfl
      case n7 =>
        intro v7 w7 hown7 hgrow7 _
        have bw7 : Below w.heap.size w w7 := (bw6.alloc bw6.size _).grown hgrow7 (by have := bw6.size; simp; omega) (fun k hk => by have := own_lt' hown6 hk; omega)
        rw [← HT.out, ← bc_app] at hown7
        go_wp2
        go_ret
        exact ⟨v7, rfl, own_base (b' := w.heap.size) hown7 (by omega), bw7⟩

end Go.Proofs.Ytpmbdjdhgcjkfaa
