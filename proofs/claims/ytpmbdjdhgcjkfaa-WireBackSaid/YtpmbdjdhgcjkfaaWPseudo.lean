/- The pseudo header: the program's; by-name template (gen_wpseudo.py). -/
import Derived.Test.YtpmbdjdhgcjkfaaWAdrB
import Derived.Deep.RegionLawGrows
import Derived.Deep.RegionHeld3
import Derived.OwnWalk
import Derived.Laws.OwnMore
namespace Go.Proofs.Ytpmbdjdhgcjkfaa
open Go.RowKit Go.Sort
set_option linter.unusedVariables false
set_option linter.unusedSimpArgs false

theorem Byt.news {w : World} {g : Nat} {l : List UInt8} (h : Byt w g 0 l) (j : Nat) (u : Value) (hj : (bc l)[j]? = some u) : w.cell? ((⟨g, 0, none⟩ : Addr).add j) = some u := by
  unfold bc at hj
  rw [List.getElem?_map] at hj
  obtain ⟨x, hx, rfl⟩ := Option.map_eq_some_iff.1 hj
  have := h j x hx
  rw [Nat.zero_add] at this
  have e : (⟨g, 0, none⟩ : Addr).add j = ⟨g, j, none⟩ := by unfold Addr.add; split <;> simp_all
  rw [e]; exact this
theorem bc_one (l : List UInt8) : ∀ u ∈ bc l, u.oneCell' = true := by
  intro u hu
  unfold bc at hu
  obtain ⟨x, _, rfl⟩ := List.mem_map.1 hu
  rfl
theorem own_below {w w' : World} {B : Nat} {e : TypeId} {v : Value} {n : Nat} {xs : List Value} (h : w.ownsRow B e 1 v n xs) (hb : Below w.heap.size w w') : w'.ownsRow B e 1 v n xs :=
  h.kept (row := none) ⟨hb.os, hb.tape, hb.output, hb.size, fun k hk _ => hb.block k hk⟩ (by by_cases h : v.ownBlock = none; exact Or.inl h; exact Or.inr h)
/-- What stands behind the addresses in a pseudo header. -/
def psT4 (p size : Nat) : List UInt8 := [0, UInt8.ofNat p, UInt8.ofNat (size / 256), UInt8.ofNat (size % 256)]
def psT16 (p size : Nat) : List UInt8 := [0, 0, UInt8.ofNat (size / 256), UInt8.ofNat (size % 256), 0, 0, 0, UInt8.ofNat p]
theorem ofN (n : Nat) (h : n < 256) : ((UInt8.ofNat n).toNat : Int) = (n : Int) := by
  rw [UInt8.toNat_ofNat', show (2 : Nat) ^ 8 = 256 from rfl, Nat.mod_eq_of_lt h]
theorem bc_len (l : List UInt8) : (bc l).length = l.length := by simp [bc]

set_option maxHeartbeats 2000000 in
set_option maxRecDepth 100000 in
theorem pseudo4 (vv : Bool) (vhd vtt vttl : Int) (p sh sl dh dl size : Nat) (vfr : Bool) (vid voff : Int) (vmo : Bool) (h1 : sh < 18446744073709551616) (h2 : sl < 18446744073709551616) (h3 : dh < 18446744073709551616) (h4 : dl < 18446744073709551616)
    (hs4 : is4I (sh : Int) (sl : Int) = true) (hd4 : is4I (dh : Int) (dl : Int) = true) (hp : p < 256) (hz : size < 65536) (w : World) :
    Calls Try.prog 81 #[.agg #[.bool vv, .int .i64 vhd, .int .i64 vtt, .int .i64 vttl, .int .i64 (p : Nat), .int .u64 (sh : Nat), .int .u64 (sl : Nat), .int .u64 (dh : Nat), .int .u64 (dl : Nat), .bool vfr, .int .u32 vid, .int .i64 voff, .bool vmo], .int .i64 (size : Nat)] w fun e w' => ∃ B cap, e = .returned (.slice (some ⟨B, 0, none⟩) 12 cap) ∧ 12 ≤ cap ∧ cap ≤ maxLen ∧ Byt w' B 0 (beB 4 sl ++ (beB 4 dl) ++ psT4 p size) ∧ Below w.heap.size w w' := by
  have c1 := fun (W : World) => addrb4 sh sl h1 h2 hs4 W
  have c2 := fun (W : World) => addrb4 dh dl h3 h4 hd4 W
  have ci := fun (W : World) => is4_any (sh : Int) (sl : Int) ⟨by omega, by omega⟩ ⟨by omega, by omega⟩ W
  rw [hs4] at ci
  obtain ⟨i0, hi, hz0, hz1, hz2⟩ := info_parts info8
  have ls : (beB 4 sl).length = 4 := by simp [beB_len]
  have ld : (beB 4 dl).length = 4 := by simp [beB_len]
  obtain ⟨Z1, hZ1⟩ : ∃ Z, Z = size / 256 := ⟨_, rfl⟩
  obtain ⟨Z0, hZ0⟩ : ∃ Z, Z = size % 256 := ⟨_, rfl⟩
  have e1 : (size : Int) / 256 = (Z1 : Int) := by omega
  have u1 : IntKind.u8.wrap (Z1 : Int) = (Z1 : Int) := by rw [IntKind.wrap_u8]; omega
  have u0 : IntKind.u8.wrap (size : Int) = (Z0 : Int) := by rw [IntKind.wrap_u8]; omega
  have up : IntKind.u8.wrap (p : Int) = (p : Int) := by rw [IntKind.wrap_u8]; omega
  have si : (size : Int) < 65536 := by omega
  have hT : bc (psT4 p size) = [.int .u8 0, .int .u8 (p : Int), .int .u8 (Z1 : Int), .int .u8 (Z0 : Int)] := by simp only [psT4, bc, List.map_cons, List.map_nil, ← hZ1, ← hZ0]; rw [ofN Z1 (by omega), ofN Z0 (by omega), ofN p hp]; rfl
  have HT := Lib.hid hT
  generalize psT4 p size = TL at *
  clear hZ1 hZ0 hT
  generalize hSB : (beB 4 sl) = SB at *
  generalize hDB : (beB 4 dl) = DB at *
  clear h1 h2 h3 h4 hs4 hd4 hSB hDB
  have LS := Lib.hid ls
  have LD := Lib.hid ld
  clear ls ld
  go_enter Try.func81, Try.ntmps81
  go_wp2_with fail
  obtain ⟨w1, hw1⟩ : ∃ x, x = w.alloc (.cells #[.bool vv, .int .i64 vhd, .int .i64 vtt, .int .i64 vttl, .int .i64 (p : Nat), .int .u64 (sh : Nat), .int .u64 (sl : Nat), .int .u64 (dh : Nat), .int .u64 (dl : Nat), .bool vfr, .int .u32 vid, .int .i64 voff, .bool vmo] 40) := ⟨_, rfl⟩
  have hV : w1.heap[w.heap.size]? = some (.cells #[.bool vv, .int .i64 vhd, .int .i64 vtt, .int .i64 vttl, .int .i64 (p : Nat), .int .u64 (sh : Nat), .int .u64 (sl : Nat), .int .u64 (dh : Nat), .int .u64 (dl : Nat), .bool vfr, .int .u32 vid, .int .i64 voff, .bool vmo] 40 (0, 0)) := by rw [hw1]; exact al_neww rfl _
  have bw1 : Below w.heap.size w w1 := by rw [hw1]; exact Below.al (Below.refl _ _) _
  rw [← hw1]
  clear hw1
  obtain ⟨⟨v0, v1, v2, v3, v4, v5, v6, v7, v8, v9, v10, v11, v12⟩, _⟩ := cells13 hV
  have hC1 : ∀ w', Below w1.heap.size w1 w' → w'.cell? ⟨w.heap.size, 5, none⟩ = some (.int .u64 (sh : Nat)) ∧ w'.cell? ⟨w.heap.size, 6, none⟩ = some (.int .u64 (sl : Nat)) ∧ w'.cell? ⟨w.heap.size, 7, none⟩ = some (.int .u64 (dh : Nat)) ∧ w'.cell? ⟨w.heap.size, 8, none⟩ = some (.int .u64 (dl : Nat)) := fun w' h => ⟨keepc h v5, keepc h v6, keepc h v7, keepc h v8⟩
  refine wp_region_held (S := (fun w' => Below w1.heap.size w1 w' ∧ w'.cell? ⟨w.heap.size, 5, none⟩ = some (.int .u64 (sh : Nat)) ∧ w'.cell? ⟨w.heap.size, 6, none⟩ = some (.int .u64 (sl : Nat)) ∧ w'.cell? ⟨w.heap.size, 7, none⟩ = some (.int .u64 (dh : Nat)) ∧ w'.cell? ⟨w.heap.size, 8, none⟩ = some (.int .u64 (dl : Nat)))) (by kernel_rfl) ?_
  change wpAnyH _ _ _ _ _ _ _ _ (World.drew _)
  have hbd : Below w1.heap.size w1 w1.drew := Below.dr (Below.refl _ _)
  have hS0 := And.intro hbd (hC1 _ hbd)
  generalize w1.drew = wd at hS0 hbd ⊢
  refine wpAnyH_take (i := 0) (v := ?_) rfl (by kernel_rfl) (by kernel_rfl) (by kernel_rfl) (fun _ _ _ h => h) (Or.inl ⟨by rfl, ?_⟩) hS0 ?_
  rotate_left 1
  · intro W hW
    obtain ⟨hW0, hW1, hW2, hW3, hW4⟩ := hW
    go_simp
    with_reducible rfl
  refine wpAnyH_take (i := 1) (v := ?_) rfl (by kernel_rfl) (by kernel_rfl) (by kernel_rfl) (fun _ _ _ h => h) (Or.inl ⟨by rfl, ?_⟩) hS0 ?_
  rotate_left 1
  · intro W hW
    obtain ⟨hW0, hW1, hW2, hW3, hW4⟩ := hW
    go_simp
    with_reducible rfl
  refine wpAnyH_take (i := 3) (v := ?_) rfl (by kernel_rfl) (by kernel_rfl) (by kernel_rfl) (fun _ _ _ h => h) (Or.inl ⟨by rfl, ?_⟩) hS0 ?_
  rotate_left 1
  · intro W hW
    obtain ⟨hW0, hW1, hW2, hW3, hW4⟩ := hW
    go_simp
    with_reducible rfl
  refine wpAnyH_take (i := 4) (v := ?_) rfl (by kernel_rfl) (by kernel_rfl) (by kernel_rfl) (fun _ _ _ h => h) (Or.inl ⟨by rfl, ?_⟩) hS0 ?_
  rotate_left 1
  · intro W hW
    obtain ⟨hW0, hW1, hW2, hW3, hW4⟩ := hW
    go_simp
    with_reducible rfl
  refine wpAnyH_ready (rs := [2]) (by kernel_rfl) (by simp) ?_
  refine AllReadyH.cons rfl (fun K hK => ?_) AllReadyH.nil
  go_simp
  go_at_call 86
  refine (c1 _).mono ?_
  rintro e wa ⟨B1, rfl, g1, l1, y1, hba⟩
  have hbA : Below w1.heap.size w1 wa := bel_via hbd hba
  refine hK.out _ _ ⟨hbA, hC1 _ hbA⟩ (fun _ => ?_)
  clear hK K
  refine wpAnyH_ready (rs := [5]) (by kernel_rfl) (by simp) ?_
  refine AllReadyH.cons rfl (fun K hK => ?_) AllReadyH.nil
  go_simp
  go_at_call 86
  refine (c2 _).mono ?_
  rintro e wb ⟨B2, rfl, g2, l2, y2, hbb⟩
  have hbB : Below w1.heap.size w1 wb := bel_via hbA hbb
  have y1b : Byt wb B1 0 SB := y1.below hbb
  refine hK.out _ _ ⟨hbB, hC1 _ hbB⟩ (fun _ => ?_)
  clear hK K
  refine wpAnyH_ready (rs := [6]) (by kernel_rfl) (by simp) ?_
  refine AllReadyH.cons rfl (fun K hK => ?_) AllReadyH.nil
  refine step_append_grows rfl (.tmp 8) (.tmp 11) 22 rfl 5 i0 (.int .u8 0) 1 1 Try.underlying22 hi hz0 hz1 hz2 rfl (by decide) (some ⟨B1, 0, none⟩) 4 4 (bc SB) rfl (fun h => by cases h) (by rw [bc_len, LS.out]) (fun b e j u hj => by cases e; exact y1b.news j u hj) ⟨B2, 0, none⟩ 4 4 (bc DB) rfl (by rw [bc_len, LD.out]) (fun j u hj => y2.news j u hj) (bc_one _) (by omega) (by unfold maxLen; omega) (by omega) ?_
  intro v' wc hown hgrow
  have hsz : wb.heap.size ≤ wc.heap.size := hgrow.size
  have hbC : Below w1.heap.size w1 wc := (hbB).grown hgrow hbB.size (fun k e => by cases e)
  refine hK.out _ _ ⟨hbC, hC1 _ hbC⟩ (fun _ => ?_)
  clear hK K
  rw [← bc_app] at hown
  refine wpAnyH_take (i := 7) (v := ?_) rfl (by kernel_rfl) (by kernel_rfl) (by kernel_rfl) (fun _ _ _ h => h) (Or.inl ⟨by rfl, ?_⟩) ⟨hbC, hC1 _ hbC⟩ ?_
  rotate_left 1
  · intro W hW
    obtain ⟨hW0, hW1, hW2, hW3, hW4⟩ := hW
    go_simp
    with_reducible rfl
  obtain ⟨gv, cv, rfl, hgv, hgvl, hcv, hcmv, _⟩ := own_form hown (by omega)
  have hgB : w.heap.size ≤ gv := Nat.le_trans (Nat.le_trans bw1.size hbB.size) hgv
  refine wpAnyH_done (by kernel_rfl) ?_ _
  obtain ⟨n5, n6, n7, n8⟩ := hC1 _ hbC
  have n4 := keepc hbC v4
  clear y1 y2 y1b hba hbb hS0 hbd v0 v1 v2 v3 v5 v6 v7 v8 v9 v10 v11 v12 c1 c2 hgrow hC1
  have hwC : Below w.heap.size w wc := bw1.trans (hbC.mono bw1.size)
  go_wp2_with (go_at_call 59; refine (ci _).mono ?_; rintro e we ⟨rfl, hbe⟩; refine Hid.out ?_)
  have hwE : Below w.heap.size w we := hwC.trans (hbe.mono hwC.size)
  have hown := own_below hown hbe
  have m4 := keepc hbe n4
  have hbs : wb.heap.size ≤ we.heap.size := Nat.le_trans (by have := hbC.size; have := hbB.size; exact Nat.le_trans (Nat.le_refl _) hsz) hbe.size
  clear hbe n4 n5 n6 n7 n8 ci
  refine Lib.hid ?_
  go_wp2_with (at_builtin; refine wpList_append_own _ rfl _ _ 22 rfl wb.heap.size 5 i0 (.int .u8 0) 1 1 Try.underlying22 hi hz0 hz1 hz2 rfl (by decide) _ _ _ rfl (hown.alloc _) ⟨we.heap.size, 0, none⟩ 4 4 [.int .u8 0, .int .u8 (p : Int), .int .u8 (Z1 : Int), .int .u8 (Z0 : Int)] rfl rfl ?n1 ?n2 (by unfold maxLen; omega) (by omega) (by simp; omega) ?n3)
  case n1 =>
    intro j u hj
    have hb : (we.alloc (.cells #[.int .u8 0, .int .u8 (p : Int), .int .u8 (Z1 : Int), .int .u8 (Z0 : Int)] 5)).heap[we.heap.size]? = some (.cells #[.int .u8 0, .int .u8 (p : Int), .int .u8 (Z1 : Int), .int .u8 (Z0 : Int)] 5 (0, 0)) := al_neww rfl _
    rw [show (⟨we.heap.size, 0, none⟩ : Addr).add j = ⟨we.heap.size, j, none⟩ by unfold Addr.add; split <;> simp_all]
    simp only [World.cell?, hb]
    simpa using hj
  case n2 =>
    intro u hu
    simp only [List.mem_cons, List.mem_nil_iff, or_false] at hu
    rcases hu with rfl | rfl | rfl | rfl <;> rfl
  case n3 =>
    intro v3 w3 hown3 hgrow3 _
    have hb3 : Below w.heap.size w w3 := (hwE.alloc hwE.size _).grown hgrow3 (Nat.le_trans hwE.size (by simp)) (fun k hk => by first | (cases hk; done) | (have := hgB; simp [Value.ownBlock] at hk; omega))
    rw [← HT.out, ← bc_app] at hown3
    obtain ⟨g3, c3, rfl, hg3, hgl3, hcap3, hcm3, _⟩ := own_form hown3 (by omega)
    go_wp2
    go_ret
    exact ⟨g3, c3, rfl, hcap3, hcm3, Byt.own hown3, hb3⟩

set_option maxHeartbeats 2000000 in
set_option maxRecDepth 100000 in
theorem pseudo16 (vv : Bool) (vhd vtt vttl : Int) (p sh sl dh dl size : Nat) (vfr : Bool) (vid voff : Int) (vmo : Bool) (h1 : sh < 18446744073709551616) (h2 : sl < 18446744073709551616) (h3 : dh < 18446744073709551616) (h4 : dl < 18446744073709551616)
    (hs4 : is4I (sh : Int) (sl : Int) = false) (hd4 : is4I (dh : Int) (dl : Int) = false) (hp : p < 256) (hz : size < 65536) (w : World) :
    Calls Try.prog 81 #[.agg #[.bool vv, .int .i64 vhd, .int .i64 vtt, .int .i64 vttl, .int .i64 (p : Nat), .int .u64 (sh : Nat), .int .u64 (sl : Nat), .int .u64 (dh : Nat), .int .u64 (dl : Nat), .bool vfr, .int .u32 vid, .int .i64 voff, .bool vmo], .int .i64 (size : Nat)] w fun e w' => ∃ B cap, e = .returned (.slice (some ⟨B, 0, none⟩) 40 cap) ∧ 40 ≤ cap ∧ cap ≤ maxLen ∧ Byt w' B 0 (beB 8 sh ++ beB 8 sl ++ (beB 8 dh ++ beB 8 dl) ++ psT16 p size) ∧ Below w.heap.size w w' := by
  have c1 := fun (W : World) => addrb16 sh sl h1 h2 hs4 W
  have c2 := fun (W : World) => addrb16 dh dl h3 h4 hd4 W
  have ci := fun (W : World) => is4_any (sh : Int) (sl : Int) ⟨by omega, by omega⟩ ⟨by omega, by omega⟩ W
  rw [hs4] at ci
  obtain ⟨i0, hi, hz0, hz1, hz2⟩ := info_parts info8
  have ls : (beB 8 sh ++ beB 8 sl).length = 16 := by simp [beB_len]
  have ld : (beB 8 dh ++ beB 8 dl).length = 16 := by simp [beB_len]
  obtain ⟨Z1, hZ1⟩ : ∃ Z, Z = size / 256 := ⟨_, rfl⟩
  obtain ⟨Z0, hZ0⟩ : ∃ Z, Z = size % 256 := ⟨_, rfl⟩
  have e1 : (size : Int) / 256 = (Z1 : Int) := by omega
  have u1 : IntKind.u8.wrap (Z1 : Int) = (Z1 : Int) := by rw [IntKind.wrap_u8]; omega
  have u0 : IntKind.u8.wrap (size : Int) = (Z0 : Int) := by rw [IntKind.wrap_u8]; omega
  have up : IntKind.u8.wrap (p : Int) = (p : Int) := by rw [IntKind.wrap_u8]; omega
  have si : (size : Int) < 65536 := by omega
  have e3 : (size : Int) / 65536 = 0 := by omega
  have e4 : (size : Int) / 16777216 = 0 := by omega
  have uz : IntKind.u8.wrap 0 = 0 := by decide
  have hT : bc (psT16 p size) = [.int .u8 0, .int .u8 0, .int .u8 (Z1 : Int), .int .u8 (Z0 : Int), .int .u8 0, .int .u8 0, .int .u8 0, .int .u8 (p : Int)] := by simp only [psT16, bc, List.map_cons, List.map_nil, ← hZ1, ← hZ0]; rw [ofN Z1 (by omega), ofN Z0 (by omega), ofN p hp]; rfl
  have HT := Lib.hid hT
  generalize psT16 p size = TL at *
  clear hZ1 hZ0 hT
  generalize hSB : (beB 8 sh ++ beB 8 sl) = SB at *
  generalize hDB : (beB 8 dh ++ beB 8 dl) = DB at *
  clear h1 h2 h3 h4 hs4 hd4 hSB hDB
  have LS := Lib.hid ls
  have LD := Lib.hid ld
  clear ls ld
  go_enter Try.func81, Try.ntmps81
  go_wp2_with fail
  obtain ⟨w1, hw1⟩ : ∃ x, x = w.alloc (.cells #[.bool vv, .int .i64 vhd, .int .i64 vtt, .int .i64 vttl, .int .i64 (p : Nat), .int .u64 (sh : Nat), .int .u64 (sl : Nat), .int .u64 (dh : Nat), .int .u64 (dl : Nat), .bool vfr, .int .u32 vid, .int .i64 voff, .bool vmo] 40) := ⟨_, rfl⟩
  have hV : w1.heap[w.heap.size]? = some (.cells #[.bool vv, .int .i64 vhd, .int .i64 vtt, .int .i64 vttl, .int .i64 (p : Nat), .int .u64 (sh : Nat), .int .u64 (sl : Nat), .int .u64 (dh : Nat), .int .u64 (dl : Nat), .bool vfr, .int .u32 vid, .int .i64 voff, .bool vmo] 40 (0, 0)) := by rw [hw1]; exact al_neww rfl _
  have bw1 : Below w.heap.size w w1 := by rw [hw1]; exact Below.al (Below.refl _ _) _
  rw [← hw1]
  clear hw1
  obtain ⟨⟨v0, v1, v2, v3, v4, v5, v6, v7, v8, v9, v10, v11, v12⟩, _⟩ := cells13 hV
  have hC1 : ∀ w', Below w1.heap.size w1 w' → w'.cell? ⟨w.heap.size, 5, none⟩ = some (.int .u64 (sh : Nat)) ∧ w'.cell? ⟨w.heap.size, 6, none⟩ = some (.int .u64 (sl : Nat)) ∧ w'.cell? ⟨w.heap.size, 7, none⟩ = some (.int .u64 (dh : Nat)) ∧ w'.cell? ⟨w.heap.size, 8, none⟩ = some (.int .u64 (dl : Nat)) := fun w' h => ⟨keepc h v5, keepc h v6, keepc h v7, keepc h v8⟩
  refine wp_region_held (S := (fun w' => Below w1.heap.size w1 w' ∧ w'.cell? ⟨w.heap.size, 5, none⟩ = some (.int .u64 (sh : Nat)) ∧ w'.cell? ⟨w.heap.size, 6, none⟩ = some (.int .u64 (sl : Nat)) ∧ w'.cell? ⟨w.heap.size, 7, none⟩ = some (.int .u64 (dh : Nat)) ∧ w'.cell? ⟨w.heap.size, 8, none⟩ = some (.int .u64 (dl : Nat)))) (by kernel_rfl) ?_
  change wpAnyH _ _ _ _ _ _ _ _ (World.drew _)
  have hbd : Below w1.heap.size w1 w1.drew := Below.dr (Below.refl _ _)
  have hS0 := And.intro hbd (hC1 _ hbd)
  generalize w1.drew = wd at hS0 hbd ⊢
  refine wpAnyH_take (i := 0) (v := ?_) rfl (by kernel_rfl) (by kernel_rfl) (by kernel_rfl) (fun _ _ _ h => h) (Or.inl ⟨by rfl, ?_⟩) hS0 ?_
  rotate_left 1
  · intro W hW
    obtain ⟨hW0, hW1, hW2, hW3, hW4⟩ := hW
    go_simp
    with_reducible rfl
  refine wpAnyH_take (i := 1) (v := ?_) rfl (by kernel_rfl) (by kernel_rfl) (by kernel_rfl) (fun _ _ _ h => h) (Or.inl ⟨by rfl, ?_⟩) hS0 ?_
  rotate_left 1
  · intro W hW
    obtain ⟨hW0, hW1, hW2, hW3, hW4⟩ := hW
    go_simp
    with_reducible rfl
  refine wpAnyH_take (i := 3) (v := ?_) rfl (by kernel_rfl) (by kernel_rfl) (by kernel_rfl) (fun _ _ _ h => h) (Or.inl ⟨by rfl, ?_⟩) hS0 ?_
  rotate_left 1
  · intro W hW
    obtain ⟨hW0, hW1, hW2, hW3, hW4⟩ := hW
    go_simp
    with_reducible rfl
  refine wpAnyH_take (i := 4) (v := ?_) rfl (by kernel_rfl) (by kernel_rfl) (by kernel_rfl) (fun _ _ _ h => h) (Or.inl ⟨by rfl, ?_⟩) hS0 ?_
  rotate_left 1
  · intro W hW
    obtain ⟨hW0, hW1, hW2, hW3, hW4⟩ := hW
    go_simp
    with_reducible rfl
  refine wpAnyH_ready (rs := [2]) (by kernel_rfl) (by simp) ?_
  refine AllReadyH.cons rfl (fun K hK => ?_) AllReadyH.nil
  go_simp
  go_at_call 86
  refine (c1 _).mono ?_
  rintro e wa ⟨B1, rfl, g1, l1, y1, hba⟩
  have hbA : Below w1.heap.size w1 wa := bel_via hbd hba
  refine hK.out _ _ ⟨hbA, hC1 _ hbA⟩ (fun _ => ?_)
  clear hK K
  refine wpAnyH_ready (rs := [5]) (by kernel_rfl) (by simp) ?_
  refine AllReadyH.cons rfl (fun K hK => ?_) AllReadyH.nil
  go_simp
  go_at_call 86
  refine (c2 _).mono ?_
  rintro e wb ⟨B2, rfl, g2, l2, y2, hbb⟩
  have hbB : Below w1.heap.size w1 wb := bel_via hbA hbb
  have y1b : Byt wb B1 0 SB := y1.below hbb
  refine hK.out _ _ ⟨hbB, hC1 _ hbB⟩ (fun _ => ?_)
  clear hK K
  refine wpAnyH_ready (rs := [6]) (by kernel_rfl) (by simp) ?_
  refine AllReadyH.cons rfl (fun K hK => ?_) AllReadyH.nil
  refine step_append_grows rfl (.tmp 8) (.tmp 11) 22 rfl 5 i0 (.int .u8 0) 1 1 Try.underlying22 hi hz0 hz1 hz2 rfl (by decide) (some ⟨B1, 0, none⟩) 16 16 (bc SB) rfl (fun h => by cases h) (by rw [bc_len, LS.out]) (fun b e j u hj => by cases e; exact y1b.news j u hj) ⟨B2, 0, none⟩ 16 16 (bc DB) rfl (by rw [bc_len, LD.out]) (fun j u hj => y2.news j u hj) (bc_one _) (by omega) (by unfold maxLen; omega) (by omega) ?_
  intro v' wc hown hgrow
  have hsz : wb.heap.size ≤ wc.heap.size := hgrow.size
  have hbC : Below w1.heap.size w1 wc := (hbB).grown hgrow hbB.size (fun k e => by cases e)
  refine hK.out _ _ ⟨hbC, hC1 _ hbC⟩ (fun _ => ?_)
  clear hK K
  rw [← bc_app] at hown
  refine wpAnyH_take (i := 7) (v := ?_) rfl (by kernel_rfl) (by kernel_rfl) (by kernel_rfl) (fun _ _ _ h => h) (Or.inl ⟨by rfl, ?_⟩) ⟨hbC, hC1 _ hbC⟩ ?_
  rotate_left 1
  · intro W hW
    obtain ⟨hW0, hW1, hW2, hW3, hW4⟩ := hW
    go_simp
    with_reducible rfl
  obtain ⟨gv, cv, rfl, hgv, hgvl, hcv, hcmv, _⟩ := own_form hown (by omega)
  have hgB : w.heap.size ≤ gv := Nat.le_trans (Nat.le_trans bw1.size hbB.size) hgv
  refine wpAnyH_done (by kernel_rfl) ?_ _
  obtain ⟨n5, n6, n7, n8⟩ := hC1 _ hbC
  have n4 := keepc hbC v4
  clear y1 y2 y1b hba hbb hS0 hbd v0 v1 v2 v3 v5 v6 v7 v8 v9 v10 v11 v12 c1 c2 hgrow hC1
  have hwC : Below w.heap.size w wc := bw1.trans (hbC.mono bw1.size)
  go_wp2_with (go_at_call 59; refine (ci _).mono ?_; rintro e we ⟨rfl, hbe⟩; refine Hid.out ?_)
  have hwE : Below w.heap.size w we := hwC.trans (hbe.mono hwC.size)
  have hown := own_below hown hbe
  have m4 := keepc hbe n4
  have hbs : wb.heap.size ≤ we.heap.size := Nat.le_trans (by have := hbC.size; have := hbB.size; exact Nat.le_trans (Nat.le_refl _) hsz) hbe.size
  clear hbe n4 n5 n6 n7 n8 ci
  refine Lib.hid ?_
  go_wp2_with (at_builtin; refine wpList_append_own _ rfl _ _ 22 rfl wb.heap.size 5 i0 (.int .u8 0) 1 1 Try.underlying22 hi hz0 hz1 hz2 rfl (by decide) _ _ _ rfl (hown.alloc _) ⟨we.heap.size, 0, none⟩ 8 8 [.int .u8 0, .int .u8 0, .int .u8 (Z1 : Int), .int .u8 (Z0 : Int), .int .u8 0, .int .u8 0, .int .u8 0, .int .u8 (p : Int)] rfl rfl ?n1 ?n2 (by unfold maxLen; omega) (by omega) (by simp; omega) ?n3)
  case n1 =>
    intro j u hj
    have hb : (we.alloc (.cells #[.int .u8 0, .int .u8 0, .int .u8 (Z1 : Int), .int .u8 (Z0 : Int), .int .u8 0, .int .u8 0, .int .u8 0, .int .u8 (p : Int)] 5)).heap[we.heap.size]? = some (.cells #[.int .u8 0, .int .u8 0, .int .u8 (Z1 : Int), .int .u8 (Z0 : Int), .int .u8 0, .int .u8 0, .int .u8 0, .int .u8 (p : Int)] 5 (0, 0)) := al_neww rfl _
    rw [show (⟨we.heap.size, 0, none⟩ : Addr).add j = ⟨we.heap.size, j, none⟩ by unfold Addr.add; split <;> simp_all]
    simp only [World.cell?, hb]
    simpa using hj
  case n2 =>
    intro u hu
    simp only [List.mem_cons, List.mem_nil_iff, or_false] at hu
    rcases hu with rfl | rfl | rfl | rfl | rfl | rfl | rfl | rfl <;> rfl
  case n3 =>
    intro v3 w3 hown3 hgrow3 _
    have hb3 : Below w.heap.size w w3 := (hwE.alloc hwE.size _).grown hgrow3 (Nat.le_trans hwE.size (by simp)) (fun k hk => by first | (cases hk; done) | (have := hgB; simp [Value.ownBlock] at hk; omega))
    rw [← HT.out, ← bc_app] at hown3
    obtain ⟨g3, c3, rfl, hg3, hgl3, hcap3, hcm3, _⟩ := own_form hown3 (by omega)
    go_wp2
    go_ret
    exact ⟨g3, c3, rfl, hcap3, hcm3, Byt.own hown3, hb3⟩
end Go.Proofs.Ytpmbdjdhgcjkfaa
