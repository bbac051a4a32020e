/- An address's text, as the program prints it: bytes, groups, the longest row; by-name template. -/
import Derived.Test.YtmnnjkdmnfadhaaGreatDoorAJoin
namespace Go.Proofs.YtmnnjkdmnfadhaaGreatDoor
open Go.RowKit
set_option linter.unusedVariables false
set_option linter.unusedSimpArgs false

theorem bytes4_len (n : Nat) (k : Nat) : (joinC 46 (((bytes4 n).map (digs 10)).take k)).length ≤ 16 := by
  have h1 := joinC_len 46 3 (((bytes4 n).map (digs 10)).take k) (by
    intro p hp
    obtain ⟨x, hx, rfl⟩ := List.mem_map.1 (List.mem_of_mem_take hp)
    have : x ≤ 255 := by
      simp only [bytes4, List.mem_cons, List.not_mem_nil, or_false] at hx
      rcases hx with rfl | rfl | rfl | rfl <;> omega
    exact digs10_len 2 (by omega))
  have h2 : (((bytes4 n).map (digs 10)).take k).length ≤ 4 := by simp [bytes4]; omega
  omega

set_option maxHeartbeats 4000000 in
set_option maxRecDepth 100000 in
theorem print4_any (n : Nat) (hn : n < 4294967296) {w : World} (hG : Glob w) :
    Calls Tryz.prog 144 #[.int .u32 n] w fun e w' => e = .returned (.string ⟨(print4 n).toArray⟩) ∧ Below w.heap.size w w' := by
  obtain ⟨i0, hi, hz0, hz1, hz2⟩ := info_parts info8
  have hb5 := bytes4_len n
  go_enter Tryz.func144, Tryz.ntmps144
  go_wp2
  go_loopw [5, 3] (fun vi vb wr => ∃ (k : Nat), vi = .int .i64 k ∧ k ≤ 4 ∧ Hid (wr.ownsRow w.heap.size 5 1 vb (joinC 46 (((bytes4 n).map (digs 10)).take k)).length (Lib.byteCells (joinC 46 (((bytes4 n).map (digs 10)).take k))) ∧ Below w.heap.size w wr)) (fun vi _ _ => 4 - (intOf vi).toNat)
  case atStart => exact ⟨0, rfl, by omega, Lib.hid ⟨World.ownsRow_nil _ _ _ _, Below.refl _ _⟩⟩
  case round =>
    obtain ⟨k, rfl, hk, hh⟩ := hrel
    obtain ⟨hown, hbel⟩ := hh.out
    clear hh
    have h40 := hb5 k
    have hsz : w.heap.size ≤ wr.heap.size := hbel.size
    match k, hk with
    | 0, _ =>
      have hn8 : n / 16777216 ≤ 255 := by omega
      have e8 : n / 16777216 % 256 = n / 16777216 := by omega
      have hst := join_step (c := 46) (l := (bytes4 n).map (digs 10)) (k := 0) (by simp [bytes4])
      rw [show ((bytes4 n).map (digs 10))[0]'(by simp [bytes4]) = digs 10 (n / 16777216 % 256) by simp [bytes4]] at hst
      rw [e8] at hst
      clear e8
      obtain ⟨J, hJ⟩ : ∃ J, J = joinC 46 (((bytes4 n).map (digs 10)).take 0) := ⟨_, rfl⟩
      rw [← hJ] at hown h40 hst
      rw [if_pos rfl] at hst
      have hJ0 : J = [] := by rw [hJ]; rfl
      subst hJ0
      clear hJ
      have hST := Lib.hid hst
      clear hst hb5
      go_wp2_with (go_at_call 162; refine (appU_10 w.heap.size (n / 16777216) hn8 _ _ _ (hG.on hbel) hown hsz (by simp)).mono ?_; rintro e w1 ⟨v1, rfl, hown1, hb1⟩)
      have hst := hST.out
      refine ⟨⟨1, rfl, by omega, Lib.hid ⟨?_, hbel.trans hb1⟩⟩, by simp [intOf]⟩
      have e0 : Lib.byteCells [] = [] := rfl
      rw [e0, List.nil_append] at hown1
      rw [hst]
      simpa using hown1
    | 1, _ =>
      have hn8 : n / 65536 % 256 ≤ 255 := by omega
      have hst := join_step (c := 46) (l := (bytes4 n).map (digs 10)) (k := 1) (by simp [bytes4])
      rw [show ((bytes4 n).map (digs 10))[1]'(by simp [bytes4]) = digs 10 (n / 65536 % 256) by simp [bytes4]] at hst
      obtain ⟨J, hJ⟩ : ∃ J, J = joinC 46 (((bytes4 n).map (digs 10)).take 1) := ⟨_, rfl⟩
      rw [← hJ] at hown h40 hst
      rw [if_neg (by omega)] at hst
      clear hJ
      have hST := Lib.hid hst
      clear hst hb5
      go_wp2_with (at_builtin; refine wpList_append_own _ rfl _ _ 197 rfl w.heap.size 5 i0 (.int .u8 0) 1 1 Tryz.underlying197 hi hz0 hz1 hz2 rfl (by decide) _ _ _ rfl (hown.alloc _) ⟨wr.heap.size, 0, none⟩ 1 1 [Value.int .u8 46] rfl rfl (by intro j u' hj; match j, hj with | 0, hj => simp at hj; subst hj; simp [Addr.add]) (by intro u' hu'; simp at hu'; subst hu'; rfl) (by unfold maxLen; omega) (by omega) (by simp; omega) ?_)
      intro v2 w2 hown2 hgrow _
      have hbel2 : Below w.heap.size w w2 := (Below.al hbel _).grown hgrow (by simp; omega) (fun k hk => (hown.lt k hk).1)
      have hsz2 : w.heap.size ≤ w2.heap.size := hbel2.size
      go_wp2_with (go_at_call 162; refine (appU_10 w.heap.size (n / 65536 % 256) hn8 _ _ _ (hG.on hbel2) hown2 hsz2 (by omega)).mono ?_; rintro e w1 ⟨v1, rfl, hown1, hb1⟩)
      have hst := hST.out
      refine ⟨⟨2, rfl, by omega, Lib.hid ⟨?_, hbel2.trans hb1⟩⟩, by simp [intOf]⟩
      rw [hst]
      have e1 : Lib.byteCells (J ++ 46 :: digs 10 (n / 65536 % 256)) = Lib.byteCells J ++ [Value.int .u8 46] ++ Lib.byteCells (digs 10 (n / 65536 % 256)) := by simp [Lib.byteCells]
      have e2 : (J ++ 46 :: digs 10 (n / 65536 % 256)).length = J.length + 1 + (digs 10 (n / 65536 % 256)).length := by simp; omega
      rw [e1, e2]
      exact hown1
    | 2, _ =>
      have hn8 : n / 256 % 256 ≤ 255 := by omega
      have hst := join_step (c := 46) (l := (bytes4 n).map (digs 10)) (k := 2) (by simp [bytes4])
      rw [show ((bytes4 n).map (digs 10))[2]'(by simp [bytes4]) = digs 10 (n / 256 % 256) by simp [bytes4]] at hst
      obtain ⟨J, hJ⟩ : ∃ J, J = joinC 46 (((bytes4 n).map (digs 10)).take 2) := ⟨_, rfl⟩
      rw [← hJ] at hown h40 hst
      rw [if_neg (by omega)] at hst
      clear hJ
      have hST := Lib.hid hst
      clear hst hb5
      go_wp2_with (at_builtin; refine wpList_append_own _ rfl _ _ 197 rfl w.heap.size 5 i0 (.int .u8 0) 1 1 Tryz.underlying197 hi hz0 hz1 hz2 rfl (by decide) _ _ _ rfl (hown.alloc _) ⟨wr.heap.size, 0, none⟩ 1 1 [Value.int .u8 46] rfl rfl (by intro j u' hj; match j, hj with | 0, hj => simp at hj; subst hj; simp [Addr.add]) (by intro u' hu'; simp at hu'; subst hu'; rfl) (by unfold maxLen; omega) (by omega) (by simp; omega) ?_)
      intro v2 w2 hown2 hgrow _
      have hbel2 : Below w.heap.size w w2 := (Below.al hbel _).grown hgrow (by simp; omega) (fun k hk => (hown.lt k hk).1)
      have hsz2 : w.heap.size ≤ w2.heap.size := hbel2.size
      go_wp2_with (go_at_call 162; refine (appU_10 w.heap.size (n / 256 % 256) hn8 _ _ _ (hG.on hbel2) hown2 hsz2 (by omega)).mono ?_; rintro e w1 ⟨v1, rfl, hown1, hb1⟩)
      have hst := hST.out
      refine ⟨⟨3, rfl, by omega, Lib.hid ⟨?_, hbel2.trans hb1⟩⟩, by simp [intOf]⟩
      rw [hst]
      have e1 : Lib.byteCells (J ++ 46 :: digs 10 (n / 256 % 256)) = Lib.byteCells J ++ [Value.int .u8 46] ++ Lib.byteCells (digs 10 (n / 256 % 256)) := by simp [Lib.byteCells]
      have e2 : (J ++ 46 :: digs 10 (n / 256 % 256)).length = J.length + 1 + (digs 10 (n / 256 % 256)).length := by simp; omega
      rw [e1, e2]
      exact hown1
    | 3, _ =>
      have hn8 : n % 256 ≤ 255 := by omega
      have hst := join_step (c := 46) (l := (bytes4 n).map (digs 10)) (k := 3) (by simp [bytes4])
      rw [show ((bytes4 n).map (digs 10))[3]'(by simp [bytes4]) = digs 10 (n % 256) by simp [bytes4]] at hst
      obtain ⟨J, hJ⟩ : ∃ J, J = joinC 46 (((bytes4 n).map (digs 10)).take 3) := ⟨_, rfl⟩
      rw [← hJ] at hown h40 hst
      rw [if_neg (by omega)] at hst
      clear hJ
      have hST := Lib.hid hst
      clear hst hb5
      go_wp2_with (at_builtin; refine wpList_append_own _ rfl _ _ 197 rfl w.heap.size 5 i0 (.int .u8 0) 1 1 Tryz.underlying197 hi hz0 hz1 hz2 rfl (by decide) _ _ _ rfl (hown.alloc _) ⟨wr.heap.size, 0, none⟩ 1 1 [Value.int .u8 46] rfl rfl (by intro j u' hj; match j, hj with | 0, hj => simp at hj; subst hj; simp [Addr.add]) (by intro u' hu'; simp at hu'; subst hu'; rfl) (by unfold maxLen; omega) (by omega) (by simp; omega) ?_)
      intro v2 w2 hown2 hgrow _
      have hbel2 : Below w.heap.size w w2 := (Below.al hbel _).grown hgrow (by simp; omega) (fun k hk => (hown.lt k hk).1)
      have hsz2 : w.heap.size ≤ w2.heap.size := hbel2.size
      go_wp2_with (go_at_call 162; refine (appU_10 w.heap.size (n % 256) hn8 _ _ _ (hG.on hbel2) hown2 hsz2 (by omega)).mono ?_; rintro e w1 ⟨v1, rfl, hown1, hb1⟩)
      have hst := hST.out
      refine ⟨⟨4, rfl, by omega, Lib.hid ⟨?_, hbel2.trans hb1⟩⟩, by simp [intOf]⟩
      rw [hst]
      have e1 : Lib.byteCells (J ++ 46 :: digs 10 (n % 256)) = Lib.byteCells J ++ [Value.int .u8 46] ++ Lib.byteCells (digs 10 (n % 256)) := by simp [Lib.byteCells]
      have e2 : (J ++ 46 :: digs 10 (n % 256)).length = J.length + 1 + (digs 10 (n % 256)).length := by simp; omega
      rw [e1, e2]
      exact hown1
    | 4, _ =>
      rw [show ((bytes4 n).map (digs 10)).take 4 = (bytes4 n).map (digs 10) by simp [bytes4]] at hown
      have hcv := to_text hown
      go_wp2
      go_ret
      exact ⟨rfl, hbel⟩
theorem wrap16 (n : Int) : IntKind.u16.wrap n = n % 65536 := by simp [IntKind.wrap, IntKind.signed, IntKind.bits]

def gcells (ah al : Int) : Nat → Array Value
  | 0 => #[.int .u16 0, .int .u16 0, .int .u16 0, .int .u16 0, .int .u16 0, .int .u16 0, .int .u16 0, .int .u16 0]
  | 1 => #[.int .u16 (ah / 281474976710656 % 65536), .int .u16 0, .int .u16 0, .int .u16 0, .int .u16 (al / 281474976710656 % 65536), .int .u16 0, .int .u16 0, .int .u16 0]
  | 2 => #[.int .u16 (ah / 281474976710656 % 65536), .int .u16 (ah / 4294967296 % 65536), .int .u16 0, .int .u16 0, .int .u16 (al / 281474976710656 % 65536), .int .u16 (al / 4294967296 % 65536), .int .u16 0, .int .u16 0]
  | 3 => #[.int .u16 (ah / 281474976710656 % 65536), .int .u16 (ah / 4294967296 % 65536), .int .u16 (ah / 65536 % 65536), .int .u16 0, .int .u16 (al / 281474976710656 % 65536), .int .u16 (al / 4294967296 % 65536), .int .u16 (al / 65536 % 65536), .int .u16 0]
  | _ => #[.int .u16 (ah / 281474976710656 % 65536), .int .u16 (ah / 4294967296 % 65536), .int .u16 (ah / 65536 % 65536), .int .u16 (ah % 65536), .int .u16 (al / 281474976710656 % 65536), .int .u16 (al / 4294967296 % 65536), .int .u16 (al / 65536 % 65536), .int .u16 (al % 65536)]

set_option maxHeartbeats 4000000 in
set_option maxRecDepth 100000 in
theorem groupsOf_any (ah al : Int) (h0 : Word ah) (h1 : Word al) (w : World) : Calls Tryz.prog 145 #[.agg #[.int .u64 ah, .int .u64 al]] w fun e w' => e = .returned (.agg (gcells ah al 4)) ∧ Below w.heap.size w w' := by
  obtain ⟨p0, p1⟩ := h0; obtain ⟨q0, q1⟩ := h1
  have e1 : ah / 281474976710656 % 65536 = ah / 281474976710656 := by omega
  have e2 : al / 281474976710656 % 65536 = al / 281474976710656 := by omega
  have E := Lib.hid (show _ ∧ _ from ⟨e1, e2⟩)
  clear e1 e2
  go_enter Tryz.func145, Tryz.ntmps145
  go_wp2
  go_loopw [6] (fun vi wr => ∃ (k : Nat), vi = .int .i64 k ∧ k ≤ 4 ∧ wr = ((w.alloc (.cells #[.int .u64 ah, .int .u64 al] 36)).alloc (.cells #[.int .u16 0, .int .u16 0, .int .u16 0, .int .u16 0, .int .u16 0, .int .u16 0, .int .u16 0, .int .u16 0] 181)).alloc (.cells (gcells ah al k) 181)) (fun vi _ => 4 - (intOf vi).toNat)
  case atStart => exact ⟨0, rfl, by omega, rfl⟩
  case round =>
    obtain ⟨k, rfl, hk, rfl⟩ := hrel
    match k, hk with
    | 0, _ =>
      simp only [gcells]
      go_wp2
      obtain ⟨e1, e2⟩ := E.out
      exact ⟨⟨1, rfl, by omega, by simp [gcells, wrap16, e1, e2]⟩, by simp [intOf]⟩
    | 1, _ =>
      simp only [gcells]
      go_wp2
      obtain ⟨e1, e2⟩ := E.out
      exact ⟨⟨2, rfl, by omega, by simp [gcells, wrap16, e1, e2]⟩, by simp [intOf]⟩
    | 2, _ =>
      simp only [gcells]
      go_wp2
      obtain ⟨e1, e2⟩ := E.out
      exact ⟨⟨3, rfl, by omega, by simp [gcells, wrap16, e1, e2]⟩, by simp [intOf]⟩
    | 3, _ =>
      simp only [gcells]
      go_wp2
      obtain ⟨e1, e2⟩ := E.out
      exact ⟨⟨4, rfl, by omega, by simp [gcells, wrap16, e1, e2]⟩, by simp [intOf]⟩
    | 4, _ =>
      simp only [gcells]
      go_wp2
      simp [bodyPost, results, Tryz.results145, go_sem, gcells]
      repeat (first | exact Below.refl _ _ | apply Below.dr | apply Below.al)

set_option maxHeartbeats 8000000 in
set_option maxRecDepth 100000 in
theorem longestRow_any (g0 g1 g2 g3 g4 g5 g6 g7 : Nat) (w : World) : Calls Tryz.prog 146 #[.agg #[.int .u16 (g0 : Nat), .int .u16 (g1 : Nat), .int .u16 (g2 : Nat), .int .u16 (g3 : Nat), .int .u16 (g4 : Nat), .int .u16 (g5 : Nat), .int .u16 (g6 : Nat), .int .u16 (g7 : Nat)]] w fun e w' => e = .returned (.tuple #[.int .i64 (rowF [g0, g1, g2, g3, g4, g5, g6, g7] : Nat), .int .i64 (rowT [g0, g1, g2, g3, g4, g5, g6, g7] : Nat)]) ∧ Below w.heap.size w w' := by
  unfold rowF rowT
  obtain ⟨Z, hZ⟩ : ∃ Z, Z = zs [g0, g1, g2, g3, g4, g5, g6, g7] := ⟨_, rfl⟩
  rw [← hZ]
  have hzk : Z = [g0 == 0, g1 == 0, g2 == 0, g3 == 0, g4 == 0, g5 == 0, g6 == 0, g7 == 0] := by rw [hZ]; rfl
  have HZ := Lib.hid hzk
  clear hZ hzk
  go_enter Tryz.func146, Tryz.ntmps146
  go_wp2
  go_loop [4, 5, 6, 11] (fun vf vt vs vi => ∃ (f t s k : Nat), vf = .int .i64 f ∧ vt = .int .i64 t ∧ vs = .int .i64 s ∧ vi = .int .i64 k ∧ k ≤ 8 ∧ f ≤ 8 ∧ t ≤ 8 ∧ f ≤ t ∧ s ≤ k ∧ Hid (lrowB Z 0 0 0 0 = lrowB (Z.drop k) k f t s)) (fun _ _ _ vi => 8 - (intOf vi).toNat)
  case atStart => exact ⟨0, 0, 0, 0, rfl, rfl, rfl, rfl, by omega, by omega, by omega, by omega, by omega, Lib.hid rfl⟩
  case round =>
    obtain ⟨f, t, s, k, rfl, rfl, rfl, rfl, hk, hf, ht, hft, hs, hh⟩ := hrel
    match k, hk with
    | 0, _ =>
      have hd : Z.drop 0 = (g0 == 0) :: Z.drop 1 := by rw [HZ.out]; rfl
      have hh := hh.out
      rw [hd, lrowB] at hh
      clear hd
      have hix : ∀ W, (Instr.index 181 (.agg #[.int .u16 (g0 : Nat), .int .u16 (g1 : Nat), .int .u16 (g2 : Nat), .int .u16 (g3 : Nat), .int .u16 (g4 : Nat), .int .u16 (g5 : Nat), .int .u16 (g6 : Nat), .int .u16 (g7 : Nat)]) (.int .i64 0)).run Tryz.prog W = .ok (.int .u16 (g0 : Nat)) W := fun W => by kernel_rfl
      by_cases hz : g0 = 0
      · have hz1 : (((g0 : Nat) : Int) != 0) = false := by simp [hz]
        have hz2 : (((g0 : Nat) : Int) == 0) = true := by simp [hz]
        rw [if_pos (by simp [hz])] at hh
        clear hz
        by_cases hg : 0 + 1 - s > max 1 (t - f)
        · rw [if_pos hg] at hh
          have hg1 : (1 : Int) < 0 + 1 - (s : Int) := by omega
          have hg2 : (t : Int) - (f : Int) < 0 + 1 - (s : Int) := by omega
          have H := Lib.hid hh
          clear hh
          go_wp2
          all_goals first
            | (exfalso; omega)
            | exact ⟨⟨s, 1, s, 1, rfl, by simp, rfl, by simp, by omega, by omega, by omega, by omega, by omega, Lib.hid H.out⟩, by simp [intOf]⟩
        · rw [if_neg hg] at hh
          have H := Lib.hid hh
          clear hh
          by_cases hm : (t : Int) - (f : Int) < 1
          · have hc2 : (0 : Int) + 1 - (s : Int) ≤ 1 := by omega
            go_wp2
            all_goals first
              | (exfalso; omega)
              | exact ⟨⟨f, t, s, 1, rfl, rfl, rfl, by simp, by omega, by omega, by omega, by omega, by omega, Lib.hid H.out⟩, by simp [intOf]⟩
          · have hm1 : (1 : Int) ≤ (t : Int) - (f : Int) := by omega
            have hc2 : (0 : Int) + 1 - (s : Int) ≤ (t : Int) - (f : Int) := by omega
            go_wp2
            all_goals first
              | (exfalso; omega)
              | exact ⟨⟨f, t, s, 1, rfl, rfl, rfl, by simp, by omega, by omega, by omega, by omega, by omega, Lib.hid H.out⟩, by simp [intOf]⟩
      · rw [if_neg (by simp [hz])] at hh
        have hz1 : (((g0 : Nat) : Int) != 0) = true := by simp [hz]
        have hz2 : (((g0 : Nat) : Int) == 0) = false := by simp [hz]
        have H := Lib.hid hh
        clear hh hz
        go_wp2
        exact ⟨⟨f, t, 1, 1, rfl, rfl, by simp, by simp, by omega, by omega, by omega, by omega, by omega, Lib.hid H.out⟩, by simp [intOf]⟩
    | 1, _ =>
      have hd : Z.drop 1 = (g1 == 0) :: Z.drop 2 := by rw [HZ.out]; rfl
      have hh := hh.out
      rw [hd, lrowB] at hh
      clear hd
      have hix : ∀ W, (Instr.index 181 (.agg #[.int .u16 (g0 : Nat), .int .u16 (g1 : Nat), .int .u16 (g2 : Nat), .int .u16 (g3 : Nat), .int .u16 (g4 : Nat), .int .u16 (g5 : Nat), .int .u16 (g6 : Nat), .int .u16 (g7 : Nat)]) (.int .i64 1)).run Tryz.prog W = .ok (.int .u16 (g1 : Nat)) W := fun W => by kernel_rfl
      by_cases hz : g1 = 0
      · have hz1 : (((g1 : Nat) : Int) != 0) = false := by simp [hz]
        have hz2 : (((g1 : Nat) : Int) == 0) = true := by simp [hz]
        rw [if_pos (by simp [hz])] at hh
        clear hz
        by_cases hg : 1 + 1 - s > max 1 (t - f)
        · rw [if_pos hg] at hh
          have hg1 : (1 : Int) < 1 + 1 - (s : Int) := by omega
          have hg2 : (t : Int) - (f : Int) < 1 + 1 - (s : Int) := by omega
          have H := Lib.hid hh
          clear hh
          go_wp2
          all_goals first
            | (exfalso; omega)
            | exact ⟨⟨s, 2, s, 2, rfl, by simp, rfl, by simp, by omega, by omega, by omega, by omega, by omega, Lib.hid H.out⟩, by simp [intOf]⟩
        · rw [if_neg hg] at hh
          have H := Lib.hid hh
          clear hh
          by_cases hm : (t : Int) - (f : Int) < 1
          · have hc2 : (1 : Int) + 1 - (s : Int) ≤ 1 := by omega
            go_wp2
            all_goals first
              | (exfalso; omega)
              | exact ⟨⟨f, t, s, 2, rfl, rfl, rfl, by simp, by omega, by omega, by omega, by omega, by omega, Lib.hid H.out⟩, by simp [intOf]⟩
          · have hm1 : (1 : Int) ≤ (t : Int) - (f : Int) := by omega
            have hc2 : (1 : Int) + 1 - (s : Int) ≤ (t : Int) - (f : Int) := by omega
            go_wp2
            all_goals first
              | (exfalso; omega)
              | exact ⟨⟨f, t, s, 2, rfl, rfl, rfl, by simp, by omega, by omega, by omega, by omega, by omega, Lib.hid H.out⟩, by simp [intOf]⟩
      · rw [if_neg (by simp [hz])] at hh
        have hz1 : (((g1 : Nat) : Int) != 0) = true := by simp [hz]
        have hz2 : (((g1 : Nat) : Int) == 0) = false := by simp [hz]
        have H := Lib.hid hh
        clear hh hz
        go_wp2
        exact ⟨⟨f, t, 2, 2, rfl, rfl, by simp, by simp, by omega, by omega, by omega, by omega, by omega, Lib.hid H.out⟩, by simp [intOf]⟩
    | 2, _ =>
      have hd : Z.drop 2 = (g2 == 0) :: Z.drop 3 := by rw [HZ.out]; rfl
      have hh := hh.out
      rw [hd, lrowB] at hh
      clear hd
      have hix : ∀ W, (Instr.index 181 (.agg #[.int .u16 (g0 : Nat), .int .u16 (g1 : Nat), .int .u16 (g2 : Nat), .int .u16 (g3 : Nat), .int .u16 (g4 : Nat), .int .u16 (g5 : Nat), .int .u16 (g6 : Nat), .int .u16 (g7 : Nat)]) (.int .i64 2)).run Tryz.prog W = .ok (.int .u16 (g2 : Nat)) W := fun W => by kernel_rfl
      by_cases hz : g2 = 0
      · have hz1 : (((g2 : Nat) : Int) != 0) = false := by simp [hz]
        have hz2 : (((g2 : Nat) : Int) == 0) = true := by simp [hz]
        rw [if_pos (by simp [hz])] at hh
        clear hz
        by_cases hg : 2 + 1 - s > max 1 (t - f)
        · rw [if_pos hg] at hh
          have hg1 : (1 : Int) < 2 + 1 - (s : Int) := by omega
          have hg2 : (t : Int) - (f : Int) < 2 + 1 - (s : Int) := by omega
          have H := Lib.hid hh
          clear hh
          go_wp2
          all_goals first
            | (exfalso; omega)
            | exact ⟨⟨s, 3, s, 3, rfl, by simp, rfl, by simp, by omega, by omega, by omega, by omega, by omega, Lib.hid H.out⟩, by simp [intOf]⟩
        · rw [if_neg hg] at hh
          have H := Lib.hid hh
          clear hh
          by_cases hm : (t : Int) - (f : Int) < 1
          · have hc2 : (2 : Int) + 1 - (s : Int) ≤ 1 := by omega
            go_wp2
            all_goals first
              | (exfalso; omega)
              | exact ⟨⟨f, t, s, 3, rfl, rfl, rfl, by simp, by omega, by omega, by omega, by omega, by omega, Lib.hid H.out⟩, by simp [intOf]⟩
          · have hm1 : (1 : Int) ≤ (t : Int) - (f : Int) := by omega
            have hc2 : (2 : Int) + 1 - (s : Int) ≤ (t : Int) - (f : Int) := by omega
            go_wp2
            all_goals first
              | (exfalso; omega)
              | exact ⟨⟨f, t, s, 3, rfl, rfl, rfl, by simp, by omega, by omega, by omega, by omega, by omega, Lib.hid H.out⟩, by simp [intOf]⟩
      · rw [if_neg (by simp [hz])] at hh
        have hz1 : (((g2 : Nat) : Int) != 0) = true := by simp [hz]
        have hz2 : (((g2 : Nat) : Int) == 0) = false := by simp [hz]
        have H := Lib.hid hh
        clear hh hz
        go_wp2
        exact ⟨⟨f, t, 3, 3, rfl, rfl, by simp, by simp, by omega, by omega, by omega, by omega, by omega, Lib.hid H.out⟩, by simp [intOf]⟩
    | 3, _ =>
      have hd : Z.drop 3 = (g3 == 0) :: Z.drop 4 := by rw [HZ.out]; rfl
      have hh := hh.out
      rw [hd, lrowB] at hh
      clear hd
      have hix : ∀ W, (Instr.index 181 (.agg #[.int .u16 (g0 : Nat), .int .u16 (g1 : Nat), .int .u16 (g2 : Nat), .int .u16 (g3 : Nat), .int .u16 (g4 : Nat), .int .u16 (g5 : Nat), .int .u16 (g6 : Nat), .int .u16 (g7 : Nat)]) (.int .i64 3)).run Tryz.prog W = .ok (.int .u16 (g3 : Nat)) W := fun W => by kernel_rfl
      by_cases hz : g3 = 0
      · have hz1 : (((g3 : Nat) : Int) != 0) = false := by simp [hz]
        have hz2 : (((g3 : Nat) : Int) == 0) = true := by simp [hz]
        rw [if_pos (by simp [hz])] at hh
        clear hz
        by_cases hg : 3 + 1 - s > max 1 (t - f)
        · rw [if_pos hg] at hh
          have hg1 : (1 : Int) < 3 + 1 - (s : Int) := by omega
          have hg2 : (t : Int) - (f : Int) < 3 + 1 - (s : Int) := by omega
          have H := Lib.hid hh
          clear hh
          go_wp2
          all_goals first
            | (exfalso; omega)
            | exact ⟨⟨s, 4, s, 4, rfl, by simp, rfl, by simp, by omega, by omega, by omega, by omega, by omega, Lib.hid H.out⟩, by simp [intOf]⟩
        · rw [if_neg hg] at hh
          have H := Lib.hid hh
          clear hh
          by_cases hm : (t : Int) - (f : Int) < 1
          · have hc2 : (3 : Int) + 1 - (s : Int) ≤ 1 := by omega
            go_wp2
            all_goals first
              | (exfalso; omega)
              | exact ⟨⟨f, t, s, 4, rfl, rfl, rfl, by simp, by omega, by omega, by omega, by omega, by omega, Lib.hid H.out⟩, by simp [intOf]⟩
          · have hm1 : (1 : Int) ≤ (t : Int) - (f : Int) := by omega
            have hc2 : (3 : Int) + 1 - (s : Int) ≤ (t : Int) - (f : Int) := by omega
            go_wp2
            all_goals first
              | (exfalso; omega)
              | exact ⟨⟨f, t, s, 4, rfl, rfl, rfl, by simp, by omega, by omega, by omega, by omega, by omega, Lib.hid H.out⟩, by simp [intOf]⟩
      · rw [if_neg (by simp [hz])] at hh
        have hz1 : (((g3 : Nat) : Int) != 0) = true := by simp [hz]
        have hz2 : (((g3 : Nat) : Int) == 0) = false := by simp [hz]
        have H := Lib.hid hh
        clear hh hz
        go_wp2
        exact ⟨⟨f, t, 4, 4, rfl, rfl, by simp, by simp, by omega, by omega, by omega, by omega, by omega, Lib.hid H.out⟩, by simp [intOf]⟩
    | 4, _ =>
      have hd : Z.drop 4 = (g4 == 0) :: Z.drop 5 := by rw [HZ.out]; rfl
      have hh := hh.out
      rw [hd, lrowB] at hh
      clear hd
      have hix : ∀ W, (Instr.index 181 (.agg #[.int .u16 (g0 : Nat), .int .u16 (g1 : Nat), .int .u16 (g2 : Nat), .int .u16 (g3 : Nat), .int .u16 (g4 : Nat), .int .u16 (g5 : Nat), .int .u16 (g6 : Nat), .int .u16 (g7 : Nat)]) (.int .i64 4)).run Tryz.prog W = .ok (.int .u16 (g4 : Nat)) W := fun W => by kernel_rfl
      by_cases hz : g4 = 0
      · have hz1 : (((g4 : Nat) : Int) != 0) = false := by simp [hz]
        have hz2 : (((g4 : Nat) : Int) == 0) = true := by simp [hz]
        rw [if_pos (by simp [hz])] at hh
        clear hz
        by_cases hg : 4 + 1 - s > max 1 (t - f)
        · rw [if_pos hg] at hh
          have hg1 : (1 : Int) < 4 + 1 - (s : Int) := by omega
          have hg2 : (t : Int) - (f : Int) < 4 + 1 - (s : Int) := by omega
          have H := Lib.hid hh
          clear hh
          go_wp2
          all_goals first
            | (exfalso; omega)
            | exact ⟨⟨s, 5, s, 5, rfl, by simp, rfl, by simp, by omega, by omega, by omega, by omega, by omega, Lib.hid H.out⟩, by simp [intOf]⟩
        · rw [if_neg hg] at hh
          have H := Lib.hid hh
          clear hh
          by_cases hm : (t : Int) - (f : Int) < 1
          · have hc2 : (4 : Int) + 1 - (s : Int) ≤ 1 := by omega
            go_wp2
            all_goals first
              | (exfalso; omega)
              | exact ⟨⟨f, t, s, 5, rfl, rfl, rfl, by simp, by omega, by omega, by omega, by omega, by omega, Lib.hid H.out⟩, by simp [intOf]⟩
          · have hm1 : (1 : Int) ≤ (t : Int) - (f : Int) := by omega
            have hc2 : (4 : Int) + 1 - (s : Int) ≤ (t : Int) - (f : Int) := by omega
            go_wp2
            all_goals first
              | (exfalso; omega)
              | exact ⟨⟨f, t, s, 5, rfl, rfl, rfl, by simp, by omega, by omega, by omega, by omega, by omega, Lib.hid H.out⟩, by simp [intOf]⟩
      · rw [if_neg (by simp [hz])] at hh
        have hz1 : (((g4 : Nat) : Int) != 0) = true := by simp [hz]
        have hz2 : (((g4 : Nat) : Int) == 0) = false := by simp [hz]
        have H := Lib.hid hh
        clear hh hz
        go_wp2
        exact ⟨⟨f, t, 5, 5, rfl, rfl, by simp, by simp, by omega, by omega, by omega, by omega, by omega, Lib.hid H.out⟩, by simp [intOf]⟩
    | 5, _ =>
      have hd : Z.drop 5 = (g5 == 0) :: Z.drop 6 := by rw [HZ.out]; rfl
      have hh := hh.out
      rw [hd, lrowB] at hh
      clear hd
      have hix : ∀ W, (Instr.index 181 (.agg #[.int .u16 (g0 : Nat), .int .u16 (g1 : Nat), .int .u16 (g2 : Nat), .int .u16 (g3 : Nat), .int .u16 (g4 : Nat), .int .u16 (g5 : Nat), .int .u16 (g6 : Nat), .int .u16 (g7 : Nat)]) (.int .i64 5)).run Tryz.prog W = .ok (.int .u16 (g5 : Nat)) W := fun W => by kernel_rfl
      by_cases hz : g5 = 0
      · have hz1 : (((g5 : Nat) : Int) != 0) = false := by simp [hz]
        have hz2 : (((g5 : Nat) : Int) == 0) = true := by simp [hz]
        rw [if_pos (by simp [hz])] at hh
        clear hz
        by_cases hg : 5 + 1 - s > max 1 (t - f)
        · rw [if_pos hg] at hh
          have hg1 : (1 : Int) < 5 + 1 - (s : Int) := by omega
          have hg2 : (t : Int) - (f : Int) < 5 + 1 - (s : Int) := by omega
          have H := Lib.hid hh
          clear hh
          go_wp2
          all_goals first
            | (exfalso; omega)
            | exact ⟨⟨s, 6, s, 6, rfl, by simp, rfl, by simp, by omega, by omega, by omega, by omega, by omega, Lib.hid H.out⟩, by simp [intOf]⟩
        · rw [if_neg hg] at hh
          have H := Lib.hid hh
          clear hh
          by_cases hm : (t : Int) - (f : Int) < 1
          · have hc2 : (5 : Int) + 1 - (s : Int) ≤ 1 := by omega
            go_wp2
            all_goals first
              | (exfalso; omega)
              | exact ⟨⟨f, t, s, 6, rfl, rfl, rfl, by simp, by omega, by omega, by omega, by omega, by omega, Lib.hid H.out⟩, by simp [intOf]⟩
          · have hm1 : (1 : Int) ≤ (t : Int) - (f : Int) := by omega
            have hc2 : (5 : Int) + 1 - (s : Int) ≤ (t : Int) - (f : Int) := by omega
            go_wp2
            all_goals first
              | (exfalso; omega)
              | exact ⟨⟨f, t, s, 6, rfl, rfl, rfl, by simp, by omega, by omega, by omega, by omega, by omega, Lib.hid H.out⟩, by simp [intOf]⟩
      · rw [if_neg (by simp [hz])] at hh
        have hz1 : (((g5 : Nat) : Int) != 0) = true := by simp [hz]
        have hz2 : (((g5 : Nat) : Int) == 0) = false := by simp [hz]
        have H := Lib.hid hh
        clear hh hz
        go_wp2
        exact ⟨⟨f, t, 6, 6, rfl, rfl, by simp, by simp, by omega, by omega, by omega, by omega, by omega, Lib.hid H.out⟩, by simp [intOf]⟩
    | 6, _ =>
      have hd : Z.drop 6 = (g6 == 0) :: Z.drop 7 := by rw [HZ.out]; rfl
      have hh := hh.out
      rw [hd, lrowB] at hh
      clear hd
      have hix : ∀ W, (Instr.index 181 (.agg #[.int .u16 (g0 : Nat), .int .u16 (g1 : Nat), .int .u16 (g2 : Nat), .int .u16 (g3 : Nat), .int .u16 (g4 : Nat), .int .u16 (g5 : Nat), .int .u16 (g6 : Nat), .int .u16 (g7 : Nat)]) (.int .i64 6)).run Tryz.prog W = .ok (.int .u16 (g6 : Nat)) W := fun W => by kernel_rfl
      by_cases hz : g6 = 0
      · have hz1 : (((g6 : Nat) : Int) != 0) = false := by simp [hz]
        have hz2 : (((g6 : Nat) : Int) == 0) = true := by simp [hz]
        rw [if_pos (by simp [hz])] at hh
        clear hz
        by_cases hg : 6 + 1 - s > max 1 (t - f)
        · rw [if_pos hg] at hh
          have hg1 : (1 : Int) < 6 + 1 - (s : Int) := by omega
          have hg2 : (t : Int) - (f : Int) < 6 + 1 - (s : Int) := by omega
          have H := Lib.hid hh
          clear hh
          go_wp2
          all_goals first
            | (exfalso; omega)
            | exact ⟨⟨s, 7, s, 7, rfl, by simp, rfl, by simp, by omega, by omega, by omega, by omega, by omega, Lib.hid H.out⟩, by simp [intOf]⟩
        · rw [if_neg hg] at hh
          have H := Lib.hid hh
          clear hh
          by_cases hm : (t : Int) - (f : Int) < 1
          · have hc2 : (6 : Int) + 1 - (s : Int) ≤ 1 := by omega
            go_wp2
            all_goals first
              | (exfalso; omega)
              | exact ⟨⟨f, t, s, 7, rfl, rfl, rfl, by simp, by omega, by omega, by omega, by omega, by omega, Lib.hid H.out⟩, by simp [intOf]⟩
          · have hm1 : (1 : Int) ≤ (t : Int) - (f : Int) := by omega
            have hc2 : (6 : Int) + 1 - (s : Int) ≤ (t : Int) - (f : Int) := by omega
            go_wp2
            all_goals first
              | (exfalso; omega)
              | exact ⟨⟨f, t, s, 7, rfl, rfl, rfl, by simp, by omega, by omega, by omega, by omega, by omega, Lib.hid H.out⟩, by simp [intOf]⟩
      · rw [if_neg (by simp [hz])] at hh
        have hz1 : (((g6 : Nat) : Int) != 0) = true := by simp [hz]
        have hz2 : (((g6 : Nat) : Int) == 0) = false := by simp [hz]
        have H := Lib.hid hh
        clear hh hz
        go_wp2
        exact ⟨⟨f, t, 7, 7, rfl, rfl, by simp, by simp, by omega, by omega, by omega, by omega, by omega, Lib.hid H.out⟩, by simp [intOf]⟩
    | 7, _ =>
      have hd : Z.drop 7 = (g7 == 0) :: Z.drop 8 := by rw [HZ.out]; rfl
      have hh := hh.out
      rw [hd, lrowB] at hh
      clear hd
      have hix : ∀ W, (Instr.index 181 (.agg #[.int .u16 (g0 : Nat), .int .u16 (g1 : Nat), .int .u16 (g2 : Nat), .int .u16 (g3 : Nat), .int .u16 (g4 : Nat), .int .u16 (g5 : Nat), .int .u16 (g6 : Nat), .int .u16 (g7 : Nat)]) (.int .i64 7)).run Tryz.prog W = .ok (.int .u16 (g7 : Nat)) W := fun W => by kernel_rfl
      by_cases hz : g7 = 0
      · have hz1 : (((g7 : Nat) : Int) != 0) = false := by simp [hz]
        have hz2 : (((g7 : Nat) : Int) == 0) = true := by simp [hz]
        rw [if_pos (by simp [hz])] at hh
        clear hz
        by_cases hg : 7 + 1 - s > max 1 (t - f)
        · rw [if_pos hg] at hh
          have hg1 : (1 : Int) < 7 + 1 - (s : Int) := by omega
          have hg2 : (t : Int) - (f : Int) < 7 + 1 - (s : Int) := by omega
          have H := Lib.hid hh
          clear hh
          go_wp2
          all_goals first
            | (exfalso; omega)
            | exact ⟨⟨s, 8, s, 8, rfl, by simp, rfl, by simp, by omega, by omega, by omega, by omega, by omega, Lib.hid H.out⟩, by simp [intOf]⟩
        · rw [if_neg hg] at hh
          have H := Lib.hid hh
          clear hh
          by_cases hm : (t : Int) - (f : Int) < 1
          · have hc2 : (7 : Int) + 1 - (s : Int) ≤ 1 := by omega
            go_wp2
            all_goals first
              | (exfalso; omega)
              | exact ⟨⟨f, t, s, 8, rfl, rfl, rfl, by simp, by omega, by omega, by omega, by omega, by omega, Lib.hid H.out⟩, by simp [intOf]⟩
          · have hm1 : (1 : Int) ≤ (t : Int) - (f : Int) := by omega
            have hc2 : (7 : Int) + 1 - (s : Int) ≤ (t : Int) - (f : Int) := by omega
            go_wp2
            all_goals first
              | (exfalso; omega)
              | exact ⟨⟨f, t, s, 8, rfl, rfl, rfl, by simp, by omega, by omega, by omega, by omega, by omega, Lib.hid H.out⟩, by simp [intOf]⟩
      · rw [if_neg (by simp [hz])] at hh
        have hz1 : (((g7 : Nat) : Int) != 0) = true := by simp [hz]
        have hz2 : (((g7 : Nat) : Int) == 0) = false := by simp [hz]
        have H := Lib.hid hh
        clear hh hz
        go_wp2
        exact ⟨⟨f, t, 8, 8, rfl, rfl, by simp, by simp, by omega, by omega, by omega, by omega, by omega, Lib.hid H.out⟩, by simp [intOf]⟩
    | 8, _ =>
      have hd : Z.drop 8 = [] := by rw [HZ.out]; rfl
      have hh := hh.out
      rw [hd, lrowB] at hh
      have H := Lib.hid hh
      clear hh
      go_wp2
      go_ret2
      rw [H.out]
      exact ⟨rfl, by repeat (first | exact Below.refl _ _ | apply Below.dr | apply Below.al)⟩
end Go.Proofs.YtmnnjkdmnfadhaaGreatDoor
