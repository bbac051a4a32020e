/- An address's text, as the program prints it; by-name template. -/
import Derived.Test.YtmnnjkdmnfadhaaGreatDoorAGroups
namespace Go.Proofs.YtmnnjkdmnfadhaaGreatDoor
open Go.RowKit
set_option linter.unusedVariables false
set_option linter.unusedSimpArgs false

theorem keepB {w4 wr w' : World} {X : Prop} {C : World → Prop} (hC : ∀ w', Below w4.heap.size w4 w' → C w') (hb : Below wr.heap.size wr w') (hH : Below w4.heap.size w4 wr ∧ X) : Below w4.heap.size w4 w' ∧ C w' :=
  ⟨bel_via hH.1 hb, hC _ (bel_via hH.1 hb)⟩
theorem keepD {w4 wr : World} {X : Prop} {C : World → Prop} (hC : ∀ w', Below w4.heap.size w4 w' → C w') (hH : Below w4.heap.size w4 wr ∧ X) : Below w4.heap.size w4 wr.drew ∧ C wr.drew :=
  ⟨Below.dr hH.1, hC _ (Below.dr hH.1)⟩
theorem keep0 {w4 : World} {C : World → Prop} (hC : ∀ w', Below w4.heap.size w4 w' → C w') : Below w4.heap.size w4 w4.drew ∧ C w4.drew := ⟨Below.dr (Below.refl _ _), hC _ (Below.dr (Below.refl _ _))⟩
theorem keep00 {w4 : World} {C : World → Prop} (hC : ∀ w', Below w4.heap.size w4 w' → C w') : Below w4.heap.size w4 w4 ∧ C w4 := ⟨(Below.refl _ _), hC _ ((Below.refl _ _))⟩

/-- The groups of two words. -/
def gsI (ah al : Int) : List Nat := gsN ah.toNat al.toNat

theorem gsN_le (hi lo : Nat) : ∀ n ∈ gsN hi lo, n ≤ 65535 := by
  intro n hn
  simp only [gsN, List.mem_cons, List.not_mem_nil, or_false] at hn
  rcases hn with rfl | rfl | rfl | rfl | rfl | rfl | rfl | rfl <;> omega
theorem gsN_len (hi lo : Nat) : (gsN hi lo).length = 8 := rfl

theorem is4_nat (a b : Nat) : is4I a b = is4 a b := by
  unfold is4I is4
  have h1 : decide ((a : Int) = 0) = decide (a = 0) := decide_eq_decide.2 (by omega)
  have h2 : decide ((b : Int) / 4294967296 = 65535) = decide (b / 4294967296 = 65535) := decide_eq_decide.2 (by omega)
  rw [h1, h2]

set_option maxHeartbeats 4000000 in
set_option maxRecDepth 100000 in
theorem print_any (a b : Nat) (ha : a < 18446744073709551616) (hb : b < 18446744073709551616) {w : World} (hG : Glob w) :
    Calls Tryz.prog 106 #[.agg #[.int .u64 a, .int .u64 b]] w fun e w' => e = .returned (.string ⟨(printA a b).toArray⟩) ∧ Below w.heap.size w w' := by
  have c1 := is4_any (a : Int) (b : Int) ⟨by omega, by omega⟩ ⟨by omega, by omega⟩
  rw [is4_nat] at c1
  obtain ⟨PT, hPT⟩ : ∃ PT, PT = printA a b := ⟨_, rfl⟩
  rw [← hPT]
  have HP := Lib.hid hPT
  clear hPT
  go_enter Tryz.func106, Tryz.ntmps106
  go_wp2_with fail
  obtain ⟨w0, hw0⟩ : ∃ w0, w0 = w.alloc (Obj.cells #[Value.int IntKind.u64 a, Value.int IntKind.u64 b] 36) := ⟨_, rfl⟩
  have b0 : Below w.heap.size w w0 := by rw [hw0]; exact Below.al (Below.refl _ _) _
  have hC : ∀ w', Below w0.heap.size w0 w' → w'.cell? ⟨w.heap.size, 0, none⟩ = some (.int .u64 a) ∧ w'.cell? ⟨w.heap.size, 1, none⟩ = some (.int .u64 b) := by
    intro w' h
    refine ⟨keepc h ?_, keepc h ?_⟩ <;> (rw [hw0]; simp [go_sem, World.cell?_alloc_past])
  rw [← hw0]
  clear hw0
  cases hi : is4 a b
  · rw [hi] at c1
    refine (kept (c1 _) (Below.refl _ _) hC).mono ?_
    rintro e w1 ⟨rfl, ⟨k0, k1⟩, hb1⟩
    have bw1 : Below w.heap.size w w1 := bel_via b0 hb1
    have c2 := groupsOf_any (a : Int) (b : Int) ⟨by omega, by omega⟩ ⟨by omega, by omega⟩
    have hcells : gcells a b 4 = ((gsN a b).map fun g => Value.int .u16 (g : Nat)).toArray := by
      simp [gcells, gsN]
    obtain ⟨G, hGl⟩ : ∃ G, G = gsN a b := ⟨_, rfl⟩
    have hG8 : G.length = 8 := by rw [hGl]; rfl
    have hGr : ∀ n ∈ G, n ≤ 65535 := by rw [hGl]; exact gsN_le a b
    rw [hcells, ← hGl] at c2
    have HP2 : PT = print6 G := by rw [HP.out, printA, hi, hGl]; rfl
    clear hGl hcells hi HP
    unfold print6 at HP2
    match G, hG8 with
    | [g0, g1, g2, g3, g4, g5, g6, g7], _ =>
      simp only [List.map_cons, List.map_nil] at c2
      have c3 := longestRow_any g0 g1 g2 g3 g4 g5 g6 g7
      have hrow := row_facts (g := [g0, g1, g2, g3, g4, g5, g6, g7]) rfl
      obtain ⟨F, hF⟩ : ∃ F, F = rowF [g0, g1, g2, g3, g4, g5, g6, g7] := ⟨_, rfl⟩
      obtain ⟨T, hT⟩ : ∃ T, T = rowT [g0, g1, g2, g3, g4, g5, g6, g7] := ⟨_, rfl⟩
      rw [← hF, ← hT] at c3 hrow HP2
      obtain ⟨hFT, hT8, hor, -, -⟩ := hrow
      go_wp2_with (go_at_call 145; refine (c2 _).mono ?_; rintro e w2 ⟨rfl, hb2⟩)
      obtain ⟨N, hN⟩ : ∃ N, N = w2.heap.size := ⟨_, rfl⟩
      have bw2 : Below w.heap.size w w2 := bel_via bw1 hb2
      obtain ⟨w3, hw3⟩ : ∃ v, v = w2.alloc (Obj.cells #[Value.int IntKind.u16 (g0 : Nat), Value.int IntKind.u16 (g1 : Nat), Value.int IntKind.u16 (g2 : Nat), Value.int IntKind.u16 (g3 : Nat), Value.int IntKind.u16 (g4 : Nat), Value.int IntKind.u16 (g5 : Nat), Value.int IntKind.u16 (g6 : Nat), Value.int IntKind.u16 (g7 : Nat)] 181) := ⟨_, rfl⟩
      have bw3 : Below w.heap.size w w3 := by rw [hw3]; exact Below.al bw2 _
      have hcl : ∀ w', Below w3.heap.size w3 w' → ∀ (j : Nat) (h : j < [g0, g1, g2, g3, g4, g5, g6, g7].length), w'.cell? ⟨N, j, none⟩ = some (.int .u16 ([g0, g1, g2, g3, g4, g5, g6, g7][j] : Nat)) := by
        intro w' h j hj
        refine keepc h ?_
        rw [hw3, hN]
        match j, hj with
        | 0, _ => simp [go_sem]
        | 1, _ => simp [go_sem]
        | 2, _ => simp [go_sem]
        | 3, _ => simp [go_sem]
        | 4, _ => simp [go_sem]
        | 5, _ => simp [go_sem]
        | 6, _ => simp [go_sem]
        | 7, _ => simp [go_sem]
      rw [← hw3]
      try rw [← hN]
      clear hw3 hN hF hT
      refine (c3 _).mono ?_
      rintro e w4 ⟨rfl, hb4⟩
      have bw4 : Below w.heap.size w w4 := bel_via bw3 hb4
      have hcl4 : ∀ w', Below w4.heap.size w4 w' → ∀ (j : Nat) (h : j < [g0, g1, g2, g3, g4, g5, g6, g7].length), w'.cell? ⟨N, j, none⟩ = some (.int .u16 ([g0, g1, g2, g3, g4, g5, g6, g7][j] : Nat)) := fun w' h => hcl w' (bel_via hb4 h)
      clear hcl c3 c2 c1 k0 k1 hC
      generalize hG8 : [g0, g1, g2, g3, g4, g5, g6, g7] = G at *
      have hlG : G.length = 8 := by rw [← hG8]; rfl
      have ua := Tryz.underlying181
      by_cases hFe : F = T
      · subst hFe
        rw [if_pos rfl] at HP2
        have hsl : ∀ W, (Instr.sliceAt 181 (.pointer (some ⟨N, 0, none⟩)) none none none).run Tryz.prog W = .ok (.slice (some ⟨N, 0, none⟩) 8 8) W := fun W => by
          rw [run_sliceAt_array_all W 181 ⟨N, 0, none⟩ ua]
          go_simp
        have cj := join_any N 0 8 G hGr (by omega) (hG.on bw4) (by intro j hj; rw [Nat.zero_add]; exact hcl4 _ (Below.refl _ _) j hj)
        rw [hlG, ← HP2] at cj
        clear HP2 hG8
        go_wp2_with (go_at_call 147; refine cj.mono ?_; rintro e w5 ⟨rfl, hb5⟩)
        go_ret
        exact ⟨rfl, bel_via bw4 hb5⟩
      · rw [if_neg hFe] at HP2
        have hF0 : ((F : Int) == (T : Int)) = false := by simp; omega
        obtain ⟨O, hO⟩ : ∃ O, O = if T = 8 then 0 else T := ⟨_, rfl⟩
        have hsl1 : ∀ W, (Instr.sliceAt 181 (.pointer (some ⟨N, 0, none⟩)) none (some (.int .i64 (F : Nat))) none).run Tryz.prog W = .ok (.slice (some ⟨N, 0, none⟩) F 8) W := fun W => by
          rw [run_sliceAt_array_h W 181 ⟨N, 0, none⟩ ua .i64 (F : Int) (by omega) (by show (F : Int) ≤ 8; omega)]
          go_simp
        have hsl2 : ∀ W, (Instr.sliceAt 181 (.pointer (some ⟨N, 0, none⟩)) (some (.int .i64 (T : Nat))) none none).run Tryz.prog W = .ok (.slice (some ⟨N, O, none⟩) (8 - T) (8 - T)) W := fun W => by
          rw [run_sliceAt_array_l W 181 ⟨N, 0, none⟩ ua .i64 (T : Int) (by omega) (by show (T : Int) ≤ 8; omega)]
          rw [hO]
          by_cases hT : T = 8
          · subst hT; go_simp
          · have : ¬ (8 = T) := fun e => hT e.symm
            rw [if_neg hT]
            go_simp
        have cj1 : ∀ wr, Below w4.heap.size w4 wr → Calls Tryz.prog 147 #[.slice (some ⟨N, 0, none⟩) F 8] wr fun e w' => e = .returned (.string ⟨(joinC 58 (hexs (G.take F))).toArray⟩) ∧ Below wr.heap.size wr w' := by
          intro wr hwr
          have cj := join_any N 0 8 (G.take F) (fun n hn => hGr n (List.mem_of_mem_take hn)) (by simp; omega) (hG.on (bel_via bw4 hwr)) (by
            intro j hj
            rw [Nat.zero_add, List.getElem_take]
            exact hcl4 _ hwr j (by simp at hj; omega))
          rw [List.length_take, hlG, Nat.min_eq_left (by omega)] at cj
          exact cj
        have cj2 : ∀ wr, Below w4.heap.size w4 wr → Calls Tryz.prog 147 #[.slice (some ⟨N, O, none⟩) (8 - T) (8 - T)] wr fun e w' => e = .returned (.string ⟨(joinC 58 (hexs (G.drop T))).toArray⟩) ∧ Below wr.heap.size wr w' := by
          intro wr hwr
          have cj := join_any N O (8 - T) (G.drop T) (fun n hn => hGr n (List.mem_of_mem_drop hn)) (by simp; omega) (hG.on (bel_via bw4 hwr)) (by
            intro j hj
            have hj' : T + j < 8 := by simp at hj; omega
            have hO' : O = T := by rw [hO, if_neg (by omega)]
            rw [hO', List.getElem_drop]
            exact hcl4 _ hwr (T + j) (by omega))
          rw [List.length_drop, hlG] at cj
          exact cj
        clear hcl4 hG8 hO
        obtain ⟨J1, hJ1⟩ : ∃ J, J = joinC 58 (hexs (G.take F)) := ⟨_, rfl⟩
        obtain ⟨J2, hJ2⟩ : ∃ J, J = joinC 58 (hexs (G.drop T)) := ⟨_, rfl⟩
        rw [← hJ1] at cj1 HP2
        rw [← hJ2] at cj2 HP2
        have l1 : J1.length ≤ 40 := by
          have h1 := joinC_len 58 4 (hexs (G.take F)) (hexs_len (fun n hn => hGr n (List.mem_of_mem_take hn)))
          have h2 : (hexs (G.take F)).length ≤ 8 := by simp [hexs]; omega
          rw [← hJ1] at h1; omega
        have l2 : J2.length ≤ 40 := by
          have h1 := joinC_len 58 4 (hexs (G.drop T)) (hexs_len (fun n hn => hGr n (List.mem_of_mem_drop hn)))
          have h2 : (hexs (G.drop T)).length ≤ 8 := by simp [hexs]; omega
          rw [← hJ2] at h1; omega
        clear hJ1 hJ2
        have hcat1 : ∀ W, (Op.stringOp .add ⟨J1.toArray⟩ ⟨#[58, 58]⟩).run Tryz.prog W = .ok (.string ⟨(J1 ++ [58, 58]).toArray⟩) W := fun W => run_string_add_lists W J1 [58, 58] (by omega) (by simp)
        obtain ⟨K1, hK1⟩ : ∃ K, K = J1 ++ [58, 58] := ⟨_, rfl⟩
        rw [← hK1] at hcat1 HP2
        have l3 : K1.length ≤ 42 := by rw [hK1]; simp; omega
        clear hK1
        have hcat2 : ∀ W, (Op.stringOp .add ⟨K1.toArray⟩ ⟨J2.toArray⟩).run Tryz.prog W = .ok (.string ⟨PT.toArray⟩) W := fun W => by rw [HP2]; exact run_string_add_lists W K1 J2 (by omega) (by omega)
        clear HP2
        go_wp2_with fail
        go_region_held3 (fun w' => Below w4.heap.size w4 w' ∧ True) (first | exact keep00 (fun _ _ => trivial) | exact keep0 (fun _ _ => trivial) | exact keepD (fun _ _ => trivial) (by assumption) | exact keepB (fun _ _ => trivial) hb (by assumption))
          (first
            | (go_at_call_of 147 (Value.slice (some ⟨N, 0, none⟩) F 8); refine (cj1 _ (And.left (by assumption))).mono ?_; rintro e w' ⟨rfl, hb⟩)
            | (go_at_call 147; refine (cj2 _ (And.left (by assumption))).mono ?_; rintro e w' ⟨rfl, hb⟩))
        all_goals (go_wp2; go_ret; exact ⟨rfl, bel_via bw4 (And.left (by assumption))⟩)
  · rw [hi] at c1
    have HP2 : PT = print4 (b % 4294967296) := by rw [HP.out, printA, hi]; rfl
    clear HP
    refine (kept (c1 _) (Below.refl _ _) hC).mono ?_
    rintro e w1 ⟨rfl, ⟨k0, k1⟩, hb1⟩
    have bw1 : Below w.heap.size w w1 := bel_via b0 hb1
    have hcv : IntKind.u32.wrap (b : Int) = ((b % 4294967296 : Nat) : Int) := by simp [IntKind.wrap, IntKind.signed, IntKind.bits]
    have c2 := print4_any (b % 4294967296) (by omega) (hG.on bw1)
    obtain ⟨n4, hn4⟩ : ∃ n4, n4 = b % 4294967296 := ⟨_, rfl⟩
    rw [← hn4] at hcv c2 HP2
    clear hn4
    rw [← HP2] at c2
    clear HP2
    go_wp2_with (go_at_call 144; refine c2.mono ?_; rintro e w2 ⟨rfl, hb2⟩)
    go_ret
    exact ⟨rfl, bel_via bw1 hb2⟩
end Go.Proofs.YtmnnjkdmnfadhaaGreatDoor
