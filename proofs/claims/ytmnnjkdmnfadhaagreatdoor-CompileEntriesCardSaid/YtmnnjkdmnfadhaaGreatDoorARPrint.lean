/- The document's own Print; by-name template. -/
import Derived.Test.YtmnnjkdmnfadhaaGreatDoorARGroup
import Derived.Test.YtmnnjkdmnfadhaaGreatDoorAOut
import Derived.Test.YtmnnjkdmnfadhaaGreatDoorAParse
namespace Go.Proofs.YtmnnjkdmnfadhaaGreatDoor
open Go.RowKit
set_option linter.unusedVariables false
set_option linter.unusedSimpArgs false

theorem zr_cons {g : List Nat} {j : Nat} (h : j < g.length) : zr ((zs g).drop j) = if g.getD j 0 = 0 then zr ((zs g).drop (j + 1)) + 1 else 0 := by
  have hl : j < (zs g).length := by simpa [zs] using h
  rw [List.drop_eq_getElem_cons hl, zr]
  have e : (zs g)[j]'hl = (g.getD j 0 == 0) := by
    rw [List.getD_eq_getElem?_getD, List.getElem?_eq_getElem h]
    simp [zs]
  rw [e]
  by_cases h0 : g.getD j 0 = 0
  · rw [if_pos (by simpa using h0), if_pos h0]
  · rw [if_neg (by simpa using h0), if_neg h0]

theorem rrow_cons {g : List Nat} {k : Nat} (h : k < g.length) (p : Int) (z : Nat) : rrowB ((zs g).drop k) k p z = if zr ((zs g).drop k) > z then rrowB ((zs g).drop (k + 1)) (k + 1) k (zr ((zs g).drop k)) else rrowB ((zs g).drop (k + 1)) (k + 1) p z := by
  have hl : k < (zs g).length := by simpa [zs] using h
  rw [List.drop_eq_getElem_cons hl, rrowB]

theorem rrow_end {g : List Nat} (h : g.length = 8) (p : Int) (z : Nat) : rrowB ((zs g).drop 8) 8 p z = (p, z) := by
  rw [List.drop_eq_nil_of_le (by simp [zs, h])]; rfl
theorem zr_end {g : List Nat} (h : g.length = 8) : zr ((zs g).drop 8) = 0 := by
  rw [List.drop_eq_nil_of_le (by simp [zs, h])]; rfl

theorem outP_len {g : List Nat} (h8 : g.length = 8) (hg : ∀ n ∈ g, n ≤ 65535) {k : Nat} (hk : k ≤ 8) : (outP g k).length ≤ 100 := by
  obtain ⟨r1, r2, r3, -⟩ := row_facts h8
  have hJ : ∀ l : List Nat, l.length ≤ 8 → (∀ n ∈ l, n ≤ 65535) → (joinC 58 (hexs l)).length ≤ 40 := by
    intro l h1 h2
    have := joinC_lenK 58 4 _ (hexs_len4 h2)
    have e : (hexs l).length = l.length := by simp [hexs]
    rw [e] at this
    have := Nat.mul_le_mul_left (4 + 1) h1
    omega
  unfold outP
  split
  · have := hJ (g.take k) (by rw [List.length_take]; omega) (fun n hn => hg n (List.mem_of_mem_take hn))
    omega
  · have h1 := hJ (g.take (rowF g)) (by rw [List.length_take]; omega) (fun n hn => hg n (List.mem_of_mem_take hn))
    have h2 := hJ ((g.take k).drop (rowT g)) (by rw [List.length_drop, List.length_take]; omega) (fun n hn => hg n (List.mem_of_mem_take (List.mem_of_mem_drop hn)))
    simp only [List.length_append, List.length_cons, List.length_nil]
    omega

set_option maxHeartbeats 1500000 in
set_option maxRecDepth 100000 in
theorem rprint_any (a b : Nat) (ha : a < 18446744073709551616) (hb : b < 18446744073709551616) {w : World} :
    Calls Tryz.prog 126 #[.agg #[.int .u64 (a : Nat), .int .u64 (b : Nat)]] w fun e w' => e = .returned (.string ⟨(printA a b).toArray⟩) ∧ Below w.heap.size w w' := by
  have c1 := ris4_any (a : Int) (b : Int) ⟨by omega, by omega⟩ ⟨by omega, by omega⟩
  rw [is4_nat] at c1
  obtain ⟨PT, hPT⟩ : ∃ PT, PT = printA a b := ⟨_, rfl⟩
  rw [← hPT]
  have HP := Lib.hid hPT
  clear hPT
  go_enter Tryz.func126, Tryz.ntmps126
  cases hi : is4 a b
  · rw [hi] at c1
    go_wp2_with (go_at_call 88; refine (c1 _).mono ?_; rintro e w1 ⟨rfl, hb1⟩; refine Hid.out ?_)
    have bw1 : Below w.heap.size w w1 := bel_via (Below.al (Below.refl _ _) _) hb1
    have hA1 : w1.heap[w.heap.size]? = some (.cells #[.int .u64 (a : Nat), .int .u64 (b : Nat)] 36 (0, 0)) := by rw [hb1.block _ (by simp)]; exact al_new rfl _
    have hz1 : w.heap.size < w1.heap.size := by have := hb1.size; simp at this; omega
    have hC : ∀ w', Below w1.heap.size w1 w' → w'.cell? ⟨w.heap.size, 0, none⟩ = some (.int .u64 (a : Nat)) ∧ w'.cell? ⟨w.heap.size, 1, none⟩ = some (.int .u64 (b : Nat)) := by
      intro w' h
      have h2 : w'.heap[w.heap.size]? = some (.cells #[.int .u64 (a : Nat), .int .u64 (b : Nat)] 36 (0, 0)) := by rw [h.block _ hz1]; exact hA1
      exact ⟨by simp [World.cell?, h2], by simp [World.cell?, h2]⟩
    have cg : ∀ i : Nat, i < 8 → ∀ W, Calls Tryz.prog 156 #[.agg #[.int .u64 (a : Nat), .int .u64 (b : Nat)], .int .i64 (i : Nat)] W fun e w' => e = .returned (.int .i64 ((gsN a b).getD i 0 : Nat)) ∧ Below W.heap.size W w' := fun i hi W => (rgroup_ex a b ha hb i hi W).mono fun e w' ⟨he, hw⟩ => ⟨he, by rw [hw]; exact Below.al (Below.refl _ _) _⟩
    have hgl := gsN_le a b
    have HP2 : PT = print6 (gsN a b) := by rw [HP.out, printA, hi]; rfl
    obtain ⟨G, hG⟩ : ∃ G, G = gsN a b := ⟨_, rfl⟩
    have h8 : G.length = 8 := by rw [hG]; rfl
    rw [← hG] at hgl HP2 cg
    clear hG hi HP hA1 c1 hb1
    have hrow := row_facts h8
    refine Lib.hid ?_
    go_wp2
    go_loopw [4, 5, 6] (fun v4 v5 v6 wr => ∃ (p : Int) (z k : Nat), v4 = .int .i64 p ∧ v5 = .int .i64 z ∧ v6 = .int .i64 k ∧ k ≤ 8 ∧ 1 ≤ z ∧ z ≤ 8 ∧ Below w1.heap.size w1 wr ∧ Hid (rrowB (zs G) 0 (-1) 1 = rrowB ((zs G).drop k) k p z)) (fun _ _ v6 _ => (8 - intOf v6).toNat)
    case atStart => exact ⟨-1, 1, 0, rfl, rfl, rfl, by omega, by omega, by omega, Below.refl _ _, Lib.hid rfl⟩
    case round =>
      obtain ⟨p, z, k, rfl, rfl, rfl, hk, hz1', hz8, hbr, hh⟩ := hrel
      obtain ⟨w8, hw8⟩ : ∃ w8, w8 = wr := ⟨_, rfl⟩
      subst hw8
      have hzi : (z : Int) ≤ 8 := by omega
      by_cases hk8 : k < 8
      · have hki : (k : Int) < 8 := by omega
        go_wp2
        go_loopw [7] (fun v7 wr => ∃ n : Nat, v7 = .int .i64 n ∧ k + n ≤ 8 ∧ Below w1.heap.size w1 wr ∧ Hid (zr ((zs G).drop k) = n + zr ((zs G).drop (k + n)))) (fun v7 _ => (8 - intOf v7).toNat)
        case atStart => exact ⟨0, rfl, by omega, hbr, Lib.hid (by simp)⟩
        case round =>
          obtain ⟨n, rfl, hkn, hbn, hzh⟩ := hrel
          obtain ⟨k0, k1⟩ := hC _ hbn
          have hR := hh.out
          rw [rrow_cons (by omega)] at hR
          by_cases hn8 : k + n < 8
          · have hni8 : (k : Int) + (n : Int) < 8 := by omega
            have cg1 := cg (k + n) hn8
            rw [show ((k + n : Nat) : Int) = (k : Int) + (n : Int) by omega] at cg1
            have hz := hzh.out
            rw [zr_cons (g := G) (j := k + n) (by omega)] at hz
            have hV65 : G.getD (k + n) 0 ≤ 65535 := by rw [List.getD_eq_getElem?_getD, List.getElem?_eq_getElem (by omega)]; exact hgl _ (List.getElem_mem _)
            obtain ⟨V, hV⟩ : ∃ V, V = G.getD (k + n) 0 := ⟨_, rfl⟩
            rw [← hV] at cg1 hz hV65
            clear hV hh hzh
            by_cases hv0 : V = 0
            · subst hv0
              rw [if_pos rfl] at hz
              clear hR
              have hH := Lib.hid hz
              clear hz
              go_wp2_with (go_at_call 156; refine (cg1 _).mono ?_; rintro e w2 ⟨rfl, hb2⟩)
              exact ⟨⟨n + 1, by simp, by omega, bel_via hbn hb2, Lib.hid (by rw [hH.out, show k + (n + 1) = k + n + 1 from rfl]; omega)⟩, by simp [intOf]; omega⟩
            · rw [if_neg hv0] at hz
              have hvi : ((V : Int) == 0) = false := by simp; omega
              rw [hz] at hR
              clear hz
              by_cases hnz : z < n
              · have hni : (z : Int) < (n : Int) := by omega
                rw [if_pos (by omega)] at hR
                go_wp2_with (go_at_call 156; refine (cg1 _).mono ?_; rintro e w2 ⟨rfl, hb2⟩)
                exact ⟨⟨(k : Int), n, k + 1, rfl, rfl, by simp, by omega, by omega, by omega, bel_via hbn hb2, Lib.hid hR⟩, by simp [intOf]; omega⟩
              · have hni : decide ((z : Int) < (n : Int)) = false := by simp; omega
                rw [if_neg (by omega)] at hR
                go_wp2_with (go_at_call 156; refine (cg1 _).mono ?_; rintro e w2 ⟨rfl, hb2⟩)
                exact ⟨⟨p, z, k + 1, rfl, rfl, by simp, by omega, by omega, by omega, bel_via hbn hb2, Lib.hid hR⟩, by simp [intOf]; omega⟩
          · have hn8i : decide ((k : Int) + (n : Int) < 8) = false := by simp; omega
            have hk8e : k + n = 8 := by omega
            have hz := hzh.out
            rw [hk8e, zr_end h8] at hz
            rw [hz] at hR
            clear hz hh hzh
            by_cases hnz : z < n
            · have hni : (z : Int) < (n : Int) := by omega
              rw [if_pos (by omega)] at hR
              go_wp2
              exact ⟨⟨(k : Int), n, k + 1, rfl, rfl, by simp, by omega, by omega, by omega, hbn, Lib.hid hR⟩, by simp [intOf]; omega⟩
            · have hni : decide ((z : Int) < (n : Int)) = false := by simp; omega
              rw [if_neg (by omega)] at hR
              go_wp2
              exact ⟨⟨p, z, k + 1, rfl, rfl, by simp, by omega, by omega, by omega, hbn, Lib.hid hR⟩, by simp [intOf]; omega⟩
      · obtain rfl : k = 8 := by omega
        have hR := hh.out
        rw [rrow_end h8] at hR
        obtain ⟨hFT, hT8, hor, -, hrw⟩ := hrow
        rw [hR] at hrw
        have hpz : (rowF G = rowT G ∧ p = -1) ∨ (rowF G ≠ rowT G ∧ p = (rowF G : Int) ∧ z = rowT G - rowF G) := by
          by_cases he : rowF G = rowT G
          · rw [if_pos he] at hrw; simp at hrw; exact .inl ⟨he, hrw.1⟩
          · rw [if_neg he] at hrw; simp at hrw; exact .inr ⟨he, hrw⟩
        have hO0 := outP_zero G
        have hO8 := outP_last h8
        have hOs := fun (k : Nat) (hk : k < 8) hr => outP_step h8 (k := k) hk hr
        have hOr := outP_row h8
        have hOl := fun (k : Nat) (hk : k ≤ 8) => outP_len h8 hgl (k := k) hk
        rw [← HP2] at hO8
        obtain ⟨F, hF⟩ : ∃ F, F = rowF G := ⟨_, rfl⟩
        obtain ⟨T, hT⟩ : ∃ T, T = rowT G := ⟨_, rfl⟩
        obtain ⟨O, hO⟩ : ∃ O, O = outP G := ⟨_, rfl⟩
        rw [← hF, ← hT] at hpz hFT hor hOs hOr
        rw [← hT] at hT8
        rw [← hO] at hO0 hO8 hOs hOr hOl
        have HOs := Lib.hid hOs
        have HOr := Lib.hid hOr
        have HO8 := Lib.hid hO8
        have HOl := Lib.hid hOl
        have hH0 := Lib.hid hO0
        clear hF hT hO hrw hh hR HP2 hOs hOr hO8 hO0 hOl
        go_wp2
        go_loopw [8, 9] (fun v8 v9 wr => ∃ (k : Nat), v8 = .string ⟨(O k).toArray⟩ ∧ v9 = .int .i64 k ∧ k ≤ 8 ∧ (F = T ∨ k ≤ F ∨ T ≤ k) ∧ Below w1.heap.size w1 wr) (fun _ v9 _ => (8 - intOf v9).toNat)
        case atStart => exact ⟨0, by rw [hH0.out], rfl, by omega, by omega, hbr⟩
        case round =>
          obtain ⟨k, rfl, rfl, hk, hkr, hbk⟩ := hrel
          obtain ⟨k0, k1⟩ := hC _ hbk
          by_cases hk8 : k < 8
          · have hki : (k : Int) < 8 := by omega
            by_cases hkp : (k : Int) = p
            · have hne : F ≠ T := by omega
              have hkF : k = F := by omega
              have hzT : (k : Int) + (z : Int) - 1 = (T : Int) - 1 := by omega
              have hOr := HOr.out hne
              have hla := HOl.out F (by omega)
              have hcat : ∀ W, (Op.stringOp .add ⟨(O F).toArray⟩ ⟨#[58, 58]⟩).run Tryz.prog W = .ok (.string ⟨(O T).toArray⟩) W := fun W => by rw [hOr]; exact run_string_add_lists W (O F) [58, 58] (by omega) (by simp)
              subst hkp
              have ht8 : (T : Int) ≤ 8 := by omega
              have ht0 : (1 : Int) ≤ (T : Int) := by omega
              have hzT2 : (k : Int) + (z : Int) = (T : Int) := by omega
              have hkT : k < T := by omega
              subst hkF
              clear hOr hla hpz hor hkr hne hFT HOs HOr HO8 HOl hH0
              go_wp2
              exact ⟨⟨T, rfl, by simp, by omega, by omega, hbk⟩, by simp [intOf]; omega⟩
            · have hkpi : ((k : Int) == p) = false := by simpa using hkp
              have hs := HOs.out k hk8 (by omega)
              have hkn : F = T ∨ k + 1 ≤ F ∨ T ≤ k + 1 := by omega
              have cg1 := cg k hk8
              have hV65 : G.getD k 0 ≤ 65535 := by rw [List.getD_eq_getElem?_getD, List.getElem?_eq_getElem (by omega)]; exact hgl _ (List.getElem_mem _)
              have hla := HOl.out k (by omega)
              obtain ⟨V, hV⟩ : ∃ V, V = G.getD k 0 := ⟨_, rfl⟩
              rw [← hV] at cg1 hs hV65
              have cd := rdigs16 V (by omega)
              have hDl : (digs 16 V).length ≤ 10 := Nat.le_trans (digs_len 3 (by omega)) (by omega)
              obtain ⟨D, hD⟩ : ∃ D, D = digs 16 V := ⟨_, rfl⟩
              rw [← hD] at cd hs hDl
              obtain ⟨B, hB⟩ : ∃ B, B = O (k + 1) := ⟨_, rfl⟩
              obtain ⟨A, hA⟩ : ∃ A, A = O k := ⟨_, rfl⟩
              rw [← hB, ← hA] at hs
              rw [← hA] at hla
              rw [← hA]
              have HB := Lib.hid hB
              clear hV hD hA hB HOs HOr HO8 HOl hH0 hpz hor hkr hFT
              obtain ⟨SD, hSD⟩ : ∃ S : ByteArray, S = ⟨D.toArray⟩ := ⟨_, rfl⟩
              obtain ⟨SB, hSB⟩ : ∃ S : ByteArray, S = ⟨B.toArray⟩ := ⟨_, rfl⟩
              have hVi : (V : Int) ≤ 65535 := by omega
              by_cases hAn : A = []
              · subst hAn
                rw [sep_nil] at hs
                have hcat : ∀ W, (Op.stringOp .add ⟨#[]⟩ SD).run Tryz.prog W = .ok (.string SB) W := fun W => by
                  rw [hSD, hSB, hs]; exact run_string_add_lists W [] D (by simp) (by omega)
                rw [← hSD] at cd
                clear hSD hs
                go_wp2_with (first
                | (go_at_call 156; refine (cg1 _).mono ?_; rintro e w2 ⟨rfl, hb2⟩)
                | (go_at_call 127; refine (cd _).mono ?_; rintro e w3 ⟨rfl, m3, rfl⟩))
                refine ⟨⟨_, _, _, _, _, _, _, _, _, _, _, _, _, _, _, _, _, _, _, _, _, _, _, _, _, _, _, _, _, _, _, _, _, ?_, rfl⟩, by simp [intOf]; omega⟩
                exact ⟨k + 1, by rw [← HB.out], by simp, by omega, by omega, bel_via (bel_via hbk hb2) (Go.Joins.below_draws _ _ _)⟩
              · obtain ⟨X, c, hX⟩ : ∃ X c, A = X ++ [c] := ⟨A.dropLast, A.getLast hAn, (List.dropLast_concat_getLast hAn).symm⟩
                obtain ⟨SA, hSA⟩ : ∃ S : ByteArray, S = ⟨A.toArray⟩ := ⟨_, rfl⟩
                have hAs : SA.size = X.length + 1 := by rw [hSA, hX]; simp [ByteArray.size]
                have hne : SA ≠ ⟨#[]⟩ := by intro e; rw [e] at hAs; simp [ByteArray.size] at hAs
                have hsi : (SA.size : Int) - 1 = (X.length : Int) := by omega
                have hsl : ¬ SA.toList = [] := fun e => by
                  have h1 : SA.toList.length = SA.size := by rw [Lib.toList_data]; simp
                  rw [e] at h1; simp at h1; omega
                have hsl2 : (SA.toList == []) = false := by simp [hsl]
                have hidx : ∀ W, (Instr.index 9 (.string SA) (.int .i64 (X.length : Int))).run Tryz.prog W = .ok (.int .u8 (c.toNat : Nat)) W := fun W => by
                  rw [run_index_string W 9 SA .i64 (X.length : Int) Tryz.underlying9, dif_pos (by omega)]
                  subst hSA
                  subst hX
                  congr 3
                  simp [ByteArray.getElem_eq_getElem_data]
                have hsep : sepP A = (c != 58) := by rw [hX]; unfold sepP; simp
                have hsz9 : (SA.size : Int) ≤ 1000 := by rw [hX] at hla; simp at hla; omega
                rw [← hSA]
                rw [hsep] at hs
                have HSB := Lib.hid hSB
                rw [← hSD] at cd
                by_cases hc : c = 58
                · have hcat : ∀ W, (Op.stringOp .add SA SD).run Tryz.prog W = .ok (.string SB) W := fun W => by
                    rw [hSA, hSD, hSB, hs, hc]
                    simp only [bne_self_eq_false, Bool.false_eq_true, if_false, List.append_nil]
                    exact run_string_add_lists W A D (by omega) (by omega)
                  subst hc
                  have hce : ((58 : UInt8).toNat : Int) = 58 := rfl
                  clear hSA hSD hSB hs hX hAn hla hAs hsep
                  go_wp2_with (first
                    | (go_at_call 156; refine (cg1 _).mono ?_; rintro e w2 ⟨rfl, hb2⟩)
                    | (go_at_call 127; refine (cd _).mono ?_; rintro e w3 ⟨rfl, m3, rfl⟩))
                  refine ⟨⟨_, _, _, _, _, _, _, _, _, _, _, _, _, _, _, _, _, _, _, _, _, _, _, _, _, _, _, _, _, _, _, _, _, ?_, rfl⟩, by simp [intOf]; omega⟩
                  exact ⟨k + 1, by rw [← HB.out, ← HSB.out], by simp, by omega, by omega, bel_via (bel_via hbk hb2) (Go.Joins.below_draws _ _ _)⟩
                · have hcn : (((c.toNat : Nat) : Int) != 58) = true := by
                    have : c.toNat ≠ 58 := fun e => hc (UInt8.toNat_inj.1 (by rw [e]; rfl))
                    simp; omega
                  have hsf : (c != 58) = true := by simpa using hc
                  rw [hsf, if_pos rfl] at hs
                  obtain ⟨S2, hS2⟩ : ∃ S : ByteArray, S = ⟨(A ++ [58]).toArray⟩ := ⟨_, rfl⟩
                  have hcat1 : ∀ W, (Op.stringOp .add SA ⟨#[58]⟩).run Tryz.prog W = .ok (.string S2) W := fun W => by
                    rw [hSA, hS2]
                    exact run_string_add_lists W A [58] (by omega) (by simp)
                  have hcat2 : ∀ W, (Op.stringOp .add S2 SD).run Tryz.prog W = .ok (.string SB) W := fun W => by
                    rw [hS2, hSD, hSB, hs]
                    exact run_string_add_lists W (A ++ [58]) D (by simp; omega) (by omega)
                  clear hSA hSD hSB hs hX hAn hla hAs hsep hS2 hsf hc
                  go_wp2_with (first
                    | (go_at_call 156; refine (cg1 _).mono ?_; rintro e w2 ⟨rfl, hb2⟩)
                    | (go_at_call 127; refine (cd _).mono ?_; rintro e w3 ⟨rfl, m3, rfl⟩))
                  refine ⟨⟨_, _, _, _, _, _, _, _, _, _, _, _, _, _, _, _, _, _, _, _, _, _, _, _, _, _, _, _, _, _, _, _, _, ?_, rfl⟩, by simp [intOf]; omega⟩
                  exact ⟨k + 1, by rw [← HB.out, ← HSB.out], by simp, by omega, by omega, bel_via (bel_via hbk hb2) (Go.Joins.below_draws _ _ _)⟩
          · obtain rfl : k = 8 := by omega
            have hf := HO8.out
            clear HOs HOr HO8 HOl hH0 hpz hor hkr hFT
            go_wp2
            go_ret
            exact ⟨by show Ending.returned (Value.string ⟨(O 8).toArray⟩) = _; rw [hf], bel_via bw1 hbk⟩
  · rw [hi] at c1
    have HP2 : PT = print4 (b % 4294967296) := by rw [HP.out, printA, hi]; rfl
    unfold is4 at hi
    simp only [Bool.and_eq_true, decide_eq_true_eq] at hi
    obtain ⟨N, hN⟩ : ∃ N, N = b % 4294967296 := ⟨_, rfl⟩
    have hNb : b = 281470681743360 + N := by omega
    have hN32 : N < 4294967296 := by omega
    rw [← hN] at HP2
    clear hN HP
    obtain ⟨x0, h0⟩ : ∃ x, x = N / 16777216 := ⟨_, rfl⟩
    obtain ⟨y1, k1⟩ : ∃ x, x = N / 65536 := ⟨_, rfl⟩
    obtain ⟨y2, k2⟩ : ∃ x, x = N / 256 := ⟨_, rfl⟩
    obtain ⟨x1, h1⟩ : ∃ x, x = y1 % 256 := ⟨_, rfl⟩
    obtain ⟨x2, h2⟩ : ∃ x, x = y2 % 256 := ⟨_, rfl⟩
    obtain ⟨x3, h3⟩ : ∃ x, x = N % 256 := ⟨_, rfl⟩
    have hb4 : bytes4 N = [x0, x1, x2, x3] := by
      unfold bytes4
      rw [← h3, ← k2, ← k1, ← h2, ← h1, ← h0, show x0 % 256 = x0 by omega]
    have b0 : x0 ≤ 255 := by omega
    have b1 : x1 ≤ 255 := by omega
    have b2 : x2 ≤ 255 := by omega
    have b3 : x3 ≤ 255 := by omega
    have cd0 := rdigs10 x0 (by omega)
    have cd1 := rdigs10 x1 (by omega)
    have cd2 := rdigs10 x2 (by omega)
    have cd3 := rdigs10 x3 (by omega)
    have l0 : (digs 10 x0).length ≤ 10 := Nat.le_trans (digs10_len 2 (by omega)) (by omega)
    have l1 : (digs 10 x1).length ≤ 10 := Nat.le_trans (digs10_len 2 (by omega)) (by omega)
    have l2 : (digs 10 x2).length ≤ 10 := Nat.le_trans (digs10_len 2 (by omega)) (by omega)
    have l3 : (digs 10 x3).length ≤ 10 := Nat.le_trans (digs10_len 2 (by omega)) (by omega)
    unfold print4 at HP2
    rw [hb4] at HP2
    simp only [List.map_cons, List.map_nil, joinC] at HP2
    generalize digs 10 x0 = D0 at *
    generalize digs 10 x1 = D1 at *
    generalize digs 10 x2 = D2 at *
    generalize digs 10 x3 = D3 at *
    obtain ⟨S0, s0⟩ : ∃ S : ByteArray, S = ⟨D0.toArray⟩ := ⟨_, rfl⟩
    obtain ⟨S1, s1⟩ : ∃ S : ByteArray, S = ⟨D1.toArray⟩ := ⟨_, rfl⟩
    obtain ⟨S2, s2⟩ : ∃ S : ByteArray, S = ⟨D2.toArray⟩ := ⟨_, rfl⟩
    obtain ⟨S3, s3⟩ : ∃ S : ByteArray, S = ⟨D3.toArray⟩ := ⟨_, rfl⟩
    obtain ⟨T0, t0⟩ : ∃ S : ByteArray, S = ⟨(D0 ++ [46]).toArray⟩ := ⟨_, rfl⟩
    obtain ⟨T1, t1⟩ : ∃ S : ByteArray, S = ⟨(D0 ++ [46] ++ D1).toArray⟩ := ⟨_, rfl⟩
    obtain ⟨T2, t2⟩ : ∃ S : ByteArray, S = ⟨(D0 ++ [46] ++ D1 ++ [46]).toArray⟩ := ⟨_, rfl⟩
    obtain ⟨T3, t3⟩ : ∃ S : ByteArray, S = ⟨(D0 ++ [46] ++ D1 ++ [46] ++ D2).toArray⟩ := ⟨_, rfl⟩
    obtain ⟨T4, t4⟩ : ∃ S : ByteArray, S = ⟨(D0 ++ [46] ++ D1 ++ [46] ++ D2 ++ [46]).toArray⟩ := ⟨_, rfl⟩
    obtain ⟨T5, t5⟩ : ∃ S : ByteArray, S = ⟨PT.toArray⟩ := ⟨_, rfl⟩
    have hc0 : ∀ W, (Op.stringOp .add S0 ⟨#[46]⟩).run Tryz.prog W = .ok (.string T0) W := fun W => by rw [s0, t0]; exact run_string_add_lists W D0 [46] (by omega) (by simp)
    have hc1 : ∀ W, (Op.stringOp .add T0 S1).run Tryz.prog W = .ok (.string T1) W := fun W => by rw [t0, s1, t1]; exact run_string_add_lists W (D0 ++ [46]) D1 (by simp; omega) (by omega)
    have hc2 : ∀ W, (Op.stringOp .add T1 ⟨#[46]⟩).run Tryz.prog W = .ok (.string T2) W := fun W => by rw [t1, t2]; exact run_string_add_lists W (D0 ++ [46] ++ D1) [46] (by simp; omega) (by simp)
    have hc3 : ∀ W, (Op.stringOp .add T2 S2).run Tryz.prog W = .ok (.string T3) W := fun W => by rw [t2, s2, t3]; exact run_string_add_lists W (D0 ++ [46] ++ D1 ++ [46]) D2 (by simp; omega) (by omega)
    have hc4 : ∀ W, (Op.stringOp .add T3 ⟨#[46]⟩).run Tryz.prog W = .ok (.string T4) W := fun W => by rw [t3, t4]; exact run_string_add_lists W (D0 ++ [46] ++ D1 ++ [46] ++ D2) [46] (by simp; omega) (by simp)
    have hc5 : ∀ W, (Op.stringOp .add T4 S3).run Tryz.prog W = .ok (.string T5) W := fun W => by
      rw [t4, s3, t5, HP2, show D0 ++ 46 :: (D1 ++ 46 :: (D2 ++ 46 :: D3)) = D0 ++ [46] ++ D1 ++ [46] ++ D2 ++ [46] ++ D3 by simp]
      exact run_string_add_lists W (D0 ++ [46] ++ D1 ++ [46] ++ D2 ++ [46]) D3 (by simp; omega) (by omega)
    rw [← s0] at cd0
    rw [← s1] at cd1
    rw [← s2] at cd2
    rw [← s3] at cd3
    rw [← t5]
    have e1 : (b : Int) - 281470681743360 = (N : Int) := by omega
    have f0 : (N : Int) / 16777216 = (x0 : Int) := by omega
    have f1 : (N : Int) / 65536 = (y1 : Int) := by omega
    have f2 : (N : Int) / 256 = (y2 : Int) := by omega
    have f3 : (y1 : Int) % 256 = (x1 : Int) := by omega
    have f4 : (y2 : Int) % 256 = (x2 : Int) := by omega
    have f5 : (N : Int) % 256 = (x3 : Int) := by omega
    have g0 : (N : Int).tdiv 16777216 = (x0 : Int) := by rw [Int.tdiv_eq_ediv_of_nonneg (by omega)]; exact f0
    have g1 : (N : Int).tdiv 65536 = (y1 : Int) := by rw [Int.tdiv_eq_ediv_of_nonneg (by omega)]; exact f1
    have g2 : (N : Int).tdiv 256 = (y2 : Int) := by rw [Int.tdiv_eq_ediv_of_nonneg (by omega)]; exact f2
    have g3 : (y1 : Int).tmod 256 = (x1 : Int) := by rw [Int.tmod_eq_emod_of_nonneg (by omega)]; exact f3
    have g4 : (y2 : Int).tmod 256 = (x2 : Int) := by rw [Int.tmod_eq_emod_of_nonneg (by omega)]; exact f4
    have g5 : (N : Int).tmod 256 = (x3 : Int) := by rw [Int.tmod_eq_emod_of_nonneg (by omega)]; exact f5
    have n0 : (N : Int) < 4294967296 := by omega
    have n1 : (b : Int) < 18446744073709551616 := by omega
    have n2 : (281470681743360 : Int) ≤ (b : Int) := by omega
    have n3 : (x0 : Int) ≤ 255 := by omega
    have n4 : (x1 : Int) ≤ 255 := by omega
    have n5 : (x2 : Int) ≤ 255 := by omega
    have n6 : (x3 : Int) ≤ 255 := by omega
    have n7 : (y1 : Int) ≤ 4294967296 := by omega
    have n8 : (y2 : Int) ≤ 4294967296 := by omega
    clear hi s0 s1 s2 s3 t0 t1 t2 t3 t4 HP2 hb4 h0 h1 h2 h3 k1 k2 hNb l0 l1 l2 l3
    go_wp2_with (go_at_call 88; refine (c1 _).mono ?_; rintro e w1 ⟨rfl, hb1⟩; refine Hid.out ?_)
    have bw1 : Below w.heap.size w w1 := bel_via (Below.al (Below.refl _ _) _) hb1
    have hA1 : w1.heap[w.heap.size]? = some (.cells #[.int .u64 (a : Nat), .int .u64 (b : Nat)] 36 (0, 0)) := by rw [hb1.block _ (by simp)]; exact al_new rfl _
    have k0 : w1.cell? ⟨w.heap.size, 0, none⟩ = some (.int .u64 (a : Nat)) := by simp [World.cell?, hA1]
    have k1 : w1.cell? ⟨w.heap.size, 1, none⟩ = some (.int .u64 (b : Nat)) := by simp [World.cell?, hA1]
    clear c1
    refine Lib.hid ?_
    go_wp2_with (first
      | (go_at_call_of 127 (Value.int IntKind.i64 (x0 : Int)); refine (cd0 _).mono ?_; rintro e w2 ⟨rfl, m2, rfl⟩)
      | (go_at_call_of 127 (Value.int IntKind.i64 (x1 : Int)); refine (cd1 _).mono ?_; rintro e w3 ⟨rfl, m3, rfl⟩)
      | (go_at_call_of 127 (Value.int IntKind.i64 (x2 : Int)); refine (cd2 _).mono ?_; rintro e w4 ⟨rfl, m4, rfl⟩)
      | (go_at_call_of 127 (Value.int IntKind.i64 (x3 : Int)); refine (cd3 _).mono ?_; rintro e w5 ⟨rfl, m5, rfl⟩))
    go_ret
    exact ⟨by rw [t5]; rfl, bw1.trans (Go.Joins.below_draws _ _ _)⟩
end Go.Proofs.YtmnnjkdmnfadhaaGreatDoor
