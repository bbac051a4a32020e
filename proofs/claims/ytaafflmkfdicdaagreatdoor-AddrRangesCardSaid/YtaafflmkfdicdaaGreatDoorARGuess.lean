/- The document's own guess: the address that a text might be; by-name template. -/
import Derived.Test.YtaafflmkfdicdaaGreatDoorARGroups
import Derived.Test.YtaafflmkfdicdaaGreatDoorANumR
import Derived.Test.YtaafflmkfdicdaaGreatDoorAParse
namespace Go.Proofs.YtaafflmkfdicdaaGreatDoor
open Go.RowKit
set_option linter.unusedVariables false
set_option linter.unusedSimpArgs false

theorem or_words (n m A B : Nat) (hnm : n + m ≤ 7) (hA : A < 65536 ^ n) (hB : B < 65536 ^ m) : bits .or .u64 (hiW (A * 65536 ^ (8 - n)) : Nat) (hiW B : Nat) = (hiW (joinAB A n B) : Nat) ∧ bits .or .u64 (loW (A * 65536 ^ (8 - n)) : Nat) (loW B : Nat) = (loW (joinAB A n B) : Nat) := by
  have hB2 : B < 65536 ^ (7 - n) := Nat.lt_of_lt_of_le hB (Nat.pow_le_pow_right (by omega) (by omega))
  clear hB
  unfold joinAB
  obtain ⟨T, hT⟩ : ∃ T, T = A * 65536 ^ (8 - n) := ⟨_, rfl⟩
  rw [← hT]
  have h7 : n = 0 ∨ n = 1 ∨ n = 2 ∨ n = 3 ∨ n = 4 ∨ n = 5 ∨ n = 6 ∨ n = 7 := by omega
  unfold hiW loW
  rcases h7 with rfl | rfl | rfl | rfl | rfl | rfl | rfl | rfl <;> simp only [Nat.reduceSub, Nat.reducePow] at hT hA hB2
  · exact ⟨by rw [orU 64 (by omega) (by omega) (by omega) (by omega) (by omega) (by omega)]; omega, by rw [orU 64 (by omega) (by omega) (by omega) (by omega) (by omega) (by omega)]; omega⟩
  · exact ⟨by rw [orU 48 (by omega) (by omega) (by omega) (by omega) (by omega) (by omega)]; omega, by rw [orU 64 (by omega) (by omega) (by omega) (by omega) (by omega) (by omega)]; omega⟩
  · exact ⟨by rw [orU 32 (by omega) (by omega) (by omega) (by omega) (by omega) (by omega)]; omega, by rw [orU 64 (by omega) (by omega) (by omega) (by omega) (by omega) (by omega)]; omega⟩
  · exact ⟨by rw [orU 0 (by omega) (by omega) (by omega) (by omega) (by omega) (by omega)]; omega, by rw [orU 64 (by omega) (by omega) (by omega) (by omega) (by omega) (by omega)]; omega⟩
  · exact ⟨by rw [orU 0 (by omega) (by omega) (by omega) (by omega) (by omega) (by omega)]; omega, by rw [orU 64 (by omega) (by omega) (by omega) (by omega) (by omega) (by omega)]; omega⟩
  · exact ⟨by rw [orU 0 (by omega) (by omega) (by omega) (by omega) (by omega) (by omega)]; omega, by rw [orU 48 (by omega) (by omega) (by omega) (by omega) (by omega) (by omega)]; omega⟩
  · exact ⟨by rw [orU 0 (by omega) (by omega) (by omega) (by omega) (by omega) (by omega)]; omega, by rw [orU 32 (by omega) (by omega) (by omega) (by omega) (by omega) (by omega)]; omega⟩
  · exact ⟨by rw [orU 0 (by omega) (by omega) (by omega) (by omega) (by omega) (by omega)]; omega, by rw [orU 0 (by omega) (by omega) (by omega) (by omega) (by omega) (by omega)]; omega⟩

theorem wpList_eqs {P : Program} {ops : Array Oper} {rest : List Oper} {o : Oper} {a : Act} {w : World} {Q : Exit → Act → World → Prop} (hgd : Region.wanted o (yielded ops a.tmps) = true) (t rt : TypeId) (x y : Operand) (ho : o.op = .binOp .eql t x y rt)
    (p q : ByteArray) (hx : a.eval x = .string p) (hy : a.eval y = .string q) (r : Bool) (hne : (p.toList == q.toList) = r)
    (h : wpList P ops Q rest (a.put o.dst (.bool r)) w) : wpList P ops Q (o :: rest) a w :=
  wpList_step fun K hK => by
    rw [if_pos hgd]
    have e : (execOp a.eval o).run P w = .ok (.value (.bool r)) w := by
      obtain ⟨dst, op, ty, ps, af, gd⟩ := o
      simp only at ho
      subst ho
      simp only [execOp, hx, hy]
      rw [binOp_string_eql, hne]
      rfl
    unfold Oper.wp
    rw [e]
    exact hK _ _ h

def GuessPost (x : Option Nat) (w : World) (e : Ending) (w' : World) : Prop :=
  Below w.heap.size w w' ∧ match x with
  | none => ∃ (a b : Nat), e = .returned (.tuple #[.agg #[.int .u64 (a : Nat), .int .u64 (b : Nat)], .bool false]) ∧ a < 18446744073709551616 ∧ b < 18446744073709551616
  | some A => e = .returned (.tuple #[.agg #[.int .u64 (hiW A : Nat), .int .u64 (loW A : Nat)], .bool true])

theorem extract_head (s : ByteArray) (k : Nat) : (s.extract 0 k).data.toList = s.data.toList.take k := by
  rw [Lib.extract_data]; simp

theorem ccI_drop {l : List UInt8} {k : Nat} {a b : UInt8} (ha : l[k]? = some a) (hb : l[k + 1]? = some b) : ccI (l.drop k) k = if a = 58 ∧ b = 58 then some k else ccI (l.drop (k + 1)) (k + 1) := by
  obtain ⟨h1, e1⟩ := List.getElem?_eq_some_iff.1 ha
  obtain ⟨h2, e2⟩ := List.getElem?_eq_some_iff.1 hb
  rw [List.drop_eq_getElem_cons h1, List.drop_eq_getElem_cons h2, e1, e2, ccI]
theorem ccI_end {l : List UInt8} {k : Nat} (h : l.length ≤ k + 1) : ccI (l.drop k) k = none := by
  have : (l.drop k).length ≤ 1 := by rw [List.length_drop]; omega
  cases hd : l.drop k with
  | nil => rfl
  | cons a r =>
    rw [hd] at this
    cases r with
    | nil => rfl
    | cons b r => simp at this

theorem numV_hi {p : List UInt8} (h : ¬ (numV p < 0 ∨ 255 < numV p)) : numV p = (((numV p).toNat : Nat) : Int) ∧ (numV p).toNat ≤ 255 := by omega

set_option maxHeartbeats 1000000 in
set_option maxRecDepth 100000 in
theorem guess4_any (s : ByteArray) (hs : s.size ≤ 281474976) (h4 : (splitOn 46 s.data.toList).length = 4) (w : World) : Calls Tryz.prog 35 #[.string s] w (GuessPost (guessV s.data.toList) w) := by
  obtain ⟨R, hR⟩ : ∃ R, R = guessV s.data.toList := ⟨_, rfl⟩
  rw [← hR]
  unfold guessV at hR
  rw [if_pos h4] at hR
  have HR := Lib.hid hR
  have H4 := Lib.hid h4
  clear hR h4
  have cc := fun W => rcut_any s 46 (by omega) W
  rw [show (((46 : UInt8).toNat : Nat) : Int) = 46 from rfl] at cc
  go_enter Tryz.func35, Tryz.ntmps35
  go_wp2_with (go_at_call 51; refine (cc _).mono ?_; rintro e w1 ⟨v, PS, rfl, hown, hb1, hmap, hlen, hsz⟩; refine Hid.out ?_)
  have hP4 : PS.length = 4 := by rw [← H4.out, ← hmap, List.length_map]
  obtain ⟨g, cap, rfl, hg1, hg2⟩ := hown.form (by omega)
  have hcl := hown.cells (g := g) rfl
  have hcg : ∀ k (h : k < PS.length), w1.cell? ⟨g, k, none⟩ = some (.string PS[k]) := by
    intro k h
    have := hcl k (.string PS[k]) (by simp [h])
    have e : (⟨g, 0, none⟩ : Addr).add k = ⟨g, k, none⟩ := by unfold Addr.add; split <;> simp_all
    rw [e] at this; exact this
  have hB2 : w1.heap[w.heap.size]? = some (.cells #[.int .u64 0, .int .u64 0] 24 (0, 0)) := by rw [hb1.block _ (by simp)]; exact al_new rfl _
  have bw1 : Below w.heap.size w w1 := bel_via (Below.al (Below.refl _ w) _) hb1
  have HC := Lib.hid hcg
  have HM := Lib.hid hmap
  have hP4i : (PS.length : Int) = 4 := by omega
  have HP := Lib.hid hP4
  rw [hP4]
  clear hcg hcl hown hb1 hmap cc hP4 hlen hP4i
  obtain ⟨B2, hB2e⟩ : ∃ B, B = w.heap.size := ⟨_, rfl⟩
  rw [← hB2e] at hB2
  rw [← hB2e]
  have HB := Lib.hid hB2e
  clear hB2e
  obtain ⟨c20, c21, f20, f21⟩ := cells_of hB2
  refine Lib.hid ?_
  go_wp2
  go_loopw [5, 6] (fun v5 v6 wr => ∃ (n k : Nat), v5 = .int .i64 n ∧ v6 = .int .i64 k ∧ k ≤ 4 ∧ n < 256 ^ k ∧ wr = w1 ∧ Hid (four (PS.map (·.data.toList)) 0 = four ((PS.drop k).map (·.data.toList)) n)) (fun _ v6 _ => 4 - (intOf v6).toNat)
  case atStart => exact ⟨0, 0, rfl, rfl, by omega, by simp, rfl, Lib.hid rfl⟩
  case round =>
    obtain ⟨n, k, rfl, rfl, hk, hn, hw, hh⟩ := hrel
    subst hw
    have hfold := hh.out
    have hn4 : n < 4294967296 := Nat.lt_of_lt_of_le hn (Nat.le_trans (Nat.pow_le_pow_right (by omega) (show k ≤ 4 by omega)) (by decide))
    have hni : (n : Int) < 4294967296 := by omega
    by_cases hk4 : k < 4
    · have hkl : k < PS.length := by have := HP.out; omega
      have hcp := HC.out k hkl
      have hki : (k : Int) < 4 := by omega
      have hps := hsz _ (List.getElem_mem hkl)
      have hd : PS.drop k = PS[k] :: PS.drop (k + 1) := List.drop_eq_getElem_cons hkl
      rw [hd, List.map_cons, four] at hfold
      generalize PS[k] = p at hcp hps hfold
      have cn := (rnumber_any p (by omega) wr).mono (fun e w' ⟨h1, h2⟩ => show e = _ ∧ wr = w' from ⟨h1, h2.symm⟩)
      clear hh hd
      by_cases hv : numV p.data.toList < 0 ∨ 255 < numV p.data.toList
      · rw [if_pos hv] at hfold
        have hRn : R = none := by rw [HR.out, ← HM.out, hfold]; rfl
        subst hRn
        generalize numV p.data.toList = V at cn hv
        clear hfold HR HM HC
        by_cases h0 : V < 0
        · clear hv
          go_wp2_with (go_at_call 22; refine cn.mono ?_; rintro e w' ⟨rfl, rfl⟩)
          refine bodyPost_ret_by (res_pair Tryz.results35 _ _ B2 (.int .u64 0) (.int .u64 0) rfl (heap_set2 hB2 _ _)) rfl ⟨?_, 0, 0, rfl, by omega, by omega⟩
          exact below_set (below_set bw1 (by have := HB.out; omega) 0 _) (by have := HB.out; omega) 1 _
        · have h255 : 255 < V := by omega
          have h0d : decide (V < 0) = false := by simp; omega
          clear hv
          go_wp2_with (go_at_call 22; refine cn.mono ?_; rintro e w' ⟨rfl, rfl⟩)
          refine bodyPost_ret_by (res_pair Tryz.results35 _ _ B2 (.int .u64 0) (.int .u64 0) rfl (heap_set2 hB2 _ _)) rfl ⟨?_, 0, 0, rfl, by omega, by omega⟩
          exact below_set (below_set bw1 (by have := HB.out; omega) 0 _) (by have := HB.out; omega) 1 _
      · rw [if_neg hv] at hfold
        obtain ⟨e1, e2⟩ := numV_hi hv
        rw [e1] at cn
        have hp2 : n * 256 + (numV p.data.toList).toNat < 256 ^ (k + 1) := by rw [Nat.pow_succ]; omega
        generalize (numV p.data.toList).toNat = V at cn hfold e2 hp2
        have hVi : (V : Int) ≤ 255 := by omega
        have hVn : decide ((V : Int) < 0) = false := by simp
        have H2 := Lib.hid hfold
        have HP2 := Lib.hid hp2
        have h255 : decide ((255 : Int) < (V : Int)) = false := by simp; omega
        have h255n : decide (255 < V) = false := by simp; omega
        clear hfold hp2 hv e1 HR HM HC hsz hn
        go_wp2_with (go_at_call 22; refine cn.mono ?_; rintro e w' ⟨rfl, rfl⟩)
        exact ⟨⟨n * 256 + V, k + 1, by simp, by simp, by omega, HP2.out, trivial, H2⟩, by simp [intOf]; omega⟩
    · obtain rfl : k = 4 := by omega
      rw [List.drop_eq_nil_of_le (by have := HP.out; omega)] at hfold
      have hRs : R = some (281470681743360 + n) := by rw [HR.out, ← HM.out, hfold]; rfl
      subst hRs
      have co := rof4_any (n : Int) (by omega) (by omega)
      have e1 : hiW (281470681743360 + n) = 0 := by unfold hiW; omega
      have e2 : loW (281470681743360 + n) = 281470681743360 + n := by unfold loW; omega
      clear hfold hh HR HM HC
      go_wp2_with (go_at_call 52; refine (co _).mono ?_; rintro e w2 ⟨rfl, hb2⟩; refine Hid.out ?_)
      have hB22 : w2.heap[B2]? = some (.cells #[.int .u64 0, .int .u64 0] 24 (0, 0)) := by rw [hb2.block _ (Array.getElem?_eq_some_iff.1 hB2).1]; exact hB2
      have bw2 := bel_via bw1 hb2
      clear c20 c21 f20 f21 hb2 bw1 hB2
      obtain ⟨c20, c21, f20, f21⟩ := cells_of hB22
      refine Lib.hid ?_
      go_wp2
      refine bodyPost_ret_by (res_pair Tryz.results35 _ _ B2 (.int .u64 0) (.int .u64 (281470681743360 + (n : Int))) rfl (heap_set2 hB22 _ _)) rfl ⟨?_, ?_⟩
      · exact below_set (below_set bw2 (by have := HB.out; omega) 0 _) (by have := HB.out; omega) 1 _
      · show Ending.returned _ = Ending.returned (.tuple #[.agg #[.int .u64 (hiW (281470681743360 + n) : Nat), .int .u64 (loW (281470681743360 + n) : Nat)], .bool true])
        rw [e1, e2]; rfl
end Go.Proofs.YtaafflmkfdicdaaGreatDoor
