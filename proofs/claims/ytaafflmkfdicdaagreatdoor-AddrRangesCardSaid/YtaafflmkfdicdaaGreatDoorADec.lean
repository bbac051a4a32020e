/- A number out of any text: the program's; by-name template. -/
import Derived.Test.YtaafflmkfdicdaaGreatDoorARngB
import Derived.Test.YtaafflmkfdicdaaGreatDoorADecP
namespace Go.Proofs.YtaafflmkfdicdaaGreatDoor
open Go.RowKit
set_option linter.unusedVariables false
set_option linter.unusedSimpArgs false

def decT (l : List UInt8) : Value := if 0 ≤ numV l then .tuple #[.int .i64 (numV l), .bool true] else .tuple #[.int .i64 0, .bool false]

theorem itoaI_any (n : Int) (h0 : -10000000000 < n) (h1 : n < 10000000000) {w : World} (hG : Glob w) : Calls Tryz.prog 28 #[.int .i64 n] w fun e w' => e = .returned (.string ⟨(Lib.itoa n).toArray⟩) ∧ Below w.heap.size w w' := by
  refine (Tryz.strconv_Itoa n (by omega) (by omega) w hG.tab).mono fun e w' ⟨h1, k, os, h2⟩ => ⟨h1, ?_⟩
  rw [h2]
  exact Lib.below_grow w.heap.size w (Nat.le_refl _) k os

set_option maxHeartbeats 1000000 in
set_option maxRecDepth 100000 in
theorem dec_any (s : ByteArray) (hs : s.size ≤ 281474976) {w : World} (hG : Glob w) : Calls Tryz.prog 33 #[.string s] w fun e w' => e = .returned (decT s.data.toList) ∧ Below w.heap.size w w' := by
  have hL : s.data.toList.length = s.size := by rw [Lib.size_eq]
  by_cases h10 : 10 < s.size
  · have e : decT s.data.toList = .tuple #[.int .i64 0, .bool false] := by unfold decT; rw [numV_long (by omega)]; rfl
    rw [e]
    have h10i : (10 : Int) < (s.size : Int) := by omega
    have h10d : decide (10 < s.size) = true := by simpa using h10
    clear e hL
    go_enter Tryz.func33, Tryz.ntmps33
    go_wp2
    go_ret2
    exact ⟨rfl, Below.refl _ _⟩
  · have h10i : ¬ (10 : Int) < (s.size : Int) := by omega
    have h10d : decide (10 < s.size) = false := by simpa using h10
    by_cases hn : 0 ≤ numV s.data.toList
    · have e : decT s.data.toList = .tuple #[.int .i64 (numV s.data.toList), .bool true] := by unfold decT; rw [if_pos hn]
      rw [e]
      obtain ⟨ha, hi, hlt, -⟩ := num_yes hn
      obtain ⟨v, hv⟩ : ∃ v, v = numV s.data.toList := ⟨_, rfl⟩
      rw [← hv] at ha hi hlt hn ⊢
      have cat := fun W => (Tryz.strconv_Atoi_ok s (by omega) v ha W).mono (fun e w' ⟨h1, h2⟩ => show e = _ ∧ Below W.heap.size W w' from ⟨h1, by rcases h2 with h2 | ⟨t, h2⟩ <;> rw [h2]; exact Below.refl _ _; exact Lib.bytesWorld_below _ _ _⟩)
      have ci := fun (W : World) (hg : Glob W) => itoaI_any v (by omega) hlt hg
      rw [hi, bytes_of (s := s) rfl] at ci
      have hn0 : decide (v < 0) = false := by simp; omega
      clear e hv ha hi hL
      go_enter Tryz.func33, Tryz.ntmps33
      go_wp2_with (first
        | (go_at_call 47; refine (cat _).mono ?_; rintro e w2 ⟨rfl, hb2⟩)
        | (go_at_call 28; refine (ci _ (hG.on hb2)).mono ?_; rintro e w3 ⟨rfl, hb3⟩))
      go_ret2
      exact ⟨rfl, bel_via hb2 hb3⟩
    · have e : decT s.data.toList = .tuple #[.int .i64 0, .bool false] := by unfold decT; rw [if_neg hn]
      rw [e]
      rcases num_no (l := s.data.toList) (by omega) (by omega) with hsyn | ⟨v, ha, hv0, hv1, hne⟩
      · obtain ⟨ev, hev, hk⟩ := hG.es
        have cat := Tryz.strconv_Atoi_syntax s (by omega) hsyn ev w hev hk
        clear e hn hL hsyn
        go_enter Tryz.func33, Tryz.ntmps33
        go_wp2_with (go_at_call 47; refine cat.mono ?_; rintro e w2 ⟨N, rfl, -, -, hb2⟩)
        go_ret2
        exact ⟨rfl, hb2⟩
      · have cat := fun W => (Tryz.strconv_Atoi_ok s (by omega) v ha W).mono (fun e w' ⟨h1, h2⟩ => show e = _ ∧ Below W.heap.size W w' from ⟨h1, by rcases h2 with h2 | ⟨t, h2⟩ <;> rw [h2]; exact Below.refl _ _; exact Lib.bytesWorld_below _ _ _⟩)
        by_cases hz : v < 0
        · have hz1 : decide (v < 0) = true := by simpa using hz
          clear e hn hL ha hne
          go_enter Tryz.func33, Tryz.ntmps33
          go_wp2_with (go_at_call 47; refine (cat _).mono ?_; rintro e w2 ⟨rfl, hb2⟩)
          go_ret2
          exact ⟨rfl, hb2⟩
        · have hz1 : decide (v < 0) = false := by simpa using hz
          have ci := fun (W : World) (hg : Glob W) => itoaI_any v hv0 hv1 hg
          have hne2 := hne (by omega)
          obtain ⟨S, hS⟩ : ∃ S : ByteArray, S = ⟨(Lib.itoa v).toArray⟩ := ⟨_, rfl⟩
          have hq : ¬ S.toList = s.toList := by rw [Lib.toList_data, Lib.toList_data, hS]; simpa using hne2
          have hq1 : (S.toList == s.toList) = false := by simpa using hq
          have hq2 : (S.toList != s.toList) = true := by simpa using hq
          rw [← hS] at ci
          clear e hn hL ha hne hne2 hS hq
          go_enter Tryz.func33, Tryz.ntmps33
          go_wp2_with (first
            | (go_at_call 47; refine (cat _).mono ?_; rintro e w2 ⟨rfl, hb2⟩)
            | (go_at_call 28; refine (ci _ (hG.on hb2)).mono ?_; rintro e w3 ⟨rfl, hb3⟩))
          go_ret2
          exact ⟨rfl, bel_via hb2 hb3⟩
end Go.Proofs.YtaafflmkfdicdaaGreatDoor
