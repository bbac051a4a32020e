/- The document's own cut: a text parted at a byte; by-name template. -/
import Derived.Test.YtaafflmkfdicdaaGreatDoorARNumber
namespace Go.Proofs.YtaafflmkfdicdaaGreatDoor
open Go.RowKit
set_option linter.unusedVariables false
set_option linter.unusedSimpArgs false

theorem infoS : (Tryz.prog.info? 9).map (fun i => (i.zero, i.size, i.bytes)) = some (some (.string ByteArray.empty), 1, 16) := by kernel_rfl

/-- A text's pieces lie in a slice of the call's own. -/
def CutPost (l : List UInt8) (c : UInt8) (n : Nat) (w : World) (e : Ending) (w' : World) : Prop :=
  ∃ (v : Value) (PS : List ByteArray), e = .returned v ∧ w'.ownsRow w.heap.size 9 1 v PS.length (PS.map Value.string) ∧ Below w.heap.size w w' ∧ PS.map (·.data.toList) = splitOn c l ∧ PS.length ≤ n + 1 ∧ ∀ p ∈ PS, p.size ≤ n

theorem extract_le (s : ByteArray) (a b : Nat) : (s.extract a b).size ≤ s.size := by
  have h := Lib.extract_data s a b
  have h1 : (s.extract a b).data.toList.length = (s.extract a b).size := by rw [Lib.size_eq]
  have h2 : s.data.toList.length = s.size := by rw [Lib.size_eq]
  rw [← h1, h, List.length_take, List.length_drop]; omega

set_option maxHeartbeats 1000000 in
set_option maxRecDepth 100000 in
theorem rcut_any (s : ByteArray) (c : UInt8) (hs : s.size ≤ 281474976) (w : World) :
    Calls Tryz.prog 51 #[.string s, .int .u8 (c.toNat : Nat)] w (CutPost s.data.toList c s.size w) := by
  have hL : s.data.toList.length = s.size := by rw [Lib.size_eq]
  obtain ⟨i0, hi, hz0, hz1, hz2⟩ := info_parts infoS
  have hsi : (s.size : Int) ≤ 281474976 := by omega
  go_enter Tryz.func51, Tryz.ntmps51
  go_wp2
  go_loopw [5, 6, 7] (fun v5 v6 v7 wr => ∃ (PS : List ByteArray) (f k : Nat), v6 = .int .i64 f ∧ v7 = .int .i64 k ∧ f ≤ k ∧ k ≤ s.size ∧ PS.length ≤ k ∧ wr.ownsRow w.heap.size 9 1 v5 PS.length (PS.map Value.string) ∧ Below w.heap.size w wr ∧
      Hid (PS.map (·.data.toList) ++ splitOn c (s.data.toList.drop f) = splitOn c s.data.toList ∧ (∀ j, f ≤ j → j < k → s.data.toList[j]? ≠ some c) ∧ ∀ p ∈ PS, p.size ≤ s.size)) (fun _ _ v7 _ => s.size - (intOf v7).toNat)
  case atStart => exact ⟨[], 0, 0, rfl, rfl, by omega, by omega, by simp, World.ownsRow_made w #[] 0 (Nat.le_refl _) (by unfold maxLen; omega) rfl, Below.al (Below.refl _ _) _, Lib.hid ⟨by simp, fun j _ h => absurd h (by omega), by simp⟩⟩
  case round =>
    obtain ⟨PS, f, k, rfl, rfl, hfk, hk, hps, hown, hbr, hh⟩ := hrel
    have hszr : w.heap.size ≤ wr.heap.size := hbr.size
    by_cases hlt : k < s.size
    · obtain ⟨x, hx⟩ : ∃ x, s.data.toList[k]? = some x := ⟨s.data.toList[k]'(by omega), List.getElem?_eq_getElem (by omega)⟩
      have hix := idx_any s k x hx
      have hki : (k : Int) < (s.size : Int) := by omega
      have hfi : (f : Int) ≤ (k : Int) := by omega
      by_cases hxc : x = c
      · subst hxc
        obtain ⟨h1, h2, h3⟩ := hh.out
        have e1 := split_at hfk hx h2
        rw [e1] at h1
        have e2 := Lib.extract_data s f k
        have e3 := extract_le s f k
        have H2 := Lib.hid (show (PS ++ [s.extract f k]).map (·.data.toList) ++ splitOn x (s.data.toList.drop (k + 1)) = splitOn x s.data.toList ∧ (∀ j, k + 1 ≤ j → j < k + 1 → s.data.toList[j]? ≠ some x) ∧ ∀ p ∈ PS ++ [s.extract f k], p.size ≤ s.size from
          ⟨by rw [List.map_append, List.map_singleton, e2, List.append_assoc]; exact h1, fun j a b => absurd b (by omega), by intro p hp; rcases List.mem_append.1 hp with h | h; exact h3 p h; simp at h; rw [h]; exact e3⟩)
        clear hh h1 h2 h3 e1 e2 e3 hx
        generalize x.toNat = X at hix
        go_wp2_with (at_builtin; refine wpList_append_own _ rfl _ _ 76 rfl w.heap.size 9 i0 (.string ByteArray.empty) 1 16 Tryz.underlying76 hi hz0 hz1 hz2 rfl (by decide) _ _ _ rfl (hown.alloc _) ⟨wr.heap.size, 0, none⟩ 1 1 [Value.string (s.extract f k)] rfl rfl (by intro j u' hj; match j, hj with | 0, hj => simp at hj; subst hj; simp [Addr.add]) (by intro u' hu'; simp at hu'; subst hu'; rfl) (by unfold maxLen; omega) (by omega) (by simp; omega) ?_)
        intro v3 w3 hown3 hgrow _
        have hb3 : Below w.heap.size w w3 := (Below.al hbr _).grown hgrow (by simp; omega) (fun k hk => (hown.lt k hk).1)
        go_wp2
        refine ⟨⟨PS ++ [s.extract f k], k + 1, k + 1, by simp, by simp, by omega, by omega, by simp; omega, ?_, hb3, H2⟩, by simp [intOf]; omega⟩
        rw [List.map_append, List.length_append]
        exact hown3
      · have hne : x.toNat ≠ c.toNat := fun e => hxc (UInt8.toNat_inj.1 e)
        obtain ⟨h1, h2, h3⟩ := hh.out
        have H2 := Lib.hid (show PS.map (·.data.toList) ++ splitOn c (s.data.toList.drop f) = splitOn c s.data.toList ∧ (∀ j, f ≤ j → j < k + 1 → s.data.toList[j]? ≠ some c) ∧ ∀ p ∈ PS, p.size ≤ s.size from
          ⟨h1, fun j a b => by
            by_cases hjk : j = k
            · subst hjk; rw [hx]; intro e; exact hxc (Option.some.inj e)
            · exact h2 j a (by omega), h3⟩)
        clear hh h1 h2 h3 hx hxc
        generalize x.toNat = X at hix hne
        generalize c.toNat = C at hne
        have hq : ((X : Int) == (C : Int)) = false := by simp; omega
        clear hne
        go_wp2
        exact ⟨⟨PS, f, k + 1, rfl, by simp, by omega, by omega, by omega, hown, hbr, H2⟩, by simp [intOf]; omega⟩
    · have hkz : k = s.size := by omega
      have hki : decide ((k : Int) < (s.size : Int)) = false := by simp; omega
      have hfi : (f : Int) ≤ (s.size : Int) := by omega
      obtain ⟨h1, h2, h3⟩ := hh.out
      have e1 := split_end (c := c) (L := s.data.toList) (f := f) (fun j a b => h2 j a (by omega))
      rw [e1] at h1
      have e2 := Lib.extract_to_end s f
      have e3 := extract_le s f s.size
      have H2 := Lib.hid (show (PS ++ [s.extract f s.size]).map (·.data.toList) = splitOn c s.data.toList ∧ ∀ p ∈ PS ++ [s.extract f s.size], p.size ≤ s.size from
        ⟨by rw [List.map_append, List.map_singleton, e2]; exact h1, by intro p hp; rcases List.mem_append.1 hp with h | h; exact h3 p h; simp at h; rw [h]; exact e3⟩)
      clear hh h1 h2 h3 e1 e2 e3 hkz
      go_wp2_with (at_builtin; refine wpList_append_own _ rfl _ _ 76 rfl w.heap.size 9 i0 (.string ByteArray.empty) 1 16 Tryz.underlying76 hi hz0 hz1 hz2 rfl (by decide) _ _ _ rfl (hown.alloc _) ⟨wr.heap.size, 0, none⟩ 1 1 [Value.string (s.extract f s.size)] rfl rfl (by intro j u' hj; match j, hj with | 0, hj => simp at hj; subst hj; simp [Addr.add]) (by intro u' hu'; simp at hu'; subst hu'; rfl) (by unfold maxLen; omega) (by omega) (by simp; omega) ?_)
      intro v3 w3 hown3 hgrow _
      have hb3 : Below w.heap.size w w3 := (Below.al hbr _).grown hgrow (by simp; omega) (fun k hk => (hown.lt k hk).1)
      go_wp2
      go_ret
      refine ⟨v3, PS ++ [s.extract f s.size], rfl, ?_, hb3, H2.out.1, by simp; omega, H2.out.2⟩
      rw [List.map_append, List.length_append]
      exact hown3
end Go.Proofs.YtaafflmkfdicdaaGreatDoor
