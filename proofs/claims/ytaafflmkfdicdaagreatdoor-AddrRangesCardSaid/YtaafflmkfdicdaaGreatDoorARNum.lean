/- The document's own numbers; by-name template. -/
import Derived.Test.YtaafflmkfdicdaaGreatDoorARHex
namespace Go.Proofs.YtaafflmkfdicdaaGreatDoor
open Go.RowKit
set_option linter.unusedVariables false
set_option linter.unusedSimpArgs false

theorem idx_any (s : ByteArray) (k : Nat) (c : UInt8) (h : s.data.toList[k]? = some c) : ∀ W, (Instr.index 9 (.string s) (.int .i64 (k : Nat))).run Tryz.prog W = .ok (.int .u8 (c.toNat : Nat)) W := fun W => by
  have hk : k < s.size := by
    have := (List.getElem?_eq_some_iff.1 h).1
    rw [Lib.size_eq]; exact this
  rw [run_index_string W 9 s .i64 (k : Int) Tryz.underlying9, dif_pos (by omega)]
  have e : s[(k : Int).toNat]'(by simpa using hk) = c := by
    have h2 := (List.getElem?_eq_some_iff.1 h).2
    rw [← h2]
    simp [ByteArray.getElem_eq_getElem_data]
  rw [e]

set_option maxHeartbeats 1000000 in
set_option maxRecDepth 100000 in
theorem rnum_loop (s : ByteArray) (w : World) (h1 : 0 < s.size) (h10 : s.size ≤ 10) (c0 : UInt8) (hc0 : s.data.toList[0]? = some c0) (hz : ¬ (c0 = 48 ∧ 1 < s.size)) :
    Calls Tryz.prog 22 #[.string s] w fun e w' => e = .returned (.int .i64 (numM 0 s.data.toList)) ∧ w' = w := by
  have hi0 := idx_any s 0 c0 hc0
  have hL : s.data.toList.length = s.size := by rw [Lib.size_eq]
  obtain ⟨R, hR⟩ : ∃ R, R = numM 0 s.data.toList := ⟨_, rfl⟩
  rw [← hR]
  have HR := Lib.hid hR
  have hs1 : (1 : Int) ≤ (s.size : Int) := by omega
  have hs10 : (s.size : Int) ≤ 10 := by omega
  have he0 : ((s.size : Int) == 0) = false := by rw [beq_eq_false_iff_ne]; omega
  have hi0' : ∀ W, (Instr.index 9 (.string s) (.int .i64 0)).run Tryz.prog W = .ok (.int .u8 (c0.toNat : Nat)) W := hi0
  clear hR hc0 hi0
  have hrest : ∀ (Z : Prop), Z = Z := fun _ => rfl
  by_cases hc : c0 = 48
  · have h1s : s.size = 1 := by
      by_cases h : 1 < s.size
      · exact absurd ⟨hc, h⟩ hz
      · omega
    have h1d : decide ((1 : Int) < (s.size : Int)) = false := by rw [h1s]; rfl
    have h10d : decide ((10 : Int) < (s.size : Int)) = false := by rw [h1s]; rfl
    have hce : ((c0.toNat : Nat) : Int) = 48 := by rw [hc]; rfl
    clear hz hc h1s
    go_enter Tryz.func22, Tryz.ntmps22
    go_wp2
    go_loopw [3, 4] (fun v3 v4 wr => ∃ (n k : Nat), v3 = .int .i64 n ∧ v4 = .int .i64 k ∧ k ≤ s.size ∧ n < 10 ^ k ∧ wr = w ∧ Hid (R = numM n (s.data.toList.drop k))) (fun _ v4 _ => (10 - intOf v4).toNat)
    case atStart => exact ⟨0, 0, rfl, rfl, by omega, by omega, rfl, by simpa using HR⟩
    case round =>
      obtain ⟨n, k, rfl, rfl, hk, hn, hw, hh⟩ := hrel
      subst hw
      have hh2 := hh.out
      clear hh
      by_cases hk8 : k < s.size
      · have hki : (k : Int) < (s.size : Int) := by omega
        obtain ⟨c, hck⟩ : ∃ c, s.data.toList[k]? = some c := ⟨s.data.toList[k]'(by omega), List.getElem?_eq_getElem (by omega)⟩
        have hik := idx_any s k c hck
        have hd : s.data.toList.drop k = c :: s.data.toList.drop (k + 1) := by
          rw [List.drop_eq_getElem_cons (by omega)]
          have := (List.getElem?_eq_some_iff.1 hck).2
          rw [this]
        rw [hd, numM] at hh2
        have hn9 : n < 1000000000 := Nat.lt_of_lt_of_le hn (Nat.le_trans (Nat.pow_le_pow_right (by omega) (show k ≤ 9 by omega)) (by decide))
        have hni : (n : Int) < 1000000000 := by omega
        have hcb : c.toNat < 256 := UInt8.toNat_lt c
        obtain ⟨C, hC⟩ : ∃ C, C = c.toNat := ⟨_, rfl⟩
        rw [← hC] at hik hh2 hcb
        clear hC hck hd
        have hCi : (C : Int) < 256 := by omega
        by_cases h48 : C < 48
        · have h48i : (C : Int) < 48 := by omega
          rw [if_pos (Or.inl h48)] at hh2
          have H2 := Lib.hid hh2
          clear hh2 HR
          go_wp2
          go_ret
          exact ⟨by rw [H2.out]; rfl, rfl⟩
        · have h48i : decide ((C : Int) < 48) = false := by simp; omega
          have h48n : (48 : Int) ≤ (C : Int) := by omega
          by_cases h57 : 57 < C
          · have h57i : (57 : Int) < (C : Int) := by omega
            rw [if_pos (Or.inr h57)] at hh2
            have H2 := Lib.hid hh2
            clear hh2 HR
            go_wp2
            go_ret
            exact ⟨by rw [H2.out]; rfl, rfl⟩
          · have h57i : decide ((57 : Int) < (C : Int)) = false := by simp; omega
            have h57n : (C : Int) ≤ 57 := by omega
            rw [if_neg (by omega)] at hh2
            have H2 := Lib.hid hh2
            clear hh2 HR
            go_wp2
            exact ⟨⟨n * 10 + (C - 48), k + 1, by simp; omega, by simp, by omega, by rw [Nat.pow_succ]; omega, trivial, H2⟩, by simp [intOf]; omega⟩
      · have hkz : k = s.size := by omega
        have hki : decide ((k : Int) < (s.size : Int)) = false := by simp; omega
        rw [hkz, List.drop_eq_nil_of_le (by omega), numM] at hh2
        have H2 := Lib.hid hh2
        clear hh2 HR
        go_wp2
        go_ret
        exact ⟨by rw [H2.out]; rfl, rfl⟩
  · have hcn : (((c0.toNat : Nat) : Int) == 48) = false := by
      have : c0.toNat ≠ 48 := fun e => hc (UInt8.toNat_inj.1 (by rw [e]; rfl))
      simp; omega
    clear hz hc
    go_enter Tryz.func22, Tryz.ntmps22
    go_wp2
    go_loopw [3, 4] (fun v3 v4 wr => ∃ (n k : Nat), v3 = .int .i64 n ∧ v4 = .int .i64 k ∧ k ≤ s.size ∧ n < 10 ^ k ∧ wr = w ∧ Hid (R = numM n (s.data.toList.drop k))) (fun _ v4 _ => (10 - intOf v4).toNat)
    case atStart => exact ⟨0, 0, rfl, rfl, by omega, by omega, rfl, by simpa using HR⟩
    case round =>
      obtain ⟨n, k, rfl, rfl, hk, hn, hw, hh⟩ := hrel
      subst hw
      have hh2 := hh.out
      clear hh
      by_cases hk8 : k < s.size
      · have hki : (k : Int) < (s.size : Int) := by omega
        obtain ⟨c, hck⟩ : ∃ c, s.data.toList[k]? = some c := ⟨s.data.toList[k]'(by omega), List.getElem?_eq_getElem (by omega)⟩
        have hik := idx_any s k c hck
        have hd : s.data.toList.drop k = c :: s.data.toList.drop (k + 1) := by
          rw [List.drop_eq_getElem_cons (by omega)]
          have := (List.getElem?_eq_some_iff.1 hck).2
          rw [this]
        rw [hd, numM] at hh2
        have hn9 : n < 1000000000 := Nat.lt_of_lt_of_le hn (Nat.le_trans (Nat.pow_le_pow_right (by omega) (show k ≤ 9 by omega)) (by decide))
        have hni : (n : Int) < 1000000000 := by omega
        have hcb : c.toNat < 256 := UInt8.toNat_lt c
        obtain ⟨C, hC⟩ : ∃ C, C = c.toNat := ⟨_, rfl⟩
        rw [← hC] at hik hh2 hcb
        clear hC hck hd
        have hCi : (C : Int) < 256 := by omega
        by_cases h48 : C < 48
        · have h48i : (C : Int) < 48 := by omega
          rw [if_pos (Or.inl h48)] at hh2
          have H2 := Lib.hid hh2
          clear hh2 HR
          go_wp2
          go_ret
          exact ⟨by rw [H2.out]; rfl, rfl⟩
        · have h48i : decide ((C : Int) < 48) = false := by simp; omega
          have h48n : (48 : Int) ≤ (C : Int) := by omega
          by_cases h57 : 57 < C
          · have h57i : (57 : Int) < (C : Int) := by omega
            rw [if_pos (Or.inr h57)] at hh2
            have H2 := Lib.hid hh2
            clear hh2 HR
            go_wp2
            go_ret
            exact ⟨by rw [H2.out]; rfl, rfl⟩
          · have h57i : decide ((57 : Int) < (C : Int)) = false := by simp; omega
            have h57n : (C : Int) ≤ 57 := by omega
            rw [if_neg (by omega)] at hh2
            have H2 := Lib.hid hh2
            clear hh2 HR
            go_wp2
            exact ⟨⟨n * 10 + (C - 48), k + 1, by simp; omega, by simp, by omega, by rw [Nat.pow_succ]; omega, trivial, H2⟩, by simp [intOf]; omega⟩
      · have hkz : k = s.size := by omega
        have hki : decide ((k : Int) < (s.size : Int)) = false := by simp; omega
        rw [hkz, List.drop_eq_nil_of_le (by omega), numM] at hh2
        have H2 := Lib.hid hh2
        clear hh2 HR
        go_wp2
        go_ret
        exact ⟨by rw [H2.out]; rfl, rfl⟩
end Go.Proofs.YtaafflmkfdicdaaGreatDoor
