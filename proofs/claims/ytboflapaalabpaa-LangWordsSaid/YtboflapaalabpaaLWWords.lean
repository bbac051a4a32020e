/- Words of a line: the program's; by-name template. -/
import Derived.Test.YtboflapaalabpaaLWRWords
import Derived.Test.YtboflapaalabpaaShelf
namespace Go.Proofs.Ytboflapaalabpaa
open Go.RowKit Go.Lib
set_option linter.unusedVariables false
set_option linter.unusedSimpArgs false

theorem blank_any (b : Nat) (w : World) : Calls Try.prog 10 #[.int .i32 b] w fun e w' => e = .returned (.bool (blankN b)) ∧ w = w' := by
  unfold blankN
  by_cases h : b = 32
  · subst h
    go_enter Try.func10, Try.ntmps10
    go_wp2
    go_ret
    exact ⟨by simp, rfl⟩
  · have hb : ((b : Int) == 32) = false := by simp; omega
    go_enter Try.func10, Try.ntmps10
    go_wp2
    go_ret
    refine ⟨?_, rfl⟩
    have h2 : (b == 32) = false := by simp [h]
    have h3 : ((b : Int) == 9) = (b == 9) := by rw [Bool.eq_iff_iff]; simp; omega
    simp [h2, h3]

theorem said_eq (s : ByteArray) : ∃ n, HashAt s n ∧ (⟨(Lib.cut s.data.toList [35]).1.toArray⟩ : ByteArray) = s.extract 0 n := by
  obtain ⟨n, h1, h2, h3, h4⟩ := cut_hash s.data.toList
  have h1' : n ≤ s.size := by simpa using h1
  refine ⟨n, ⟨h1', fun j hj h => ?_, fun hl => ?_⟩, ?_⟩
  · have := h3 j (s.get! j) hj (bt_list s j (by omega))
    apply this
    apply UInt8.toNat_inj.1
    exact h
  · have h5 := h4 (by simpa using hl)
    rw [bt_list s n hl] at h5
    have h6 := Option.some.inj h5
    unfold bt
    rw [h6]; rfl
  · rw [h2]
    apply ByteArray.ext
    rw [ByteArray.data_extract]
    apply Array.toList_inj.1
    simp

set_option maxHeartbeats 4000000 in
set_option maxRecDepth 100000 in
theorem words_any (s : ByteArray) (hs : s.size ≤ 65536) (w : World) (hsh : w.ShapedOpen Try.prog) : ∃ n, HashAt s n ∧ Calls Try.prog 4 #[.string s] w (WPost s n w) := by
  obtain ⟨n, hn, hsaid⟩ := said_eq s
  refine ⟨n, hn, ?_⟩
  have cc := Try.strings_Cut_shaped s ⟨#[35]⟩ w hsh (by omega)
  rw [show (⟨#[35]⟩ : ByteArray).data.toList = [35] from rfl, hsaid] at cc
  have hnl := hn.1
  obtain ⟨T, hT⟩ : ∃ T, T = s.extract 0 n := ⟨_, rfl⟩
  have hTs : T.size = n := by rw [hT]; exact size_extract0 s n hnl
  have hTb : ∀ j, j < n → bt T j = bt s j := fun j hj => by rw [hT]; exact bt_extract s n j hnl hj
  have hTw : wordsAt T n = wordsAt s n := by rw [hT]; exact words_extract s n hnl
  rw [← hT] at cc
  have hpr : ∀ W : World, PredAtRunes Try.prog 10 #[] blankN W := fun W => by
    intro W2 x _ _
    exact (blank_any x W2).mono fun e w' ⟨he, hw⟩ => ⟨he, 0, by rw [← hw]; rfl⟩
  have eg : ∀ args w, (callFunc 10 args).run Try.prog w = .ok (.enter 10 args) w := enters_of Try.func10 (by kernel_rfl) rfl
  have cf := fun (W : World) => Try.strings_FieldsFunc_runes 10 #[] eg blankN T W (by omega) (hpr W)
  have HTB := Lib.hid hTb
  have HTW := Lib.hid hTw
  clear hT hsaid hTb hTw hpr eg hsh
  go_enter Try.func4, Try.ntmps4
  go_wp2_with (go_at_call 9; refine cc.mono ?_; rintro e w' ⟨rfl, n', rfl⟩)
  have cf1 := cf (w.drewN n')
  clear cc cf
  have hd : Below w.heap.size w (w.drewN n') := ⟨rfl, rfl, rfl, Nat.le_refl _, fun _ _ => rfl⟩
  have hds : (w.drewN n').heap.size = w.heap.size := rfl
  rw [hds] at cf1
  clear hds
  generalize w.drewN n' = wd at *
  go_loop [17] (fun vi => ∃ k : Nat, k ≤ n ∧ vi = .int .i64 k ∧ Aside (∀ j, j < k → okN (bt T j) = true)) (fun vi => n - (intOf vi).toNat)
  case atStart => exact ⟨0, by omega, rfl, fun j hj => absurd hj (Nat.not_lt_zero _)⟩
  case round =>
    obtain ⟨k, hk, rfl, N⟩ := hrel
    by_cases hlt : k < n
    · have hlti : (k : Int) < (n : Int) := by omega
      have hls : k < T.size := by omega
      have hbk := bt_get T k hls
      have HB : Hid (blankN (bt T k) = true ↔ bt T k = 32 ∨ bt T k = 9) := Lib.hid (by simp [blankN])
      have HO : Hid (okN (bt T k) = true ↔ bt T k = 32 ∨ bt T k = 9 ∨ (33 ≤ bt T k ∧ bt T k ≤ 126)) := Lib.hid (by simp [okN, blankN, or_assoc])
      have hlt8 : bt T k < 256 := by rw [← bt_get T k hls]; exact UInt8.toNat_lt _
      have cb := blank_any (bt T k)
      clear cf1
      generalize hbn : bt T k = b at *
      have HBN := Lib.hid hbn
      clear hbn
      have hcv : IntKind.i32.wrap (b : Int) = (b : Int) := by rw [IntKind.wrap_i32]; omega
      cases hQ : blankN b with
      | true =>
        rw [hQ] at cb
        have HG := Lib.hid (show okN b = true from HO.out.2 (by have := HB.out.1 hQ; omega))
        clear hQ
        go_wp2_with (go_at_call 10; with_reducible refine (cb _).mono ?_; rintro e w' ⟨rfl, rfl⟩)
        go_round
        case rel => exact ⟨k + 1, by omega, by go_num, fun j hj => by
          by_cases e : j = k
          · subst e; rw [HBN.out]; exact HG.out
          · exact N.out j (by omega)⟩
        case measure => simp [intOf]; omega
      | false =>
        rw [hQ] at cb
        have hnb : ¬ (b = 32 ∨ b = 9) := fun h => by have := HB.out.2 h; rw [hQ] at this; cases this
        clear hQ
        by_cases hg : 33 ≤ b ∧ b ≤ 126
        · obtain ⟨g1, g2⟩ := hg
          have t3 : decide ((b : Int) < 33) = false := by simp; omega
          have t4 : decide ((126 : Int) < (b : Int)) = false := by simp; omega
          have HG := Lib.hid (show okN b = true from HO.out.2 (by omega))
          clear hnb
          go_wp2_with (go_at_call 10; with_reducible refine (cb _).mono ?_; rintro e w' ⟨rfl, rfl⟩)
          go_round
          case rel => exact ⟨k + 1, by omega, by go_num, fun j hj => by
            by_cases e : j = k
            · subst e; rw [HBN.out]; exact HG.out
            · exact N.out j (by omega)⟩
          case measure => simp [intOf]; omega
        · have hbad : okN b = false := by
            cases h : okN b with
            | true => have := HO.out.1 h; omega
            | false => rfl
          have HBad := Lib.hid (show Bad s n from ⟨k, hlt, by rw [← HTB.out k hlt, HBN.out]; exact hbad⟩)
          clear hbad hnb
          by_cases g1 : b < 33
          · have t3 : decide ((b : Int) < 33) = true := by simp; omega
            go_wp2_with (go_at_call 10; with_reducible refine (cb _).mono ?_; rintro e w' ⟨rfl, rfl⟩)
            go_ret2
            exact .inl ⟨HBad.out, rfl, hd⟩
          · have t3 : decide ((b : Int) < 33) = false := by simp; omega
            have t4 : decide ((126 : Int) < (b : Int)) = true := by simp; omega
            go_wp2_with (go_at_call 10; with_reducible refine (cb _).mono ?_; rintro e w' ⟨rfl, rfl⟩)
            go_ret2
            exact .inl ⟨HBad.out, rfl, hd⟩
    · obtain rfl : k = n := by omega
      have hkT : Lib.goFieldsP blankN T = wordsAt s k := by
        rw [fields_ascii T (fun j hj => by
          have := N.out j (by omega)
          have h2 : okN (bt T j) = true ↔ bt T j = 32 ∨ bt T j = 9 ∨ (33 ≤ bt T j ∧ bt T j ≤ 126) := by simp [okN, blankN, or_assoc]
          have := h2.1 this
          omega), hTs]
        exact HTW.out
      have hnb : Hid (¬ Bad s k) := Lib.hid (fun ⟨j, h1, h2⟩ => by
        have := N.out j h1
        rw [HTB.out j h1, h2] at this; cases this)
      rw [hkT] at cf1
      clear hkT hlt N
      have hdd : ∀ i : Nat, ¬ (k : Int) < (k : Int) := fun _ => by omega
      go_wp2_with (go_at_call 11; refine cf1.mono ?_; rintro e w' ⟨A, rfl, _, hown, hbel⟩)
      go_ret2
      exact .inr ⟨hnb.out, _, rfl, hown, hd.trans hbel⟩
end Go.Proofs.Ytboflapaalabpaa
