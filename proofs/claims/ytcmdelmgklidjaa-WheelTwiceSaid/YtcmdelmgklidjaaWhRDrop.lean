/- The document's Drop; by-name template. -/
import Derived.Test.YtcmdelmgklidjaaWhRef
namespace Go.Proofs.Ytcmdelmgklidjaa
open Go.RowKit Go.Lib Go.Maps
set_option linter.unusedVariables false
set_option linter.unusedSimpArgs false

section
variable {w : World} {R : Nat → Prop} {Br : Nat} {A : Option Addr} {c : Nat} {L : List K2}
set_option maxRecDepth 100000 in
set_option maxHeartbeats 4000000 in
theorem rdrop_any (h : RAt w R Br L) (hu : UId L) {id : Int} :
    Calls Try.prog 16 #[.pointer (some ⟨Br, 0, none⟩), .int .i64 id] w fun e w' => e = .returned (.bool (hasP L id)) ∧ RPost w R Br (remP L id) w' := by
  have h0 := h
  obtain ⟨hl, A, c, hi⟩ := h
  obtain ⟨M, hM⟩ : ∃ M, M = fun (e : Ending) w' => e = .returned (.bool (hasP L id)) ∧ RPost w R Br (remP L id) w' := ⟨_, rfl⟩
  rw [← hM]
  have c0 := hi.c0
  obtain ⟨iu, hiu, hu0, hu1, hu2⟩ := info_parts one_info
  have NO : (∀ j x, j < L.length → L[j]? = some x → x.1 ≠ id) → M (.returned (.bool false)) w := fun hn => by
    have hm : ∀ x ∈ L, x.1 ≠ id := fun x hx => by
      obtain ⟨j, hj⟩ := List.getElem?_of_mem hx
      exact hn j x (List.getElem?_eq_some_iff.1 hj).1 hj
    rw [hM]
    exact ⟨by rw [has_false.2 hm], R, by rw [rem_id hm]; exact h0, OffS.refl _ _, fun k hk => .inr (.inl hk)⟩
  have YES : ∀ k x w3 v3, L[k]? = some x → x.1 = id → Below w.heap.size w w3 → w3.ownsRow w.heap.size 59 2 v3 (k + (L.length - (k + 1))) ((L.take k).flatMap k2c ++ (L.drop (k + 1)).flatMap k2c) → M (.returned (.bool true)) (w3.setCell ⟨Br, 0, none⟩ v3) ∧ w3.cell? ⟨Br, 0, none⟩ = some (.slice A L.length c) ∧ w3.frozen? ⟨Br, 0, none⟩ = false ∧ ∃ A3 n3 c3, v3 = .slice A3 n3 c3 := fun k x w3 v3 hk hx b3 hown => by
    have hkl := (List.getElem?_eq_some_iff.1 hk).1
    have hke := (List.getElem?_eq_some_iff.1 hk).2
    have er : remP L id = L.take k ++ L.drop (k + 1) := rem_cut hkl (by rw [hke]; exact hx) hu
    have hlen : (remP L id).length = k + (L.length - (k + 1)) := by rw [er, List.length_append, List.length_take, List.length_drop, Nat.min_eq_left (by omega)]
    rw [← List.flatMap_append, ← er, ← hlen] at hown
    obtain ⟨A3, c3, rfl, hp⟩ := hi.store (L' := remP L id) (by rw [hlen]; omega) (Nat.le_refl _) b3 hown
    refine ⟨?_, keepc b3 c0, free_of ((b3.block Br (hi.lt _ hi.rB)).trans hi.hm) 0, _, _, _, rfl⟩
    rw [hM]
    exact ⟨by rw [has_iff.2 ⟨x, List.mem_of_getElem? hk, hx⟩], hp⟩
  have HNO := Lib.hid NO
  have HYES := Lib.hid YES
  have HSL := Lib.hid hi.sl
  have hcap := hi.cap
  have hnil := Lib.hid hi.nil
  clear NO YES hM h0 hi hu
  generalize hnl : L.length = n at *
  have HN := Lib.hid hnl
  clear hnl
  go_enter Try.func16, Try.ntmps16
  go_wp2
  go_loopw [5] (fun v wr => ∃ k : Nat, v = .int .i64 (k : Int) ∧ k ≤ n ∧ Hid (∀ j x, j < k → L[j]? = some x → x.1 ≠ id) ∧ wr = w) (fun v _ => n - (intOf v).toNat)
  case atStart => exact ⟨0, rfl, Nat.zero_le _, Lib.hid (fun j x h => absurd h (Nat.not_lt_zero _)), rfl⟩
  case round =>
    obtain ⟨k, rfl, hk, HF, rfl⟩ := hrel
    by_cases hlt : k < n
    · have hkL : k < L.length := by rw [HN.out]; exact hlt
      obtain ⟨x, hx⟩ : ∃ x, L[k]? = some x := ⟨_, List.getElem?_eq_getElem hkL⟩
      obtain ⟨b, off, hA, hbl, hrow⟩ := HSL.out.row (by omega)
      have r0 := hrow k x hx 0 _ rfl
      simp only [Nat.add_zero] at r0
      have hltI : (k : Int) < (n : Int) := by omega
      have HX := Lib.hid hx
      clear hrow hx
      by_cases he : x.1 = id
      · have hown8 : (wr.alloc (.cells #[] 59)).ownsRow wr.heap.size 59 2 (.slice (some ⟨wr.heap.size, 0, none⟩) 0 0) 0 ([] : List Value) := World.ownsRow_made wr #[] 0 (Nat.le_refl _) (by unfold maxLen; omega) rfl
        have hz := (Below.refl wr.heap.size wr).alloc (Nat.le_refl _) (.cells #[] 59)
        have hbw8 : wr.heap.size ≤ (wr.alloc (.cells #[] 59)).heap.size := hz.size
        have hs8 : Sl (wr.alloc (.cells #[] 59)) 2 k2c A k (L.take k) := (HSL.out.cut (m := k) (by omega)).keep hz
        have hc8 := keepc hz c0
        have hb81 : (0 + k) * 16 ≤ 140737488355328 := by omega
        have h863 : 0 + k ≤ maxLen := by unfold maxLen; omega
        have HY := Lib.hid (fun w3 v3 => HYES.out k x w3 v3 HX.out he)
        have hAn : A = none → c = 0 := hnil.out
        have b1 : (k : Int) + 1 ≤ (n : Int) := by omega
        have b2 : k + 1 ≤ n := by omega
        have b4 : k ≤ c := by omega
        have b5 : (k : Int) ≤ (c : Int) := by omega
        have n2 : ((k : Int) + 1).toNat = k + 1 := by omega
        obtain ⟨w8, hw8⟩ : ∃ x, x = wr.alloc (.cells #[] 59) := ⟨_, rfl⟩
        subst hA
        go_upto_region 6 with fail
        rw [← hw8] at hown8 hz hbw8 hs8 hc8 ⊢
        obtain ⟨G, hG⟩ : ∃ G, G = wr.heap.size := ⟨_, rfl⟩
        rw [← hG] at hown8 hbw8 ⊢
        have HG := Lib.hid hG
        clear hw8 r0 hG
        have hs8 := Lib.hid hs8
        go_wp2_with (at_builtin; go_loud (refine app_sl rfl _ _ 32 rfl G 59 iu (.agg #[.int .i64 0, .int .i64 0]) 2 16 Try.underlying32 hiu hu0 hu1 hu2 rfl (by decide) _ 0 [] rfl hown8 k2c k2_len (some ⟨b, off, none⟩) k c (L.take k) hs8.out (fun h => by cases h) rfl k2_one h863 hb81 hbw8 ?_))
        intro v9 w9 hown9 hg9
        have hz9 : Below wr.heap.size wr w9 := hz.grown hg9 (by have := HG.out; omega) (fun q hq => by have := own_gt hown8 q hq; have := HG.out; omega)
        have hbw9 : G ≤ w9.heap.size := Nat.le_trans hbw8 hg9.size
        replace hown9 : w9.ownsRow G 59 2 v9 k ((L.take k).flatMap k2c) := by simpa using hown9
        have hc9 := keepc hz9 c0
        obtain ⟨A9, c9, hv9⟩ : ∃ A9 c9, v9 = .slice A9 k c9 := by
          obtain ⟨_, ⟨q1, q2⟩ | ⟨g, c, cur, hv, _⟩⟩ := hown9
          · subst q2; exact ⟨_, _, q1⟩
          · exact ⟨_, _, hv⟩
        subst hv9
        have DONE : ∀ v3 w3, w3.ownsRow G 59 2 v3 (k + (n - (k + 1))) ((L.take k).flatMap k2c ++ (L.drop (k + 1)).flatMap k2c) → w9.grownBy w3 (Value.slice A9 k c9).ownBlock → M (.returned (.bool true)) (w3.setCell ⟨Br, 0, none⟩ v3) ∧ w3.cell? ⟨Br, 0, none⟩ = some (.slice (some ⟨b, off, none⟩) n c) ∧ w3.frozen? ⟨Br, 0, none⟩ = false ∧ ∃ A3 n3 c3, v3 = .slice A3 n3 c3 := fun v3 w3 h3 g3 =>
          HY.out w3 v3 (hz9.grown g3 (by have := HG.out; omega) (fun q hq => by have := own_gt hown9 q hq; have := HG.out; omega)) (by rw [← HG.out]; exact h3)
        have HD := Lib.hid DONE
        have HS9 := Lib.hid ((HSL.out.keep hz9).dropG (i := k + 1) (by omega))
        clear DONE HY HYES HNO hown8 hg9 hs8 hc8 h863 hb81 hbw8 hz hz9 c0
        have h963 : k + (n - (k + 1)) ≤ maxLen := by unfold maxLen; omega
        have hb91 : (k + (n - (k + 1))) * 16 ≤ 140737488355328 := by omega
        by_cases hce : c = k + 1
        · have hn1 : n = k + 1 := by omega
          have hs9 := Lib.hid (Sl.none (w := w9) (enc := k2c) (k := 2) (some ⟨b, off, none⟩))
          have hdr : (L.drop (k + 1)) = [] := List.drop_eq_nil_of_le (by have := HN.out; omega)
          rw [hdr, hn1] at HD
          simp only [Nat.sub_self, Nat.add_zero, List.flatMap_nil, List.append_nil] at HD
          replace h963 : k + 0 ≤ maxLen := by unfold maxLen; omega
          replace hb91 : (k + 0) * 16 ≤ 140737488355328 := by omega
          subst hce
          subst hn1
          go_wp2_with (at_builtin; go_loud (refine app_sl rfl _ _ 32 rfl G 59 iu (.agg #[.int .i64 0, .int .i64 0]) 2 16 Try.underlying32 hiu hu0 hu1 hu2 rfl (by decide) _ k ((L.take k).flatMap k2c) rfl hown9 k2c k2_len (some ⟨b, off, none⟩) 0 0 [] hs9.out (fun h => by cases h) rfl k2_one h963 hb91 hbw9 ?_))
          intro v3 w3 h3 g3
          obtain ⟨k1, k2, k3, A3, n3, c3, rfl⟩ := HD.out v3 w3 (by simpa using h3) g3
          have HK := Lib.hid k1
          clear k1 h3 g3 HD
          go_wp2
          exact HK.out
        · have hs9 := Lib.hid (HS9.out)
          have hce' : ¬ c = k + 1 := hce
          go_wp2_with (at_builtin; go_loud (refine app_sl rfl _ _ 32 rfl G 59 iu (.agg #[.int .i64 0, .int .i64 0]) 2 16 Try.underlying32 hiu hu0 hu1 hu2 rfl (by decide) _ k ((L.take k).flatMap k2c) rfl hown9 k2c k2_len (some ⟨b, off + (k + 1) * 2, none⟩) (n - (k + 1)) (c - (k + 1)) (L.drop (k + 1)) hs9.out (fun h => by cases h) rfl k2_one h963 hb91 hbw9 ?_))
          intro v3 w3 h3 g3
          obtain ⟨k1, k2, k3, A3, n3, c3, rfl⟩ := HD.out v3 w3 h3 g3
          have HK := Lib.hid k1
          clear k1 h3 g3 HD
          go_wp2
          exact HK.out
      · have hne : ¬ x.1 = id := he
        have hF' : ∀ j y, j < k + 1 → L[j]? = some y → y.1 ≠ id := fun j y hj hy => by
          by_cases e : j = k
          · subst e; rw [HX.out] at hy; cases hy; exact he
          · exact HF.out j y (by omega) hy
        have HF' := Lib.hid hF'
        subst hA
        clear hF' HF HYES HNO
        go_wp2
        exact ⟨⟨k + 1, by simp, by omega, HF', trivial⟩, by simp [intOf]; omega⟩
    · have FIN := Lib.hid (HNO.out (fun j x hj hx => HF.out j x (by have := HN.out; omega) hx))
      have hltI : ¬ (k : Int) < (n : Int) := by omega
      clear HNO HYES
      go_wp2
      exact FIN.out
end
end Go.Proofs.Ytcmdelmgklidjaa
