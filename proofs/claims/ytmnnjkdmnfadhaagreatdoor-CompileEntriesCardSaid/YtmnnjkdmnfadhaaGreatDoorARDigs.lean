/- The document's own digits; by-name template. -/
import Derived.Test.YtmnnjkdmnfadhaaGreatDoorAText
import Derived.Test.YtmnnjkdmnfadhaaGreatDoorProg
import Derived.Deep.QuietTactic
import Derived.BigQuiet
import Derived.IntWalk
import Derived.Test.YtmnnjkdmnfadhaaGreatDoorAStr
import Derived.Lib.SmallJoins
namespace Go.Proofs.YtmnnjkdmnfadhaaGreatDoor
open Go.RowKit
set_option linter.unusedVariables false
set_option linter.unusedSimpArgs false

def QuietRet (v : Value) (w : World) (e : Ending) (w' : World) : Prop := e = .returned v ∧ ∃ m, w' = w.drewN m

set_option maxHeartbeats 1000000 in
set_option maxRecDepth 100000 in
theorem rdig_lo (b : Nat) (n : Nat) (hn : n < b) (hb : b = 10 ∨ b = 16) (w : World) : Calls Tryz.prog 127 #[.int .i64 (n : Nat), .int .i64 (b : Nat)] w fun e w' => e = .returned (.string ⟨(digs b n).toArray⟩) ∧ ∃ m, w' = w.drewN m := by
  rw [digs_lo hn]
  have hbi : (b : Int) ≤ 16 := by omega
  have hni : (n : Int) < (b : Int) := by omega
  have h16 : n < 16 := by omega
  clear hb
  have hc : n = 0 ∨ n = 1 ∨ n = 2 ∨ n = 3 ∨ n = 4 ∨ n = 5 ∨ n = 6 ∨ n = 7 ∨ n = 8 ∨ n = 9 ∨ n = 10 ∨ n = 11 ∨ n = 12 ∨ n = 13 ∨ n = 14 ∨ n = 15 := by omega
  clear h16
  rcases hc with rfl | rfl | rfl | rfl | rfl | rfl | rfl | rfl | rfl | rfl | rfl | rfl | rfl | rfl | rfl | rfl <;> (
    clear hn
    go_enter Tryz.func127, Tryz.ntmps127
    go_wp2
    go_ret
    exact ⟨rfl, 0, rfl⟩)

set_option maxHeartbeats 1000000 in
set_option maxRecDepth 100000 in
theorem rdigs10 : ∀ n : Nat, n < 4294967296 → ∀ w, Calls Tryz.prog 127 #[.int .i64 (n : Nat), .int .i64 10] w fun e w' => e = .returned (.string ⟨(digs 10 n).toArray⟩) ∧ ∃ m, w' = w.drewN m := by
  intro n
  induction n using Nat.strongRecOn with
  | _ n ih =>
    intro hn w
    by_cases h : n < 10
    · exact rdig_lo 10 n h (.inl rfl) w
    · have c1 := ih (n / 10) (by omega) (by omega)
      have c2 := rdig_lo 10 (n % 10) (by omega) (.inl rfl)
      rw [digs_hi (by omega) (by omega)]
      have hl1 : (digs 10 (n / 10)).length ≤ 10 := Nat.le_trans (digs10_len 9 (by omega)) (by omega)
      obtain ⟨D1, hD1⟩ : ∃ D, D = digs 10 (n / 10) := ⟨_, rfl⟩
      rw [digs_lo (Nat.mod_lt n (by omega))] at c2
      rw [← hD1] at c1 hl1
      rw [← hD1]
      obtain ⟨q, hq⟩ : ∃ q, q = n / 10 := ⟨_, rfl⟩
      obtain ⟨r, hr⟩ : ∃ r, r = n % 10 := ⟨_, rfl⟩
      rw [← hq] at c1
      rw [← hr] at c2 ⊢
      obtain ⟨D2, hD2⟩ : ∃ D, D = [dig r] := ⟨_, rfl⟩
      have hl2 : D2.length = 1 := by rw [hD2]; rfl
      rw [← hD2] at c2 ⊢
      have hcat : ∀ W, (Op.stringOp .add ⟨D1.toArray⟩ ⟨D2.toArray⟩).run Tryz.prog W = .ok (.string ⟨(D1 ++ D2).toArray⟩) W := fun W => run_string_add_lists W D1 D2 (by omega) (by omega)
      have e0 : (n : Int) / 10 = (q : Int) := by omega
      have e1 : (n : Int) % 10 = (r : Int) := by omega
      have e2 : (n : Int).tdiv 10 = (q : Int) := by rw [Int.tdiv_eq_ediv_of_nonneg (by omega)]; exact e0
      have e3 : (n : Int).tmod 10 = (r : Int) := by rw [Int.tmod_eq_emod_of_nonneg (by omega)]; exact e1
      have e4 : IntKind.i64.wrap (q : Int) = (q : Int) := IntWalk.i64_in _ (by omega)
      have e5 : IntKind.i64.wrap (r : Int) = (r : Int) := IntWalk.i64_in _ (by omega)
      have hd : decide ((n : Int) < 10) = false := by simp; omega
      have hnb : (n : Int) < 4294967296 := by omega
      have hnl : (10 : Int) ≤ (n : Int) := by omega
      clear hD1 hD2 ih hq hr
      go_enter Tryz.func127, Tryz.ntmps127
      go_wp2
      go_quiet ((first
        | (go_at_call_of 127 (Value.int IntKind.i64 (q : Int)); exact Calls.quiet_of (c1 _))
        | (go_at_call_of 127 (Value.int IntKind.i64 (r : Int)); exact Calls.quiet_of (c2 _))))
      go_wp2
      go_ret
      exact ⟨by simp, nq, rfl⟩

set_option maxHeartbeats 1000000 in
set_option maxRecDepth 100000 in
theorem rdigs16 : ∀ n : Nat, n < 4294967296 → ∀ w, Calls Tryz.prog 127 #[.int .i64 (n : Nat), .int .i64 16] w fun e w' => e = .returned (.string ⟨(digs 16 n).toArray⟩) ∧ ∃ m, w' = w.drewN m := by
  intro n
  induction n using Nat.strongRecOn with
  | _ n ih =>
    intro hn w
    by_cases h : n < 16
    · exact rdig_lo 16 n h (.inr rfl) w
    · have c1 := ih (n / 16) (by omega) (by omega)
      have c2 := rdig_lo 16 (n % 16) (by omega) (.inr rfl)
      rw [digs_hi (by omega) (by omega)]
      have hl1 : (digs 16 (n / 16)).length ≤ 10 := Nat.le_trans (digs_len 7 (by omega)) (by omega)
      obtain ⟨D1, hD1⟩ : ∃ D, D = digs 16 (n / 16) := ⟨_, rfl⟩
      rw [digs_lo (Nat.mod_lt n (by omega))] at c2
      rw [← hD1] at c1 hl1
      rw [← hD1]
      obtain ⟨q, hq⟩ : ∃ q, q = n / 16 := ⟨_, rfl⟩
      obtain ⟨r, hr⟩ : ∃ r, r = n % 16 := ⟨_, rfl⟩
      rw [← hq] at c1
      rw [← hr] at c2 ⊢
      obtain ⟨D2, hD2⟩ : ∃ D, D = [dig r] := ⟨_, rfl⟩
      have hl2 : D2.length = 1 := by rw [hD2]; rfl
      rw [← hD2] at c2 ⊢
      have hcat : ∀ W, (Op.stringOp .add ⟨D1.toArray⟩ ⟨D2.toArray⟩).run Tryz.prog W = .ok (.string ⟨(D1 ++ D2).toArray⟩) W := fun W => run_string_add_lists W D1 D2 (by omega) (by omega)
      have e0 : (n : Int) / 16 = (q : Int) := by omega
      have e1 : (n : Int) % 16 = (r : Int) := by omega
      have e2 : (n : Int).tdiv 16 = (q : Int) := by rw [Int.tdiv_eq_ediv_of_nonneg (by omega)]; exact e0
      have e3 : (n : Int).tmod 16 = (r : Int) := by rw [Int.tmod_eq_emod_of_nonneg (by omega)]; exact e1
      have e4 : IntKind.i64.wrap (q : Int) = (q : Int) := IntWalk.i64_in _ (by omega)
      have e5 : IntKind.i64.wrap (r : Int) = (r : Int) := IntWalk.i64_in _ (by omega)
      have hd : decide ((n : Int) < 16) = false := by simp; omega
      have hnb : (n : Int) < 4294967296 := by omega
      have hnl : (16 : Int) ≤ (n : Int) := by omega
      clear hD1 hD2 ih hq hr
      go_enter Tryz.func127, Tryz.ntmps127
      go_wp2
      go_quiet ((first
        | (go_at_call_of 127 (Value.int IntKind.i64 (q : Int)); exact Calls.quiet_of (c1 _))
        | (go_at_call_of 127 (Value.int IntKind.i64 (r : Int)); exact Calls.quiet_of (c2 _))))
      go_wp2
      go_ret
      exact ⟨by simp, nq, rfl⟩

end Go.Proofs.YtmnnjkdmnfadhaaGreatDoor
