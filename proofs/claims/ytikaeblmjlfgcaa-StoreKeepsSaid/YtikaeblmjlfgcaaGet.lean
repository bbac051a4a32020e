/- Get, Steps, Open; by-name template. -/
import Derived.Test.YtikaeblmjlfgcaaRoot
import Derived.Test.YtikaeblmjlfgcaaBuilder
import Derived.Stop.BytesEq
namespace Go.Proofs.Ytikaeblmjlfgcaa
open Go.RowKit
set_option linter.unusedVariables false

def Small (D : DS) : Prop := ∀ y, (sec D y).size ≤ 512
theorem wst_small {D : DS} (h : Small D) (i : Int) (s : ByteArray) : Small (wst D i s) := by
  have hsp : (spent D).S = D.S := by unfold spent; split <;> (try split) <;> (try split) <;> rfl
  intro y
  unfold wst
  split
  · exact h y
  · split
    · exact h y
    · split
      · show ((spent D).S.getD y ByteArray.empty).size ≤ 512
        rw [hsp]
        exact h y
      · show (((spent D).S.set i.toNat s).getD y ByteArray.empty).size ≤ 512
        rw [hsp, List.getD_eq_getElem?_getD, List.getElem?_set]
        split
        · split
          · simp; omega
          · simp
        · have := h y
          unfold sec at this
          rwa [List.getD_eq_getElem?_getD] at this
theorem Runs.small {D0 : DS} {R0 : RS} {ps0 : List Pc} {pre : List Nat} {D : DS} {R : RS} {ps : List Pc} (h : Runs D0 R0 ps0 pre D R ps) (hs : Small D0) : Small D := by
  induction h with
  | nil => exact hs
  | snoc _ _ ih => exact wst_small ih _ _
theorem out_small {D : DS} {L : List Pt} {e : Int} {D' : DS} (h : WOut D L e D') (hs : Small D) : Small D' := by
  rcases h with ⟨pre, D1, R, ps, _, _, hr, _, hD⟩ | ⟨pre, x, D1, R, q, ps, _, hr, _, _, hD⟩
  · rw [hD]; exact wst_small (hr.small hs) _ _
  · rw [hD]; exact wst_small (hr.small hs) _ _
theorem D0_S : D0.S = List.replicate 160 ByteArray.empty := rfl
theorem sec_new (y : Nat) : sec D0 y = ByteArray.empty := by
  unfold sec
  rw [D0_S, List.getD_eq_getElem?_getD, List.getElem?_replicate]
  split <;> rfl
theorem small_new : Small D0 := by
  intro y
  rw [sec_new]
  decide

/-! ### Parts of aggregates -/
theorem f_field {R : RS} (h : R.P.length = 64) (w : World) : (Instr.field 66 (.agg (rcells R)) 1).run Try.prog w = .ok (.agg (R.P.map (Value.int .u8)).toArray) w := by
  have e : (rcells R).extract 1 65 = (R.P.map (Value.int .u8)).toArray := by
    apply Array.toList_inj.1
    simp only [rcells, List.extract_toArray, List.extract_eq_take_drop, List.drop_succ_cons, List.drop_zero]
    exact List.take_of_length_le (by simp [h])
  have : asAgg (Value.agg (rcells R)) = (pure (rcells R) : Sem _) := rfl
  simp [Instr.field, run_underlying Try.underlying66, go_sem, this, e]
theorem f_steps (R : RS) (w : World) : (Instr.field 66 (.agg (rcells R)) 0).run Try.prog w = .ok (.int .u64 R.n) w := by
  have : asAgg (Value.agg (rcells R)) = (pure (rcells R) : Sem _) := rfl
  have e : (rcells R)[0]? = some (.int .u64 R.n) := by simp [rcells]
  simp [Instr.field, run_underlying Try.underlying66, go_sem, this, e]
theorem f_place {P : List Int} {i : Nat} (hi : i < 8) (w : World) : (Instr.index 64 (.agg (P.map (Value.int .u8)).toArray) (.int .i64 i)).run Try.prog w = .ok (.agg (((P.drop (i * 8)).take 8).map (Value.int .u8)).toArray) w := by
  simp [Instr.index, run_underlying Try.underlying64, go_sem]
  intro h
  omega
theorem f_byte {P : List Int} (h : P.length = 8) {i : Nat} (hi : i < 8) (w : World) : (Instr.index 62 (.agg (P.map (Value.int .u8)).toArray) (.int .i64 i)).run Try.prog w = .ok (.int .u8 (P.getD i 0)) w := by
  simp [Instr.index, run_underlying Try.underlying62, go_sem]
  rw [if_pos hi, List.getElem?_eq_getElem (by omega)]
  rfl
theorem f_eql {P Q : List Int} (hP : P.length = 8) (hQ : Q.length = 8) (bP : ∀ x ∈ P, 0 ≤ x ∧ x < 256) (bQ : ∀ x ∈ Q, 0 ≤ x ∧ x < 256) (w : World) :
    (binOp BinOp.eql 62 (.agg (P.map (Value.int .u8)).toArray) (.agg (Q.map (Value.int .u8)).toArray)).run Try.prog w = .ok (.bool (decide (P = Q))) w := by
  have key : ∀ X : List Int, (∀ x ∈ X, 0 ≤ x ∧ x < 256) → X.map (Value.int .u8) = (X.map fun x => UInt8.ofNat x.toNat).map Extern.Stop.cell := by
    intro X hX
    rw [List.map_map]
    apply List.map_congr_left
    intro x hx
    obtain ⟨a, b⟩ := hX x hx
    show Value.int .u8 x = Value.int .u8 ((UInt8.ofNat x.toNat).toNat : Int)
    congr 1
    simp
    omega
  have inj : ∀ X Y : List Int, (∀ x ∈ X, 0 ≤ x ∧ x < 256) → (∀ x ∈ Y, 0 ≤ x ∧ x < 256) → X.map (fun x => UInt8.ofNat x.toNat) = Y.map (fun x => UInt8.ofNat x.toNat) → X = Y := by
    intro X Y hX hY e
    have e2 := congrArg (List.map Extern.Stop.cell) e
    rw [← key X hX, ← key Y hY] at e2
    have e3 := congrArg (List.map fun v : Value => match v with | .int _ z => z | _ => 0) e2
    simpa [List.map_map, Function.comp_def] using e3
  rw [key P bP, key Q bQ, run_eql_bytes w 62 5 8 Try.underlying62 Try.underlying5 Try.size5 _ _ (by simpa using hP) (by simpa using hQ)]
  congr 2
  rw [Bool.eq_iff_iff]
  simp only [beq_iff_eq, decide_eq_true_eq]
  constructor
  · exact inj P Q bP bQ
  · rintro rfl; rfl
theorem place_eq {R : RS} (h : R.P.length = 64) {i : Nat} (hi : i < 8) : (R.P.drop (i * 8)).take 8 = place R i := by
  apply List.ext_getElem
  · simp [place, h]; omega
  · intro j h1 h2
    simp [place] at h2
    simp [place, List.getD_eq_getElem?_getD, List.getElem?_eq_getElem (show i * 8 + j < R.P.length by omega)]
theorem place_len (R : RS) (i : Nat) : (place R i).length = 8 := by simp [place]
theorem place_b {R : RS} (h : RSok R) (i : Nat) : ∀ x ∈ place R i, 0 ≤ x ∧ x < 256 := by
  intro x hx
  by_cases h0 : x = 0
  · omega
  · exact h.b x (place_mem hx h0)

theorem hasSlot_yes {i : Int} (h0 : 0 ≤ i) (h1 : i < 8) (w : World) : Calls Try.prog 24 #[.int .i64 i] w fun e w' => e = .returned (.bool true) ∧ w = w' := by
  go_enter Try.func24, Try.ntmps24
  go_wp2
  go_ret
  exact ⟨rfl, rfl⟩
theorem hasSlot_no {i : Int} (h : i < 0 ∨ 8 ≤ i) (w : World) : Calls Try.prog 24 #[.int .i64 i] w fun e w' => e = .returned (.bool false) ∧ w = w' := by
  rcases h with h | h
  · go_enter Try.func24, Try.ntmps24
    go_wp2
    go_ret
    exact ⟨rfl, rfl⟩
  · have h0 : 0 ≤ i := by omega
    go_enter Try.func24, Try.ntmps24
    go_wp2
    go_ret
    exact ⟨ret_bool (by simp; omega), rfl⟩

/-- A store: the disk that was handed in, and the one that it reads and writes. -/
def StoreAt (w : World) (S sh ow : Nat) : Prop := Blk w S #[.pointer (some ⟨sh, 0, none⟩), .pointer (some ⟨ow, 0, none⟩)] 58
theorem StoreAt.c0 {w : World} {S sh ow : Nat} (h : StoreAt w S sh ow) : w.cell? ⟨S, 0, none⟩ = some (.pointer (some ⟨sh, 0, none⟩)) := by rw [Blk.cell h]; rfl
theorem StoreAt.c1 {w : World} {S sh ow : Nat} (h : StoreAt w S sh ow) : w.cell? ⟨S, 1, none⟩ = some (.pointer (some ⟨ow, 0, none⟩)) := by rw [Blk.cell h]; rfl

theorem open_any (B : Nat) (w : World) : Calls Try.prog 10 #[.pointer (some ⟨B, 0, none⟩)] w fun e w' => e = .returned (.pointer (some ⟨w.heap.size, 0, none⟩)) ∧ StoreAt w' w.heap.size B B ∧ Below w.heap.size w w' ∧ w.heap.size < w'.heap.size := by
  go_enter Try.func10, Try.ntmps10
  go_wp2
  go_ret
  exact ⟨rfl, Blk.new _ _ _, (Below.refl _ _).alloc (Nat.le_refl _) _, by simp⟩

theorem steps_any {w : World} {S sh ow : Nat} {D : DS} (hS : StoreAt w S sh ow) (hD : DiskAt w sh D) {m : Int} (hm : Hid ((root D).n = m)) (h0 : 0 ≤ m) (h1 : m ≤ 9223372036854775807) : Calls Try.prog 23 #[.pointer (some ⟨S, 0, none⟩)] w fun e w' => e = .returned (.int .i64 m) ∧ Below w.heap.size w w' := by
  have c0 := hS.c0
  have hr := readRoot_any hD
  have hf := f_steps (root D)
  rw [hm.out] at hf
  generalize rcells (root D) = Z at *
  go_enter Try.func23, Try.ntmps23
  go_wp2_with (go_at_call 25; refine hr.mono ?_; rintro e w1 ⟨rfl, hb1⟩)
  go_ret
  exact ⟨rfl, hb1⟩
end Go.Proofs.Ytikaeblmjlfgcaa
