/- free, and its iterator; by-name template. -/
import Derived.Test.YtikaeblmjlfgcaaFence
namespace Go.Proofs.Ytikaeblmjlfgcaa
open Go.RowKit
set_option linter.unusedVariables false
attribute [local go_sem] Oper.semAt_some

abbrev A160 := { x : Nat // x < 160 }

theorem free_any {R : RS} (w : World) : Calls Try.prog 30 #[.agg (rcells R)] w fun e w' => e = .returned (.func (.func 35) #[] #[.pointer (some ⟨w.heap.size, 0, none⟩)]) ∧ w' = w.alloc (.cells (rcells R) 66) := by
  generalize rcells R = Z
  go_enter Try.func30, Try.ntmps30
  go_wp2
  go_ret
  exact ⟨rfl, rfl⟩

def isFree (P : List Int) (x : Nat) : Bool := !(x == 0) && !(P.contains (x : Int))
theorem frees_eq (R : RS) : frees R = (List.range 160).filter (isFree R.P) := rfl
theorem filt_succ (P : List Int) (k : Nat) : (List.range (k + 1)).filter (isFree P) = (List.range k).filter (isFree P) ++ (if isFree P k then [k] else []) := by
  rw [List.range_succ, List.filter_append]
  simp [List.filter_cons]
theorem filt_prefix (R : RS) {k : Nat} (h : k ≤ 160) : (List.range k).filter (isFree R.P) <+: frees R := by
  obtain ⟨m, hm⟩ := Nat.exists_eq_add_of_le h
  rw [frees_eq, hm, List.range_add, List.filter_append]
  exact List.prefix_append _ _

set_option maxRecDepth 100000 in
set_option maxHeartbeats 4000000 in
theorem free1_in (F : Fence) (n : Nat) (h35 : F.fn 35) (hro : F.round = none) (hn : 1 ≤ n) (l Rb : Nat) {R : RS} (hR : RSok R) (p : Nat → Prop) (J Jx : List A160 → World → Prop)
    (W : World) (hJ : AbidesFrom W.heap.size J)
    (hY : ∀ pre x W1, J pre W1 → pre.length < 160 → YieldAt F (n - 1) Try.prog l #[.int .i64 (x.1 : Int)] W1 fun e W' =>
      (e = .returned (.bool true) ∧ J (pre ++ [x]) W' ∧ KeepB p W1 W') ∨ (e = .returned (.bool false) ∧ Jx (pre ++ [x]) W'))
    (hRb : Blk W Rb (rcells R) 66) (hp : ¬ p Rb) (hpl : ∀ b, p b → b < W.heap.size) (h0 : J [] W) :
    CallsIn F n Try.prog 35 #[.func (.yield l) #[] #[], .pointer (some ⟨Rb, 0, none⟩)] W fun e W' => (∃ v, e = .returned v) ∧
      ((∃ xs : List A160, xs.map (·.1) = frees R ∧ J xs W') ∨ (∃ pre : List A160, pre.map (·.1) <+: frees R ∧ Jx pre W')) := by
  have hlen := hR.len
  have hb := hR.b
  have hzu := zero_used
  have hzp := zero_place
  have hlt := hRb.lt
  have hra : W.rangeAt Rb 1 (R.P.map (Value.int .u8)) := by
    intro j v hj
    rw [hRb.cell]
    simp [rcells, Nat.add_comm 1 j]
    simpa using hj
  have hpi : (Try.prog.info? 64).map (·.size) = some (R.P.map (Value.int .u8)).length := by rw [List.length_map, hlen]; kernel_rfl
  have HPL : Hid (∀ i : Nat, i < 8 → ∀ w, (Instr.index 64 (.agg (R.P.map (Value.int .u8)).toArray) (.int .i64 i)).run Try.prog w = .ok (.agg (((R.P.drop (i * 8)).take 8).map (Value.int .u8)).toArray) w) := Lib.hid fun i hi w => f_place hi w
  refine callsIn_of_wp Try.func35 rfl h35 ?_ hro
  simp only [Try.ntmps35, List.size_toArray, List.length_cons, List.length_nil, Nat.reduceAdd, Nat.reduceSub, Array.replicate_succ, Array.replicate_zero, List.push_toArray, List.append_toArray, List.nil_append, List.cons_append]
  have hz0 : (ucells fun _ => false)[0]? = some (.bool false) := ucells_get _ (by omega)
  have HUS := Lib.hid (ucells_set (fun _ => false) 0 true)
  generalize hU : ucells (fun _ => false) = ZU at *
  clear hU
  gi_wp2_with (refine wpListIn_load_mid rfl 64 (.tmp 10) rfl Rb 1 rfl (R.P.map (Value.int .u8)) _ ?hra2 Try.underlying64 rfl hpi ?_)
  case hra2 => exact World.rangeAt_alloc hra _
  have hu0 : Blk (W.alloc (.cells (ZU.setIfInBounds 0 (.bool true)) 89)) W.heap.size (ucells fun i => if i = 0 then true else false) 89 := by
    rw [← HUS.out]
    exact Blk.new _ _ _
  have hB0 : Below W.heap.size W (W.alloc (.cells (ZU.setIfInBounds 0 (.bool true)) 89)) := (Below.refl _ _).alloc (Nat.le_refl _) _
  generalize W.alloc (.cells (ZU.setIfInBounds 0 (.bool true)) 89) = W1 at *
  generalize (R.P.map (Value.int .u8)).toArray = PL at *
  have HZA : Hid (((List.replicate 8 (0 : Int)).map (Value.int .u8)).toArray.size = 8) := Lib.hid rfl
  generalize ((List.replicate 8 (0 : Int)).map (Value.int .u8)).toArray = ZA at *
  clear hzu hz0 hra hpi
  gi_loopw [12] (fun c wr => ∃ (k : Nat) (f : Nat → Bool), k ≤ 8 ∧ c = .int .i64 (k : Int) ∧ Hid (∀ x : Nat, x < 256 → (f x = true ↔ x = 0 ∨ (x : Int) ∈ R.P.take (k * 8))) ∧ Blk wr W.heap.size (ucells f) 89 ∧ Below W.heap.size W wr) (fun c _ => 8 - (intOf c).toNat)
  case atStart => exact ⟨0, _, by omega, rfl, Lib.hid (by intro x _; simp), hu0, hB0⟩
  case round =>
    clear hu0 hB0
    obtain ⟨k, f, hk, rfl, HF, hu, hB⟩ := hrel
    have hBs := hB.size
    by_cases hlt8 : k < 8
    · have hix := HPL.out k hlt8
      have hn8 : ((R.P.drop (k * 8)).take 8).length = 8 := by simp [hlen]; omega
      have hone := bytes_one ((R.P.drop (k * 8)).take 8)
      have HPB : Hid (∀ x ∈ (R.P.drop (k * 8)).take 8, 0 ≤ x ∧ x < 256) := Lib.hid fun x hx => hb x (List.mem_of_mem_drop (List.mem_of_mem_take hx))
      have HTK : Hid (R.P.take ((k + 1) * 8) = R.P.take (k * 8) ++ (R.P.drop (k * 8)).take 8) := Lib.hid (by rw [Nat.add_mul, Nat.one_mul, List.take_add])
      generalize (R.P.drop (k * 8)).take 8 = pl at *
      have HIX : Hid (∀ j : Nat, j < 8 → ∀ w, (Instr.index 62 (.agg (pl.map (Value.int .u8)).toArray) (.int .i64 j)).run Try.prog w = .ok (.int .u8 (pl.getD j 0)) w) := Lib.hid fun j hj w => f_byte hn8 hj w
      have hps : (Try.prog.info? 62).map (·.size) = some (pl.map (Value.int .u8)).toArray.size := by simp only [List.size_toArray, List.length_map, hn8]; exact place_info
      have hzs : ZA.size = (pl.map (Value.int .u8)).toArray.size := by simp only [List.size_toArray, List.length_map, hn8]; exact HZA.out
      generalize (pl.map (Value.int .u8)).toArray = PA at *
      have HN8 := Lib.hid hn8
      clear hn8
      obtain ⟨wo, hwo⟩ : ∃ wo, wo = wr := ⟨_, rfl⟩
      rw [← hwo] at hu hB hBs ⊢
      clear hwo
      have k0 : (0 : Int) ≤ (k : Int) := by omega
      have k1 : (k : Int) < 8 := by omega
      gi_wp2_with (first
        | (refine wpListIn_store_row rfl 62 (.tmp 5) (.tmp 14) rfl wo.heap.size PA rfl rfl 62 ZA (heap_alloc_new wo _) hps hzs hone ?_; rw [World.setRow_alloc_new])
        | (refine wpListIn_load_row rfl 62 (.tmp 5) rfl wo.heap.size rfl 62 PA (0, 0) _ (heap_alloc_new wo _) Try.underlying62 rfl hps ?_))
      have hu1 := hu.alloc (.cells PA 62)
      have hB1 := hB.alloc hB.size (.cells PA 62)
      generalize wo.alloc (.cells PA 62) = w1 at *
      clear hu hB hix hone hps hzs
      gi_loopw [16, 7] (fun c _ wr => ∃ (j : Nat) (f : Nat → Bool), j ≤ 8 ∧ c = .int .i64 (j : Int) ∧ Hid (∀ x : Nat, x < 256 → (f x = true ↔ x = 0 ∨ (x : Int) ∈ R.P.take (k * 8) ++ pl.take j)) ∧ Blk wr W.heap.size (ucells f) 89 ∧ Below W.heap.size W wr) (fun c _ _ => 8 - (intOf c).toNat)
      case atStart => exact ⟨0, f, by omega, rfl, by simpa using HF, hu1, hB1⟩
      case round =>
        clear hu1 hB1
        obtain ⟨j, f, hj, rfl, HF, hu, hB⟩ := hrel
        have hBs2 := hB.size
        have hul := hu.lt
        by_cases hj8 : j < 8
        · have hxx := HIX.out j hj8
          have hgm : pl[j]? = some (pl.getD j 0) := by
            rw [List.getD_eq_getElem?_getD, List.getElem?_eq_getElem (by rw [HN8.out]; exact hj8)]
            rfl
          obtain ⟨x0, x1⟩ := HPB.out _ (List.mem_of_getElem? hgm)
          obtain ⟨x, hx⟩ := Int.eq_ofNat_of_zero_le x0
          rw [hx] at hxx x1
          have HT2 : Hid (pl.take (j + 1) = pl.take j ++ [(x : Int)]) := Lib.hid (by rw [take_succ_of hgm, hx])
          have hx256 : x < 256 := by omega
          have xx0 : (0 : Int) ≤ (x : Int) := by omega
          have gc := (hu.cell x).trans (ucells_get f hx256)
          have gf := hu.free x
          have hu2 := hu.set x (.bool true)
          rw [ucells_set] at hu2
          have hB2 := hB.setCell (p := ⟨W.heap.size, x, none⟩) (Nat.le_refl _) (.bool true)
          have HF2 : Hid (∀ y : Nat, y < 256 → ((fun i => if i = x then true else f i) y = true ↔ y = 0 ∨ (y : Int) ∈ R.P.take (k * 8) ++ pl.take (j + 1))) := Lib.hid fun y hy => by
            rw [HT2.out]
            have h1 := HF.out y hy
            by_cases e : y = x
            · subst e
              simp
            · have e2 : ¬ ((y : Int) = (x : Int)) := by omega
              simp only [if_neg e]
              rw [h1]
              simp [e2]
              try grind
          clear hx hgm x0 hu hB
          gi_wp2
          go_roundw
          case rel => exact ⟨j + 1, _, by omega, by go_num, HF2, hu2, hB2⟩
          case measure => simp [intOf]; omega
        · obtain rfl : j = 8 := by omega
          have HF2 : Hid (∀ x : Nat, x < 256 → (f x = true ↔ x = 0 ∨ (x : Int) ∈ R.P.take ((k + 1) * 8))) := Lib.hid (by
            have h1 := HF.out
            rw [show pl.take 8 = pl from List.take_of_length_le (by rw [HN8.out]; omega), ← HTK.out] at h1
            exact h1)
          gi_wp2
          go_roundw
          case rel => exact ⟨k + 1, _, by omega, by go_num, HF2, hu, hB⟩
          case measure => simp [intOf]; omega
    · obtain rfl : k = 8 := by omega
      have HF2 : Hid (∀ x : Nat, x < 160 → f x = !isFree R.P x) := Lib.hid fun x hx => by
        have h1 := HF.out x (by omega)
        rw [List.take_of_length_le (by omega)] at h1
        unfold isFree
        rw [Bool.eq_iff_iff, h1]
        by_cases e : x = 0 <;> simp [e]
      have hJ1 : J [] wr := hJ [] W wr none h0 ⟨hB.os, hB.tape, hB.output, hB.size, fun k hk _ => hB.block k hk⟩ (fun r h => by cases h)
      have hupl : ¬ p W.heap.size := fun h => by have := hpl _ h; omega
      obtain ⟨w1, hw1⟩ : ∃ w1, w1 = wr := ⟨_, rfl⟩
      rw [← hw1] at hu hJ1 ⊢
      clear hw1 hB hBs HF HPL
      rw [show (((8 : Nat) : Int)) = 8 from rfl]
      gi_wp2_with fail
      gi_loopw [23, 8] (fun c _ wr => ∃ (k : Nat) (pre : List A160), k ≤ 160 ∧ c = .int .i64 (k : Int) ∧ Hid (pre.map (·.1) = (List.range k).filter (isFree R.P)) ∧ Blk wr W.heap.size (ucells f) 89 ∧ J pre wr) (fun c _ _ => 160 - (intOf c).toNat)
      case atStart => exact ⟨0, [], by omega, rfl, Lib.hid rfl, hu, hJ1⟩
      case round =>
        clear hu hJ1
        obtain ⟨k, pre, hk, rfl, HP, hu, hJp⟩ := hrel
        by_cases hk160 : k < 160
        · have gc := (hu.cell k).trans (ucells_get f (by omega))
          have k0 : (0 : Int) ≤ (k : Int) := by omega
          have k1 : (k : Int) < 160 := by omega
          have hfk := HF2.out k hk160
          have HS := Lib.hid (filt_succ R.P k)
          cases hfr : isFree R.P k
          · have HP2 : Hid (pre.map (·.1) = (List.range (k + 1)).filter (isFree R.P)) := Lib.hid (by rw [HS.out, hfr, HP.out]; simp)
            rw [hfr] at hfk
            have hft : f k = true := by rw [hfk]; rfl
            rw [hft] at gc
            clear hfk hfr hft
            gi_wp2_with fail
            refine ⟨fun _ h => (by cases h), ?_⟩
            gi_wp2
            go_roundw
            case rel => exact ⟨k + 1, pre, by omega, by go_num, HP2, hu, hJp⟩
            case measure => simp [intOf]; omega
          · have HP2 : Hid ((pre ++ [(⟨k, hk160⟩ : A160)]).map (·.1) = (List.range (k + 1)).filter (isFree R.P)) := Lib.hid (by rw [HS.out, hfr, List.map_append, HP.out]; simp)
            rw [hfr] at hfk
            have hft : f k = false := by rw [hfk]; rfl
            rw [hft] at gc
            have hpl160 : pre.length < 160 := by
              have h1 := congrArg List.length HP2.out
              have h2 := List.length_filter_le (isFree R.P) (List.range (k + 1))
              simp at h1 h2
              omega
            clear hfk hfr hft
            obtain ⟨fn, tmps, assign, body, hy, hR⟩ := hY pre ⟨k, hk160⟩ wr hJp hpl160
            dsimp only at hy
            gi_wp2
            refine hR.mono ?_
            rintro e W3 (⟨rfl, hJ3, hk3⟩ | ⟨rfl, hJx3⟩)
            · have hu3 := hk3.same _ _ _ hupl hu
              gi_wp2
              go_roundw
              case rel => exact ⟨k + 1, _, by omega, by go_num, HP2, hu3, hJ3⟩
              case measure => simp [intOf]; omega
            · gi_wp2
              refine bodyPost_ret (results_none rfl _ _ _) rfl ?_
              exact ⟨⟨_, rfl⟩, .inr ⟨_, by rw [HP2.out]; exact filt_prefix R (by omega), hJx3⟩⟩
        · obtain rfl : k = 160 := by omega
          rw [show (((160 : Nat) : Int)) = 160 from rfl]
          gi_wp2
          go_end0
          exact ⟨⟨_, rfl⟩, .inl ⟨pre, HP.out, hJp⟩⟩

theorem free_stops (F : Fence) (n : Nat) (h35 : F.fn 35) (hro : F.round = none) (hn : 1 ≤ n) (Rb : Nat) {R : RS} (hR : RSok R) (p : Nat → Prop) (w : World)
    (hRb : Blk w Rb (rcells R) 66) (hp : ¬ p Rb) (hpl : ∀ b, p b → b < w.heap.size) :
    SeqStopsK F n Try.prog 35 #[.pointer (some ⟨Rb, 0, none⟩)] (fun x : A160 => #[Value.int .i64 (x.1 : Int)]) (KeepB p) (fun xs => xs.map (·.1) = frees R) (fun pre => pre.map (·.1) <+: frees R) 160 w :=
  fun l J Jx W hW hJ _ hY h0 => free1_in F n h35 hro hn l Rb hR p J Jx W hJ hY (hRb.below hW hRb.lt) hp (fun b hb => Nat.lt_of_lt_of_le (hpl b hb) hW.size) h0
end Go.Proofs.Ytikaeblmjlfgcaa
