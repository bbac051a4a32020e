/- root.text; by-name template. -/
import Derived.Test.YtikaeblmjlfgcaaRoot
import Derived.Test.YtikaeblmjlfgcaaBuilder
import Derived.Test.YtikaeblmjlfgcaaGetTwo
import Derived.Maps.AppendAt
import Derived.Laws.IdiomStrings
namespace Go.Proofs.Ytikaeblmjlfgcaa
open Go.RowKit
set_option linter.unusedVariables false

theorem encN_succ (n k : Nat) : encN n (k + 1) = encN n k ++ [UInt8.ofNat (n >>> (8 * k))] := by simp [encN, List.range_succ]

set_option maxHeartbeats 2000000 in
set_option maxRecDepth 100000 in
theorem text_any {R : RS} (hR : RSok R) (w : World) : Calls Try.prog 32 #[.agg (rcells R)] w fun e w' => e = .returned (.string (textOf R)) ∧ Below w.heap.size w w' := by
  obtain ⟨i0, hi, hz0, hz1, hz2⟩ := info_parts byte_info
  have hlen := hR.len
  have hb := hR.b
  have n0 := hR.n0
  obtain ⟨n, hn⟩ := Int.eq_ofNat_of_zero_le n0
  have hc0 : (rcells R)[0]? = some (.int .u64 (n : Int)) := by rw [← hn]; simp [rcells]
  have n1 : (n : Int) < 18446744073709551616 := by rw [← hn]; exact hR.n1
  have HN1 := Lib.hid n1
  have HN := Lib.hid hn
  clear hn n0 n1
  obtain ⟨C, hC⟩ : ∃ C, C = rcells R := ⟨_, rfl⟩
  rw [← hC] at hc0 ⊢
  have HC := Lib.hid hC
  clear hC
  have hmk : ∀ w, (Instr.makeSlice 69 (.int .i64 0) (.int .i64 72)).run Try.prog w = .ok (.slice (some ⟨w.heap.size, 0, none⟩) 0 72) (w.alloc (.cells (Array.replicate 72 (.int .u8 0)) 5)) := fun _ => by kernel_rfl
  have HZ : Hid ((Array.replicate 72 (Value.int .u8 0)).size = 72) := Lib.hid (by simp)
  generalize Array.replicate 72 (Value.int .u8 0) = Z at *
  go_enter Try.func32, Try.ntmps32
  go_wp2_with fail
  have hK : Blk ((w.alloc (.cells C 66)).alloc (.cells Z 5)) w.heap.size C 66 := (Blk.new _ _ _).alloc _
  have hown0 : ((w.alloc (.cells C 66)).alloc (.cells Z 5)).ownsRow (w.heap.size + 1) 5 1 (.slice (some ⟨w.heap.size + 1, 0, none⟩) 0 72) 0 [] := by
    have := World.ownsRow_made (e := 5) (size := 1) (base := w.heap.size + 1) (w.alloc (.cells C 66)) Z 72 (by simp) (by unfold maxLen; omega) (by rw [HZ.out])
    simpa using this
  have hbel : Below w.heap.size w ((w.alloc (.cells C 66)).alloc (.cells Z 5)) := ((Below.refl _ _).alloc (Nat.le_refl _) _).alloc (by simp) _
  generalize (w.alloc (.cells C 66)).alloc (.cells Z 5) = w2 at *
  have hltK := hK.lt
  go_loopw [3, 8, 4] (fun v c _ wr => ∃ k : Nat, k ≤ 8 ∧ c = .int .i64 (k : Int) ∧ wr.ownsRow (w.heap.size + 1) 5 1 v k (Lib.byteCells (encN n k)) ∧ Below (w.heap.size + 1) w2 wr) (fun _ c _ _ => 8 - (intOf c).toNat)
  case atStart => exact ⟨0, by omega, rfl, hown0, Below.refl _ _⟩
  case round =>
    obtain ⟨k, hk, rfl, hown, hB⟩ := hrel
    have hBs := hB.size
    have hK1 := hK.below hB (by omega)
    have v0 := (hK1.cell 0).trans hc0
    by_cases hlt : k < 8
    · have k0 : (0 : Int) ≤ (k : Int) := by omega
      have k1 : (k : Int) < 8 := by omega
      have i3 : IntKind.i64.wrap (8 * (k : Int)) = 8 * (k : Int) := IntWalk.i64_in _ (by omega)
      have HA : Hid (Lib.byteCells (encN n k) ++ [Value.int .u8 ((n : Int) / 2 ^ (8 * k) % 256)] = Lib.byteCells (encN n (k + 1))) := Lib.hid (by
        rw [encN_succ]
        simp [Lib.byteCells, Nat.shiftRight_eq_div_pow])
      go_wp2_with (at_builtin; refine wpList_append_own _ rfl _ _ 69 rfl (w.heap.size + 1) 5 i0 (.int .u8 0) 1 1 Try.underlying69 hi hz0 hz1 hz2 rfl (by decide) _ _ _ rfl (hown.alloc _) ⟨wr.heap.size, 0, none⟩ 1 1 [Value.int .u8 ((n : Int) / 2 ^ (8 * k) % 256)] rfl rfl ?c1 ?c2 ?c3 ?c4 ?c5 ?_)
      case c1 =>
        have hn := Blk.new wr #[Value.int .u8 ((n : Int) / 2 ^ (8 * k) % 256)] 5
        intro j u hj
        have e : (⟨wr.heap.size, 0, none⟩ : Addr).add j = ⟨wr.heap.size, j, none⟩ := by unfold Addr.add; split <;> simp_all
        rw [e, hn.cell j]
        simpa using hj
      case c2 => intro u hu; simp at hu; subst hu; rfl
      case c3 => unfold maxLen; omega
      case c4 => omega
      case c5 => simp; omega
      intro v' w3 hown' hgrow _
      rw [HA.out] at hown'
      have hB2 := (hB.alloc (by omega) (.cells #[Value.int .u8 ((n : Int) / 2 ^ (8 * k) % 256)] 5)).grown hgrow (by simp; omega) (fun k hk => (hown.lt k hk).1)
      clear hown hB v0 hgrow HA hK1
      go_wp2
      go_roundw
      case rel => exact ⟨k + 1, by omega, by go_num, hown', hB2⟩
      case measure => simp [intOf]; omega
    · obtain rfl : k = 8 := by omega
      obtain ⟨wl, hwl⟩ : ∃ wl, wl = wr := ⟨_, rfl⟩
      rw [← hwl] at hB hBs hK1 hown ⊢
      clear hwl v0
      rw [show (((8 : Nat) : Int)) = 8 from rfl]
      have hra : wl.rangeAt w.heap.size 1 (R.P.map (Value.int .u8)) := by
        intro j v hj
        rw [hK1.cell, HC.out]
        simp [rcells, Nat.add_comm 1 j]
        simpa using hj
      have hpi : (Try.prog.info? 64).map (·.size) = some (R.P.map (Value.int .u8)).length := by rw [List.length_map, hlen]; kernel_rfl
      go_wp2_with (refine wpList_load_mid rfl 64 (.tmp 21) rfl w.heap.size 1 rfl (R.P.map (Value.int .u8)) _ hra Try.underlying64 rfl hpi ?_)
      have HPL : Hid (∀ i : Nat, i < 8 → ∀ w, (Instr.index 64 (.agg (R.P.map (Value.int .u8)).toArray) (.int .i64 i)).run Try.prog w = .ok (.agg (((R.P.drop (i * 8)).take 8).map (Value.int .u8)).toArray) w) := Lib.hid fun i hi w => f_place hi w
      generalize (R.P.map (Value.int .u8)).toArray = PL at *
      clear hra hpi
      have hzp := zero_place
      have HZA : Hid (((List.replicate 8 (0 : Int)).map (Value.int .u8)).toArray.size = 8) := Lib.hid rfl
      generalize ((List.replicate 8 (0 : Int)).map (Value.int .u8)).toArray = ZA at *
      obtain ⟨UL, hUL⟩ : ∃ UL, UL = R.P.map fun x => UInt8.ofNat x.toNat := ⟨_, rfl⟩
      have HUL := Lib.hid hUL
      clear hUL
      go_loopw [3, 23] (fun v c wr => ∃ k : Nat, k ≤ 8 ∧ c = .int .i64 (k : Int) ∧ wr.ownsRow (w.heap.size + 1) 5 1 v (8 + 8 * k) (Lib.byteCells (encN n 8 ++ UL.take (8 * k))) ∧ Below (w.heap.size + 1) w2 wr) (fun _ c _ => 8 - (intOf c).toNat)
      case atStart => exact ⟨0, by omega, rfl, by simpa using hown, hB⟩
      case round =>
        clear hB hBs hK1 hown
        obtain ⟨k, hk, rfl, hown, hB⟩ := hrel
        have hBs := hB.size
        by_cases hlt : k < 8
        · have hix := HPL.out k hlt
          have hn8 : ((R.P.drop (k * 8)).take 8).length = 8 := by simp [hlen]; omega
          have hone := bytes_one ((R.P.drop (k * 8)).take 8)
          have HA : Hid (Lib.byteCells (encN n 8 ++ UL.take (8 * k)) ++ ((R.P.drop (k * 8)).take 8).map (Value.int .u8) = Lib.byteCells (encN n 8 ++ UL.take (8 * (k + 1)))) := Lib.hid (by
            rw [HUL.out]
            have e : ((R.P.drop (k * 8)).take 8).map (Value.int .u8) = Lib.byteCells (((R.P.drop (k * 8)).take 8).map fun x => UInt8.ofNat x.toNat) := by
              unfold Lib.byteCells
              rw [List.map_map]
              apply List.map_congr_left
              intro x hx
              obtain ⟨a, b⟩ := hb x (List.mem_of_mem_drop (List.mem_of_mem_take hx))
              show Value.int .u8 x = Value.int .u8 ((UInt8.ofNat x.toNat).toNat : Int)
              congr 1
              simp
              omega
            rw [e, Nat.mul_add, List.take_add, Nat.mul_comm k 8]
            simp [Lib.byteCells, List.map_take, List.map_drop])
          have HPN : Hid (((R.P.drop (k * 8)).take 8).length = 8) := Lib.hid hn8
          generalize (R.P.drop (k * 8)).take 8 = pl at *
          have hps : (Try.prog.info? 62).map (·.size) = some (pl.map (Value.int .u8)).toArray.size := by simp only [List.size_toArray, List.length_map, hn8]; exact place_info
          have hzs : ZA.size = (pl.map (Value.int .u8)).toArray.size := by simp only [List.size_toArray, List.length_map, hn8]; exact HZA.out
          obtain ⟨PA, hPA⟩ : ∃ PA, PA = (pl.map (Value.int .u8)).toArray := ⟨_, rfl⟩
          rw [← hPA] at hix hone hps hzs
          have HPA := Lib.hid hPA
          clear hn8 hPA
          have k0 : (0 : Int) ≤ (k : Int) := by omega
          have k1 : (k : Int) < 8 := by omega
          go_wp2_with (first
            | (refine wpList_store_row rfl 62 (.tmp 6) (.tmp 25) rfl wr.heap.size PA rfl rfl 62 ZA (heap_alloc_new wr _) hps hzs hone ?_; rw [World.setRow_alloc_new])
            | (at_builtin; refine wpList_append_own _ rfl _ _ 69 rfl (w.heap.size + 1) 5 i0 (.int .u8 0) 1 1 Try.underlying69 hi hz0 hz1 hz2 rfl (by decide) _ _ _ rfl (hown.alloc _) ⟨wr.heap.size, 0, none⟩ 8 8 (pl.map (Value.int .u8)) rfl (by rw [List.length_map, HPN.out]) ?c1 ?c2 ?c3 ?c4 ?c5 ?_))
          case c1 =>
            have hn := Blk.new wr PA 62
            intro j u hj
            have e : (⟨wr.heap.size, 0, none⟩ : Addr).add j = ⟨wr.heap.size, j, none⟩ := by unfold Addr.add; split <;> simp_all
            rw [e, hn.cell j, HPA.out]
            simpa using hj
          case c2 => intro u hu; simp at hu; obtain ⟨x, _, rfl⟩ := hu; rfl
          case c3 => unfold maxLen; omega
          case c4 => omega
          case c5 => simp; omega
          intro v' w3 hown' hgrow _
          rw [HA.out, show 8 + 8 * k + 8 = 8 + 8 * (k + 1) by omega] at hown'
          have hB2 := (hB.alloc (by omega) (.cells PA 62)).grown hgrow (by simp; omega) (fun k hk => (hown.lt k hk).1)
          clear hown hB hgrow HA hix hps hzs hone
          go_wp2
          go_roundw
          case rel => exact ⟨k + 1, by omega, by go_num, hown', hB2⟩
          case measure => simp [intOf]; omega
        · obtain rfl : k = 8 := by omega
          have hfin : Lib.byteCells (encN n 8 ++ UL.take (8 * 8)) = Lib.byteCells (encL R) := by
            rw [HUL.out, List.take_of_length_le (by rw [List.length_map]; omega)]
            unfold encL
            rw [HN.out]
            rfl
          rw [hfin] at hown
          have hel := encL_length hlen
          rcases hown.2 with ⟨_, h0⟩ | ⟨g, cap, cur, rfl, hbg, hg, hnc, hcm, hcs, htake⟩
          · omega
          · have hconv : (convert 69 9 (.slice (some ⟨g, 0, none⟩) (8 + 8 * 8) cap)).run Try.prog wr = .ok (.string (textOf R)) wr := by
              have := run_convert_bytes_back (P := Try.prog) wr 69 9 5 ⟨g, 0, none⟩ cap (encL R) Try.underlying69 Try.underlying5 Try.underlying9 (fun j hj => by
                have e : (⟨g, 0, none⟩ : Addr).add j = ⟨g, j, none⟩ := by unfold Addr.add; split <;> simp_all
                rw [e, show wr.cell? ⟨g, j, none⟩ = cur[j]? from by simp [World.cell?, hg]]
                have h1 : cur.toList[j]? = (Lib.byteCells (encL R))[j]? := by
                  rw [← htake, List.getElem?_take_of_lt (by omega)]
                rw [Array.getElem?_toList] at h1
                rw [h1]
                simp [Lib.byteCells, hj])
              rw [hel] at this
              exact this
            obtain ⟨tx, htx⟩ : ∃ tx, tx = textOf R := ⟨_, rfl⟩
            rw [← htx] at hconv
            have HT := Lib.hid htx
            clear htx
            clear hfin htake hown
            rw [show (((8 : Nat) : Int)) = 8 from rfl]
            go_wp2
            go_ret
            exact ⟨by rw [← HT.out]; rfl, hbel.trans (hB.mono (by omega))⟩
end Go.Proofs.Ytikaeblmjlfgcaa
