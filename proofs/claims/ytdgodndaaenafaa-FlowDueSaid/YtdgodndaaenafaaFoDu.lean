/- FlowDue: the walk; by-name template. -/
import Derived.Test.YtdgodndaaenafaaFoTw
import Derived.Test.YtdgodndaaenafaaFoKe
namespace Go.Proofs.Ytdgodndaaenafaa
open Go.RowKit Go.Lib Go.Maps
set_option linter.unusedVariables false
set_option linter.unusedSimpArgs false

set_option maxRecDepth 100000 in
set_option maxHeartbeats 8000000 in
theorem duelaw_any (A : Option Addr) (n c : Nat) (l : List Stp) (now : Int) (w : World) (hS : Sl w 24 scells A n l) (hL : ∀ s ∈ l, StpOk s) : Calls Try.prog 3 #[.slice A n c, .int .i64 now] w (LawPost w) := by
  have b0 : Below w.heap.size w w := Below.refl _ _
  by_cases hn : 512 < n
  · have hnI : (512 : Int) < (n : Int) := by omega
    have hnD : decide (512 < n) = true := decide_eq_true hn
    have hnD2 : decide ((512 : Int) < (n : Int)) = true := decide_eq_true hnI
    clear hS hL hn
    go_enter Try.func3, Try.ntmps3
    go_wp2
    go_ret
    exact ⟨rfl, b0⟩
  · have hnI : ¬ (512 : Int) < (n : Int) := by omega
    have hnD : decide (512 < n) = false := decide_eq_false hn
    have hnD2 : decide ((512 : Int) < (n : Int)) = false := decide_eq_false hnI
    have cN := st_new w
    have hLl : l.length = n := hS.len
    have HRow : Hid (∀ i, i < n → ∃ b off x, A = some ⟨b, off, none⟩ ∧ l[i]? = some x ∧ FlOk x.f ∧ ∀ W, Below w.heap.size w W → ∀ j v, (FA x.f).toList[j]? = some v → W.cell? ((⟨b, off + i * 24 + 4, none⟩ : Addr).add j) = some v) := Lib.hid (fun i hi => by
      obtain ⟨b, off, hA1, hbl, hrow⟩ := hS.row (by omega)
      have hx : l[i]? = some l[i] := List.getElem?_eq_getElem (by omega)
      exact ⟨b, off, l[i], hA1, hx, (hL _ (List.mem_of_getElem? hx)).f, fun W hb j v hj => keepc hb (s_row hrow hx j v hj)⟩)
    clear hS hL hn hLl
    go_enter Try.func3, Try.ntmps3
    go_upto_region 6 with (go_at_call 8; refine cN.mono ?_; rintro e w2 ⟨TB, rfl, hS2⟩)
    have hB3 := bf_new hS2
    generalize w2.alloc (.cells #[.slice none 0 0] 28) = w3 at *
    generalize w2.heap.size = RB at *
    clear hS2 cN b0
    go_loopw [7] (fun v7 wr => ∃ i : Nat, v7 = .int .i64 i ∧ i ≤ n ∧ ∃ L, Bf (fun _ => False) w wr TB RB L L) (fun v7 _ => n - (intOf v7).toNat)
    case atStart => exact ⟨0, rfl, by omega, _, hB3⟩
    case round =>
      clear hB3
      obtain ⟨i, rfl, hi, L, hBr⟩ := hrel
      by_cases hlt : i < n
      · have hlti : (i : Int) < (n : Int) := by omega
        have hdn : decide (i < n) = true := by simp [hlt]
        obtain ⟨bb, off, x, hA1, hx, hxo, hrow⟩ := HRow.out i hlt
        have e0 := Lib.hid (hrow wr hBr.bl)
        have f_i2 := Lib.hid (f_inf x.f)
        have cA := bf_add_p hBr hxo
        have HR := Lib.hid (fun (w5 : World) (h : Bf (fun _ => False) w w5 TB RB (addF L x.f).L L) => And.intro (bf_add_r h hxo) (hrow w5 h.bl))
        clear hrow hx hBr HRow
        generalize addF L x.f = AR at *
        generalize FA x.f = FX2 at *
        subst hA1
        go_upto_region 9 with (first
          | ((with_reducible refine stop_op (o := ⟨some 29, _, _, _, _, _⟩) ?_); refine Lib.hid ?_; refine wpList_load_cells rfl 38 (.tmp 28) rfl ⟨bb, off + i * 24 + 4, none⟩ rfl FX2 _ e0.out Try.underlying38 rfl f_i2.out ?_)
          | (go_at_call 9; refine cA.mono ?_; rintro e w5 ⟨rfl, hB5, _⟩))
        obtain ⟨cR, e1⟩ := HR.out _ hB5
        have e1 := Lib.hid e1
        clear cA e0 hB5 HR
        go_wp2_with (first
          | ((with_reducible refine stop_op (o := ⟨some 36, _, _, _, _, _⟩) ?_); refine Lib.hid ?_; refine wpList_load_cells rfl 38 (.tmp 35) rfl ⟨bb, off + i * 24 + 4, none⟩ rfl FX2 _ e1.out Try.underlying38 rfl f_i2.out ?_)
          | (go_at_call 10; refine cR.mono ?_; rintro e w6 ⟨rfl, hB6, _⟩))
        exact ⟨⟨i + 1, by simp, by omega, _, hB6⟩, by simp [intOf]; omega⟩
      · obtain rfl : i = n := by omega
        have hd0 : decide (i < i) = false := by simp
        have hdi : decide ((i : Int) < (i : Int)) = false := by simp
        have hl48 := hBr.goodL.ln
        have hcnt := due_count hBr.goodL now
        have cL := bf_list hBr
        clear hBr HRow
        go_upto_region 11 with (go_at_call 11; refine cL.mono ?_; rintro e w8 ⟨A8, c8, rfl, _, hB8, _⟩)
        obtain ⟨A9, c9, hc9⟩ := hB8.cr
        have cD := bf_due_p hB8 (now := now)
        clear cL hB8
        have cR0 := Lib.hid (fun (X : Nat → Prop) (W : World) (L' : List Fl) (h : Bf X w W TB RB L' L) => bf_due_r h (now := now))
        have HSA : Hid (∀ (W : World) (A B : Option Addr) (c d : Nat), Sl W 1 e1 A (dueL L now).length (dueL L now) → Sl W 1 e1 B (dueL L now).length (dueL L now) → Calls Try.prog 13 #[.slice A (dueL L now).length c, .slice B (dueL L now).length d] W fun e w' => e = .returned (.bool true) ∧ Below W.heap.size W w') := Lib.hid (fun W A B c d h h' => by
          have q := same_ints (c := c) (d := d) (by omega) h h'
          rw [show decide (dueL L now = dueL L now) = true from decide_eq_true rfl] at q
          exact q)
        have HGT : Hid (∀ x ∈ lefF L now, ¬ x.en ≤ now) := Lib.hid (fun x hx => lef_gt hx)
        have hdl := due_left L now
        generalize hm : L.length = m at *
        generalize hd : dueL L now = D at *
        generalize hM : lefF L now = M at *
        clear hm hd hM
        have hDs : D.length ≤ 48 := by omega
        have hMs : M.length ≤ 48 := by omega
        have hsum : (D.length : Int) + (M.length : Int) = (m : Int) := by omega
        have hdt : decide (D = D) = true := by simp
        go_upto_region 14 with (go_at_call 12; refine cD.mono ?_; rintro e w9 ⟨A10, c10, rfl, hs10, hB10, _⟩)
        have cL := bf_list hB10
        clear cD hB10 hc9
        go_upto_region 15 with (go_at_call 11; refine cL.mono ?_; rintro e w11 ⟨A11, c11, rfl, hs11, hB11, hk11⟩)
        have hs10' := hk11.sl hs10 (fun b off sp e => .inr ⟨off, sp, e⟩)
        have hX11 : ∀ b off sp, A11 = some ⟨b, off, sp⟩ → (fun k => ((False ∨ rowB A8 k) ∨ rowB A10 k) ∨ rowB A11 k) b := fun b off sp e => .inr ⟨off, sp, e⟩
        have hX10 : ∀ b off sp, A10 = some ⟨b, off, sp⟩ → (fun k => ((False ∨ rowB A8 k) ∨ rowB A10 k) ∨ rowB A11 k) b := fun b off sp e => .inl (.inr ⟨off, sp, e⟩)
        have cR := cR0.out _ _ _ hB11
        clear cL hB11 hk11 hs10
        go_upto_region 18 with (first
          | (go_at_call 14; refine cR.mono ?_; rintro e w12 ⟨A12, c12, rfl, hs12, hB12, hk12⟩; have s10 := hk12.sl hs10' hX10; have s11 := hk12.sl hs11 hX11)
          | (go_at_call 13; refine (HSA.out _ _ _ _ _ s10 hs12).mono ?_; rintro e w13 ⟨rfl, hb13⟩))
        have HS11 := Lib.hid s11
        have HB12 := Lib.hid hB12
        clear cR HSA cR0 hs10' hs11 s10 s11 hs12 hk12 hX10 hX11 hsum hdt hDs
        go_loopw [11] (fun v11 wr => ∃ i : Nat, v11 = .int .i64 i ∧ i ≤ M.length ∧ Below w13.heap.size w13 wr) (fun v11 _ => M.length - (intOf v11).toNat)
        case atStart => exact ⟨0, rfl, by omega, Below.refl _ _⟩
        case round =>
          obtain ⟨j, rfl, hj, hb⟩ := hrel
          have hbb := hb13.trans (hb.mono hb13.size)
          by_cases hlt2 : j < M.length
          · have hltI : (j : Int) < (M.length : Int) := by omega
            have hltD : decide (j < M.length) = true := by simp [hlt2]
            obtain ⟨bb, off, rfl, hbl, hrow⟩ := HS11.out.row (by omega)
            obtain ⟨x, hx⟩ : ∃ x, M[j]? = some x := ⟨_, List.getElem?_eq_getElem hlt2⟩
            have e0 := keepc hbb (f_row hrow hx 19 (.int .i64 x.en) rfl)
            rw [addr_add] at e0
            have hgt0 := HGT.out x (List.mem_of_getElem? hx)
            have hgt : ¬ x.en ≤ now := by omega
            clear hgt0
            have hgd : decide (x.en ≤ now) = false := decide_eq_false hgt
            clear hrow hx
            generalize x.en = xe at *
            go_wp2
            exact ⟨⟨j + 1, by simp, by omega, hb⟩, by simp [intOf]; omega⟩
          · have hje : j = M.length := by omega
            have cF := bf_due_p (HB12.out.below hbb) (now := now)
            rw [hdl] at cF
            simp only [List.length_nil] at cF
            have hltI : ¬ (j : Int) < (M.length : Int) := by omega
            have hltD : decide (j < M.length) = false := by simp [hlt2]
            clear HB12 HS11 hdl HGT
            go_wp2_with (go_at_call 12; refine cF.mono ?_; rintro e w14 ⟨A14, c14, rfl, _, hB14, _⟩)
            go_ret
            exact ⟨rfl, hB14.bl⟩
end Go.Proofs.Ytdgodndaaenafaa
