/- MeterOwn's walk; by-name template (gen_mtown.py). -/
import Derived.Test.YtpkmloanbddefaaMTOwnP
import Derived.Test.YtpkmloanbddefaaMTFrame
namespace Go.Proofs.Ytpkmloanbddefaa
open Go.RowKit Go.Lib Go.Maps
set_option linter.unusedVariables false
set_option linter.unusedSimpArgs false

theorem info_bk : (Try.prog.info? 42).map (fun i => (i.zero, i.size, i.bytes)) = some (some (.pointer none), 1, 8) := by kernel_rfl
theorem upd_upd (f : OF) (n : Nat) (x y : Nat × BK) : upd (upd f n x) n y = upd f n y := by
  funext i
  unfold upd
  split <;> rfl

set_option maxHeartbeats 4000000 in
set_option maxRecDepth 100000 in
theorem own_walk {a : Option Addr} {L : List Stp} (r b : Int) (cap : Nat) {w : World} (h : StepsAt w a L) :
    Calls Try.prog 7 #[.int .i64 r, .int .i64 b, .slice a L.length cap] w fun e w' => e = .returned (.bool true) ∧ Below w.heap.size w w' := by
  have hl := h.1
  have HS := Lib.hid h
  clear h
  generalize hlen : L.length = len at *
  have HL := Lib.hid hlen
  clear hlen
  by_cases hbig : 4096 < len
  · go_enter Try.func7, Try.ntmps7
    go_wp2
    go_ret
    exact ⟨rfl, Below.refl _ _⟩
  · have hnew := fun w => new_meters r b w
    obtain ⟨iu, hiu, hu0, hu1, hu2⟩ := info_parts info_bk
    go_enter Try.func7, Try.ntmps7
    go_wp2_with (go_at_call 8; refine (hnew _).mono ?_; rintro e w1 ⟨Bm, Mp, rfl, hp1, b1⟩)
    have made := World.ownsRow_made (e := 42) (size := 1) (base := w1.heap.size) w1 #[] 0 (Nat.le_refl _) (by unfold maxLen; omega) rfl
    have hbm : Below w1.heap.size w1 (w1.alloc (.cells #[] 42)) := (Below.refl _ _).alloc (Nat.le_refl _) _
    clear hnew
    have HP1 := Lib.hid (And.intro hp1 b1)
    clear hp1 b1
    go_loopw [8, 9] (fun v c wr => ∃ (j : Nat), j ≤ 16 ∧ c = .int .i64 (j : Int) ∧ wr.ownsRow w1.heap.size 42 1 v j (List.replicate j (.pointer none)) ∧ Below w1.heap.size w1 wr) (fun _ c _ => 16 - (intOf c).toNat)
    case atStart => exact ⟨0, by omega, rfl, made, hbm⟩
    case round =>
      clear made hbm
      obtain ⟨j, hj, rfl, hown, hb⟩ := hrel
      by_cases hjl : j < 16
      · have h63 : j + 1 ≤ maxLen := by unfold maxLen; omega
        have h47 : (j + 1) * 8 ≤ 140737488355328 := by omega
        have hbz : w1.heap.size ≤ (wr.alloc (.cells #[.pointer none] 42)).heap.size := by have := hb.size; simp; omega
        have HBZ := Lib.hid hb
        have HOW := Lib.hid hown
        have hone : ∀ u ∈ [Value.pointer none], u.oneCell' = true := by intro u hu; simp only [List.mem_singleton] at hu; subst hu; rfl
        clear hb hown
        go_wp2_with (at_builtin; refine wpList_append_own _ rfl _ _ 49 rfl w1.heap.size 42 iu (.pointer none) 1 8 Try.underlying49 hiu hu0 hu1 hu2 rfl (by decide) _ _ _ rfl (HOW.out.alloc _) ⟨wr.heap.size, 0, none⟩ 1 1 [.pointer none] rfl rfl (cell_one_new _ _ _) hone h63 h47 hbz ?_; intro v1 w2 hown1 hgr1 _)
        have hb2 : Below w1.heap.size w1 w2 := by
          have b0 := HBZ.out.alloc HBZ.out.size (.cells #[.pointer none] 42)
          refine ⟨hgr1.os.trans b0.os, hgr1.tape.trans b0.tape, hgr1.output.trans b0.output, Nat.le_trans b0.size hgr1.size, fun k hk => (hgr1.block k (Nat.lt_of_lt_of_le hk b0.size) (fun e => ?_)).trans (b0.block k hk)⟩
          have := HOW.out.lt k e.symm
          omega
        rw [show List.replicate j (Value.pointer none) ++ [Value.pointer none] = List.replicate (j + 1) (Value.pointer none) by rw [List.replicate_succ']] at hown1
        go_roundw
        case rel => exact ⟨j + 1, by omega, by go_num, hown1, hb2⟩
        case measure => simp [intOf]; omega
      · have hj16 : j = 16 := by omega
        subst hj16
        obtain ⟨g, gc, hv, hc1, hst⟩ : ∃ g gc, u8 = .slice (some ⟨g, 0, none⟩) 16 gc ∧ 16 ≤ gc ∧ gc ≤ 9223372036854775807 ∧ OwnW w wr r b Bm Mp g 0 (fun _ => none) [] := by
          obtain ⟨hp1, b1⟩ := HP1.out
          rcases hown.2 with ⟨_, h2⟩ | ⟨g, gc, cur, h1, hgb, hc, h16, hm, hcs, htk⟩
          · omega
          · unfold maxLen at hm
            refine ⟨g, gc, h1, h16, by omega, ⟨⟨_, 0, [], hp1.below hb, rfl, by omega, fun x hx => hx.1, fun hx => by have := hx.2; omega, fun i B D hi hf => by cases hf⟩, ⟨cur, hc, by omega, fun i hi => ?_⟩, fun i B D hi hf => (by cases hf), fun i j B D B' D' hi hj hf => (by cases hf), Nat.le_trans b1.size hgb, b1.trans (hb.mono b1.size)⟩⟩
            have := congrArg (fun l => l[i]?) htk
            simp only [List.getElem?_take, List.getElem?_replicate] at this
            rw [if_pos (by omega), if_pos hi] at this
            simpa [ptrF] using this
        obtain ⟨hc2, hst⟩ := hst
        subst hv
        have HST := Lib.hid hst
        clear hst hown hb HP1 hiu hu0 hu1 hu2 hj
        obtain ⟨wo, hwo⟩ : ∃ wo : World, wo = wr := ⟨_, rfl⟩
        subst hwo
        go_wp2_with fail
        go_loopw [10] (fun c wr => ∃ (k : Nat) (f : OF) (M : LL), k ≤ len ∧ c = .int .i64 (k : Int) ∧ OwnW w wr r b Bm Mp g k f M ∧ Look M f) (fun c _ => len - (intOf c).toNat)
        case atStart => exact ⟨0, _, [], by omega, rfl, HST.out, Look.start⟩
        case round =>
          clear HST
          obtain ⟨k, f, M, hk, rfl, hW, hLk⟩ := hrel
          by_cases hlt : k < len
          · obtain ⟨gb, off, s, ha, hgb, _, hst0⟩ := HS.out.get (k := k) (by rw [HL.out]; exact hlt)
            have hst := fun (w' : World) (h : Below w.heap.size w w') => hst0.block (h.block gb hgb)
            have hd := hst _ hW.bel
            have hso := hst0.w_src.2
            have hto := hst0.w_now
            subst ha
            have c1 := hd.c1
            have c2 := hd.c2
            have c3 := hd.c3
            have HC3 := Lib.hid (fun w' h => (hst w' h).c3)
            obtain ⟨n, hn⟩ : ∃ n : Nat, s.src.2 % 16 = (n : Int) := ⟨(s.src.2 % 16).toNat, by omega⟩
            have hn16 : n < 16 := by omega
            have hs0 : 0 ≤ s.src.2 := hso.1
            have hI0 : (0 : Int) ≤ (n : Int) := by omega
            have hI1 : (n : Int) < 16 := by omega
            have hI2 : (k : Int) < (len : Int) := by omega
            have hwi : IntKind.i64.wrap (n : Int) = (n : Int) := i64_self ⟨by omega, by omega⟩
            have hwu : IntKind.u64.wrap (n : Int) = (n : Int) := u64_self (by omega) (by omega)
            have hsO : SrcOk (0, (n : Int)) := ⟨⟨by omega, by omega⟩, ⟨by simp only; omega, by simp only; omega⟩⟩
            have hkb : k < 9223372036854775807 := by omega
            have hcell := (hW.cell hn16).1
            have hfz := (hW.cell hn16).2
            have hOK := take_ok (r := r) (b := b) (t := s.now) (hLk.room hn16)
            rw [hLk.look n hn16] at hOK
            have hnod := hW.nod
            have HW := Lib.hid hW
            have HLk := Lib.hid hLk
            clear hst hd hst0 hW hLk
            rcases hf : f n with _ | ⟨B, D1⟩
            · rw [hf] at hcell hOK
              have hcell' : wr.cell? ⟨g, n, none⟩ = some (.pointer none) := hcell
              have HOK : Hid (takeO r b M (0, (n : Int)) s.now = takeB (newP r b s.now) s.now 1 ∧ takeR M (0, (n : Int)) s.now = true) := Lib.hid ⟨hOK.2, hOK.1⟩
              have hLK : ∀ B, Look (takeL r b M (0, (n : Int)) s.now) (upd (upd f n (B, newP r b s.now)) n (B, takeD (newP r b s.now) s.now 1)) := fun B => by
                rw [upd_upd]
                exact HLk.out.take hn16 hnod (.inl ⟨hf, rfl⟩)
              have HLK0 := Lib.hid hLK
              have hrn := fun w => rnew_any r b s.now w
              have gN := good_new r b s.now hto
              have HLAY := Lib.hid (fun B w2 (h1 : wr.heap.size ≤ B) (h2 : BkAt 41 w2 B (newP r b s.now)) (h3 : Below wr.heap.size wr w2) => HW.out.lay hn16 h1 h2 gN h3)
              have HCC := Lib.hid (fun w2 (h3 : Below wr.heap.size wr w2) => (HW.out.below h3).cell hn16)
              have hfn : Hid (f n = none) := Lib.hid hf
              clear hcell hOK hLK gN hf
              go_upto_region 15 with (go_at_call 16; refine (hrn _).mono ?_; rintro e w3 ⟨rfl, hk3, hb3, hz3⟩; have hx := HCC.out w3 hb3; rw [hfn.out] at hx; have hx1 : w3.cell? ⟨g, n, none⟩ = some (.pointer none) := hx.1; have hx2 := hx.2)
              have HW1 := Lib.hid (HLAY.out wr.heap.size w3 (Nat.le_refl _) hk3 hb3)
              generalize w3.setCell ⟨g, n, none⟩ (.pointer (some ⟨wr.heap.size, 0, none⟩)) = wz at *
              generalize wr.heap.size = B at *
              have hf1 : Hid (upd f n (B, newP r b s.now) n = some (B, newP r b s.now)) := Lib.hid (by unfold upd; rw [if_pos rfl])
              have HLK := Lib.hid (HLK0.out B)
              generalize upd f n (B, newP r b s.now) = f1 at *
              clear HLK0 HLAY HCC hrn hx hx1 hx2 hk3 hb3 hz3 hfn HW HLk hcell' hfz c1 c2 c3 hso hs0 hnod
              generalize newP r b s.now = D1 at *
              have TM := own_take_m HW1.out hkb hsO hto
              rw [HOK.out.1, HOK.out.2] at TM
              have HTR := Lib.hid (fun w' (h : OwnW w w' r b Bm Mp g (k + 1) f1 (takeL r b M (0, (n : Int)) s.now)) => own_take_r h hn16 hf1.out hto)
              generalize takeL r b M (0, (n : Int)) s.now = M' at *
              generalize hvB : takeB D1 s.now 1 = vB at *
              have y3 := HC3.out _ HW1.out.bel
              clear hvB
              go_wp2_with (go_at_call 10; refine TM.mono ?_; rintro e w5 ⟨rfl, hB5⟩)
              have y5 := HC3.out _ hB5.bel
              have yc := (hB5.cell hn16).1
              rw [hf1.out] at yc
              have yc' : w5.cell? ⟨g, n, none⟩ = some (.pointer (some ⟨B, 0, none⟩)) := yc
              have hB5d := hB5.below (bel_dr (Below.refl _ _))
              clear yc TM y3
              go_region_held3 (fun w' => w'.cell? ⟨g, n, none⟩ = some (.pointer (some ⟨B, 0, none⟩)) ∧ w'.cell? ⟨gb, off + k * 4 + 3, none⟩ = some (.int .i64 s.now))
                (first | exact ⟨yc', y5⟩ | exact ⟨y6, y7⟩)
                (first
                  | (go_at_call 18; refine (HTR.out _ hB5d).mono ?_; rintro e w6 ⟨rfl, hB6, hO6⟩; have y7 := HC3.out _ hB6.bel; have hx6 := (hB6.cell hn16).1; have y6 : w6.cell? ⟨g, n, none⟩ = some (.pointer (some ⟨B, 0, none⟩)) := by rw [hx6]; unfold upd; rw [if_pos rfl]; rfl))
              go_wp2_with fail
              go_roundw
              case rel => (repeat apply Exists.intro); exact ⟨⟨k + 1, _, M', by omega, by go_num, hB6, HLK.out⟩, rfl⟩
              case measure => simp [intOf]; omega

            · rw [hf] at hcell hOK
              have hcell' : wr.cell? ⟨g, n, none⟩ = some (.pointer (some ⟨B, 0, none⟩)) := hcell
              have HOK : Hid (takeO r b M (0, (n : Int)) s.now = takeB D1 s.now 1 ∧ takeR M (0, (n : Int)) s.now = true) := Lib.hid ⟨hOK.2, hOK.1⟩
              have HLK : Hid (Look (takeL r b M (0, (n : Int)) s.now) (upd f n (B, takeD D1 s.now 1))) := Lib.hid (HLk.out.take hn16 hnod (.inr ⟨D1, hf, rfl⟩))
              have hf1 := Lib.hid hf
              obtain ⟨f1, hff⟩ : ∃ f1, f1 = f := ⟨_, rfl⟩
              subst hff
              clear hcell hOK hf HLk hnod
              go_upto_region 15 with (fail)
              have HW1 := HW
              clear HW hcell' hfz c1 c2 c3 hso hs0
              obtain ⟨wz, hwz⟩ : ∃ wz : World, wz = wr := ⟨_, rfl⟩
              subst hwz
              have TM := own_take_m HW1.out hkb hsO hto
              rw [HOK.out.1, HOK.out.2] at TM
              have HTR := Lib.hid (fun w' (h : OwnW w w' r b Bm Mp g (k + 1) f1 (takeL r b M (0, (n : Int)) s.now)) => own_take_r h hn16 hf1.out hto)
              generalize takeL r b M (0, (n : Int)) s.now = M' at *
              generalize hvB : takeB D1 s.now 1 = vB at *
              have y3 := HC3.out _ HW1.out.bel
              clear hvB
              go_wp2_with (go_at_call 10; refine TM.mono ?_; rintro e w5 ⟨rfl, hB5⟩)
              have y5 := HC3.out _ hB5.bel
              have yc := (hB5.cell hn16).1
              rw [hf1.out] at yc
              have yc' : w5.cell? ⟨g, n, none⟩ = some (.pointer (some ⟨B, 0, none⟩)) := yc
              have hB5d := hB5.below (bel_dr (Below.refl _ _))
              clear yc TM y3
              go_region_held3 (fun w' => w'.cell? ⟨g, n, none⟩ = some (.pointer (some ⟨B, 0, none⟩)) ∧ w'.cell? ⟨gb, off + k * 4 + 3, none⟩ = some (.int .i64 s.now))
                (first | exact ⟨yc', y5⟩ | exact ⟨y6, y7⟩)
                (first
                  | (go_at_call 18; refine (HTR.out _ hB5d).mono ?_; rintro e w6 ⟨rfl, hB6, hO6⟩; have y7 := HC3.out _ hB6.bel; have hx6 := (hB6.cell hn16).1; have y6 : w6.cell? ⟨g, n, none⟩ = some (.pointer (some ⟨B, 0, none⟩)) := by rw [hx6]; unfold upd; rw [if_pos rfl]; rfl))
              go_wp2_with fail
              go_roundw
              case rel => (repeat apply Exists.intro); exact ⟨⟨k + 1, _, M', by omega, by go_num, hB6, HLK.out⟩, rfl⟩
              case measure => simp [intOf]; omega

          · have HB := Lib.hid hW.bel
            clear hW
            go_wp2_with fail
            go_ret
            exact ⟨rfl, HB.out⟩
end Go.Proofs.Ytpkmloanbddefaa
