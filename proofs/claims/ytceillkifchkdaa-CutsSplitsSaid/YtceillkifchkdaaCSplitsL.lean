/- CutsSplits: the walk; by-name template (gen_csplits.py). -/
import Derived.Test.YtceillkifchkdaaKBs
import Derived.Test.YtceillkifchkdaaCRSplit
namespace Go.Proofs.Ytceillkifchkdaa
open Go.RowKit Go.Lib Go.Sort
set_option linter.unusedVariables false
set_option linter.unusedSimpArgs false
def e77 : EN := ⟨fun _ => zr4, 77⟩
theorem Sl.cutl {w : World} {A : Option Addr} {l : List EN} {e : EN} {n : Nat} (h : Sl w 25 enc25 A (n + 1) (l ++ [e])) (hl : l.length = n) : Sl w 25 enc25 A n l := by
  subst hl
  have := h.cut (m := l.length) (by omega)
  rwa [List.take_left] at this

set_option maxRecDepth 100000 in
set_option maxHeartbeats 8000000 in
theorem csplits_core (A : Option Addr) (n c : Nat) (l : List EN) (b : Nat → R4) (x : Int) (t : P2) (hc : A = none → c = 0) (hn : n ≤ 512) (hw : ∀ e ∈ l, WB e.bx) (wb : WB b) (wt1 : Word t.h) (wt2 : Word t.l) (w : World) (hS : Sl w 25 enc25 A n l) :
    Calls Try.prog 3 #[.slice A n c, .agg (bxc b), .int .i64 x, .agg #[.int .u64 t.h, .int .u64 t.l]] w (LawPost w) := by
  obtain ⟨M, hM⟩ : ∃ M, M = LawPost w := ⟨_, rfl⟩
  rw [← hM]
  have HM := Lib.hid hM; clear hM
  obtain ⟨iu, hiu, hu0, hu1, hu2⟩ := info_parts en_info
  have k1 := fun W : World => split_any b x t wb wt1 wt2 W
  have k2 := fun W : World => rsplit_any b x t wb wt1 wt2 W
  have nL := fun W : World => neq_box (spL b x t) (spL b x t) W
  have nH := fun W : World => neq_box (spH b x t) (spH b x t) W
  rw [eqB_refl] at nL nH
  replace nL := fun W => (nL W).trans (rfl : _ = Result.ok (Value.bool false) W)
  replace nH := fun W => (nH W).trans (rfl : _ = Result.ok (Value.bool false) W)
  have hOB : ∀ (O : Bool) (W : World), (binOp .neq 4 (.bool O) (.bool O)).run Try.prog W = .ok (.bool false) W := fun O W => by cases O <;> kernel_rfl
  have hOO := hOB (spO b x t)
  clear hOB
  generalize spO b x t = O at *
  have LP := fun (W : World) (A' : Option Addr) (c' : Nat) (h : Sl W 25 enc25 A' n l) => pts_all A' n c' l b x hn hw W h
  have LR := fun (W : World) (h : Sl W 25 enc25 A n l) => rpts_all A n c l b x hn hw W h
  have hlenL := PL_len l b x
  obtain ⟨LL, hLL⟩ : ∃ LL, LL = PL l b x := ⟨_, rfl⟩
  simp only [← hLL] at LP LR hlenL
  clear hLL
  rw [hS.len] at hlenL
  have hlen : LL.length ≤ 1024 := by omega
  clear hlenL
  have iC := inf29 b
  have iL := inf29 (spL b x t)
  have oL := bx_one (spL b x t)
  have zL : (#[.int .u64 0, .int .u64 0, .int .u64 0, .int .u64 0, .int .u64 0, .int .u64 0, .int .u64 0, .int .u64 0, .int .u64 0, .int .u64 0, .int .u64 0, .int .u64 0, .int .u64 0, .int .u64 0, .int .u64 0, .int .u64 0, .int .u64 0, .int .u64 0, .int .u64 0, .int .u64 0, .int .u64 0, .int .u64 0, .int .u64 0, .int .u64 0] : Array Value).size = (bxc (spL b x t)).size := rfl
  have iH := inf29 (spH b x t)
  have oH := bx_one (spH b x t)
  have zH : (#[.int .u64 0, .int .u64 0, .int .u64 0, .int .u64 0, .int .u64 0, .int .u64 0, .int .u64 0, .int .u64 0, .int .u64 0, .int .u64 0, .int .u64 0, .int .u64 0, .int .u64 0, .int .u64 0, .int .u64 0, .int .u64 0, .int .u64 0, .int .u64 0, .int .u64 0, .int .u64 0, .int .u64 0, .int .u64 0, .int .u64 0, .int .u64 0] : Array Value).size = (bxc (spH b x t)).size := rfl
  generalize bxc b = C at *
  generalize bxc (spL b x t) = LV at *
  generalize bxc (spH b x t) = HV at *
  have iC := Lib.hid iC
  have iL := Lib.hid iL
  have oL := Lib.hid oL
  have zL := Lib.hid zL
  have iH := Lib.hid iH
  have oH := Lib.hid oH
  have zH := Lib.hid zH
  clear wb wt1 wt2
  have hn9 : decide ((512 : Int) < (n : Int)) = false := by simp; omega
  have b00 := (bx2 w (.cells C 30) (.cells #[.int .u64 t.h, .int .u64 t.l] 25))
  obtain ⟨hA, hT, b0⟩ := b00
  obtain ⟨w0, hw0⟩ : ∃ w0, w0 = (w.alloc (.cells C 30)).alloc (.cells #[.int .u64 t.h, .int .u64 t.l] 25) := ⟨_, rfl⟩
  rw [← hw0] at hA hT b0
  have hz := Below.refl w0.heap.size w0
  have hS0 := hS.keep b0
  have HA0 := Lib.hid hA
  have HS0 := Lib.hid hS0
  have HLEN := Lib.hid hS.len
  have Hw0 := Lib.hid hw0
  clear hw0 hS hS0
  go_enter Try.func3, Try.ntmps3
  go_wp2_with (with_reducible refine stop_op (o := ⟨some 24, _, _, _, _, _⟩) ?_)
  rw [← Hw0.out]
  clear Hw0
  refine Lib.hid ?_
  obtain ⟨t0, t1, _, _⟩ := cells2 hT
  go_upto_region 4 with (first | (go_at_call 11; with_reducible refine (k1 _).mono ?_; rintro e wz ⟨rfl, hb⟩; replace hA := blkB hb hA; replace hT := blkB hb hT; obtain ⟨t0, t1, _, _⟩ := cells2 hT; replace hz := bel_via hz hb; clear hb) | (refine wpList_load_row rfl 30 (.tmp 5) rfl w.heap.size rfl 30 C (0, 0) _ hA Try.underlying30 rfl iC.out ?_) | (refine wpList_store_row rfl 30 (.tmp 9) (.tmp 28) rfl wz.heap.size LV rfl rfl 30 #[.int .u64 0, .int .u64 0, .int .u64 0, .int .u64 0, .int .u64 0, .int .u64 0, .int .u64 0, .int .u64 0, .int .u64 0, .int .u64 0, .int .u64 0, .int .u64 0, .int .u64 0, .int .u64 0, .int .u64 0, .int .u64 0, .int .u64 0, .int .u64 0, .int .u64 0, .int .u64 0, .int .u64 0, .int .u64 0, .int .u64 0, .int .u64 0] (blk_al (heap_alloc_new wz _) _) iL.out zL.out oL.out ?_) | (refine wpList_store_row rfl 30 (.tmp 10) (.tmp 29) rfl (wz.heap.size + 1) HV rfl rfl 30 #[.int .u64 0, .int .u64 0, .int .u64 0, .int .u64 0, .int .u64 0, .int .u64 0, .int .u64 0, .int .u64 0, .int .u64 0, .int .u64 0, .int .u64 0, .int .u64 0, .int .u64 0, .int .u64 0, .int .u64 0, .int .u64 0, .int .u64 0, .int .u64 0, .int .u64 0, .int .u64 0, .int .u64 0, .int .u64 0, .int .u64 0, .int .u64 0] (two_mid wz LV 30 #[.int .u64 0, .int .u64 0, .int .u64 0, .int .u64 0, .int .u64 0, .int .u64 0, .int .u64 0, .int .u64 0, .int .u64 0, .int .u64 0, .int .u64 0, .int .u64 0, .int .u64 0, .int .u64 0, .int .u64 0, .int .u64 0, .int .u64 0, .int .u64 0, .int .u64 0, .int .u64 0, .int .u64 0, .int .u64 0, .int .u64 0, .int .u64 0]) iH.out zH.out oH.out ?_; obtain ⟨wy, hwy⟩ : ∃ x, x = World.setRow (World.setRow ((wz.alloc (.cells #[.int .u64 0, .int .u64 0, .int .u64 0, .int .u64 0, .int .u64 0, .int .u64 0, .int .u64 0, .int .u64 0, .int .u64 0, .int .u64 0, .int .u64 0, .int .u64 0, .int .u64 0, .int .u64 0, .int .u64 0, .int .u64 0, .int .u64 0, .int .u64 0, .int .u64 0, .int .u64 0, .int .u64 0, .int .u64 0, .int .u64 0, .int .u64 0] 30)).alloc (.cells #[.int .u64 0, .int .u64 0, .int .u64 0, .int .u64 0, .int .u64 0, .int .u64 0, .int .u64 0, .int .u64 0, .int .u64 0, .int .u64 0, .int .u64 0, .int .u64 0, .int .u64 0, .int .u64 0, .int .u64 0, .int .u64 0, .int .u64 0, .int .u64 0, .int .u64 0, .int .u64 0, .int .u64 0, .int .u64 0, .int .u64 0, .int .u64 0] 30)) wz.heap.size LV) (wz.heap.size + 1) HV := ⟨_, rfl⟩; rw [← hwy]; obtain ⟨hL, hH, hK, hBB⟩ := two_end hwy; clear hwy; replace hA := hK _ _ hA; replace hT := hK _ _ hT; obtain ⟨t0, t1, _, _⟩ := cells2 hT; replace hz := hBB _ hz; clear hK hBB; obtain ⟨P1, hPP⟩ : ∃ P, P = wz.heap.size := ⟨_, rfl⟩; rw [← hPP] at hL hH ⊢; clear hPP; obtain ⟨wz, hwz⟩ : ∃ x, x = wy := ⟨_, rfl⟩; subst hwz))
  go_upto_region 5 with (first | (go_at_call 12; with_reducible refine (k2 _).mono ?_; rintro e wz ⟨rfl, hb⟩; replace hA := blkB hb hA; replace hT := blkB hb hT; obtain ⟨t0, t1, _, _⟩ := cells2 hT; replace hL := blkB hb hL; replace hH := blkB hb hH; replace hz := bel_via hz hb; clear hb) | (refine wpList_load_row rfl 30 (.tmp 5) rfl w.heap.size rfl 30 C (0, 0) _ hA Try.underlying30 rfl iC.out ?_) | (refine wpList_store_row rfl 30 (.tmp 12) (.tmp 36) rfl wz.heap.size LV rfl rfl 30 #[.int .u64 0, .int .u64 0, .int .u64 0, .int .u64 0, .int .u64 0, .int .u64 0, .int .u64 0, .int .u64 0, .int .u64 0, .int .u64 0, .int .u64 0, .int .u64 0, .int .u64 0, .int .u64 0, .int .u64 0, .int .u64 0, .int .u64 0, .int .u64 0, .int .u64 0, .int .u64 0, .int .u64 0, .int .u64 0, .int .u64 0, .int .u64 0] (blk_al (heap_alloc_new wz _) _) iL.out zL.out oL.out ?_) | (refine wpList_store_row rfl 30 (.tmp 13) (.tmp 37) rfl (wz.heap.size + 1) HV rfl rfl 30 #[.int .u64 0, .int .u64 0, .int .u64 0, .int .u64 0, .int .u64 0, .int .u64 0, .int .u64 0, .int .u64 0, .int .u64 0, .int .u64 0, .int .u64 0, .int .u64 0, .int .u64 0, .int .u64 0, .int .u64 0, .int .u64 0, .int .u64 0, .int .u64 0, .int .u64 0, .int .u64 0, .int .u64 0, .int .u64 0, .int .u64 0, .int .u64 0] (two_mid wz LV 30 #[.int .u64 0, .int .u64 0, .int .u64 0, .int .u64 0, .int .u64 0, .int .u64 0, .int .u64 0, .int .u64 0, .int .u64 0, .int .u64 0, .int .u64 0, .int .u64 0, .int .u64 0, .int .u64 0, .int .u64 0, .int .u64 0, .int .u64 0, .int .u64 0, .int .u64 0, .int .u64 0, .int .u64 0, .int .u64 0, .int .u64 0, .int .u64 0]) iH.out zH.out oH.out ?_; obtain ⟨wy, hwy⟩ : ∃ x, x = World.setRow (World.setRow ((wz.alloc (.cells #[.int .u64 0, .int .u64 0, .int .u64 0, .int .u64 0, .int .u64 0, .int .u64 0, .int .u64 0, .int .u64 0, .int .u64 0, .int .u64 0, .int .u64 0, .int .u64 0, .int .u64 0, .int .u64 0, .int .u64 0, .int .u64 0, .int .u64 0, .int .u64 0, .int .u64 0, .int .u64 0, .int .u64 0, .int .u64 0, .int .u64 0, .int .u64 0] 30)).alloc (.cells #[.int .u64 0, .int .u64 0, .int .u64 0, .int .u64 0, .int .u64 0, .int .u64 0, .int .u64 0, .int .u64 0, .int .u64 0, .int .u64 0, .int .u64 0, .int .u64 0, .int .u64 0, .int .u64 0, .int .u64 0, .int .u64 0, .int .u64 0, .int .u64 0, .int .u64 0, .int .u64 0, .int .u64 0, .int .u64 0, .int .u64 0, .int .u64 0] 30)) wz.heap.size LV) (wz.heap.size + 1) HV := ⟨_, rfl⟩; rw [← hwy]; obtain ⟨hL2, hH2, hK, hBB⟩ := two_end hwy; clear hwy; replace hA := hK _ _ hA; replace hT := hK _ _ hT; obtain ⟨t0, t1, _, _⟩ := cells2 hT; replace hL := hK _ _ hL; replace hH := hK _ _ hH; replace hz := hBB _ hz; clear hK hBB; obtain ⟨P2, hPP⟩ : ∃ P, P = wz.heap.size := ⟨_, rfl⟩; rw [← hPP] at hL2 hH2 ⊢; clear hPP; obtain ⟨wz, hwz⟩ : ∃ x, x = wy := ⟨_, rfl⟩; subst hwz))
  go_wp2_with (first | (with_reducible refine stop_op (o := ⟨some 50, _, _, _, _, _⟩) ?_) | (refine wpList_load_row rfl 30 (.tmp 9) rfl P1 rfl 30 LV (0, 0) _ hL Try.underlying30 rfl iL.out ?_) | (refine wpList_load_row rfl 30 (.tmp 12) rfl P2 rfl 30 LV (0, 0) _ hL2 Try.underlying30 rfl iL.out ?_) | (refine wpList_load_row_on (by rfl) 30 (.tmp 10) rfl (P1 + 1) rfl 30 HV (0, 0) _ hH Try.underlying30 rfl iH.out ?_) | (refine wpList_load_row_on (by rfl) 30 (.tmp 13) rfl (P2 + 1) rfl 30 HV (0, 0) _ hH2 Try.underlying30 rfl iH.out ?_))
  refine Lib.hid ?_
  go_upto_region 7 with fail
  clear hL hH hL2 hH2 t0 t1 hT nL nH hOO k1 k2 iL oL zL iH oH zH
  go_upto_region 8 with (refine wpList_bs0 rfl rfl ?_)
  -- an empty row of one's own
  have hbs8 : w0.heap.size ≤ wz.heap.size := hz.size
  have hown8 : (wz.alloc (.cells #[] 34)).ownsRow wz.heap.size 34 25 (.slice (some ⟨wz.heap.size, 0, none⟩) 0 0) 0 ([] : List Value) := World.ownsRow_made wz #[] 0 (Nat.le_refl _) (by unfold maxLen; omega) rfl
  replace hz := bel_via hz (Below.al (Below.refl _ wz) (.cells #[] 34))
  obtain ⟨w8, hw8⟩ : ∃ x, x = wz.alloc (.cells #[] 34) := ⟨_, rfl⟩
  rw [← hw8] at hown8 hz
  have hbw8 : wz.heap.size ≤ w8.heap.size := by rw [hw8, al_size]; omega
  rw [← hw8]
  obtain ⟨G, hG⟩ : ∃ G, G = wz.heap.size := ⟨_, rfl⟩
  rw [← hG] at hown8 hbs8 hbw8 ⊢
  clear hw8 hG
  have hS8 := HS0.out.keep hz
  have hb81 : (0 + n) * 200 ≤ 140737488355328 := by omega
  have h863 : 0 + n ≤ maxLen := by unfold maxLen; omega
  have hS8 := Lib.hid hS8
  go_wp2_with (at_builtin; go_loud (refine app_sl rfl _ _ 22 rfl G 34 iu (.agg #[.int .u64 0, .int .u64 0, .int .u64 0, .int .u64 0, .int .u64 0, .int .u64 0, .int .u64 0, .int .u64 0, .int .u64 0, .int .u64 0, .int .u64 0, .int .u64 0, .int .u64 0, .int .u64 0, .int .u64 0, .int .u64 0, .int .u64 0, .int .u64 0, .int .u64 0, .int .u64 0, .int .u64 0, .int .u64 0, .int .u64 0, .int .u64 0, .int .i64 0]) 25 200 Try.underlying22 hiu hu0 hu1 hu2 rfl (by decide) _ 0 [] rfl hown8 enc25 en25_len A n c l hS8.out hc rfl en25_one h863 hb81 hbw8 ?_))
  intro v9 w9 hown9 hg9
  replace hz : Below w0.heap.size w0 w9 := hz.grown hg9 (by omega) (fun q hq => Nat.le_trans hbs8 (own_gt hown8 q hq))
  have hbw9 : G ≤ w9.heap.size := Nat.le_trans hbw8 hg9.size
  replace hown9 : w9.ownsRow G 34 25 v9 n (l.flatMap enc25) := by simpa using hown9
  clear hg9 hown8 hbw8 h863 hb81 hS8
  go_upto_region 9 with fail
  -- one more
  have hownA := own_bel hown9 (Below.al (Below.refl _ w9) (.cells (enA e77) 34))
  have hbsA : G ≤ (w9.alloc (.cells (enA e77) 34)).heap.size := by rw [al_size]; omega
  have hzA : Below w0.heap.size w0 (w9.alloc (.cells (enA e77) 34)) := bel_via hz (Below.al (Below.refl _ w9) _)
  have h1 := Lib.hid (en_news w9 e77 34)
  have h2 := Lib.hid (en25_one e77)
  have hb91 : (n + 1) * 200 ≤ 140737488355328 := by omega
  have h963 : n + 1 ≤ maxLen := by unfold maxLen; omega
  go_wp2_with (at_builtin; go_loud (refine wpList_append_own _ rfl _ _ 22 rfl G 34 iu (.agg #[.int .u64 0, .int .u64 0, .int .u64 0, .int .u64 0, .int .u64 0, .int .u64 0, .int .u64 0, .int .u64 0, .int .u64 0, .int .u64 0, .int .u64 0, .int .u64 0, .int .u64 0, .int .u64 0, .int .u64 0, .int .u64 0, .int .u64 0, .int .u64 0, .int .u64 0, .int .u64 0, .int .u64 0, .int .u64 0, .int .u64 0, .int .u64 0, .int .i64 0]) 25 200 Try.underlying22 hiu hu0 hu1 hu2 rfl (by decide) _ _ _ rfl hownA ⟨w9.heap.size, 0, none⟩ 1 1 (enc25 e77) rfl rfl h1.out h2.out h963 hb91 hbsA ?_))
  intro v10 w10 hown10 hg10 _
  replace hz : Below w0.heap.size w0 w10 := hzA.grown hg10 (by omega) (fun q hq => Nat.le_trans hbs8 (own_gt hownA q hq))
  clear hg10 hownA hbsA hzA h1 h2 hb91 h963 hown9 hbw9
  rw [show l.flatMap enc25 ++ enc25 e77 = (l ++ [e77]).flatMap enc25 by simp] at hown10
  obtain ⟨A2, c2, rfl, hSm, _⟩ := sl_of_own (k := 25) (enc := enc25) en25_len hown10 (by rw [List.length_append, HLEN.out]; rfl)
  have hc2 := own_cap hown10
  obtain ⟨g, off, rfl, hlg, hrm⟩ := hSm.row (by omega)
  have HLEN2 := HLEN.out
  rw [← HLEN2] at hSm
  have hrow : ∀ j x, (l ++ [e77])[j]? = some x → ∀ i v, (enc25 x)[i]? = some v → w10.cell? ⟨g, off + j * 25 + i, none⟩ = some v := hrm
  have m77 := hrow n e77 (by rw [← HLEN2]; simp) 24 _ rfl
  have HROW := Lib.hid hrow
  rw [HLEN2] at hSm
  clear hrow hrm hown10 HLEN2
  replace hA := blkB hz HA0.out
  have hn0 : (n : Int) ≤ (c2 : Int) := by omega
  have hnn : ¬ ((c2 : Int) < (n : Int)) := by omega
  go_upto_region 10 with fail
  have hC1 : ∀ w', Below w10.heap.size w10 w' → w'.heap[w.heap.size]? = some (.cells C 30) := fun w' h => blkB h hA
  refine wp_region_held (S := fun w' => Below w10.heap.size w10 w' ∧ w'.heap[w.heap.size]? = some (.cells C 30)) (by kernel_rfl) ?_
  change wpAnyH _ _ _ _ _ _ _ _ (World.drew _)
  have hS0 := keep0 hC1
  generalize w10.drew = wd at hS0 ⊢
  refine wpAnyH_take (i := 0) (oi := ⟨some 60, _, _, _, _, _⟩) (v := ?_) rfl (by kernel_rfl) (by kernel_rfl) (by kernel_rfl) (fun _ _ _ h => h) (Or.inl ⟨by rfl, ?_⟩) hS0 ?_
  rotate_left 1
  · intro W hW
    go_simp
    with_reducible rfl
  refine wpAnyH_take (i := 1) (oi := ⟨some 61, _, _, _, _, _⟩) (v := ?_) rfl (by kernel_rfl) (by kernel_rfl) (by kernel_rfl) (fun _ _ _ h => h) (Or.inl ⟨by rfl, ?_⟩) hS0 ?_
  rotate_left 1
  · intro W hW
    go_simp
    with_reducible rfl
  refine wpAnyH_take (i := 2) (oi := ⟨some 62, _, _, _, _, _⟩) (v := ?_) rfl (by kernel_rfl) (by kernel_rfl) (by kernel_rfl) (fun _ _ _ h => h) (Or.inl ⟨by rfl, ?_⟩) hS0 ?_
  rotate_left 1
  · intro W hW
    go_simp
    with_reducible rfl
  refine wpAnyH_take (i := 3) (oi := ⟨some 63, _, _, _, _, _⟩) (v := ?_) rfl (by kernel_rfl) (by kernel_rfl) (by kernel_rfl) (fun _ _ _ h => h) (Or.inl ⟨by rfl, ?_⟩) hS0 ?_
  rotate_left 1
  · intro W hW
    go_simp
    with_reducible rfl
  refine wpAnyH_take (i := 4) (oi := ⟨some 64, _, _, _, _, _⟩) (v := .agg C) rfl (by kernel_rfl) (by kernel_rfl) (by kernel_rfl) (fun _ _ _ h => h) (Or.inl ⟨by rfl, fun W hW => exec_row 30 (.tmp 5) rfl w.heap.size rfl 30 C (0, 0) _ hW.2 Try.underlying30 rfl iC.out⟩) hS0 ?_
  refine wpAnyH_take (i := 5) (oi := ⟨some 65, _, _, _, _, _⟩) (v := ?_) rfl (by kernel_rfl) (by kernel_rfl) (by kernel_rfl) (fun _ _ _ h => h) (Or.inl ⟨by rfl, ?_⟩) hS0 ?_
  rotate_left 1
  · intro W hW
    go_simp
    with_reducible rfl
  simp only [Act.put, List.setIfInBounds_toArray, List.set_cons_succ, List.set_cons_zero]
  refine wpAnyH_ready (rs := [6]) (by kernel_rfl) (by simp) ?_
  refine AllReadyH.cons (o := ⟨some 66, _, _, _, _, _⟩) rfl (fun K hK => ?_) AllReadyH.nil
  go_simp
  go_at_call 13
  go_loud (with_reducible refine (LP _ _ _ ((hSm.keep hS0.1).cutl HLEN.out)).mono ?_)
  rintro e w20 ⟨AT, cT, rfl, hcT, hnT, hST, hb20⟩
  have hS20 := keepB hC1 hb20 hS0
  refine hK.out _ _ hS20 (fun _ => ?_)
  clear hK K
  refine wpAnyH_take (i := 7) (oi := ⟨some 16, _, _, _, _, _⟩) (v := ?_) rfl (by kernel_rfl) (by kernel_rfl) (by kernel_rfl) (fun _ _ _ h => h) (Or.inl ⟨by rfl, ?_⟩) hS20 ?_
  rotate_left 1
  · intro W hW
    go_simp
    with_reducible rfl
  refine wpAnyH_done (by kernel_rfl) ?_ _
  simp only [Act.put, List.setIfInBounds_toArray, List.set_cons_succ, List.set_cons_zero]
  have hz20 : Below w0.heap.size w0 w20 := bel_via hz hS20.1
  replace hA := blkB hz20 HA0.out
  have hS20l := HS0.out.keep hz20
  replace m77 := keepc hS20.1 m77
  have HROW : Hid (∀ j x, (l ++ [e77])[j]? = some x → ∀ i v, (enc25 x)[i]? = some v → w20.cell? ⟨g, off + j * 25 + i, none⟩ = some v) := Lib.hid fun j x hj i v hi => keepc hS20.1 (HROW.out j x hj i v hi)
  clear hS20 hC1 hSm hz hb20 hlg hcT hnT hS0 hc2
  obtain ⟨wz, hwz⟩ : ∃ x, x = w20 := ⟨_, rfl⟩
  subst hwz
  have hdl : decide (n < n + 1) = true := by simp
  go_upto_region 12 with (first | (refine wpList_load_row rfl 30 (.tmp 5) rfl w.heap.size rfl 30 C (0, 0) _ hA Try.underlying30 rfl iC.out ?_) | (go_at_call 14; go_loud (with_reducible refine (LR _ hS20l).mono ?_); rintro e wy ⟨AU, cU, rfl, hcU, hnU, hSU, hb⟩; replace hST := hST.keep hb; replace m77 := keepc hb m77; replace hz20 := bel_via hz20 hb; have HROW : Hid (∀ j x, (l ++ [e77])[j]? = some x → ∀ i v, (enc25 x)[i]? = some v → wy.cell? ⟨g, off + j * 25 + i, none⟩ = some v) := Lib.hid (fun j x hj i v hi => keepc hb (HROW.out j x hj i v hi)); clear hb hS20l hcU hnU; obtain ⟨wz, hwz⟩ : ∃ x, x = wy := ⟨_, rfl⟩; subst hwz))
  obtain ⟨w1, hw1⟩ : ∃ x, x = wz := ⟨_, rfl⟩
  subst hw1
  go_wp2_with fail
  have FIN : ∀ W, Below w1.heap.size w1 W → M (.returned (.bool true)) W := fun W h => by rw [HM.out]; exact ⟨rfl, bel_via b0 (bel_via hz20 h)⟩
  have FIN1 := Lib.hid FIN
  clear FIN m77
  go_loopw [18] (fun v18 wr => ∃ i : Nat, v18 = .int .i64 i ∧ i ≤ LL.length ∧ Below w1.heap.size w1 wr) (fun v18 _ => LL.length - (intOf v18).toNat)
  case atStart => exact ⟨0, rfl, by omega, Below.refl _ _⟩
  case round =>
    obtain ⟨i, rfl, hi, bw⟩ := hrel
    by_cases hlt : i < LL.length
    · obtain ⟨y, hy⟩ : ∃ x, LL[i]? = some x := ⟨_, List.getElem?_eq_getElem hlt⟩
      obtain ⟨b1, o1, hA1, _, hr1⟩ := hST.row (by omega)
      obtain ⟨b2, o2, hA2, _, hr2⟩ := hSU.row (by omega)
      have e0 := keepc bw (hr1 i y hy 0 _ rfl)
      have e1 := keepc bw (hr1 i y hy 1 _ rfl)
      have f0 := keepc bw (hr2 i y hy 0 _ rfl)
      have f1 := keepc bw (hr2 i y hy 1 _ rfl)
      simp only [Nat.add_zero] at e0 f0
      subst hA1
      subst hA2
      have nea := fun W : World => (neq_addr y y W).trans (by rw [show decide (y = y) = true by simp]; rfl : _ = Result.ok (Value.bool false) W)
      have hlti : (i : Int) < (LL.length : Int) := by omega
      have hdn : decide (i < LL.length) = true := by simp [hlt]
      clear hr1 hr2 hy
      go_wp2_with fail
      have k_e0 := cell_regrown e0
      have k_e1 := cell_regrown e1
      have k_f0 := cell_regrown f0
      have k_f1 := cell_regrown f1
      clear e0 e1 f0 f1
      refine wp_region_quiet_below (by kernel_rfl) (by kernel_rfl) ?_
      repeat (first | go_big_quiet_skip | quiet_step (fail))
      refine wpQuiet_nil ?_
      intro _ hw'
      obtain ⟨⟨dq, osq⟩, hw''⟩ := hw'
      subst hw''
      have hbq := below_regrown wr dq osq
      obtain ⟨wq, hwy⟩ : ∃ x, x = grow (redrawn wr dq) osq := ⟨_, rfl⟩
      rw [← hwy] at hbq ⊢
      clear hwy
      go_wp2_with fail
      refine ⟨?_, by simp [intOf]; omega⟩
      first | exact ⟨i + 1, by simp, by omega, bel_via bw hbq⟩ | ((repeat apply Exists.intro); exact ⟨⟨i + 1, by simp, by omega, bel_via bw hbq⟩, rfl⟩)
    · obtain rfl : i = LL.length := by omega
      have hd0 : decide (LL.length < LL.length) = false := by simp
      have hdi : decide ((LL.length : Int) < (LL.length : Int)) = false := by simp
      have hz2 := bel_via hz20 bw
      have hS2 := HS0.out.keep hz2
      have HROW2 : Hid (∀ j x, (l ++ [e77])[j]? = some x → ∀ i v, (enc25 x)[i]? = some v → wr.cell? ⟨g, off + j * 25 + i, none⟩ = some v) := Lib.hid fun j x hj i v hi => keepc bw (HROW.out j x hj i v hi)
      have FIN : ∀ W, Below wr.heap.size wr W → M (.returned (.bool true)) W := fun W h => FIN1.out W (bel_via bw h)
      have FIN2 := Lib.hid FIN
      clear FIN FIN1 HROW hz2 hST hSU bw
      obtain ⟨w2, hw2⟩ : ∃ x, x = wr := ⟨_, rfl⟩
      subst hw2
      go_wp2_with fail
      go_loopw [19] (fun v19 wr => ∃ i : Nat, v19 = .int .i64 i ∧ i ≤ n ∧ Below w2.heap.size w2 wr) (fun v19 _ => n - (intOf v19).toNat)
      case atStart => exact ⟨0, rfl, by omega, Below.refl _ _⟩
      case round =>
        obtain ⟨i, rfl, hi, bw⟩ := hrel
        by_cases hlt : i < n
        · have hml : i < l.length := by rw [HLEN.out]; exact hlt
          obtain ⟨y, hy⟩ : ∃ y, l[i]? = some y := ⟨_, List.getElem?_eq_getElem hml⟩
          obtain ⟨b', off', hAA, hbl, hrow⟩ := hS2.row (by omega)
          have c1 := en_row hrow hy
          have c2' := en_row HROW2.out (show (l ++ [e77])[i]? = some y by rw [List.getElem?_append_left hml]; exact hy)
          have nee := fun W : World => neq_en y y W
          rw [eqE_refl] at nee
          have iE := inf47 y
          generalize enA y = EA at *
          have iE := Lib.hid iE
          have d1 := Lib.hid (fun j v h => keepc bw (c1 j v h))
          have d2 := Lib.hid (fun j v h => keepc bw (c2' j v h))
          subst hAA
          have hlti : (i : Int) < (n : Int) := by omega
          have hdn : decide (i < n) = true := by simp [hlt]
          have hdn1 : decide (i < n + 1) = true := by simp; omega
          have hdn2 : (i : Int) < (n : Int) + 1 := by omega
          have hdn3 : i < n + 1 := by omega
          clear hrow hy c1 c2'
          go_wp2_with fail
          refine wp_region_quiet_below (by kernel_rfl) (by kernel_rfl) ?_
          repeat (first | go_big_quiet_skip | (refine quiet_load_cells (by rfl) 34 (.tmp 108) rfl ⟨g, off + i * 25, none⟩ rfl EA _ (rg_cells d2.out) Try.underlying34 rfl iE.out ?_; simp only [Act.put, List.setIfInBounds_toArray, List.set_cons_succ, List.set_cons_zero]) | (refine quiet_load_cells (by rfl) 34 (.tmp 112) rfl ⟨b', off' + i * 25, none⟩ rfl EA _ (rg_cells d1.out) Try.underlying34 rfl iE.out ?_; simp only [Act.put, List.setIfInBounds_toArray, List.set_cons_succ, List.set_cons_zero]) | quiet_step (fail))
          refine wpQuiet_nil ?_
          intro _ hw'
          obtain ⟨⟨dq, osq⟩, hw''⟩ := hw'
          subst hw''
          have hbq := below_regrown wr dq osq
          obtain ⟨wq, hwy⟩ : ∃ x, x = grow (redrawn wr dq) osq := ⟨_, rfl⟩
          rw [← hwy] at hbq ⊢
          clear hwy
          go_wp2_with fail
          refine ⟨?_, by simp [intOf]; omega⟩
          first | exact ⟨i + 1, by simp, by omega, bel_via bw hbq⟩ | ((repeat apply Exists.intro); exact ⟨⟨i + 1, by simp, by omega, bel_via bw hbq⟩, rfl⟩)
        · obtain rfl : i = n := by omega
          have hd0 : decide (i < i) = false := by simp
          have hdi : decide ((i : Int) < (i : Int)) = false := by simp
          go_wp2_with fail
          first | exact FIN2.out _ bw | (go_ret; exact FIN2.out _ bw)
end Go.Proofs.Ytceillkifchkdaa
