/- ClassifyBehind: the walk; by-name template (gen_kbe.py). -/
import Derived.Test.YthjhioffgbnlaaaKBeP
import Derived.Test.YthjhioffgbnlaaaKFiP
import Derived.Test.YthjhioffgbnlaaaKRBuild
namespace Go.Proofs.Ythjhioffgbnlaaa
open Go.RowKit Go.Lib Go.Sort
set_option linter.unusedVariables false
set_option linter.unusedSimpArgs false

def eF : EN := ⟨fun _ => full4, 1000⟩
theorem wpList_load_cells_on {P : Program} {ops : Array Oper} {rest : List Oper} {o : Oper} {a : Act} {w : World} {Q : Exit → Act → World → Prop} (hgd : Region.wanted o (yielded ops a.tmps) = true) (ty : TypeId) (x : Operand) (ho : o.op = .load ty x)
    (ad : Addr) (hx : a.eval x = .pointer (some ad)) (cs : Array Value) (d : TypeDesc) (hg : ∀ j v, cs.toList[j]? = some v → w.cell? (ad.add j) = some v)
    (hu : P.underlying ty = some d) (hd : (match d with | .struct _ | .array _ _ => true | _ => false) = true) (hi : (P.info? ty).map (·.size) = some cs.size)
    (h : wpList P ops Q rest (a.put o.dst (.agg cs)) w) : wpList P ops Q (o :: rest) a w :=
  wpList_step fun K hK => by
    rw [if_pos hgd]
    unfold Oper.wp
    rw [exec_cells ty x ho ad hx cs d hg hu hd hi]
    simp [go_sem]
    exact hK _ _ h
theorem rfull_lit (w : World) : Calls Try.prog 15 #[] w fun e w' => e = .returned (.agg #[.int .u64 0, .int .u64 0, .int .u64 18446744073709551615, .int .u64 18446744073709551615, .int .u64 0, .int .u64 0, .int .u64 18446744073709551615, .int .u64 18446744073709551615, .int .u64 0, .int .u64 0, .int .u64 18446744073709551615, .int .u64 18446744073709551615, .int .u64 0, .int .u64 0, .int .u64 18446744073709551615, .int .u64 18446744073709551615, .int .u64 0, .int .u64 0, .int .u64 18446744073709551615, .int .u64 18446744073709551615, .int .u64 0, .int .u64 0, .int .u64 18446744073709551615, .int .u64 18446744073709551615]) ∧ Below w.heap.size w w' := rfull_any w
theorem eF_len (l : List EN) : (l ++ [eF]).length = l.length + 1 := by simp
theorem eF_wb (l : List EN) (hw : ∀ e ∈ l, WB e.bx) : ∀ e ∈ l ++ [eF], WB e.bx := fun e he => by
  rcases List.mem_append.1 he with h | h
  · exact hw e h
  · rw [List.mem_singleton] at h; subst h; exact wb_full
theorem app_wb {l m : List EN} (h1 : ∀ e ∈ l, WB e.bx) (h2 : ∀ e ∈ m, WB e.bx) : ∀ e ∈ l ++ m, WB e.bx := fun e he => (List.mem_append.1 he).elim (h1 e) (h2 e)
theorem eF_tree (l m : List EN) : treeP (l ++ [eF] ++ m) = treeP (l ++ [eF]) := by
  rw [List.append_assoc]; exact tree_behind l eF rfl m
theorem eF_left (l m : List EN) : (leftP fullB (l ++ [eF] ++ m)).length ≤ l.length + 1 := by
  rw [List.append_assoc]; exact left_behind_len l eF rfl m
theorem eF_left0 (l : List EN) : (leftP fullB (l ++ [eF])).length ≤ l.length + 1 := left_behind_len l eF rfl []
set_option maxRecDepth 100000 in
set_option maxHeartbeats 8000000 in
theorem cbeh_core (A : Option Addr) (n c : Nat) (l : List EN) (AM : Option Addr) (nm cm : Nat) (more : List EN) (AP : Option Addr) (np cp : Nat) (pts : List (Nat → P2)) (hn : n ≤ 256) (hnm : nm ≤ 256) (hnp : np ≤ 64) (w : World) (hS : Sl w 25 enc25 A n l) (hSM : Sl w 25 enc25 AM nm more) (hSP : Sl w 12 (fun p : Nat → P2 => (ptc p).toList) AP np pts) (hw : ∀ e ∈ l, WB e.bx) (hwm : ∀ e ∈ more, WB e.bx) (hc : A = none → c = 0) (hcm : AM = none → cm = 0) (hwp : ∀ p ∈ pts, WP p) :
    Calls Try.prog 6 #[.slice A n c, .slice AM nm cm, .slice AP np cp] w (LawPost w) := by
  obtain ⟨M, hM⟩ : ∃ M, M = LawPost w := ⟨_, rfl⟩
  rw [← hM]
  have FIN0 : ∀ W, Below w.heap.size w W → M (.returned (.bool true)) W := fun W h => by rw [hM]; exact ⟨rfl, h⟩
  have FIN := Lib.hid FIN0
  clear FIN0 hM
  obtain ⟨iu, hiu, hu0, hu1, hu2⟩ := info_parts en_info
  have h1 : decide ((256 : Int) < (n : Int)) = false := by simp; omega
  have h2 : decide ((256 : Int) < (nm : Int)) = false := by simp; omega
  have h3 : decide ((64 : Int) < (np : Int)) = false := by simp; omega
  have HLEN := Lib.hid hS.len
  have HLENM := Lib.hid hSM.len
  have hz := Below.refl w.heap.size w
  go_enter Try.func6, Try.ntmps6
  go_upto_region 3 with fail
  go_upto_region 4 with (refine wpList_bs0 rfl rfl ?_)
  -- an empty row of one's own
  have hown8 : (w.alloc (.cells #[] 32)).ownsRow w.heap.size 32 25 (.slice (some ⟨w.heap.size, 0, none⟩) 0 0) 0 ([] : List Value) := World.ownsRow_made w #[] 0 (Nat.le_refl _) (by unfold maxLen; omega) rfl
  replace hz := bel_via hz (Below.al (Below.refl _ w) (.cells #[] 32))
  obtain ⟨w8, hw8⟩ : ∃ x, x = w.alloc (.cells #[] 32) := ⟨_, rfl⟩
  rw [← hw8] at hown8 hz
  have hbw8 : w.heap.size ≤ w8.heap.size := by rw [hw8, al_size]; omega
  rw [← hw8]
  obtain ⟨G, hG⟩ : ∃ G, G = w.heap.size := ⟨_, rfl⟩
  have hGw : w.heap.size ≤ G := by omega
  rw [← hG] at hown8 hbw8 ⊢
  clear hw8 hG
  have hS8 := Lib.hid (hS.keep hz)
  have hb81 : (0 + n) * 200 ≤ 140737488355328 := by omega
  have h863 : 0 + n ≤ maxLen := by unfold maxLen; omega
  go_wp2_with (at_builtin; go_loud (refine app_sl rfl _ _ 22 rfl G 32 iu (.agg #[.int .u64 0, .int .u64 0, .int .u64 0, .int .u64 0, .int .u64 0, .int .u64 0, .int .u64 0, .int .u64 0, .int .u64 0, .int .u64 0, .int .u64 0, .int .u64 0, .int .u64 0, .int .u64 0, .int .u64 0, .int .u64 0, .int .u64 0, .int .u64 0, .int .u64 0, .int .u64 0, .int .u64 0, .int .u64 0, .int .u64 0, .int .u64 0, .int .i64 0]) 25 200 Try.underlying22 hiu hu0 hu1 hu2 rfl (by decide) _ (0) ([]) rfl hown8 enc25 en25_len A n c (l) hS8.out hc rfl en25_one h863 hb81 hbw8 ?_))
  intro v9 w9 hown9 hg9
  replace hz : Below w.heap.size w w9 := hz.grown hg9 (by omega) (fun q hq => Nat.le_trans hGw (own_gt hown8 q hq))
  have hbw9 : G ≤ w9.heap.size := Nat.le_trans hbw8 hg9.size
  replace hown9 : w9.ownsRow G 32 25 v9 n (l.flatMap enc25) := by simpa using hown9
  clear hg9 hown8 hbw8 h863 hb81 hS8
  go_upto_region 5 with fail
  have cf := fun (W : World) => rfull_lit W
  go_wp2_with (first | (with_reducible refine stop_op (o := ⟨some 41, _, _, _, _, _⟩) ?_) | (go_at_call 15; with_reducible refine (cf _).mono ?_; rintro e w1 ⟨rfl, hbf⟩; replace hown9 := own_bel hown9 hbf; replace hz := bel_via hz hbf; replace hbw9 := Nat.le_trans hbw9 hbf.size; clear hbf))
  refine Lib.hid ?_
  clear cf
  -- the full one behind them
  have hownA := own_bel hown9 (Below.al (Below.refl _ w1) (.cells (enA eF) 32))
  have hbsA : G ≤ (w1.alloc (.cells (enA eF) 32)).heap.size := by rw [al_size]; omega
  have hzA : Below w.heap.size w (w1.alloc (.cells (enA eF) 32)) := bel_via hz (Below.al (Below.refl _ w1) _)
  have h1 := Lib.hid (en_news w1 eF 32)
  have h2 := Lib.hid (en25_one eF)
  have hb91 : (n + 1) * 200 ≤ 140737488355328 := by omega
  have h963 : n + 1 ≤ maxLen := by unfold maxLen; omega
  go_wp2_with (at_builtin; go_loud (refine wpList_append_own _ rfl _ _ 22 rfl G 32 iu (.agg #[.int .u64 0, .int .u64 0, .int .u64 0, .int .u64 0, .int .u64 0, .int .u64 0, .int .u64 0, .int .u64 0, .int .u64 0, .int .u64 0, .int .u64 0, .int .u64 0, .int .u64 0, .int .u64 0, .int .u64 0, .int .u64 0, .int .u64 0, .int .u64 0, .int .u64 0, .int .u64 0, .int .u64 0, .int .u64 0, .int .u64 0, .int .u64 0, .int .i64 0]) 25 200 Try.underlying22 hiu hu0 hu1 hu2 rfl (by decide) _ _ _ rfl hownA ⟨w1.heap.size, 0, none⟩ 1 1 (enc25 eF) rfl rfl h1.out h2.out h963 hb91 hbsA ?_))
  intro v10 w10 hown10 hg10 _
  replace hz : Below w.heap.size w w10 := hzA.grown hg10 (by omega) (fun q hq => Nat.le_trans hGw (own_gt hownA q hq))
  clear hg10 hownA hbsA hzA h1 h2 hb91 h963 hown9 hbw9
  rw [show l.flatMap enc25 ++ enc25 eF = (l ++ [eF]).flatMap enc25 by simp] at hown10
  obtain ⟨A2, c2, rfl, hSa, _⟩ := sl_of_own (k := 25) (enc := enc25) en25_len hown10 (by rw [List.length_append, HLEN.out]; rfl)
  have hc2 : A2 = none → c2 = 0 := fun h => by subst h; exact own_nil hown10
  clear hown10
  have hwa := eF_wb l hw
  have q1 := eF_left0 l
  have q2 := eF_left l more
  have q3 := eF_tree l more
  have hwb := app_wb hwa hwm
  rw [HLEN.out] at q1 q2
  generalize l ++ [eF] = la at *
  obtain ⟨na, hna⟩ : ∃ x, x = n + 1 := ⟨_, rfl⟩
  rw [← hna] at hSa q1 q2 ⊢
  have hna1 : na ≤ 257 := by omega
  clear hw hwm hS hna
  go_upto_region 6 with fail
  go_upto_region 7 with (refine wpList_bs0 rfl rfl ?_)
  have hown12 : (w10.alloc (.cells #[] 32)).ownsRow w10.heap.size 32 25 (.slice (some ⟨w10.heap.size, 0, none⟩) 0 0) 0 ([] : List Value) := World.ownsRow_made w10 #[] 0 (Nat.le_refl _) (by unfold maxLen; omega) rfl
  have hy := Below.al (Below.refl w10.heap.size w10) (.cells #[] 32)
  obtain ⟨w12, hw12⟩ : ∃ x, x = w10.alloc (.cells #[] 32) := ⟨_, rfl⟩
  rw [← hw12] at hown12 hy
  have hbw12 : w10.heap.size ≤ w12.heap.size := by rw [hw12, al_size]; omega
  rw [← hw12]
  obtain ⟨G2, hG2⟩ : ∃ G, G = w10.heap.size := ⟨_, rfl⟩
  have hGw2 : w10.heap.size ≤ G2 := by omega
  rw [← hG2] at hown12 hbw12 ⊢
  clear hw12 hG2
  have hS12 := Lib.hid (hSa.keep hy)
  have hb121 : (0 + na) * 200 ≤ 140737488355328 := by omega
  have h1263 : 0 + na ≤ maxLen := by unfold maxLen; omega
  go_wp2_with (at_builtin; go_loud (refine app_sl rfl _ _ 22 rfl G2 32 iu (.agg #[.int .u64 0, .int .u64 0, .int .u64 0, .int .u64 0, .int .u64 0, .int .u64 0, .int .u64 0, .int .u64 0, .int .u64 0, .int .u64 0, .int .u64 0, .int .u64 0, .int .u64 0, .int .u64 0, .int .u64 0, .int .u64 0, .int .u64 0, .int .u64 0, .int .u64 0, .int .u64 0, .int .u64 0, .int .u64 0, .int .u64 0, .int .u64 0, .int .i64 0]) 25 200 Try.underlying22 hiu hu0 hu1 hu2 rfl (by decide) _ (0) ([]) rfl hown12 enc25 en25_len A2 na c2 (la) hS12.out hc2 rfl en25_one h1263 hb121 hbw12 ?_))
  intro v13 w13 hown13 hg13
  replace hy : Below w10.heap.size w10 w13 := hy.grown hg13 (by omega) (fun q hq => Nat.le_trans hGw2 (own_gt hown12 q hq))
  have hbw13 : G2 ≤ w13.heap.size := Nat.le_trans hbw12 hg13.size
  replace hown13 : w13.ownsRow G2 32 25 v13 na (la.flatMap enc25) := by simpa using hown13
  clear hg13 hown12 hbw12 h1263 hb121 hS12
  go_upto_region 8 with fail
  have hSM13 := Lib.hid (hSM.keep (bel_via hz hy))
  have hb131 : (na + nm) * 200 ≤ 140737488355328 := by omega
  have h1363 : na + nm ≤ maxLen := by unfold maxLen; omega
  go_wp2_with (at_builtin; go_loud (refine app_sl rfl _ _ 22 rfl G2 32 iu (.agg #[.int .u64 0, .int .u64 0, .int .u64 0, .int .u64 0, .int .u64 0, .int .u64 0, .int .u64 0, .int .u64 0, .int .u64 0, .int .u64 0, .int .u64 0, .int .u64 0, .int .u64 0, .int .u64 0, .int .u64 0, .int .u64 0, .int .u64 0, .int .u64 0, .int .u64 0, .int .u64 0, .int .u64 0, .int .u64 0, .int .u64 0, .int .u64 0, .int .i64 0]) 25 200 Try.underlying22 hiu hu0 hu1 hu2 rfl (by decide) _ (na) (la.flatMap enc25) rfl hown13 enc25 en25_len AM nm cm (more) hSM13.out hcm rfl en25_one h1363 hb131 hbw13 ?_))
  intro v14 w14 hown14 hg14
  replace hy : Below w10.heap.size w10 w14 := hy.grown hg14 (by omega) (fun q hq => Nat.le_trans hGw2 (own_gt hown13 q hq))
  rw [show la.flatMap enc25 ++ more.flatMap enc25 = (la ++ more).flatMap enc25 by simp] at hown14
  have hlla := hSa.len
  obtain ⟨A3, c3, rfl, hSb, _⟩ := sl_of_own (k := 25) (enc := enc25) en25_len hown14 (by rw [List.length_append, hlla, HLENM.out])
  clear hg14 hown13 hbw13 h1363 hb131 hSM13 hown14 hSM
  replace hSa := hSa.keep hy
  replace hSP := hSP.keep (bel_via hz hy)
  have bz := bel_via hz hy
  clear hy hz hlla HLEN HLENM hGw hGw2 hiu hu0 hu1 hu2
  generalize la ++ more = lb at *
  obtain ⟨nb, hnb⟩ : ∃ x, x = na + nm := ⟨_, rfl⟩
  rw [← hnb] at hSb ⊢
  have hnb1 : nb ≤ 600 := by omega
  clear hnb
  have ba := fun (W : World) (h : Sl W 25 enc25 A2 na la) => build_any A2 na c2 la (by omega) (by omega) hwa W h
  have bb := fun (W : World) (h : Sl W 25 enc25 A3 nb lb) => build_any A3 nb c3 lb (by omega) (by omega) hwb W h
  have rb := fun (W : World) (h : Sl W 25 enc25 A2 na la) => rbuild_any A2 na c2 la (by omega) (by omega) hc2 hwa W h
  rw [q3] at bb
  have gf := fun (p : Nat → P2) (hp : WP p) (t : TN) (m : Nat) (h : treeP la = some (t, m)) => grow_find hp 23 fullB wb_full la hwa 512 t m h (hp_full hp)
  have gl := fun (t : TN) (m : Nat) (h : treeP la = some (t, m)) => grow_leafs 23 fullB la 512 t m h
  have gc := fun (t : TN) (m : Nat) (h : treeP la = some (t, m)) => grow_count 23 fullB la 512 t m h
  obtain ⟨R, hR⟩ : ∃ R, R = treeP la := ⟨_, rfl⟩
  simp only [← hR] at ba bb rb gf gl gc
  clear hR hwa hwb q1 q2 q3
  obtain ⟨wz, hwz⟩ : ∃ x, x = w14 := ⟨_, rfl⟩
  subst hwz
  cases R with
  | none =>
    go_wp2_with (first | (go_at_call 7; go_loud (with_reducible refine (ba _ hSa).mono ?_); rintro e w2 ⟨rfl, hb⟩; replace hSa := hSa.keep hb; replace hSb := hSb.keep hb; replace bz := bel_via bz hb; clear hb) | (go_at_call 7; go_loud (with_reducible refine (bb _ hSb).mono ?_); rintro e w3 ⟨rfl, hb⟩; replace hSa := hSa.keep hb; replace bz := bel_via bz hb; clear hb) | (go_at_call 8; go_loud (with_reducible refine (rb _ hSa).mono ?_); rintro e w4 ⟨rfl, hb⟩; replace bz := bel_via bz hb; clear hb))
    first | exact FIN.out _ bz | (go_ret; exact FIN.out _ bz)
  | some q =>
    obtain ⟨t, m⟩ := q
    have hcnt := gc t m rfl
    have hpos := t.count_pos
    have hlf := gl t m rfl
    have hff := fun (p : Nat → P2) (hp : WP p) => gf p hp t m rfl
    have hbig : t.count ≤ 4096 := by omega
    have hno := fun (L : List EN) (B : Nat) (W : World) (h : TreeAt W B L t) => nodes_any B L t W h hbig
    have hfd := fun (p : Nat → P2) (L : List EN) (B : Nat) (W : World) (h : TreeAt W B L t) => find_any p B L t hbig (fun q hq => Nat.le_trans (hlf q hq) (by omega)) W h
    have hfi := fun (p : Nat → P2) (W : World) (h : Sl W 25 enc25 A2 na la) => first_any p A2 na c2 la (by omega) W h
    have hff := Lib.hid hff
    clear gf gl gc hlf
    go_upto_region 16 with (first | (go_at_call 7; go_loud (with_reducible refine (ba _ hSa).mono ?_); rintro e w2 ⟨Ba, rfl, _, hTa, hb⟩; replace hSa := hSa.keep hb; replace hSb := hSb.keep hb; replace hSP := hSP.keep hb; replace bz := bel_via bz hb; clear hb) | (go_at_call 7; go_loud (with_reducible refine (bb _ hSb).mono ?_); rintro e w3 ⟨Bb, rfl, _, hTb, hb⟩; replace hSa := hSa.keep hb; replace hSP := hSP.keep hb; replace hTa := hTa.keep hb; replace bz := bel_via bz hb; clear hb) | (go_at_call 8; go_loud (with_reducible refine (rb _ hSa).mono ?_); rintro e w4 ⟨TT, rfl, _, _, hb⟩; replace hSa := hSa.keep hb; replace hSP := hSP.keep hb; replace hTa := hTa.keep hb; replace hTb := hTb.keep hb; replace bz := bel_via bz hb; clear hb))
    clear ba bb rb hSb
    have hnn : ((t.count : Int) != (t.count : Int)) = false := by simp
    generalize t.count = nn at hno hnn
    go_wp2_with (first | (go_at_call 16; go_loud (with_reducible refine (hno _ _ _ hTa).mono ?_); rintro e w5 ⟨rfl, hb⟩; replace hSa := hSa.keep hb; replace hSP := hSP.keep hb; replace hTa := hTa.keep hb; replace hTb := hTb.keep hb; replace bz := bel_via bz hb; clear hb) | (go_at_call 16; go_loud (with_reducible refine (hno _ _ _ hTb).mono ?_); rintro e w6 ⟨rfl, hb⟩; replace hSa := hSa.keep hb; replace hSP := hSP.keep hb; replace hTa := hTa.keep hb; replace hTb := hTb.keep hb; replace bz := bel_via bz hb; clear hb))
    go_loopw [15] (fun v15 wr => ∃ i : Nat, v15 = .int .i64 i ∧ i ≤ np ∧ Below w6.heap.size w6 wr) (fun v15 _ => np - (intOf v15).toNat)
    case atStart => exact ⟨0, rfl, by omega, Below.refl _ _⟩
    case round =>
      obtain ⟨i, rfl, hi, bw⟩ := hrel
      by_cases hlt : i < np
      · have hml : i < pts.length := by rw [hSP.len]; exact hlt
        obtain ⟨p, hp⟩ : ∃ p, pts[i]? = some p := ⟨_, List.getElem?_eq_getElem hml⟩
        obtain ⟨b1, o1, hA1, _, hr1⟩ := hSP.row (by omega)
        have hcell := encP_row hr1 hp
        have iC := inf38 p
        obtain ⟨e1, e2, e3, e4⟩ := hff.out p (hwp p (List.mem_of_getElem? hp))
        have fd := fun (L : List EN) (B : Nat) (W : World) (h : TreeAt W B L t) => hfd p L B W h
        have fi := fun (W : World) (h : Sl W 25 enc25 A2 na la) => hfi p W h
        unfold FindPost at fd
        simp only [e1] at fd
        obtain ⟨R0, hR0⟩ : ∃ R, R = (leafF la p).1 := ⟨_, rfl⟩
        simp only [← hR0] at fd fi
        obtain ⟨C, hC⟩ : ∃ C, C = ptc p := ⟨_, rfl⟩
        simp only [← hC] at fd fi
        rw [← hC] at hcell iC
        generalize (findP p t).2.1 = vv at *
        generalize (findP p t).2.2 = cc at *
        have iC := Lib.hid iC
        have q0 : ∀ j v, C.toList[j]? = some v → wr.cell? ((⟨b1, o1 + i * 12, none⟩ : Addr).add j) = some v := fun j v hj => keepc bw (hcell j v hj)
        have q0 := Lib.hid q0
        have hTaw := hTa.keep bw
        have hTbw := hTb.keep bw
        have hSw := hSa.keep bw
        subst hA1
        have hlti : (i : Int) < (np : Int) := by omega
        have hdn : decide (i < np) = true := by simp [hlt]
        have hne : (R0 != R0) = false := by simp
        clear hr1 hcell hp hR0 hC e1 e2 e3 e4
        obtain ⟨w7, hw7⟩ : ∃ x, x = wr := ⟨_, rfl⟩
        subst hw7
        have hz := Below.refl w7.heap.size w7
        go_wp2_with (first
          | (refine wpList_load_cells rfl 56 (.tmp 91) rfl ⟨b1, o1 + i * 12, none⟩ rfl C _ q0.out Try.underlying56 rfl iC.out ?_)
          | (refine wpList_load_cells rfl 56 (.tmp 101) rfl ⟨b1, o1 + i * 12, none⟩ rfl C _ q0.out Try.underlying56 rfl iC.out ?_)
          | (refine wpList_load_cells_on (by rfl) 56 (.tmp 115) rfl ⟨b1, o1 + i * 12, none⟩ rfl C _ q0.out Try.underlying56 rfl iC.out ?_)
          | (go_at_call 17; go_loud (with_reducible refine (fd _ _ _ hTaw).mono ?_); rintro e w8 ⟨rfl, hb⟩; replace hSw := hSw.keep hb; replace hTbw := hTbw.keep hb; replace q0 := Lib.hid (fun j v hj => keepc hb (q0.out j v hj)); replace hz := bel_via hz hb; clear hb hTaw)
          | (go_at_call 17; go_loud (with_reducible refine (fd _ _ _ hTbw).mono ?_); rintro e w9 ⟨rfl, hb⟩; replace hSw := hSw.keep hb; replace q0 := Lib.hid (fun j v hj => keepc hb (q0.out j v hj)); replace hz := bel_via hz hb; clear hb fd)
          | (go_at_call 18; go_loud (with_reducible refine (fi _ hSw).mono ?_); rintro e w11 ⟨rfl, hb⟩; replace hz := bel_via hz hb; clear hb))
        refine ⟨?_, by simp [intOf]; omega⟩
        first | exact ⟨i + 1, by simp, by omega, bel_via bw hz⟩ | ((repeat apply Exists.intro); exact ⟨⟨i + 1, by simp, by omega, bel_via bw hz⟩, rfl⟩)
      · obtain rfl : i = np := by omega
        have hd0 : decide (i < i) = false := by simp
        have hdi : decide ((i : Int) < (i : Int)) = false := by simp
        have bz2 := bel_via bz bw
        go_wp2_with fail
        first | exact FIN.out _ bz2 | (go_ret; exact FIN.out _ bz2)
set_option maxRecDepth 100000 in
set_option maxHeartbeats 4000000 in
theorem cbeh_any (A : Option Addr) (n c : Nat) (l : List EN) (AM : Option Addr) (nm cm : Nat) (more : List EN) (AP : Option Addr) (np cp : Nat) (pts : List (Nat → P2)) (w : World) (hS : Sl w 25 enc25 A n l) (hSM : Sl w 25 enc25 AM nm more) (hSP : Sl w 12 (fun p : Nat → P2 => (ptc p).toList) AP np pts) (hw : ∀ e ∈ l, WB e.bx) (hwm : ∀ e ∈ more, WB e.bx) (hc : A = none → c = 0) (hcm : AM = none → cm = 0) (hwp : ∀ p ∈ pts, WP p) :
    Calls Try.prog 6 #[.slice A n c, .slice AM nm cm, .slice AP np cp] w (LawPost w) := by
  by_cases hn : n ≤ 256
  · by_cases hnm : nm ≤ 256
    · by_cases hnp : np ≤ 64
      · exact cbeh_core A n c l AM nm cm more AP np cp pts hn hnm hnp w hS hSM hSP hw hwm hc hcm hwp
      · unfold LawPost
        have h1 : decide ((256 : Int) < (n : Int)) = false := by simp; omega
        have h2 : decide ((256 : Int) < (nm : Int)) = false := by simp; omega
        have h3 : decide ((64 : Int) < (np : Int)) = true := by simp; omega
        clear hS hSM hSP hw hwm hc hcm hwp hn hnm hnp
        go_enter Try.func6, Try.ntmps6
        go_wp2_with fail
        go_ret
        exact ⟨rfl, Below.refl _ _⟩
    · unfold LawPost
      have h1 : decide ((256 : Int) < (n : Int)) = false := by simp; omega
      have h2 : decide ((256 : Int) < (nm : Int)) = true := by simp; omega
      clear hS hSM hSP hw hwm hc hcm hwp hn hnm
      go_enter Try.func6, Try.ntmps6
      go_wp2_with fail
      go_ret
      exact ⟨rfl, Below.refl _ _⟩
  · unfold LawPost
    have h1 : decide ((256 : Int) < (n : Int)) = true := by simp; omega
    clear hS hSM hSP hw hwm hc hcm hwp hn
    go_enter Try.func6, Try.ntmps6
    go_wp2_with fail
    go_ret
    exact ⟨rfl, Below.refl _ _⟩
end Go.Proofs.Ythjhioffgbnlaaa
