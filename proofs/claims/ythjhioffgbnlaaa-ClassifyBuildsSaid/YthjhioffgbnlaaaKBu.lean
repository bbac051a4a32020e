/- ClassifyBuilds: the walk; by-name template (gen_kbu.py). -/
import Derived.Test.YthjhioffgbnlaaaKSame2
import Derived.Deep.MidRow
import Derived.Great.BuildSlice
namespace Go.Proofs.Ythjhioffgbnlaaa
open Go.RowKit Go.Lib Go.Sort
set_option linter.unusedVariables false
set_option linter.unusedSimpArgs false

theorem off_sets (g : Nat) : ∀ (vs : List Value) (o : Nat) (w : World), OffG g w (w.setCells g o vs)
  | [], _, w => OffG.refl _ _
  | v :: r, o, w => (OffG.set (w := w) o v).trans (off_sets g r (o + 1) _)
/-- A block of at least so many cells that may be written. -/
def BlkOf (w : World) (g m : Nat) : Prop := ∃ cur, w.heap[g]? = some (.cells cur 32 (0, 0)) ∧ m ≤ cur.size
theorem BlkOf.set {w : World} {g m : Nat} (h : BlkOf w g m) (o : Nat) (v : Value) : BlkOf (w.setCell ⟨g, o, none⟩ v) g m := by
  obtain ⟨cur, h1, h2⟩ := h
  refine ⟨cur.setIfInBounds o v, ?_, by simpa using h2⟩
  simp [World.setCell, Array.getElem?_modify, h1]
theorem BlkOf.sets {g m : Nat} : ∀ (vs : List Value) (o : Nat) (w : World), BlkOf w g m → BlkOf (w.setCells g o vs) g m
  | [], _, _, h => h
  | v :: r, o, w, h => BlkOf.sets r (o + 1) _ (h.set o v)
theorem BlkOf.there {w : World} {g m : Nat} (h : BlkOf w g m) {o k : Nat} (hk : o + k ≤ m) : w.there g o k := fun j hj => by
  obtain ⟨cur, h1, h2⟩ := h
  have h3 : o + j < cur.size := by omega
  simp [World.cell?, World.frozen?, h1, h3]
/-- The row's block, if there is one: never below base. -/
theorem own_at {w : World} {base n : Nat} {v : Value} {l : List EN} (h : w.ownsRow base 32 25 v n (l.flatMap enc25)) (hl : l.length = n) (hbase : base < w.heap.size) :
    ∃ A c g, v = .slice A n c ∧ Sl w 25 enc25 A n l ∧ base ≤ g ∧ g < w.heap.size ∧ (0 < n → A = some ⟨g, 0, none⟩ ∧ BlkOf w g (n * 25)) := by
  obtain ⟨A, c, rfl, hS, _⟩ := sl_of_own (k := 25) (enc := enc25) en25_len h hl
  obtain ⟨_, h | ⟨g, cap, cur, hv, hb, hg, hn, hc, hs, _⟩⟩ := h
  · exact ⟨A, c, base, rfl, hS, Nat.le_refl _, hbase, fun hp => by omega⟩
  · refine ⟨A, c, g, rfl, hS, hb, (Array.getElem?_eq_some_iff.1 hg).1, fun _ => ⟨by cases hv; rfl, cur, hg, ?_⟩⟩
    rw [hs]; exact Nat.mul_le_mul_right 25 hn
/-- What the row still holds from i on. -/
def From (w : World) (g off i : Nat) (l : List EN) : Prop := ∀ j x, i ≤ j → l[j]? = some x → ∀ t v, (enc25 x)[t]? = some v → w.cell? ⟨g, off + j * 25 + t, none⟩ = some v
theorem From.step {w : World} {g off i : Nat} {l : List EN} (h : From w g off i l) (vs : List Value) (hv : vs.length = 25) : From (w.setCells g (off + i * 25) vs) g off (i + 1) l := fun j x hj hx t v ht => by
  rw [World.cell?_setCells_out g vs (off + i * 25) w ⟨g, off + j * 25 + t, none⟩ (fun _ _ => Or.inr (by show off + i * 25 + vs.length ≤ off + j * 25 + t; rw [hv]; omega))]
  exact h j x (by omega) hx t v ht
theorem From.keep {w w' : World} {g off i : Nat} {l : List EN} (h : From w g off i l) (hb : Below w.heap.size w w') : From w' g off i l := fun j x hj hx t v ht => keepc hb (h j x hj hx t v ht)
theorem From.row {w : World} {g off i : Nat} {l : List EN} {x : EN} (h : From w g off i l) (hx : l[i]? = some x) : ∀ j v, (enA x).toList[j]? = some v → w.cell? ((⟨g, off + i * 25, none⟩ : Addr).add j) = some v := by
  intro j v hj
  have := h i x (Nat.le_refl _) hx j v hj
  have e : (⟨g, off + i * 25, none⟩ : Addr).add j = ⟨g, off + i * 25 + j, none⟩ := by unfold Addr.add; split <;> simp_all
  rw [e]; exact this
theorem z9_info : (Try.prog.info? 32).map (·.size) = some (#[.int .u64 0, .int .u64 0, .int .u64 0, .int .u64 0, .int .u64 0, .int .u64 0, .int .u64 0, .int .u64 0, .int .u64 0, .int .u64 0, .int .u64 0, .int .u64 0, .int .u64 0, .int .u64 0, .int .u64 0, .int .u64 0, .int .u64 0, .int .u64 0, .int .u64 0, .int .u64 0, .int .u64 0, .int .u64 0, .int .u64 0, .int .u64 0, .int .i64 (-9)] : Array Value).size := by kernel_rfl
theorem z9_built : Try.prog.built 32 [(1, .int .i64 (-9))] = some #[.int .u64 0, .int .u64 0, .int .u64 0, .int .u64 0, .int .u64 0, .int .u64 0, .int .u64 0, .int .u64 0, .int .u64 0, .int .u64 0, .int .u64 0, .int .u64 0, .int .u64 0, .int .u64 0, .int .u64 0, .int .u64 0, .int .u64 0, .int .u64 0, .int .u64 0, .int .u64 0, .int .u64 0, .int .u64 0, .int .u64 0, .int .u64 0, .int .i64 (-9)] := by kernel_rfl
theorem z9_one : (#[.int .u64 0, .int .u64 0, .int .u64 0, .int .u64 0, .int .u64 0, .int .u64 0, .int .u64 0, .int .u64 0, .int .u64 0, .int .u64 0, .int .u64 0, .int .u64 0, .int .u64 0, .int .u64 0, .int .u64 0, .int .u64 0, .int .u64 0, .int .u64 0, .int .u64 0, .int .u64 0, .int .u64 0, .int .u64 0, .int .u64 0, .int .u64 0, .int .i64 (-9)] : Array Value).all (·.oneCell') = true := by simp [Value.oneCell']

set_option maxRecDepth 100000 in
set_option maxHeartbeats 8000000 in
theorem cbuilds_core (A : Option Addr) (n c : Nat) (l : List EN) (AP : Option Addr) (np cp : Nat) (pts : List (Nat → P2)) (hn : n ≤ 512) (hnp : np ≤ 512) (w : World) (hS : Sl w 25 enc25 A n l) (hSP : Sl w 12 (fun p : Nat → P2 => (ptc p).toList) AP np pts) (hw : ∀ e ∈ l, WB e.bx) (hc : A = none → c = 0) (hwp : ∀ p ∈ pts, WP p) :
    Calls Try.prog 4 #[.slice A n c, .slice AP np cp] w (LawPost w) := by
  obtain ⟨M, hM⟩ : ∃ M, M = LawPost w := ⟨_, rfl⟩
  rw [← hM]
  have FIN0 : ∀ W, Below w.heap.size w W → M (.returned (.bool true)) W := fun W h => by rw [hM]; exact ⟨rfl, h⟩
  have FIN := Lib.hid FIN0
  clear FIN0 hM
  obtain ⟨iu, hiu, hu0, hu1, hu2⟩ := info_parts en_info
  have h1 : decide ((512 : Int) < (n : Int)) = false := by simp; omega
  have h2 : decide ((512 : Int) < (np : Int)) = false := by simp; omega
  have HLEN := Lib.hid hS.len
  have hz := Below.refl w.heap.size w
  have hl5 : (leftP fullB l).length ≤ 512 := Nat.le_trans (left_len _ _) (by rw [hS.len]; exact hn)
  go_enter Try.func4, Try.ntmps4
  go_upto_region 3 with fail
  go_upto_region 4 with (refine wpList_bs0 rfl rfl ?_)
  have hown8 : (w.alloc (.cells #[] 32)).ownsRow w.heap.size 32 25 (.slice (some ⟨w.heap.size, 0, none⟩) 0 0) 0 ([] : List Value) := World.ownsRow_made w #[] 0 (Nat.le_refl _) (by unfold maxLen; omega) rfl
  replace hz := bel_via hz (Below.al (Below.refl _ w) (.cells #[] 32))
  obtain ⟨w8, hw8⟩ : ∃ x, x = w.alloc (.cells #[] 32) := ⟨_, rfl⟩
  rw [← hw8] at hown8 hz
  have hbw8 : w.heap.size < w8.heap.size := by rw [hw8, al_size]; omega
  rw [← hw8]
  obtain ⟨G, hG⟩ : ∃ G, G = w.heap.size := ⟨_, rfl⟩
  have hGw : w.heap.size ≤ G := by omega
  rw [← hG] at hown8 hbw8 ⊢
  have hbw8' := Nat.le_of_lt hbw8
  clear hw8 hG
  have hS8 := Lib.hid (hS.keep hz)
  have hb81 : (0 + n) * 200 ≤ 140737488355328 := by omega
  have h863 : 0 + n ≤ maxLen := by unfold maxLen; omega
  go_wp2_with (at_builtin; go_loud (refine app_sl rfl _ _ 22 rfl G 32 iu (.agg #[.int .u64 0, .int .u64 0, .int .u64 0, .int .u64 0, .int .u64 0, .int .u64 0, .int .u64 0, .int .u64 0, .int .u64 0, .int .u64 0, .int .u64 0, .int .u64 0, .int .u64 0, .int .u64 0, .int .u64 0, .int .u64 0, .int .u64 0, .int .u64 0, .int .u64 0, .int .u64 0, .int .u64 0, .int .u64 0, .int .u64 0, .int .u64 0, .int .i64 0]) 25 200 Try.underlying22 hiu hu0 hu1 hu2 rfl (by decide) _ (0) ([]) rfl hown8 enc25 en25_len A n c (l) hS8.out hc rfl en25_one h863 hb81 hbw8' ?_))
  intro v9 w9 hown9 hg9
  replace hz : Below w.heap.size w w9 := hz.grown hg9 (by omega) (fun q hq => Nat.le_trans hGw (own_gt hown8 q hq))
  have hbw9 : G < w9.heap.size := Nat.lt_of_lt_of_le hbw8 hg9.size
  replace hown9 : w9.ownsRow G 32 25 v9 n (l.flatMap enc25) := by simpa using hown9
  clear hg9 hown8 hbw8 hbw8' h863 hb81 hS8
  obtain ⟨A2, c2, g, rfl, hS2, hgG, hg9, hrow⟩ := own_at hown9 HLEN.out hbw9
  clear hown9
  have hwg : w.heap.size ≤ g := by omega
  have hSc := hS
  have hS1 := hS.keep hz
  have hSP1 := hSP.keep hz
  have ba := fun (W : World) (h : Sl W 25 enc25 A2 n l) => build_any A2 n c2 l (by omega) hl5 hw W h
  have rb := fun (W : World) (h : Sl W 25 enc25 A n l) => rbuild_any A n c l (by omega) hl5 hc hw W h
  have gr := fun (p : Nat → P2) (hp : WP p) (t : TN) (m : Nat) (h : treeP l = some (t, m)) => grow_rfind hp 23 fullB wb_full l hw 512 t m h (hp_full hp)
  have gl := fun (t : TN) (m : Nat) (h : treeP l = some (t, m)) => grow_leafs 23 fullB l 512 t m h
  have gc := fun (t : TN) (m : Nat) (h : treeP l = some (t, m)) => grow_count 23 fullB l 512 t m h
  have gk := fun (t : TN) (m : Nat) (h : treeP l = some (t, m)) => grow_fOk 23 fullB wb_full l hw 512 t m h
  obtain ⟨R, hR⟩ : ∃ R, R = treeP l := ⟨_, rfl⟩
  simp only [← hR] at ba rb gr gl gc gk
  clear hR hw hl5 hiu hu0 hu1 hu2
  obtain ⟨off, hoff⟩ : ∃ off : Nat, off = 0 := ⟨_, rfl⟩
  have hrow' : 0 < n → A2 = some ⟨g, off, none⟩ ∧ BlkOf w9 g (n * 25) := by rw [hoff]; exact hrow
  have HR2 : 0 < n → From w9 g off 0 l := fun hp => by
    obtain ⟨b, o, hA, _, h⟩ := hS2.row hp
    obtain ⟨e1, _⟩ := hrow' hp
    rw [e1] at hA; cases hA
    exact fun j x _ hx t v ht => h j x hx t v ht
  have HR2 := Lib.hid HR2
  have HBK := Lib.hid hrow'
  have HOFF := Lib.hid hoff
  clear hrow hrow' hoff
  cases R with
  | none =>
    go_wp2_with (first | (go_at_call 7; go_loud (with_reducible refine (ba _ hS2).mono ?_); rintro e w2 ⟨rfl, hb⟩; have hS3 := hS1.keep hb) | (go_at_call 8; go_loud (with_reducible refine (rb _ hS3).mono ?_); rintro e w3 ⟨rfl, hb2⟩))
    have hb93 := bel_via hb hb2
    clear ba rb gr gl gc gk hb hb2 hS1 hS2 hS3 hSP1
    have HR3 := Lib.hid (fun hp : 0 < n => (HR2.out hp).keep hb93)
    have HB3 : Hid (0 < n → BlkOf w3 g (n * 25)) := Lib.hid fun hp => by
      obtain ⟨cur, h1, h2⟩ := (HBK.out hp).2
      exact ⟨cur, blkB hb93 h1, h2⟩
    have bz3 := bel_via hz hb93
    go_loopw [10] (fun v10 wr => ∃ i : Nat, v10 = .int .i64 i ∧ i ≤ n ∧ Hid (0 < n → From wr g off i l) ∧ Hid (0 < n → BlkOf wr g (n * 25)) ∧ OffG g w3 wr) (fun v10 _ => n - (intOf v10).toNat)
    case atStart => exact ⟨0, rfl, by omega, HR3, HB3, OffG.refl _ _⟩
    case round =>
      obtain ⟨i, rfl, hi, HF, HB, ho⟩ := hrel
      have bzw : Below w.heap.size w wr := bz3.trans (ho.bel.mono hwg)
      by_cases hlt : i < n
      · have hml : i < l.length := by rw [HLEN.out]; exact hlt
        obtain ⟨y, hy⟩ : ∃ y, l[i]? = some y := ⟨_, List.getElem?_eq_getElem hml⟩
        obtain ⟨b', off', hAA, hbl, hrow⟩ := hSc.row (by omega)
        have c1 := en_row hrow hy
        have hF := HF.out (by omega)
        have hBk := HB.out (by omega)
        obtain ⟨hA2, _⟩ := HBK.out (by omega)
        have c2' := hF.row hy
        have nee := fun W : World => neq_en y y W
        rw [eqE_refl] at nee
        have iE := inf47 y
        generalize enA y = EA at *
        have iE := Lib.hid iE
        have d1 := Lib.hid (fun j v h => keepc bzw (c1 j v h))
        have d2 := Lib.hid c2'
        subst hAA
        subst hA2
        have hlti : (i : Int) < (n : Int) := by omega
        have hdn : decide (i < n) = true := by simp [hlt]
        have hF := Lib.hid hF
        have hBk := Lib.hid hBk
        have hin : off + i * 25 + 25 ≤ n * 25 := by have := HOFF.out; omega
        clear hrow hy c1 c2' HF HB
        go_wp2_with fail
        refine wp_region_quiet_below (by kernel_rfl) (by kernel_rfl) ?_
        repeat (first | go_big_quiet_skip | (refine quiet_load_cells (by rfl) 32 (.tmp 51) rfl ⟨g, off + i * 25, none⟩ rfl EA _ (rg_cells d2.out) Try.underlying32 rfl iE.out ?_; simp only [Act.put, List.setIfInBounds_toArray, List.set_cons_succ, List.set_cons_zero]) | (refine quiet_load_cells (by rfl) 32 (.tmp 55) rfl ⟨b', off' + i * 25, none⟩ rfl EA _ (rg_cells d1.out) Try.underlying32 rfl iE.out ?_; simp only [Act.put, List.setIfInBounds_toArray, List.set_cons_succ, List.set_cons_zero]) | quiet_step (fail))
        refine wpQuiet_nil ?_
        intro _ hw'
        obtain ⟨⟨dq, osq⟩, hw''⟩ := hw'
        subst hw''
        have hbq := below_regrown wr dq osq
        obtain ⟨wq, hwy⟩ : ∃ x, x = grow (redrawn wr dq) osq := ⟨_, rfl⟩
        rw [← hwy] at hbq ⊢
        clear hwy
        clear nee d1 d2 iE
        replace hF := Lib.hid (hF.out.keep hbq)
        have hBq : BlkOf wq g (n * 25) := by
          obtain ⟨cur, h1, h2⟩ := hBk.out
          exact ⟨cur, blkB hbq h1, h2⟩
        have hth : Hid (wq.there g (off + i * 25) (#[.int .u64 0, .int .u64 0, .int .u64 0, .int .u64 0, .int .u64 0, .int .u64 0, .int .u64 0, .int .u64 0, .int .u64 0, .int .u64 0, .int .u64 0, .int .u64 0, .int .u64 0, .int .u64 0, .int .u64 0, .int .u64 0, .int .u64 0, .int .u64 0, .int .u64 0, .int .u64 0, .int .u64 0, .int .u64 0, .int .u64 0, .int .u64 0, .int .i64 (-9)] : Array Value).size) := Lib.hid (hBq.there hin)
        have hBq := Lib.hid hBq
        go_wp2_with (with_reducible refine stop_op (o := ⟨none, _, _, _, _, _⟩) ?_)
        refine Lib.hid ?_
        refine wpList_store_mid rfl 32 (.tmp 61) (.tmp 60) rfl g (off + i * 25) #[.int .u64 0, .int .u64 0, .int .u64 0, .int .u64 0, .int .u64 0, .int .u64 0, .int .u64 0, .int .u64 0, .int .u64 0, .int .u64 0, .int .u64 0, .int .u64 0, .int .u64 0, .int .u64 0, .int .u64 0, .int .u64 0, .int .u64 0, .int .u64 0, .int .u64 0, .int .u64 0, .int .u64 0, .int .u64 0, .int .u64 0, .int .u64 0, .int .i64 (-9)] rfl rfl hth.out z9_info z9_one ?_
        have hF1 := Lib.hid (fun _ : 0 < n => hF.out.step (#[.int .u64 0, .int .u64 0, .int .u64 0, .int .u64 0, .int .u64 0, .int .u64 0, .int .u64 0, .int .u64 0, .int .u64 0, .int .u64 0, .int .u64 0, .int .u64 0, .int .u64 0, .int .u64 0, .int .u64 0, .int .u64 0, .int .u64 0, .int .u64 0, .int .u64 0, .int .u64 0, .int .u64 0, .int .u64 0, .int .u64 0, .int .u64 0, .int .i64 (-9)] : Array Value).toList rfl)
        have hB1 := Lib.hid (fun _ : 0 < n => BlkOf.sets (#[.int .u64 0, .int .u64 0, .int .u64 0, .int .u64 0, .int .u64 0, .int .u64 0, .int .u64 0, .int .u64 0, .int .u64 0, .int .u64 0, .int .u64 0, .int .u64 0, .int .u64 0, .int .u64 0, .int .u64 0, .int .u64 0, .int .u64 0, .int .u64 0, .int .u64 0, .int .u64 0, .int .u64 0, .int .u64 0, .int .u64 0, .int .u64 0, .int .i64 (-9)] : Array Value).toList (off + i * 25) _ hBq.out)
        have ho1 : OffG g w3 (wq.setCells g (off + i * 25) (#[.int .u64 0, .int .u64 0, .int .u64 0, .int .u64 0, .int .u64 0, .int .u64 0, .int .u64 0, .int .u64 0, .int .u64 0, .int .u64 0, .int .u64 0, .int .u64 0, .int .u64 0, .int .u64 0, .int .u64 0, .int .u64 0, .int .u64 0, .int .u64 0, .int .u64 0, .int .u64 0, .int .u64 0, .int .u64 0, .int .u64 0, .int .u64 0, .int .i64 (-9)] : Array Value).toList) := (ho.trans (OffG.of hbq (Nat.le_trans (Nat.le_of_lt (Nat.lt_of_lt_of_le hg9 hb93.size)) ho.size))).trans (off_sets g _ _ _)
        generalize wq.setCells g (off + i * 25) (#[.int .u64 0, .int .u64 0, .int .u64 0, .int .u64 0, .int .u64 0, .int .u64 0, .int .u64 0, .int .u64 0, .int .u64 0, .int .u64 0, .int .u64 0, .int .u64 0, .int .u64 0, .int .u64 0, .int .u64 0, .int .u64 0, .int .u64 0, .int .u64 0, .int .u64 0, .int .u64 0, .int .u64 0, .int .u64 0, .int .u64 0, .int .u64 0, .int .i64 (-9)] : Array Value).toList = wy at hF1 hB1 ho1 ⊢
        go_wp2_with fail
        refine ⟨?_, by simp [intOf]; omega⟩
        first | exact ⟨i + 1, by simp, by omega, hF1, hB1, ho1⟩ | ((repeat apply Exists.intro); exact ⟨⟨i + 1, by simp, by omega, hF1, hB1, ho1⟩, rfl⟩)
      · obtain rfl : i = n := by omega
        have hd0 : decide (i < i) = false := by simp
        have hdi : decide ((i : Int) < (i : Int)) = false := by simp
        go_wp2_with fail
        first | exact FIN.out _ bzw | (go_ret; exact FIN.out _ bzw)
  | some q =>
    obtain ⟨t, m⟩ := q
    have hcnt := gc t m rfl
    have hlf := gl t m rfl
    have hfk := gk t m rfl
    have hrf := fun (p : Nat → P2) (hp : p ∈ pts) => gr p (hwp p hp) t m rfl
    have hbig : t.count ≤ 4096 := by omega
    have sm := fun (B T : Nat) (W : World) (h1 : TreeAt W B l t) (h2 : RTreeAt W T l t) (h3 : Sl W 12 (fun p : Nat → P2 => (ptc p).toList) AP np pts) => same_any B l t T AP np cp pts (by omega) hbig (fun q hq => Nat.le_trans (hlf q hq) (by omega)) hfk hrf W h1 h2 h3
    have sm := Lib.hid sm
    clear gr gl gc gk hlf hfk hrf hcnt hbig
    go_wp2_with (first | (go_at_call 7; go_loud (with_reducible refine (ba _ hS2).mono ?_); rintro e w2 ⟨Bt, rfl, ⟨_, hTa⟩, _, hb⟩; have hS3 := hS1.keep hb) | (go_at_call 8; go_loud (with_reducible refine (rb _ hS3).mono ?_); rintro e w3 ⟨Tr, rfl, ⟨_, hTb⟩, _, hb2⟩))
    have hb93 := bel_via hb hb2
    replace hTa := hTa.keep hb2
    have hsz : w9.heap.size ≤ w2.heap.size := hb.size
    clear ba rb hb2 hS1 hS2 hS3 hSP1
    have HR3 := Lib.hid (fun hp : 0 < n => (HR2.out hp).keep hb93)
    have HB3 : Hid (0 < n → BlkOf w3 g (n * 25)) := Lib.hid fun hp => by
      obtain ⟨cur, h1, h2⟩ := (HBK.out hp).2
      exact ⟨cur, blkB hb93 h1, h2⟩
    have bz3 := bel_via hz hb93
    go_loopw [10] (fun v10 wr => ∃ i : Nat, v10 = .int .i64 i ∧ i ≤ n ∧ Hid (0 < n → From wr g off i l) ∧ Hid (0 < n → BlkOf wr g (n * 25)) ∧ OffG g w3 wr) (fun v10 _ => n - (intOf v10).toNat)
    case atStart => exact ⟨0, rfl, by omega, HR3, HB3, OffG.refl _ _⟩
    case round =>
      obtain ⟨i, rfl, hi, HF, HB, ho⟩ := hrel
      have bzw : Below w.heap.size w wr := bz3.trans (ho.bel.mono hwg)
      by_cases hlt : i < n
      · have hml : i < l.length := by rw [HLEN.out]; exact hlt
        obtain ⟨y, hy⟩ : ∃ y, l[i]? = some y := ⟨_, List.getElem?_eq_getElem hml⟩
        obtain ⟨b', off', hAA, hbl, hrow⟩ := hSc.row (by omega)
        have c1 := en_row hrow hy
        have hF := HF.out (by omega)
        have hBk := HB.out (by omega)
        obtain ⟨hA2, _⟩ := HBK.out (by omega)
        have c2' := hF.row hy
        have nee := fun W : World => neq_en y y W
        rw [eqE_refl] at nee
        have iE := inf47 y
        generalize enA y = EA at *
        have iE := Lib.hid iE
        have d1 := Lib.hid (fun j v h => keepc bzw (c1 j v h))
        have d2 := Lib.hid c2'
        subst hAA
        subst hA2
        have hlti : (i : Int) < (n : Int) := by omega
        have hdn : decide (i < n) = true := by simp [hlt]
        have hF := Lib.hid hF
        have hBk := Lib.hid hBk
        have hin : off + i * 25 + 25 ≤ n * 25 := by have := HOFF.out; omega
        clear hrow hy c1 c2' HF HB
        go_wp2_with fail
        refine wp_region_quiet_below (by kernel_rfl) (by kernel_rfl) ?_
        repeat (first | go_big_quiet_skip | (refine quiet_load_cells (by rfl) 32 (.tmp 51) rfl ⟨g, off + i * 25, none⟩ rfl EA _ (rg_cells d2.out) Try.underlying32 rfl iE.out ?_; simp only [Act.put, List.setIfInBounds_toArray, List.set_cons_succ, List.set_cons_zero]) | (refine quiet_load_cells (by rfl) 32 (.tmp 55) rfl ⟨b', off' + i * 25, none⟩ rfl EA _ (rg_cells d1.out) Try.underlying32 rfl iE.out ?_; simp only [Act.put, List.setIfInBounds_toArray, List.set_cons_succ, List.set_cons_zero]) | quiet_step (fail))
        refine wpQuiet_nil ?_
        intro _ hw'
        obtain ⟨⟨dq, osq⟩, hw''⟩ := hw'
        subst hw''
        have hbq := below_regrown wr dq osq
        obtain ⟨wq, hwy⟩ : ∃ x, x = grow (redrawn wr dq) osq := ⟨_, rfl⟩
        rw [← hwy] at hbq ⊢
        clear hwy
        clear nee d1 d2 iE
        replace hF := Lib.hid (hF.out.keep hbq)
        have hBq : BlkOf wq g (n * 25) := by
          obtain ⟨cur, h1, h2⟩ := hBk.out
          exact ⟨cur, blkB hbq h1, h2⟩
        have hth : Hid (wq.there g (off + i * 25) (#[.int .u64 0, .int .u64 0, .int .u64 0, .int .u64 0, .int .u64 0, .int .u64 0, .int .u64 0, .int .u64 0, .int .u64 0, .int .u64 0, .int .u64 0, .int .u64 0, .int .u64 0, .int .u64 0, .int .u64 0, .int .u64 0, .int .u64 0, .int .u64 0, .int .u64 0, .int .u64 0, .int .u64 0, .int .u64 0, .int .u64 0, .int .u64 0, .int .i64 (-9)] : Array Value).size) := Lib.hid (hBq.there hin)
        have hBq := Lib.hid hBq
        go_wp2_with (with_reducible refine stop_op (o := ⟨none, _, _, _, _, _⟩) ?_)
        refine Lib.hid ?_
        refine wpList_store_mid rfl 32 (.tmp 61) (.tmp 60) rfl g (off + i * 25) #[.int .u64 0, .int .u64 0, .int .u64 0, .int .u64 0, .int .u64 0, .int .u64 0, .int .u64 0, .int .u64 0, .int .u64 0, .int .u64 0, .int .u64 0, .int .u64 0, .int .u64 0, .int .u64 0, .int .u64 0, .int .u64 0, .int .u64 0, .int .u64 0, .int .u64 0, .int .u64 0, .int .u64 0, .int .u64 0, .int .u64 0, .int .u64 0, .int .i64 (-9)] rfl rfl hth.out z9_info z9_one ?_
        have hF1 := Lib.hid (fun _ : 0 < n => hF.out.step (#[.int .u64 0, .int .u64 0, .int .u64 0, .int .u64 0, .int .u64 0, .int .u64 0, .int .u64 0, .int .u64 0, .int .u64 0, .int .u64 0, .int .u64 0, .int .u64 0, .int .u64 0, .int .u64 0, .int .u64 0, .int .u64 0, .int .u64 0, .int .u64 0, .int .u64 0, .int .u64 0, .int .u64 0, .int .u64 0, .int .u64 0, .int .u64 0, .int .i64 (-9)] : Array Value).toList rfl)
        have hB1 := Lib.hid (fun _ : 0 < n => BlkOf.sets (#[.int .u64 0, .int .u64 0, .int .u64 0, .int .u64 0, .int .u64 0, .int .u64 0, .int .u64 0, .int .u64 0, .int .u64 0, .int .u64 0, .int .u64 0, .int .u64 0, .int .u64 0, .int .u64 0, .int .u64 0, .int .u64 0, .int .u64 0, .int .u64 0, .int .u64 0, .int .u64 0, .int .u64 0, .int .u64 0, .int .u64 0, .int .u64 0, .int .i64 (-9)] : Array Value).toList (off + i * 25) _ hBq.out)
        have ho1 : OffG g w3 (wq.setCells g (off + i * 25) (#[.int .u64 0, .int .u64 0, .int .u64 0, .int .u64 0, .int .u64 0, .int .u64 0, .int .u64 0, .int .u64 0, .int .u64 0, .int .u64 0, .int .u64 0, .int .u64 0, .int .u64 0, .int .u64 0, .int .u64 0, .int .u64 0, .int .u64 0, .int .u64 0, .int .u64 0, .int .u64 0, .int .u64 0, .int .u64 0, .int .u64 0, .int .u64 0, .int .i64 (-9)] : Array Value).toList) := (ho.trans (OffG.of hbq (Nat.le_trans (Nat.le_of_lt (Nat.lt_of_lt_of_le hg9 hb93.size)) ho.size))).trans (off_sets g _ _ _)
        generalize wq.setCells g (off + i * 25) (#[.int .u64 0, .int .u64 0, .int .u64 0, .int .u64 0, .int .u64 0, .int .u64 0, .int .u64 0, .int .u64 0, .int .u64 0, .int .u64 0, .int .u64 0, .int .u64 0, .int .u64 0, .int .u64 0, .int .u64 0, .int .u64 0, .int .u64 0, .int .u64 0, .int .u64 0, .int .u64 0, .int .u64 0, .int .u64 0, .int .u64 0, .int .u64 0, .int .i64 (-9)] : Array Value).toList = wy at hF1 hB1 ho1 ⊢
        go_wp2_with fail
        refine ⟨?_, by simp [intOf]; omega⟩
        first | exact ⟨i + 1, by simp, by omega, hF1, hB1, ho1⟩ | ((repeat apply Exists.intro); exact ⟨⟨i + 1, by simp, by omega, hF1, hB1, ho1⟩, rfl⟩)
      · obtain rfl : i = n := by omega
        have hd0 : decide (i < i) = false := by simp
        have hdi : decide ((i : Int) < (i : Int)) = false := by simp
        have hT1 := (hTa.off hg9 ho).at
        have hT2 := (hTb.off (by omega) ho).at
        have hP2 := hSP.keep bzw
        have cs := fun (W : World) (h : TreeAt W Bt l t) (h2 : RTreeAt W Tr l t) (h3 : Sl W 12 (fun p : Nat → P2 => (ptc p).toList) AP np pts) => sm.out Bt Tr W h h2 h3
        unfold LawPost at cs
        go_wp2_with (go_at_call 12; go_loud (with_reducible refine (cs _ hT1 hT2 hP2).mono ?_); rintro e w4 ⟨rfl, hb4⟩)
        first | exact FIN.out _ (bel_via bzw hb4) | (go_ret; exact FIN.out _ (bel_via bzw hb4))
set_option maxRecDepth 100000 in
set_option maxHeartbeats 4000000 in
theorem cbuilds_any (A : Option Addr) (n c : Nat) (l : List EN) (AP : Option Addr) (np cp : Nat) (pts : List (Nat → P2)) (w : World) (hS : Sl w 25 enc25 A n l) (hSP : Sl w 12 (fun p : Nat → P2 => (ptc p).toList) AP np pts) (hw : ∀ e ∈ l, WB e.bx) (hc : A = none → c = 0) (hwp : ∀ p ∈ pts, WP p) :
    Calls Try.prog 4 #[.slice A n c, .slice AP np cp] w (LawPost w) := by
  by_cases hn : n ≤ 512
  · by_cases hnp : np ≤ 512
    · exact cbuilds_core A n c l AP np cp pts hn hnp w hS hSP hw hc hwp
    · unfold LawPost
      have h1 : decide ((512 : Int) < (n : Int)) = false := by simp; omega
      have h2 : decide ((512 : Int) < (np : Int)) = true := by simp; omega
      clear hS hSP hw hc hwp hn hnp
      go_enter Try.func4, Try.ntmps4
      go_wp2_with fail
      go_ret
      exact ⟨rfl, Below.refl _ _⟩
  · unfold LawPost
    have h1 : decide ((512 : Int) < (n : Int)) = true := by simp; omega
    clear hS hSP hw hc hwp hn
    go_enter Try.func4, Try.ntmps4
    go_wp2_with fail
    go_ret
    exact ⟨rfl, Below.refl _ _⟩
end Go.Proofs.Ythjhioffgbnlaaa
