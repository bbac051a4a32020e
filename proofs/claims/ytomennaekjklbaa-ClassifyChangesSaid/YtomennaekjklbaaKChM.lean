/- ClassifyChanges: the walk; by-name template (gen_kch.py). -/
import Derived.Test.YtomennaekjklbaaKCM
import Derived.Test.YtomennaekjklbaaKSm
import Derived.Test.YtomennaekjklbaaKMF
namespace Go.Proofs.Ytomennaekjklbaa
open Go.RowKit Go.Lib Go.Sort
set_option linter.unusedVariables false
set_option linter.unusedSimpArgs false

structure SR where
  k : Int
  i : Int
  e : EN
def encS (s : SR) : List Value := [.int .i64 s.k, .int .i64 s.i] ++ enc25 s.e
def stA (s : SR) : Array Value := (encS s).toArray
theorem st_c0 {W : World} {O : Nat} {s : SR} (h : W.heap[O]? = some (.cells (stA s) 48 (0, 0))) : W.cell? ⟨O, 0, none⟩ = some (.int .i64 s.k) := by
  rw [cell_of_row W O 0 _ _ _ h]; rfl
theorem st_c1 {W : World} {O : Nat} {s : SR} (h : W.heap[O]? = some (.cells (stA s) 48 (0, 0))) : W.cell? ⟨O, 1, none⟩ = some (.int .i64 s.i) := by
  rw [cell_of_row W O 1 _ _ _ h]; rfl
theorem st_c2 {W : World} {O : Nat} {s : SR} (h : W.heap[O]? = some (.cells (stA s) 48 (0, 0))) : ∀ j v, (enA s.e).toList[j]? = some v → W.cell? ((⟨O, 2, none⟩ : Addr).add j) = some v := by
  intro j v hj
  rw [addr_add, cell_of_row W O (2 + j) _ _ _ h]
  have hj' : (enc25 s.e)[j]? = some v := hj
  rw [← Array.getElem?_toList]
  show ([Value.int .i64 s.k, .int .i64 s.i] ++ enc25 s.e)[2 + j]? = some v
  rw [List.getElem?_append_right (by simp), ← hj']
  congr 1
  simp
theorem st_info (s : SR) : (Try.prog.info? 48).map (·.size) = some (stA s).size := by kernel_rfl
theorem st_one (s : SR) : (stA s).all (·.oneCell') = true := all_oneCell_toArray (fun v hv => by
  rcases List.mem_append.1 hv with h | h
  · simp at h; rcases h with rfl | rfl <;> rfl
  · exact en25_one s.e v h)
theorem encS_row {w : World} {b off i : Nat} {l : List SR} {x : SR} (h : ∀ j y, l[j]? = some y → ∀ t v, (encS y)[t]? = some v → w.cell? ⟨b, off + j * 27 + t, none⟩ = some v) (hx : l[i]? = some x) :
    ∀ j v, (stA x).toList[j]? = some v → w.cell? ((⟨b, off + i * 27, none⟩ : Addr).add j) = some v := by
  intro j v hj
  have := h i x hx j v hj
  rw [addr_add]; exact this
theorem resS_inv {l l' : List EN} {t : TN} {m : Nat} (h : treeP l = some (t, m)) : ∃ m', treeP (resS l t l').2.1 = some ((resS l t l').2.2, m') := by
  unfold resS
  cases hR : treeP l' with
  | none => exact ⟨m, h⟩
  | some p => exact ⟨p.2, hR⟩
theorem putS_inv {l : List EN} {t : TN} {m : Nat} (I : Int) (x : EN) (h : treeP l = some (t, m)) : ∃ m', treeP (putS l t I x).2.1 = some ((putS l t I x).2.2, m') := by
  unfold putS
  split
  · exact resS_inv h
  · exact ⟨m, h⟩
theorem takS_inv {l : List EN} {t : TN} {m : Nat} (I : Int) (h : treeP l = some (t, m)) : ∃ m', treeP (takS l t I).2.1 = some ((takS l t I).2.2, m') := by
  unfold takS
  split
  · exact resS_inv h
  · exact ⟨m, h⟩
theorem resS_two (l : List EN) (t : TN) (l' : List EN) : (resS l t l').2.1 = l ∨ (resS l t l').2.1 = l' := by
  unfold resS
  cases treeP l' with
  | none => exact .inl rfl
  | some p => exact .inr rfl
theorem putS_wb {l : List EN} {t : TN} (I : Int) (x : EN) (hw : ∀ e ∈ l, WB e.bx) (hx : WB x.bx) : ∀ e ∈ (putS l t I x).2.1, WB e.bx := by
  unfold putS
  split
  · rcases resS_two l t (insE l I.toNat x) with h | h <;> rw [h]
    · exact hw
    · exact fun e he => (insE_mem he).elim (hw e) (fun h => by rw [h]; exact hx)
  · exact hw
theorem takS_wb {l : List EN} {t : TN} (I : Int) (hw : ∀ e ∈ l, WB e.bx) : ∀ e ∈ (takS l t I).2.1, WB e.bx := by
  unfold takS
  split
  · rcases resS_two l t (remE l I.toNat) with h | h <;> rw [h]
    · exact hw
    · exact fun e he => hw e (remE_mem he)
  · exact hw
theorem putS_len (l : List EN) (t : TN) (I : Int) (x : EN) : (putS l t I x).2.1.length ≤ l.length + 1 := by
  unfold putS
  split
  · rename_i h
    rcases resS_two l t (insE l I.toNat x) with h' | h' <;> rw [h']
    · omega
    · rw [insE_len (by omega)]; omega
  · simp
theorem takS_len (l : List EN) (t : TN) (I : Int) : (takS l t I).2.1.length ≤ l.length + 1 := by
  unfold takS
  split
  · rename_i h
    rcases resS_two l t (remE l I.toNat) with h' | h' <;> rw [h']
    · omega
    · rw [remE_len (by omega)]; omega
  · simp
theorem yields_rowo {P : Program} {ops : Array Oper} {S : World → Prop} {o : Oper} {a : Act} (hw : Region.wanted o (yielded ops a.tmps) = true) (ty : TypeId) (x : Operand) (ho : o.op = .load ty x) (ad : Addr) (hx : a.eval x = .pointer (some ad)) (cs : Array Value) (d : TypeDesc)
    (hS : ∀ w, S w → ∀ j v, cs.toList[j]? = some v → w.cell? (ad.add j) = some v) (hu : P.underlying ty = some d) (hd : (match d with | .struct _ | .array _ _ => true | _ => false) = true) (hi : (P.info? ty).map (·.size) = some cs.size) : YieldsIf P ops S o (.agg cs) a :=
  .inl ⟨hw, fun w hs => exec_cells ty x ho ad hx cs d (hS w hs) hu hd hi⟩
/-- What both sides say of points. -/
theorem same_all (B T : Nat) (l : List EN) (t : TN) (m : Nat) (AP : Option Addr) (np cp : Nat) (pts : List (Nat → P2)) (hnp : np ≤ 64) (hl : l.length ≤ 500) (ht : treeP l = some (t, m)) (hw : ∀ e ∈ l, WB e.bx) (hwp : ∀ p ∈ pts, WP p) (w : World) (h1 : TreeAt w B l t) (h2 : RTreeAt w T l t) (h3 : Sl w 12 (fun p : Nat → P2 => (ptc p).toList) AP np pts) :
    Calls Try.prog 10 #[.pointer (some ⟨B, 0, none⟩), .pointer (some ⟨T, 0, none⟩), .slice AP np cp] w (LawPost w) := by
  have hcnt := grow_count 23 fullB l 512 t m ht
  have hlf := grow_leafs 23 fullB l 512 t m ht
  have hfk := grow_fOk 23 fullB wb_full l hw 512 t m ht
  exact same_any B l t T AP np cp pts (by omega) (by omega) (fun q hq => Nat.le_trans (hlf q hq) (by omega)) hfk (fun p hp => grow_rfind (hwp p hp) 23 fullB wb_full l hw 512 t m ht (hp_full (hwp p hp))) w h1 h2 h3

set_option maxRecDepth 100000 in
set_option maxHeartbeats 16000000 in
theorem cch_core (A : Option Addr) (n c : Nat) (l : List EN) (AS : Option Addr) (ns cs : Nat) (sts : List SR) (AP : Option Addr) (np cp : Nat) (pts : List (Nat → P2)) (hn : n ≤ 256) (hns : ns ≤ 64) (hnp : np ≤ 64) (w : World) (hS : Sl w 25 enc25 A n l) (hSS : Sl w 27 encS AS ns sts) (hSP : Sl w 12 (fun p : Nat → P2 => (ptc p).toList) AP np pts) (hw : ∀ e ∈ l, WB e.bx) (hws : ∀ s ∈ sts, WB s.e.bx) (hc : A = none → c = 0) (hwp : ∀ p ∈ pts, WP p) :
    Calls Try.prog 4 #[.slice A n c, .slice AS ns cs, .slice AP np cp] w (LawPost w) := by
  obtain ⟨M, hM⟩ : ∃ M, M = LawPost w := ⟨_, rfl⟩
  rw [← hM]
  have FIN0 : ∀ W, Below w.heap.size w W → M (.returned (.bool true)) W := fun W h => by rw [hM]; exact ⟨rfl, h⟩
  have FIN := Lib.hid FIN0
  clear FIN0 hM
  have h1 : decide ((256 : Int) < (n : Int)) = false := by simp; omega
  have h2 : decide ((64 : Int) < (np : Int)) = false := by simp; omega
  have h3 : decide ((64 : Int) < (ns : Int)) = false := by simp; omega
  have hlen := hS.len
  have hl5 : (leftP fullB l).length ≤ 512 := Nat.le_trans (left_len _ _) (by rw [hlen]; omega)
  have ba := fun (W : World) (h : Sl W 25 enc25 A n l) => build_any A n c l (by omega) hl5 hw W h
  have rb := fun (W : World) (h : Sl W 25 enc25 A n l) => rbuild_any A n c l (by omega) hl5 hc hw W h
  obtain ⟨R, hR⟩ : ∃ R, R = treeP l := ⟨_, rfl⟩
  rw [← hR] at ba rb
  cases R with
  | none =>
    clear hSS hSP hR
    go_enter Try.func4, Try.ntmps4
    go_wp2_with (first | (go_at_call 5; go_loud (with_reducible refine (ba _ hS).mono ?_); rintro e w2 ⟨rfl, hb⟩; have hS2 := hS.keep hb) | (go_at_call 6; go_loud (with_reducible refine (rb _ hS2).mono ?_); rintro e w3 ⟨rfl, hb2⟩))
    have bz := bel_via hb hb2
    first | exact FIN.out _ bz | (go_ret; exact FIN.out _ bz)
  | some q =>
    obtain ⟨t, m⟩ := q
    have hTR := hR.symm
    clear hR
    have sa := fun (B T : Nat) (lc : List EN) (tc : TN) (mc : Nat) (hl : lc.length ≤ 500) (ht : treeP lc = some (tc, mc)) (hw : ∀ e ∈ lc, WB e.bx) (W : World) h1 h2 h3 => same_all B T lc tc mc AP np cp pts hnp hl ht hw hwp W h1 h2 h3
    have SA := Lib.hid sa
    clear sa
    go_enter Try.func4, Try.ntmps4
    go_wp2_with (first | (go_at_call 5; go_loud (with_reducible refine (ba _ hS).mono ?_); rintro e w2 ⟨Bt, rfl, ⟨hBlo, hTa⟩, hTt, hb⟩; have hS2 := hS.keep hb) | (go_at_call 6; go_loud (with_reducible refine (rb _ hS2).mono ?_); rintro e w3 ⟨Tr, rfl, ⟨hTlo, hTb⟩, hTr, hb2⟩))
    have hTA := (hTa.keep hb2).at
    have bz := bel_via hb hb2
    have hTw : w.heap.size ≤ Tr := Nat.le_trans hb.size hTlo
    clear ba rb hS2 hS hb hb2 hTa hTt hTb hTlo hl5 hc
    go_loopw [11] (fun v11 wr => ∃ (i : Nat) (lc : List EN) (tc : TN) (mc : Nat), v11 = .int .i64 i ∧ i ≤ ns ∧ Hid (treeP lc = some (tc, mc)) ∧ Hid (∀ e ∈ lc, WB e.bx) ∧ lc.length ≤ 256 + i ∧ TreeAt wr Bt lc tc ∧ RTreeAt wr Tr lc tc ∧ Below w.heap.size w wr) (fun v11 _ => ns - (intOf v11).toNat)
    case atStart => exact ⟨0, l, t, m, rfl, by omega, Lib.hid hTR, Lib.hid hw, by omega, hTA, hTr, bz⟩
    case round =>
      obtain ⟨i, lc, tc, mc, rfl, hi, HT, HW, hlc, hTc, hRc, bw⟩ := hrel
      clear hTA hTr bz hTR hw
      by_cases hlt : i < ns
      · have hml : i < sts.length := by rw [hSS.len]; exact hlt
        obtain ⟨s, hs⟩ : ∃ s, sts[i]? = some s := ⟨_, List.getElem?_eq_getElem hml⟩
        have hws1 := hws s (List.mem_of_getElem? hs)
        obtain ⟨b1, o1, hA1, _, hr1⟩ := hSS.row (by omega)
        have hcell := encS_row hr1 hs
        have hSP1 := hSP.keep bw
        have d1 := st_info s
        have d2 := st_one s
        have c0 := fun (W : World) (O : Nat) (h : W.heap[O]? = some (.cells (stA s) 48 (0, 0))) => st_c0 h
        have c1 := fun (W : World) (O : Nat) (h : W.heap[O]? = some (.cells (stA s) 48 (0, 0))) => st_c1 h
        have c2 := fun (W : World) (O : Nat) (h : W.heap[O]? = some (.cells (stA s) 48 (0, 0))) => st_c2 h
        have hold : (#[.int .i64 0, .int .i64 0, .int .u64 0, .int .u64 0, .int .u64 0, .int .u64 0, .int .u64 0, .int .u64 0, .int .u64 0, .int .u64 0, .int .u64 0, .int .u64 0, .int .u64 0, .int .u64 0, .int .u64 0, .int .u64 0, .int .u64 0, .int .u64 0, .int .u64 0, .int .u64 0, .int .u64 0, .int .u64 0, .int .u64 0, .int .u64 0, .int .u64 0, .int .u64 0, .int .i64 0] : Array Value).size = (stA s).size := by kernel_rfl
        have iE : (Try.prog.info? 32).map (·.size) = some (enA s.e).size := by kernel_rfl
        have pa := fun (W : World) (h : TreeAt W Bt lc tc) => put_all Bt s.i s.e lc tc (by omega) HW.out hws1 W h
        have rpa := fun (W : World) (h : RTreeAt W Tr lc tc) => rput_all Tr s.i s.e lc tc (by omega) HW.out hws1 W h
        have ta := fun (W : World) (h : TreeAt W Bt lc tc) => take_all Bt s.i lc tc (by omega) HW.out W h
        have rta := fun (W : World) (h : RTreeAt W Tr lc tc) => rtake_all Tr s.i lc tc (by omega) HW.out W h
        have pi := putS_inv s.i s.e HT.out
        have ti := takS_inv s.i HT.out
        have pw := putS_wb (t := tc) s.i s.e HW.out hws1
        have tw := takS_wb (t := tc) s.i HW.out
        have pl := putS_len lc tc s.i s.e
        have tl := takS_len lc tc s.i
        generalize stA s = SAr at *
        generalize enA s.e = EA at *
        obtain ⟨I, hI⟩ : ∃ I, I = s.i := ⟨_, rfl⟩
        obtain ⟨k, hk⟩ : ∃ k, k = s.k := ⟨_, rfl⟩
        obtain ⟨PS, hPS⟩ : ∃ P, P = putS lc tc s.i s.e := ⟨_, rfl⟩
        obtain ⟨TS, hTS⟩ : ∃ P, P = takS lc tc s.i := ⟨_, rfl⟩
        rw [← hPS] at pi pw pl
        rw [← hTS] at ti tw tl
        simp only [← hPS] at pa rpa
        simp only [← hTS] at ta rta
        simp only [← hI] at c1 pa rpa ta rta
        simp only [← hk] at c0
        clear hPS hTS hI hk hs hws1 hr1
        obtain ⟨zp, lp, tp⟩ := PS
        obtain ⟨zt, lt, tt⟩ := TS
        obtain ⟨mp, pi⟩ := pi
        obtain ⟨mt, ti⟩ := ti
        simp only at pi pw pl ti tw tl
        have PI := Lib.hid pi
        have TI := Lib.hid ti
        have PW := Lib.hid pw
        have TW := Lib.hid tw
        clear pi ti pw tw
        have q0 : ∀ j v, SAr.toList[j]? = some v → wr.cell? ((⟨b1, o1 + i * 27, none⟩ : Addr).add j) = some v := fun j v hj => keepc bw (hcell j v hj)
        have q0 := Lib.hid q0
        have D1 := Lib.hid d1
        have D2 := Lib.hid d2
        have HO := Lib.hid hold
        have C0 := Lib.hid c0
        have C1 := Lib.hid c1
        have C2 := Lib.hid c2
        have IE := Lib.hid iE
        clear hcell d1 d2 hold c0 c1 c2 iE
        subst hA1
        have hlti : (i : Int) < (ns : Int) := by omega
        have hdn : decide (i < ns) = true := by simp [hlt]
        go_upto_region 10 with fail
        go_wp2_with (first | (refine wpList_load_cells rfl 48 (.tmp 54) rfl ⟨b1, o1 + i * 27, none⟩ rfl SAr _ q0.out Try.underlying48 rfl D1.out ?_) | (with_reducible refine stop_op (o := ⟨none, _, _, _, _, _⟩) ?_))
        refine Lib.hid ?_
        refine wpList_store_row rfl 48 (.tmp 12) (.tmp 55) rfl wr.heap.size SAr rfl rfl 48 #[.int .i64 0, .int .i64 0, .int .u64 0, .int .u64 0, .int .u64 0, .int .u64 0, .int .u64 0, .int .u64 0, .int .u64 0, .int .u64 0, .int .u64 0, .int .u64 0, .int .u64 0, .int .u64 0, .int .u64 0, .int .u64 0, .int .u64 0, .int .u64 0, .int .u64 0, .int .u64 0, .int .u64 0, .int .u64 0, .int .u64 0, .int .u64 0, .int .u64 0, .int .u64 0, .int .i64 0] (heap_alloc_new wr _) D1.out HO.out D2.out ?_
        have hal := Below.al (Below.refl wr.heap.size wr) (.cells #[.int .i64 0, .int .i64 0, .int .u64 0, .int .u64 0, .int .u64 0, .int .u64 0, .int .u64 0, .int .u64 0, .int .u64 0, .int .u64 0, .int .u64 0, .int .u64 0, .int .u64 0, .int .u64 0, .int .u64 0, .int .u64 0, .int .u64 0, .int .u64 0, .int .u64 0, .int .u64 0, .int .u64 0, .int .u64 0, .int .u64 0, .int .u64 0, .int .u64 0, .int .u64 0, .int .i64 0] 48)
        have q1 := heap_alloc_new wr (.cells #[.int .i64 0, .int .i64 0, .int .u64 0, .int .u64 0, .int .u64 0, .int .u64 0, .int .u64 0, .int .u64 0, .int .u64 0, .int .u64 0, .int .u64 0, .int .u64 0, .int .u64 0, .int .u64 0, .int .u64 0, .int .u64 0, .int .u64 0, .int .u64 0, .int .u64 0, .int .u64 0, .int .u64 0, .int .u64 0, .int .u64 0, .int .u64 0, .int .u64 0, .int .u64 0, .int .i64 0] 48)
        have hb10 : Below wr.heap.size wr ((wr.alloc (.cells #[.int .i64 0, .int .i64 0, .int .u64 0, .int .u64 0, .int .u64 0, .int .u64 0, .int .u64 0, .int .u64 0, .int .u64 0, .int .u64 0, .int .u64 0, .int .u64 0, .int .u64 0, .int .u64 0, .int .u64 0, .int .u64 0, .int .u64 0, .int .u64 0, .int .u64 0, .int .u64 0, .int .u64 0, .int .u64 0, .int .u64 0, .int .u64 0, .int .u64 0, .int .u64 0, .int .i64 0] 48)).setRow wr.heap.size SAr) := Below.setRow hal (Nat.le_refl _) _
        have q2 : ((wr.alloc (.cells #[.int .i64 0, .int .i64 0, .int .u64 0, .int .u64 0, .int .u64 0, .int .u64 0, .int .u64 0, .int .u64 0, .int .u64 0, .int .u64 0, .int .u64 0, .int .u64 0, .int .u64 0, .int .u64 0, .int .u64 0, .int .u64 0, .int .u64 0, .int .u64 0, .int .u64 0, .int .u64 0, .int .u64 0, .int .u64 0, .int .u64 0, .int .u64 0, .int .u64 0, .int .u64 0, .int .i64 0] 48)).setRow wr.heap.size SAr).heap[wr.heap.size]? = some (.cells SAr 48 (0, 0)) := setRow_heap _ _ _ _ _ _ q1
        obtain ⟨w10, hw10⟩ : ∃ x, x = (wr.alloc (.cells #[.int .i64 0, .int .i64 0, .int .u64 0, .int .u64 0, .int .u64 0, .int .u64 0, .int .u64 0, .int .u64 0, .int .u64 0, .int .u64 0, .int .u64 0, .int .u64 0, .int .u64 0, .int .u64 0, .int .u64 0, .int .u64 0, .int .u64 0, .int .u64 0, .int .u64 0, .int .u64 0, .int .u64 0, .int .u64 0, .int .u64 0, .int .u64 0, .int .u64 0, .int .u64 0, .int .i64 0] 48)).setRow wr.heap.size SAr := ⟨_, rfl⟩
        rw [← hw10] at hb10 q2 ⊢
        have hOB : wr.heap.size ≠ Bt := by obtain ⟨C, h, _⟩ := hTc.blk; have := blk_lt h; omega
        have hOT : wr.heap.size ≠ Tr := by obtain ⟨C, h, _⟩ := hRc.blk; have := blk_lt h; omega
        have hT10 := hTc.keep hb10
        have hR10 := hRc.keep hb10
        have bz10 := bel_via bw hb10
        obtain ⟨O, hO⟩ : ∃ O, O = wr.heap.size := ⟨_, rfl⟩
        rw [← hO] at q2 hOB hOT ⊢
        clear hO hw10 hal q1 hb10 D1 D2 HO q0 hTc hRc bw hSP1
        have p0 := C0.out w10 O q2
        have p1 := C1.out w10 O q2
        replace pa : ∀ W : World, TreeAt W Bt lc tc → Calls Try.prog 7 #[.pointer (some ⟨Bt, 0, none⟩), .int .i64 I, .agg EA] W fun e w' => e = .returned (.int .i64 zp) ∧ TreeAt w' Bt lp tp ∧ OffG Bt W w' := pa
        replace rpa : ∀ W : World, RTreeAt W Tr lc tc → Calls Try.prog 11 #[.pointer (some ⟨Tr, 0, none⟩), .int .i64 I, .agg EA] W fun e w' => e = .returned (.int .i64 zp) ∧ RTreeAt w' Tr lp tp ∧ OffG Tr W w' := rpa
        replace ta : ∀ W : World, TreeAt W Bt lc tc → Calls Try.prog 9 #[.pointer (some ⟨Bt, 0, none⟩), .int .i64 I] W fun e w' => e = .returned (.int .i64 zt) ∧ TreeAt w' Bt lt tt ∧ OffG Bt W w' := ta
        replace rta : ∀ W : World, RTreeAt W Tr lc tc → Calls Try.prog 12 #[.pointer (some ⟨Tr, 0, none⟩), .int .i64 I] W fun e w' => e = .returned (.int .i64 zt) ∧ RTreeAt w' Tr lt tt ∧ OffG Tr W w' := rta
        by_cases hk0 : k = 0
        · subst hk0
          go_upto_region 13 with fail
          have hbd : Below w10.heap.size w10 w10.drew := ⟨rfl, rfl, rfl, Nat.le_refl _, fun _ _ => rfl⟩
          have hTd := hT10.keep hbd
          have hRd := hR10.keep hbd
          have bzd := bel_via bz10 hbd
          have qd : w10.drew.heap[O]? = some (.cells SAr 48 (0, 0)) := q2
          have hzz : (zp != zp) = false := by simp
          refine wp_region_held_drew (S := fun W : World => W.heap[O]? = some (.cells SAr 48 (0, 0))) (by kernel_rfl) qd (fun hH => ?_)
          obtain ⟨wd, hwd⟩ : ∃ wd, wd = w10.drew := ⟨_, rfl⟩
          rw [← hwd] at hTd hRd bzd qd hH ⊢
          clear hwd hbd p0 p1 hT10 hR10 bz10 q2
          refine wpAnyH_take (i := 0) (oi := ⟨some 60, _, _, _, _, _⟩) (v := .pointer (some ⟨Bt, 0, none⟩)) rfl (by kernel_rfl) (by kernel_rfl) (by kernel_rfl) (fun _ _ _ h => h) (.inl ⟨by rfl, fun W hW => by go_simp⟩) hH ?_
          try simp only [Act.put, List.setIfInBounds_toArray, List.set_cons_zero, List.set_cons_succ]
          refine wpAnyH_take (i := 1) (oi := ⟨some 61, _, _, _, _, _⟩) (v := .pointer (some ⟨O, 1, none⟩)) rfl (by kernel_rfl) (by kernel_rfl) (by kernel_rfl) (fun _ _ _ h => h) (.inl ⟨by rfl, fun W hW => by go_simp⟩) hH ?_
          try simp only [Act.put, List.setIfInBounds_toArray, List.set_cons_zero, List.set_cons_succ]
          refine wpAnyH_take (i := 2) (oi := ⟨some 62, _, _, _, _, _⟩) (v := .int .i64 I) rfl (by kernel_rfl) (by kernel_rfl) (by kernel_rfl) (fun _ _ _ h => h) (.inl ⟨by rfl, fun W hW => by have h := C1.out W O hW; go_simp⟩) hH ?_
          try simp only [Act.put, List.setIfInBounds_toArray, List.set_cons_zero, List.set_cons_succ]
          refine wpAnyH_take (i := 3) (oi := ⟨some 63, _, _, _, _, _⟩) (v := .pointer (some ⟨O, 2, none⟩)) rfl (by kernel_rfl) (by kernel_rfl) (by kernel_rfl) (fun _ _ _ h => h) (.inl ⟨by rfl, fun W hW => by go_simp⟩) hH ?_
          try simp only [Act.put, List.setIfInBounds_toArray, List.set_cons_zero, List.set_cons_succ]
          refine wpAnyH_take (i := 4) (oi := ⟨some 64, _, _, _, _, _⟩) (v := .agg EA) rfl (by kernel_rfl) (by kernel_rfl) (by kernel_rfl) (fun _ _ _ h => h) (yields_rowo (by rfl) 32 _ rfl ⟨O, 2, none⟩ rfl EA _ (fun W hW => C2.out W O hW) Try.underlying32 rfl IE.out) hH ?_
          try simp only [Act.put, List.setIfInBounds_toArray, List.set_cons_zero, List.set_cons_succ]
          refine wpAnyH_take (i := 6) (oi := ⟨some 66, _, _, _, _, _⟩) (v := .pointer (some ⟨Tr, 0, none⟩)) rfl (by kernel_rfl) (by kernel_rfl) (by kernel_rfl) (fun _ _ _ h => h) (.inl ⟨by rfl, fun W hW => by go_simp⟩) hH ?_
          try simp only [Act.put, List.setIfInBounds_toArray, List.set_cons_zero, List.set_cons_succ]
          refine wpAnyH_take (i := 7) (oi := ⟨some 67, _, _, _, _, _⟩) (v := .pointer (some ⟨O, 1, none⟩)) rfl (by kernel_rfl) (by kernel_rfl) (by kernel_rfl) (fun _ _ _ h => h) (.inl ⟨by rfl, fun W hW => by go_simp⟩) hH ?_
          try simp only [Act.put, List.setIfInBounds_toArray, List.set_cons_zero, List.set_cons_succ]
          refine wpAnyH_take (i := 8) (oi := ⟨some 68, _, _, _, _, _⟩) (v := .int .i64 I) rfl (by kernel_rfl) (by kernel_rfl) (by kernel_rfl) (fun _ _ _ h => h) (.inl ⟨by rfl, fun W hW => by have h := C1.out W O hW; go_simp⟩) hH ?_
          try simp only [Act.put, List.setIfInBounds_toArray, List.set_cons_zero, List.set_cons_succ]
          refine wpAnyH_take (i := 9) (oi := ⟨some 69, _, _, _, _, _⟩) (v := .pointer (some ⟨O, 2, none⟩)) rfl (by kernel_rfl) (by kernel_rfl) (by kernel_rfl) (fun _ _ _ h => h) (.inl ⟨by rfl, fun W hW => by go_simp⟩) hH ?_
          try simp only [Act.put, List.setIfInBounds_toArray, List.set_cons_zero, List.set_cons_succ]
          refine wpAnyH_take (i := 10) (oi := ⟨some 70, _, _, _, _, _⟩) (v := .agg EA) rfl (by kernel_rfl) (by kernel_rfl) (by kernel_rfl) (fun _ _ _ h => h) (yields_rowo (by rfl) 32 _ rfl ⟨O, 2, none⟩ rfl EA _ (fun W hW => C2.out W O hW) Try.underlying32 rfl IE.out) hH ?_
          try simp only [Act.put, List.setIfInBounds_toArray, List.set_cons_zero, List.set_cons_succ]
          refine wpAnyH_ready (rs := [5]) (by kernel_rfl) (by simp) ?_
          refine AllReadyH.cons (o := ⟨some 65, _, _, _, _, _⟩) rfl (fun K hK => ?_) ?_
          · go_simp
            go_at_call 7
            refine (pa _ hTd).mono ?_
            rintro e w11 ⟨rfl, hT11, ho11⟩
            obtain ⟨CB, hCB, hCBs⟩ := hTd.blk
            have hR11 := hRd.small hCB hCBs ho11
            have q11 := blkO ho11 hOB qd
            refine hK.out _ _ q11 (fun hH => ?_)
            clear hK K
            try simp only [Act.put, List.setIfInBounds_toArray, List.set_cons_zero, List.set_cons_succ]
            refine wpAnyH_ready (rs := [11]) (by kernel_rfl) (by simp) ?_
            refine AllReadyH.cons (o := ⟨some 71, _, _, _, _, _⟩) rfl (fun K hK => ?_) ?_
            · go_simp
              go_at_call 11
              refine (rpa _ hR11).mono ?_
              rintro e w12 ⟨rfl, hR12, ho12⟩
              obtain ⟨CT, hCT, hCTs⟩ := hR11.blk
              have hT12 := hT11.small hCT hCTs ho12
              have q12 := blkO ho12 hOT q11
              refine hK.out _ _ q12 (fun hH => ?_)
              clear hK K
              try simp only [Act.put, List.setIfInBounds_toArray, List.set_cons_zero, List.set_cons_succ]
              refine wpAnyH_ready (rs := [12]) (by kernel_rfl) (by simp) ?_
              refine AllReadyH.cons (o := ⟨some 72, _, _, _, _, _⟩) rfl (fun K hK => ?_) ?_
              · go_simp
                refine hK.out _ _ q12 (fun hH => ?_)
                clear hK K
                try simp only [Act.put, List.setIfInBounds_toArray, List.set_cons_zero, List.set_cons_succ]
                refine wpAnyH_done (by kernel_rfl) ?_ _
                have bz12 : Below w.heap.size w w12 := (bzd.trans (ho11.bel.mono hBlo)).trans (ho12.bel.mono hTw)
                clear hT11 hR11 ho11 ho12 hTd hRd
                go_wp2_with (go_at_call 10; go_loud (with_reducible refine (SA.out Bt Tr lp tp mp (by omega) PI.out PW.out _ hT12 hR12 (hSP.keep bz12)).mono ?_); rintro e w14 ⟨rfl, hb14⟩)
                refine ⟨?_, by simp [intOf]; omega⟩
                first | exact ⟨i + 1, lp, tp, mp, by simp, by omega, PI, PW, by omega, hT12.keep hb14, hR12.keep hb14, bel_via bz12 hb14⟩ | ((repeat apply Exists.intro); exact ⟨⟨i + 1, lp, tp, mp, by simp, by omega, PI, PW, by omega, hT12.keep hb14, hR12.keep hb14, bel_via bz12 hb14⟩, rfl⟩)
              · exact AllReadyH.nil
            · exact AllReadyH.nil
          · exact AllReadyH.nil
        · by_cases hk1 : k = 1
          · subst hk1
            go_upto_region 16 with fail
            have hbd : Below w10.heap.size w10 w10.drew := ⟨rfl, rfl, rfl, Nat.le_refl _, fun _ _ => rfl⟩
            have hTd := hT10.keep hbd
            have hRd := hR10.keep hbd
            have bzd := bel_via bz10 hbd
            have qd : w10.drew.heap[O]? = some (.cells SAr 48 (0, 0)) := q2
            have hzz : (zt != zt) = false := by simp
            refine wp_region_held_drew (S := fun W : World => W.heap[O]? = some (.cells SAr 48 (0, 0))) (by kernel_rfl) qd (fun hH => ?_)
            obtain ⟨wd, hwd⟩ : ∃ wd, wd = w10.drew := ⟨_, rfl⟩
            rw [← hwd] at hTd hRd bzd qd hH ⊢
            clear hwd hbd p0 p1 hT10 hR10 bz10 q2
            refine wpAnyH_take (i := 0) (oi := ⟨some 75, _, _, _, _, _⟩) (v := .pointer (some ⟨Bt, 0, none⟩)) rfl (by kernel_rfl) (by kernel_rfl) (by kernel_rfl) (fun _ _ _ h => h) (.inl ⟨by rfl, fun W hW => by go_simp⟩) hH ?_
            try simp only [Act.put, List.setIfInBounds_toArray, List.set_cons_zero, List.set_cons_succ]
            refine wpAnyH_take (i := 1) (oi := ⟨some 76, _, _, _, _, _⟩) (v := .pointer (some ⟨O, 1, none⟩)) rfl (by kernel_rfl) (by kernel_rfl) (by kernel_rfl) (fun _ _ _ h => h) (.inl ⟨by rfl, fun W hW => by go_simp⟩) hH ?_
            try simp only [Act.put, List.setIfInBounds_toArray, List.set_cons_zero, List.set_cons_succ]
            refine wpAnyH_take (i := 2) (oi := ⟨some 77, _, _, _, _, _⟩) (v := .int .i64 I) rfl (by kernel_rfl) (by kernel_rfl) (by kernel_rfl) (fun _ _ _ h => h) (.inl ⟨by rfl, fun W hW => by have h := C1.out W O hW; go_simp⟩) hH ?_
            try simp only [Act.put, List.setIfInBounds_toArray, List.set_cons_zero, List.set_cons_succ]
            refine wpAnyH_take (i := 4) (oi := ⟨some 79, _, _, _, _, _⟩) (v := .pointer (some ⟨Tr, 0, none⟩)) rfl (by kernel_rfl) (by kernel_rfl) (by kernel_rfl) (fun _ _ _ h => h) (.inl ⟨by rfl, fun W hW => by go_simp⟩) hH ?_
            try simp only [Act.put, List.setIfInBounds_toArray, List.set_cons_zero, List.set_cons_succ]
            refine wpAnyH_take (i := 5) (oi := ⟨some 80, _, _, _, _, _⟩) (v := .pointer (some ⟨O, 1, none⟩)) rfl (by kernel_rfl) (by kernel_rfl) (by kernel_rfl) (fun _ _ _ h => h) (.inl ⟨by rfl, fun W hW => by go_simp⟩) hH ?_
            try simp only [Act.put, List.setIfInBounds_toArray, List.set_cons_zero, List.set_cons_succ]
            refine wpAnyH_take (i := 6) (oi := ⟨some 81, _, _, _, _, _⟩) (v := .int .i64 I) rfl (by kernel_rfl) (by kernel_rfl) (by kernel_rfl) (fun _ _ _ h => h) (.inl ⟨by rfl, fun W hW => by have h := C1.out W O hW; go_simp⟩) hH ?_
            try simp only [Act.put, List.setIfInBounds_toArray, List.set_cons_zero, List.set_cons_succ]
            refine wpAnyH_ready (rs := [3]) (by kernel_rfl) (by simp) ?_
            refine AllReadyH.cons (o := ⟨some 78, _, _, _, _, _⟩) rfl (fun K hK => ?_) ?_
            · go_simp
              go_at_call 9
              refine (ta _ hTd).mono ?_
              rintro e w11 ⟨rfl, hT11, ho11⟩
              obtain ⟨CB, hCB, hCBs⟩ := hTd.blk
              have hR11 := hRd.small hCB hCBs ho11
              have q11 := blkO ho11 hOB qd
              refine hK.out _ _ q11 (fun hH => ?_)
              clear hK K
              try simp only [Act.put, List.setIfInBounds_toArray, List.set_cons_zero, List.set_cons_succ]
              refine wpAnyH_ready (rs := [7]) (by kernel_rfl) (by simp) ?_
              refine AllReadyH.cons (o := ⟨some 82, _, _, _, _, _⟩) rfl (fun K hK => ?_) ?_
              · go_simp
                go_at_call 12
                refine (rta _ hR11).mono ?_
                rintro e w12 ⟨rfl, hR12, ho12⟩
                obtain ⟨CT, hCT, hCTs⟩ := hR11.blk
                have hT12 := hT11.small hCT hCTs ho12
                have q12 := blkO ho12 hOT q11
                refine hK.out _ _ q12 (fun hH => ?_)
                clear hK K
                try simp only [Act.put, List.setIfInBounds_toArray, List.set_cons_zero, List.set_cons_succ]
                refine wpAnyH_ready (rs := [8]) (by kernel_rfl) (by simp) ?_
                refine AllReadyH.cons (o := ⟨some 83, _, _, _, _, _⟩) rfl (fun K hK => ?_) ?_
                · go_simp
                  refine hK.out _ _ q12 (fun hH => ?_)
                  clear hK K
                  try simp only [Act.put, List.setIfInBounds_toArray, List.set_cons_zero, List.set_cons_succ]
                  refine wpAnyH_done (by kernel_rfl) ?_ _
                  have bz12 : Below w.heap.size w w12 := (bzd.trans (ho11.bel.mono hBlo)).trans (ho12.bel.mono hTw)
                  clear hT11 hR11 ho11 ho12 hTd hRd
                  go_wp2_with (go_at_call 10; go_loud (with_reducible refine (SA.out Bt Tr lt tt mt (by omega) TI.out TW.out _ hT12 hR12 (hSP.keep bz12)).mono ?_); rintro e w14 ⟨rfl, hb14⟩)
                  refine ⟨?_, by simp [intOf]; omega⟩
                  first | exact ⟨i + 1, lt, tt, mt, by simp, by omega, TI, TW, by omega, hT12.keep hb14, hR12.keep hb14, bel_via bz12 hb14⟩ | ((repeat apply Exists.intro); exact ⟨⟨i + 1, lt, tt, mt, by simp, by omega, TI, TW, by omega, hT12.keep hb14, hR12.keep hb14, bel_via bz12 hb14⟩, rfl⟩)
                · exact AllReadyH.nil
              · exact AllReadyH.nil
            · exact AllReadyH.nil
          · have e0 : (k == 0) = false := by simp [hk0]
            have e1 : (k == 1) = false := by simp [hk1]
            go_wp2_with (go_at_call 10; go_loud (with_reducible refine (SA.out Bt Tr lc tc mc (by omega) HT.out HW.out _ hT10 hR10 (hSP.keep bz10)).mono ?_); rintro e w14 ⟨rfl, hb14⟩)
            refine ⟨?_, by simp [intOf]; omega⟩
            first | exact ⟨i + 1, lc, tc, mc, by simp, by omega, HT, HW, by omega, hT10.keep hb14, hR10.keep hb14, bel_via bz10 hb14⟩ | ((repeat apply Exists.intro); exact ⟨⟨i + 1, lc, tc, mc, by simp, by omega, HT, HW, by omega, hT10.keep hb14, hR10.keep hb14, bel_via bz10 hb14⟩, rfl⟩)
      · obtain rfl : i = ns := by omega
        have hd0 : decide (i < i) = false := by simp
        have hdi : decide ((i : Int) < (i : Int)) = false := by simp
        go_wp2_with fail
        first | exact FIN.out _ bw | (go_ret; exact FIN.out _ bw)
set_option maxRecDepth 100000 in
set_option maxHeartbeats 4000000 in
theorem cch_any (A : Option Addr) (n c : Nat) (l : List EN) (AS : Option Addr) (ns cs : Nat) (sts : List SR) (AP : Option Addr) (np cp : Nat) (pts : List (Nat → P2)) (w : World) (hS : Sl w 25 enc25 A n l) (hSS : Sl w 27 encS AS ns sts) (hSP : Sl w 12 (fun p : Nat → P2 => (ptc p).toList) AP np pts) (hw : ∀ e ∈ l, WB e.bx) (hws : ∀ s ∈ sts, WB s.e.bx) (hc : A = none → c = 0) (hwp : ∀ p ∈ pts, WP p) :
    Calls Try.prog 4 #[.slice A n c, .slice AS ns cs, .slice AP np cp] w (LawPost w) := by
  by_cases hn : n ≤ 256
  · by_cases hns : ns ≤ 64
    · by_cases hnp : np ≤ 64
      · exact cch_core A n c l AS ns cs sts AP np cp pts hn hns hnp w hS hSS hSP hw hws hc hwp
      · unfold LawPost
        have h1 : decide ((256 : Int) < (n : Int)) = false := by simp; omega
        have h2 : decide ((64 : Int) < (ns : Int)) = false := by simp; omega
        have h3 : decide ((64 : Int) < (np : Int)) = true := by simp; omega
        clear hS hSS hSP hw hws hc hwp hn hns hnp
        go_enter Try.func4, Try.ntmps4
        go_wp2_with fail
        go_ret
        exact ⟨rfl, Below.refl _ _⟩
    · unfold LawPost
      have h1 : decide ((256 : Int) < (n : Int)) = false := by simp; omega
      have h2 : decide ((64 : Int) < (ns : Int)) = true := by simp; omega
      clear hS hSS hSP hw hws hc hwp hn hns
      go_enter Try.func4, Try.ntmps4
      go_wp2_with fail
      go_ret
      exact ⟨rfl, Below.refl _ _⟩
  · unfold LawPost
    have h1 : decide ((256 : Int) < (n : Int)) = true := by simp; omega
    clear hS hSS hSP hw hws hc hwp hn
    go_enter Try.func4, Try.ntmps4
    go_wp2_with fail
    go_ret
    exact ⟨rfl, Below.refl _ _⟩
end Go.Proofs.Ytomennaekjklbaa
