/- Steps of a draft: port; by-name template (gen_na.py). -/
import Derived.Test.YtokbmahnjmmcaaaNaM5
namespace Go.Proofs.Ytokbmahnjmmcaaa
open Go.RowKit Go.Lib Go.Maps
set_option linter.unusedVariables false
set_option linter.unusedSimpArgs false

def tkG (tk : List KR) : KR → Bool := fun k => tk.contains k
theorem back_code (tk : List KR) (o op : KR) : (if tkG tk (turnK o) || turnK o == op then (15 : Int) else 0) = if freeB (turnK o) op tk then 0 else 15 := by
  unfold tkG freeB
  cases tk.contains (turnK o) <;> cases (turnK o == op) <;> rfl
def portQ (d : DR) (tk : List KR) : Option KR := if d.looks then scanK d.ou d.op tk d.frm d.til (cnt d.frm d.til) 0 else if freeB (turnK d.ou) d.op tk then some d.ou else none
def PPost (w : World) (B : Nat) (d : DR) (q : Option KR) (e : Ending) (w' : World) : Prop := Off B w w' ∧ match q with
  | none => e = .returned (.int .i64 15)
  | some r => e = .returned (.int .i64 0) ∧ DAt w' B { d with ou := r, ba := turnK r }
theorem port_bel (f t w i : Int) (W : World) (hf : i64ok f) (ht : i64ok t) (hw : i64ok w) (hi : i64ok i) : Calls Try.prog 15 #[.int .i64 f, .int .i64 t, .int .i64 w, .int .i64 i] W fun e w' => e = .returned (.tuple #[.int .i64 (portP f t w i).1, .bool (portP f t w i).2]) ∧ Below W.heap.size W w' :=
  (port_any f t w i W hf ht hw hi).mono fun e w' ⟨a, b⟩ => ⟨a, by rw [b]; exact Below.refl _ _⟩
theorem ky_turn {k : KR} (h : KyOk k) : KyOk (turnK k) := by
  obtain ⟨a, b, c, d, e, f, g⟩ := h
  exact ⟨a, d, e, b, c, g, f⟩
theorem ky_try {k : KR} (h : KyOk k) {p : Int} (hp : i64ok p) : KyOk (tryK k p) := by
  obtain ⟨a, b, c, d, e, f, g⟩ := h
  unfold tryK
  split
  · exact ⟨a, b, c, d, e, hp, hp⟩
  · exact ⟨a, b, c, d, e, hp, g⟩
theorem port_i64 {f t w : Int} {i : Nat} (h : i < cnt f t) : i64ok (portP f t w i).1 := by
  have hc := h
  unfold cnt at hc
  unfold portP i64ok
  split at hc
  · omega
  · rename_i q
    rw [if_neg (by omega)]
    by_cases c : w < f ∨ t < w
    · simp only [c, if_true]; split <;> (simp only []; omega)
    · simp only [c, if_false]; split <;> (simp only []; omega)
set_option maxRecDepth 100000 in
set_option maxHeartbeats 8000000 in
theorem port_step (d : DR) (B : Nat) (tk : List KR) (c : Nat) {w : World} (h : DAt w B d) (hM : MapT w d.mt (tkG tk) c) (ho : KyOk d.ou) (hop : i64ok d.op.sp) (hf : i64ok d.frm) (ht : i64ok d.til) :
    Calls Try.prog 21 #[.pointer (some ⟨B, 0, none⟩)] w (PPost w B d (portQ d tk)) := by
  have hlt := h.lt
  have hne : d.mt ≠ B := hM.ne h
  obtain ⟨M, hMM⟩ : ∃ M, M = PPost w B d (portQ d tk) := ⟨_, rfl⟩
  rw [← hMM]
  have HMM := Lib.hid hMM
  clear hMM
  have c48 : w.cell? ⟨B, 48, none⟩ = some (.bool d.looks) := h.cell 48 rfl
  by_cases hl : d.looks = true
  · rw [hl] at c48
    have hQ : portQ d tk = scanK d.ou d.op tk d.frm d.til (cnt d.frm d.til) 0 := by unfold portQ; rw [if_pos hl]
    have cP := fun (i : Nat) (hi : i ≤ 65536) (W : World) => port_bel d.frm d.til d.op.sp i W hf ht hop (by unfold i64ok; omega)
    have hn := cnt_le d.frm d.til
    obtain ⟨n, hnn⟩ : ∃ n, n = cnt d.frm d.til := ⟨_, rfl⟩
    have HN := Lib.hid hnn
    rw [← hnn] at hn hQ
    clear hnn
    have HQ := Lib.hid hQ
    have H0 := Lib.hid (And.intro h hM)
    clear hl hQ h hM
    go_enter Try.func21, Try.ntmps21
    go_wp2_with fail
    go_loopw [3] (fun v3 wr => ∃ i : Nat, v3 = .int .i64 i ∧ i ≤ n ∧ ∃ o b, DAt wr B { d with ou := o, ba := b } ∧ Off B w wr ∧ Hid (KyOk o ∧ (∀ p, tryK o p = tryK d.ou p) ∧ scanK d.ou d.op tk d.frm d.til n 0 = scanK d.ou d.op tk d.frm d.til (n - i) i)) (fun v3 _ => n + 1 - (intOf v3).toNat)
    case atStart => exact ⟨0, rfl, by omega, d.ou, d.ba, H0.out.1, Off.refl B w, Lib.hid ⟨ho, fun _ => rfl, rfl⟩⟩
    case round =>
    obtain ⟨i, rfl, hi, o, b, hDr, hFr, HI⟩ := hrel
    have hi2 : i ≤ 65536 := by omega
    have cT := port_ok d.frm d.til d.op.sp i
    rw [← HN.out] at cT
    have hpi : i < n → i64ok (portP d.frm d.til d.op.sp i).1 := fun q => port_i64 (by rw [← HN.out]; exact q)
    have hst : i < n → scanK d.ou d.op tk d.frm d.til (n - i) i = if freeB (turnK (tryK d.ou (portP d.frm d.til d.op.sp i).1)) d.op tk then some (tryK d.ou (portP d.frm d.til d.op.sp i).1) else scanK d.ou d.op tk d.frm d.til (n - (i + 1)) (i + 1) := fun q => by
      rw [show n - i = (n - (i + 1)) + 1 by omega, scanK]
    have cPi := fun W => cP i hi2 W
    obtain ⟨p, hp⟩ : ∃ p, p = (portP d.frm d.til d.op.sp i).1 := ⟨_, rfl⟩
    obtain ⟨ok, hok⟩ : ∃ ok, ok = (portP d.frm d.til d.op.sp i).2 := ⟨_, rfl⟩
    rw [← hok] at cT
    rw [← hp] at hpi hst
    rw [← hp, ← hok] at cPi
    have HST := Lib.hid (And.intro hpi hst)
    clear hp hok hpi hst cP
    go_wp2_with fail
    refine wp_region_held_drew (S := fun W1 : World => ∃ d' : DR, DAt W1 B d' ∧ (d'.frm = d.frm ∧ d'.til = d.til ∧ d'.op = d.op)) (by kernel_rfl) ⟨_, hDr.bel (bel_dr (Below.refl _ _)), rfl, rfl, rfl⟩ (fun hH => ?_)
    clear hH
    have hD0 := hDr.bel (bel_dr (Below.refl _ _))
    have hF0 := hFr.drew
    have bD0 : Below wr.heap.size wr wr.drew := bel_dr (Below.refl _ _)
    obtain ⟨wd0, hwd⟩ : ∃ x, x = wr.drew := ⟨_, rfl⟩
    rw [← hwd] at hD0 hF0 bD0 ⊢
    clear hwd
    refine wpAnyH_take (i := 0) (oi := ⟨some 17, _, _, _, _, _⟩) (v := .pointer (some ⟨B, 0, none⟩)) rfl (by kernel_rfl) (by kernel_rfl) (by kernel_rfl) (fun _ _ _ h => h) (.inl ⟨by rfl, fun W hW => by go_simp⟩) ⟨_, hD0, rfl, rfl, rfl⟩ ?_
    try simp only [Act.put, List.setIfInBounds_toArray, List.set_cons_zero, List.set_cons_succ]
    refine wpAnyH_take (i := 1) (oi := ⟨some 18, _, _, _, _, _⟩) (v := .pointer (some ⟨B, 0, none⟩)) rfl (by kernel_rfl) (by kernel_rfl) (by kernel_rfl) (fun _ _ _ h => h) (.inl ⟨by rfl, fun W hW => by go_simp⟩) ⟨_, hD0, rfl, rfl, rfl⟩ ?_
    try simp only [Act.put, List.setIfInBounds_toArray, List.set_cons_zero, List.set_cons_succ]
    refine wpAnyH_take (i := 2) (oi := ⟨some 19, _, _, _, _, _⟩) (v := .pointer (some ⟨B, 49, none⟩)) rfl (by kernel_rfl) (by kernel_rfl) (by kernel_rfl) (fun _ _ _ h => h) (.inl ⟨by rfl, fun W hW => by go_simp⟩) ⟨_, hD0, rfl, rfl, rfl⟩ ?_
    try simp only [Act.put, List.setIfInBounds_toArray, List.set_cons_zero, List.set_cons_succ]
    refine wpAnyH_take (i := 3) (oi := ⟨some 20, _, _, _, _, _⟩) (v := .int .i64 d.frm) rfl (by kernel_rfl) (by kernel_rfl) (by kernel_rfl) (fun _ _ _ h => h) (.inl ⟨by rfl, fun W hW => by obtain ⟨d2, hd, q1, q2, q3⟩ := hW; have hx : W.cell? ⟨B, 49, none⟩ = some (.int .i64 d2.frm) := hd.cell 49 rfl; rw [q1] at hx; go_simp⟩) ⟨_, hD0, rfl, rfl, rfl⟩ ?_
    try simp only [Act.put, List.setIfInBounds_toArray, List.set_cons_zero, List.set_cons_succ]
    refine wpAnyH_take (i := 4) (oi := ⟨some 21, _, _, _, _, _⟩) (v := .pointer (some ⟨B, 0, none⟩)) rfl (by kernel_rfl) (by kernel_rfl) (by kernel_rfl) (fun _ _ _ h => h) (.inl ⟨by rfl, fun W hW => by go_simp⟩) ⟨_, hD0, rfl, rfl, rfl⟩ ?_
    try simp only [Act.put, List.setIfInBounds_toArray, List.set_cons_zero, List.set_cons_succ]
    refine wpAnyH_take (i := 5) (oi := ⟨some 22, _, _, _, _, _⟩) (v := .pointer (some ⟨B, 0, none⟩)) rfl (by kernel_rfl) (by kernel_rfl) (by kernel_rfl) (fun _ _ _ h => h) (.inl ⟨by rfl, fun W hW => by go_simp⟩) ⟨_, hD0, rfl, rfl, rfl⟩ ?_
    try simp only [Act.put, List.setIfInBounds_toArray, List.set_cons_zero, List.set_cons_succ]
    refine wpAnyH_take (i := 6) (oi := ⟨some 23, _, _, _, _, _⟩) (v := .pointer (some ⟨B, 50, none⟩)) rfl (by kernel_rfl) (by kernel_rfl) (by kernel_rfl) (fun _ _ _ h => h) (.inl ⟨by rfl, fun W hW => by go_simp⟩) ⟨_, hD0, rfl, rfl, rfl⟩ ?_
    try simp only [Act.put, List.setIfInBounds_toArray, List.set_cons_zero, List.set_cons_succ]
    refine wpAnyH_take (i := 7) (oi := ⟨some 24, _, _, _, _, _⟩) (v := .int .i64 d.til) rfl (by kernel_rfl) (by kernel_rfl) (by kernel_rfl) (fun _ _ _ h => h) (.inl ⟨by rfl, fun W hW => by obtain ⟨d2, hd, q1, q2, q3⟩ := hW; have hx : W.cell? ⟨B, 50, none⟩ = some (.int .i64 d2.til) := hd.cell 50 rfl; rw [q2] at hx; go_simp⟩) ⟨_, hD0, rfl, rfl, rfl⟩ ?_
    try simp only [Act.put, List.setIfInBounds_toArray, List.set_cons_zero, List.set_cons_succ]
    refine wpAnyH_take (i := 8) (oi := ⟨some 25, _, _, _, _, _⟩) (v := .pointer (some ⟨B, 0, none⟩)) rfl (by kernel_rfl) (by kernel_rfl) (by kernel_rfl) (fun _ _ _ h => h) (.inl ⟨by rfl, fun W hW => by go_simp⟩) ⟨_, hD0, rfl, rfl, rfl⟩ ?_
    try simp only [Act.put, List.setIfInBounds_toArray, List.set_cons_zero, List.set_cons_succ]
    refine wpAnyH_take (i := 9) (oi := ⟨some 26, _, _, _, _, _⟩) (v := .pointer (some ⟨B, 0, none⟩)) rfl (by kernel_rfl) (by kernel_rfl) (by kernel_rfl) (fun _ _ _ h => h) (.inl ⟨by rfl, fun W hW => by go_simp⟩) ⟨_, hD0, rfl, rfl, rfl⟩ ?_
    try simp only [Act.put, List.setIfInBounds_toArray, List.set_cons_zero, List.set_cons_succ]
    refine wpAnyH_take (i := 10) (oi := ⟨some 27, _, _, _, _, _⟩) (v := .pointer (some ⟨B, 0, none⟩)) rfl (by kernel_rfl) (by kernel_rfl) (by kernel_rfl) (fun _ _ _ h => h) (.inl ⟨by rfl, fun W hW => by go_simp⟩) ⟨_, hD0, rfl, rfl, rfl⟩ ?_
    try simp only [Act.put, List.setIfInBounds_toArray, List.set_cons_zero, List.set_cons_succ]
    refine wpAnyH_take (i := 11) (oi := ⟨some 28, _, _, _, _, _⟩) (v := .pointer (some ⟨B, 7, none⟩)) rfl (by kernel_rfl) (by kernel_rfl) (by kernel_rfl) (fun _ _ _ h => h) (.inl ⟨by rfl, fun W hW => by go_simp⟩) ⟨_, hD0, rfl, rfl, rfl⟩ ?_
    try simp only [Act.put, List.setIfInBounds_toArray, List.set_cons_zero, List.set_cons_succ]
    refine wpAnyH_take (i := 12) (oi := ⟨some 29, _, _, _, _, _⟩) (v := .pointer (some ⟨B, 12, none⟩)) rfl (by kernel_rfl) (by kernel_rfl) (by kernel_rfl) (fun _ _ _ h => h) (.inl ⟨by rfl, fun W hW => by go_simp⟩) ⟨_, hD0, rfl, rfl, rfl⟩ ?_
    try simp only [Act.put, List.setIfInBounds_toArray, List.set_cons_zero, List.set_cons_succ]
    refine wpAnyH_take (i := 13) (oi := ⟨some 30, _, _, _, _, _⟩) (v := .int .i64 d.op.sp) rfl (by kernel_rfl) (by kernel_rfl) (by kernel_rfl) (fun _ _ _ h => h) (.inl ⟨by rfl, fun W hW => by obtain ⟨d2, hd, q1, q2, q3⟩ := hW; have hx : W.cell? ⟨B, 12, none⟩ = some (.int .i64 d2.op.sp) := hd.cell 12 rfl; rw [q3] at hx; go_simp⟩) ⟨_, hD0, rfl, rfl, rfl⟩ ?_
    try simp only [Act.put, List.setIfInBounds_toArray, List.set_cons_zero, List.set_cons_succ]
    refine wpAnyH_take (i := 14) (oi := ⟨some 31, _, _, _, _, _⟩) (v := .int .i64 i) rfl (by kernel_rfl) (by kernel_rfl) (by kernel_rfl) (fun _ _ _ h => h) (.inl ⟨by rfl, fun W hW => by go_simp⟩) ⟨_, hD0, rfl, rfl, rfl⟩ ?_
    try simp only [Act.put, List.setIfInBounds_toArray, List.set_cons_zero, List.set_cons_succ]
    refine wpAnyH_ready (rs := [15]) (by kernel_rfl) (by simp) ?_
    refine AllReadyH.cons (o := ⟨some 32, _, _, _, _, _⟩) rfl (fun K hK => ?_) AllReadyH.nil
    go_simp
    go_at_call 15
    ((with_reducible refine (cPi _).mono ?_); rintro e wd1 ⟨rfl, bC1⟩)
    have hD1 := hD0.bel bC1
    have hF1 := hF0.trans (off_bel bC1)
    refine hK.out _ _ ⟨_, hD1, rfl, rfl, rfl⟩ (fun _ => ?_)
    clear hK K
    try simp only [Act.put, List.setIfInBounds_toArray, List.set_cons_zero, List.set_cons_succ]
    refine wpAnyH_take (i := 16) (oi := ⟨some 16, _, _, _, _, _⟩) (v := .tuple #[.int .i64 p, .bool ok]) rfl (by kernel_rfl) (by kernel_rfl) (by kernel_rfl) (fun _ _ _ h => h) (.inl ⟨by rfl, fun W hW => by go_simp⟩) ⟨_, hD1, rfl, rfl, rfl⟩ ?_
    try simp only [Act.put, List.setIfInBounds_toArray, List.set_cons_zero, List.set_cons_succ]
    refine wpAnyH_take (i := 17) (oi := ⟨some 33, _, _, _, _, _⟩) (v := .int .i64 p) rfl (by kernel_rfl) (by kernel_rfl) (by kernel_rfl) (fun _ _ _ h => h) (.inl ⟨by rfl, fun W hW => by go_simp⟩) ⟨_, hD1, rfl, rfl, rfl⟩ ?_
    try simp only [Act.put, List.setIfInBounds_toArray, List.set_cons_zero, List.set_cons_succ]
    refine wpAnyH_take (i := 18) (oi := ⟨some 34, _, _, _, _, _⟩) (v := .bool ok) rfl (by kernel_rfl) (by kernel_rfl) (by kernel_rfl) (fun _ _ _ h => h) (.inl ⟨by rfl, fun W hW => by go_simp⟩) ⟨_, hD1, rfl, rfl, rfl⟩ ?_
    try simp only [Act.put, List.setIfInBounds_toArray, List.set_cons_zero, List.set_cons_succ]
    refine wpAnyH_take (i := 19) (oi := ⟨some 4, _, _, _, _, _⟩) (v := .int .i64 p) rfl (by kernel_rfl) (by kernel_rfl) (by kernel_rfl) (fun _ _ _ h => h) (.inl ⟨by rfl, fun W hW => by go_simp⟩) ⟨_, hD1, rfl, rfl, rfl⟩ ?_
    try simp only [Act.put, List.setIfInBounds_toArray, List.set_cons_zero, List.set_cons_succ]
    refine wpAnyH_take (i := 20) (oi := ⟨some 5, _, _, _, _, _⟩) (v := .bool ok) rfl (by kernel_rfl) (by kernel_rfl) (by kernel_rfl) (fun _ _ _ h => h) (.inl ⟨by rfl, fun W hW => by go_simp⟩) ⟨_, hD1, rfl, rfl, rfl⟩ ?_
    try simp only [Act.put, List.setIfInBounds_toArray, List.set_cons_zero, List.set_cons_succ]
    refine wpAnyH_done (by kernel_rfl) ?_ _
    try simp only [Act.put, List.setIfInBounds_toArray, List.set_cons_zero, List.set_cons_succ]
    obtain ⟨w5, hw5⟩ : ∃ x, x = wd1 := ⟨_, rfl⟩
    rw [← hw5] at hD1 hF1 ⊢
    have HD := Lib.hid hD1
    have HF := Lib.hid hF1
    clear hw5 hD0 hF0 bD0 hD1 hF1 hDr hFr cPi
    cases ok
    · have hin : i = n := by
        have : ¬ i < n := by simpa using cT.symm
        omega
      have FE : M (.returned (.int .i64 15)) w5 := by
        rw [HMM.out, HQ.out, HI.out.2.2, show n - i = 0 by omega]
        exact ⟨HF.out, rfl⟩
      have FE := Lib.hid FE
      clear cT hin
      go_wp2_with fail
      exact FE.out
    · have hin : i < n := by simpa using cT.symm
      have hpi := HST.out.1 hin
      have hst := HST.out.2 hin
      have hko : KyOk (tryK o p) := ky_try HI.out.1 hpi
      have htt : tryK o p = tryK d.ou p := HI.out.2.1 p
      have hkt := HI.out.2.2
      have htr : ∀ q, tryK (tryK o p) q = tryK d.ou q := fun q => by rw [try_try]; exact HI.out.2.1 q
      have cG := give_any _ B p HD.out
      unfold LPost giveD at cG
      have HX := Lib.hid (And.intro hst (And.intro hko (And.intro htt (And.intro hkt htr))))
      clear hst hko htt hkt htr cT hpi
      go_upto_region 9 with (go_at_call 37; ((with_reducible refine cG.mono ?_); rintro e w6 ⟨v, rfl, hD6, hF6⟩))
      have HD6 := Lib.hid hD6
      have HF6 := Lib.hid (HF.out.trans hF6)
      have cB := back_any _ B (tkG tk) c HD6.out (H0.out.2.keep (HF6.out.block _ H0.out.2.lt hne)) (ky_turn HX.out.2.1)
      rw [back_code] at cB
      unfold DPost backD at cB
      simp only [HX.out.2.2.1] at cB
      clear hD6 hF6 cG
      obtain ⟨fr, hfr⟩ : ∃ fr, fr = freeB (turnK (tryK d.ou p)) d.op tk := ⟨_, rfl⟩
      have hX1 := HX.out.1
      rw [← hfr] at cB hX1
      have HX1 := Lib.hid hX1
      have HFR := Lib.hid hfr
      clear hfr hX1
      cases fr
      · simp only [Bool.false_eq_true, if_false] at cB
        go_wp2_with (go_at_call 36; ((with_reducible refine cB.mono ?_); rintro e w7 ⟨rfl, hD7, hF7⟩; have HD7 := Lib.hid hD7; have HF7 := Lib.hid hF7; clear hD7 hF7))
        exact ⟨⟨i + 1, by first | rfl | go_num, by omega, _, _, HD7.out, HF6.out.trans HF7.out, Lib.hid ⟨by rw [← HX.out.2.2.1]; exact HX.out.2.1, fun q => try_try _ _ _, by rw [HX.out.2.2.2.1, HX1.out, if_neg (by simp)]⟩⟩, by simp [intOf]; omega⟩
      · simp only [if_true] at cB
        have FE : ∀ w', DAt w' B { d with ou := tryK d.ou p, ba := turnK (tryK d.ou p) } → Off B w6 w' → M (.returned (.int .i64 0)) w' := fun w' a b => by
          rw [HMM.out, HQ.out, HX.out.2.2.2.1, HX1.out, if_pos rfl]
          exact ⟨HF6.out.trans b, rfl, a⟩
        have FE := Lib.hid FE
        go_wp2_with (go_at_call 36; ((with_reducible refine cB.mono ?_); rintro e w7 ⟨rfl, hD7, hF7⟩; have HD7 := Lib.hid hD7; have HF7 := Lib.hid hF7; clear hD7 hF7))
        exact FE.out _ HD7.out HF7.out
  · have hl2 : d.looks = false := by simpa using hl
    rw [hl2] at c48
    have cB := back_any d B (tkG tk) c h hM (ky_turn ho)
    rw [back_code] at cB
    unfold DPost backD at cB
    have hQ : portQ d tk = if freeB (turnK d.ou) d.op tk then some d.ou else none := by unfold portQ; rw [hl2]; rfl
    obtain ⟨fr, hfr⟩ : ∃ fr, fr = freeB (turnK d.ou) d.op tk := ⟨_, rfl⟩
    rw [← hfr] at cB hQ
    have HQ := Lib.hid hQ
    clear hfr hQ hl hl2 h hM
    go_enter Try.func21, Try.ntmps21
    cases fr
    · simp only [Bool.false_eq_true, if_false] at cB
      go_wp2_with (go_at_call 36; ((with_reducible refine cB.mono ?_); rintro e w7 ⟨rfl, hD7, hF7⟩; have HD7 := Lib.hid hD7; have HF7 := Lib.hid hF7; clear hD7 hF7))
      show M (.returned (.int .i64 15)) w7
      rw [HMM.out, HQ.out]
      exact ⟨HF7.out, rfl⟩
    · simp only [if_true] at cB
      go_wp2_with (go_at_call 36; ((with_reducible refine cB.mono ?_); rintro e w7 ⟨rfl, hD7, hF7⟩; have HD7 := Lib.hid hD7; have HF7 := Lib.hid hF7; clear hD7 hF7))
      show M (.returned (.int .i64 0)) w7
      rw [HMM.out, HQ.out]
      exact ⟨HF7.out, rfl, HD7.out⟩
end Go.Proofs.Ytokbmahnjmmcaaa
