/- Meters: Take of the program, of a source that has none; by-name template. -/
import Derived.Test.YtpkmloanbddefaaMTU
namespace Go.Proofs.Ytpkmloanbddefaa
open Go.RowKit Go.Lib Go.Maps
set_option linter.unusedVariables false
set_option linter.unusedSimpArgs false

theorem new_at (r b t : Int) (w : World) : Calls Try.prog 20 #[.int .i64 r, .int .i64 b, .int .i64 t] w fun e w' => ∃ B, e = .returned (.pointer (some ⟨B, 0, none⟩)) ∧ w.heap.size ≤ B ∧ BkAt 67 w' B (newP r b t) ∧ Below w.heap.size w w' :=
  (new_any r b t w).mono fun e w' ⟨he, h1, h2, h3⟩ => ⟨_, he, Nat.le_refl _, h1, h2⟩

set_option maxHeartbeats 2000000 in
theorem take_out {w : World} {S : Nat → Prop} {r b tk : Int} {Bm Mp : Nat} {E : List PE} (h : PAt w S r b tk Bm Mp E) {s : Src} (hs : SrcOk s) {t : Int} (ht : i64ok t) (htk : tk < 9223372036854775807) (hi : ¬ idxP (E.map PE.me) s < (E.map PE.me).length) :
    Calls Try.prog 10 #[.pointer (some ⟨Bm, 0, none⟩), .agg #[.int .u64 s.1, .int .u64 s.2], .int .i64 t] w (TakePost w S r b tk t Bm Mp E s) := by
  have t0 := h.t0
  have hwr : IntKind.i64.wrap (tk + 1) = tk + 1 := IntWalk.i64_in _ (by omega)
  have hany := me_out hi
  have h1 := h.al (.cells #[.int .u64 s.1, .int .u64 s.2] 25)
  have hb1 : Below w.heap.size w (w.alloc (.cells #[.int .u64 s.1, .int .u64 s.2] 25)) := (Below.refl _ _).alloc (Nat.le_refl _) _
  have q1 : (w.alloc (.cells #[.int .u64 s.1, .int .u64 s.2] 25)).heap[w.heap.size]? = some (.cells #[.int .u64 s.1, .int .u64 s.2] 25 (0, 0)) := heap_alloc_new w _
  have hhas := has_any h1 hs
  rw [hany] at hhas
  have gN := good_new r b t ht
  have gT := gN.take ht 1
  have hroom : ∀ w2, Below (w.alloc (.cells #[.int .u64 s.1, .int .u64 s.2] 25)).heap.size (w.alloc (.cells #[.int .u64 s.1, .int .u64 s.2] 25)) w2 → Calls Try.prog 19 #[.pointer (some ⟨Bm, 0, none⟩), .int .i64 t] w2 (RoomPost w2 S r b tk t Bm Mp E) := fun w2 hb => room_any (h1.below hb) ht htk
  have hqs : ∀ w2 w3, Below (w.alloc (.cells #[.int .u64 s.1, .int .u64 s.2] 25)).heap.size (w.alloc (.cells #[.int .u64 s.1, .int .u64 s.2] 25)) w2 → OffS S w2 w3 → w3.heap[w.heap.size]? = some (.cells #[.int .u64 s.1, .int .u64 s.2] 25 (0, 0)) := fun w2 w3 hb ho => by
    have hx := (hb.block w.heap.size (by simp)).trans q1
    rw [ho.block _ (Array.getElem?_eq_some_iff.1 hx).1 (fun e => by have := h.lt _ e; omega)]
    exact hx
  have hSz : ∀ w2 w3, Below (w.alloc (.cells #[.int .u64 s.1, .int .u64 s.2] 25)).heap.size (w.alloc (.cells #[.int .u64 s.1, .int .u64 s.2] 25)) w2 → OffS S w2 w3 → OffS S w w3 ∧ w.heap.size ≤ w3.heap.size := fun w2 w3 hb ho =>
    have k := ((offS_below hb1).trans (offS_below hb)).trans ho
    ⟨k, k.size⟩
  have hL : (E.map PE.me).length = E.length := by simp
  have NO : ∀ w2 w3 E', Below (w.alloc (.cells #[.int .u64 s.1, .int .u64 s.2] 25)).heap.size (w.alloc (.cells #[.int .u64 s.1, .int .u64 s.2] 25)) w2 → roomB (E.map PE.me) t = false → PAt w3 S r b tk Bm Mp E' → E'.map PE.me = roomL (E.map PE.me) t → OffS S w2 w3 → TakePost w S r b tk t Bm Mp E s (.returned (.tuple #[.bool false, .bool false])) w3 := by
    intro w2 w3 E' hb hr hp he ho
    unfold roomB at hr
    rw [Bool.or_eq_false_iff] at hr
    have r1 := of_decide_eq_false hr.1
    have r2 := of_decide_eq_false hr.2
    refine ⟨S, E', tk, ?_, hp, ?_, (hSz w2 w3 hb ho).1, fun k hk => .inl hk, by omega⟩
    · unfold takeO takeR
      rw [if_neg hi, if_neg r1, if_neg r2, decide_eq_false hi, decide_eq_false r1, decide_eq_false r2]; rfl
    · unfold takeL
      rw [if_neg hi, if_neg r1, if_neg r2, he]
      unfold roomL
      rw [if_neg r1, if_neg r2]
  have YES : ∀ w2 w3 E' w4 w' M B, Below (w.alloc (.cells #[.int .u64 s.1, .int .u64 s.2] 25)).heap.size (w.alloc (.cells #[.int .u64 s.1, .int .u64 s.2] 25)) w2 → roomB (E.map PE.me) t = true → PAt w3 S r b tk Bm Mp E' → E'.map PE.me = roomL (E.map PE.me) t → OffS S w2 w3 → E'.length < 32 → E'.any (fun e => e.s == s) = false → w3.heap.size ≤ M → w3.heap.size ≤ B →
      OffS (fun j => j = Mp) w3 w4 → MapIs w4 Mp (E' ++ [⟨s, M, B, 0, newP r b t⟩]) → w4.heap[M]? = some (.cells #[.pointer (some ⟨B, 0, none⟩), .int .i64 0] 59 (0, 0)) → BkAt 67 w4 B (newP r b t) → BkAt 67 w' B (takeD (newP r b t) t 1) →
      Off B ((w4.setCell ⟨Bm, 3, none⟩ (.int .i64 (tk + 1))).setCell ⟨M, 1, none⟩ (.int .i64 (tk + 1))) w' → TakePost w S r b tk t Bm Mp E s (.returned (.tuple #[.bool (takeB (newP r b t) t 1), .bool true])) w' := by
    intro w2 w3 E' w4 w' M B hb hr hp he ho hl hn hM hB ho4 mp me bk hbk hof
    obtain ⟨k1, k2⟩ := hp.fresh hl hs hn hM hB ho4 mp me bk gT hbk hof
    have hz := hSz w2 w3 hb ho
    unfold roomB at hr
    refine ⟨_, _, tk + 1, ?_, k1, ?_, hz.1.trans k2, fun k hk => ?_, Int.le_refl _⟩
    · unfold takeO takeR newB
      rw [if_neg hi, decide_eq_false hi, Bool.false_or, hr]
      by_cases c1 : (E.map PE.me).length < 32
      · rw [if_pos c1]
      · rw [decide_eq_false c1, Bool.false_or] at hr
        rw [if_neg c1, if_pos (of_decide_eq_true hr)]
    · unfold takeL newT
      rw [if_neg hi, List.map_append, he]
      unfold roomL
      by_cases c1 : (E.map PE.me).length < 32
      · rw [if_pos c1, if_pos c1]; rfl
      · rw [decide_eq_false c1, Bool.false_or] at hr
        rw [if_neg c1, if_neg c1, if_pos (of_decide_eq_true hr), if_pos (of_decide_eq_true hr)]; rfl
    · rcases hk with hk | hk
      · exact .inl hk
      · exact .inr (by omega)
  have HNO := Lib.hid NO
  have HYES := Lib.hid YES
  have HROOM := Lib.hid hroom
  have HQS := Lib.hid hqs
  have HS := Lib.hid hs
  have HN := Lib.hid hany
  have HLT := Lib.hid h.lt
  have hnw := fun w => new_at r b t w
  clear NO YES hroom hqs hs hany gT hSz hL hi h h1 hb1 q1
  generalize hrb : roomB (E.map PE.me) t = rb at *
  have HRB := Lib.hid hrb
  clear hrb
  rcases rb with _ | _
  · go_enter Try.func10, Try.ntmps10
    go_wp2_with (first
      | (go_at_call 12; refine hhas.mono ?_; rintro e9 w2 ⟨rfl, hb2⟩)
      | (go_at_call 19; refine (HROOM.out _ hb2).mono ?_; rintro e9 w3 ⟨E', he3, hp3, hm3, ho3, _, _⟩; rw [HRB.out] at he3; subst he3))
    go_ret2
    exact HNO.out _ _ E' hb2 (by first | trivial | rfl) hp3 hm3 ho3
  · go_enter Try.func10, Try.ntmps10
    go_wp2_with (first
      | (go_at_call 12; refine hhas.mono ?_; rintro e9 w2 ⟨rfl, hb2⟩)
      | (go_at_call 19; refine (HROOM.out _ hb2).mono ?_; rintro e9 w3 ⟨E', he3, hp3, hm3, ho3, hl3, hn3⟩; rw [HRB.out] at he3 hl3; subst he3))
    have q3 := HQS.out _ _ hb2 ho3
    have hl := hl3 (by first | trivial | rfl)
    have hn := hn3 _ HN.out
    have HM := Lib.hid (HYES.out w2 w3 E' · · · · hb2 (by first | trivial | rfl) hp3 hm3 ho3 hl hn)
    clear hhas HNO HYES HROOM HQS HRB hb2 hm3 ho3 hl3 hn3
    have c0 := hp3.c0
    have c1 := hp3.c1
    have c2 := hp3.c2
    have c3 := hp3.c3
    have s0 := cell_of_row _ _ 0 _ _ _ q3
    have s1 := cell_of_row _ _ 1 _ _ _ q3
    have hlB := hp3.bl
    have hlM := hp3.mp.lt
    have hlS := (Array.getElem?_eq_some_iff.1 q3).1
    have hbS : Bm ≠ w.heap.size := by have := HLT.out Bm hp3.sS.1; omega
    have hmS : Mp ≠ w.heap.size := by have := HLT.out Mp hp3.sS.2.1; omega
    have hBM : Bm ≠ Mp := by obtain ⟨D, ⟨es, clock, hmp, _⟩, _⟩ := hp3.mp; intro e; rw [← e, hp3.hm] at hmp; cases hmp
    have HP := Lib.hid hp3
    have HH : Hid (E'.length < 32 ∧ E'.any (fun e => e.s == s) = false) := Lib.hid ⟨hl, hn⟩
    clear hp3 hl hn q3
    have hz4 : ∀ {w' : World}, Below w3.heap.size w3 w' → ∀ {k : Nat}, k < w3.heap.size → ∀ o, w'.cell? ⟨k, o, none⟩ = w3.cell? ⟨k, o, none⟩ := fun {w'} hb {k} hk o => World.cell?_of_block (a := ⟨k, o, none⟩) (hb.block k hk)
    have b3 : Below w3.heap.size w3 w3.drew := bel_dr (Below.refl _ _)
    go_region_held3 (fun w' => w'.cell? ⟨Bm, 0, none⟩ = some (.int .i64 r) ∧ w'.cell? ⟨Bm, 1, none⟩ = some (.int .i64 b) ∧ w'.cell? ⟨Bm, 2, none⟩ = some (.map (some Mp)) ∧ w'.cell? ⟨w.heap.size, 0, none⟩ = some (.int .u64 s.1) ∧ w'.cell? ⟨w.heap.size, 1, none⟩ = some (.int .u64 s.2))
      (first
        | exact ⟨(hz4 b3 hlB _).trans c0, (hz4 b3 hlB _).trans c1, (hz4 b3 hlB _).trans c2, (hz4 b3 hlS _).trans s0, (hz4 b3 hlS _).trans s1⟩
        | exact ⟨(hz4 b4 hlB _).trans c0, (hz4 b4 hlB _).trans c1, (hz4 b4 hlB _).trans c2, (hz4 b4 hlS _).trans s0, (hz4 b4 hlS _).trans s1⟩
        | exact ⟨(hz4 b5 hlB _).trans c0, (hz4 b5 hlB _).trans c1, (hz4 b5 hlB _).trans c2, (hz4 b5 hlS _).trans s0, (hz4 b5 hlS _).trans s1⟩
        | exact ⟨(h6 hlB hBM _).trans c0, (h6 hlB hBM _).trans c1, (h6 hlB hBM _).trans c2, (h6 hlS hmS.symm _).trans s0, (h6 hlS hmS.symm _).trans s1⟩)
      (first
        | (go_at_call 20; refine (hnw _).mono ?_; rintro e4 w4 ⟨B, rfl, hBz, hk4, bl4⟩; have b4 := b3.trans bl4; have b5 := b4.alloc b4.size (.cells #[.pointer (some ⟨B, 0, none⟩), .int .i64 0] 59); obtain ⟨w6, hr6, hm6, ho6⟩ := MapIs.put (HP.out.below b5).mp HH.out.1 (e := ⟨s, w4.heap.size, B, 0, newP r b t⟩) HS.out HP.out.ok HH.out.2; have h6 : ∀ {k : Nat}, k < w3.heap.size → k ≠ Mp → ∀ o, w6.cell? ⟨k, o, none⟩ = w3.cell? ⟨k, o, none⟩ := fun {k} hk hne o => World.cell?_of_block (a := ⟨k, o, none⟩) ((ho6.block k (Nat.lt_of_lt_of_le hk b5.size) hne).trans (b5.block k hk))))
    go_wp2_with fail
    have p6 := hm6
    have e6m := HP.out.hm
    have hg6 : w6.heap[Bm]? = some (.cells #[.int .i64 r, .int .i64 b, .map (some Mp), .int .i64 tk] 53 (0, 0)) := (ho6.block Bm (Nat.lt_of_lt_of_le hlB b5.size) hBM).trans ((b5.block Bm hlB).trans HP.out.hm)
    have hM4 : Mp < w4.heap.size := Nat.lt_of_lt_of_le hlM b4.size
    have hMm : w6.heap[w4.heap.size]? = some (.cells #[.pointer (some ⟨B, 0, none⟩), .int .i64 0] 59 (0, 0)) := (ho6.block _ (by simp) (by omega)).trans (heap_alloc_new w4 _)
    have hBl := hk4.lt
    have hBMp : B ≠ Mp := by
      have : w3.heap.size ≤ B := hBz
      omega
    have hB6 : BkAt 67 w6 B (newP r b t) := (ho6.block _ (by simp; omega) hBMp).trans ((Below.heap_alloc _ _ _ hBl).trans hk4)
    have d2 := (h6 hlB hBM 2).trans c2
    have d3 := (h6 hlB hBM 3).trans c3
    have fd := free_of hg6 3
    have m0 := cell_of_row _ _ 0 _ _ _ hMm
    have m1 := cell_of_row _ _ 1 _ _ _ hMm
    have mf := free_of hMm 1
    have u0 := (h6 hlS hmS.symm 0).trans s0
    have u1 := (h6 hlS hmS.symm 1).trans s1
    have hMB : w4.heap.size ≠ Bm := by have := b4.size; omega
    have hl := fun n => look_one (w := w6.drewN n) (hm6.keep rfl) (e := ⟨s, w4.heap.size, B, 0, newP r b t⟩) (by simp) HS.out
    have hT : ∀ n, Calls Try.prog 21 #[.pointer (some ⟨B, 0, none⟩), .int .i64 t, .int .i64 1] (((w6.drewN n).setCell ⟨Bm, 3, none⟩ (.int .i64 (tk + 1))).setCell ⟨w4.heap.size, 1, none⟩ (.int .i64 (tk + 1))) fun e9 w' => e9 = .returned (.bool (takeB (newP r b t) t 1)) ∧ BkAt 67 w' B (takeD (newP r b t) t 1) ∧ Off B (((w6.drewN n).setCell ⟨Bm, 3, none⟩ (.int .i64 (tk + 1))).setCell ⟨w4.heap.size, 1, none⟩ (.int .i64 (tk + 1))) w' := fun n =>
      take_any (by
        have k := hB6.drewN n
        exact (k.off ((Off.refl Bm _).set 3 _) (ne_cells k (show (w6.drewN n).heap[Bm]? = _ from hg6) (by decide))).off ((Off.refl w4.heap.size _).set 1 _) (ne_cells k (show (w6.drewN n).heap[w4.heap.size]? = _ from hMm) (by decide))) gN ht 1
    have o36 : OffS (fun j => j = Mp) w3 w6 := (offS_below b5).trans ho6
    have HG := Lib.hid (fun n w' h1 h2 => HM.out (w6.drewN n) w' w4.heap.size B b4.size hBz (o36.trans ⟨rfl, rfl, rfl, Nat.le_refl _, fun _ _ _ => rfl⟩) (hm6.keep rfl) hMm (hB6.drewN n) h1 h2)
    simp only at hl
    clear HM hm6 ho6 hr6 o36 hB6 hMm hg6 HP HH p6 e6m h6 hz4 b3 b4 b5 bl4 hk4 c0 c1 c2 c3 s0 s1 hnw hlM hlS hbS hmS hM4 hBl hBMp hBz
    generalize takeB (newP r b t) t 1 = vB at *
    generalize takeD (newP r b t) t 1 = vD at *
    generalize w4.heap.size = M at *
    go_quiet (fail)
    go_wp2_with (go_at_call 21; refine (hT _).mono ?_; rintro e9 w7 ⟨rfl, h7, o7⟩)
    go_ret2
    exact HG.out _ _ h7 o7

theorem take_meters {w : World} {S : Nat → Prop} {r b tk : Int} {Bm Mp : Nat} {E : List PE} (h : PAt w S r b tk Bm Mp E) {s : Src} (hs : SrcOk s) {t : Int} (ht : i64ok t) (htk : tk < 9223372036854775807) :
    Calls Try.prog 10 #[.pointer (some ⟨Bm, 0, none⟩), .agg #[.int .u64 s.1, .int .u64 s.2], .int .i64 t] w (TakePost w S r b tk t Bm Mp E s) := by
  by_cases hi : idxP (E.map PE.me) s < (E.map PE.me).length
  · exact take_in h hs ht htk hi
  · exact take_out h hs ht htk hi
end Go.Proofs.Ytpkmloanbddefaa
