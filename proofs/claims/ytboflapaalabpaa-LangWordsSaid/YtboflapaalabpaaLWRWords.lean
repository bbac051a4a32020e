/- Words of a line: the document's; by-name template. -/
import Derived.Test.YtboflapaalabpaaLWName
import Derived.Laws.AppendOwn
import Derived.Laws.OwnMore
import Derived.Deep.DeepFit
namespace Go.Proofs.Ytboflapaalabpaa
open Go.RowKit
set_option linter.unusedVariables false
set_option linter.unusedSimpArgs false

/-- Where the line's remark begins. -/
def HashAt (s : ByteArray) (n : Nat) : Prop := n ≤ s.size ∧ (∀ j, j < n → bt s j ≠ 35) ∧ (n < s.size → bt s n = 35)
def Bad (s : ByteArray) (n : Nat) : Prop := ∃ j, j < n ∧ okN (bt s j) = false
/-- A slice that holds texts. -/
def Texts (w : World) (base : Nat) (v : Value) (l : List ByteArray) : Prop := w.ownsRow base 9 1 v l.length (l.map Value.string)
def WPost (s : ByteArray) (n : Nat) (w : World) (e : Ending) (w' : World) : Prop :=
  (Bad s n ∧ e = .returned (.tuple #[.slice none 0 0, .int .i64 60]) ∧ Below w.heap.size w w') ∨ (¬ Bad s n ∧ ∃ v, e = .returned (.tuple #[v, .int .i64 0]) ∧ Texts w' w.heap.size v (wordsAt s n) ∧ Below w.heap.size w w')
theorem Below.al {w w' : World} (h : Below w.heap.size w w') (o : Obj) : Below w.heap.size w (w'.alloc o) := h.alloc h.size o

/-- The word under way. -/
def wdAt (s : ByteArray) (i : Nat) : ByteArray := match (stP s i).2 with | some a => s.extract a i | none => ByteArray.empty
theorem wd_none {s : ByteArray} {i : Nat} (h : (stP s i).2 = none) : wdAt s i = ByteArray.empty := by unfold wdAt; rw [h]
theorem wd_some {s : ByteArray} {i a : Nat} (h : (stP s i).2 = some a) : wdAt s i = s.extract a i := by unfold wdAt; rw [h]
theorem app_extract (s : ByteArray) (a i : Nat) (ha : a ≤ i) (hi : i < s.size) : s.extract a i ++ s.extract i (i + 1) = s.extract a (i + 1) := by
  apply ByteArray.ext
  simp only [ByteArray.data_append, ByteArray.data_extract]
  rw [Array.extract_append_extract]
  congr 1 <;> omega
theorem wd_next {s : ByteArray} {i : Nat} (hi : i < s.size) (hb : blankN (bt s i) = false) : wdAt s (i + 1) = wdAt s i ++ s.extract i (i + 1) := by
  have h2 := stP_word hb
  cases hs : (stP s i).2 with
  | some a =>
    rw [hs] at h2
    rw [wd_some (a := a) (by rw [h2]; rfl), wd_some hs, app_extract s a i (by have := (stP_lt s i).1 a hs; omega) hi]
  | none =>
    rw [hs] at h2
    rw [wd_some (a := i) (by rw [h2]; rfl), wd_none hs]
    apply ByteArray.ext
    simp
theorem wd_blank {s : ByteArray} {i : Nat} (hb : blankN (bt s i) = true) : wdAt s (i + 1) = ByteArray.empty := by
  cases hs : (stP s i).2 with
  | some a => exact wd_none (by rw [stP_blank_some hb hs])
  | none => exact wd_none (by rw [stP_blank_none hb hs])
theorem wd_size (s : ByteArray) (i : Nat) : (wdAt s i).size ≤ s.size := by
  unfold wdAt
  split
  · rw [ByteArray.size_extract]; omega
  · simp
theorem str_info : (Try.prog.info? 9).map (fun i => (i.zero, i.size, i.bytes)) = some (some (.string ByteArray.empty), 1, 16) := by kernel_rfl

set_option maxHeartbeats 8000000 in
set_option maxRecDepth 100000 in
theorem rwords_any (s : ByteArray) (hs : s.size ≤ 65536) (n : Nat) (hn : HashAt s n) (w : World) : Calls Try.prog 5 #[.string s] w (WPost s n w) := by
  obtain ⟨i0, hi, hz0, hz1, hz2⟩ := info_parts str_info
  obtain ⟨hn1, hn2, hn3⟩ := hn
  have HN2 := Lib.hid hn2
  have HN3 := Lib.hid hn3
  clear hn2 hn3
  go_enter Try.func5, Try.ntmps5
  go_wp2
  go_loopw [4, 5, 6] (fun v4 v5 v6 wr => ∃ (i : Nat) (X : ByteArray) (v : Value), i ≤ n ∧ v6 = .int .i64 i ∧ v5 = .string X ∧ v = v4 ∧ wr.ownsRow w.heap.size 9 1 v (stP s i).1.length ((stP s i).1.map fun x => Value.string (s.extract x.1 x.2)) ∧ Below w.heap.size w wr ∧ Aside (X = wdAt s i ∧ ∀ j, j < i → okN (bt s j) = true)) (fun _ _ v6 _ => s.size - (intOf v6).toNat)
  case atStart => exact ⟨0, ByteArray.empty, _, by omega, rfl, rfl, rfl, World.ownsRow_made w #[] 0 (Nat.le_refl _) (by unfold maxLen; omega) rfl, Below.al (Below.refl _ _) _, ⟨rfl, fun j h => absurd h (Nat.not_lt_zero _)⟩⟩
  case round =>
    obtain ⟨i, X, v4, hin, rfl, rfl, rfl, hown, hbr, N⟩ := hrel
    have hszr : w.heap.size ≤ wr.heap.size := hbr.size
    by_cases hlt : i < n
    · have hls : i < s.size := by omega
      have hlsi : (i : Int) < (s.size : Int) := by omega
      have hbi := bt_get s i hls
      have h35 := HN2.out i hlt
      have hlen := stP_len s i
      have HB : Hid (blankN (bt s i) = true ↔ bt s i = 32 ∨ bt s i = 9) := Lib.hid (by simp [blankN])
      have HO : Hid (okN (bt s i) = true ↔ bt s i = 32 ∨ bt s i = 9 ∨ (33 ≤ bt s i ∧ bt s i ≤ 126)) := Lib.hid (by simp [okN, blankN, or_assoc])
      generalize hbn : bt s i = b at *
      have HBN := Lib.hid hbn
      clear hbn
      have h35d : ((b : Int) != 35) = true := by simp; omega
      clear h35
      by_cases hbl : b = 32 ∨ b = 9
      · have hblank : blankN (bt s i) = true := by rw [HBN.out]; exact HB.out.2 hbl
        have hXw : X = wdAt s i := N.out.1
        have NN := N.out.2
        have hok1 : ∀ j, j < i + 1 → okN (bt s j) = true := fun j hj => by
          by_cases e : j = i
          · subst e; rw [HBN.out]; exact HO.out.2 (by omega)
          · exact NN j (by omega)
        cases hst : (stP s i).2 with
        | none =>
          have hX : X = ByteArray.empty := hXw.trans (wd_none hst)
          have hl : X.toList = [] := by rw [hX, Lib.toList_data]; rfl
          have hX1 : X.toList.isEmpty = true := by simp [hl]
          have hX2 : (X.toList != []) = false := by simp [hl]
          have h1 := stP_blank_none hblank hst
          have H1 := Lib.hid (show Aside (ByteArray.empty = wdAt s (i + 1) ∧ ∀ j, j < i + 1 → okN (bt s j) = true) from ⟨(wd_blank hblank).symm, hok1⟩)
          have HR := Lib.hid (show wr.ownsRow w.heap.size 9 1 v4 (stP s (i + 1)).1.length ((stP s (i + 1)).1.map fun x => Value.string (s.extract x.1 x.2)) by rw [h1]; exact hown)
          clear hl hX hXw N NN hok1 h1 hst hblank hown hlen
          rcases hbl with rfl | rfl
          all_goals
            go_wp2
            go_roundw
            case rel => exact ⟨i + 1, ByteArray.empty, v4, by omega, by go_num, rfl, rfl, HR.out, hbr, H1.out⟩
            case measure => simp [intOf]; omega
        | some a =>
          have hX : X = s.extract a i := hXw.trans (wd_some hst)
          have hai := (stP_lt s i).1 a hst
          have hl : ¬ X.toList = [] := fun h => by
            have h2 : X.toList.length = i - a := by rw [toList_len, hX, ByteArray.size_extract]; omega
            rw [h] at h2; simp at h2; omega
          have hX1 : X.toList.isEmpty = false := by simpa using hl
          have hX2 : (X.toList != []) = true := by simp [hl]
          have hX3 : (!X.toList.isEmpty) = true := by simp [hl]
          have h1 := stP_blank_some hblank hst
          have H1 := Lib.hid (show Aside (ByteArray.empty = wdAt s (i + 1) ∧ ∀ j, j < i + 1 → okN (bt s j) = true) from ⟨(wd_blank hblank).symm, hok1⟩)
          have HL2 : Hid ((stP s (i + 1)).1.length = (stP s i).1.length + 1 ∧ ((stP s (i + 1)).1.map fun x => Value.string (s.extract x.1 x.2)) = ((stP s i).1.map fun x => Value.string (s.extract x.1 x.2)) ++ [Value.string X]) := Lib.hid (by rw [h1, hX]; simp)
          have hml : (stP s i).1.length + 1 ≤ maxLen := by unfold maxLen; omega
          have hby : ((stP s i).1.length + 1) * 16 ≤ 140737488355328 := by omega
          clear hl hX hXw N NN hok1 h1 hst hblank hlen hai
          rcases hbl with rfl | rfl
          all_goals
            go_wp2_with (at_builtin; refine wpList_append_own _ rfl _ _ 22 rfl w.heap.size 9 i0 (.string ByteArray.empty) 1 16 Try.underlying22 hi hz0 hz1 hz2 rfl (by decide) _ _ _ rfl (hown.alloc _) ⟨wr.heap.size, 0, none⟩ 1 1 [Value.string X] rfl rfl (by intro j u' hj; match j, hj with | 0, hj => simp at hj; subst hj; simp [Addr.add]) (by intro u' hu'; simp at hu'; subst hu'; rfl) hml hby (by simp; omega) ?_)
            intro v3 w3 hown3 hgrow _
            have hb3 : Below w.heap.size w w3 := (Below.al hbr _).grown hgrow (by simp; omega) (fun k hk => (hown.lt k hk).1)
            clear hown hgrow hml hby
            go_wp2
            go_roundw
            case rel => exact ⟨i + 1, ByteArray.empty, v3, by omega, by go_num, rfl, rfl, by rw [HL2.out.1, HL2.out.2]; exact hown3, hb3, H1.out⟩
            case measure => simp [intOf]; omega
      · have hblank : blankN (bt s i) = false := by
          cases h : blankN (bt s i) with
          | true => rw [HBN.out] at h; exact absurd (HB.out.1 h) hbl
          | false => rfl
        have t1 : ((b : Int) == 32) = false := by simp; omega
        have t2 : ((b : Int) == 9) = false := by simp; omega
        have hXw : X = wdAt s i := N.out.1
        have NN := N.out.2
        by_cases hg : 33 ≤ b ∧ b ≤ 126
        · obtain ⟨g1, g2⟩ := hg
          have t3 : decide ((b : Int) < 33) = false := by simp; omega
          have t4 : decide ((126 : Int) < (b : Int)) = false := by simp; omega
          have hok1 : ∀ j, j < i + 1 → okN (bt s j) = true := fun j hj => by
            by_cases e : j = i
            · subst e; rw [HBN.out]; exact HO.out.2 (by omega)
            · exact NN j (by omega)
          have h1 := stP_word hblank
          have hwn := wd_next hls hblank
          have H1 := Lib.hid (show Aside (X ++ s.extract i (i + 1) = wdAt s (i + 1) ∧ ∀ j, j < i + 1 → okN (bt s j) = true) from ⟨by rw [hwn, hXw], hok1⟩)
          have HR := Lib.hid (show wr.ownsRow w.heap.size 9 1 v4 (stP s (i + 1)).1.length ((stP s (i + 1)).1.map fun x => Value.string (s.extract x.1 x.2)) by rw [h1]; exact hown)
          have hXs := wd_size s i
          rw [← hXw] at hXs
          have hov : ¬ 9223372036854775807 < X.size + (min (i + 1) s.size - i) := by omega
          clear hXw N NN hok1 h1 hwn hblank hown hlen hbl
          go_wp2
          exact ⟨⟨i + 1, X ++ s.extract i (i + 1), v4, by omega, by go_num, rfl, rfl, HR.out, hbr, H1.out⟩, by simp [intOf]; omega⟩
        · have hbad : okN (bt s i) = false := by
            cases h : okN (bt s i) with
            | true => rw [HBN.out] at h; have := HO.out.1 h; omega
            | false => rfl
          have HBad := Lib.hid (show Bad s n from ⟨i, hlt, hbad⟩)
          clear hXw N NN hbad hblank hown hlen hbl
          by_cases g1 : b < 33
          · have t3 : decide ((b : Int) < 33) = true := by simp; omega
            go_wp2
            go_ret2
            exact .inl ⟨HBad.out, rfl, hbr⟩
          · have t3 : decide ((b : Int) < 33) = false := by simp; omega
            have t4 : decide ((126 : Int) < (b : Int)) = true := by simp; omega
            go_wp2
            go_ret2
            exact .inl ⟨HBad.out, rfl, hbr⟩
    · obtain rfl : i = n := by omega
      clear hlt
      have hXw : X = wdAt s i := N.out.1
      have NN := N.out.2
      have hnb : Hid (¬ Bad s i) := Lib.hid (fun ⟨j, h1, h2⟩ => by rw [NN j h1] at h2; cases h2)
      have hend : i < s.size → bt s i = 35 := HN3.out
      have hlen := stP_len s i
      clear N NN
      cases hst : (stP s i).2 with
      | none =>
        have hX : X = ByteArray.empty := hXw.trans (wd_none hst)
        have hl : X.toList = [] := by rw [hX, Lib.toList_data]; rfl
        have hX1 : X.toList.isEmpty = true := by simp [hl]
        have hX2 : (X.toList != []) = false := by simp [hl]
        have HT := Lib.hid (show Texts wr w.heap.size v4 (wordsAt s i) by unfold Texts wordsAt closeAt; rw [hst]; simpa [List.map_map, Function.comp_def] using hown)
        clear hl hX hXw hst hown hlen
        by_cases hls : i < s.size
        · have hlsi : (i : Int) < (s.size : Int) := by omega
          have hbi := bt_get s i hls
          rw [hend hls] at hbi
          clear hend
          go_wp2
          go_ret2
          exact .inr ⟨hnb.out, v4, rfl, HT.out, hbr⟩
        · have hlsi : decide (i < s.size) = false := by simp; omega
          have hlsj : ¬ (i : Int) < (s.size : Int) := by omega
          clear hend
          go_wp2
          go_ret2
          exact .inr ⟨hnb.out, v4, rfl, HT.out, hbr⟩
      | some a =>
        have hX : X = s.extract a i := hXw.trans (wd_some hst)
        have hai := (stP_lt s i).1 a hst
        have hl : ¬ X.toList = [] := fun h => by
          have h2 : X.toList.length = i - a := by rw [toList_len, hX, ByteArray.size_extract]; omega
          rw [h] at h2; simp at h2; omega
        have hX1 : X.toList.isEmpty = false := by simpa using hl
        have hX2 : (X.toList != []) = true := by simp [hl]
        have hX3 : (!X.toList.isEmpty) = true := by simp [hl]
        have HT : Hid ((wordsAt s i).length = (stP s i).1.length + 1 ∧ (wordsAt s i).map Value.string = ((stP s i).1.map fun x => Value.string (s.extract x.1 x.2)) ++ [Value.string X]) := Lib.hid (by unfold wordsAt closeAt; rw [hst, hX]; simp [List.map_map, Function.comp_def])
        have hml : (stP s i).1.length + 1 ≤ maxLen := by unfold maxLen; omega
        have hby : ((stP s i).1.length + 1) * 16 ≤ 140737488355328 := by omega
        clear hl hX hXw hst hlen hai
        have hgo : ∀ P : Prop, P → P := fun _ h => h
        by_cases hls : i < s.size
        · have hlsi : (i : Int) < (s.size : Int) := by omega
          have hbi := bt_get s i hls
          rw [hend hls] at hbi
          clear hend hgo
          go_wp2_with (at_builtin; refine wpList_append_own _ rfl _ _ 22 rfl w.heap.size 9 i0 (.string ByteArray.empty) 1 16 Try.underlying22 hi hz0 hz1 hz2 rfl (by decide) _ _ _ rfl (hown.alloc _) ⟨wr.heap.size, 0, none⟩ 1 1 [Value.string X] rfl rfl (by intro j u' hj; match j, hj with | 0, hj => simp at hj; subst hj; simp [Addr.add]) (by intro u' hu'; simp at hu'; subst hu'; rfl) hml hby (by simp; omega) ?_)
          intro v3 w3 hown3 hgrow _
          have hb3 : Below w.heap.size w w3 := (Below.al hbr _).grown hgrow (by simp; omega) (fun k hk => (hown.lt k hk).1)
          clear hown hgrow hml hby
          go_wp2
          go_ret2
          exact .inr ⟨hnb.out, v3, rfl, by unfold Texts; rw [HT.out.1, HT.out.2]; exact hown3, hb3⟩
        · have hlsi : decide (i < s.size) = false := by simp; omega
          have hlsj : ¬ (i : Int) < (s.size : Int) := by omega
          clear hend hgo
          go_wp2_with (at_builtin; refine wpList_append_own _ rfl _ _ 22 rfl w.heap.size 9 i0 (.string ByteArray.empty) 1 16 Try.underlying22 hi hz0 hz1 hz2 rfl (by decide) _ _ _ rfl (hown.alloc _) ⟨wr.heap.size, 0, none⟩ 1 1 [Value.string X] rfl rfl (by intro j u' hj; match j, hj with | 0, hj => simp at hj; subst hj; simp [Addr.add]) (by intro u' hu'; simp at hu'; subst hu'; rfl) hml hby (by simp; omega) ?_)
          intro v3 w3 hown3 hgrow _
          have hb3 : Below w.heap.size w w3 := (Below.al hbr _).grown hgrow (by simp; omega) (fun k hk => (hown.lt k hk).1)
          clear hown hgrow hml hby
          go_wp2
          go_ret2
          exact .inr ⟨hnb.out, v3, rfl, by unfold Texts; rw [HT.out.1, HT.out.2]; exact hown3, hb3⟩
end Go.Proofs.Ytboflapaalabpaa
