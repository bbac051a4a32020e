/- What the document's Check asks of names and interfaces; by-name template (gen_lrl.py). -/
import Derived.Test.YtmnnjkdmnfadhaaGreatDoorLNat
namespace Go.Proofs.YtmnnjkdmnfadhaaGreatDoor
open Go.Shelf Go.RowKit Go.Lib Go.Sort
set_option linter.unusedVariables false
set_option linter.unusedSimpArgs false

theorem rwi_any (n a b : Int) (w : World) : Calls Tryz.prog 80 #[.int .i64 n, .int .i64 a, .int .i64 b] w fun e w' => e = .returned (.bool (wiB n a b)) ∧ w = w' := by
  unfold wiB
  by_cases h1 : a ≤ n
  · by_cases h2 : n ≤ b
    · have e1 : decide (a ≤ n) = true := by simp [h1]
      have e2 : decide (n ≤ b) = true := by simp [h2]
      rw [e1, e2]
      go_enter Tryz.func80, Tryz.ntmps80
      go_wp2
      go_ret
      exact ⟨rfl, rfl⟩
    · have e1 : decide (a ≤ n) = true := by simp [h1]
      have e2 : decide (n ≤ b) = false := by simp [h2]
      rw [e1, e2]
      go_enter Tryz.func80, Tryz.ntmps80
      go_wp2
      go_ret
      exact ⟨rfl, rfl⟩
  · have e1 : decide (a ≤ n) = false := by simp [h1]
    rw [e1]
    go_enter Tryz.func80, Tryz.ntmps80
    go_wp2
    go_ret
    exact ⟨rfl, rfl⟩
theorem rpo_any (p : Int) (w : World) : Calls Tryz.prog 85 #[.int .i64 p] w fun e w' => e = .returned (.bool (portedP p)) ∧ w = w' := by
  unfold portedP
  cases h1 : (p == 6) with
  | true =>
    go_enter Tryz.func85, Tryz.ntmps85
    go_wp2
    go_ret
    exact ⟨rfl, rfl⟩
  | false =>
    go_enter Tryz.func85, Tryz.ntmps85
    go_wp2
    go_ret
    exact ⟨rfl, rfl⟩
set_option maxHeartbeats 4000000 in
theorem rq_zon (c : CF) (key : ByteArray) {w : World} (hS : Sl w 4 zrc c.zA c.zn c.zs) :
    Calls Tryz.prog 79 #[.agg (cfc c), .string key] w fun e w' => e = .returned (.bool ((c.zs.any fun x => eqs x.nm key) || false)) ∧ Below w.heap.size w w' := by
  obtain ⟨w0, hw0⟩ : ∃ w0, w0 = w.alloc (.cells (cfc c) 30) := ⟨_, rfl⟩
  have b0 : Below w.heap.size w w0 := by rw [hw0]; exact Below.al (Below.refl _ _) _
  have hC : CfB w0 w.heap.size c := by rw [hw0]; exact CfB.made w c
  have hS0 := hS.keep b0
  have hbig := hS.big
  have HL := Lib.hid hS.len
  obtain ⟨Q, hQ⟩ : ∃ Q, Q = ((c.zs.any fun x => eqs x.nm key) || false) := ⟨_, rfl⟩
  rw [← hQ]
  have HQ := Lib.hid hQ
  clear hQ hS
  simp only [cfc] at *
  generalize c.zs = l at *
  obtain ⟨c0, c1, c2, c3, c4, c5, c6, c7⟩ := hC
  generalize hA : c.zA = A at *
  generalize hn : c.zn = n at *
  clear hA hn
  go_enter Tryz.func79, Tryz.ntmps79
  go_upto_region 1 with fail
  rw [← hw0]
  clear hw0
  go_wp2_with fail
  go_loopw [5] (fun v5 wr => ∃ i : Nat, v5 = .int .i64 i ∧ i ≤ n ∧ Aside (∀ (j : Nat) (x : ZR), j < i → l[j]? = some x → eqs x.nm key = false) ∧ Below w0.heap.size w0 wr) (fun v5 _ => n - (intOf v5).toNat)
  case atStart => exact ⟨0, rfl, by omega, fun j x hj => absurd hj (Nat.not_lt_zero _), Below.refl _ _⟩
  case round =>
    obtain ⟨i, rfl, hi, N, bw⟩ := hrel
    have k0 := keepc bw c0
    by_cases hlt : i < n
    · have hml : i < l.length := by rw [HL.out]; exact hlt
      obtain ⟨x, hx⟩ : ∃ x, l[i]? = some x := ⟨_, List.getElem?_eq_getElem hml⟩
      obtain ⟨b, off, hA, _, hrow⟩ := hS0.row (by omega)
      have r0 : wr.cell? ⟨b, off + i * 4, none⟩ = some (.string x.nm) := keepc bw (hrow i x hx 0 _ rfl)
      subst hA
      have HX := Lib.hid hx
      clear hrow hx
      have hlti : (i : Int) < (n : Int) := by omega
      have hdn : decide (i < n) = true := by simp [hlt]
      cases hE : (x.nm.toList == key.toList) with
      | true =>
        have ha : Q = true := by
          rw [HQ.out]
          have : (l.any fun x => eqs x.nm key) = true := by rw [List.any_eq_true]; exact ⟨x, List.mem_of_getElem? HX.out, hE⟩
          rw [this]; rfl
        subst ha
        go_wp2
        go_ret
        exact ⟨rfl, bel_via b0 bw⟩
      | false =>
        go_wp2
        refine ⟨?_, by simp [intOf]; omega⟩
        have hn1 : Aside (∀ (j : Nat) (x : ZR), j < i + 1 → l[j]? = some x → eqs x.nm key = false) := fun j y hj hy => by
          by_cases e : j = i
          · subst e; rw [HX.out] at hy; cases hy; exact hE
          · exact N.out j y (by omega) hy
        first | exact ⟨i + 1, by simp, by omega, hn1, bw⟩ | ((repeat apply Exists.intro); exact ⟨⟨i + 1, by simp, by omega, hn1, bw⟩, rfl⟩)
    · obtain rfl : i = n := by omega
      have hd0 : decide (i < i) = false := by simp
      have hdi : decide ((i : Int) < (i : Int)) = false := by simp
      have ha : Q = (false) := by
        rw [HQ.out]
        have : (l.any fun x => eqs x.nm key) = false := any_none (find_miss fun j x hj => N.out j x (by have := getE hj; rw [HL.out] at this; exact this) hj)
        rw [this]; rfl
      have HA := Lib.hid ha
      go_wp2
      go_ret
      exact ⟨by rw [HA.out]; rfl, bel_via b0 bw⟩
set_option maxHeartbeats 4000000 in
theorem rq_obj (c : CF) (key : ByteArray) {w : World} (hS : Sl w 2 orc c.oA c.on c.os) :
    Calls Tryz.prog 82 #[.agg (cfc c), .string key] w fun e w' => e = .returned (.bool ((c.os.any fun x => eqs x.nm key) || isAny key)) ∧ Below w.heap.size w w' := by
  obtain ⟨w0, hw0⟩ : ∃ w0, w0 = w.alloc (.cells (cfc c) 30) := ⟨_, rfl⟩
  have b0 : Below w.heap.size w w0 := by rw [hw0]; exact Below.al (Below.refl _ _) _
  have hC : CfB w0 w.heap.size c := by rw [hw0]; exact CfB.made w c
  have hS0 := hS.keep b0
  have hbig := hS.big
  have HL := Lib.hid hS.len
  obtain ⟨Q, hQ⟩ : ∃ Q, Q = ((c.os.any fun x => eqs x.nm key) || isAny key) := ⟨_, rfl⟩
  rw [← hQ]
  have HQ := Lib.hid hQ
  clear hQ hS
  simp only [cfc] at *
  generalize c.os = l at *
  obtain ⟨c0, c1, c2, c3, c4, c5, c6, c7⟩ := hC
  generalize hA : c.oA = A at *
  generalize hn : c.on = n at *
  clear hA hn
  go_enter Tryz.func82, Tryz.ntmps82
  go_upto_region 1 with fail
  rw [← hw0]
  clear hw0
  go_wp2_with fail
  go_loopw [5] (fun v5 wr => ∃ i : Nat, v5 = .int .i64 i ∧ i ≤ n ∧ Aside (∀ (j : Nat) (x : OR), j < i → l[j]? = some x → eqs x.nm key = false) ∧ Below w0.heap.size w0 wr) (fun v5 _ => n - (intOf v5).toNat)
  case atStart => exact ⟨0, rfl, by omega, fun j x hj => absurd hj (Nat.not_lt_zero _), Below.refl _ _⟩
  case round =>
    obtain ⟨i, rfl, hi, N, bw⟩ := hrel
    have k0 := keepc bw c1
    by_cases hlt : i < n
    · have hml : i < l.length := by rw [HL.out]; exact hlt
      obtain ⟨x, hx⟩ : ∃ x, l[i]? = some x := ⟨_, List.getElem?_eq_getElem hml⟩
      obtain ⟨b, off, hA, _, hrow⟩ := hS0.row (by omega)
      have r0 : wr.cell? ⟨b, off + i * 2, none⟩ = some (.string x.nm) := keepc bw (hrow i x hx 0 _ rfl)
      subst hA
      have HX := Lib.hid hx
      clear hrow hx
      have hlti : (i : Int) < (n : Int) := by omega
      have hdn : decide (i < n) = true := by simp [hlt]
      cases hE : (x.nm.toList == key.toList) with
      | true =>
        have ha : Q = true := by
          rw [HQ.out]
          have : (l.any fun x => eqs x.nm key) = true := by rw [List.any_eq_true]; exact ⟨x, List.mem_of_getElem? HX.out, hE⟩
          rw [this]; rfl
        subst ha
        go_wp2
        go_ret
        exact ⟨rfl, bel_via b0 bw⟩
      | false =>
        go_wp2
        refine ⟨?_, by simp [intOf]; omega⟩
        have hn1 : Aside (∀ (j : Nat) (x : OR), j < i + 1 → l[j]? = some x → eqs x.nm key = false) := fun j y hj hy => by
          by_cases e : j = i
          · subst e; rw [HX.out] at hy; cases hy; exact hE
          · exact N.out j y (by omega) hy
        first | exact ⟨i + 1, by simp, by omega, hn1, bw⟩ | ((repeat apply Exists.intro); exact ⟨⟨i + 1, by simp, by omega, hn1, bw⟩, rfl⟩)
    · obtain rfl : i = n := by omega
      have hd0 : decide (i < i) = false := by simp
      have hdi : decide ((i : Int) < (i : Int)) = false := by simp
      have ha : Q = (isAny key) := by
        rw [HQ.out]
        have : (l.any fun x => eqs x.nm key) = false := any_none (find_miss fun j x hj => N.out j x (by have := getE hj; rw [HL.out] at this; exact this) hj)
        rw [this]; rfl
      have HA := Lib.hid ha
      go_wp2
      go_ret
      exact ⟨by rw [HA.out]; rfl, bel_via b0 bw⟩
set_option maxHeartbeats 4000000 in
theorem rq_srv (c : CF) (key : ByteArray) {w : World} (hS : Sl w 4 src c.sA c.sn c.ss) :
    Calls Tryz.prog 84 #[.agg (cfc c), .string key] w fun e w' => e = .returned (.bool ((c.ss.any fun x => eqs x.nm key) || isAny key)) ∧ Below w.heap.size w w' := by
  obtain ⟨w0, hw0⟩ : ∃ w0, w0 = w.alloc (.cells (cfc c) 30) := ⟨_, rfl⟩
  have b0 : Below w.heap.size w w0 := by rw [hw0]; exact Below.al (Below.refl _ _) _
  have hC : CfB w0 w.heap.size c := by rw [hw0]; exact CfB.made w c
  have hS0 := hS.keep b0
  have hbig := hS.big
  have HL := Lib.hid hS.len
  obtain ⟨Q, hQ⟩ : ∃ Q, Q = ((c.ss.any fun x => eqs x.nm key) || isAny key) := ⟨_, rfl⟩
  rw [← hQ]
  have HQ := Lib.hid hQ
  clear hQ hS
  simp only [cfc] at *
  generalize c.ss = l at *
  obtain ⟨c0, c1, c2, c3, c4, c5, c6, c7⟩ := hC
  generalize hA : c.sA = A at *
  generalize hn : c.sn = n at *
  clear hA hn
  go_enter Tryz.func84, Tryz.ntmps84
  go_upto_region 1 with fail
  rw [← hw0]
  clear hw0
  go_wp2_with fail
  go_loopw [5] (fun v5 wr => ∃ i : Nat, v5 = .int .i64 i ∧ i ≤ n ∧ Aside (∀ (j : Nat) (x : SR), j < i → l[j]? = some x → eqs x.nm key = false) ∧ Below w0.heap.size w0 wr) (fun v5 _ => n - (intOf v5).toNat)
  case atStart => exact ⟨0, rfl, by omega, fun j x hj => absurd hj (Nat.not_lt_zero _), Below.refl _ _⟩
  case round =>
    obtain ⟨i, rfl, hi, N, bw⟩ := hrel
    have k0 := keepc bw c2
    by_cases hlt : i < n
    · have hml : i < l.length := by rw [HL.out]; exact hlt
      obtain ⟨x, hx⟩ : ∃ x, l[i]? = some x := ⟨_, List.getElem?_eq_getElem hml⟩
      obtain ⟨b, off, hA, _, hrow⟩ := hS0.row (by omega)
      have r0 : wr.cell? ⟨b, off + i * 4, none⟩ = some (.string x.nm) := keepc bw (hrow i x hx 0 _ rfl)
      subst hA
      have HX := Lib.hid hx
      clear hrow hx
      have hlti : (i : Int) < (n : Int) := by omega
      have hdn : decide (i < n) = true := by simp [hlt]
      cases hE : (x.nm.toList == key.toList) with
      | true =>
        have ha : Q = true := by
          rw [HQ.out]
          have : (l.any fun x => eqs x.nm key) = true := by rw [List.any_eq_true]; exact ⟨x, List.mem_of_getElem? HX.out, hE⟩
          rw [this]; rfl
        subst ha
        go_wp2
        go_ret
        exact ⟨rfl, bel_via b0 bw⟩
      | false =>
        go_wp2
        refine ⟨?_, by simp [intOf]; omega⟩
        have hn1 : Aside (∀ (j : Nat) (x : SR), j < i + 1 → l[j]? = some x → eqs x.nm key = false) := fun j y hj hy => by
          by_cases e : j = i
          · subst e; rw [HX.out] at hy; cases hy; exact hE
          · exact N.out j y (by omega) hy
        first | exact ⟨i + 1, by simp, by omega, hn1, bw⟩ | ((repeat apply Exists.intro); exact ⟨⟨i + 1, by simp, by omega, hn1, bw⟩, rfl⟩)
    · obtain rfl : i = n := by omega
      have hd0 : decide (i < i) = false := by simp
      have hdi : decide ((i : Int) < (i : Int)) = false := by simp
      have ha : Q = (isAny key) := by
        rw [HQ.out]
        have : (l.any fun x => eqs x.nm key) = false := any_none (find_miss fun j x hj => N.out j x (by have := getE hj; rw [HL.out] at this; exact this) hj)
        rw [this]; rfl
      have HA := Lib.hid ha
      go_wp2
      go_ret
      exact ⟨by rw [HA.out]; rfl, bel_via b0 bw⟩
set_option maxHeartbeats 4000000 in
theorem rq_lim (c : CF) (key : ByteArray) {w : World} (hS : Sl w 4 lrc c.lA c.ln c.ls) :
    Calls Tryz.prog 86 #[.agg (cfc c), .string key] w fun e w' => e = .returned (.bool ((c.ls.any fun x => eqs x.nm key) || key.toList.isEmpty)) ∧ Below w.heap.size w w' := by
  obtain ⟨w0, hw0⟩ : ∃ w0, w0 = w.alloc (.cells (cfc c) 30) := ⟨_, rfl⟩
  have b0 : Below w.heap.size w w0 := by rw [hw0]; exact Below.al (Below.refl _ _) _
  have hC : CfB w0 w.heap.size c := by rw [hw0]; exact CfB.made w c
  have hS0 := hS.keep b0
  have hbig := hS.big
  have HL := Lib.hid hS.len
  obtain ⟨Q, hQ⟩ : ∃ Q, Q = ((c.ls.any fun x => eqs x.nm key) || key.toList.isEmpty) := ⟨_, rfl⟩
  rw [← hQ]
  have HQ := Lib.hid hQ
  clear hQ hS
  simp only [cfc] at *
  generalize c.ls = l at *
  obtain ⟨c0, c1, c2, c3, c4, c5, c6, c7⟩ := hC
  generalize hA : c.lA = A at *
  generalize hn : c.ln = n at *
  clear hA hn
  go_enter Tryz.func86, Tryz.ntmps86
  go_upto_region 1 with fail
  rw [← hw0]
  clear hw0
  go_wp2_with fail
  go_loopw [5] (fun v5 wr => ∃ i : Nat, v5 = .int .i64 i ∧ i ≤ n ∧ Aside (∀ (j : Nat) (x : LR), j < i → l[j]? = some x → eqs x.nm key = false) ∧ Below w0.heap.size w0 wr) (fun v5 _ => n - (intOf v5).toNat)
  case atStart => exact ⟨0, rfl, by omega, fun j x hj => absurd hj (Nat.not_lt_zero _), Below.refl _ _⟩
  case round =>
    obtain ⟨i, rfl, hi, N, bw⟩ := hrel
    have k0 := keepc bw c3
    by_cases hlt : i < n
    · have hml : i < l.length := by rw [HL.out]; exact hlt
      obtain ⟨x, hx⟩ : ∃ x, l[i]? = some x := ⟨_, List.getElem?_eq_getElem hml⟩
      obtain ⟨b, off, hA, _, hrow⟩ := hS0.row (by omega)
      have r0 : wr.cell? ⟨b, off + i * 4, none⟩ = some (.string x.nm) := keepc bw (hrow i x hx 0 _ rfl)
      subst hA
      have HX := Lib.hid hx
      clear hrow hx
      have hlti : (i : Int) < (n : Int) := by omega
      have hdn : decide (i < n) = true := by simp [hlt]
      cases hE : (x.nm.toList == key.toList) with
      | true =>
        have ha : Q = true := by
          rw [HQ.out]
          have : (l.any fun x => eqs x.nm key) = true := by rw [List.any_eq_true]; exact ⟨x, List.mem_of_getElem? HX.out, hE⟩
          rw [this]; rfl
        subst ha
        go_wp2
        go_ret
        exact ⟨rfl, bel_via b0 bw⟩
      | false =>
        go_wp2
        refine ⟨?_, by simp [intOf]; omega⟩
        have hn1 : Aside (∀ (j : Nat) (x : LR), j < i + 1 → l[j]? = some x → eqs x.nm key = false) := fun j y hj hy => by
          by_cases e : j = i
          · subst e; rw [HX.out] at hy; cases hy; exact hE
          · exact N.out j y (by omega) hy
        first | exact ⟨i + 1, by simp, by omega, hn1, bw⟩ | ((repeat apply Exists.intro); exact ⟨⟨i + 1, by simp, by omega, hn1, bw⟩, rfl⟩)
    · obtain rfl : i = n := by omega
      have hd0 : decide (i < i) = false := by simp
      have hdi : decide ((i : Int) < (i : Int)) = false := by simp
      have ha : Q = (key.toList.isEmpty) := by
        rw [HQ.out]
        have : (l.any fun x => eqs x.nm key) = false := any_none (find_miss fun j x hj => N.out j x (by have := getE hj; rw [HL.out] at this; exact this) hj)
        rw [this]; rfl
      have HA := Lib.hid ha
      go_wp2
      go_ret
      exact ⟨by rw [HA.out]; rfl, bel_via b0 bw⟩
set_option maxHeartbeats 4000000 in
theorem rif_any (A : Option Addr) (n c : Nat) (l : List ZR) (x : Int) {w : World} (hS : Sl w 4 zrc A n l) (hzi : ∀ z ∈ l, Sl w 1 (fun x : Int => [Value.int .i64 x]) z.ia z.il z.ifs) :
    Calls Tryz.prog 81 #[.slice A n c, .int .i64 x] w fun e w' => e = .returned (.bool (hasIf l x)) ∧ Below w.heap.size w w' := by
  have hbig := hS.big
  have HL := Lib.hid hS.len
  have HZ := Lib.hid hzi
  obtain ⟨Q, hQ⟩ : ∃ Q, Q = hasIf l x := ⟨_, rfl⟩
  rw [← hQ]
  have HQ := Lib.hid hQ
  clear hQ hzi
  go_enter Tryz.func81, Tryz.ntmps81
  go_wp2_with fail
  go_loopw [5] (fun v5 wr => ∃ i : Nat, v5 = .int .i64 i ∧ i ≤ n ∧ Aside (∀ (j : Nat) (z : ZR), j < i → l[j]? = some z → inZ x z = false) ∧ Below w.heap.size w wr) (fun v5 _ => n - (intOf v5).toNat)
  case atStart => exact ⟨0, rfl, by omega, fun j x hj => absurd hj (Nat.not_lt_zero _), Below.refl _ _⟩
  case round =>
    obtain ⟨i, rfl, hi, N, bw⟩ := hrel
    by_cases hlt : i < n
    · have hml : i < l.length := by rw [HL.out]; exact hlt
      obtain ⟨z, hx⟩ : ∃ x, l[i]? = some x := ⟨_, List.getElem?_eq_getElem hml⟩
      obtain ⟨b, off, hA, hlb, hrow⟩ := hS.row (by omega)
      have r3 : wr.cell? ⟨b, off + i * 4 + 3, none⟩ = some (.slice z.ia z.il z.ic) := keepc bw (hrow i z hx 3 _ rfl)
      have hzs := (HZ.out z (List.mem_of_getElem? hx)).keep bw
      subst hA
      have HX := Lib.hid hx
      clear hrow hx
      have hlti : (i : Int) < (n : Int) := by omega
      have hdn : decide (i < n) = true := by simp [hlt]
      obtain ⟨nm, ah, al, ia, il, ic, ifs⟩ := z
      simp only at r3 hzs
      have hbg := hzs.big
      have HF := Lib.hid hzs.len
      go_wp2_with fail
      obtain ⟨w1, hw1⟩ : ∃ x, x = wr := ⟨_, rfl⟩
      subst hw1
      go_loopw [6] (fun v6 wr => ∃ k : Nat, v6 = .int .i64 k ∧ k ≤ il ∧ Aside (∀ (j : Nat) (y : Int), j < k → ifs[j]? = some y → (x == y) = false) ∧ Below w1.heap.size w1 wr) (fun v6 _ => il - (intOf v6).toNat)
      case atStart => exact ⟨0, rfl, by omega, fun j x hj => absurd hj (Nat.not_lt_zero _), Below.refl _ _⟩
      case round =>
        obtain ⟨k, rfl, hk, N2, bw2⟩ := hrel
        have s3 := keepc bw2 r3
        by_cases hlk : k < il
        · have hmk : k < ifs.length := by rw [HF.out]; exact hlk
          obtain ⟨y, hy⟩ : ∃ y, ifs[k]? = some y := ⟨_, List.getElem?_eq_getElem hmk⟩
          obtain ⟨b2, off2, hA2, _, hrow2⟩ := hzs.row (by omega)
          have t0 : wr.cell? ⟨b2, off2 + k, none⟩ = some (.int .i64 y) := by have := keepc bw2 (hrow2 k y hy 0 _ rfl); simpa using this
          have t1 : wr.cell? ⟨b2, off2 + k * 1, none⟩ = some (.int .i64 y) := by simpa using t0
          subst hA2
          have HY := Lib.hid hy
          clear hrow2 hy
          have hlki : (k : Int) < (il : Int) := by omega
          have hdk : decide (k < il) = true := by simp [hlk]
          by_cases hE : y = x
          · subst hE
            have ha : Q = true := by
              rw [HQ.out]; unfold hasIf
              rw [List.any_eq_true]
              refine ⟨_, List.mem_of_getElem? HX.out, ?_⟩
              unfold inZ; rw [List.any_eq_true]
              exact ⟨y, List.mem_of_getElem? HY.out, by simp⟩
            subst ha
            go_wp2
            go_ret
            exact ⟨rfl, bel_via bw bw2⟩
          · have hEb : (y == x) = false := by simp [hE]
            go_wp2
            refine ⟨?_, by simp [intOf]; omega⟩
            have hn1 : Aside (∀ (j : Nat) (y : Int), j < k + 1 → ifs[j]? = some y → (x == y) = false) := fun j u hj hu => by
              by_cases e : j = k
              · subst e; rw [HY.out] at hu; cases hu; simp; exact fun h => hE h.symm
              · exact N2.out j u (by omega) hu
            first | exact ⟨k + 1, by simp, by omega, hn1, bw2⟩ | ((repeat apply Exists.intro); exact ⟨⟨k + 1, by simp, by omega, hn1, bw2⟩, rfl⟩)
        · obtain rfl : k = il := by omega
          have hd0 : decide (k < k) = false := by simp
          have hdi : decide ((k : Int) < (k : Int)) = false := by simp
          have hz : inZ x ⟨nm, ah, al, ia, k, ic, ifs⟩ = false := by
            unfold inZ
            exact any_none (find_miss fun j y hj => N2.out j y (by have := getE hj; rw [HF.out] at this; exact this) hj)
          have HZ1 := Lib.hid hz
          clear hz
          go_wp2
          refine ⟨?_, by simp [intOf]; omega⟩
          have hn1 : Aside (∀ (j : Nat) (z : ZR), j < i + 1 → l[j]? = some z → inZ x z = false) := fun j u hj hu => by
            by_cases e : j = i
            · subst e; rw [HX.out] at hu; cases hu; exact HZ1.out
            · exact N.out j u (by omega) hu
          first | exact ⟨i + 1, by simp, by omega, hn1, bel_via bw bw2⟩ | ((repeat apply Exists.intro); exact ⟨⟨i + 1, by simp, by omega, hn1, bel_via bw bw2⟩, rfl⟩)
    · obtain rfl : i = n := by omega
      have hd0 : decide (i < i) = false := by simp
      have hdi : decide ((i : Int) < (i : Int)) = false := by simp
      have ha : Q = false := by
        rw [HQ.out]
        unfold hasIf
        exact any_none (find_miss fun j x hj => N.out j x (by have := getE hj; rw [HL.out] at this; exact this) hj)
      subst ha
      go_wp2
      go_ret
      exact ⟨rfl, bw⟩
end Go.Proofs.YtmnnjkdmnfadhaaGreatDoor
