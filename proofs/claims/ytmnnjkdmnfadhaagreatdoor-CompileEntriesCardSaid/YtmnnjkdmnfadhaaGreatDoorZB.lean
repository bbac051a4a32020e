/- What the document's Check asks of names and interfaces; by-name template (gen_lrl.py). -/
import Derived.Test.YtmnnjkdmnfadhaaGreatDoorLNat
import Derived.Test.YtmnnjkdmnfadhaaGreatDoorZP
namespace Go.Proofs.YtmnnjkdmnfadhaaGreatDoor
open Go.Shelf Go.RowKit Go.Lib Go.Sort
set_option linter.unusedVariables false
set_option linter.unusedSimpArgs false

theorem rwi_any (n a b : Int) (w : World) : Calls Tryz.prog 80 #[.int .i64 n, .int .i64 a, .int .i64 b] w fun e w' => e = .returned (.bool (wiB n a b)) ∧ w = w' := by
  unfold wiB
  by_cases h1 : a ≤ n
  · by_cases h2 : n ≤ b
    · have e1 : decide (a ≤ n) = true := by simp [h1]
      have e2 : decide (n ≤ b) = true := by simp [h2]
      rw [e1, e2]
      go_enter Tryz.func80, Tryz.ntmps80
      go_wp2
      go_ret
      exact ⟨rfl, rfl⟩
    · have e1 : decide (a ≤ n) = true := by simp [h1]
      have e2 : decide (n ≤ b) = false := by simp [h2]
      rw [e1, e2]
      go_enter Tryz.func80, Tryz.ntmps80
      go_wp2
      go_ret
      exact ⟨rfl, rfl⟩
  · have e1 : decide (a ≤ n) = false := by simp [h1]
    rw [e1]
    go_enter Tryz.func80, Tryz.ntmps80
    go_wp2
    go_ret
    exact ⟨rfl, rfl⟩
theorem rpo_any (p : Int) (w : World) : Calls Tryz.prog 85 #[.int .i64 p] w fun e w' => e = .returned (.bool (portedP p)) ∧ w = w' := by
  unfold portedP
  cases h1 : (p == 6) with
  | true =>
    go_enter Tryz.func85, Tryz.ntmps85
    go_wp2
    go_ret
    exact ⟨rfl, rfl⟩
  | false =>
    go_enter Tryz.func85, Tryz.ntmps85
    go_wp2
    go_ret
    exact ⟨rfl, rfl⟩
set_option maxHeartbeats 4000000 in
theorem rq_zon (c : CF) (key : ByteArray) {w : World} (hS : Sl w 4 zrc c.zA c.zn c.zs) :
    Calls Tryz.prog 79 #[.agg (cfc c), .string key] w fun e w' => e = .returned (.bool ((c.zs.any fun x => eqs x.nm key) || false)) ∧ Below w.heap.size w w' := by
  obtain ⟨w0, hw0⟩ : ∃ w0, w0 = w.alloc (.cells (cfc c) 30) := ⟨_, rfl⟩
  have b0 : Below w.heap.size w w0 := by rw [hw0]; exact Below.al (Below.refl _ _) _
  have hC : CfB w0 w.heap.size c := by rw [hw0]; exact CfB.made w c
  have hS0 := hS.keep b0
  have hbig := hS.big
  have HL := Lib.hid hS.len
  obtain ⟨Q, hQ⟩ : ∃ Q, Q = ((c.zs.any fun x => eqs x.nm key) || false) := ⟨_, rfl⟩
  rw [← hQ]
  have HQ := Lib.hid hQ
  clear hQ hS
  simp only [cfc] at *
  generalize c.zs = l at *
  obtain ⟨c0, c1, c2, c3, c4, c5, c6, c7⟩ := hC
  generalize hA : c.zA = A at *
  generalize hn : c.zn = n at *
  clear hA hn
  go_enter Tryz.func79, Tryz.ntmps79
  go_upto_region 1 with fail
  rw [← hw0]
  clear hw0
  go_wp2_with fail
  go_loopw [5] (fun v5 wr => ∃ i : Nat, v5 = .int .i64 i ∧ i ≤ n ∧ Aside (∀ (j : Nat) (x : ZR), j < i → l[j]? = some x → eqs x.nm key = false) ∧ Below w0.heap.size w0 wr) (fun v5 _ => n - (intOf v5).toNat)
  case atStart => exact ⟨0, rfl, by omega, fun j x hj => absurd hj (Nat.not_lt_zero _), Below.refl _ _⟩
  case round =>
    obtain ⟨i, rfl, hi, N, bw⟩ := hrel
    have k0 := keepc bw c0
    by_cases hlt : i < n
    · have hml : i < l.length := by rw [HL.out]; exact hlt
      obtain ⟨x, hx⟩ : ∃ x, l[i]? = some x := ⟨_, List.getElem?_eq_getElem hml⟩
      obtain ⟨b, off, hA, _, hrow⟩ := hS0.row (by omega)
      have r0 : wr.cell? ⟨b, off + i * 4, none⟩ = some (.string x.nm) := keepc bw (hrow i x hx 0 _ rfl)
      subst hA
      have HX := Lib.hid hx
      clear hrow hx
      have hlti : (i : Int) < (n : Int) := by omega
      have hdn : decide (i < n) = true := by simp [hlt]
      cases hE : (x.nm.toList == key.toList) with
      | true =>
        have ha : Q = true := by
          rw [HQ.out]
          have : (l.any fun x => eqs x.nm key) = true := by rw [List.any_eq_true]; exact ⟨x, List.mem_of_getElem? HX.out, hE⟩
          rw [this]; rfl
        subst ha
        go_wp2
        go_ret
        exact ⟨rfl, bel_via b0 bw⟩
      | false =>
        go_wp2
        refine ⟨?_, by simp [intOf]; omega⟩
        have hn1 : Aside (∀ (j : Nat) (x : ZR), j < i + 1 → l[j]? = some x → eqs x.nm key = false) := fun j y hj hy => by
          by_cases e : j = i
          · subst e; rw [HX.out] at hy; cases hy; exact hE
          · exact N.out j y (by omega) hy
        first | exact ⟨i + 1, by simp, by omega, hn1, bw⟩ | ((repeat apply Exists.intro); exact ⟨⟨i + 1, by simp, by omega, hn1, bw⟩, rfl⟩)
    · obtain rfl : i = n := by omega
      have hd0 : decide (i < i) = false := by simp
      have hdi : decide ((i : Int) < (i : Int)) = false := by simp
      have ha : Q = (false) := by
        rw [HQ.out]
        have : (l.any fun x => eqs x.nm key) = false := any_none (find_miss fun j x hj => N.out j x (by have := getE hj; rw [HL.out] at this; exact this) hj)
        rw [this]; rfl
      have HA := Lib.hid ha
      go_wp2
      go_ret
      exact ⟨by rw [HA.out]; rfl, bel_via b0 bw⟩
set_option maxHeartbeats 4000000 in
theorem rq_obj (c : CF) (key : ByteArray) {w : World} (hS : Sl w 2 orc c.oA c.on c.os) :
    Calls Tryz.prog 82 #[.agg (cfc c), .string key] w fun e w' => e = .returned (.bool ((c.os.any fun x => eqs x.nm key) || isAny key)) ∧ Below w.heap.size w w' := by
  obtain ⟨w0, hw0⟩ : ∃ w0, w0 = w.alloc (.cells (cfc c) 30) := ⟨_, rfl⟩
  have b0 : Below w.heap.size w w0 := by rw [hw0]; exact Below.al (Below.refl _ _) _
  have hC : CfB w0 w.heap.size c := by rw [hw0]; exact CfB.made w c
  have hS0 := hS.keep b0
  have hbig := hS.big
  have HL := Lib.hid hS.len
  obtain ⟨Q, hQ⟩ : ∃ Q, Q = ((c.os.any fun x => eqs x.nm key) || isAny key) := ⟨_, rfl⟩
  rw [← hQ]
  have HQ := Lib.hid hQ
  clear hQ hS
  simp only [cfc] at *
  generalize c.os = l at *
  obtain ⟨c0, c1, c2, c3, c4, c5, c6, c7⟩ := hC
  generalize hA : c.oA = A at *
  generalize hn : c.on = n at *
  clear hA hn
  go_enter Tryz.func82, Tryz.ntmps82
  go_upto_region 1 with fail
  rw [← hw0]
  clear hw0
  go_wp2_with fail
  go_loopw [5] (fun v5 wr => ∃ i : Nat, v5 = .int .i64 i ∧ i ≤ n ∧ Aside (∀ (j : Nat) (x : OR), j < i → l[j]? = some x → eqs x.nm key = false) ∧ Below w0.heap.size w0 wr) (fun v5 _ => n - (intOf v5).toNat)
  case atStart => exact ⟨0, rfl, by omega, fun j x hj => absurd hj (Nat.not_lt_zero _), Below.refl _ _⟩
  case round =>
    obtain ⟨i, rfl, hi, N, bw⟩ := hrel
    have k0 := keepc bw c1
    by_cases hlt : i < n
    · have hml : i < l.length := by rw [HL.out]; exact hlt
      obtain ⟨x, hx⟩ : ∃ x, l[i]? = some x := ⟨_, List.getElem?_eq_getElem hml⟩
      obtain ⟨b, off, hA, _, hrow⟩ := hS0.row (by omega)
      have r0 : wr.cell? ⟨b, off + i * 2, none⟩ = some (.string x.nm) := keepc bw (hrow i x hx 0 _ rfl)
      subst hA
      have HX := Lib.hid hx
      clear hrow hx
      have hlti : (i : Int) < (n : Int) := by omega
      have hdn : decide (i < n) = true := by simp [hlt]
      cases hE : (x.nm.toList == key.toList) with
      | true =>
        have ha : Q = true := by
          rw [HQ.out]
          have : (l.any fun x => eqs x.nm key) = true := by rw [List.any_eq_true]; exact ⟨x, List.mem_of_getElem? HX.out, hE⟩
          rw [this]; rfl
        subst ha
        go_wp2
        go_ret
        exact ⟨rfl, bel_via b0 bw⟩
      | false =>
        go_wp2
        refine ⟨?_, by simp [intOf]; omega⟩
        have hn1 : Aside (∀ (j : Nat) (x : OR), j < i + 1 → l[j]? = some x → eqs x.nm key = false) := fun j y hj hy => by
          by_cases e : j = i
          · subst e; rw [HX.out] at hy; cases hy; exact hE
          · exact N.out j y (by omega) hy
        first | exact ⟨i + 1, by simp, by omega, hn1, bw⟩ | ((repeat apply Exists.intro); exact ⟨⟨i + 1, by simp, by omega, hn1, bw⟩, rfl⟩)
    · obtain rfl : i = n := by omega
      have hd0 : decide (i < i) = false := by simp
      have hdi : decide ((i : Int) < (i : Int)) = false := by simp
      have ha : Q = (isAny key) := by
        rw [HQ.out]
        have : (l.any fun x => eqs x.nm key) = false := any_none (find_miss fun j x hj => N.out j x (by have := getE hj; rw [HL.out] at this; exact this) hj)
        rw [this]; rfl
      have HA := Lib.hid ha
      go_wp2
      go_ret
      exact ⟨by rw [HA.out]; rfl, bel_via b0 bw⟩
set_option maxHeartbeats 4000000 in
theorem rq_srv (c : CF) (key : ByteArray) {w : World} (hS : Sl w 4 src c.sA c.sn c.ss) :
    Calls Tryz.prog 84 #[.agg (cfc c), .string key] w fun e w' => e = .returned (.bool ((c.ss.any fun x => eqs x.nm key) || isAny key)) ∧ Below w.heap.size w w' := by
  obtain ⟨w0, hw0⟩ : ∃ w0, w0 = w.alloc (.cells (cfc c) 30) := ⟨_, rfl⟩
  have b0 : Below w.heap.size w w0 := by rw [hw0]; exact Below.al (Below.refl _ _) _
  have hC : CfB w0 w.heap.size c := by rw [hw0]; exact CfB.made w c
  have hS0 := hS.keep b0
  have hbig := hS.big
  have HL := Lib.hid hS.len
  obtain ⟨Q, hQ⟩ : ∃ Q, Q = ((c.ss.any fun x => eqs x.nm key) || isAny key) := ⟨_, rfl⟩
  rw [← hQ]
  have HQ := Lib.hid hQ
  clear hQ hS
  simp only [cfc] at *
  generalize c.ss = l at *
  obtain ⟨c0, c1, c2, c3, c4, c5, c6, c7⟩ := hC
  generalize hA : c.sA = A at *
  generalize hn : c.sn = n at *
  clear hA hn
  go_enter Tryz.func84, Tryz.ntmps84
  go_upto_region 1 with fail
  rw [← hw0]
  clear hw0
  go_wp2_with fail
  go_loopw [5] (fun v5 wr => ∃ i : Nat, v5 = .int .i64 i ∧ i ≤ n ∧ Aside (∀ (j : Nat) (x : SR), j < i → l[j]? = some x → eqs x.nm key = false) ∧ Below w0.heap.size w0 wr) (fun v5 _ => n - (intOf v5).toNat)
  case atStart => exact ⟨0, rfl, by omega, fun j x hj => absurd hj (Nat.not_lt_zero _), Below.refl _ _⟩
  case round =>
    obtain ⟨i, rfl, hi, N, bw⟩ := hrel
    have k0 := keepc bw c2
    by_cases hlt : i < n
    · have hml : i < l.length := by rw [HL.out]; exact hlt
      obtain ⟨x, hx⟩ : ∃ x, l[i]? = some x := ⟨_, List.getElem?_eq_getElem hml⟩
      obtain ⟨b, off, hA, _, hrow⟩ := hS0.row (by omega)
      have r0 : wr.cell? ⟨b, off + i * 4, none⟩ = some (.string x.nm) := keepc bw (hrow i x hx 0 _ rfl)
      subst hA
      have HX := Lib.hid hx
      clear hrow hx
      have hlti : (i : Int) < (n : Int) := by omega
      have hdn : decide (i < n) = true := by simp [hlt]
      cases hE : (x.nm.toList == key.toList) with
      | true =>
        have ha : Q = true := by
          rw [HQ.out]
          have : (l.any fun x => eqs x.nm key) = true := by rw [List.any_eq_true]; exact ⟨x, List.mem_of_getElem? HX.out, hE⟩
          rw [this]; rfl
        subst ha
        go_wp2
        go_ret
        exact ⟨rfl, bel_via b0 bw⟩
      | false =>
        go_wp2
        refine ⟨?_, by simp [intOf]; omega⟩
        have hn1 : Aside (∀ (j : Nat) (x : SR), j < i + 1 → l[j]? = some x → eqs x.nm key = false) := fun j y hj hy => by
          by_cases e : j = i
          · subst e; rw [HX.out] at hy; cases hy; exact hE
          · exact N.out j y (by omega) hy
        first | exact ⟨i + 1, by simp, by omega, hn1, bw⟩ | ((repeat apply Exists.intro); exact ⟨⟨i + 1, by simp, by omega, hn1, bw⟩, rfl⟩)
    · obtain rfl : i = n := by omega
      have hd0 : decide (i < i) = false := by simp
      have hdi : decide ((i : Int) < (i : Int)) = false := by simp
      have ha : Q = (isAny key) := by
        rw [HQ.out]
        have : (l.any fun x => eqs x.nm key) = false := any_none (find_miss fun j x hj => N.out j x (by have := getE hj; rw [HL.out] at this; exact this) hj)
        rw [this]; rfl
      have HA := Lib.hid ha
      go_wp2
      go_ret
      exact ⟨by rw [HA.out]; rfl, bel_via b0 bw⟩
set_option maxHeartbeats 4000000 in
theorem rq_lim (c : CF) (key : ByteArray) {w : World} (hS : Sl w 4 lrc c.lA c.ln c.ls) :
    Calls Tryz.prog 86 #[.agg (cfc c), .string key] w fun e w' => e = .returned (.bool ((c.ls.any fun x => eqs x.nm key) || key.toList.isEmpty)) ∧ Below w.heap.size w w' := by
  obtain ⟨w0, hw0⟩ : ∃ w0, w0 = w.alloc (.cells (cfc c) 30) := ⟨_, rfl⟩
  have b0 : Below w.heap.size w w0 := by rw [hw0]; exact Below.al (Below.refl _ _) _
  have hC : CfB w0 w.heap.size c := by rw [hw0]; exact CfB.made w c
  have hS0 := hS.keep b0
  have hbig := hS.big
  have HL := Lib.hid hS.len
  obtain ⟨Q, hQ⟩ : ∃ Q, Q = ((c.ls.any fun x => eqs x.nm key) || key.toList.isEmpty) := ⟨_, rfl⟩
  rw [← hQ]
  have HQ := Lib.hid hQ
  clear hQ hS
  simp only [cfc] at *
  generalize c.ls = l at *
  obtain ⟨c0, c1, c2, c3, c4, c5, c6, c7⟩ := hC
  generalize hA : c.lA = A at *
  generalize hn : c.ln = n at *
  clear hA hn
  go_enter Tryz.func86, Tryz.ntmps86
  go_upto_region 1 with fail
  rw [← hw0]
  clear hw0
  go_wp2_with fail
  go_loopw [5] (fun v5 wr => ∃ i : Nat, v5 = .int .i64 i ∧ i ≤ n ∧ Aside (∀ (j : Nat) (x : LR), j < i → l[j]? = some x → eqs x.nm key = false) ∧ Below w0.heap.size w0 wr) (fun v5 _ => n - (intOf v5).toNat)
  case atStart => exact ⟨0, rfl, by omega, fun j x hj => absurd hj (Nat.not_lt_zero _), Below.refl _ _⟩
  case round =>
    obtain ⟨i, rfl, hi, N, bw⟩ := hrel
    have k0 := keepc bw c3
    by_cases hlt : i < n
    · have hml : i < l.length := by rw [HL.out]; exact hlt
      obtain ⟨x, hx⟩ : ∃ x, l[i]? = some x := ⟨_, List.getElem?_eq_getElem hml⟩
      obtain ⟨b, off, hA, _, hrow⟩ := hS0.row (by omega)
      have r0 : wr.cell? ⟨b, off + i * 4, none⟩ = some (.string x.nm) := keepc bw (hrow i x hx 0 _ rfl)
      subst hA
      have HX := Lib.hid hx
      clear hrow hx
      have hlti : (i : Int) < (n : Int) := by omega
      have hdn : decide (i < n) = true := by simp [hlt]
      cases hE : (x.nm.toList == key.toList) with
      | true =>
        have ha : Q = true := by
          rw [HQ.out]
          have : (l.any fun x => eqs x.nm key) = true := by rw [List.any_eq_true]; exact ⟨x, List.mem_of_getElem? HX.out, hE⟩
          rw [this]; rfl
        subst ha
        go_wp2
        go_ret
        exact ⟨rfl, bel_via b0 bw⟩
      | false =>
        go_wp2
        refine ⟨?_, by simp [intOf]; omega⟩
        have hn1 : Aside (∀ (j : Nat) (x : LR), j < i + 1 → l[j]? = some x → eqs x.nm key = false) := fun j y hj hy => by
          by_cases e : j = i
          · subst e; rw [HX.out] at hy; cases hy; exact hE
          · exact N.out j y (by omega) hy
        first | exact ⟨i + 1, by simp, by omega, hn1, bw⟩ | ((repeat apply Exists.intro); exact ⟨⟨i + 1, by simp, by omega, hn1, bw⟩, rfl⟩)
    · obtain rfl : i = n := by omega
      have hd0 : decide (i < i) = false := by simp
      have hdi : decide ((i : Int) < (i : Int)) = false := by simp
      have ha : Q = (key.toList.isEmpty) := by
        rw [HQ.out]
        have : (l.any fun x => eqs x.nm key) = false := any_none (find_miss fun j x hj => N.out j x (by have := getE hj; rw [HL.out] at this; exact this) hj)
        rw [this]; rfl
      have HA := Lib.hid ha
      go_wp2
      go_ret
      exact ⟨by rw [HA.out]; rfl, bel_via b0 bw⟩
set_option maxHeartbeats 4000000 in
theorem rif_any (A : Option Addr) (n c : Nat) (l : List ZR) (x : Int) {w : World} (hS : Sl w 4 zrc A n l) (hzi : ∀ z ∈ l, Sl w 1 (fun x : Int => [Value.int .i64 x]) z.ia z.il z.ifs) :
    Calls Tryz.prog 81 #[.slice A n c, .int .i64 x] w fun e w' => e = .returned (.bool (hasIf l x)) ∧ Below w.heap.size w w' := by
  have hbig := hS.big
  have HL := Lib.hid hS.len
  have HZ := Lib.hid hzi
  obtain ⟨Q, hQ⟩ : ∃ Q, Q = hasIf l x := ⟨_, rfl⟩
  rw [← hQ]
  have HQ := Lib.hid hQ
  clear hQ hzi
  go_enter Tryz.func81, Tryz.ntmps81
  go_wp2_with fail
  go_loopw [5] (fun v5 wr => ∃ i : Nat, v5 = .int .i64 i ∧ i ≤ n ∧ Aside (∀ (j : Nat) (z : ZR), j < i → l[j]? = some z → inZ x z = false) ∧ Below w.heap.size w wr) (fun v5 _ => n - (intOf v5).toNat)
  case atStart => exact ⟨0, rfl, by omega, fun j x hj => absurd hj (Nat.not_lt_zero _), Below.refl _ _⟩
  case round =>
    obtain ⟨i, rfl, hi, N, bw⟩ := hrel
    by_cases hlt : i < n
    · have hml : i < l.length := by rw [HL.out]; exact hlt
      obtain ⟨z, hx⟩ : ∃ x, l[i]? = some x := ⟨_, List.getElem?_eq_getElem hml⟩
      obtain ⟨b, off, hA, hlb, hrow⟩ := hS.row (by omega)
      have r3 : wr.cell? ⟨b, off + i * 4 + 3, none⟩ = some (.slice z.ia z.il z.ic) := keepc bw (hrow i z hx 3 _ rfl)
      have hzs := (HZ.out z (List.mem_of_getElem? hx)).keep bw
      subst hA
      have HX := Lib.hid hx
      clear hrow hx
      have hlti : (i : Int) < (n : Int) := by omega
      have hdn : decide (i < n) = true := by simp [hlt]
      obtain ⟨nm, ah, al, ia, il, ic, ifs⟩ := z
      simp only at r3 hzs
      have hbg := hzs.big
      have HF := Lib.hid hzs.len
      go_wp2_with fail
      obtain ⟨w1, hw1⟩ : ∃ x, x = wr := ⟨_, rfl⟩
      subst hw1
      go_loopw [6] (fun v6 wr => ∃ k : Nat, v6 = .int .i64 k ∧ k ≤ il ∧ Aside (∀ (j : Nat) (y : Int), j < k → ifs[j]? = some y → (x == y) = false) ∧ Below w1.heap.size w1 wr) (fun v6 _ => il - (intOf v6).toNat)
      case atStart => exact ⟨0, rfl, by omega, fun j x hj => absurd hj (Nat.not_lt_zero _), Below.refl _ _⟩
      case round =>
        obtain ⟨k, rfl, hk, N2, bw2⟩ := hrel
        have s3 := keepc bw2 r3
        by_cases hlk : k < il
        · have hmk : k < ifs.length := by rw [HF.out]; exact hlk
          obtain ⟨y, hy⟩ : ∃ y, ifs[k]? = some y := ⟨_, List.getElem?_eq_getElem hmk⟩
          obtain ⟨b2, off2, hA2, _, hrow2⟩ := hzs.row (by omega)
          have t0 : wr.cell? ⟨b2, off2 + k, none⟩ = some (.int .i64 y) := by have := keepc bw2 (hrow2 k y hy 0 _ rfl); simpa using this
          have t1 : wr.cell? ⟨b2, off2 + k * 1, none⟩ = some (.int .i64 y) := by simpa using t0
          subst hA2
          have HY := Lib.hid hy
          clear hrow2 hy
          have hlki : (k : Int) < (il : Int) := by omega
          have hdk : decide (k < il) = true := by simp [hlk]
          by_cases hE : y = x
          · subst hE
            have ha : Q = true := by
              rw [HQ.out]; unfold hasIf
              rw [List.any_eq_true]
              refine ⟨_, List.mem_of_getElem? HX.out, ?_⟩
              unfold inZ; rw [List.any_eq_true]
              exact ⟨y, List.mem_of_getElem? HY.out, by simp⟩
            subst ha
            go_wp2
            go_ret
            exact ⟨rfl, bel_via bw bw2⟩
          · have hEb : (y == x) = false := by simp [hE]
            go_wp2
            refine ⟨?_, by simp [intOf]; omega⟩
            have hn1 : Aside (∀ (j : Nat) (y : Int), j < k + 1 → ifs[j]? = some y → (x == y) = false) := fun j u hj hu => by
              by_cases e : j = k
              · subst e; rw [HY.out] at hu; cases hu; simp; exact fun h => hE h.symm
              · exact N2.out j u (by omega) hu
            first | exact ⟨k + 1, by simp, by omega, hn1, bw2⟩ | ((repeat apply Exists.intro); exact ⟨⟨k + 1, by simp, by omega, hn1, bw2⟩, rfl⟩)
        · obtain rfl : k = il := by omega
          have hd0 : decide (k < k) = false := by simp
          have hdi : decide ((k : Int) < (k : Int)) = false := by simp
          have hz : inZ x ⟨nm, ah, al, ia, k, ic, ifs⟩ = false := by
            unfold inZ
            exact any_none (find_miss fun j y hj => N2.out j y (by have := getE hj; rw [HF.out] at this; exact this) hj)
          have HZ1 := Lib.hid hz
          clear hz
          go_wp2
          refine ⟨?_, by simp [intOf]; omega⟩
          have hn1 : Aside (∀ (j : Nat) (z : ZR), j < i + 1 → l[j]? = some z → inZ x z = false) := fun j u hj hu => by
            by_cases e : j = i
            · subst e; rw [HX.out] at hu; cases hu; exact HZ1.out
            · exact N.out j u (by omega) hu
          first | exact ⟨i + 1, by simp, by omega, hn1, bel_via bw bw2⟩ | ((repeat apply Exists.intro); exact ⟨⟨i + 1, by simp, by omega, hn1, bel_via bw bw2⟩, rfl⟩)
    · obtain rfl : i = n := by omega
      have hd0 : decide (i < i) = false := by simp
      have hdi : decide ((i : Int) < (i : Int)) = false := by simp
      have ha : Q = false := by
        rw [HQ.out]
        unfold hasIf
        exact any_none (find_miss fun j x hj => N.out j x (by have := getE hj; rw [HL.out] at this; exact this) hj)
      subst ha
      go_wp2
      go_ret
      exact ⟨rfl, bw⟩
end Go.Proofs.YtmnnjkdmnfadhaaGreatDoor

namespace Go.Proofs.YtmnnjkdmnfadhaaGreatDoor
open Go.Shelf Go.RowKit Go.Lib Go.Sort
set_option linter.unusedVariables false
set_option linter.unusedSimpArgs false

/-- What a name ahead says of a name that may be. -/
theorem tail_zon (key : ByteArray) (h : nmB key = true) : (false) = false := by
  obtain ⟨h0, _, h2, _⟩ := (nmB_iff key).1 h
  rfl
set_option maxHeartbeats 16000000 in
set_option maxRecDepth 100000 in
theorem rl_zon (c : CF) {w : World} (hS : Sl w 4 zrc c.zA c.zn c.zs) (hcap : c.zn ≤ c.zc) (hnm : ∀ x ∈ c.zs, x.nm.size ≤ 9223372036854775807) (hzi : ∀ z ∈ c.zs, Sl w 1 (fun x : Int => [Value.int .i64 x]) z.ia z.il z.ifs) (hzc : ∀ z ∈ c.zs, z.il ≤ z.ic) :
    Calls Tryz.prog 22 #[.agg (cfc c)] w fun e w' => e = .returned (.int .i64 (firstP (chkN (·.nm) zonChk) c.zs)) ∧ Below w.heap.size w w' := by
  obtain ⟨w0, hw0⟩ : ∃ w0, w0 = w.alloc (.cells (cfc c) 30) := ⟨_, rfl⟩
  have b0 : Below w.heap.size w w0 := by rw [hw0]; exact Below.al (Below.refl _ _) _
  have hC : CfB w0 w.heap.size c := by rw [hw0]; exact CfB.made w c
  have hS0 := hS.keep b0
  have hbig := hS.big
  have HL := Lib.hid hS.len
  have HN := Lib.hid hnm
  obtain ⟨Q, hQ⟩ : ∃ Q, Q = firstP (chkN (·.nm) zonChk) c.zs := ⟨_, rfl⟩
  rw [← hQ]
  have HQ := Lib.hid hQ
  have HZI := Lib.hid hzi
  have HZC := Lib.hid hzc
  clear hzi hzc
  clear hQ hS hnm
  simp only [cfc] at *
  generalize c.zs = l at *
  obtain ⟨c0, c1, c2, c3, c4, c5, c6, c7⟩ := hC
  generalize c.zA = A at *
  generalize c.zn = n at *
  generalize c.zc = cp at *
  go_enter Tryz.func22, Tryz.ntmps22
  go_upto_region 1 with fail
  rw [← hw0]
  clear hw0
  go_wp2_with fail
  go_loopw [3] (fun v3 wr => ∃ i : Nat, v3 = .int .i64 i ∧ i ≤ n ∧ Aside (∀ (j : Nat) (x : ZR), j < i → l[j]? = some x → chkN (·.nm) zonChk x (l.take j) = 0) ∧ Below w0.heap.size w0 wr) (fun v3 _ => n - (intOf v3).toNat)
  case atStart => exact ⟨0, rfl, by omega, fun j x hj => absurd hj (Nat.not_lt_zero _), Below.refl _ _⟩
  case round =>
    obtain ⟨i, rfl, hi, N, bw⟩ := hrel
    have k0 := keepc bw c0
    by_cases hlt : i < n
    · have hml : i < l.length := by rw [HL.out]; exact hlt
      obtain ⟨x, hx⟩ : ∃ x, l[i]? = some x := ⟨_, List.getElem?_eq_getElem hml⟩
      obtain ⟨b, off, hA, hlb, hrow⟩ := hS0.row (by omega)
      have hcell := fun j v hv => keepc bw (hrow i x hx j v hv)
      have HX := Lib.hid hx
      have hsz := HN.out x (List.mem_of_getElem? hx)
      have hfr := (hS0.keep bw).front (i := i) (by omega)
      have NX := Lib.hid (fun (h : chkN (·.nm) zonChk x (l.take i) = 0) => (fun j y hj hy => by
          by_cases e : j = i
          · subst e; rw [hx] at hy; cases hy; exact h
          · exact N.out j y (by omega) hy : ∀ (j : Nat) (y : ZR), j < i + 1 → l[j]? = some y → chkN (·.nm) zonChk y (l.take j) = 0))
      have NH := Lib.hid (fun (h : chkN (·.nm) zonChk x (l.take i) ≠ 0) => (HQ.out.trans (firstP_hit hx h N.out) : Q = chkN (·.nm) zonChk x (l.take i)))
      have hzi := fun z hz => ((HZI.out z hz).keep b0).keep bw
      have hrs := hzi x (List.mem_of_getElem? hx)
      have hil := HZC.out x (List.mem_of_getElem? hx)
      subst hA
      clear hrow hx N
      have cn := fun W : World => rnameB_any x.nm hsz W
      have cz := fun W (h : Below wr.heap.size wr W) => rq_zon { zA := some ⟨b, off, none⟩, zn := i, zc := cp, zs := (l.take i), oA := none, on := 0, oc := 0, os := [], sA := none, sn := 0, sc := 0, ss := [], lA := none, ln := 0, lc := 0, ls := [], tA := none, tn := 0, tc := 0, ts := [], nA := none, nn := 0, nc := 0, ns := [], uA := none, un := 0, uc := 0, us := [], dflt := 0 } x.nm (w := W) (hfr.keep h)
      have hck : chkN (·.nm) zonChk x (l.take i) = if nmB x.nm = true then (if ((l.take i).any fun y => eqs y.nm x.nm) = true then 63 else zonChk x (l.take i)) else 62 := rfl
      have htl := tail_zon x.nm
      obtain ⟨r, hr⟩ : ∃ r, r = chkN (·.nm) zonChk x (l.take i) := ⟨_, rfl⟩
      rw [← hr] at hck NX NH
      clear hr
      unfold zonChk at hck
      generalize nmB x.nm = K1 at *
      simp only [cfc] at cz
      generalize ((l.take i).any fun y => eqs y.nm x.nm) = K2 at *
      have hlti : (i : Int) < (n : Int) := by omega
      have hdn : decide (i < n) = true := by simp [hlt]
      have hic : i ≤ cp := by omega
      obtain ⟨nm, ah, al, ia, il, ic, ifs⟩ := x
      have r0 : wr.cell? ⟨b, off + i * 4, none⟩ = some (.string nm) := hcell 0 _ rfl
      have r1 := hcell 1 _ rfl
      have r2 := hcell 2 _ rfl
      have r3 := hcell 3 _ rfl
      simp only at cn cz hck htl hrs hil
      go_upto_region 5 with fail
      have hbn : Below wr.heap.size wr (wr.alloc (.cells #[.string nm, .int .u64 ah, .int .u64 al, .slice ia il ic] 59)) := Below.al (Below.refl _ _) _
      have hB := heap_alloc_new wr (.cells #[.string nm, .int .u64 ah, .int .u64 al, .slice ia il ic] 59)
      obtain ⟨wn, hwn⟩ : ∃ x, x = wr.alloc (.cells #[.string nm, .int .u64 ah, .int .u64 al, .slice ia il ic] 59) := ⟨_, rfl⟩
      rw [← hwn] at hbn hB ⊢
      clear hwn
      obtain ⟨P, hP⟩ : ∃ P, P = wr.heap.size := ⟨_, rfl⟩
      rw [← hP] at hB ⊢
      clear hP
      obtain ⟨p0, p1, p2, p3, _⟩ := cells4 hB
      replace k0 := keepc hbn k0
      replace hrs := hrs.keep hbn
      replace hzi := fun z hz => (hzi z hz).keep hbn
      cases K1 with
      | false =>
        have HR : Hid (r = 62) := Lib.hid (by rw [hck]; rfl)
        clear hck htl cz hfr
        go_wp2_with (first | (go_at_call 78; go_loud (with_reducible refine (cn _).mono ?_); rintro e w1 ⟨rfl, rfl⟩))
        go_ret
        exact ⟨ret_int (by rw [NH.out (by rw [HR.out]; decide), HR.out]), bel_via b0 (bel_via bw hbn)⟩
      | true =>
        try rw [htl rfl] at cz
        simp only [Bool.or_false] at cz
        clear htl
        go_upto_region 7 with (first | (go_at_call 78; go_loud (with_reducible refine (cn _).mono ?_); rintro e w1 ⟨rfl, rfl⟩))
        have g0 := cell_regrown k0
        have g1 := cell_regrown p0
        have g2 := cell_regrown p1
        have g3 := cell_regrown p2
        have g4 := cell_regrown p3
        have qz := fun d os => Calls.regrown_of (cz (grow (redrawn wn d) os) (bel_via hbn (below_regrown wn d os)))
        clear cn cz
        refine wp_region_quiet_below (by kernel_rfl) (by kernel_rfl) ?_
        repeat (first | go_big_quiet_skip | quiet_step (first | (go_at_call 79; with_reducible exact qz _ _)))
        refine wpQuiet_nil ?_
        intro _ hw'
        obtain ⟨⟨dq, osq⟩, hw''⟩ := hw'
        subst hw''
        have hbq := below_regrown wn dq osq
        obtain ⟨wq, hwy⟩ : ∃ x, x = grow (redrawn wn dq) osq := ⟨_, rfl⟩
        rw [← hwy] at hbq ⊢
        clear hwy
        replace k0 := keepc hbq k0
        replace p0 := keepc hbq p0
        replace p1 := keepc hbq p1
        replace p2 := keepc hbq p2
        replace p3 := keepc hbq p3
        clear g0 g1 g2 g3 g4 qz
        have hbz := bel_via hbn hbq
        replace hrs := hrs.keep hbq
        replace hzi := fun z hz => (hzi z hz).keep hbq
        cases K2 with
        | true =>
          have HR : Hid (r = 63) := Lib.hid (by rw [hck]; rfl)
          clear hck
          go_wp2_with fail
          go_ret
          exact ⟨ret_int (by rw [NH.out (by rw [HR.out]; decide), HR.out]), bel_via b0 (bel_via bw hbz)⟩
        | false =>
          simp only [if_true, if_false, Bool.false_eq_true] at hck
          have q1 := rwi_any (il : Int) 1 16
          generalize wiB (il : Int) 1 16 = B1 at *
          cases B1 with
          | false =>
            have HR : Hid (r = 1) := Lib.hid (by rw [hck]; simp)
            clear hck hrs hzi hil
            go_wp2_with (first | (go_at_call 80; with_reducible refine (q1 _).mono ?_; rintro e wi ⟨rfl, rfl⟩))
            go_ret
            exact ⟨ret_int (by rw [NH.out (by rw [HR.out]; decide), HR.out]), bel_via b0 (bel_via bw hbz)⟩
          | true =>
            simp only [if_true] at hck
            have hbg := hrs.big
            have HF := Lib.hid hrs.len
            have HCK := Lib.hid hck
            have bwz := bel_via bw hbz
            have hfz := hfr.keep hbz
            clear hck hcell hfr bw hbz hbn hbq hS0
            go_wp2_with (first | (go_at_call 80; with_reducible refine (q1 _).mono ?_; rintro e wi ⟨rfl, rfl⟩))
            obtain ⟨w1, hw1⟩ : ∃ x, x = wq := ⟨_, rfl⟩
            subst hw1
            go_loopw [5] (fun v5 wr => ∃ k : Nat, v5 = .int .i64 k ∧ k ≤ il ∧ Aside (∀ (j : Nat) (y : Int), j < k → ifs[j]? = some y → ifcChk (l.take i) y (ifs.take j) = 0) ∧ Below w1.heap.size w1 wr) (fun v5 _ => il - (intOf v5).toNat)
            case atStart => exact ⟨0, rfl, by omega, fun j x hj => absurd hj (Nat.not_lt_zero _), Below.refl _ _⟩
            case round =>
              obtain ⟨k, rfl, hk, N2, bw2⟩ := hrel
              have K0 := keepc bw2 k0
              have P2 := keepc bw2 p3
              by_cases hlk : k < il
              · have hmk : k < ifs.length := by rw [HF.out]; exact hlk
                obtain ⟨y, hy⟩ : ∃ y, ifs[k]? = some y := ⟨_, List.getElem?_eq_getElem hmk⟩
                obtain ⟨b2, off2, hA2, _, hrow2⟩ := hrs.row (by omega)
                have HY := Lib.hid hy
                have s0 : wr.cell? ⟨b2, off2 + k, none⟩ = some (.int .i64 y) := by have := keepc bw2 (hrow2 k y hy 0 _ rfl); simpa using this
                have s1 : wr.cell? ⟨b2, off2 + k * 1, none⟩ = some (.int .i64 y) := by simpa using s0
                have hfk := (hrs.keep bw2).front (i := k) (by omega)
                have hfw := hfz.keep bw2
                have hzw : ∀ z ∈ l.take i, Sl wr 1 (fun x : Int => [Value.int .i64 x]) z.ia z.il z.ifs := fun z hz => (hzi z (List.mem_of_mem_take hz)).keep bw2
                subst hA2
                have hkc : k ≤ ic := by omega
                have q2 := rwi_any y 0 15
                have hEq : ifcChk (l.take i) y (ifs.take k) = if wiB y 0 15 = true then (if ((ifs.take k).any fun u => y == u) = true then 63 else if hasIf (l.take i) y = true then 63 else 0) else 61 := rfl
                obtain ⟨E, hE⟩ : ∃ E, E = ifcChk (l.take i) y (ifs.take k) := ⟨_, rfl⟩
                rw [← hE] at hEq
                have HEE := Lib.hid hE
                clear hE hrow2 hy hrs hzi hfz
                generalize wiB y 0 15 = B2 at *
                have hlki : (k : Int) < (il : Int) := by omega
                have hdk : decide (k < il) = true := by simp [hlk]
                cases B2 with
                | false =>
                  have hE61 : E = 61 := by rw [hEq]; simp
                  have HR : Hid (r = 61) := Lib.hid (by rw [HCK.out, firstP_hit HY.out (by rw [← HEE.out, hE61]; decide) N2.out, ← HEE.out, hE61])
                  clear hEq hE61 hfk hfw hzw
                  go_wp2_with (first | (go_at_call 80; with_reducible refine (q2 _).mono ?_; rintro e wi ⟨rfl, rfl⟩))
                  go_ret
                  exact ⟨ret_int (by rw [NH.out (by rw [HR.out]; decide), HR.out]), bel_via b0 (bel_via bwz bw2)⟩
                | true =>
                  simp only [if_true] at hEq
                  go_upto_region 17 with (first | (go_at_call 80; with_reducible refine (q2 _).mono ?_; rintro e wi ⟨rfl, rfl⟩))
                  have hbo : Below wr.heap.size wr (wr.alloc (.cells #[.string { data := #[] }, .int .u64 0, .int .u64 0, .slice (some ⟨b2, off2, none⟩) k ic] 59)) := Below.al (Below.refl _ _) _
                  have hO := heap_alloc_new wr (.cells #[.string { data := #[] }, .int .u64 0, .int .u64 0, .slice (some ⟨b2, off2, none⟩) k ic] 59)
                  obtain ⟨wo, hwo⟩ : ∃ x, x = wr.alloc (.cells #[.string { data := #[] }, .int .u64 0, .int .u64 0, .slice (some ⟨b2, off2, none⟩) k ic] 59) := ⟨_, rfl⟩
                  rw [← hwo] at hbo hO ⊢
                  clear hwo
                  obtain ⟨PO, hPO⟩ : ∃ P, P = wr.heap.size := ⟨_, rfl⟩
                  rw [← hPO] at hO ⊢
                  clear hPO
                  have hone : Sl wo 4 zrc (some ⟨PO, 0, none⟩) 1 [(⟨{ data := #[] }, 0, 0, some ⟨b2, off2, none⟩, k, ic, ifs.take k⟩ : ZR)] := sl_block (k := 4) (enc := zrc) (fun _ => rfl) (l := [(⟨{ data := #[] }, 0, 0, some ⟨b2, off2, none⟩, k, ic, ifs.take k⟩ : ZR)]) hO (by simp) (fun j v hj => by simpa [zrc] using hj)
                  have hzo : ∀ z ∈ [(⟨{ data := #[] }, 0, 0, some ⟨b2, off2, none⟩, k, ic, ifs.take k⟩ : ZR)], Sl wo 1 (fun x : Int => [Value.int .i64 x]) z.ia z.il z.ifs := fun z hz => by
                    rw [List.mem_singleton] at hz; subst hz; exact hfk.keep hbo
                  have f1 := fun W (h : Below wo.heap.size wo W) => rif_any (some ⟨b, off, none⟩) i cp (l.take i) y (w := W) ((hfw.keep hbo).keep h) (fun z hz => ((hzw z hz).keep hbo).keep h)
                  have f2 := fun W (h : Below wo.heap.size wo W) => rif_any (some ⟨PO, 0, none⟩) 1 1 [(⟨{ data := #[] }, 0, 0, some ⟨b2, off2, none⟩, k, ic, ifs.take k⟩ : ZR)] y (w := W) (hone.keep h) (fun z hz => (hzo z hz).keep h)
                  rw [show hasIf [(⟨{ data := #[] }, 0, 0, some ⟨b2, off2, none⟩, k, ic, ifs.take k⟩ : ZR)] y = ((ifs.take k).any fun u => y == u) by simp [hasIf, inZ]] at f2
                  generalize ((ifs.take k).any fun u => y == u) = H2 at *
                  generalize hasIf (l.take i) y = H1 at *
                  have g0 := cell_regrown (keepc hbo K0)
                  have g1 := cell_regrown (keepc hbo P2)
                  have g2 := cell_regrown (keepc hbo s0)
                  have g3 := cell_regrown (keepc hbo s1)
                  have qz1 := fun d os => Calls.regrown_of (f1 (grow (redrawn wo d) os) (below_regrown wo d os))
                  have qz2 := fun d os => Calls.regrown_of (f2 (grow (redrawn wo d) os) (below_regrown wo d os))
                  have bwo := bel_via bw2 hbo
                  clear f1 f2 hone hzo hfk hfw hzw hO K0 P2 s0 s1
                  cases H1 <;> cases H2 <;>
                  (
                    refine wp_region_quiet_below (by kernel_rfl) (by kernel_rfl) ?_
                    repeat (first | go_big_quiet_skip | quiet_step (first | (go_at_call 81; with_reducible exact qz1 _ _) | (go_at_call 81; with_reducible exact qz2 _ _)))
                    refine wpQuiet_nil ?_
                    intro _ hw'
                    obtain ⟨⟨dq, osq⟩, hw''⟩ := hw'
                    subst hw''
                    have hbq := below_regrown wo dq osq
                    obtain ⟨wv, hwy⟩ : ∃ x, x = grow (redrawn wo dq) osq := ⟨_, rfl⟩
                    rw [← hwy] at hbq ⊢
                    clear hwy
                    clear g0 g1 g2 g3 qz1 qz2
                    first
                    | (have hE0 : E = 0 := by rw [hEq]; simp
                       have hn1 : Aside (∀ (j : Nat) (y : Int), j < k + 1 → ifs[j]? = some y → ifcChk (l.take i) y (ifs.take j) = 0) := fun j u hj hu => by
                         by_cases e : j = k
                         · subst e; rw [HY.out] at hu; cases hu; rw [← HEE.out]; exact hE0
                         · exact N2.out j u (by omega) hu
                       clear hEq hE0
                       go_wp2_with fail
                       refine ⟨?_, by simp [intOf]; omega⟩
                       first | exact ⟨k + 1, by simp, by omega, hn1, bel_via bwo hbq⟩ | ((repeat apply Exists.intro); exact ⟨⟨k + 1, by simp, by omega, hn1, bel_via bwo hbq⟩, rfl⟩))
                    | (have hE63 : E = 63 := by rw [hEq]; simp
                       have HR : Hid (r = 63) := Lib.hid (by rw [HCK.out, firstP_hit HY.out (by rw [← HEE.out, hE63]; decide) N2.out, ← HEE.out, hE63])
                       clear hEq hE63
                       go_wp2_with fail
                       go_ret
                       exact ⟨ret_int (by rw [NH.out (by rw [HR.out]; decide), HR.out]), bel_via b0 (bel_via bwz (bel_via bwo hbq))⟩))
              · obtain rfl : k = il := by omega
                have hd0k : decide (k < k) = false := by simp
                have hdik : decide ((k : Int) < (k : Int)) = false := by simp
                have HR : Hid (r = 0) := Lib.hid (by rw [HCK.out]; exact firstP_all fun j y hj => N2.out j y (by have := getE hj; rw [HF.out] at this; exact this) hj)
                clear hzi hrs hfz
                go_wp2_with fail
                refine ⟨?_, by simp [intOf]; omega⟩
                have hn1 : Aside _ := NX.out HR.out
                first | exact ⟨i + 1, by simp, by omega, hn1, bel_via bwz bw2⟩ | ((repeat apply Exists.intro); exact ⟨⟨i + 1, by simp, by omega, hn1, bel_via bwz bw2⟩, rfl⟩)
    · obtain rfl : i = n := by omega
      have hd0 : decide (i < i) = false := by simp
      have hdi : decide ((i : Int) < (i : Int)) = false := by simp
      have ha : Q = 0 := by
        rw [HQ.out]
        exact firstP_all fun j x hj => N.out j x (by have := getE hj; rw [HL.out] at this; exact this) hj
      subst ha
      clear N
      go_wp2
      go_ret
      exact ⟨rfl, bel_via b0 bw⟩
end Go.Proofs.YtmnnjkdmnfadhaaGreatDoor

namespace Go.Proofs.YtmnnjkdmnfadhaaGreatDoor
open Go.Shelf Go.RowKit Go.Lib Go.Sort
set_option linter.unusedVariables false
set_option linter.unusedSimpArgs false

/-- What a name ahead says of a name that may be. -/
theorem tail_obj (key : ByteArray) (h : nmB key = true) : (isAny key) = false := by
  obtain ⟨h0, _, h2, _⟩ := (nmB_iff key).1 h
  simp [isAny, h2]
theorem rngE_or (r : R4) : rngE r = 0 ∨ rngE r = 31 := by unfold rngE; split <;> simp
theorem cells2' {w : World} {B : Nat} {x y : Value} {t : TypeId} (h : w.heap[B]? = some (.cells #[x, y] t (0, 0))) : w.cell? ⟨B, 0, none⟩ = some x ∧ w.cell? ⟨B, 1, none⟩ = some y ∧ True := by
  obtain ⟨a, b, _⟩ := cells2 h; exact ⟨a, b, trivial⟩
set_option maxHeartbeats 16000000 in
set_option maxRecDepth 100000 in
theorem rl_obj (c : CF) {w : World} (hS : Sl w 2 orc c.oA c.on c.os) (hcap : c.on ≤ c.oc) (hnm : ∀ x ∈ c.os, x.nm.size ≤ 9223372036854775807) (hoi : ∀ o ∈ c.os, Sl w 4 r4c o.ra o.rl o.rs) (how : ∀ o ∈ c.os, ∀ r ∈ o.rs, RW r) :
    Calls Tryz.prog 23 #[.agg (cfc c)] w fun e w' => e = .returned (.int .i64 (firstP (chkN (·.nm) objChk) c.os)) ∧ Below w.heap.size w w' := by
  obtain ⟨w0, hw0⟩ : ∃ w0, w0 = w.alloc (.cells (cfc c) 30) := ⟨_, rfl⟩
  have b0 : Below w.heap.size w w0 := by rw [hw0]; exact Below.al (Below.refl _ _) _
  have hC : CfB w0 w.heap.size c := by rw [hw0]; exact CfB.made w c
  have hS0 := hS.keep b0
  have hbig := hS.big
  have HL := Lib.hid hS.len
  have HN := Lib.hid hnm
  obtain ⟨Q, hQ⟩ : ∃ Q, Q = firstP (chkN (·.nm) objChk) c.os := ⟨_, rfl⟩
  rw [← hQ]
  have HQ := Lib.hid hQ
  have HOI := Lib.hid hoi
  have HOW := Lib.hid how
  clear hoi how
  clear hQ hS hnm
  simp only [cfc] at *
  generalize c.os = l at *
  obtain ⟨c0, c1, c2, c3, c4, c5, c6, c7⟩ := hC
  generalize c.oA = A at *
  generalize c.on = n at *
  generalize c.oc = cp at *
  go_enter Tryz.func23, Tryz.ntmps23
  go_upto_region 1 with fail
  rw [← hw0]
  clear hw0
  go_wp2_with fail
  go_loopw [3] (fun v3 wr => ∃ i : Nat, v3 = .int .i64 i ∧ i ≤ n ∧ Aside (∀ (j : Nat) (x : OR), j < i → l[j]? = some x → chkN (·.nm) objChk x (l.take j) = 0) ∧ Below w0.heap.size w0 wr) (fun v3 _ => n - (intOf v3).toNat)
  case atStart => exact ⟨0, rfl, by omega, fun j x hj => absurd hj (Nat.not_lt_zero _), Below.refl _ _⟩
  case round =>
    obtain ⟨i, rfl, hi, N, bw⟩ := hrel
    have k0 := keepc bw c1
    by_cases hlt : i < n
    · have hml : i < l.length := by rw [HL.out]; exact hlt
      obtain ⟨x, hx⟩ : ∃ x, l[i]? = some x := ⟨_, List.getElem?_eq_getElem hml⟩
      obtain ⟨b, off, hA, hlb, hrow⟩ := hS0.row (by omega)
      have hcell := fun j v hv => keepc bw (hrow i x hx j v hv)
      have HX := Lib.hid hx
      have hsz := HN.out x (List.mem_of_getElem? hx)
      have hfr := (hS0.keep bw).front (i := i) (by omega)
      have NX := Lib.hid (fun (h : chkN (·.nm) objChk x (l.take i) = 0) => (fun j y hj hy => by
          by_cases e : j = i
          · subst e; rw [hx] at hy; cases hy; exact h
          · exact N.out j y (by omega) hy : ∀ (j : Nat) (y : OR), j < i + 1 → l[j]? = some y → chkN (·.nm) objChk y (l.take j) = 0))
      have NH := Lib.hid (fun (h : chkN (·.nm) objChk x (l.take i) ≠ 0) => (HQ.out.trans (firstP_hit hx h N.out) : Q = chkN (·.nm) objChk x (l.take i)))
      have hrs := ((HOI.out x (List.mem_of_getElem? hx)).keep b0).keep bw
      have hrw := HOW.out x (List.mem_of_getElem? hx)
      subst hA
      clear hrow hx N
      have cn := fun W : World => rnameB_any x.nm hsz W
      have cz := fun W (h : Below wr.heap.size wr W) => rq_obj { zA := none, zn := 0, zc := 0, zs := [], oA := some ⟨b, off, none⟩, on := i, oc := cp, os := (l.take i), sA := none, sn := 0, sc := 0, ss := [], lA := none, ln := 0, lc := 0, ls := [], tA := none, tn := 0, tc := 0, ts := [], nA := none, nn := 0, nc := 0, ns := [], uA := none, un := 0, uc := 0, us := [], dflt := 0 } x.nm (w := W) (hfr.keep h)
      have hck : chkN (·.nm) objChk x (l.take i) = if nmB x.nm = true then (if ((l.take i).any fun y => eqs y.nm x.nm) = true then 63 else objChk x (l.take i)) else 62 := rfl
      have htl := tail_obj x.nm
      obtain ⟨r, hr⟩ : ∃ r, r = chkN (·.nm) objChk x (l.take i) := ⟨_, rfl⟩
      rw [← hr] at hck NX NH
      clear hr
      unfold objChk at hck
      generalize nmB x.nm = K1 at *
      simp only [cfc] at cz
      generalize ((l.take i).any fun y => eqs y.nm x.nm) = K2 at *
      have hlti : (i : Int) < (n : Int) := by omega
      have hdn : decide (i < n) = true := by simp [hlt]
      have hic : i ≤ cp := by omega
      obtain ⟨nm, ra, rl, rc, rs⟩ := x
      have r0 : wr.cell? ⟨b, off + i * 2, none⟩ = some (.string nm) := hcell 0 _ rfl
      have r1 := hcell 1 _ rfl
      simp only at cn cz hck htl hrs hrw
      go_upto_region 5 with fail
      have hbn : Below wr.heap.size wr (wr.alloc (.cells #[.string nm, .slice ra rl rc] 62)) := Below.al (Below.refl _ _) _
      have hB := heap_alloc_new wr (.cells #[.string nm, .slice ra rl rc] 62)
      obtain ⟨wn, hwn⟩ : ∃ x, x = wr.alloc (.cells #[.string nm, .slice ra rl rc] 62) := ⟨_, rfl⟩
      rw [← hwn] at hbn hB ⊢
      clear hwn
      obtain ⟨P, hP⟩ : ∃ P, P = wr.heap.size := ⟨_, rfl⟩
      rw [← hP] at hB ⊢
      clear hP
      obtain ⟨p0, p1, _⟩ := cells2 hB
      replace k0 := keepc hbn k0
      replace hrs := hrs.keep hbn
      cases K1 with
      | false =>
        have HR : Hid (r = 62) := Lib.hid (by rw [hck]; rfl)
        clear hck htl cz hfr
        go_wp2_with (first | (go_at_call 78; go_loud (with_reducible refine (cn _).mono ?_); rintro e w1 ⟨rfl, rfl⟩))
        go_ret
        exact ⟨ret_int (by rw [NH.out (by rw [HR.out]; decide), HR.out]), bel_via b0 (bel_via bw hbn)⟩
      | true =>
        try rw [htl rfl] at cz
        simp only [Bool.or_false] at cz
        clear htl
        go_upto_region 7 with (first | (go_at_call 78; go_loud (with_reducible refine (cn _).mono ?_); rintro e w1 ⟨rfl, rfl⟩))
        have g0 := cell_regrown k0
        have g1 := cell_regrown p0
        have g2 := cell_regrown p1
        have qz := fun d os => Calls.regrown_of (cz (grow (redrawn wn d) os) (bel_via hbn (below_regrown wn d os)))
        clear cn cz
        refine wp_region_quiet_below (by kernel_rfl) (by kernel_rfl) ?_
        repeat (first | go_big_quiet_skip | quiet_step (first | (go_at_call 82; with_reducible exact qz _ _)))
        refine wpQuiet_nil ?_
        intro _ hw'
        obtain ⟨⟨dq, osq⟩, hw''⟩ := hw'
        subst hw''
        have hbq := below_regrown wn dq osq
        obtain ⟨wq, hwy⟩ : ∃ x, x = grow (redrawn wn dq) osq := ⟨_, rfl⟩
        rw [← hwy] at hbq ⊢
        clear hwy
        replace k0 := keepc hbq k0
        replace p0 := keepc hbq p0
        replace p1 := keepc hbq p1
        clear g0 g1 g2 qz
        have hbz := bel_via hbn hbq
        replace hrs := hrs.keep hbq
        cases K2 with
        | true =>
          have HR : Hid (r = 63) := Lib.hid (by rw [hck]; rfl)
          clear hck
          go_wp2_with fail
          go_ret
          exact ⟨ret_int (by rw [NH.out (by rw [HR.out]; decide), HR.out]), bel_via b0 (bel_via bw hbz)⟩
        | false =>
          simp only [if_true, if_false, Bool.false_eq_true] at hck
          have q1 := rwi_any (rl : Int) 1 8
          generalize wiB (rl : Int) 1 8 = B1 at *
          cases B1 with
          | false =>
            have HR : Hid (r = 1) := Lib.hid (by rw [hck]; simp)
            clear hck hrs hrw
            go_wp2_with (first | (go_at_call 80; with_reducible refine (q1 _).mono ?_; rintro e wi ⟨rfl, rfl⟩))
            go_ret
            exact ⟨ret_int (by rw [NH.out (by rw [HR.out]; decide), HR.out]), bel_via b0 (bel_via bw hbz)⟩
          | true =>
            simp only [if_true] at hck
            have hbg := hrs.big
            have HF := Lib.hid hrs.len
            have HCK := Lib.hid hck
            have bwz := bel_via bw hbz
            clear hck hcell hfr bw hbz hbn hbq hS0
            go_wp2_with (first | (go_at_call 80; with_reducible refine (q1 _).mono ?_; rintro e wi ⟨rfl, rfl⟩))
            obtain ⟨w1, hw1⟩ : ∃ x, x = wq := ⟨_, rfl⟩
            subst hw1
            go_loopw [5] (fun v5 wr => ∃ k : Nat, v5 = .int .i64 k ∧ k ≤ rl ∧ Aside (∀ (j : Nat) (y : R4), j < k → rs[j]? = some y → rngE y = 0) ∧ Below w1.heap.size w1 wr) (fun v5 _ => rl - (intOf v5).toNat)
            case atStart => exact ⟨0, rfl, by omega, fun j x hj => absurd hj (Nat.not_lt_zero _), Below.refl _ _⟩
            case round =>
              obtain ⟨k, rfl, hk, N2, bw2⟩ := hrel
              replace k0 := keepc bw2 k0
              replace p0 := keepc bw2 p0
              replace p1 := keepc bw2 p1
              by_cases hlk : k < rl
              · have hmk : k < rs.length := by rw [HF.out]; exact hlk
                obtain ⟨y, hy⟩ : ∃ y, rs[k]? = some y := ⟨_, List.getElem?_eq_getElem hmk⟩
                obtain ⟨b2, off2, hA2, _, hrow2⟩ := hrs.row (by omega)
                have hy1 := hrw y (List.mem_of_getElem? hy)
                have cp2 := fun W : World => rprE_any y hy1 W
                have hor := rngE_or y
                have HY := Lib.hid hy
                have s0 : wr.cell? ⟨b2, off2 + k * 4, none⟩ = some (.int .u64 y.fh) := keepc bw2 (hrow2 k y hy 0 _ rfl)
                have s1 := keepc bw2 (hrow2 k y hy 1 _ rfl)
                have s2 := keepc bw2 (hrow2 k y hy 2 _ rfl)
                have s3 := keepc bw2 (hrow2 k y hy 3 _ rfl)
                subst hA2
                clear hrow2 hy hy1 hrw
                unfold RngPost at cp2
                have hE : Hid (rngE y = rngE y) := Lib.hid rfl
                obtain ⟨E, hEe⟩ : ∃ E, E = rngE y := ⟨_, rfl⟩
                rw [← hEe] at cp2 hor
                have HEE := Lib.hid hEe
                clear hEe hE
                obtain ⟨fh, fl, th, tl⟩ := y
                simp only [r4c] at cp2 s0 s1 s2 s3
                have hlki : (k : Int) < (rl : Int) := by omega
                have hdk : decide (k < rl) = true := by simp [hlk]
                rcases hor with hE0 | hE0
                · subst hE0
                  go_wp2_with (first | (go_at_call 83; go_loud (with_reducible refine (cp2 _).mono ?_); rintro e w3 ⟨SS, rfl, hb3⟩))
                  refine ⟨?_, by simp [intOf]; omega⟩
                  have hn1 : Aside (∀ (j : Nat) (y : R4), j < k + 1 → rs[j]? = some y → rngE y = 0) := fun j u hj hu => by
                    by_cases e : j = k
                    · subst e; rw [HY.out] at hu; cases hu; exact HEE.out.symm
                    · exact N2.out j u (by omega) hu
                  first | exact ⟨k + 1, by simp, by omega, hn1, bel_via bw2 hb3⟩ | ((repeat apply Exists.intro); exact ⟨⟨k + 1, by simp, by omega, hn1, bel_via bw2 hb3⟩, rfl⟩)
                · subst hE0
                  have HR : Hid (r = 31) := Lib.hid (by rw [HCK.out, firstP_hit HY.out (by rw [← HEE.out]; decide) N2.out, ← HEE.out])
                  go_wp2_with (first | (go_at_call 83; go_loud (with_reducible refine (cp2 _).mono ?_); rintro e w3 ⟨SS, rfl, hb3⟩))
                  go_ret
                  exact ⟨ret_int (by rw [NH.out (by rw [HR.out]; decide), HR.out]), bel_via b0 (bel_via bwz (bel_via bw2 hb3))⟩
              · obtain rfl : k = rl := by omega
                have hd0k : decide (k < k) = false := by simp
                have hdik : decide ((k : Int) < (k : Int)) = false := by simp
                have HR : Hid (r = 0) := Lib.hid (by rw [HCK.out]; exact firstP_all fun j y hj => N2.out j y (by have := getE hj; rw [HF.out] at this; exact this) hj)
                go_wp2_with fail
                refine ⟨?_, by simp [intOf]; omega⟩
                have hn1 : Aside _ := NX.out HR.out
                first | exact ⟨i + 1, by simp, by omega, hn1, bel_via bwz bw2⟩ | ((repeat apply Exists.intro); exact ⟨⟨i + 1, by simp, by omega, hn1, bel_via bwz bw2⟩, rfl⟩)
    · obtain rfl : i = n := by omega
      have hd0 : decide (i < i) = false := by simp
      have hdi : decide ((i : Int) < (i : Int)) = false := by simp
      have ha : Q = 0 := by
        rw [HQ.out]
        exact firstP_all fun j x hj => N.out j x (by have := getE hj; rw [HL.out] at this; exact this) hj
      subst ha
      clear N
      go_wp2
      go_ret
      exact ⟨rfl, bel_via b0 bw⟩
end Go.Proofs.YtmnnjkdmnfadhaaGreatDoor

namespace Go.Proofs.YtmnnjkdmnfadhaaGreatDoor
open Go.Shelf Go.RowKit Go.Lib Go.Sort
set_option linter.unusedVariables false
set_option linter.unusedSimpArgs false

/-- What a name ahead says of a name that may be. -/
theorem tail_srv (key : ByteArray) (h : nmB key = true) : (isAny key) = false := by
  obtain ⟨h0, _, h2, _⟩ := (nmB_iff key).1 h
  simp [isAny, h2]
set_option maxHeartbeats 16000000 in
set_option maxRecDepth 100000 in
theorem rl_srv (c : CF) {w : World} (hS : Sl w 4 src c.sA c.sn c.ss) (hcap : c.sn ≤ c.sc) (hnm : ∀ x ∈ c.ss, x.nm.size ≤ 9223372036854775807) :
    Calls Tryz.prog 24 #[.agg (cfc c)] w fun e w' => e = .returned (.int .i64 (firstP (chkN (·.nm) srvChk) c.ss)) ∧ Below w.heap.size w w' := by
  obtain ⟨w0, hw0⟩ : ∃ w0, w0 = w.alloc (.cells (cfc c) 30) := ⟨_, rfl⟩
  have b0 : Below w.heap.size w w0 := by rw [hw0]; exact Below.al (Below.refl _ _) _
  have hC : CfB w0 w.heap.size c := by rw [hw0]; exact CfB.made w c
  have hS0 := hS.keep b0
  have hbig := hS.big
  have HL := Lib.hid hS.len
  have HN := Lib.hid hnm
  obtain ⟨Q, hQ⟩ : ∃ Q, Q = firstP (chkN (·.nm) srvChk) c.ss := ⟨_, rfl⟩
  rw [← hQ]
  have HQ := Lib.hid hQ
  clear hQ hS hnm
  simp only [cfc] at *
  generalize c.ss = l at *
  obtain ⟨c0, c1, c2, c3, c4, c5, c6, c7⟩ := hC
  generalize c.sA = A at *
  generalize c.sn = n at *
  generalize c.sc = cp at *
  go_enter Tryz.func24, Tryz.ntmps24
  go_upto_region 1 with fail
  rw [← hw0]
  clear hw0
  go_wp2_with fail
  go_loopw [3] (fun v3 wr => ∃ i : Nat, v3 = .int .i64 i ∧ i ≤ n ∧ Aside (∀ (j : Nat) (x : SR), j < i → l[j]? = some x → chkN (·.nm) srvChk x (l.take j) = 0) ∧ Below w0.heap.size w0 wr) (fun v3 _ => n - (intOf v3).toNat)
  case atStart => exact ⟨0, rfl, by omega, fun j x hj => absurd hj (Nat.not_lt_zero _), Below.refl _ _⟩
  case round =>
    obtain ⟨i, rfl, hi, N, bw⟩ := hrel
    have k0 := keepc bw c2
    by_cases hlt : i < n
    · have hml : i < l.length := by rw [HL.out]; exact hlt
      obtain ⟨x, hx⟩ : ∃ x, l[i]? = some x := ⟨_, List.getElem?_eq_getElem hml⟩
      obtain ⟨b, off, hA, hlb, hrow⟩ := hS0.row (by omega)
      have hcell := fun j v hv => keepc bw (hrow i x hx j v hv)
      have HX := Lib.hid hx
      have hsz := HN.out x (List.mem_of_getElem? hx)
      have hfr := (hS0.keep bw).front (i := i) (by omega)
      have NX := Lib.hid (fun (h : chkN (·.nm) srvChk x (l.take i) = 0) => (fun j y hj hy => by
          by_cases e : j = i
          · subst e; rw [hx] at hy; cases hy; exact h
          · exact N.out j y (by omega) hy : ∀ (j : Nat) (y : SR), j < i + 1 → l[j]? = some y → chkN (·.nm) srvChk y (l.take j) = 0))
      have NH := Lib.hid (fun (h : chkN (·.nm) srvChk x (l.take i) ≠ 0) => (HQ.out.trans (firstP_hit hx h N.out) : Q = chkN (·.nm) srvChk x (l.take i)))
      subst hA
      clear hrow hx N
      have cn := fun W : World => rnameB_any x.nm hsz W
      have cz := fun W (h : Below wr.heap.size wr W) => rq_srv { zA := none, zn := 0, zc := 0, zs := [], oA := none, on := 0, oc := 0, os := [], sA := some ⟨b, off, none⟩, sn := i, sc := cp, ss := (l.take i), lA := none, ln := 0, lc := 0, ls := [], tA := none, tn := 0, tc := 0, ts := [], nA := none, nn := 0, nc := 0, ns := [], uA := none, un := 0, uc := 0, us := [], dflt := 0 } x.nm (w := W) (hfr.keep h)
      have hck : chkN (·.nm) srvChk x (l.take i) = if nmB x.nm = true then (if ((l.take i).any fun y => eqs y.nm x.nm) = true then 63 else srvChk x (l.take i)) else 62 := rfl
      have htl := tail_srv x.nm
      obtain ⟨r, hr⟩ : ∃ r, r = chkN (·.nm) srvChk x (l.take i) := ⟨_, rfl⟩
      rw [← hr] at hck NX NH
      clear hr
      unfold srvChk at hck
      generalize nmB x.nm = K1 at *
      simp only [cfc] at cz
      generalize ((l.take i).any fun y => eqs y.nm x.nm) = K2 at *
      have hlti : (i : Int) < (n : Int) := by omega
      have hdn : decide (i < n) = true := by simp [hlt]
      have hic : i ≤ cp := by omega
      obtain ⟨nm, pr, fr, ti⟩ := x
      have r0 : wr.cell? ⟨b, off + i * 4, none⟩ = some (.string nm) := hcell 0 _ rfl
      have r1 := hcell 1 _ rfl
      have r2 := hcell 2 _ rfl
      have r3 := hcell 3 _ rfl
      simp only at cn cz hck htl
      go_upto_region 5 with fail
      have hbn : Below wr.heap.size wr (wr.alloc (.cells #[.string nm, .int .i64 pr, .int .i64 fr, .int .i64 ti] 64)) := Below.al (Below.refl _ _) _
      have hB := heap_alloc_new wr (.cells #[.string nm, .int .i64 pr, .int .i64 fr, .int .i64 ti] 64)
      obtain ⟨wn, hwn⟩ : ∃ x, x = wr.alloc (.cells #[.string nm, .int .i64 pr, .int .i64 fr, .int .i64 ti] 64) := ⟨_, rfl⟩
      rw [← hwn] at hbn hB ⊢
      clear hwn
      obtain ⟨P, hP⟩ : ∃ P, P = wr.heap.size := ⟨_, rfl⟩
      rw [← hP] at hB ⊢
      clear hP
      obtain ⟨p0, p1, p2, p3, _⟩ := cells4 hB
      replace k0 := keepc hbn k0
      cases K1 with
      | false =>
        have HR : Hid (r = 62) := Lib.hid (by rw [hck]; rfl)
        clear hck htl cz hfr
        go_wp2_with (first | (go_at_call 78; go_loud (with_reducible refine (cn _).mono ?_); rintro e w1 ⟨rfl, rfl⟩))
        go_ret
        exact ⟨ret_int (by rw [NH.out (by rw [HR.out]; decide), HR.out]), bel_via b0 (bel_via bw hbn)⟩
      | true =>
        try rw [htl rfl] at cz
        simp only [Bool.or_false] at cz
        clear htl
        go_upto_region 7 with (first | (go_at_call 78; go_loud (with_reducible refine (cn _).mono ?_); rintro e w1 ⟨rfl, rfl⟩))
        have g0 := cell_regrown k0
        have g1 := cell_regrown p0
        have g2 := cell_regrown p1
        have g3 := cell_regrown p2
        have g4 := cell_regrown p3
        have qz := fun d os => Calls.regrown_of (cz (grow (redrawn wn d) os) (bel_via hbn (below_regrown wn d os)))
        clear cn cz
        refine wp_region_quiet_below (by kernel_rfl) (by kernel_rfl) ?_
        repeat (first | go_big_quiet_skip | quiet_step (first | (go_at_call 84; with_reducible exact qz _ _)))
        refine wpQuiet_nil ?_
        intro _ hw'
        obtain ⟨⟨dq, osq⟩, hw''⟩ := hw'
        subst hw''
        have hbq := below_regrown wn dq osq
        obtain ⟨wq, hwy⟩ : ∃ x, x = grow (redrawn wn dq) osq := ⟨_, rfl⟩
        rw [← hwy] at hbq ⊢
        clear hwy
        replace k0 := keepc hbq k0
        replace p0 := keepc hbq p0
        replace p1 := keepc hbq p1
        replace p2 := keepc hbq p2
        replace p3 := keepc hbq p3
        clear g0 g1 g2 g3 g4 qz
        have hbz := bel_via hbn hbq
        cases K2 with
        | true =>
          have HR : Hid (r = 63) := Lib.hid (by rw [hck]; rfl)
          clear hck
          go_wp2_with fail
          go_ret
          exact ⟨ret_int (by rw [NH.out (by rw [HR.out]; decide), HR.out]), bel_via b0 (bel_via bw hbz)⟩
        | false =>
          simp only [if_true, if_false, Bool.false_eq_true] at hck
          have q1 := rwi_any pr 0 255
          have q2 := rwi_any fr 0 65535
          have q3 := rwi_any ti fr 65535
          have q4 := rpo_any pr
          generalize wiB pr 0 255 = B1 at *
          generalize wiB fr 0 65535 = B2 at *
          generalize wiB ti fr 65535 = B3 at *
          generalize portedP pr = B4 at *
          cases B1 with
          | false =>
            have HR : Hid (r = 61) := Lib.hid (by rw [hck]; simp)
            clear hck
            go_wp2_with (first | (go_at_call 80; with_reducible refine (q1 _).mono ?_; rintro e wi ⟨rfl, rfl⟩) | (go_at_call 80; with_reducible refine (q2 _).mono ?_; rintro e wi ⟨rfl, rfl⟩) | (go_at_call 80; with_reducible refine (q3 _).mono ?_; rintro e wi ⟨rfl, rfl⟩) | (go_at_call 85; with_reducible refine (q4 _).mono ?_; rintro e wi ⟨rfl, rfl⟩))
            go_ret
            exact ⟨ret_int (by rw [NH.out (by rw [HR.out]; decide), HR.out]), bel_via b0 (bel_via bw hbz)⟩
          | true =>
            cases B2 with
            | false =>
              have HR : Hid (r = 61) := Lib.hid (by rw [hck]; simp)
              clear hck
              go_wp2_with (first | (go_at_call 80; with_reducible refine (q1 _).mono ?_; rintro e wi ⟨rfl, rfl⟩) | (go_at_call 80; with_reducible refine (q2 _).mono ?_; rintro e wi ⟨rfl, rfl⟩) | (go_at_call 80; with_reducible refine (q3 _).mono ?_; rintro e wi ⟨rfl, rfl⟩) | (go_at_call 85; with_reducible refine (q4 _).mono ?_; rintro e wi ⟨rfl, rfl⟩))
              go_ret
              exact ⟨ret_int (by rw [NH.out (by rw [HR.out]; decide), HR.out]), bel_via b0 (bel_via bw hbz)⟩
            | true =>
              cases B3 with
              | false =>
                have HR : Hid (r = 61) := Lib.hid (by rw [hck]; simp)
                clear hck
                go_wp2_with (first | (go_at_call 80; with_reducible refine (q1 _).mono ?_; rintro e wi ⟨rfl, rfl⟩) | (go_at_call 80; with_reducible refine (q2 _).mono ?_; rintro e wi ⟨rfl, rfl⟩) | (go_at_call 80; with_reducible refine (q3 _).mono ?_; rintro e wi ⟨rfl, rfl⟩) | (go_at_call 85; with_reducible refine (q4 _).mono ?_; rintro e wi ⟨rfl, rfl⟩))
                go_ret
                exact ⟨ret_int (by rw [NH.out (by rw [HR.out]; decide), HR.out]), bel_via b0 (bel_via bw hbz)⟩
              | true =>
                cases B4 with
                | true =>
                  have HR : Hid (r = 0) := Lib.hid (by rw [hck]; simp)
                  clear hck
                  go_wp2_with (first | (go_at_call 80; with_reducible refine (q1 _).mono ?_; rintro e wi ⟨rfl, rfl⟩) | (go_at_call 80; with_reducible refine (q2 _).mono ?_; rintro e wi ⟨rfl, rfl⟩) | (go_at_call 80; with_reducible refine (q3 _).mono ?_; rintro e wi ⟨rfl, rfl⟩) | (go_at_call 85; with_reducible refine (q4 _).mono ?_; rintro e wi ⟨rfl, rfl⟩))
                  refine ⟨?_, by simp [intOf]; omega⟩
                  have hn1 : Aside _ := NX.out HR.out
                  first | exact ⟨i + 1, by simp, by omega, hn1, bel_via bw hbz⟩ | ((repeat apply Exists.intro); exact ⟨⟨i + 1, by simp, by omega, hn1, bel_via bw hbz⟩, rfl⟩)
                | false =>
                  by_cases hf : fr = 0
                  · subst hf
                    by_cases ht : ti = 65535
                    · subst ht
                      have HR : Hid (r = 0) := Lib.hid (by rw [hck]; simp)
                      clear hck
                      go_wp2_with (first | (go_at_call 80; with_reducible refine (q1 _).mono ?_; rintro e wi ⟨rfl, rfl⟩) | (go_at_call 80; with_reducible refine (q2 _).mono ?_; rintro e wi ⟨rfl, rfl⟩) | (go_at_call 80; with_reducible refine (q3 _).mono ?_; rintro e wi ⟨rfl, rfl⟩) | (go_at_call 85; with_reducible refine (q4 _).mono ?_; rintro e wi ⟨rfl, rfl⟩))
                      refine ⟨?_, by simp [intOf]; omega⟩
                      have hn1 : Aside _ := NX.out HR.out
                      first | exact ⟨i + 1, by simp, by omega, hn1, bel_via bw hbz⟩ | ((repeat apply Exists.intro); exact ⟨⟨i + 1, by simp, by omega, hn1, bel_via bw hbz⟩, rfl⟩)
                    · have htb : (ti != 65535) = true := by simp [ht]
                      have HR : Hid (r = 61) := Lib.hid (by rw [hck]; simp [ht])
                      clear hck
                      go_wp2_with (first | (go_at_call 80; with_reducible refine (q1 _).mono ?_; rintro e wi ⟨rfl, rfl⟩) | (go_at_call 80; with_reducible refine (q2 _).mono ?_; rintro e wi ⟨rfl, rfl⟩) | (go_at_call 80; with_reducible refine (q3 _).mono ?_; rintro e wi ⟨rfl, rfl⟩) | (go_at_call 85; with_reducible refine (q4 _).mono ?_; rintro e wi ⟨rfl, rfl⟩))
                      go_ret
                      exact ⟨ret_int (by rw [NH.out (by rw [HR.out]; decide), HR.out]), bel_via b0 (bel_via bw hbz)⟩
                  · have hfb : (fr != 0) = true := by simp [hf]
                    have HR : Hid (r = 61) := Lib.hid (by rw [hck]; simp [hf])
                    clear hck
                    go_wp2_with (first | (go_at_call 80; with_reducible refine (q1 _).mono ?_; rintro e wi ⟨rfl, rfl⟩) | (go_at_call 80; with_reducible refine (q2 _).mono ?_; rintro e wi ⟨rfl, rfl⟩) | (go_at_call 80; with_reducible refine (q3 _).mono ?_; rintro e wi ⟨rfl, rfl⟩) | (go_at_call 85; with_reducible refine (q4 _).mono ?_; rintro e wi ⟨rfl, rfl⟩))
                    go_ret
                    exact ⟨ret_int (by rw [NH.out (by rw [HR.out]; decide), HR.out]), bel_via b0 (bel_via bw hbz)⟩
    · obtain rfl : i = n := by omega
      have hd0 : decide (i < i) = false := by simp
      have hdi : decide ((i : Int) < (i : Int)) = false := by simp
      have ha : Q = 0 := by
        rw [HQ.out]
        exact firstP_all fun j x hj => N.out j x (by have := getE hj; rw [HL.out] at this; exact this) hj
      subst ha
      clear N
      go_wp2
      go_ret
      exact ⟨rfl, bel_via b0 bw⟩
end Go.Proofs.YtmnnjkdmnfadhaaGreatDoor

namespace Go.Proofs.YtmnnjkdmnfadhaaGreatDoor
open Go.Shelf Go.RowKit Go.Lib Go.Sort
set_option linter.unusedVariables false
set_option linter.unusedSimpArgs false

/-- What a name ahead says of a name that may be. -/
theorem tail_lim (key : ByteArray) (h : nmB key = true) : (key.toList.isEmpty) = false := by
  obtain ⟨h0, _, h2, _⟩ := (nmB_iff key).1 h
  cases hh : key.toList with
  | nil => have h9 := toList_len key; rw [hh] at h9; simp at h9; omega
  | cons a r => rfl
set_option maxHeartbeats 16000000 in
set_option maxRecDepth 100000 in
theorem rl_lim (c : CF) {w : World} (hS : Sl w 4 lrc c.lA c.ln c.ls) (hcap : c.ln ≤ c.lc) (hnm : ∀ x ∈ c.ls, x.nm.size ≤ 9223372036854775807) :
    Calls Tryz.prog 25 #[.agg (cfc c)] w fun e w' => e = .returned (.int .i64 (firstP (chkN (·.nm) limChk) c.ls)) ∧ Below w.heap.size w w' := by
  obtain ⟨w0, hw0⟩ : ∃ w0, w0 = w.alloc (.cells (cfc c) 30) := ⟨_, rfl⟩
  have b0 : Below w.heap.size w w0 := by rw [hw0]; exact Below.al (Below.refl _ _) _
  have hC : CfB w0 w.heap.size c := by rw [hw0]; exact CfB.made w c
  have hS0 := hS.keep b0
  have hbig := hS.big
  have HL := Lib.hid hS.len
  have HN := Lib.hid hnm
  obtain ⟨Q, hQ⟩ : ∃ Q, Q = firstP (chkN (·.nm) limChk) c.ls := ⟨_, rfl⟩
  rw [← hQ]
  have HQ := Lib.hid hQ
  clear hQ hS hnm
  simp only [cfc] at *
  generalize c.ls = l at *
  obtain ⟨c0, c1, c2, c3, c4, c5, c6, c7⟩ := hC
  generalize c.lA = A at *
  generalize c.ln = n at *
  generalize c.lc = cp at *
  go_enter Tryz.func25, Tryz.ntmps25
  go_upto_region 1 with fail
  rw [← hw0]
  clear hw0
  go_wp2_with fail
  go_loopw [3] (fun v3 wr => ∃ i : Nat, v3 = .int .i64 i ∧ i ≤ n ∧ Aside (∀ (j : Nat) (x : LR), j < i → l[j]? = some x → chkN (·.nm) limChk x (l.take j) = 0) ∧ Below w0.heap.size w0 wr) (fun v3 _ => n - (intOf v3).toNat)
  case atStart => exact ⟨0, rfl, by omega, fun j x hj => absurd hj (Nat.not_lt_zero _), Below.refl _ _⟩
  case round =>
    obtain ⟨i, rfl, hi, N, bw⟩ := hrel
    have k0 := keepc bw c3
    by_cases hlt : i < n
    · have hml : i < l.length := by rw [HL.out]; exact hlt
      obtain ⟨x, hx⟩ : ∃ x, l[i]? = some x := ⟨_, List.getElem?_eq_getElem hml⟩
      obtain ⟨b, off, hA, hlb, hrow⟩ := hS0.row (by omega)
      have hcell := fun j v hv => keepc bw (hrow i x hx j v hv)
      have HX := Lib.hid hx
      have hsz := HN.out x (List.mem_of_getElem? hx)
      have hfr := (hS0.keep bw).front (i := i) (by omega)
      have NX := Lib.hid (fun (h : chkN (·.nm) limChk x (l.take i) = 0) => (fun j y hj hy => by
          by_cases e : j = i
          · subst e; rw [hx] at hy; cases hy; exact h
          · exact N.out j y (by omega) hy : ∀ (j : Nat) (y : LR), j < i + 1 → l[j]? = some y → chkN (·.nm) limChk y (l.take j) = 0))
      have NH := Lib.hid (fun (h : chkN (·.nm) limChk x (l.take i) ≠ 0) => (HQ.out.trans (firstP_hit hx h N.out) : Q = chkN (·.nm) limChk x (l.take i)))
      subst hA
      clear hrow hx N
      have cn := fun W : World => rnameB_any x.nm hsz W
      have cz := fun W (h : Below wr.heap.size wr W) => rq_lim { zA := none, zn := 0, zc := 0, zs := [], oA := none, on := 0, oc := 0, os := [], sA := none, sn := 0, sc := 0, ss := [], lA := some ⟨b, off, none⟩, ln := i, lc := cp, ls := (l.take i), tA := none, tn := 0, tc := 0, ts := [], nA := none, nn := 0, nc := 0, ns := [], uA := none, un := 0, uc := 0, us := [], dflt := 0 } x.nm (w := W) (hfr.keep h)
      have hck : chkN (·.nm) limChk x (l.take i) = if nmB x.nm = true then (if ((l.take i).any fun y => eqs y.nm x.nm) = true then 63 else limChk x (l.take i)) else 62 := rfl
      have htl := tail_lim x.nm
      obtain ⟨r, hr⟩ : ∃ r, r = chkN (·.nm) limChk x (l.take i) := ⟨_, rfl⟩
      rw [← hr] at hck NX NH
      clear hr
      unfold limChk at hck
      generalize nmB x.nm = K1 at *
      simp only [cfc] at cz
      generalize ((l.take i).any fun y => eqs y.nm x.nm) = K2 at *
      have hlti : (i : Int) < (n : Int) := by omega
      have hdn : decide (i < n) = true := by simp [hlt]
      have hic : i ≤ cp := by omega
      obtain ⟨nm, ra, bu, sg⟩ := x
      have r0 : wr.cell? ⟨b, off + i * 4, none⟩ = some (.string nm) := hcell 0 _ rfl
      have r1 := hcell 1 _ rfl
      have r2 := hcell 2 _ rfl
      have r3 := hcell 3 _ rfl
      simp only at cn cz hck htl
      go_upto_region 5 with fail
      have hbn : Below wr.heap.size wr (wr.alloc (.cells #[.string nm, .int .i64 ra, .int .i64 bu, .bool sg] 66)) := Below.al (Below.refl _ _) _
      have hB := heap_alloc_new wr (.cells #[.string nm, .int .i64 ra, .int .i64 bu, .bool sg] 66)
      obtain ⟨wn, hwn⟩ : ∃ x, x = wr.alloc (.cells #[.string nm, .int .i64 ra, .int .i64 bu, .bool sg] 66) := ⟨_, rfl⟩
      rw [← hwn] at hbn hB ⊢
      clear hwn
      obtain ⟨P, hP⟩ : ∃ P, P = wr.heap.size := ⟨_, rfl⟩
      rw [← hP] at hB ⊢
      clear hP
      obtain ⟨p0, p1, p2, p3, _⟩ := cells4 hB
      replace k0 := keepc hbn k0
      cases K1 with
      | false =>
        have HR : Hid (r = 62) := Lib.hid (by rw [hck]; rfl)
        clear hck htl cz hfr
        go_wp2_with (first | (go_at_call 78; go_loud (with_reducible refine (cn _).mono ?_); rintro e w1 ⟨rfl, rfl⟩))
        go_ret
        exact ⟨ret_int (by rw [NH.out (by rw [HR.out]; decide), HR.out]), bel_via b0 (bel_via bw hbn)⟩
      | true =>
        try rw [htl rfl] at cz
        simp only [Bool.or_false] at cz
        clear htl
        go_upto_region 7 with (first | (go_at_call 78; go_loud (with_reducible refine (cn _).mono ?_); rintro e w1 ⟨rfl, rfl⟩))
        have g0 := cell_regrown k0
        have g1 := cell_regrown p0
        have g2 := cell_regrown p1
        have g3 := cell_regrown p2
        have g4 := cell_regrown p3
        have qz := fun d os => Calls.regrown_of (cz (grow (redrawn wn d) os) (bel_via hbn (below_regrown wn d os)))
        clear cn cz
        refine wp_region_quiet_below (by kernel_rfl) (by kernel_rfl) ?_
        repeat (first | go_big_quiet_skip | quiet_step (first | (go_at_call 86; with_reducible exact qz _ _)))
        refine wpQuiet_nil ?_
        intro _ hw'
        obtain ⟨⟨dq, osq⟩, hw''⟩ := hw'
        subst hw''
        have hbq := below_regrown wn dq osq
        obtain ⟨wq, hwy⟩ : ∃ x, x = grow (redrawn wn dq) osq := ⟨_, rfl⟩
        rw [← hwy] at hbq ⊢
        clear hwy
        replace k0 := keepc hbq k0
        replace p0 := keepc hbq p0
        replace p1 := keepc hbq p1
        replace p2 := keepc hbq p2
        replace p3 := keepc hbq p3
        clear g0 g1 g2 g3 g4 qz
        have hbz := bel_via hbn hbq
        cases K2 with
        | true =>
          have HR : Hid (r = 63) := Lib.hid (by rw [hck]; rfl)
          clear hck
          go_wp2_with fail
          go_ret
          exact ⟨ret_int (by rw [NH.out (by rw [HR.out]; decide), HR.out]), bel_via b0 (bel_via bw hbz)⟩
        | false =>
          simp only [if_true, if_false, Bool.false_eq_true] at hck
          have q1 := rwi_any ra 0 1048576
          have q2 := rwi_any bu 1 1048576
          generalize wiB ra 0 1048576 = B1 at *
          generalize wiB bu 1 1048576 = B2 at *
          cases B1 with
          | false =>
            have HR : Hid (r = 61) := Lib.hid (by rw [hck]; simp)
            clear hck
            go_wp2_with (first | (go_at_call 80; with_reducible refine (q1 _).mono ?_; rintro e wi ⟨rfl, rfl⟩) | (go_at_call 80; with_reducible refine (q2 _).mono ?_; rintro e wi ⟨rfl, rfl⟩))
            go_ret
            exact ⟨ret_int (by rw [NH.out (by rw [HR.out]; decide), HR.out]), bel_via b0 (bel_via bw hbz)⟩
          | true =>
            cases B2 with
            | false =>
              have HR : Hid (r = 61) := Lib.hid (by rw [hck]; simp)
              clear hck
              go_wp2_with (first | (go_at_call 80; with_reducible refine (q1 _).mono ?_; rintro e wi ⟨rfl, rfl⟩) | (go_at_call 80; with_reducible refine (q2 _).mono ?_; rintro e wi ⟨rfl, rfl⟩))
              go_ret
              exact ⟨ret_int (by rw [NH.out (by rw [HR.out]; decide), HR.out]), bel_via b0 (bel_via bw hbz)⟩
            | true =>
              have HR : Hid (r = 0) := Lib.hid (by rw [hck]; simp)
              clear hck
              go_wp2_with (first | (go_at_call 80; with_reducible refine (q1 _).mono ?_; rintro e wi ⟨rfl, rfl⟩) | (go_at_call 80; with_reducible refine (q2 _).mono ?_; rintro e wi ⟨rfl, rfl⟩))
              refine ⟨?_, by simp [intOf]; omega⟩
              have hn1 : Aside _ := NX.out HR.out
              first | exact ⟨i + 1, by simp, by omega, hn1, bel_via bw hbz⟩ | ((repeat apply Exists.intro); exact ⟨⟨i + 1, by simp, by omega, hn1, bel_via bw hbz⟩, rfl⟩)
    · obtain rfl : i = n := by omega
      have hd0 : decide (i < i) = false := by simp
      have hdi : decide ((i : Int) < (i : Int)) = false := by simp
      have ha : Q = 0 := by
        rw [HQ.out]
        exact firstP_all fun j x hj => N.out j x (by have := getE hj; rw [HL.out] at this; exact this) hj
      subst ha
      clear N
      go_wp2
      go_ret
      exact ⟨rfl, bel_via b0 bw⟩
end Go.Proofs.YtmnnjkdmnfadhaaGreatDoor

namespace Go.Proofs.YtmnnjkdmnfadhaaGreatDoor
open Go.Shelf Go.RowKit Go.Lib Go.Sort
set_option linter.unusedVariables false
set_option linter.unusedSimpArgs false

set_option maxHeartbeats 16000000 in
set_option maxRecDepth 100000 in
theorem rl_rte (c : CF) {w : World} (hS : Sl w 6 trc c.tA c.tn c.ts) (hz : Sl w 4 zrc c.zA c.zn c.zs) (hzi : ∀ z ∈ c.zs, Sl w 1 (fun x : Int => [Value.int .i64 x]) z.ia z.il z.ifs) (htw : ∀ t ∈ c.ts, RW t.r ∧ SW t.bits) :
    Calls Tryz.prog 26 #[.agg (cfc c)] w fun e w' => e = .returned (.int .i64 (firstP (rteChk c) c.ts)) ∧ Below w.heap.size w w' := by
  obtain ⟨w0, hw0⟩ : ∃ w0, w0 = w.alloc (.cells (cfc c) 30) := ⟨_, rfl⟩
  have b0 : Below w.heap.size w w0 := by rw [hw0]; exact Below.al (Below.refl _ _) _
  have hC : CfB w0 w.heap.size c := by rw [hw0]; exact CfB.made w c
  have hS0 := hS.keep b0
  have ch := fun (n : Int) (W : World) (h : Below w0.heap.size w0 W) => rif_any c.zA c.zn c.zc c.zs n (w := W) ((hz.keep b0).keep h) (fun z h2 => ((hzi z h2).keep b0).keep h)
  have hbig := hS.big
  have HL := Lib.hid hS.len
  have HTW := Lib.hid htw
  obtain ⟨Q, hQ⟩ : ∃ Q, Q = firstP (rteChk c) c.ts := ⟨_, rfl⟩
  rw [← hQ]
  have HQ := Lib.hid hQ
  clear hQ hS hz hzi htw
  simp only [cfc] at *
  obtain ⟨chk, hchk⟩ : ∃ f, f = rteChk c := ⟨_, rfl⟩
  have hcd : ∀ x l, chk x l = rteChk c x l := fun x l => by rw [hchk]
  rw [← hchk] at HQ
  clear hchk
  unfold rteChk at hcd
  have HCD := Lib.hid hcd
  clear hcd
  generalize c.ts = l at *
  generalize hzz : c.zs = zs at *
  clear hzz
  obtain ⟨c0, c1, c2, c3, c4, c5, c6, c7⟩ := hC
  generalize c.tA = A at *
  generalize c.tn = n at *
  go_enter Tryz.func26, Tryz.ntmps26
  go_upto_region 1 with fail
  rw [← hw0]
  clear hw0
  go_wp2_with fail
  go_loopw [3] (fun v3 wr => ∃ i : Nat, v3 = .int .i64 i ∧ i ≤ n ∧ Aside (∀ (j : Nat) (x : TR), j < i → l[j]? = some x → chk x (l.take j) = 0) ∧ Below w0.heap.size w0 wr) (fun v3 _ => n - (intOf v3).toNat)
  case atStart => exact ⟨0, rfl, by omega, fun j x hj => absurd hj (Nat.not_lt_zero _), Below.refl _ _⟩
  case round =>
    obtain ⟨i, rfl, hi, N, bw⟩ := hrel
    have k4 := keepc bw c4
    have k0 := keepc bw c0
    by_cases hlt : i < n
    · have hml : i < l.length := by rw [HL.out]; exact hlt
      obtain ⟨x, hx⟩ : ∃ x, l[i]? = some x := ⟨_, List.getElem?_eq_getElem hml⟩
      obtain ⟨b, off, hA, hlb, hrow⟩ := hS0.row (by omega)
      have HROW := Lib.hid (fun (j : Nat) (y : TR) (hy : l[j]? = some y) (t : Nat) (v : Value) (hv : (trc y)[t]? = some v) => keepc bw (hrow j y hy t v hv))
      have hcell := fun j v hv => keepc bw (hrow i x hx j v hv)
      have HX := Lib.hid hx
      have hxw := HTW.out x (List.mem_of_getElem? hx)
      have NX := Lib.hid (fun (h : chk x (l.take i) = 0) => (fun j y hj hy => by
          by_cases e : j = i
          · subst e; rw [hx] at hy; cases hy; exact h
          · exact N.out j y (by omega) hy : ∀ (j : Nat) (y : TR), j < i + 1 → l[j]? = some y → chk y (l.take j) = 0))
      have NH := Lib.hid (fun (h : chk x (l.take i) ≠ 0) => (HQ.out.trans (firstP_hit hx h N.out) : Q = chk x (l.take i)))
      subst hA
      clear hrow hx N
      have hck := HCD.out x (l.take i)
      obtain ⟨r, hr⟩ : ∃ r, r = chk x (l.take i) := ⟨_, rfl⟩
      rw [← hr] at hck NX NH
      clear hr
      have cp1 := fun (w : World) => rpre_any x.r.fh x.r.fl x.bits hxw.1.1 hxw.1.2.1 hxw.2.1 hxw.2.2 w
      have chx := fun (W : World) (h : Below w0.heap.size w0 W) => ch x.ifc W h
      have nr : ∀ (y : Int × Int) (w : World), _ := fun y w => neq_rng ⟨x.r.fh, x.r.fl, y.1, y.2⟩ x.r w
      unfold preR at hck
      unfold preT at cp1
      generalize preV x.r.fh x.r.fl x.bits = PV at *
      generalize hasIf zs x.ifc = H at *
      have hlti : (i : Int) < (n : Int) := by omega
      have hdn : decide (i < n) = true := by simp [hlt]
      obtain ⟨X, hXX⟩ : ∃ X, X = x.r := ⟨_, rfl⟩
      have HXR := Lib.hid hXX
      obtain ⟨⟨fh, fl, th, tl⟩, bi, fc⟩ := x
      simp only at HXR hXX
      have r0 : wr.cell? ⟨b, off + i * 6, none⟩ = some (.int .u64 fh) := hcell 0 _ rfl
      have r1 := hcell 1 _ rfl
      have r2 := hcell 2 _ rfl
      have r3 := hcell 3 _ rfl
      have r4 := hcell 4 _ rfl
      have r5 := hcell 5 _ rfl
      simp only at cp1 hck chx nr
      go_upto_region 5 with fail
      have hbn : Below wr.heap.size wr (wr.alloc (.cells #[.int .u64 fh, .int .u64 fl, .int .u64 th, .int .u64 tl, .int .i64 bi, .int .i64 fc] 109)) := Below.al (Below.refl _ _) _
      have hB := heap_alloc_new wr (.cells #[.int .u64 fh, .int .u64 fl, .int .u64 th, .int .u64 tl, .int .i64 bi, .int .i64 fc] 109)
      obtain ⟨wn, hwn⟩ : ∃ x, x = wr.alloc (.cells #[.int .u64 fh, .int .u64 fl, .int .u64 th, .int .u64 tl, .int .i64 bi, .int .i64 fc] 109) := ⟨_, rfl⟩
      rw [← hwn] at hbn hB ⊢
      clear hwn
      obtain ⟨P, hP⟩ : ∃ P, P = wr.heap.size := ⟨_, rfl⟩
      rw [← hP] at hB ⊢
      clear hP
      obtain ⟨p0, p1, p2, p3, p4, p5, _⟩ := cells6 hB
      replace k0 := keepc hbn k0
      replace k4 := keepc hbn k4
      have bwn := bel_via bw hbn
      cases PV with
      | none =>
        have HR : Hid (r = 31) := Lib.hid (by rw [hck]; simp)
        clear hck
        go_wp2_with (go_at_call 87; go_loud (with_reducible refine (cp1 _).mono ?_); rintro e w1 ⟨rfl, hb1⟩)
        go_ret
        exact ⟨ret_int (by rw [NH.out (by rw [HR.out]; decide), HR.out]), bel_via b0 (by repeat (first | exact bel_via bwn hb1 | apply Below.al))⟩
      | some y =>
        obtain ⟨y1, y2⟩ := y
        have nv := fun w => nr (y1, y2) w
        simp only at nv cp1 hck
        clear nr
        rcases Bool.eq_false_or_eq_true (eqR ⟨fh, fl, y1, y2⟩ ⟨fh, fl, th, tl⟩) with hE | hE <;> simp only [hE] at nv hck <;> clear hE
        · go_upto_region 6 with (go_at_call 87; go_loud (with_reducible refine (cp1 _).mono ?_); rintro e w1 ⟨rfl, hb1⟩)
          have ba := Below.al (Below.refl w1.heap.size w1) (.cells #[.int .u64 fh, .int .u64 fl, .int .u64 y1, .int .u64 y2] 45)
          have hY := heap_alloc_new w1 (.cells #[.int .u64 fh, .int .u64 fl, .int .u64 y1, .int .u64 y2] 45)
          have bw2 : Below w0.heap.size w0 (w1.alloc (.cells #[.int .u64 fh, .int .u64 fl, .int .u64 y1, .int .u64 y2] 45)) := bel_via (bel_via bwn hb1) ba
          have bq2 : Below wr.heap.size wr (w1.alloc (.cells #[.int .u64 fh, .int .u64 fl, .int .u64 y1, .int .u64 y2] 45)) := bel_via (bel_via hbn hb1) ba
          have q0 := keepc ba (keepc hb1 p0)
          have q1 := keepc ba (keepc hb1 p1)
          have q2 := keepc ba (keepc hb1 p2)
          have q3 := keepc ba (keepc hb1 p3)
          have q4 := keepc ba (keepc hb1 p4)
          have q5 := keepc ba (keepc hb1 p5)
          replace k0 := keepc ba (keepc hb1 k0)
          replace k4 := keepc ba (keepc hb1 k4)
          obtain ⟨w2, hw2⟩ : ∃ w2, w2 = w1.alloc (.cells #[.int .u64 fh, .int .u64 fl, .int .u64 y1, .int .u64 y2] 45) := ⟨_, rfl⟩
          rw [← hw2] at bw2 bq2 hY k0 k4 q0 q1 q2 q3 q4 q5 ⊢
          clear hw2 ba p0 p1 p2 p3 p4 p5
          obtain ⟨z0, z1, z2, z3, _⟩ := cells4 hY
          simp only [if_true] at hck
          cases H with
          | false =>
            have HR : Hid (r = 61) := Lib.hid (by rw [hck]; simp)
            clear hck
            go_wp2_with (go_at_call 81; go_loud (with_reducible refine (chx _ bw2).mono ?_); rintro e w3 ⟨rfl, hb3⟩)
            go_ret
            exact ⟨ret_int (by rw [NH.out (by rw [HR.out]; decide), HR.out]), bel_via b0 (bel_via bw2 hb3)⟩
          | true =>
            simp only [if_true] at hck
            have HCK := Lib.hid hck
            clear hck
            go_upto_region 10 with (go_at_call 81; go_loud (with_reducible refine (chx _ bw2).mono ?_); rintro e w3 ⟨rfl, hb3⟩)
            have bw3 := bel_via bw2 hb3
            have bq3 := bel_via bq2 hb3
            have m0 := keepc hb3 q0
            have m1 := keepc hb3 q1
            have m2 := keepc hb3 q2
            have m3 := keepc hb3 q3
            have m4 := keepc hb3 k4
            clear k0 k4 q0 q1 q2 q3 q4 q5 z0 z1 z2 z3 nv cp1 chx hb3 bw2 bq2 hY
            go_wp2_with fail
            obtain ⟨w4, hw4⟩ : ∃ x, x = w3 := ⟨_, rfl⟩
            subst hw4
            go_loopw [7] (fun v7 wr => ∃ k : Nat, v7 = .int .i64 k ∧ k ≤ i ∧ Aside (∀ (j : Nat) (y : TR), j < k → l[j]? = some y → eqR y.r X = false) ∧ Below w4.heap.size w4 wr) (fun v7 _ => i - (intOf v7).toNat)
            case atStart => exact ⟨0, rfl, by omega, fun j x hj => absurd hj (Nat.not_lt_zero _), Below.refl _ _⟩
            case round =>
              obtain ⟨k, rfl, hk, N2, bk⟩ := hrel
              by_cases hlk : k < i
              · have hmk : k < l.length := by omega
                obtain ⟨y, hy⟩ : ∃ y, l[k]? = some y := ⟨_, List.getElem?_eq_getElem hmk⟩
                have HY := Lib.hid hy
                have s0 := keepc bk (keepc bq3 (HROW.out k y hy 0 _ rfl))
                have s1 := keepc bk (keepc bq3 (HROW.out k y hy 1 _ rfl))
                have s2 := keepc bk (keepc bq3 (HROW.out k y hy 2 _ rfl))
                have s3 := keepc bk (keepc bq3 (HROW.out k y hy 3 _ rfl))
                simp only [Nat.add_zero] at s0
                have ev := fun W : World => eql_rng y.r ⟨fh, fl, th, tl⟩ W
                have HEE : Hid (eqR y.r X = eqR y.r ⟨fh, fl, th, tl⟩) := Lib.hid (by rw [HXR.out])
                generalize eqR y.r ⟨fh, fl, th, tl⟩ = E at *
                obtain ⟨⟨yfh, yfl, yth, ytl⟩, ybi, yfc⟩ := y
                simp only at ev s0 s1 s2 s3
                have g0 := cell_regrown s0
                have g1 := cell_regrown s1
                have g2 := cell_regrown s2
                have g3 := cell_regrown s3
                have g4 := cell_regrown (keepc bk m0)
                have g5 := cell_regrown (keepc bk m1)
                have g6 := cell_regrown (keepc bk m2)
                have g7 := cell_regrown (keepc bk m3)
                have g8 := cell_regrown (keepc bk m4)
                have hlki : (k : Int) < (i : Int) := by omega
                have hdk : decide (k < i) = true := by simp [hlk]
                have hkn : k < n := by omega
                have hkni : (k : Int) < (n : Int) := by omega
                clear hy s0 s1 s2 s3
                go_wp2_with fail
                refine wp_region_quiet_below (by kernel_rfl) (by kernel_rfl) ?_
                repeat (first | go_big_quiet_skip | quiet_step (fail))
                refine wpQuiet_nil ?_
                intro _ hw'
                obtain ⟨⟨dq, osq⟩, hw''⟩ := hw'
                subst hw''
                have hbq := below_regrown wr dq osq
                obtain ⟨wv, hwy⟩ : ∃ x, x = grow (redrawn wr dq) osq := ⟨_, rfl⟩
                rw [← hwy] at hbq ⊢
                clear hwy
                clear g0 g1 g2 g3 g4 g5 g6 g7 g8 ev
                cases E with
                | true =>
                  have HR : Hid (r = 63) := Lib.hid (by
                    rw [HCK.out, if_pos]
                    rw [List.any_eq_true]
                    exact ⟨_, List.mem_of_getElem? (by rw [List.getElem?_take_of_lt hlk]; exact HY.out), by rw [← HXR.out]; exact HEE.out⟩)
                  go_wp2_with fail
                  go_ret
                  exact ⟨ret_int (by rw [NH.out (by rw [HR.out]; decide), HR.out]), bel_via b0 (bel_via bw3 (bel_via bk hbq))⟩
                | false =>
                  go_wp2_with fail
                  refine ⟨?_, by simp [intOf]; omega⟩
                  have hn1 : Aside (∀ (j : Nat) (y : TR), j < k + 1 → l[j]? = some y → eqR y.r X = false) := fun j u hj hu => by
                    by_cases e : j = k
                    · subst e; rw [HY.out] at hu; cases hu; exact HEE.out
                    · exact N2.out j u (by omega) hu
                  first | exact ⟨k + 1, by simp, by omega, hn1, bel_via bk hbq⟩ | ((repeat apply Exists.intro); exact ⟨⟨k + 1, by simp, by omega, hn1, bel_via bk hbq⟩, rfl⟩)
              · obtain rfl : k = i := by omega
                have hd0k : decide (k < k) = false := by simp
                have hdik : decide ((k : Int) < (k : Int)) = false := by simp
                have HR : Hid (r = 0) := Lib.hid (by
                  rw [HCK.out, if_neg]
                  rw [any_none (find_miss fun j y hj => by
                    have hjk : j < k := by have := getE hj; simp at this; omega
                    rw [List.getElem?_take_of_lt hjk] at hj
                    have := N2.out j y hjk hj
                    rw [HXR.out] at this; exact this)]
                  simp)
                go_wp2_with fail
                refine ⟨?_, by simp [intOf]; omega⟩
                have hn1 : Aside _ := NX.out HR.out
                first | exact ⟨k + 1, by simp, by omega, hn1, bel_via bw3 bk⟩ | ((repeat apply Exists.intro); exact ⟨⟨k + 1, by simp, by omega, hn1, bel_via bw3 bk⟩, rfl⟩)
        · go_upto_region 6 with (go_at_call 87; go_loud (with_reducible refine (cp1 _).mono ?_); rintro e w1 ⟨rfl, hb1⟩)
          have ba := Below.al (Below.refl w1.heap.size w1) (.cells #[.int .u64 fh, .int .u64 fl, .int .u64 y1, .int .u64 y2] 45)
          have hY := heap_alloc_new w1 (.cells #[.int .u64 fh, .int .u64 fl, .int .u64 y1, .int .u64 y2] 45)
          have bw2 : Below w0.heap.size w0 (w1.alloc (.cells #[.int .u64 fh, .int .u64 fl, .int .u64 y1, .int .u64 y2] 45)) := bel_via (bel_via bwn hb1) ba
          have bq2 : Below wr.heap.size wr (w1.alloc (.cells #[.int .u64 fh, .int .u64 fl, .int .u64 y1, .int .u64 y2] 45)) := bel_via (bel_via hbn hb1) ba
          have q0 := keepc ba (keepc hb1 p0)
          have q1 := keepc ba (keepc hb1 p1)
          have q2 := keepc ba (keepc hb1 p2)
          have q3 := keepc ba (keepc hb1 p3)
          have q4 := keepc ba (keepc hb1 p4)
          have q5 := keepc ba (keepc hb1 p5)
          replace k0 := keepc ba (keepc hb1 k0)
          replace k4 := keepc ba (keepc hb1 k4)
          obtain ⟨w2, hw2⟩ : ∃ w2, w2 = w1.alloc (.cells #[.int .u64 fh, .int .u64 fl, .int .u64 y1, .int .u64 y2] 45) := ⟨_, rfl⟩
          rw [← hw2] at bw2 bq2 hY k0 k4 q0 q1 q2 q3 q4 q5 ⊢
          clear hw2 ba p0 p1 p2 p3 p4 p5
          obtain ⟨z0, z1, z2, z3, _⟩ := cells4 hY
          have HR : Hid (r = 31) := Lib.hid (by rw [hck]; simp)
          clear hck
          go_wp2_with fail
          go_ret
          exact ⟨ret_int (by rw [NH.out (by rw [HR.out]; decide), HR.out]), bel_via b0 bw2⟩
    · obtain rfl : i = n := by omega
      have hd0 : decide (i < i) = false := by simp
      have hdi : decide ((i : Int) < (i : Int)) = false := by simp
      have ha : Q = 0 := by
        rw [HQ.out]
        exact firstP_all fun j x hj => N.out j x (by have := getE hj; rw [HL.out] at this; exact this) hj
      subst ha
      clear N
      go_wp2
      go_ret
      exact ⟨rfl, bel_via b0 bw⟩
end Go.Proofs.YtmnnjkdmnfadhaaGreatDoor
