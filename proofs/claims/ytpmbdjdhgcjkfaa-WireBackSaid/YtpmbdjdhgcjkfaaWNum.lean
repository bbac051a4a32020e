/- Rows of bytes as numbers, and check sums: the program's, and the document's; by-name template. -/
import Derived.Test.YtpmbdjdhgcjkfaaWSum
import Derived.Test.YtpmbdjdhgcjkfaaRows
import Derived.WalkKit
import Derived.WalkSpells
import Derived.LoopTactic
import Derived.Lib.Hide
import Derived.Below
import Derived.BigQuiet
import Derived.Outline
import Derived.Laws.Rows
import Derived.Deep.QuietTactic
import Derived.Laws.BitsLemmas
import Derived.Laws.Bits64b
import Derived.IntWalk
import Derived.Deep.DeepFit
namespace Go.Proofs.Ytpmbdjdhgcjkfaa
open Go.RowKit
set_option linter.unusedVariables false
set_option linter.unusedSimpArgs false

theorem Below.al {w w' : World} (h : Below w.heap.size w w') (o : Obj) : Below w.heap.size w (w'.alloc o) := h.alloc h.size o
theorem Below.dr {B : Nat} {w w' : World} (h : Below B w w') : Below B w w'.drew := h.drew
theorem bel_via {w w1 w2 : World} (h : Below w.heap.size w w1) (k : Below w1.heap.size w1 w2) : Below w.heap.size w w2 := h.trans (k.mono h.size)
theorem keepc {w0 w' : World} (h : Below w0.heap.size w0 w') {p : Addr} {v : Value} (hc : w0.cell? p = some v) : w'.cell? p = some v := by
  rw [h.cell (World.block_lt_of_cell? _ _ hc)]; exact hc

/-- The cells from g, o on hold these bytes. -/
def Byt (w : World) (g o : Nat) (l : List UInt8) : Prop := ∀ (k : Nat) (x : UInt8), l[k]? = some x → w.cell? ⟨g, o + k, none⟩ = some (.int .u8 (x.toNat : Nat))

theorem Byt.below {w w' : World} {g o : Nat} {l : List UInt8} (h : Byt w g o l) (hb : Below w.heap.size w w') : Byt w' g o l := fun k x hx => keepc hb (h k x hx)
theorem Byt.sub {w : World} {g o : Nat} {l : List UInt8} (h : Byt w g o l) (f m : Nat) : Byt w g (o + f) ((l.drop f).take m) := fun k x hx => by
  rw [List.getElem?_take] at hx
  split at hx
  · rw [List.getElem?_drop] at hx
    have := h (f + k) x hx
    rw [Nat.add_assoc]; exact this
  · cases hx

theorem ret_k {k : IntKind} {a b : Int} (h : a = b) : Ending.returned (.int k a) = .returned (.int k b) := by rw [h]

theorem orU8 (x y : Int) (h0 : 0 ≤ x) (h1 : x < 72057594037927936) (k0 : 0 ≤ y) (k : y < 256) : bits .or .u64 (x * 256) y = x * 256 + y :=
  bits_join .u64 64 (Nat.le_refl _) (fun n h0 h1 => by rw [IntKind.wrap_u64]; omega) 8 (x * 256) y (by omega) (by omega) (by omega) k0 k (by omega)

theorem cut_lh (g o n c l h : Nat) (h1 : l ≤ h) (h2 : h ≤ c) (h3 : l < c) (hc : c ≤ 9223372036854775807) : ∀ W, (Instr.slice 22 (.slice (some ⟨g, o, none⟩) n c) (some (.int .i64 (l : Nat))) (some (.int .i64 (h : Nat))) none).run Try.prog W = .ok (.slice (some ⟨g, o + l, none⟩) (h - l) (c - l)) W := by
  intro W
  have hs : (sizeOf (Try.prog.elem 22)).run Try.prog W = .ok 1 W := by kernel_rfl
  rw [run_slice_lh W 22 (some ⟨g, o, none⟩) n c (by kernel_rfl) .i64 .i64 (l : Nat) (h : Nat) (by omega) (by omega) (by omega), hs]
  simp only [Result.andThen, sliced, Int.toNat_natCast, Nat.mul_one]
  rw [if_neg (by omega)]
  have e : (⟨g, o, none⟩ : Addr).add l = ⟨g, o + l, none⟩ := by unfold Addr.add; split <;> simp_all
  rw [Option.map_some, e]

set_option maxHeartbeats 1000000 in
/-- number: a row of at most eight bytes as a number. -/
theorem number_any (g o c n : Nat) (l : List UInt8) (hn : l.length = n) (h8 : n ≤ 8) {w : World} (hb : Byt w g o l) :
    Calls Try.prog 69 #[.slice (some ⟨g, o, none⟩) n c] w fun e w' => e = .returned (.int .u64 (numB l : Nat)) ∧ w = w' := by
  have HB := Lib.hid hb
  have HN := Lib.hid hn
  clear hb hn
  have hni : (n : Int) ≤ 8 := by omega
  go_enter Try.func69, Try.ntmps69
  go_wp2
  go_loopw [3, 8] (fun v3 v8 wr => ∃ (k m : Nat), v3 = .int .u64 m ∧ v8 = .int .i64 k ∧ k ≤ n ∧ m < 256 ^ k ∧ wr = w ∧ Hid (m = numB (l.take k))) (fun _ v8 _ => n - (intOf v8).toNat)
  case atStart => exact ⟨0, 0, rfl, rfl, by omega, by simp, rfl, Lib.hid (by simp [numB])⟩
  case round =>
    obtain ⟨k, m, rfl, rfl, hk, hm, hw, hh⟩ := hrel
    subst hw
    by_cases hlt : k < n
    · obtain ⟨x, hx⟩ : ∃ x, l[k]? = some x := ⟨l[k]'(by have := HN.out; omega), List.getElem?_eq_getElem _⟩
      have hc := HB.out k x hx
      have hki : (k : Int) < (n : Int) := by omega
      have hm7 : m < 72057594037927936 := Nat.lt_of_lt_of_le hm (Nat.le_trans (Nat.pow_le_pow_right (by omega) (show k ≤ 7 by omega)) (by decide))
      have hx8 := x.toNat_lt
      have hmi : (m : Int) < 72057594037927936 := by omega
      have e1 : numB (l.take (k + 1)) = numB (l.take k) * 256 + x.toNat := by rw [List.take_add_one, hx, Option.toList_some, numB_snoc]
      have H2 : Hid (m * 256 + x.toNat = numB (l.take (k + 1))) := Lib.hid (by rw [e1, hh.out])
      have hp : m * 256 + x.toNat < 256 ^ (k + 1) := by
        rw [Nat.pow_succ]; have := Nat.mul_le_mul_right 256 hm; omega
      clear hx e1 hh
      generalize x.toNat = X at hc hx8 H2 hp
      have hX : (X : Int) < 256 := by omega
      have ho := orU8 (m : Int) (X : Int) (by omega) hmi (by omega) hX
      go_wp2
      exact ⟨⟨k + 1, m * 256 + X, by simp, by simp, by omega, hp, trivial, H2⟩, by simp [intOf]; omega⟩
    · have hkn : k = n := by omega
      have hki : decide ((k : Int) < (n : Int)) = false := by simp; omega
      have e : m = numB l := by rw [hh.out, List.take_of_length_le (by have := HN.out; omega)]
      have H2 := Lib.hid e
      clear e hh hkn
      go_wp2
      go_ret
      exact ⟨by rw [H2.out]; rfl, rfl⟩


/-- fold: what stands above is added below. -/
theorem fold_any (n : Nat) (hn : n < 68719476736) (w : World) :
    Calls Try.prog 51 #[.int .u64 (n : Nat)] w fun e w' => e = .returned (.int .i64 ((65535 - f16 n : Nat) : Int)) ∧ w = w' := by
  have ha : ∀ u : Nat, u < 68719476736 → bits .and .u64 (u : Int) 65535 = ((u % 65536 : Nat) : Int) := by
    intro u hu
    have := bits_mask .u64 64 (Nat.le_refl _) (fun n h0 h1 => by rw [IntKind.wrap_u64]; omega) 16 (by omega) (u : Int) (by omega) (by omega)
    have e : (2 : Int) ^ 16 - 1 = 65535 := by decide
    rw [e] at this
    rw [this]; omega
  have HA := Lib.hid ha
  clear ha
  obtain ⟨R, hR⟩ : ∃ R, R = f16 n := ⟨_, rfl⟩
  have hle : R ≤ 65535 := by rw [hR]; exact f16_le n
  rw [← hR]
  have HR := Lib.hid hR
  clear hR
  go_enter Try.func51, Try.ntmps51
  go_wp2
  go_loopw [0] (fun v0 wr => ∃ u : Nat, v0 = .int .u64 u ∧ u < 68719476736 ∧ wr = w ∧ Hid (R = f16 u)) (fun v0 _ => (intOf v0).toNat)
  case atStart => exact ⟨n, rfl, hn, rfl, HR⟩
  case round =>
    obtain ⟨u, rfl, hu, hw, hh⟩ := hrel
    subst hw
    have e := hh.out
    clear HR hh
    by_cases h : 65535 < u
    · have hi : (65535 : Int) < (u : Int) := by omega
      have hui : (u : Int) < 68719476736 := by omega
      have hm := HA.out u hu
      rw [f16, if_neg (by omega)] at e
      have H2 := Lib.hid e
      clear e
      obtain ⟨r, hr⟩ : ∃ r, r = u % 65536 := ⟨_, rfl⟩
      have hr2 : r < 65536 := by omega
      have hri : (r : Int) < 65536 := by omega
      have hlt : u / 65536 + r < u := by omega
      rw [← hr] at hm H2
      clear hr
      go_wp2
      exact ⟨⟨u / 65536 + r, by simp, by omega, trivial, H2⟩, by simp [intOf]; omega⟩
    · have hi : decide ((65535 : Int) < (u : Int)) = false := by simp; omega
      rw [f16, if_pos (by omega)] at e
      have hui : (u : Int) ≤ 65535 := by omega
      have H2 := Lib.hid e
      clear e
      go_wp2
      go_ret
      exact ⟨ret_k (by have := H2.out; omega), rfl⟩

set_option maxHeartbeats 1000000 in
/-- words: the words of two bytes, added up. -/
theorem words_any (g o c n : Nat) (l : List UInt8) (hn : l.length = n) (hc : n ≤ c) (hcm : c ≤ 9223372036854775807) (hm : n ≤ 1048576) {w : World} (hb : Byt w g o l) :
    Calls Try.prog 52 #[.slice (some ⟨g, o, none⟩) n c] w fun e w' => e = .returned (.int .u64 (w16 l : Nat)) ∧ w = w' := by
  have HB := Lib.hid hb
  have HN := Lib.hid hn
  clear hb hn
  have hni : (n : Int) ≤ 1048576 := by omega
  have hwl := w16_le l
  rw [HN.out] at hwl
  have hq : (n : Int) / 2 = ((n / 2 : Nat) : Int) := by omega
  obtain ⟨m, hm2⟩ : ∃ m, m = n / 2 := ⟨_, rfl⟩
  have hmn : m ≤ 524288 := by omega
  have hmi : (m : Int) ≤ 524288 := by omega
  have h2m : 2 * m ≤ n := by omega
  rw [← hm2] at hq
  have HM := Lib.hid hm2
  clear hm2
  have hpre : ∀ k, 2 * k ≤ n → w16 (l.take (2 * k)) ≤ 65535 * (2 * k) := by
    intro k hk
    have := w16_le (l.take (2 * k))
    rw [List.length_take] at this
    have e := HN.out
    omega
  have HP := Lib.hid hpre
  clear hpre
  have e2 : (n : Int) % 2 = ((n % 2 : Nat) : Int) := by omega
  have hq2 : (n : Int).tdiv 2 = (m : Int) := by rw [Int.tdiv_eq_ediv_of_nonneg (by omega)]; exact hq
  have hr2 : (n : Int).tmod 2 = ((n % 2 : Nat) : Int) := by rw [Int.tmod_eq_emod_of_nonneg (by omega)]; exact e2
  obtain ⟨r, hr⟩ : ∃ r, r = n % 2 := ⟨_, rfl⟩
  have hrl : r ≤ 1 := by omega
  have hri : (r : Int) ≤ 1 := by omega
  rw [← hr] at e2 hr2
  have HRR := Lib.hid hr
  clear hr
  go_enter Try.func52, Try.ntmps52
  go_wp2
  go_loopw [3, 8] (fun v3 v8 wr => ∃ (k s : Nat), v3 = .int .u64 s ∧ v8 = .int .i64 k ∧ k ≤ m ∧ s ≤ 68719476736 ∧ wr = w ∧ Hid (s = w16 (l.take (2 * k)))) (fun _ v8 _ => m - (intOf v8).toNat)
  case atStart => exact ⟨0, 0, rfl, rfl, by omega, by omega, rfl, Lib.hid (by simp [w16])⟩
  case round =>
    obtain ⟨k, s, rfl, rfl, hk, hs, hw, hh⟩ := hrel
    subst hw
    by_cases hlt : k < m
    · have hl2 : 2 * k + 2 ≤ l.length := by have := HN.out; omega
      obtain ⟨x, hx⟩ : ∃ x, l[2 * k]? = some x := ⟨l[2 * k]'(by omega), List.getElem?_eq_getElem _⟩
      obtain ⟨y, hy⟩ : ∃ y, l[2 * k + 1]? = some y := ⟨l[2 * k + 1]'(by omega), List.getElem?_eq_getElem _⟩
      have e1 := w16_take l k x y hx hy
      have hsub := HB.out.sub (2 * k) 2
      have hcl := cut_lh g o n c (2 * k) (2 * k + 2) (by omega) (by omega) (by omega) hcm
      have hd : (l.drop (2 * k)).take 2 = [x, y] := by
        obtain ⟨h1, h2⟩ := List.getElem?_eq_some_iff.1 hx
        obtain ⟨h3, h4⟩ := List.getElem?_eq_some_iff.1 hy
        rw [List.drop_eq_getElem_cons h1, List.drop_eq_getElem_cons h3, h2, h4]; rfl
      rw [hd] at hsub
      have cn := number_any g (o + 2 * k) (c - 2 * k) 2 [x, y] rfl (by omega) hsub
      have e3 : numB [x, y] = x.toNat * 256 + y.toNat := by simp [numB]
      rw [e3] at cn
      have hx8 := x.toNat_lt
      have hy8 := y.toNat_lt
      have hpb := HP.out (k + 1) (by omega)
      rw [show 2 * (k + 1) = 2 * k + 2 by omega, e1, ← hh.out] at hpb
      have H2 : Hid (s + (x.toNat * 256 + y.toNat) = w16 (l.take (2 * (k + 1)))) := Lib.hid (by rw [show 2 * (k + 1) = 2 * k + 2 by omega, e1, hh.out])
      have hki : (k : Int) < (m : Int) := by omega
      have hsi : (s : Int) ≤ 68719476736 := by omega
      have f1 : ((2 * k : Nat) : Int) = 2 * (k : Int) := by omega
      have f2 : ((2 * k + 2 : Nat) : Int) = 2 * (k : Int) + 2 := by omega
      rw [f1, f2, show 2 * k + 2 - 2 * k = 2 by omega] at hcl
      clear hx hy e1 hsub hd e3 hh f1 f2
      obtain ⟨q, hq'⟩ : ∃ q, q = x.toNat * 256 + y.toNat := ⟨_, rfl⟩
      rw [← hq'] at cn H2 hpb
      have hqb : q < 65536 := by omega
      have hqi : (q : Int) < 65536 := by omega
      clear hq' hx8 hy8
      go_wp2_with (go_at_call 69; refine cn.mono ?_; rintro e w' ⟨rfl, rfl⟩)
      exact ⟨⟨k + 1, s + q, by simp, by simp, by omega, by omega, trivial, H2⟩, by simp [intOf]; omega⟩
    · have hkm : k = m := by omega
      have hki : decide ((k : Int) < (m : Int)) = false := by simp; omega
      have hsi : (s : Int) ≤ 68719476736 := by omega
      by_cases hr1 : r = 1
      · have hodd : l.length = 2 * k + 1 := by have := HN.out; have := HM.out; have := HRR.out; omega
        obtain ⟨x, hx⟩ : ∃ x, l[2 * k]? = some x := ⟨l[2 * k]'(by omega), List.getElem?_eq_getElem _⟩
        have e1 := w16_last l k x hodd hx
        have hcell := HB.out (2 * k) x hx
        have hnk : 2 * k = n - 1 := by have := HN.out; omega
        have hn1 : 1 ≤ n := by have := HN.out; omega
        have f1 : (n : Int) - 1 = ((n - 1 : Nat) : Int) := by omega
        rw [hnk] at hcell
        have hx8 := x.toNat_lt
        have H2 : Hid (s + x.toNat * 256 = w16 l) := Lib.hid (by rw [e1, hh.out])
        have hn1i : (1 : Int) ≤ (n : Int) := by omega
        have hri1 : (r : Int) = 1 := by omega
        clear hx e1 hh hodd hnk hkm hr1
        generalize x.toNat = X at hcell hx8 H2
        have hXi : (X : Int) < 256 := by omega
        go_wp2
        go_ret
        exact ⟨ret_k (by have := H2.out; omega), rfl⟩
      · have hr0 : r = 0 := by omega
        have hri0 : (r : Int) = 0 := by omega
        have he : l.length = 2 * k := by have := HN.out; have := HM.out; have := HRR.out; omega
        have H2 : Hid (s = w16 l) := Lib.hid (by rw [hh.out, List.take_of_length_le (by omega)])
        clear hh he hkm hr0 hr1
        go_wp2
        go_ret
        exact ⟨by have := H2.out; rw [← this]; rfl, rfl⟩


/-- Sum: the check sum. -/
theorem sum_any (g o c n : Nat) (l : List UInt8) (hn : l.length = n) (hc : n ≤ c) (hcm : c ≤ 9223372036854775807) (hm : n ≤ 65540) {w : World} (hb : Byt w g o l) :
    Calls Try.prog 15 #[.slice (some ⟨g, o, none⟩) n c] w fun e w' => e = .returned (.int .i64 (sumP l : Nat)) ∧ w = w' := by
  have cw := words_any g o c n l hn hc hcm (by omega) hb
  have hwl := w16_le l
  have cf := fold_any (w16 l) (by omega) w
  have e : sumP l = 65535 - f16 (w16 l) := rfl
  rw [e]
  generalize w16 l = W at cw cf
  generalize 65535 - f16 W = R at cf
  clear hb e hwl hn
  go_enter Try.func15, Try.ntmps15
  go_wp2_with (first | (go_at_call 52; refine cw.mono ?_; rintro e w' ⟨rfl, rfl⟩) | (go_at_call 51; refine cf.mono ?_; rintro e w' ⟨rfl, rfl⟩))
  go_ret
  exact ⟨rfl, rfl⟩

set_option maxHeartbeats 1000000 in
/-- The document's own check sum. -/
theorem rsum_any (g o c n : Nat) (l : List UInt8) (hn : l.length = n) (hm : n ≤ 65540) {w : World} (hb : Byt w g o l) :
    Calls Try.prog 16 #[.slice (some ⟨g, o, none⟩) n c] w fun e w' => e = .returned (.int .i64 (sumP l : Nat)) ∧ w = w' := by
  have HB := Lib.hid hb
  have HN := Lib.hid hn
  clear hb hn
  have hni : (n : Int) ≤ 65540 := by omega
  have hpre : ∀ k, 2 * k ≤ n → w16 (l.take (2 * k)) ≤ 65535 * (2 * k) := by
    intro k hk
    have := w16_le (l.take (2 * k))
    rw [List.length_take] at this
    have e := HN.out
    omega
  have hwl := w16_le l
  rw [HN.out] at hwl
  have HP := Lib.hid hpre
  clear hpre
  obtain ⟨R, hR⟩ : ∃ R, R = f16 (w16 l) := ⟨_, rfl⟩
  have es : sumP l = 65535 - R := by rw [hR]; rfl
  have hRle : R ≤ 65535 := by rw [hR]; exact f16_le _
  rw [es]
  have HR := Lib.hid hR
  clear hR es
  go_enter Try.func16, Try.ntmps16
  go_wp2
  go_loopw [3, 4] (fun v3 v4 wr => ∃ (k s : Nat), v3 = .int .i64 s ∧ v4 = .int .i64 ((2 * k : Nat) : Int) ∧ 2 * k ≤ n + 1 ∧ s ≤ 68719476736 ∧ wr = w ∧ Hid (s = w16 (l.take (2 * k)))) (fun _ v4 _ => n + 2 - (intOf v4).toNat)
  case atStart => exact ⟨0, 0, rfl, rfl, by omega, by omega, rfl, Lib.hid (by simp [w16])⟩
  case round =>
    obtain ⟨k, s, rfl, rfl, hk, hs, hw, hh⟩ := hrel
    subst hw
    have hsi : (s : Int) ≤ 68719476736 := by omega
    by_cases hlt : 2 * k < n
    · obtain ⟨x, hx⟩ : ∃ x, l[2 * k]? = some x := ⟨l[2 * k]'(by have := HN.out; omega), List.getElem?_eq_getElem _⟩
      have hcx := HB.out (2 * k) x hx
      have hx8 := x.toNat_lt
      have hps := HP.out k (by omega)
      rw [← hh.out] at hps
      by_cases h2 : 2 * k + 1 < n
      · obtain ⟨y, hy⟩ : ∃ y, l[2 * k + 1]? = some y := ⟨l[2 * k + 1]'(by have := HN.out; omega), List.getElem?_eq_getElem _⟩
        have hcy := HB.out (2 * k + 1) y hy
        have hy8 := y.toNat_lt
        have e1 := w16_take l k x y hx hy
        have H2 : Hid (s + x.toNat * 256 + y.toNat = w16 (l.take (2 * (k + 1)))) := Lib.hid (by rw [show 2 * (k + 1) = 2 * k + 2 by omega, e1, hh.out]; omega)
        clear hx hy e1 hh
        generalize x.toNat = X at hcx hx8 H2
        generalize y.toNat = Y at hcy hy8 H2
        obtain ⟨j, hj⟩ : ∃ j, j = 2 * k := ⟨_, rfl⟩
        have HJ := Lib.hid hj
        rw [← hj] at hcx hcy hps h2 hlt hk ⊢
        clear hj
        have hji : (j : Int) < (n : Int) := by omega
        have hji2 : (j : Int) + 1 < (n : Int) := by omega
        have hXi : (X : Int) < 256 := by omega
        have hYi : (Y : Int) < 256 := by omega
        go_wp2
        exact ⟨⟨k + 1, s + X * 256 + Y, by simp, by have := HJ.out; simp; omega, by have := HJ.out; omega, by omega, trivial, H2⟩, by simp [intOf]; omega⟩
      · have hnk : n = 2 * k + 1 := by omega
        have e1 := w16_last l k x (by have := HN.out; omega) hx
        have H2 : Hid (s + x.toNat * 256 = w16 (l.take (2 * (k + 1)))) := Lib.hid (by rw [List.take_of_length_le (by have := HN.out; omega), e1, hh.out])
        clear hx e1 hh
        generalize x.toNat = X at hcx hx8 H2
        obtain ⟨j, hj⟩ : ∃ j, j = 2 * k := ⟨_, rfl⟩
        have HJ := Lib.hid hj
        rw [← hj] at hcx hps h2 hlt hk ⊢
        have hjn : j + 1 = n := by omega
        clear hj hnk
        have hji : (j : Int) < (n : Int) := by omega
        have hji2 : decide ((j : Int) + 1 < (n : Int)) = false := by simp; omega
        have hXi : (X : Int) < 256 := by omega
        have HJN := Lib.hid hjn
        clear hjn
        go_wp2
        exact ⟨⟨k + 1, s + X * 256, by simp, by have := HJ.out; simp; omega, by have := HJ.out; omega, by omega, trivial, H2⟩, by simp [intOf]; have := HJN.out; omega⟩
    · have H2 : Hid (s = w16 l) := Lib.hid (by rw [hh.out, List.take_of_length_le (by have := HN.out; omega)])
      clear hh
      have hki : decide (((2 * k : Nat) : Int) < (n : Int)) = false := by simp; omega
      obtain ⟨j, hj⟩ : ∃ j, j = 2 * k := ⟨_, rfl⟩
      have hkn : decide (j < n) = false := by simp; omega
      rw [← hj] at hki ⊢
      clear hj
      go_wp2
      go_loopw [3] (fun v3 wq => ∃ u : Nat, v3 = .int .i64 u ∧ u ≤ 68719476736 ∧ wq = wr ∧ Hid (R = f16 u)) (fun v3 _ => (intOf v3).toNat)
      case atStart => exact ⟨s, rfl, hs, rfl, Lib.hid (by rw [HR.out, H2.out])⟩
      case round =>
        obtain ⟨u, rfl, hu, hw, hh⟩ := hrel
        subst hw
        have e := hh.out
        clear hh
        by_cases h : 65535 < u
        · have hi : (65535 : Int) < (u : Int) := by omega
          have hui : (u : Int) ≤ 68719476736 := by omega
          rw [f16, if_neg (by omega)] at e
          have H3 := Lib.hid e
          clear e
          go_wp2
          exact ⟨⟨u / 65536 + u % 65536, by simp, by omega, trivial, H3⟩, by simp [intOf]; omega⟩
        · have hi : decide ((65535 : Int) < (u : Int)) = false := by simp; omega
          rw [f16, if_pos (by omega)] at e
          have hui : (u : Int) ≤ 65535 := by omega
          have H3 := Lib.hid e
          clear e
          go_wp2
          go_ret
          exact ⟨ret_k (by have := H3.out; omega), rfl⟩

end Go.Proofs.Ytpmbdjdhgcjkfaa
