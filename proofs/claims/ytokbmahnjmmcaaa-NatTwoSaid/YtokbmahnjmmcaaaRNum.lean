/- Addresses as numbers: compared, within a range; by-name template. -/
import Derived.Test.YtokbmahnjmmcaaaRows
import Derived.WalkKit
import Derived.WalkSpells
import Derived.StillTactics
import Derived.Laws.Pointers
import Derived.Deep.RegionHeld3
import Derived.RowKit3
import Derived.Lib.Hide
import Derived.Below
import Derived.BigQuiet
import Derived.StillTailTactics
import Derived.Outline
import Derived.Laws.Rows
import Derived.Laws.Tables
import Derived.Deep.WholeRow
import Derived.Deep.RegionWith
import Derived.Deep.DeepCutAuto
import Derived.Deep.QuietTactic
import Derived.Laws.BitsLemmas
import Derived.Laws.Bits64b
namespace Go.Proofs.Ytokbmahnjmmcaaa
open Go.RowKit
set_option linter.unusedVariables false
set_option linter.unusedSimpArgs false

def cmpI (a b : Int) : Int := if a < b then -1 else if b < a then 1 else 0
def orI (x y : Int) : Int := if x = 0 then y else x
def cmpA (ah al bh bl : Int) : Int := orI (cmpI ah bh) (cmpI al bl)
/-- A word. -/
def Word (x : Int) : Prop := 0 ≤ x ∧ x < 18446744073709551616

theorem Below.al {w w' : World} (h : Below w.heap.size w w') (o : Obj) : Below w.heap.size w (w'.alloc o) := h.alloc h.size o
theorem Below.dr {B : Nat} {w w' : World} (h : Below B w w') : Below B w w'.drew := h.drew
theorem bel_via {w w1 w2 : World} (h : Below w.heap.size w w1) (k : Below w1.heap.size w1 w2) : Below w.heap.size w w2 := h.trans (k.mono h.size)

/-- A call that turns nothing below keeps what is known of w0. -/
theorem kept {P : Program} {f : FuncId} {args : Array Value} {R : Value} {w0 wr : World} (h : Calls P f args wr fun e w' => e = .returned R ∧ Below wr.heap.size wr w') (hw : Below w0.heap.size w0 wr) {C : World → Prop} (hC : ∀ w', Below w0.heap.size w0 w' → C w') :
    Calls P f args wr fun e w' => e = .returned R ∧ C w' ∧ Below w0.heap.size w0 w' :=
  h.mono fun e w' ⟨he, hb⟩ => ⟨he, hC w' (bel_via hw hb), bel_via hw hb⟩
theorem keepc {w0 w' : World} (h : Below w0.heap.size w0 w') {p : Addr} {v : Value} (hc : w0.cell? p = some v) : w'.cell? p = some v := by
  rw [h.cell (World.block_lt_of_cell? _ _ hc)]; exact hc

theorem nan_any (a : Int) (w : World) : Calls Try.prog 69 #[.int .u64 a] w fun e w' => e = .returned (.bool false) ∧ w' = w := by
  go_enter Try.func69, Try.ntmps69
  go_wp2
  go_ret
  exact ⟨rfl, rfl⟩

theorem cmpU_any (a b : Int) (w : World) : Calls Try.prog 63 #[.int .u64 a, .int .u64 b] w fun e w' => e = .returned (.int .i64 (cmpI a b)) ∧ w' = w := by
  unfold cmpI
  by_cases h1 : a < b
  · rw [if_pos h1]
    go_enter Try.func63, Try.ntmps63
    go_wp2_with (go_at_call 69; refine (nan_any _ _).mono ?_; rintro e w' ⟨rfl, rfl⟩)
    go_ret
    exact ⟨rfl, rfl⟩
  · rw [if_neg h1]
    by_cases h2 : b < a
    · rw [if_pos h2]
      go_enter Try.func63, Try.ntmps63
      go_wp2_with (go_at_call 69; refine (nan_any _ _).mono ?_; rintro e w' ⟨rfl, rfl⟩)
      go_ret
      exact ⟨rfl, rfl⟩
    · rw [if_neg h2]
      go_enter Try.func63, Try.ntmps63
      go_wp2_with (go_at_call 69; refine (nan_any _ _).mono ?_; rintro e w' ⟨rfl, rfl⟩)
      go_ret
      exact ⟨rfl, rfl⟩

theorem or_any (x y : Int) {w : World} {g : Nat} (h0 : w.cell? ⟨g, 0, none⟩ = some (.int .i64 x)) (h1 : w.cell? ⟨g, 1, none⟩ = some (.int .i64 y)) :
    Calls Try.prog 62 #[.slice (some ⟨g, 0, none⟩) 2 2] w fun e w' => e = .returned (.int .i64 (orI x y)) ∧ w' = w := by
  unfold orI
  go_enter Try.func62, Try.ntmps62
  go_wp2
  go_loop [8] (fun vi => ∃ k : Nat, vi = .int .i64 k ∧ k ≤ 2 ∧ (1 ≤ k → x = 0) ∧ (2 ≤ k → y = 0)) (fun vi => 2 - (intOf vi).toNat)
  case atStart => exact ⟨0, rfl, by omega, fun h => absurd h (by omega), fun h => absurd h (by omega)⟩
  case round =>
    obtain ⟨k, rfl, hk, hx, hy⟩ := hrel
    match k, hk with
    | 0, _ =>
      by_cases e : x = 0
      · subst e
        go_wp2
        exact ⟨⟨1, rfl, by omega, by simp, by simp⟩, by simp [intOf]⟩
      · go_wp2
        go_ret
        exact ⟨by simp [e], rfl⟩
    | 1, _ =>
      obtain rfl := hx (by omega)
      by_cases e : y = 0
      · subst e
        go_wp2
        exact ⟨⟨2, rfl, by omega, by simp, by simp⟩, by simp [intOf]⟩
      · go_wp2
        go_ret
        exact ⟨by simp, rfl⟩
    | 2, _ =>
      obtain rfl := hx (by omega)
      obtain rfl := hy (by omega)
      go_wp2
      go_ret
      exact ⟨by simp, rfl⟩

theorem cmp_any (ah al bh bl : Int) (w : World) : Calls Try.prog 55 #[.agg #[.int .u64 ah, .int .u64 al], .agg #[.int .u64 bh, .int .u64 bl]] w fun e w' => e = .returned (.int .i64 (cmpA ah al bh bl)) ∧ Below w.heap.size w w' := by
  unfold cmpA
  go_enter Try.func55, Try.ntmps55
  go_wp2
  go_region_held3 (fun w' => w'.cell? ⟨w.heap.size, 0, none⟩ = some (.int .u64 ah) ∧ w'.cell? ⟨w.heap.size, 1, none⟩ = some (.int .u64 al) ∧ w'.cell? ⟨w.heap.size + 1, 0, none⟩ = some (.int .u64 bh) ∧ w'.cell? ⟨w.heap.size + 1, 1, none⟩ = some (.int .u64 bl)) (simp [go_sem, World.cell?_alloc_past])
    (first
      | (go_at_call 63; refine (cmpU_any _ _ _).mono ?_; rintro e w' ⟨rfl, rfl⟩)
      | (go_at_call 62; refine (or_any (cmpI ah bh) (cmpI al bl) (by simp [go_sem]) (by simp [go_sem])).mono ?_; rintro e w' ⟨rfl, rfl⟩))
  go_wp2
  go_ret
  exact ⟨rfl, by repeat (first | exact Below.refl _ _ | apply Below.dr | apply Below.al)⟩

/-- Whether two words are an IPv4 address. -/
def is4I (ah al : Int) : Bool := decide (ah = 0) && decide (al / 4294967296 = 65535)

/-- What stands above a word's bits: or is plus. -/
theorem orU (i : Nat) {x y : Int} (h0 : 0 ≤ x) (h : x % 2 ^ i = 0) (h1 : x < 18446744073709551616) (k0 : 0 ≤ y) (k : y < 2 ^ i) (k1 : y < 18446744073709551616) : bits .or .u64 x y = x + y :=
  bits_join .u64 64 (Nat.le_refl _) (fun n h0 h1 => by rw [IntKind.wrap_u64]; omega) i x y h0 h (by simpa using h1) k0 k (by simpa using k1)

theorem is4_ex (ah al : Int) (h0 : Word ah) (h1 : Word al) (w : World) : Calls Try.prog 52 #[.agg #[.int .u64 ah, .int .u64 al]] w fun e w' => e = .returned (.bool (is4I ah al)) ∧ w' = w.alloc (.cells #[.int .u64 ah, .int .u64 al] 33) := by
  unfold is4I
  obtain ⟨p0, p1⟩ := h0; obtain ⟨q0, q1⟩ := h1
  by_cases h : ah = 0
  · subst h
    by_cases k : al / 4294967296 = 65535
    · go_enter Try.func52, Try.ntmps52
      go_wp2
      go_ret
      exact ⟨by simp [k], rfl⟩
    · have kb : (al / 4294967296 == 65535) = false := by simp [k]
      go_enter Try.func52, Try.ntmps52
      go_wp2
      go_ret
      exact ⟨by simp [k], rfl⟩
  · have hb : (ah == 0) = false := by simp [h]
    go_enter Try.func52, Try.ntmps52
    go_wp2
    go_ret
    exact ⟨by simp [h], rfl⟩

theorem is4_any (ah al : Int) (h0 : Word ah) (h1 : Word al) (w : World) : Calls Try.prog 52 #[.agg #[.int .u64 ah, .int .u64 al]] w fun e w' => e = .returned (.bool (is4I ah al)) ∧ Below w.heap.size w w' :=
  (is4_ex ah al h0 h1 w).mono fun e w' ⟨he, hw⟩ => ⟨he, by rw [hw]; exact Below.al (Below.refl _ _) _⟩

theorem ris4_ex (ah al : Int) (h0 : Word ah) (h1 : Word al) (w : World) : Calls Try.prog 27 #[.agg #[.int .u64 ah, .int .u64 al]] w fun e w' => e = .returned (.bool (is4I ah al)) ∧ w' = w.alloc (.cells #[.int .u64 ah, .int .u64 al] 33) := by
  unfold is4I
  obtain ⟨p0, p1⟩ := h0; obtain ⟨q0, q1⟩ := h1
  by_cases h : ah = 0
  · subst h
    by_cases k : 281470681743360 ≤ al
    · by_cases k2 : al ≤ 281474976710655
      · have k3 : al / 4294967296 = 65535 := by omega
        go_enter Try.func27, Try.ntmps27
        go_wp2
        go_ret
        exact ⟨by simp [k3], rfl⟩
      · have k3 : ¬ al / 4294967296 = 65535 := by omega
        have kb : decide (al ≤ 281474976710655) = false := by simp [k2]
        go_enter Try.func27, Try.ntmps27
        go_wp2
        go_ret
        exact ⟨by simp [k3], rfl⟩
    · have k3 : ¬ al / 4294967296 = 65535 := by omega
      have kb : decide (281470681743360 ≤ al) = false := by simp [k]
      go_enter Try.func27, Try.ntmps27
      go_wp2
      go_ret
      exact ⟨by simp [k3], rfl⟩
  · have hb : (ah == 0) = false := by simp [h]
    go_enter Try.func27, Try.ntmps27
    go_wp2
    go_ret
    exact ⟨by simp [h], rfl⟩

theorem ris4_any (ah al : Int) (h0 : Word ah) (h1 : Word al) (w : World) : Calls Try.prog 27 #[.agg #[.int .u64 ah, .int .u64 al]] w fun e w' => e = .returned (.bool (is4I ah al)) ∧ Below w.heap.size w w' :=
  (ris4_ex ah al h0 h1 w).mono fun e w' ⟨he, hw⟩ => ⟨he, by rw [hw]; exact Below.al (Below.refl _ _) _⟩

theorem cmpA_cases (ah al bh bl : Int) : cmpA ah al bh bl = if ah < bh ∨ (ah = bh ∧ al < bl) then -1 else if ah = bh ∧ al = bl then 0 else 1 := by
  unfold cmpA orI cmpI
  by_cases h1 : ah < bh
  · simp [h1]
  · by_cases h2 : bh < ah
    · have : ¬ ah = bh := by omega
      simp [h1, h2, this]
    · obtain rfl : ah = bh := by omega
      by_cases h3 : al < bl
      · simp [h3]
      · by_cases h4 : bl < al
        · have : ¬ al = bl := by omega
          simp [h3, h4, this]
        · have : al = bl := by omega
          simp [this]

theorem rcmp_any (ah al bh bl : Int) (w : World) : Calls Try.prog 53 #[.agg #[.int .u64 ah, .int .u64 al], .agg #[.int .u64 bh, .int .u64 bl]] w fun e w' => e = .returned (.int .i64 (cmpA ah al bh bl)) ∧ Below w.heap.size w w' := by
  rw [cmpA_cases]
  by_cases h1 : ah < bh
  · rw [if_pos (Or.inl h1)]
    go_enter Try.func53, Try.ntmps53
    go_wp2
    go_ret
    exact ⟨rfl, by repeat (first | exact Below.refl _ _ | apply Below.dr | apply Below.al)⟩
  · by_cases h2 : ah = bh
    · subst h2
      by_cases h3 : al < bl
      · rw [if_pos (Or.inr ⟨rfl, h3⟩)]
        go_enter Try.func53, Try.ntmps53
        go_wp2
        go_ret
        exact ⟨rfl, by repeat (first | exact Below.refl _ _ | apply Below.dr | apply Below.al)⟩
      · rw [if_neg (by omega)]
        by_cases h4 : al = bl
        · subst h4
          rw [if_pos ⟨rfl, rfl⟩]
          go_enter Try.func53, Try.ntmps53
          go_wp2
          go_ret
          exact ⟨rfl, by repeat (first | exact Below.refl _ _ | apply Below.dr | apply Below.al)⟩
        · rw [if_neg (by omega)]
          have hb : (al == bl) = false := by simp [h4]
          have hd : decide (al < bl) = false := by simp [h3]
          go_enter Try.func53, Try.ntmps53
          go_wp2
          go_ret
          exact ⟨rfl, by repeat (first | exact Below.refl _ _ | apply Below.dr | apply Below.al)⟩
    · rw [if_neg (by omega), if_neg (by omega)]
      have hb : (ah == bh) = false := by simp [h2]
      have hd : decide (ah < bh) = false := by simp [h1]
      go_enter Try.func53, Try.ntmps53
      go_wp2
      go_ret
      exact ⟨rfl, by repeat (first | exact Below.refl _ _ | apply Below.dr | apply Below.al)⟩
/-- Whether a number is within a range. -/
def hasI (fh fl th tl ah al : Int) : Bool := decide (cmpA fh fl ah al ≤ 0) && decide (cmpA ah al th tl ≤ 0)

theorem has_any (fh fl th tl ah al : Int) (w : World) : Calls Try.prog 47 #[.agg #[.int .u64 fh, .int .u64 fl, .int .u64 th, .int .u64 tl], .agg #[.int .u64 ah, .int .u64 al]] w fun e w' => e = .returned (.bool (hasI fh fl th tl ah al)) ∧ Below w.heap.size w w' := by
  unfold hasI
  obtain ⟨X, hX⟩ : ∃ X, X = cmpA fh fl ah al := ⟨_, rfl⟩
  obtain ⟨Y, hY⟩ : ∃ Y, Y = cmpA ah al th tl := ⟨_, rfl⟩
  have c1 := cmp_any fh fl ah al
  have c2 := cmp_any ah al th tl
  rw [← hX] at c1 ⊢
  rw [← hY] at c2 ⊢
  clear hX hY
  by_cases g : X ≤ 0
  · go_enter Try.func47, Try.ntmps47
    go_wp2_with fail
    obtain ⟨w0, hw0⟩ : ∃ w0, w0 = (w.alloc (Obj.cells #[Value.int IntKind.u64 fh, Value.int IntKind.u64 fl, Value.int IntKind.u64 th, Value.int IntKind.u64 tl] 51)).alloc (Obj.cells #[Value.int IntKind.u64 ah, Value.int IntKind.u64 al] 33) := ⟨_, rfl⟩
    have b0 : Below w.heap.size w w0 := by rw [hw0]; repeat (first | exact Below.refl _ _ | apply Below.dr | apply Below.al)
    have hC : ∀ w', Below w0.heap.size w0 w' → w'.cell? ⟨w.heap.size, 2, none⟩ = some (.int .u64 th) ∧ w'.cell? ⟨w.heap.size, 3, none⟩ = some (.int .u64 tl) ∧ w'.cell? ⟨w.heap.size + 1, 0, none⟩ = some (.int .u64 ah) ∧ w'.cell? ⟨w.heap.size + 1, 1, none⟩ = some (.int .u64 al) := by
      intro w' h
      refine ⟨keepc h ?_, keepc h ?_, keepc h ?_, keepc h ?_⟩ <;> (rw [hw0]; simp [go_sem, World.cell?_alloc_past])
    rw [← hw0]
    clear hw0
    refine (kept (c1 _) (Below.refl _ _) hC).mono ?_
    rintro e w1 ⟨rfl, ⟨k0, k1, k2, k3⟩, hb⟩
    go_wp2_with (go_at_call 55; refine (kept (c2 _) (by assumption) hC).mono ?_; rintro e w2 ⟨rfl, ⟨k0, k1, k2, k3⟩, hb⟩)
    go_ret
    exact ⟨by simp [g], bel_via b0 (by assumption)⟩
  · have gd : decide (X ≤ 0) = false := by simp [g]
    go_enter Try.func47, Try.ntmps47
    go_wp2_with (go_at_call 55; refine (c1 _).mono ?_; rintro e w1 ⟨rfl, hb⟩)
    go_ret
    exact ⟨by simp [gd], bel_via (Below.al (Below.al (Below.refl _ _) _) _) hb⟩

theorem ratmost_any (ah al bh bl : Int) (w : World) : Calls Try.prog 38 #[.agg #[.int .u64 ah, .int .u64 al], .agg #[.int .u64 bh, .int .u64 bl]] w fun e w' => e = .returned (.bool (decide (cmpA ah al bh bl ≤ 0))) ∧ Below w.heap.size w w' := by
  have c1 := rcmp_any ah al bh bl
  generalize cmpA ah al bh bl = X at c1 ⊢
  go_enter Try.func38, Try.ntmps38
  go_wp2_with (go_at_call 53; refine (c1 _).mono ?_; rintro e w1 ⟨rfl, hb⟩)
  go_ret
  exact ⟨rfl, bel_via (Below.al (Below.al (Below.refl _ _) _) _) hb⟩

theorem rhas_any (fh fl th tl ah al : Int) (w : World) : Calls Try.prog 22 #[.agg #[.int .u64 fh, .int .u64 fl, .int .u64 th, .int .u64 tl], .agg #[.int .u64 ah, .int .u64 al]] w fun e w' => e = .returned (.bool (hasI fh fl th tl ah al)) ∧ Below w.heap.size w w' := by
  unfold hasI
  have c1 := ratmost_any fh fl ah al
  have c2 := ratmost_any ah al th tl
  generalize decide (cmpA fh fl ah al ≤ 0) = X at c1 ⊢
  generalize decide (cmpA ah al th tl ≤ 0) = Y at c2 ⊢
  cases X with
  | true =>
    go_enter Try.func22, Try.ntmps22
    go_wp2_with fail
    obtain ⟨w0, hw0⟩ : ∃ w0, w0 = (w.alloc (Obj.cells #[Value.int IntKind.u64 fh, Value.int IntKind.u64 fl, Value.int IntKind.u64 th, Value.int IntKind.u64 tl] 51)).alloc (Obj.cells #[Value.int IntKind.u64 ah, Value.int IntKind.u64 al] 33) := ⟨_, rfl⟩
    have b0 : Below w.heap.size w w0 := by rw [hw0]; repeat (first | exact Below.refl _ _ | apply Below.dr | apply Below.al)
    have hC : ∀ w', Below w0.heap.size w0 w' → w'.cell? ⟨w.heap.size, 2, none⟩ = some (.int .u64 th) ∧ w'.cell? ⟨w.heap.size, 3, none⟩ = some (.int .u64 tl) ∧ w'.cell? ⟨w.heap.size + 1, 0, none⟩ = some (.int .u64 ah) ∧ w'.cell? ⟨w.heap.size + 1, 1, none⟩ = some (.int .u64 al) := by
      intro w' h
      refine ⟨keepc h ?_, keepc h ?_, keepc h ?_, keepc h ?_⟩ <;> (rw [hw0]; simp [go_sem, World.cell?_alloc_past])
    rw [← hw0]
    clear hw0
    refine (kept (c1 _) (Below.refl _ _) hC).mono ?_
    rintro e w1 ⟨rfl, ⟨k0, k1, k2, k3⟩, hb⟩
    go_wp2_with (go_at_call 38; refine (kept (c2 _) (by assumption) hC).mono ?_; rintro e w2 ⟨rfl, ⟨k0, k1, k2, k3⟩, hb⟩)
    go_ret
    exact ⟨by simp, bel_via b0 (by assumption)⟩
  | false =>
    go_enter Try.func22, Try.ntmps22
    go_wp2_with (go_at_call 38; refine (c1 _).mono ?_; rintro e w1 ⟨rfl, hb⟩)
    go_ret
    exact ⟨by simp, bel_via (Below.al (Below.al (Below.refl _ _) _) _) hb⟩
end Go.Proofs.Ytokbmahnjmmcaaa
