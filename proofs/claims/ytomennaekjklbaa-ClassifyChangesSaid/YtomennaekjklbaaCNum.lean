/- Addresses and ranges as numbers: compared, counted on, what is in them; both sides; by-name template (gen_cnum.py). -/
import Derived.Test.YtomennaekjklbaaRows
import Derived.Shelf.Spec.BitsCarry
import Derived.WalkKit
import Derived.WalkSpells
import Derived.StillTactics
import Derived.Laws.Pointers
import Derived.Deep.RegionHeld3
import Derived.RowKit3
import Derived.Lib.Hide
import Derived.Below
import Derived.BigQuiet
import Derived.StillTailTactics
import Derived.Outline
import Derived.Laws.Rows
import Derived.Laws.Tables
import Derived.Deep.WholeRow
import Derived.Deep.RegionWith
import Derived.Deep.DeepCutAuto
import Derived.Deep.QuietTactic
import Derived.Laws.BitsLemmas
import Derived.Laws.Bits64b
import Derived.Lib.QuietBelow
namespace Go.Proofs.Ytomennaekjklbaa
open Go.RowKit Go.Lib
set_option linter.unusedVariables false
set_option linter.unusedSimpArgs false

def cmpI (a b : Int) : Int := if a < b then -1 else if b < a then 1 else 0

def orI (x y : Int) : Int := if x = 0 then y else x

def cmpA (ah al bh bl : Int) : Int := orI (cmpI ah bh) (cmpI al bl)

/-- A word. -/
def Word (x : Int) : Prop := 0 ≤ x ∧ x < 18446744073709551616

theorem Below.al {w w' : World} (h : Below w.heap.size w w') (o : Obj) : Below w.heap.size w (w'.alloc o) := h.alloc h.size o

theorem Below.dr {B : Nat} {w w' : World} (h : Below B w w') : Below B w w'.drew := h.drew

theorem bel_via {w w1 w2 : World} (h : Below w.heap.size w w1) (k : Below w1.heap.size w1 w2) : Below w.heap.size w w2 := h.trans (k.mono h.size)

/-- A call that turns nothing below keeps what is known of w0. -/
theorem kept {P : Program} {f : FuncId} {args : Array Value} {R : Value} {w0 wr : World} (h : Calls P f args wr fun e w' => e = .returned R ∧ Below wr.heap.size wr w') (hw : Below w0.heap.size w0 wr) {C : World → Prop} (hC : ∀ w', Below w0.heap.size w0 w' → C w') :
    Calls P f args wr fun e w' => e = .returned R ∧ C w' ∧ Below w0.heap.size w0 w' :=
  h.mono fun e w' ⟨he, hb⟩ => ⟨he, hC w' (bel_via hw hb), bel_via hw hb⟩

theorem keepc {w0 w' : World} (h : Below w0.heap.size w0 w') {p : Addr} {v : Value} (hc : w0.cell? p = some v) : w'.cell? p = some v := by
  rw [h.cell (World.block_lt_of_cell? _ _ hc)]; exact hc

theorem nan_any (a : Int) (w : World) : Calls Try.prog 83 #[.int .u64 a] w fun e w' => e = .returned (.bool false) ∧ w' = w := by
  go_enter Try.func83, Try.ntmps83
  go_wp2
  go_ret
  exact ⟨rfl, rfl⟩

theorem cmpU_any (a b : Int) (w : World) : Calls Try.prog 71 #[.int .u64 a, .int .u64 b] w fun e w' => e = .returned (.int .i64 (cmpI a b)) ∧ w' = w := by
  unfold cmpI
  by_cases h1 : a < b
  · rw [if_pos h1]
    go_enter Try.func71, Try.ntmps71
    go_wp2_with (go_at_call 83; refine (nan_any _ _).mono ?_; rintro e w' ⟨rfl, rfl⟩)
    go_ret
    exact ⟨rfl, rfl⟩
  · rw [if_neg h1]
    by_cases h2 : b < a
    · rw [if_pos h2]
      go_enter Try.func71, Try.ntmps71
      go_wp2_with (go_at_call 83; refine (nan_any _ _).mono ?_; rintro e w' ⟨rfl, rfl⟩)
      go_ret
      exact ⟨rfl, rfl⟩
    · rw [if_neg h2]
      go_enter Try.func71, Try.ntmps71
      go_wp2_with (go_at_call 83; refine (nan_any _ _).mono ?_; rintro e w' ⟨rfl, rfl⟩)
      go_ret
      exact ⟨rfl, rfl⟩

theorem or_any (x y : Int) {w : World} {g : Nat} (h0 : w.cell? ⟨g, 0, none⟩ = some (.int .i64 x)) (h1 : w.cell? ⟨g, 1, none⟩ = some (.int .i64 y)) :
    Calls Try.prog 70 #[.slice (some ⟨g, 0, none⟩) 2 2] w fun e w' => e = .returned (.int .i64 (orI x y)) ∧ w' = w := by
  unfold orI
  go_enter Try.func70, Try.ntmps70
  go_wp2
  go_loop [8] (fun vi => ∃ k : Nat, vi = .int .i64 k ∧ k ≤ 2 ∧ (1 ≤ k → x = 0) ∧ (2 ≤ k → y = 0)) (fun vi => 2 - (intOf vi).toNat)
  case atStart => exact ⟨0, rfl, by omega, fun h => absurd h (by omega), fun h => absurd h (by omega)⟩
  case round =>
    obtain ⟨k, rfl, hk, hx, hy⟩ := hrel
    match k, hk with
    | 0, _ =>
      by_cases e : x = 0
      · subst e
        go_wp2
        exact ⟨⟨1, rfl, by omega, by simp, by simp⟩, by simp [intOf]⟩
      · go_wp2
        go_ret
        exact ⟨by simp [e], rfl⟩
    | 1, _ =>
      obtain rfl := hx (by omega)
      by_cases e : y = 0
      · subst e
        go_wp2
        exact ⟨⟨2, rfl, by omega, by simp, by simp⟩, by simp [intOf]⟩
      · go_wp2
        go_ret
        exact ⟨by simp, rfl⟩
    | 2, _ =>
      obtain rfl := hx (by omega)
      obtain rfl := hy (by omega)
      go_wp2
      go_ret
      exact ⟨by simp, rfl⟩

theorem cmp_any (ah al bh bl : Int) (w : World) : Calls Try.prog 63 #[.agg #[.int .u64 ah, .int .u64 al], .agg #[.int .u64 bh, .int .u64 bl]] w fun e w' => e = .returned (.int .i64 (cmpA ah al bh bl)) ∧ Below w.heap.size w w' := by
  unfold cmpA
  go_enter Try.func63, Try.ntmps63
  go_wp2
  go_region_held3 (fun w' => w'.cell? ⟨w.heap.size, 0, none⟩ = some (.int .u64 ah) ∧ w'.cell? ⟨w.heap.size, 1, none⟩ = some (.int .u64 al) ∧ w'.cell? ⟨w.heap.size + 1, 0, none⟩ = some (.int .u64 bh) ∧ w'.cell? ⟨w.heap.size + 1, 1, none⟩ = some (.int .u64 bl)) (simp [go_sem, World.cell?_alloc_past])
    (first
      | (go_at_call 71; refine (cmpU_any _ _ _).mono ?_; rintro e w' ⟨rfl, rfl⟩)
      | (go_at_call 70; refine (or_any (cmpI ah bh) (cmpI al bl) (by simp [go_sem]) (by simp [go_sem])).mono ?_; rintro e w' ⟨rfl, rfl⟩))
  go_wp2
  go_ret
  exact ⟨rfl, by repeat (first | exact Below.refl _ _ | apply Below.dr | apply Below.al)⟩

theorem cmpA_cases (ah al bh bl : Int) : cmpA ah al bh bl = if ah < bh ∨ (ah = bh ∧ al < bl) then -1 else if ah = bh ∧ al = bl then 0 else 1 := by
  unfold cmpA orI cmpI
  by_cases h1 : ah < bh
  · simp [h1]
  · by_cases h2 : bh < ah
    · have : ¬ ah = bh := by omega
      simp [h1, h2, this]
    · obtain rfl : ah = bh := by omega
      by_cases h3 : al < bl
      · simp [h3]
      · by_cases h4 : bl < al
        · have : ¬ al = bl := by omega
          simp [h3, h4, this]
        · have : al = bl := by omega
          simp [this]

theorem rcmp_any (ah al bh bl : Int) (w : World) : Calls Try.prog 47 #[.agg #[.int .u64 ah, .int .u64 al], .agg #[.int .u64 bh, .int .u64 bl]] w fun e w' => e = .returned (.int .i64 (cmpA ah al bh bl)) ∧ Below w.heap.size w w' := by
  rw [cmpA_cases]
  by_cases h1 : ah < bh
  · rw [if_pos (Or.inl h1)]
    go_enter Try.func47, Try.ntmps47
    go_wp2
    go_ret
    exact ⟨rfl, by repeat (first | exact Below.refl _ _ | apply Below.dr | apply Below.al)⟩
  · by_cases h2 : ah = bh
    · subst h2
      by_cases h3 : al < bl
      · rw [if_pos (Or.inr ⟨rfl, h3⟩)]
        go_enter Try.func47, Try.ntmps47
        go_wp2
        go_ret
        exact ⟨rfl, by repeat (first | exact Below.refl _ _ | apply Below.dr | apply Below.al)⟩
      · rw [if_neg (by omega)]
        by_cases h4 : al = bl
        · subst h4
          rw [if_pos ⟨rfl, rfl⟩]
          go_enter Try.func47, Try.ntmps47
          go_wp2
          go_ret
          exact ⟨rfl, by repeat (first | exact Below.refl _ _ | apply Below.dr | apply Below.al)⟩
        · rw [if_neg (by omega)]
          have hb : (al == bl) = false := by simp [h4]
          have hd : decide (al < bl) = false := by simp [h3]
          go_enter Try.func47, Try.ntmps47
          go_wp2
          go_ret
          exact ⟨rfl, by repeat (first | exact Below.refl _ _ | apply Below.dr | apply Below.al)⟩
    · rw [if_neg (by omega), if_neg (by omega)]
      have hb : (ah == bh) = false := by simp [h2]
      have hd : decide (ah < bh) = false := by simp [h1]
      go_enter Try.func47, Try.ntmps47
      go_wp2
      go_ret
      exact ⟨rfl, by repeat (first | exact Below.refl _ _ | apply Below.dr | apply Below.al)⟩

theorem cmpA_or (ah al bh bl : Int) : cmpA ah al bh bl = -1 ∨ cmpA ah al bh bl = 0 ∨ cmpA ah al bh bl = 1 := by
  rw [cmpA_cases]; split
  · exact Or.inl rfl
  · split
    · exact Or.inr (Or.inl rfl)
    · exact Or.inr (Or.inr rfl)

theorem cmpA_lt (ah al bh bl : Int) : cmpA ah al bh bl = -1 ↔ ah < bh ∨ (ah = bh ∧ al < bl) := by
  rw [cmpA_cases]; split
  · simp_all
  · split <;> simp_all

theorem cmpA_eq (ah al bh bl : Int) : cmpA ah al bh bl = 0 ↔ ah = bh ∧ al = bl := by
  rw [cmpA_cases]; split
  · constructor
    · intro h; simp at h
    · intro h; omega
  · split <;> simp_all

theorem cmpA_gt (ah al bh bl : Int) : cmpA ah al bh bl = 1 ↔ bh < ah ∨ (ah = bh ∧ bl < al) := by
  rw [cmpA_cases]; split
  · constructor
    · intro h; simp at h
    · intro h; omega
  · split
    · constructor
      · intro h; simp at h
      · intro h; omega
    · simp; omega

theorem cmpA_swap (ah al bh bl : Int) : cmpA bh bl ah al = - cmpA ah al bh bl := by
  rcases cmpA_or ah al bh bl with h | h | h
  · rw [h, (cmpA_gt bh bl ah al).2 (by have := (cmpA_lt ah al bh bl).1 h; omega)]; rfl
  · rw [h, (cmpA_eq bh bl ah al).2 (by have := (cmpA_eq ah al bh bl).1 h; omega)]; rfl
  · rw [h, (cmpA_lt bh bl ah al).2 (by have := (cmpA_gt ah al bh bl).1 h; omega)]

theorem al_old {w : World} {k : Nat} (h : k < w.heap.size) (o : Obj) : (w.alloc o).heap[k]? = w.heap[k]? := by
  show (w.heap.push o)[k]? = _
  rw [Array.getElem?_push, if_neg (Nat.ne_of_lt h)]

theorem al_new {w : World} {k : Nat} (h : k = w.heap.size) (o : Obj) : (w.alloc o).heap[k]? = some o := by
  subst h; exact heap_alloc_new w o

theorem below_set {N B : Nat} {w w1 : World} (h : Below N w w1) (hB : N ≤ B) (o : Nat) (v : Value) : Below N w (w1.setCell ⟨B, o, none⟩ v) :=
  ⟨h.os, h.tape, h.output, by simpa [World.setCell] using h.size, fun k hk => by
    have : B ≠ k := by omega
    simp only [World.setCell, Array.getElem?_modify]
    rw [if_neg this]; exact h.block k hk⟩

theorem cells2 {w : World} {B : Nat} {x y : Value} {t : TypeId} (h : w.heap[B]? = some (.cells #[x, y] t (0, 0))) : w.cell? ⟨B, 0, none⟩ = some x ∧ w.cell? ⟨B, 1, none⟩ = some y ∧ w.frozen? ⟨B, 0, none⟩ = false ∧ w.frozen? ⟨B, 1, none⟩ = false := by
  refine ⟨?_, ?_, ?_, ?_⟩ <;> simp [World.cell?, World.frozen?, h]

theorem heap_set2 {w : World} {B : Nat} {x y : Value} {t : TypeId} {fz : Nat × Nat} (h : w.heap[B]? = some (.cells #[x, y] t fz)) (a b : Value) :
    ((w.setCell ⟨B, 0, none⟩ a).setCell ⟨B, 1, none⟩ b).heap[B]? = some (.cells #[a, b] t fz) := by
  simp [World.setCell, Array.getElem?_modify, h]

theorem add64 (x y c s k : Nat) (hc : c ≤ 1) (hs : (x + y + c) % 18446744073709551616 = s) (hk : (x + y + c) / 18446744073709551616 = k) (hx : x < 18446744073709551616) (hy : y < 18446744073709551616) (w : World) :
    (callFunc 72 #[.int .u64 x, .int .u64 y, .int .u64 c]).run Try.prog w = .ok (.value (.tuple #[.int .u64 s, .int .u64 k])) w := by
  subst hs; subst hk
  rw [run_callFunc_extern Try.func72 (by kernel_rfl) (by kernel_rfl) (by kernel_rfl) (e := add64Entry) (by kernel_rfl), run_add64 x y c (by omega) (by omega) (by omega) (by omega)]
  simp only [Result.andThen]
  congr 5 <;> omega

def TOP : Int := 18446744073709551615

def nextT (ah al : Int) : Value :=
  if al = 18446744073709551615 then (if ah = 18446744073709551615 then .tuple #[.agg #[.int .u64 0, .int .u64 0], .bool false] else .tuple #[.agg #[.int .u64 (ah + 1), .int .u64 0], .bool true])
  else .tuple #[.agg #[.int .u64 ah, .int .u64 (al + 1)], .bool true]

theorem next_any (ah al : Int) (h0 : Word ah) (h1 : Word al) (w : World) : Calls Try.prog 65 #[.agg #[.int .u64 ah, .int .u64 al]] w fun e w' => e = .returned (nextT ah al) ∧ Below w.heap.size w w' := by
  obtain ⟨p0, p1⟩ := h0; obtain ⟨q0, q1⟩ := h1
  obtain ⟨a, rfl⟩ := Int.eq_ofNat_of_zero_le p0
  obtain ⟨b, rfl⟩ := Int.eq_ofNat_of_zero_le q0
  unfold nextT
  by_cases h : (b : Int) = 18446744073709551615
  · rw [if_pos h]
    have hb : b = 18446744073709551615 := by omega
    subst hb
    have e1 := fun w => add64 18446744073709551615 1 0 0 1 (by decide) (by decide) (by decide) (by decide) (by decide) w
    by_cases k : (a : Int) = 18446744073709551615
    · have ha : a = 18446744073709551615 := by omega
      subst ha
      rw [if_pos k]
      have e2 := fun w => add64 18446744073709551615 0 1 0 1 (by decide) (by decide) (by decide) (by decide) (by decide) w
      simp only [Int.cast_ofNat_Int] at e1 e2 ⊢
      go_enter Try.func65, Try.ntmps65
      go_wp2_with (first | simp only [e1] | simp only [e2])
      simp [bodyPost, results, Try.results65, go_sem]
      repeat (first | exact Below.refl _ _ | apply Below.dr | apply Below.al)
    · rw [if_neg k]
      have e2 := fun w => add64 a 0 1 (a + 1) 0 (by decide) (by omega) (by omega) (by omega) (by decide) w
      simp only [Int.cast_ofNat_Int, Int.natCast_add] at e1 e2 ⊢
      go_enter Try.func65, Try.ntmps65
      go_wp2_with (first | simp only [e1] | simp only [e2])
      simp [bodyPost, results, Try.results65, go_sem]
      repeat (first | exact Below.refl _ _ | apply Below.dr | apply Below.al)
  · rw [if_neg h]
    have e1 := fun w => add64 b 1 0 (b + 1) 0 (by decide) (by omega) (by omega) (by omega) (by decide) w
    have e2 := fun w => add64 a 0 0 a 0 (by decide) (by omega) (by omega) (by omega) (by decide) w
    simp only [Int.cast_ofNat_Int, Int.natCast_add] at e1 e2 ⊢
    go_enter Try.func65, Try.ntmps65
    go_wp2_with (first | simp only [e1] | simp only [e2])
    simp [bodyPost, results, Try.results65, go_sem]
    repeat (first | exact Below.refl _ _ | apply Below.dr | apply Below.al)

theorem rnext_any (ah al : Int) (h0 : Word ah) (h1 : Word al) (w : World) : Calls Try.prog 39 #[.agg #[.int .u64 ah, .int .u64 al]] w fun e w' => e = .returned (nextT ah al) ∧ Below w.heap.size w w' := by
  obtain ⟨p0, p1⟩ := h0; obtain ⟨q0, q1⟩ := h1
  unfold nextT
  by_cases h : al = 18446744073709551615
  · subst h
    rw [if_pos rfl]
    have hw : IntKind.u64.wrap 18446744073709551616 = 0 := by decide
    by_cases k : ah = 18446744073709551615
    · subst k
      rw [if_pos rfl]
      go_enter Try.func39, Try.ntmps39
      go_wp2
      go_region
      all_goals (go_wp2; simp [bodyPost, results, Try.results39, go_sem]; try (repeat (first | exact Below.refl _ _ | apply Below.dr | apply Below.al)))
    · rw [if_neg k]
      have hb : (ah + 1 == 0) = false := by simp; omega
      go_enter Try.func39, Try.ntmps39
      go_wp2
      go_region
      all_goals (go_wp2; simp [bodyPost, results, Try.results39, go_sem]; try (repeat (first | exact Below.refl _ _ | apply Below.dr | apply Below.al)))
  · rw [if_neg h]
    have hb : (al + 1 == 0) = false := by simp; omega
    go_enter Try.func39, Try.ntmps39
    go_wp2
    go_region
    all_goals (go_wp2; simp [bodyPost, results, Try.results39, go_sem]; try (repeat (first | exact Below.refl _ _ | apply Below.dr | apply Below.al)))

theorem sub64 (x y b s k : Nat) (hb : b ≤ 1) (hs : (x + 18446744073709551616 - y - b) % 18446744073709551616 = s) (hk : (if x < y + b then 1 else 0) = k) (w : World) :
    (callFunc 67 #[.int .u64 x, .int .u64 y, .int .u64 b]).run Try.prog w = .ok (.value (.tuple #[.int .u64 s, .int .u64 k])) w := by
  rw [run_callFunc_extern Try.func67 (by kernel_rfl) (by kernel_rfl) (by kernel_rfl) (e := sub64Entry) (by kernel_rfl), run_sub64 x y b hb, hs, hk]
  rfl

def prevT (ah al : Int) : Value :=
  if al = 0 then (if ah = 0 then .tuple #[.agg #[.int .u64 0, .int .u64 0], .bool false] else .tuple #[.agg #[.int .u64 (ah - 1), .int .u64 18446744073709551615], .bool true])
  else .tuple #[.agg #[.int .u64 ah, .int .u64 (al - 1)], .bool true]

theorem prev_any (ah al : Int) (h0 : Word ah) (h1 : Word al) (w : World) : Calls Try.prog 61 #[.agg #[.int .u64 ah, .int .u64 al]] w fun e w' => e = .returned (prevT ah al) ∧ Below w.heap.size w w' := by
  obtain ⟨p0, p1⟩ := h0; obtain ⟨q0, q1⟩ := h1
  obtain ⟨a, rfl⟩ := Int.eq_ofNat_of_zero_le p0
  obtain ⟨b, rfl⟩ := Int.eq_ofNat_of_zero_le q0
  unfold prevT
  by_cases h : (b : Int) = 0
  · rw [if_pos h]
    have hb : b = 0 := by omega
    subst hb
    have e1 := fun w => sub64 0 1 0 18446744073709551615 1 (by decide) (by decide) (by decide) w
    by_cases k : (a : Int) = 0
    · have ha : a = 0 := by omega
      subst ha
      rw [if_pos k]
      have e2 := fun w => sub64 0 0 1 18446744073709551615 1 (by decide) (by decide) (by decide) w
      simp only [Int.cast_ofNat_Int] at e1 e2 ⊢
      go_enter Try.func61, Try.ntmps61
      go_wp2_with (first | simp only [e1] | simp only [e2])
      simp [bodyPost, results, Try.results61, go_sem]
      repeat (first | exact Below.refl _ _ | apply Below.dr | apply Below.al)
    · rw [if_neg k]
      have e2 := fun w => sub64 a 0 1 (a - 1) 0 (by decide) (by omega) (by rw [if_neg (by omega)]) w
      have e3 : ((a - 1 : Nat) : Int) = (a : Int) - 1 := by omega
      simp only [Int.cast_ofNat_Int, e3] at e1 e2 ⊢
      go_enter Try.func61, Try.ntmps61
      go_wp2_with (first | simp only [e1] | simp only [e2])
      simp [bodyPost, results, Try.results61, go_sem]
      repeat (first | exact Below.refl _ _ | apply Below.dr | apply Below.al)
  · rw [if_neg h]
    have e1 := fun w => sub64 b 1 0 (b - 1) 0 (by decide) (by omega) (by rw [if_neg (by omega)]) w
    have e2 := fun w => sub64 a 0 0 a 0 (by decide) (by omega) (by rw [if_neg (by omega)]) w
    have e3 : ((b - 1 : Nat) : Int) = (b : Int) - 1 := by omega
    simp only [Int.cast_ofNat_Int, e3] at e1 e2 ⊢
    go_enter Try.func61, Try.ntmps61
    go_wp2_with (first | simp only [e1] | simp only [e2])
    simp [bodyPost, results, Try.results61, go_sem]
    repeat (first | exact Below.refl _ _ | apply Below.dr | apply Below.al)

theorem rprev_any (ah al : Int) (h0 : Word ah) (h1 : Word al) (w : World) : Calls Try.prog 38 #[.agg #[.int .u64 ah, .int .u64 al]] w fun e w' => e = .returned (prevT ah al) ∧ Below w.heap.size w w' := by
  obtain ⟨p0, p1⟩ := h0; obtain ⟨q0, q1⟩ := h1
  unfold prevT
  by_cases h : al = 0
  · subst h
    rw [if_pos rfl]
    by_cases k : ah = 0
    · subst k
      rw [if_pos rfl]
      go_enter Try.func38, Try.ntmps38
      go_wp2
      simp [bodyPost, results, Try.results38, go_sem]
      repeat (first | exact Below.refl _ _ | apply Below.dr | apply Below.al)
    · rw [if_neg k]
      have hb : (ah == 0) = false := by simp [k]
      have hw : IntKind.u64.wrap (-1) = 18446744073709551615 := by decide
      go_enter Try.func38, Try.ntmps38
      go_wp2
      simp [bodyPost, results, Try.results38, go_sem]
      repeat (first | exact Below.refl _ _ | apply Below.dr | apply Below.al)
  · rw [if_neg h]
    have hb : (al == 0) = false := by simp [h]
    go_enter Try.func38, Try.ntmps38
    go_wp2
    simp [bodyPost, results, Try.results38, go_sem]
    repeat (first | exact Below.refl _ _ | apply Below.dr | apply Below.al)

/-- Whether a number is within a range. -/
def hasI (fh fl th tl ah al : Int) : Bool := decide (cmpA fh fl ah al ≤ 0) && decide (cmpA ah al th tl ≤ 0)

theorem has_any (fh fl th tl ah al : Int) (w : World) : Calls Try.prog 56 #[.agg #[.int .u64 fh, .int .u64 fl, .int .u64 th, .int .u64 tl], .agg #[.int .u64 ah, .int .u64 al]] w fun e w' => e = .returned (.bool (hasI fh fl th tl ah al)) ∧ Below w.heap.size w w' := by
  unfold hasI
  obtain ⟨X, hX⟩ : ∃ X, X = cmpA fh fl ah al := ⟨_, rfl⟩
  obtain ⟨Y, hY⟩ : ∃ Y, Y = cmpA ah al th tl := ⟨_, rfl⟩
  have c1 := cmp_any fh fl ah al
  have c2 := cmp_any ah al th tl
  rw [← hX] at c1 ⊢
  rw [← hY] at c2 ⊢
  clear hX hY
  by_cases g : X ≤ 0
  · go_enter Try.func56, Try.ntmps56
    go_wp2_with fail
    obtain ⟨w0, hw0⟩ : ∃ w0, w0 = (w.alloc (Obj.cells #[Value.int IntKind.u64 fh, Value.int IntKind.u64 fl, Value.int IntKind.u64 th, Value.int IntKind.u64 tl] 27)).alloc (Obj.cells #[Value.int IntKind.u64 ah, Value.int IntKind.u64 al] 25) := ⟨_, rfl⟩
    have b0 : Below w.heap.size w w0 := by rw [hw0]; repeat (first | exact Below.refl _ _ | apply Below.dr | apply Below.al)
    have hC : ∀ w', Below w0.heap.size w0 w' → w'.cell? ⟨w.heap.size, 2, none⟩ = some (.int .u64 th) ∧ w'.cell? ⟨w.heap.size, 3, none⟩ = some (.int .u64 tl) ∧ w'.cell? ⟨w.heap.size + 1, 0, none⟩ = some (.int .u64 ah) ∧ w'.cell? ⟨w.heap.size + 1, 1, none⟩ = some (.int .u64 al) := by
      intro w' h
      refine ⟨keepc h ?_, keepc h ?_, keepc h ?_, keepc h ?_⟩ <;> (rw [hw0]; simp [go_sem, World.cell?_alloc_past])
    rw [← hw0]
    clear hw0
    refine (kept (c1 _) (Below.refl _ _) hC).mono ?_
    rintro e w1 ⟨rfl, ⟨k0, k1, k2, k3⟩, hb⟩
    go_wp2_with (go_at_call 63; refine (kept (c2 _) (by assumption) hC).mono ?_; rintro e w2 ⟨rfl, ⟨k0, k1, k2, k3⟩, hb⟩)
    go_ret
    exact ⟨by simp [g], bel_via b0 (by assumption)⟩
  · have gd : decide (X ≤ 0) = false := by simp [g]
    go_enter Try.func56, Try.ntmps56
    go_wp2_with (go_at_call 63; refine (c1 _).mono ?_; rintro e w1 ⟨rfl, hb⟩)
    go_ret
    exact ⟨by simp [gd], bel_via (Below.al (Below.al (Below.refl _ _) _) _) hb⟩

theorem rless_any (ah al bh bl : Int) (w : World) : Calls Try.prog 36 #[.agg #[.int .u64 ah, .int .u64 al], .agg #[.int .u64 bh, .int .u64 bl]] w fun e w' => e = .returned (.bool (decide (cmpA ah al bh bl < 0))) ∧ Below w.heap.size w w' := by
  have cc := rcmp_any ah al bh bl
  generalize cmpA ah al bh bl = c at cc
  by_cases h : c < 0
  · have e : decide (c < 0) = true := by simp [h]
    rw [e]
    go_enter Try.func36, Try.ntmps36
    go_wp2_with (go_at_call 47; refine (cc _).mono ?_; rintro e w2 ⟨rfl, hb2⟩)
    go_ret
    exact ⟨by simp [h], bel_via (Below.al (Below.al (Below.refl _ _) _) _) hb2⟩
  · have e : decide (c < 0) = false := by simp [h]
    rw [e]
    go_enter Try.func36, Try.ntmps36
    go_wp2_with (go_at_call 47; refine (cc _).mono ?_; rintro e w2 ⟨rfl, hb2⟩)
    go_ret
    exact ⟨by simp [h], bel_via (Below.al (Below.al (Below.refl _ _) _) _) hb2⟩

theorem ratmost_any (ah al bh bl : Int) (w : World) : Calls Try.prog 35 #[.agg #[.int .u64 ah, .int .u64 al], .agg #[.int .u64 bh, .int .u64 bl]] w fun e w' => e = .returned (.bool (decide (cmpA ah al bh bl ≤ 0))) ∧ Below w.heap.size w w' := by
  have cc := rcmp_any ah al bh bl
  generalize cmpA ah al bh bl = c at cc
  by_cases h : c ≤ 0
  · have e : decide (c ≤ 0) = true := by simp [h]
    rw [e]
    go_enter Try.func35, Try.ntmps35
    go_wp2_with (go_at_call 47; refine (cc _).mono ?_; rintro e w2 ⟨rfl, hb2⟩)
    go_ret
    exact ⟨by simp [h], bel_via (Below.al (Below.al (Below.refl _ _) _) _) hb2⟩
  · have e : decide (c ≤ 0) = false := by simp [h]
    rw [e]
    go_enter Try.func35, Try.ntmps35
    go_wp2_with (go_at_call 47; refine (cc _).mono ?_; rintro e w2 ⟨rfl, hb2⟩)
    go_ret
    exact ⟨by simp [h], bel_via (Below.al (Below.al (Below.refl _ _) _) _) hb2⟩

theorem rhas_any (fh fl th tl ah al : Int) (w : World) : Calls Try.prog 42 #[.agg #[.int .u64 fh, .int .u64 fl, .int .u64 th, .int .u64 tl], .agg #[.int .u64 ah, .int .u64 al]] w fun e w' => e = .returned (.bool (hasI fh fl th tl ah al)) ∧ Below w.heap.size w w' := by
  unfold hasI
  have c1 := ratmost_any fh fl ah al
  have c2 := ratmost_any ah al th tl
  generalize decide (cmpA fh fl ah al ≤ 0) = X at *
  generalize decide (cmpA ah al th tl ≤ 0) = Y at *
  cases X with
  | true =>
    go_enter Try.func42, Try.ntmps42
    go_wp2_with fail
    obtain ⟨w0, hw0⟩ : ∃ w0, w0 = (w.alloc (Obj.cells #[Value.int IntKind.u64 fh, Value.int IntKind.u64 fl, Value.int IntKind.u64 th, Value.int IntKind.u64 tl] 27)).alloc (Obj.cells #[Value.int IntKind.u64 ah, Value.int IntKind.u64 al] 25) := ⟨_, rfl⟩
    have b0 : Below w.heap.size w w0 := by rw [hw0]; repeat (first | exact Below.refl _ _ | apply Below.dr | apply Below.al)
    have hC : ∀ w', Below w0.heap.size w0 w' → w'.cell? ⟨w.heap.size, 2, none⟩ = some (.int .u64 th) ∧ w'.cell? ⟨w.heap.size, 3, none⟩ = some (.int .u64 tl) ∧ w'.cell? ⟨w.heap.size + 1, 0, none⟩ = some (.int .u64 ah) ∧ w'.cell? ⟨w.heap.size + 1, 1, none⟩ = some (.int .u64 al) := by
      intro w' h
      refine ⟨keepc h ?_, keepc h ?_, keepc h ?_, keepc h ?_⟩ <;> (rw [hw0]; simp [go_sem, World.cell?_alloc_past])
    rw [← hw0]
    clear hw0
    refine (kept (c1 _) (Below.refl _ _) hC).mono ?_
    rintro e w1 ⟨rfl, ⟨k0, k1, k2, k3⟩, hb⟩
    go_wp2_with (go_at_call 35; refine (kept (c2 _) (by assumption) hC).mono ?_; rintro e w2 ⟨rfl, ⟨k0, k1, k2, k3⟩, hb⟩)
    go_ret
    exact ⟨by simp, bel_via b0 (by assumption)⟩
  | false =>
    go_enter Try.func42, Try.ntmps42
    go_wp2_with (go_at_call 35; refine (c1 _).mono ?_; rintro e w1 ⟨rfl, hb⟩)
    go_ret
    exact ⟨by simp, bel_via (Below.al (Below.al (Below.refl _ _) _) _) hb⟩

end Go.Proofs.Ytomennaekjklbaa
