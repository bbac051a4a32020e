/- The document's wheel in memory; less, Next, Drop; by-name template. -/
import Derived.Test.YtcmdelmgklidjaaWhSl
namespace Go.Proofs.Ytcmdelmgklidjaa
open Go.RowKit Go.Lib Go.Maps
set_option linter.unusedVariables false
set_option linter.unusedSimpArgs false

def k2c (x : K2) : List Value := [.int .i64 x.1, .int .i64 x.2]
theorem one_info : (Try.prog.info? 59).map (fun i => (i.zero, i.size, i.bytes)) = some (some (.agg #[.int .i64 0, .int .i64 0]), 2, 16) := by kernel_rfl
theorem k2_len (x : K2) : (k2c x).length = 2 := rfl
theorem k2_one (x : K2) : ∀ u ∈ k2c x, u.oneCell' = true := by intro u hu; simp [k2c] at hu; rcases hu with rfl | rfl <;> rfl

/-- The document's wheel at Br has L; R: where it may lie. -/
structure RIn (w : World) (R : Nat → Prop) (Br : Nat) (A : Option Addr) (c : Nat) (L : List K2) : Prop where
  hm : w.heap[Br]? = some (.cells #[.slice A L.length c] 34 (0, 0))
  sl : Sl w 2 k2c A L.length L
  nil : A = none → c = 0
  cap : L.length ≤ c
  rB : R Br
  rA : ∀ b off sp, A = some ⟨b, off, sp⟩ → R b ∧ b ≠ Br ∧ sp = none
  lt : ∀ k, R k → k < w.heap.size
def RAt (w : World) (R : Nat → Prop) (Br : Nat) (L : List K2) : Prop := L.length ≤ 256 ∧ ∃ A c, RIn w R Br A c L

section
variable {w : World} {R : Nat → Prop} {Br : Nat} {A : Option Addr} {c : Nat} {L : List K2}
theorem RIn.off {w' : World} {T : Nat → Prop} (h : RIn w R Br A c L) (o : OffS T w w') (hd : ∀ k, R k → ¬ T k) : RIn w' R Br A c L where
  hm := (o.block Br (h.lt _ h.rB) (hd _ h.rB)).trans h.hm
  sl := h.sl.off o (fun b off sp e => hd _ (h.rA b off sp e).1)
  nil := h.nil
  cap := h.cap
  rB := h.rB
  rA := h.rA
  lt k hk := Nat.lt_of_lt_of_le (h.lt k hk) o.size
theorem RAt.off {w' : World} {T : Nat → Prop} (h : RAt w R Br L) (o : OffS T w w') (hd : ∀ k, R k → ¬ T k) : RAt w' R Br L := by
  obtain ⟨h0, A, c, hi⟩ := h
  exact ⟨h0, A, c, hi.off o hd⟩
theorem RIn.below {w' : World} (h : RIn w R Br A c L) (b : Below w.heap.size w w') : RIn w' R Br A c L :=
  h.off (T := fun _ => False) ⟨b.os, b.tape, b.output, b.size, fun k hk _ => b.block k hk⟩ (fun _ _ h => h)
theorem RAt.below {w' : World} (h : RAt w R Br L) (b : Below w.heap.size w w') : RAt w' R Br L := by
  obtain ⟨h0, A, c, hi⟩ := h
  exact ⟨h0, A, c, hi.below b⟩
theorem RAt.dr (h : RAt w R Br L) : RAt w.drew R Br L := h.below (bel_dr (Below.refl _ _))
theorem RAt.dn (h : RAt w R Br L) (n : Nat) : RAt (w.drewN n) R Br L := h.below (bel_dn (Below.refl _ _) n)
theorem RAt.lt (h : RAt w R Br L) : ∀ k, R k → k < w.heap.size := by obtain ⟨_, A, c, hi⟩ := h; exact hi.lt
theorem RAt.len (h : RAt w R Br L) : L.length ≤ 256 := h.1
theorem RIn.c0 (h : RIn w R Br A c L) : w.cell? ⟨Br, 0, none⟩ = some (.slice A L.length c) := cell_of_row _ Br 0 _ _ _ h.hm
theorem RAt.new (w : World) : RAt (w.alloc (.cells #[.slice none 0 0] 34)) (fun k => k = w.heap.size) w.heap.size [] :=
  ⟨by simp, none, 0, {
    hm := heap_alloc_new w _
    sl := Sl.none _
    nil := fun _ => rfl
    cap := Nat.le_refl _
    rB := rfl
    rA := fun b off sp e => by cases e
    lt := fun k hk => by subst hk; rw [al_size]; omega }⟩

theorem less_any (x y : K2) (w : World) : Calls Try.prog 22 #[.agg #[.int .i64 x.1, .int .i64 x.2], .agg #[.int .i64 y.1, .int .i64 y.2]] w fun e w' => e = .returned (.bool (decide (LtK x y))) ∧ Below w.heap.size w w' := by
  have hb : Below w.heap.size w ((w.alloc (.cells #[.int .i64 x.1, .int .i64 x.2] 59)).alloc (.cells #[.int .i64 y.1, .int .i64 y.2] 59)) := ((Below.refl _ _).alloc (Nat.le_refl _) _).alloc (by rw [al_size]; omega) _
  have HB := Lib.hid hb
  clear hb
  unfold LtK
  by_cases h1 : x.2 < y.2
  · have d1 : decide (x.2 < y.2) = true := decide_eq_true h1
    have e1 : decide (x.2 < y.2 ∨ x.2 = y.2 ∧ x.1 < y.1) = true := decide_eq_true (.inl h1)
    rw [e1]
    clear e1
    go_enter Try.func22, Try.ntmps22
    go_wp2
    go_ret
    exact ⟨rfl, HB.out⟩
  · have d1 : decide (x.2 < y.2) = false := decide_eq_false h1
    by_cases h2 : x.2 = y.2
    · have e1 : decide (x.2 < y.2 ∨ x.2 = y.2 ∧ x.1 < y.1) = decide (x.1 < y.1) := by simp [h1, h2]
      rw [e1]
      clear e1
      obtain ⟨x1, x2⟩ := x
      obtain ⟨y1, y2⟩ := y
      simp only at *
      subst h2
      go_enter Try.func22, Try.ntmps22
      go_wp2
      go_ret
      exact ⟨rfl, HB.out⟩
    · have e1 : decide (x.2 < y.2 ∨ x.2 = y.2 ∧ x.1 < y.1) = false := decide_eq_false (by omega)
      rw [e1]
      clear e1
      go_enter Try.func22, Try.ntmps22
      go_wp2
      go_ret
      exact ⟨rfl, HB.out⟩

theorem rnext_any (h : RAt w R Br L) :
    Calls Try.prog 18 #[.pointer (some ⟨Br, 0, none⟩)] w fun e w' => e = .returned (.tuple #[.int .i64 (nid L), .int .i64 (nat' L), .bool (decide (0 < L.length))]) ∧ Below w.heap.size w w' := by
  obtain ⟨hl, A, c, hi⟩ := h
  have c0 := hi.c0
  cases L with
  | nil =>
    clear hi
    go_enter Try.func18, Try.ntmps18
    go_wp2
    have FIN := Lib.hid (Below.refl w.heap.size w)
    simp [bodyPost, results, Try.results18, go_sem]
    exact ⟨⟨rfl, rfl⟩, FIN.out⟩
  | cons x M =>
    obtain ⟨b, off, rfl, hlt, hc⟩ := hi.sl.row (by simp)
    have r0 := hc 0 x rfl 0 _ rfl
    have r1 := hc 0 x rfl 1 _ rfl
    simp only [Nat.zero_mul, Nat.add_zero] at r0 r1
    have hlI : ¬ ((x :: M).length : Int) = 0 := by rw [List.length_cons]; omega
    have hlI2 : (0 : Int) < ((x :: M).length : Int) := by rw [List.length_cons]; omega
    have hdn : decide (0 < (x :: M).length) = true := by simp
    have hzz : 0 < (x :: M).length := by simp
    unfold nid nat'
    rw [hdn]
    simp only [List.headD_cons]
    clear hi hc
    generalize (x :: M).length = n at *
    go_enter Try.func18, Try.ntmps18
    go_wp2
    go_quiet (fail)
    go_wp2
    simp [bodyPost, results, Try.results18, go_sem]
    exact bel_dn (Below.refl _ _) _

/-! ### Drop -/
def RPost (w : World) (R : Nat → Prop) (Br : Nat) (L' : List K2) (w' : World) : Prop :=
  ∃ R', RAt w' R' Br L' ∧ OffS (fun k => k = Br) w w' ∧ ∀ k, R' k → k = Br ∨ R k ∨ w.heap.size ≤ k

theorem rem_cut {L : List K2} {id : Int} {k : Nat} (hk : k < L.length) (hid : (L[k]).1 = id) (hu : UId L) : remP L id = L.take k ++ L.drop (k + 1) := by
  have e : L = L.take k ++ L[k] :: L.drop (k + 1) := by
    conv => lhs; rw [← List.take_append_drop k L]
    rw [← List.drop_eq_getElem_cons hk]
  have hu2 := hu
  rw [e] at hu2
  obtain ⟨u1, u2, u3⟩ := List.pairwise_append.1 hu2
  have u4 := (List.pairwise_cons.1 u2).1
  conv => lhs; rw [e]
  unfold remP
  rw [List.filter_append, List.filter_cons, if_neg (by simp [hid])]
  have f1 : (L.take k).filter (fun x => x.1 != id) = L.take k := List.filter_eq_self.2 fun x hx => by
    have := u3 x hx L[k] List.mem_cons_self
    rw [hid] at this
    simpa using this
  have f2 : (L.drop (k + 1)).filter (fun x => x.1 != id) = L.drop (k + 1) := List.filter_eq_self.2 fun x hx => by
    have := u4 x hx
    rw [hid] at this
    simpa using this.symm
  rw [f1, f2]

/-- Behind a store of a row of its own. -/
theorem RIn.store {A : Option Addr} {c : Nat} (h : RIn w R Br A c L) {L' : List K2} (hl : L'.length ≤ 256) {w3 : World} {v3 : Value} {base : Nat} (hb : w.heap.size ≤ base) (b3 : Below w.heap.size w w3) (hown : w3.ownsRow base 59 2 v3 L'.length (L'.flatMap k2c)) :
    ∃ A3 c3, v3 = .slice A3 L'.length c3 ∧ RPost w R Br L' (w3.setCell ⟨Br, 0, none⟩ (.slice A3 L'.length c3)) := by
  obtain ⟨A3, c3, rfl, hs, hbb⟩ := sl_of_own (k := 2) (enc := k2c) k2_len hown rfl
  have hB := h.lt _ h.rB
  have hm3 : w3.heap[Br]? = some (.cells #[.slice A L.length c] 34 (0, 0)) := (b3.block Br hB).trans h.hm
  have o3 : OffS (fun k => k = Br) w3 (w3.setCell ⟨Br, 0, none⟩ (.slice A3 L'.length c3)) := ((Off.refl Br w3).set 0 _).toS (.inl rfl)
  have hz : (w3.setCell ⟨Br, 0, none⟩ (.slice A3 L'.length c3)).heap.size = w3.heap.size := set_size _ _ _
  have hAsp : ∀ b off sp, A3 = some ⟨b, off, sp⟩ → sp = none ∧ b < w3.heap.size ∧ off = 0 := fun b off sp e => by
    obtain ⟨_, ⟨q1, q2⟩ | ⟨g, cap, cur, hv, _, hg, _⟩⟩ := hown
    · simp only [Value.slice.injEq] at q1; rw [q1.1] at e; cases e
    · cases hv; cases e; exact ⟨rfl, blk_lt hg, rfl⟩
  refine ⟨A3, c3, rfl, fun k => k = Br ∨ ∃ off sp, A3 = some ⟨k, off, sp⟩, ⟨hl, A3, c3, {
    hm := heap_set hm3 0 _
    sl := hs.off o3 (fun b off sp e q => by have := hbb b off sp e; omega)
    nil := fun e => by
      obtain ⟨_, ⟨q1, q2⟩ | ⟨g, cap, cur, hv, _, hg, _⟩⟩ := hown
      · simp only [Value.slice.injEq] at q1; exact q1.2.2
      · cases hv; cases e
    cap := own_cap hown
    rB := .inl rfl
    rA := fun b off sp e => ⟨.inr ⟨off, sp, e⟩, fun q => by have := hbb b off sp e; omega, (hAsp b off sp e).1⟩
    lt := fun k hk => ?_ }⟩, (offS_below b3).trans o3, fun k hk => ?_⟩
  · rw [hz]
    rcases hk with rfl | ⟨off, sp, e⟩
    · have := b3.size; omega
    · exact (hAsp k off sp e).2.1
  · rcases hk with rfl | ⟨off, sp, e⟩
    · exact .inl rfl
    · have := hbb k off sp e
      exact .inr (.inr (by omega))
end
end Go.Proofs.Ytcmdelmgklidjaa
