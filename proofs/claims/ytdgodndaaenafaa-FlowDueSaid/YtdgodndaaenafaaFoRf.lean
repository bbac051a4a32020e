/- The document's table in memory: at, Find, Taken; by-name template (gen_forf.py). -/
import Derived.Test.YtdgodndaaenafaaFoSt
namespace Go.Proofs.Ytdgodndaaenafaa
open Go.RowKit Go.Lib Go.Maps
set_option linter.unusedVariables false
set_option linter.unusedSimpArgs false

theorem rf_inf (f : Fl) : (Try.prog.info? 42).map (·.size) = some (FA f).size := by rw [show (FA f).size = 20 from rfl]; kernel_rfl
theorem rf_info : (Try.prog.info? 42).map (fun i => (i.zero, i.size, i.bytes)) = some (some (.agg #[.int .i64 0, .int .i64 0, .int .u64 0, .int .u64 0, .int .u64 0, .int .u64 0, .int .i64 0, .int .i64 0, .int .i64 0, .int .u64 0, .int .u64 0, .int .u64 0, .int .u64 0, .int .i64 0, .int .i64 0, .int .i64 0, .int .i64 0, .int .i64 0, .int .i64 0, .int .i64 0]), 20, 160) := by kernel_rfl
/-- The document's table at RB has L; R: where it may lie. -/
structure RIn (w : World) (R : Nat → Prop) (RB : Nat) (A : Option Addr) (c : Nat) (L : List Fl) : Prop where
  hm : w.heap[RB]? = some (.cells #[.slice A L.length c] 28 (0, 0))
  sl : Sl w 20 fcells A L.length L
  nil : A = none → c = 0
  cap : L.length ≤ c
  rB : R RB
  rA : ∀ b off sp, A = some ⟨b, off, sp⟩ → R b ∧ b ≠ RB ∧ sp = none
  lt : ∀ k, R k → k < w.heap.size
def RAt (w : World) (R : Nat → Prop) (RB : Nat) (L : List Fl) : Prop := GoodF L ∧ ∃ A c, RIn w R RB A c L

section
variable {w : World} {R : Nat → Prop} {RB : Nat} {A : Option Addr} {c : Nat} {L : List Fl}
theorem RIn.off {w' : World} {T : Nat → Prop} (h : RIn w R RB A c L) (o : OffS T w w') (hd : ∀ k, R k → ¬ T k) : RIn w' R RB A c L where
  hm := (o.block RB (h.lt _ h.rB) (hd _ h.rB)).trans h.hm
  sl := h.sl.off o (fun b off sp e => hd _ (h.rA b off sp e).1)
  nil := h.nil
  cap := h.cap
  rB := h.rB
  rA := h.rA
  lt k hk := Nat.lt_of_lt_of_le (h.lt k hk) o.size
theorem RAt.off {w' : World} {T : Nat → Prop} (h : RAt w R RB L) (o : OffS T w w') (hd : ∀ k, R k → ¬ T k) : RAt w' R RB L := by
  obtain ⟨h0, A, c, hi⟩ := h
  exact ⟨h0, A, c, hi.off o hd⟩
theorem RIn.below {w' : World} (h : RIn w R RB A c L) (b : Below w.heap.size w w') : RIn w' R RB A c L :=
  h.off (T := fun _ => False) ⟨b.os, b.tape, b.output, b.size, fun k hk _ => b.block k hk⟩ (fun _ _ h => h)
theorem RAt.below {w' : World} (h : RAt w R RB L) (b : Below w.heap.size w w') : RAt w' R RB L := by
  obtain ⟨h0, A, c, hi⟩ := h
  exact ⟨h0, A, c, hi.below b⟩
theorem RAt.lt (h : RAt w R RB L) : ∀ k, R k → k < w.heap.size := by obtain ⟨_, A, c, hi⟩ := h; exact hi.lt
theorem RIn.c0 (h : RIn w R RB A c L) : w.cell? ⟨RB, 0, none⟩ = some (.slice A L.length c) := cell_of_row _ RB 0 _ _ _ h.hm
theorem RAt.new (w : World) : RAt (w.alloc (.cells #[.slice none 0 0] 28)) (fun k => k = w.heap.size) w.heap.size [] :=
  ⟨good_nil, none, 0, {
    hm := heap_alloc_new w _
    sl := Sl.none _
    nil := fun _ => rfl
    cap := Nat.le_refl _
    rB := rfl
    rA := fun b off sp e => by cases e
    lt := fun k hk => by subst hk; rw [al_size]; omega }⟩

def atP (L : List Fl) (id : Int) : Int := if hasF L id then ((L.findIdx fun f => f.id == id : Nat) : Int) else -1
theorem idx_lt {L : List Fl} {id : Int} (h : hasF L id = true) : (L.findIdx fun f => f.id == id) < L.length := by
  rw [List.findIdx_lt_length]
  obtain ⟨f, hf, he⟩ := List.any_eq_true.1 h
  exact ⟨f, hf, he⟩
theorem rf_cell {w : World} {b off i : Nat} {l : List Fl} {x : Fl} (h : ∀ j y, l[j]? = some y → ∀ t v, (fcells y)[t]? = some v → w.cell? ⟨b, off + j * 20 + t, none⟩ = some v) (hx : l[i]? = some x) : w.cell? ⟨b, off + i * 20, none⟩ = some (.int .i64 x.id) := h i x hx 0 _ rfl

set_option maxHeartbeats 1000000 in
theorem at_any (h : RIn w R RB A c L) (hn : L.length ≤ 48) (id : Int) :
    Calls Try.prog 34 #[.pointer (some ⟨RB, 0, none⟩), .int .i64 id] w fun e w' => e = .returned (.int .i64 (atP L id)) ∧ Below w.heap.size w w' := by
  have c0 := h.c0
  have hsl := h.sl
  have HNO : Hid ((∀ f ∈ L, ¬ f.id = id) → atP L id = -1) := Lib.hid (fun hh => by
    unfold atP
    rw [if_neg]
    intro e
    obtain ⟨f, hf, he⟩ := List.any_eq_true.1 e
    exact hh f hf (by simpa using he))
  have HYES : Hid (∀ (i : Nat) (f : Fl), L[i]? = some f → f.id = id → (∀ (j : Nat) (f' : Fl), j < i → L[j]? = some f' → ¬ f'.id = id) → atP L id = (i : Int)) := Lib.hid (fun i f hi he hh => by
    have hil := (List.getElem?_eq_some_iff.1 hi).1
    have hhas : hasF L id = true := List.any_eq_true.2 ⟨f, List.mem_of_getElem? hi, by simpa using he⟩
    unfold atP
    rw [if_pos hhas]
    have hlt := idx_lt hhas
    have hsp := List.findIdx_getElem (w := hlt)
    have hge : ¬ (L.findIdx fun f => f.id == id) < i := fun hc => hh _ _ hc (List.getElem?_eq_getElem hlt) (by simpa using hsp)
    have hle : ¬ i < (L.findIdx fun f => f.id == id) := fun hc => by
      have := List.not_of_lt_findIdx hc
      rw [(List.getElem?_eq_some_iff.1 hi).2] at this
      simp [he] at this
    have : (L.findIdx fun f => f.id == id) = i := by omega
    rw [this])
  generalize atP L id = R0 at *
  generalize hnn : L.length = n at *
  have HN := Lib.hid hnn
  clear hnn h
  go_enter Try.func34, Try.ntmps34
  go_wp2_with fail
  go_loopw [5] (fun v5 wr => ∃ i : Nat, v5 = .int .i64 i ∧ i ≤ n ∧ Hid (∀ (j : Nat) (f' : Fl), j < i → L[j]? = some f' → ¬ f'.id = id) ∧ Below w.heap.size w wr) (fun v5 _ => n - (intOf v5).toNat)
  case atStart => exact ⟨0, rfl, by omega, Lib.hid (fun j f' hj => absurd hj (Nat.not_lt_zero _)), Below.refl _ _⟩
  case round =>
    obtain ⟨i, rfl, hi, HB, bw⟩ := hrel
    have c0r := keepc bw c0
    by_cases hlt : i < n
    · have hlti : (i : Int) < (n : Int) := by omega
      have hdn : decide (i < n) = true := by simp [hlt]
      obtain ⟨b, off, rfl, hbl, hrow⟩ := hsl.row (by omega)
      obtain ⟨x, hx⟩ : ∃ x, L[i]? = some x := ⟨_, List.getElem?_eq_getElem (by rw [HN.out]; exact hlt)⟩
      have e0 := keepc bw (rf_cell hrow hx)
      by_cases he : x.id = id
      · have hR := HYES.out i x hx he HB.out
        have FIN : Hid (Ending.returned (.int .i64 (i : Int)) = .returned (.int .i64 R0) ∧ Below w.heap.size w wr) := Lib.hid ⟨by rw [hR], bw⟩
        rw [he] at e0
        clear hR hrow hx HB HYES HNO
        go_wp2_with fail
        first | exact FIN.out | (go_ret; exact FIN.out)
      · have HB2 : Hid (∀ (j : Nat) (f' : Fl), j < i + 1 → L[j]? = some f' → ¬ f'.id = id) := Lib.hid (fun j f' hj hf' => by
          by_cases q : j = i
          · subst q; rw [hx] at hf'; cases hf'; exact he
          · exact HB.out j f' (by omega) hf')
        generalize x.id = xi at *
        clear hrow hx HB HYES HNO
        go_wp2_with fail
        exact ⟨⟨i + 1, by simp, by omega, HB2, bw⟩, by simp [intOf]; omega⟩
    · obtain rfl : i = n := by omega
      have hd0 : decide (i < i) = false := by simp
      have hdi : decide ((i : Int) < (i : Int)) = false := by simp
      have hR := HNO.out (fun f hf => by
        obtain ⟨j, hj⟩ := List.getElem?_of_mem hf
        exact HB.out j f (by have := (List.getElem?_eq_some_iff.1 hj).1; rw [HN.out] at this; exact this) hj)
      have FIN : Hid (Ending.returned (.int .i64 (-1)) = .returned (.int .i64 R0) ∧ Below w.heap.size w wr) := Lib.hid ⟨by rw [hR], bw⟩
      clear hR HB HYES HNO
      go_wp2_with fail
      first | exact FIN.out | (go_ret; exact FIN.out)
end
end Go.Proofs.Ytdgodndaaenafaa
