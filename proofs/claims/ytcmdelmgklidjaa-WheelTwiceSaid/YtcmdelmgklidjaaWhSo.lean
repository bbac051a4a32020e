/- One wheel alone; by-name template. -/
import Derived.Test.YtcmdelmgklidjaaWhBo
namespace Go.Proofs.Ytcmdelmgklidjaa
open Go.RowKit Go.Lib Go.Maps
set_option linter.unusedVariables false
set_option linter.unusedSimpArgs false

structure So (w0 w : World) (Bw : Nat) (L : List K2) : Prop where
  ex : ∃ T, WAt w T Bw L ∧ ∀ k, T k → w0.heap.size ≤ k
  bl : Below w0.heap.size w0 w
section
variable {w0 w : World} {Bw : Nat} {L : List K2}
theorem So.new {w1 : World} (h1 : WAt w1 (fun k => w.heap.size ≤ k ∧ k < w1.heap.size) Bw []) (b1 : Below w.heap.size w w1) : So w w1 Bw [] := ⟨⟨_, h1, fun k hk => hk.1⟩, b1⟩
theorem So.below {w' : World} (h : So w0 w Bw L) (b : Below w.heap.size w w') : So w0 w' Bw L := by
  obtain ⟨⟨T, h1, h2⟩, bl⟩ := h
  exact ⟨⟨T, h1.below b, h2⟩, bl.trans (b.mono bl.size)⟩
theorem So.step {w' : World} {L' : List K2} {T : Nat → Prop} (h2 : ∀ k, T k → w0.heap.size ≤ k) (bl : Below w0.heap.size w0 w) (p : WPost w T Bw L' w') : So w0 w' Bw L' := by
  obtain ⟨T', q1, q2, q3⟩ := p
  exact ⟨⟨T', q1, fun k hk => (q3 k hk).elim (h2 k) (fun q => Nat.le_trans bl.size q)⟩, bl.trans (q2.toBelow h2 bl.size)⟩
theorem So.set (h : So w0 w Bw L) {id t : Int} (hid : i64ok id) :
    Calls Try.prog 9 #[.pointer (some ⟨Bw, 0, none⟩), .int .i64 id, .int .i64 t] w fun e w' => e = .returned (.int .i64 (setR L id)) ∧ So w0 w' Bw (setP L id t) := by
  obtain ⟨⟨T, h1, h2⟩, bl⟩ := h
  exact (wset_any h1 hid).mono fun e w' ⟨he, p⟩ => ⟨he, So.step h2 bl p⟩
theorem So.drop (h : So w0 w Bw L) {id : Int} (hid : i64ok id) :
    Calls Try.prog 10 #[.pointer (some ⟨Bw, 0, none⟩), .int .i64 id] w fun e w' => e = .returned (.bool (hasP L id)) ∧ So w0 w' Bw (remP L id) := by
  obtain ⟨⟨T, h1, h2⟩, bl⟩ := h
  exact (wdrop_any h1 hid).mono fun e w' ⟨he, p, o⟩ => ⟨he, So.step h2 bl ⟨T, p, o, fun k hk => .inl hk⟩⟩
theorem So.due (h : So w0 w Bw L) {now : Int} :
    Calls Try.prog 12 #[.pointer (some ⟨Bw, 0, none⟩), .int .i64 now] w fun e w' => ∃ A c, e = .returned (.slice A (dueP L now).length c) ∧ Sl w' 1 e1 A (dueP L now).length (dueP L now) ∧ So w0 w' Bw (lefP L now) := by
  obtain ⟨⟨T, h1, h2⟩, bl⟩ := h
  refine (wdue_any h1).mono fun e w' ⟨v, he, ho, p, o⟩ => ?_
  obtain ⟨A, c, rfl, hs⟩ := ints_sl ho rfl
  exact ⟨A, c, he, hs, So.step h2 bl ⟨T, p, o, fun k hk => .inl hk⟩⟩
theorem So.len (h : So w0 w Bw L) : Calls Try.prog 11 #[.pointer (some ⟨Bw, 0, none⟩)] w fun e w' => e = .returned (.int .i64 (L.length : Int)) ∧ w = w' := by
  obtain ⟨⟨T, h1, h2⟩, bl⟩ := h
  exact wlen_any h1
theorem So.next (h : So w0 w Bw L) :
    Calls Try.prog 17 #[.pointer (some ⟨Bw, 0, none⟩)] w fun e w' => e = .returned (.tuple #[.int .i64 (nid L), .int .i64 (nat' L), .bool (decide (0 < L.length))]) ∧ Below w.heap.size w w' := by
  obtain ⟨⟨T, h1, h2⟩, bl⟩ := h
  exact wnext_any h1
end
end Go.Proofs.Ytcmdelmgklidjaa
