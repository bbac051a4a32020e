/- A table beside other blocks: what each call makes of it; a map that is cleared; by-name template. -/
import Derived.Test.YtdgodndaaenafaaFoXs
namespace Go.Proofs.Ytdgodndaaenafaa
open Go.RowKit Go.Lib Go.Maps
set_option linter.unusedVariables false
set_option linter.unusedSimpArgs false

theorem MapK.clear {w : World} {Mp c : Nat} {gk : Ky → Option Int} (h : MapK w Mp gk c) (ty : TypeId) :
    ∃ w', (Builtin.clear_ #[58] ty #[.map (some Mp)]).run Try.prog w = .ok (.tuple #[]) w' ∧ MapK w' Mp (fun _ => none) 0 ∧ OffS (fun j => j = Mp) w w' := by
  obtain ⟨D, ⟨es, clock, hb, F, q3, q4⟩, p2, p3, p4⟩ := h
  refine ⟨ChangeMaps.setBlock w Mp (.map #[] clock), ?_, ⟨.map [], ⟨#[], clock, ChangeMaps.heap_setBlock_same hb _, ⟨by simp, MapKept.stamped_empty clock, by simp⟩, Nat.le_refl _, rfl⟩, fun _ _ => rfl, fun _ _ _ h => by simp at h, rfl⟩, off_setBlock hb _⟩
  simp [Builtin.clear_, run_underlying Try.underlying58, MapKept.run_getObj_map hb, MapKept.run_setObj_map _ hb, Result.andThen, ChangeMaps.setBlock]
theorem MapK.len {w : World} {Mp c : Nat} {gk : Ky → Option Int} (h : MapK w Mp gk c) (ty : TypeId) : (Builtin.len_ #[58] ty #[.map (some Mp)]).run Try.prog w = .ok (.int .i64 (c : Int)) w := by
  obtain ⟨D, ⟨es, clock, hb, F, q3, q4⟩, p2, p3, p4⟩ := h
  have e : es.size = c := by
    rw [← p4, q4]
    simp [Maps.size, length_sorted]
  simp [Builtin.len_, Builtin.lenOf, run_underlying Try.underlying58, MapKept.run_getObj_map hb, Result.andThen, e, goInt]

def StX (X : Nat → Prop) (w1 w : World) (TB : Nat) (L : List Fl) : Prop := ∃ T, TAt w T TB L ∧ (∀ k, T k → w1.heap.size ≤ k) ∧ Below w1.heap.size w1 w ∧ ∀ k, X k → ¬ T k ∧ w1.heap.size ≤ k ∧ k < w.heap.size
def KeptX (X : Nat → Prop) (w w' : World) : Prop := w.heap.size ≤ w'.heap.size ∧ ∀ k, X k → w'.heap[k]? = w.heap[k]?
section
variable {X : Nat → Prop} {w1 w w' : World} {TB : Nat} {L L' : List Fl}
theorem StX.good (h : StX X w1 w TB L) : GoodF L := by obtain ⟨T, h, _⟩ := h; exact h.1
theorem StX.bel (h : StX X w1 w TB L) : Below w1.heap.size w1 w := by obtain ⟨T, _, _, h, _⟩ := h; exact h
theorem StX.below (h : StX X w1 w TB L) (b : Below w.heap.size w w') : StX X w1 w' TB L ∧ KeptX X w w' := by
  obtain ⟨T, h1, h2, h3, h4⟩ := h
  exact ⟨⟨T, h1.below b, h2, bel_via h3 b, fun k hk => ⟨(h4 k hk).1, (h4 k hk).2.1, Nat.lt_of_lt_of_le (h4 k hk).2.2 b.size⟩⟩, b.size, fun k hk => b.block k (h4 k hk).2.2⟩
theorem StX.mono {Y : Nat → Prop} (h : StX X w1 w TB L) (hY : ∀ k, Y k → X k) : StX Y w1 w TB L := by
  obtain ⟨T, h1, h2, h3, h4⟩ := h
  exact ⟨T, h1, h2, h3, fun k hk => h4 k (hY k hk)⟩
/-- a block of X is written. -/
theorem StX.off {S : Nat → Prop} (h : StX X w1 w TB L) (o : OffS S w w') (hS : ∀ k, S k → X k) : StX X w1 w' TB L := by
  obtain ⟨T, h1, h2, h3, h4⟩ := h
  have hs := o.size
  exact ⟨T, h1.off o (fun k hk hn => (h4 k (hS k hn)).1 hk), h2, h3.trans (o.toBelow (fun k hk => (h4 k (hS k hk)).2.1) h3.size), fun k hk => ⟨(h4 k hk).1, (h4 k hk).2.1, Nat.lt_of_lt_of_le (h4 k hk).2.2 hs⟩⟩
theorem St.with (h : St w1 w TB L) (o : Obj) : StX (fun k => k = w.heap.size) w1 (w.alloc o) TB L := by
  have b : Below w.heap.size w (w.alloc o) := (Below.refl _ _).alloc (Nat.le_refl _) _
  obtain ⟨T, h1, h2, h3⟩ := h
  refine ⟨T, h1.below b, h2, bel_via h3 b, fun k hk => ?_⟩
  subst hk
  exact ⟨fun e => by have := h1.lt _ e; omega, h3.size, by rw [al_size]; omega⟩
theorem StX.with (h : StX X w1 w TB L) (o : Obj) : StX (fun k => X k ∨ k = w.heap.size) w1 (w.alloc o) TB L := by
  have b : Below w.heap.size w (w.alloc o) := (Below.refl _ _).alloc (Nat.le_refl _) _
  obtain ⟨T, h1, h2, h3, h4⟩ := h
  refine ⟨T, h1.below b, h2, bel_via h3 b, fun k hk => ?_⟩
  rcases hk with hk | rfl
  · exact ⟨(h4 k hk).1, (h4 k hk).2.1, Nat.lt_of_lt_of_le (h4 k hk).2.2 b.size⟩
  · exact ⟨fun e => by have := h1.lt _ e; omega, h3.size, by rw [al_size]; omega⟩
theorem StX.ofPost {T : Nat → Prop} (h2 : ∀ k, T k → w1.heap.size ≤ k) (h3 : Below w1.heap.size w1 w) (h4 : ∀ k, X k → ¬ T k ∧ w1.heap.size ≤ k ∧ k < w.heap.size) (h : FPost w T TB L' w') : StX X w1 w' TB L' ∧ KeptX X w w' := by
  obtain ⟨T', h1, o, ht⟩ := h
  refine ⟨⟨T', h1, fun k hk => ?_, h3.trans (o.toBelow h2 h3.size), fun k hk => ⟨fun hT => ?_, (h4 k hk).2.1, Nat.lt_of_lt_of_le (h4 k hk).2.2 o.size⟩⟩, o.size, fun k hk => o.block k (h4 k hk).2.2 (h4 k hk).1⟩
  · rcases ht k hk with q | q
    · exact h2 k q
    · have := h3.size; omega
  · rcases ht k hT with q | q
    · exact (h4 k hk).1 q
    · have := (h4 k hk).2.2; omega
theorem StX.add (h : StX X w1 w TB L) {f : Fl} (hf : FlOk f) : Calls Try.prog 9 #[.pointer (some ⟨TB, 0, none⟩), .agg (FA f)] w fun e w' => e = .returned (.tuple #[.int .i64 (addF L f).id, .int .i64 (addF L f).gone, .int .i64 (addF L f).e]) ∧ StX X w1 w' TB (addF L f).L ∧ KeptX X w w' := by
  obtain ⟨T, h1, h2, h3, h4⟩ := h
  exact (add_any h1 hf).mono fun e w' ⟨he, hp⟩ => ⟨he, StX.ofPost h2 h3 h4 hp⟩
theorem StX.set (h : StX X w1 w TB L) {id st en : Int} (hid : i64ok id) (hs : i64k st) (he : i64k en) : Calls Try.prog 18 #[.pointer (some ⟨TB, 0, none⟩), .int .i64 id, .int .i64 st, .int .i64 en] w fun e w' => e = .returned (.bool (hasF L id)) ∧ StX X w1 w' TB (setF L id st en) ∧ KeptX X w w' := by
  obtain ⟨T, h1, h2, h3, h4⟩ := h
  exact (fset_any h1 hid hs he).mono fun e w' ⟨he, hp⟩ => ⟨he, StX.ofPost h2 h3 h4 hp⟩
theorem StX.taken (h : StX X w1 w TB L) {k : Ky} (hk : KyOk k) : Calls Try.prog 17 #[.pointer (some ⟨TB, 0, none⟩), .agg (KA k)] w fun e w' => e = .returned (.bool (takF L k)) ∧ StX X w1 w' TB L ∧ KeptX X w w' := by
  have h0 := h
  obtain ⟨T, ⟨g, W, hp, Bw, Mo, Mk, Tw, h1⟩, h2, h3, h4⟩ := h
  have := taken_any h1 hk
  rw [tak_gk] at this
  exact this.mono fun e w' ⟨he, hb⟩ => ⟨he, h0.below hb⟩
theorem StX.list (h : StX X w1 w TB L) : Calls Try.prog 11 #[.pointer (some ⟨TB, 0, none⟩)] w fun e w' => ∃ A c, e = .returned (.slice A L.length c) ∧ Sl w' 20 fcells A L.length L ∧ (∀ b off sp, A = some ⟨b, off, sp⟩ → w.heap.size ≤ b) ∧ StX X w1 w' TB L ∧ KeptX X w w' := by
  have h0 := h
  obtain ⟨T, ⟨g, W, hp, h1⟩, h2, h3, h4⟩ := h
  exact (list_any g h1).mono fun e w' ⟨v, he, hr, hb⟩ => by
    obtain ⟨A, c, rfl, hS, hA⟩ := sl_of_own f20_len hr rfl
    exact ⟨A, c, he, hS, hA, h0.below hb⟩
end

/-! ### what the law counts -/
def cntF (L : List Fl) : Nat := (L.filter openF).length
theorem add_e (L : List Fl) (f : Fl) : (addF L f).e = 0 ∨ (addF L f).e = 63 ∨ (addF L f).e = 120 := by
  unfold addF
  split
  · exact .inr (.inl rfl)
  · split
    · exact .inl rfl
    · split
      · exact .inr (.inr rfl)
      · exact .inl rfl
theorem add_0 {L : List Fl} {f : Fl} (h : (addF L f).e = 0) : takF (addF L f).L f.op = true ∧ f.op ≠ f.bk := by
  unfold addF at h ⊢
  split at h
  · cases h
  · rename_i hb
    have hb : badF L f = false := by simpa using hb
    rw [if_neg (by simp [hb])]
    have hx : ∀ M : List Fl, takF (insF M f) f.op = true := fun M => List.any_eq_true.2 ⟨{ f with id := (preF 0 M : Int) + 1 }, ins_mem.2 (.inl rfl), by simp [hitF]⟩
    split at h
    · rename_i hl
      rw [if_pos hl]
      exact ⟨hx L, (bad_false hb).1⟩
    · rename_i hl
      rw [if_neg hl]
      split at h
      · cases h
      · exact ⟨hx _, (bad_false hb).1⟩
theorem add_120 {L : List Fl} (g : GoodF L) {f : Fl} (h : (addF L f).e = 120) : L.length = 48 ∧ (addF L f).L = L ∧ cntF L = 0 := by
  have hg := g.ln
  unfold addF at h ⊢
  split at h
  · cases h
  · rename_i hb
    rw [if_neg hb]
    split at h
    · cases h
    · rename_i hl
      rw [if_neg hl]
      split at h
      · rename_i hw
        refine ⟨by omega, rfl, ?_⟩
        unfold cntF
        rw [List.filter_eq_nil_iff.2]
        · rfl
        · intro x hx
          rw [weak_none hw x hx]
          simp
      · cases h
end Go.Proofs.Ytdgodndaaenafaa
