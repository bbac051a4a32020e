/- A table that a law has made: what each call makes of it; by-name template. -/
import Derived.Test.YtdgodndaaenafaaFoA
namespace Go.Proofs.Ytdgodndaaenafaa
open Go.RowKit Go.Lib Go.Maps
set_option linter.unusedVariables false
set_option linter.unusedSimpArgs false

def St (w1 w : World) (TB : Nat) (L : List Fl) : Prop := ∃ T, TAt w T TB L ∧ (∀ k, T k → w1.heap.size ≤ k) ∧ Below w1.heap.size w1 w
section
variable {w1 w w' : World} {TB : Nat} {L L' : List Fl}
theorem St.good (h : St w1 w TB L) : GoodF L := by obtain ⟨T, h, _⟩ := h; exact h.1
theorem St.bel (h : St w1 w TB L) : Below w1.heap.size w1 w := by obtain ⟨T, _, _, h⟩ := h; exact h
theorem St.below (h : St w1 w TB L) (b : Below w.heap.size w w') : St w1 w' TB L := by
  obtain ⟨T, h1, h2, h3⟩ := h
  exact ⟨T, h1.below b, h2, bel_via h3 b⟩
theorem St.dr (h : St w1 w TB L) : St w1 w.drew TB L := h.below (bel_dr (Below.refl _ _))
theorem St.ofPost {T : Nat → Prop} (h2 : ∀ k, T k → w1.heap.size ≤ k) (h3 : Below w1.heap.size w1 w) (h : FPost w T TB L' w') : St w1 w' TB L' := by
  obtain ⟨T', h1, o, ht⟩ := h
  refine ⟨T', h1, fun k hk => ?_, h3.trans (o.toBelow h2 h3.size)⟩
  rcases ht k hk with q | q
  · exact h2 k q
  · have := h3.size; omega
theorem St.ofOff {T : Nat → Prop} (h2 : ∀ k, T k → w1.heap.size ≤ k) (h3 : Below w1.heap.size w1 w) (h1 : TAt w' T TB L') (o : OffS T w w') : St w1 w' TB L' := ⟨T, h1, h2, h3.trans (o.toBelow h2 h3.size)⟩

theorem st_new (w : World) : Calls Try.prog 8 #[] w fun e w' => ∃ TB, e = .returned (.pointer (some ⟨TB, 0, none⟩)) ∧ St w w' TB [] :=
  (fnew_any w).mono fun e w' ⟨TB, T, he, h1, h2, h3⟩ => ⟨TB, he, T, h1, h2, h3⟩
theorem St.add (h : St w1 w TB L) {f : Fl} (hf : FlOk f) : Calls Try.prog 9 #[.pointer (some ⟨TB, 0, none⟩), .agg (FA f)] w fun e w' => e = .returned (.tuple #[.int .i64 (addF L f).id, .int .i64 (addF L f).gone, .int .i64 (addF L f).e]) ∧ St w1 w' TB (addF L f).L := by
  obtain ⟨T, h1, h2, h3⟩ := h
  exact (add_any h1 hf).mono fun e w' ⟨he, hp⟩ => ⟨he, St.ofPost h2 h3 hp⟩
theorem St.set (h : St w1 w TB L) {id st en : Int} (hid : i64ok id) (hs : i64k st) (he : i64k en) : Calls Try.prog 18 #[.pointer (some ⟨TB, 0, none⟩), .int .i64 id, .int .i64 st, .int .i64 en] w fun e w' => e = .returned (.bool (hasF L id)) ∧ St w1 w' TB (setF L id st en) := by
  obtain ⟨T, h1, h2, h3⟩ := h
  exact (fset_any h1 hid hs he).mono fun e w' ⟨he, hp⟩ => ⟨he, St.ofPost h2 h3 hp⟩
theorem St.drop (h : St w1 w TB L) {id : Int} (hid : i64ok id) : Calls Try.prog 16 #[.pointer (some ⟨TB, 0, none⟩), .int .i64 id] w fun e w' => e = .returned (.bool (hasF L id)) ∧ St w1 w' TB (remF L id) := by
  obtain ⟨T, h1, h2, h3⟩ := h
  exact (drop_any h1 hid).mono fun e w' ⟨he, hp, ho⟩ => ⟨he, St.ofOff h2 h3 hp ho⟩
theorem St.due (h : St w1 w TB L) {now : Int} : Calls Try.prog 12 #[.pointer (some ⟨TB, 0, none⟩), .int .i64 now] w fun e w' => ∃ v, e = .returned v ∧ w'.ownsRow w.heap.size 3 1 v (dueL L now).length ((dueL L now).map vI) ∧ St w1 w' TB (lefF L now) := by
  obtain ⟨T, h1, h2, h3⟩ := h
  exact (fdue_any h1).mono fun e w' ⟨v, he, hr, hp, ho⟩ => ⟨v, he, hr, St.ofOff h2 h3 hp ho⟩
theorem St.find (h : St w1 w TB L) {k : Ky} (hk : KyOk k) : Calls Try.prog 15 #[.pointer (some ⟨TB, 0, none⟩), .agg (KA k)] w fun e w' => e = .returned (.tuple #[.agg (FA (finF L k)), .bool (takF L k && (finF L k).bk == k), .bool (takF L k)]) ∧ St w1 w' TB L ∧ Below w.heap.size w w' := by
  have h0 := h
  obtain ⟨T, ⟨g, W, hp, h1⟩, h2, h3⟩ := h
  exact (find_any g h1 hk).mono fun e w' ⟨he, hb⟩ => ⟨he, h0.below hb, hb⟩
theorem St.taken (h : St w1 w TB L) {k : Ky} (hk : KyOk k) : Calls Try.prog 17 #[.pointer (some ⟨TB, 0, none⟩), .agg (KA k)] w fun e w' => e = .returned (.bool (takF L k)) ∧ St w1 w' TB L ∧ Below w.heap.size w w' := by
  have h0 := h
  obtain ⟨T, ⟨g, W, hp, Bw, Mo, Mk, Tw, h1⟩, h2, h3⟩ := h
  have := taken_any h1 hk
  rw [tak_gk] at this
  exact this.mono fun e w' ⟨he, hb⟩ => ⟨he, h0.below hb, hb⟩
theorem St.get (h : St w1 w TB L) {id : Int} (hid : i64ok id) : Calls Try.prog 25 #[.pointer (some ⟨TB, 0, none⟩), .int .i64 id] w fun e w' => e = .returned (.tuple #[.agg (FA (getF L id)), .bool (hasF L id)]) ∧ St w1 w' TB L ∧ Below w.heap.size w w' := by
  have h0 := h
  obtain ⟨T, ⟨g, W, hp, Bw, Mo, Mk, Tw, h1⟩, h2, h3⟩ := h
  have := get_any h1 hid
  rw [has_go] at this
  exact this.mono fun e w' ⟨he, hb⟩ => ⟨he, h0.below hb, hb⟩
theorem St.list (h : St w1 w TB L) : Calls Try.prog 11 #[.pointer (some ⟨TB, 0, none⟩)] w fun e w' => ∃ A c, e = .returned (.slice A L.length c) ∧ Sl w' 20 fcells A L.length L ∧ Below w.heap.size w w' ∧ St w1 w' TB L := by
  have h0 := h
  obtain ⟨T, ⟨g, W, hp, h1⟩, h2, h3⟩ := h
  exact (list_any g h1).mono fun e w' ⟨v, he, hr, hb⟩ => by
    obtain ⟨A, c, rfl, hS, _⟩ := sl_of_own f20_len hr rfl
    exact ⟨A, c, he, hS, hb, h0.below hb⟩
end

/-! ### are two flows the same -/
set_option maxRecDepth 100000 in
set_option maxHeartbeats 2000000 in
theorem eq_fl (d : Nat) (f g : Fl) (w : World) : (Op.equalIn (d + 4) 38 (.agg (FA f)) (.agg (FA g))).run Try.prog w = .ok (f == g) w := by
  have hb : (f == g) = ((f.id == g.id) && ((f.op == g.op) && ((f.bk == g.bk) && ((f.ii == g.ii) && ((f.oo == g.oo) && ((f.ru == g.ru) && ((f.st == g.st) && (f.en == g.en)))))))) := by
    obtain ⟨a, b, c, e, u, v, x, y⟩ := f
    obtain ⟨a', b', c', e', u', v', x', y'⟩ := g
    rw [Bool.eq_iff_iff]
    simp
  have h1 := eq_ky d f.op g.op w
  have h2 := eq_ky d f.bk g.bk w
  have p1 : ∀ W, (part 36 (FA f) 1).run Try.prog W = .ok (.agg (KA f.op)) W := fun W => by kernel_rfl
  have p2 : ∀ W, (part 36 (FA g) 1).run Try.prog W = .ok (.agg (KA g.op)) W := fun W => by kernel_rfl
  have p3 : ∀ W, (part 36 (FA f) 8).run Try.prog W = .ok (.agg (KA f.bk)) W := fun W => by kernel_rfl
  have p4 : ∀ W, (part 36 (FA g) 8).run Try.prog W = .ok (.agg (KA g.bk)) W := fun W => by kernel_rfl
  have z0 : ∀ W, (part 3 (FA f) 0).run Try.prog W = .ok (.int .i64 f.id) W := fun W => by kernel_rfl
  have y0 : ∀ W, (part 3 (FA g) 0).run Try.prog W = .ok (.int .i64 g.id) W := fun W => by kernel_rfl
  have z1 : ∀ W, (part 3 (FA f) 15).run Try.prog W = .ok (.int .i64 f.ii) W := fun W => by kernel_rfl
  have y1 : ∀ W, (part 3 (FA g) 15).run Try.prog W = .ok (.int .i64 g.ii) W := fun W => by kernel_rfl
  have z2 : ∀ W, (part 3 (FA f) 16).run Try.prog W = .ok (.int .i64 f.oo) W := fun W => by kernel_rfl
  have y2 : ∀ W, (part 3 (FA g) 16).run Try.prog W = .ok (.int .i64 g.oo) W := fun W => by kernel_rfl
  have z3 : ∀ W, (part 3 (FA f) 17).run Try.prog W = .ok (.int .i64 f.ru) W := fun W => by kernel_rfl
  have y3 : ∀ W, (part 3 (FA g) 17).run Try.prog W = .ok (.int .i64 g.ru) W := fun W => by kernel_rfl
  have z4 : ∀ W, (part 3 (FA f) 18).run Try.prog W = .ok (.int .i64 f.st) W := fun W => by kernel_rfl
  have y4 : ∀ W, (part 3 (FA g) 18).run Try.prog W = .ok (.int .i64 g.st) W := fun W => by kernel_rfl
  have z5 : ∀ W, (part 3 (FA f) 19).run Try.prog W = .ok (.int .i64 f.en) W := fun W => by kernel_rfl
  have y5 : ∀ W, (part 3 (FA g) 19).run Try.prog W = .ok (.int .i64 g.en) W := fun W => by kernel_rfl
  rw [hb]
  generalize FA f = F at *
  generalize FA g = G at *
  rw [run_equalIn_struct w (d + 3) 38 _ _ (by kernel_rfl) (by kernel_rfl)]
  rw [show (Try.prog.fieldsOf 38).toList = [{ name := "ID", type := 3, offset := 0, embedded := false, tag := "", pkgPath := "", byteOffset := 0 }, { name := "Open", type := 36, offset := 1, embedded := false, tag := "", pkgPath := "", byteOffset := 8 }, { name := "Back", type := 36, offset := 8, embedded := false, tag := "", pkgPath := "", byteOffset := 64 }, { name := "In", type := 3, offset := 15, embedded := false, tag := "", pkgPath := "", byteOffset := 120 }, { name := "Out", type := 3, offset := 16, embedded := false, tag := "", pkgPath := "", byteOffset := 128 }, { name := "Rule", type := 3, offset := 17, embedded := false, tag := "", pkgPath := "", byteOffset := 136 }, { name := "State", type := 3, offset := 18, embedded := false, tag := "", pkgPath := "", byteOffset := 144 }, { name := "Ends", type := 3, offset := 19, embedded := false, tag := "", pkgPath := "", byteOffset := 152 }] from by kernel_rfl]
  rw [eqF_cons (by decide) (z0 w) (y0 w) (run_equalIn_int w (d + 2) 3 .i64 .i64 f.id g.id Try.underlying3)]
  rw [eqF_cons (by decide) (p1 w) (p2 w) h1]
  rw [eqF_cons (by decide) (p3 w) (p4 w) h2]
  rw [eqF_cons (by decide) (z1 w) (y1 w) (run_equalIn_int w (d + 2) 3 .i64 .i64 f.ii g.ii Try.underlying3)]
  rw [eqF_cons (by decide) (z2 w) (y2 w) (run_equalIn_int w (d + 2) 3 .i64 .i64 f.oo g.oo Try.underlying3)]
  rw [eqF_cons (by decide) (z3 w) (y3 w) (run_equalIn_int w (d + 2) 3 .i64 .i64 f.ru g.ru Try.underlying3)]
  rw [eqF_cons (by decide) (z4 w) (y4 w) (run_equalIn_int w (d + 2) 3 .i64 .i64 f.st g.st Try.underlying3)]
  rw [eqF_cons (by decide) (z5 w) (y5 w) (run_equalIn_int w (d + 2) 3 .i64 .i64 f.en g.en Try.underlying3)]
  cases (f.id == g.id)
  · rfl
  cases (f.op == g.op)
  · rfl
  cases (f.bk == g.bk)
  · rfl
  cases (f.ii == g.ii)
  · rfl
  cases (f.oo == g.oo)
  · rfl
  cases (f.ru == g.ru)
  · rfl
  cases (f.st == g.st)
  · rfl
  cases (f.en == g.en) <;> rfl
theorem neq_fl (f g : Fl) (w : World) : (binOp .neq 38 (.agg (FA f)) (.agg (FA g))).run Try.prog w = .ok (.bool (!(f == g))) w := by
  rw [run_neq_struct]
  rw [show (10000 : Nat) = 9996 + 4 from rfl, eq_fl 9996 f g w]
  rfl
end Go.Proofs.Ytdgodndaaenafaa
