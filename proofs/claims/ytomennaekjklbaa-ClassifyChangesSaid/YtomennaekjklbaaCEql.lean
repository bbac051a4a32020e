/- Boxes: the same or not; by-name template (gen_ceql.py). -/
import Derived.Test.YtomennaekjklbaaCMBox
import Derived.Laws.StructEq
namespace Go.Proofs.Ytomennaekjklbaa
open Go.RowKit Go.Lib Go.Sort
set_option maxRecDepth 100000
set_option linter.unusedVariables false
set_option linter.unusedSimpArgs false

theorem eqF_cons {P : Program} {d : Nat} {xs ys : Array Value} {f : Field} {fs : List Field} {w : World} {a b : Value} {r : Bool} (hn : f.name ≠ "_") (h1 : (part f.type xs f.offset).run P w = .ok a w) (h2 : (part f.type ys f.offset).run P w = .ok b w) (h3 : (Op.equalIn d f.type a b).run P w = .ok r w) :
    (Op.eqFields d xs ys (f :: fs)).run P w = if r = true then (Op.eqFields d xs ys fs).run P w else .ok false w := by
  conv => lhs; unfold Op.eqFields
  rw [if_pos hn]
  simp only [Sem.run_bind, h1, h2, h3, Result.andThen_ok]
  cases r <;> rfl
def eqR (r s : R4) : Bool := (r.fh == s.fh && r.fl == s.fl) && (r.th == s.th && r.tl == s.tl)
theorem eq_addr (d : Nat) (a b x y : Int) (w : World) : (Op.equalIn (d + 2) 25 (.agg #[.int .u64 a, .int .u64 b]) (.agg #[.int .u64 x, .int .u64 y])).run Try.prog w = .ok (a == x && b == y) w := by
  rw [run_equalIn_struct w (d + 1) 25 _ _ (by kernel_rfl) (by kernel_rfl)]
  rw [show (Try.prog.fieldsOf 25).toList = [{ name := "Hi", type := 23, offset := 0, embedded := false, tag := "", pkgPath := "", byteOffset := 0 }, { name := "Lo", type := 23, offset := 1, embedded := false, tag := "", pkgPath := "", byteOffset := 8 }] from by kernel_rfl]
  rw [eqF_cons (by decide) (show _ = Result.ok (.int .u64 a) w by kernel_rfl) (show _ = Result.ok (.int .u64 x) w by kernel_rfl) (run_equalIn_int w d 23 .u64 .u64 a x Try.underlying23)]
  rw [eqF_cons (by decide) (show _ = Result.ok (.int .u64 b) w by kernel_rfl) (show _ = Result.ok (.int .u64 y) w by kernel_rfl) (run_equalIn_int w d 23 .u64 .u64 b y Try.underlying23)]
  cases (a == x) <;> cases (b == y) <;> rfl
theorem eq_rng (d : Nat) (r s : R4) (w : World) : (Op.equalIn (d + 3) 27 (.agg #[.int .u64 r.fh, .int .u64 r.fl, .int .u64 r.th, .int .u64 r.tl]) (.agg #[.int .u64 s.fh, .int .u64 s.fl, .int .u64 s.th, .int .u64 s.tl])).run Try.prog w = .ok (eqR r s) w := by
  rw [run_equalIn_struct w (d + 2) 27 _ _ (by kernel_rfl) (by kernel_rfl)]
  rw [show (Try.prog.fieldsOf 27).toList = [{ name := "From", type := 25, offset := 0, embedded := false, tag := "", pkgPath := "", byteOffset := 0 }, { name := "To", type := 25, offset := 2, embedded := false, tag := "", pkgPath := "", byteOffset := 16 }] from by kernel_rfl]
  rw [eqF_cons (by decide) (show _ = Result.ok (.agg #[.int .u64 r.fh, .int .u64 r.fl]) w by kernel_rfl) (show _ = Result.ok (.agg #[.int .u64 s.fh, .int .u64 s.fl]) w by kernel_rfl) (eq_addr d r.fh r.fl s.fh s.fl w)]
  rw [eqF_cons (by decide) (show _ = Result.ok (.agg #[.int .u64 r.th, .int .u64 r.tl]) w by kernel_rfl) (show _ = Result.ok (.agg #[.int .u64 s.th, .int .u64 s.tl]) w by kernel_rfl) (eq_addr d r.th r.tl s.th s.tl w)]
  unfold eqR
  cases (r.fh == s.fh && r.fl == s.fl) <;> cases (r.th == s.th && r.tl == s.tl) <;> rfl
def eqB (a b : Nat → R4) : Bool := eqR (a 0) (b 0) && (eqR (a 1) (b 1) && (eqR (a 2) (b 2) && (eqR (a 3) (b 3) && (eqR (a 4) (b 4) && eqR (a 5) (b 5)))))
set_option maxHeartbeats 1000000 in
theorem eq_arrD (D : Nat) (a b : Nat → R4) (w : World) (E : ∀ (r s : R4) (w : World), (Op.equalIn D 27 (.agg #[.int .u64 r.fh, .int .u64 r.fl, .int .u64 r.th, .int .u64 r.tl]) (.agg #[.int .u64 s.fh, .int .u64 s.fl, .int .u64 s.th, .int .u64 s.tl])).run Try.prog w = .ok (eqR r s) w) : (Op.equalIn (D + 1) 28 (.agg (bxc a)) (.agg (bxc b))).run Try.prog w = .ok (eqB a b) w := by
  have hs : ∀ W, (Go.sizeOf 27).run Try.prog W = .ok 4 W := fun W => by kernel_rfl
  have e0 := E (a 0) (b 0)
  have e1 := E (a 1) (b 1)
  have e2 := E (a 2) (b 2)
  have e3 := E (a 3) (b 3)
  have e4 := E (a 4) (b 4)
  have e5 := E (a 5) (b 5)
  have pa0 : ∀ W, (part 27 (bxc a) (0 * 4)).run Try.prog W = .ok (.agg #[.int .u64 (a 0).fh, .int .u64 (a 0).fl, .int .u64 (a 0).th, .int .u64 (a 0).tl]) W := fun W => by kernel_rfl
  have pb0 : ∀ W, (part 27 (bxc b) (0 * 4)).run Try.prog W = .ok (.agg #[.int .u64 (b 0).fh, .int .u64 (b 0).fl, .int .u64 (b 0).th, .int .u64 (b 0).tl]) W := fun W => by kernel_rfl
  have pa1 : ∀ W, (part 27 (bxc a) (1 * 4)).run Try.prog W = .ok (.agg #[.int .u64 (a 1).fh, .int .u64 (a 1).fl, .int .u64 (a 1).th, .int .u64 (a 1).tl]) W := fun W => by kernel_rfl
  have pb1 : ∀ W, (part 27 (bxc b) (1 * 4)).run Try.prog W = .ok (.agg #[.int .u64 (b 1).fh, .int .u64 (b 1).fl, .int .u64 (b 1).th, .int .u64 (b 1).tl]) W := fun W => by kernel_rfl
  have pa2 : ∀ W, (part 27 (bxc a) (2 * 4)).run Try.prog W = .ok (.agg #[.int .u64 (a 2).fh, .int .u64 (a 2).fl, .int .u64 (a 2).th, .int .u64 (a 2).tl]) W := fun W => by kernel_rfl
  have pb2 : ∀ W, (part 27 (bxc b) (2 * 4)).run Try.prog W = .ok (.agg #[.int .u64 (b 2).fh, .int .u64 (b 2).fl, .int .u64 (b 2).th, .int .u64 (b 2).tl]) W := fun W => by kernel_rfl
  have pa3 : ∀ W, (part 27 (bxc a) (3 * 4)).run Try.prog W = .ok (.agg #[.int .u64 (a 3).fh, .int .u64 (a 3).fl, .int .u64 (a 3).th, .int .u64 (a 3).tl]) W := fun W => by kernel_rfl
  have pb3 : ∀ W, (part 27 (bxc b) (3 * 4)).run Try.prog W = .ok (.agg #[.int .u64 (b 3).fh, .int .u64 (b 3).fl, .int .u64 (b 3).th, .int .u64 (b 3).tl]) W := fun W => by kernel_rfl
  have pa4 : ∀ W, (part 27 (bxc a) (4 * 4)).run Try.prog W = .ok (.agg #[.int .u64 (a 4).fh, .int .u64 (a 4).fl, .int .u64 (a 4).th, .int .u64 (a 4).tl]) W := fun W => by kernel_rfl
  have pb4 : ∀ W, (part 27 (bxc b) (4 * 4)).run Try.prog W = .ok (.agg #[.int .u64 (b 4).fh, .int .u64 (b 4).fl, .int .u64 (b 4).th, .int .u64 (b 4).tl]) W := fun W => by kernel_rfl
  have pa5 : ∀ W, (part 27 (bxc a) (5 * 4)).run Try.prog W = .ok (.agg #[.int .u64 (a 5).fh, .int .u64 (a 5).fl, .int .u64 (a 5).th, .int .u64 (a 5).tl]) W := fun W => by kernel_rfl
  have pb5 : ∀ W, (part 27 (bxc b) (5 * 4)).run Try.prog W = .ok (.agg #[.int .u64 (b 5).fh, .int .u64 (b 5).fl, .int .u64 (b 5).th, .int .u64 (b 5).tl]) W := fun W => by kernel_rfl
  unfold eqB
  generalize eqR (a 0) (b 0) = R0 at *
  generalize eqR (a 1) (b 1) = R1 at *
  generalize eqR (a 2) (b 2) = R2 at *
  generalize eqR (a 3) (b 3) = R3 at *
  generalize eqR (a 4) (b 4) = R4 at *
  generalize eqR (a 5) (b 5) = R5 at *
  generalize bxc a = A at *
  generalize bxc b = B at *
  clear E
  simp only [Op.equalIn, Sem.run_bind, run_underlying Try.underlying28, Result.andThen_ok, hs]
  rw [Std.Legacy.Range.forIn_eq_forIn_range']
  rw [show List.range' ({ start := 0, stop := 6, step := 1, step_pos := Nat.one_pos } : Std.Legacy.Range).start ({ start := 0, stop := 6, step := 1, step_pos := Nat.one_pos } : Std.Legacy.Range).size ({ start := 0, stop := 6, step := 1, step_pos := Nat.one_pos } : Std.Legacy.Range).step = [0, 1, 2, 3, 4, 5] from rfl]
  simp only [List.forIn_cons, List.forIn_nil]
  simp only [Sem.run_bind, e0, e1, e2, e3, e4, e5, pa0, pb0, pa1, pb1, pa2, pb2, pa3, pb3, pa4, pb4, pa5, pb5, Result.andThen_ok]
  cases R0
  · rfl
  cases R1
  · simp [Sem.run_bind, e0, e1, e2, e3, e4, e5, pa0, pb0, pa1, pb1, pa2, pb2, pa3, pb3, pa4, pb4, pa5, pb5]
  cases R2
  · simp [Sem.run_bind, e0, e1, e2, e3, e4, e5, pa0, pb0, pa1, pb1, pa2, pb2, pa3, pb3, pa4, pb4, pa5, pb5]
  cases R3
  · simp [Sem.run_bind, e0, e1, e2, e3, e4, e5, pa0, pb0, pa1, pb1, pa2, pb2, pa3, pb3, pa4, pb4, pa5, pb5]
  cases R4
  · simp [Sem.run_bind, e0, e1, e2, e3, e4, e5, pa0, pb0, pa1, pb1, pa2, pb2, pa3, pb3, pa4, pb4, pa5, pb5]
  cases R5
  · simp [Sem.run_bind, e0, e1, e2, e3, e4, e5, pa0, pb0, pa1, pb1, pa2, pb2, pa3, pb3, pa4, pb4, pa5, pb5]
  simp [Sem.run_bind, e0, e1, e2, e3, e4, e5, pa0, pb0, pa1, pb1, pa2, pb2, pa3, pb3, pa4, pb4, pa5, pb5]
theorem eq_in (a b : Nat → R4) (w : World) : (Op.equalIn (9999 + 1) 30 (.agg (bxc a)) (.agg (bxc b))).run Try.prog w = .ok (eqB a b) w := by
  have H := eq_arrD 9998 a b w (fun r s W => eq_rng 9995 r s W)
  have pa : ∀ W, (part 28 (bxc a) 0).run Try.prog W = .ok (.agg (bxc a)) W := fun W => by kernel_rfl
  have pb : ∀ W, (part 28 (bxc b) 0).run Try.prog W = .ok (.agg (bxc b)) W := fun W => by kernel_rfl
  generalize bxc a = A at *
  generalize bxc b = B at *
  generalize eqB a b = R at *
  rw [run_equalIn_struct w 9999 30 _ _ (by kernel_rfl) (by kernel_rfl)]
  rw [show (Try.prog.fieldsOf 30).toList = [{ name := "F", type := 28, offset := 0, embedded := false, tag := "", pkgPath := "", byteOffset := 0 }] from by kernel_rfl]
  rw [eqF_cons (by decide) (pa w) (pb w) H]
  cases R <;> rfl
theorem eql_box (a b : Nat → R4) (w : World) : (binOp .eql 30 (.agg (bxc a)) (.agg (bxc b))).run Try.prog w = .ok (.bool (eqB a b)) w := by
  rw [run_eql_struct]
  rw [show (10000 : Nat) = 9999 + 1 from rfl, eq_in a b w]
  rfl
theorem neq_box (a b : Nat → R4) (w : World) : (binOp .neq 30 (.agg (bxc a)) (.agg (bxc b))).run Try.prog w = .ok (.bool (!eqB a b)) w := by
  rw [run_neq_struct]
  rw [show (10000 : Nat) = 9999 + 1 from rfl, eq_in a b w]
  rfl
theorem eqR_iff (r s : R4) : eqR r s = true ↔ r = s := by
  obtain ⟨a, b, c, d⟩ := r
  obtain ⟨x, y, z, u⟩ := s
  simp [eqR, and_assoc]
theorem eqB_iff (a b : Nat → R4) : eqB a b = true ↔ ∀ k, k < 6 → a k = b k := by
  unfold eqB
  simp only [Bool.and_eq_true, eqR_iff]
  constructor
  · rintro ⟨h0, h1, h2, h3, h4, h5⟩ k hk
    match k, hk with
    | 0, _ => exact h0
    | 1, _ => exact h1
    | 2, _ => exact h2
    | 3, _ => exact h3
    | 4, _ => exact h4
    | 5, _ => exact h5
  · intro h
    exact ⟨h 0 (by omega), h 1 (by omega), h 2 (by omega), h 3 (by omega), h 4 (by omega), h 5 (by omega)⟩
end Go.Proofs.Ytomennaekjklbaa
