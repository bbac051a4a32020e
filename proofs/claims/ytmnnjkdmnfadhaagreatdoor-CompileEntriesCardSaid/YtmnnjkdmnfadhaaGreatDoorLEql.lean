/- == on addresses and ranges; by-name template (gen_lrte.py). -/
import Derived.Test.YtmnnjkdmnfadhaaGreatDoorLBase
import Derived.Laws.StructEq
namespace Go.Proofs.YtmnnjkdmnfadhaaGreatDoor
open Go.RowKit Go.Lib Go.Sort
set_option maxRecDepth 100000
set_option linter.unusedVariables false
set_option linter.unusedSimpArgs false

theorem eqF_cons {P : Program} {d : Nat} {xs ys : Array Value} {f : Field} {fs : List Field} {w : World} {a b : Value} {r : Bool} (hn : f.name ≠ "_") (h1 : (part f.type xs f.offset).run P w = .ok a w) (h2 : (part f.type ys f.offset).run P w = .ok b w) (h3 : (Op.equalIn d f.type a b).run P w = .ok r w) :
    (Op.eqFields d xs ys (f :: fs)).run P w = if r = true then (Op.eqFields d xs ys fs).run P w else .ok false w := by
  conv => lhs; unfold Op.eqFields
  rw [if_pos hn]
  simp only [Sem.run_bind, h1, h2, h3, Result.andThen_ok]
  cases r <;> rfl
def eqR (r s : R4) : Bool := (r.fh == s.fh && r.fl == s.fl) && (r.th == s.th && r.tl == s.tl)
theorem eq_addr (d : Nat) (a b x y : Int) (w : World) : (Op.equalIn (d + 2) 36 (.agg #[.int .u64 a, .int .u64 b]) (.agg #[.int .u64 x, .int .u64 y])).run Tryz.prog w = .ok (a == x && b == y) w := by
  rw [run_equalIn_struct w (d + 1) 36 _ _ (by kernel_rfl) (by kernel_rfl)]
  rw [show (Tryz.prog.fieldsOf 36).toList = [{ name := "Hi", type := 34, offset := 0, embedded := false, tag := "", pkgPath := "", byteOffset := 0 }, { name := "Lo", type := 34, offset := 1, embedded := false, tag := "", pkgPath := "", byteOffset := 8 }] from by kernel_rfl]
  rw [eqF_cons (by decide) (show _ = Result.ok (.int .u64 a) w by kernel_rfl) (show _ = Result.ok (.int .u64 x) w by kernel_rfl) (run_equalIn_int w d 34 .u64 .u64 a x Tryz.underlying34)]
  rw [eqF_cons (by decide) (show _ = Result.ok (.int .u64 b) w by kernel_rfl) (show _ = Result.ok (.int .u64 y) w by kernel_rfl) (run_equalIn_int w d 34 .u64 .u64 b y Tryz.underlying34)]
  cases (a == x) <;> cases (b == y) <;> rfl
theorem eq_rng (d : Nat) (r s : R4) (w : World) : (Op.equalIn (d + 3) 45 (.agg #[.int .u64 r.fh, .int .u64 r.fl, .int .u64 r.th, .int .u64 r.tl]) (.agg #[.int .u64 s.fh, .int .u64 s.fl, .int .u64 s.th, .int .u64 s.tl])).run Tryz.prog w = .ok (eqR r s) w := by
  rw [run_equalIn_struct w (d + 2) 45 _ _ (by kernel_rfl) (by kernel_rfl)]
  rw [show (Tryz.prog.fieldsOf 45).toList = [{ name := "From", type := 36, offset := 0, embedded := false, tag := "", pkgPath := "", byteOffset := 0 }, { name := "To", type := 36, offset := 2, embedded := false, tag := "", pkgPath := "", byteOffset := 16 }] from by kernel_rfl]
  rw [eqF_cons (by decide) (show _ = Result.ok (.agg #[.int .u64 r.fh, .int .u64 r.fl]) w by kernel_rfl) (show _ = Result.ok (.agg #[.int .u64 s.fh, .int .u64 s.fl]) w by kernel_rfl) (eq_addr d r.fh r.fl s.fh s.fl w)]
  rw [eqF_cons (by decide) (show _ = Result.ok (.agg #[.int .u64 r.th, .int .u64 r.tl]) w by kernel_rfl) (show _ = Result.ok (.agg #[.int .u64 s.th, .int .u64 s.tl]) w by kernel_rfl) (eq_addr d r.th r.tl s.th s.tl w)]
  unfold eqR
  cases (r.fh == s.fh && r.fl == s.fl) <;> cases (r.th == s.th && r.tl == s.tl) <;> rfl
theorem eqR_iff (r s : R4) : eqR r s = true ↔ r = s := by
  obtain ⟨a, b, c, d⟩ := r
  obtain ⟨x, y, z, u⟩ := s
  simp [eqR, and_assoc]
def rv (r : R4) : Value := .agg #[.int .u64 r.fh, .int .u64 r.fl, .int .u64 r.th, .int .u64 r.tl]
theorem eql_rng (r s : R4) (w : World) : (binOp .eql 45 (.agg #[.int .u64 r.fh, .int .u64 r.fl, .int .u64 r.th, .int .u64 r.tl]) (.agg #[.int .u64 s.fh, .int .u64 s.fl, .int .u64 s.th, .int .u64 s.tl])).run Tryz.prog w = .ok (.bool (eqR r s)) w := by
  rw [run_eql_struct, show (10000 : Nat) = 9997 + 3 from rfl, eq_rng 9997 r s w]; rfl
theorem neq_rng (r s : R4) (w : World) : (binOp .neq 45 (.agg #[.int .u64 r.fh, .int .u64 r.fl, .int .u64 r.th, .int .u64 r.tl]) (.agg #[.int .u64 s.fh, .int .u64 s.fl, .int .u64 s.th, .int .u64 s.tl])).run Tryz.prog w = .ok (.bool (!eqR r s)) w := by
  rw [run_neq_struct, show (10000 : Nat) = 9997 + 3 from rfl, eq_rng 9997 r s w]; rfl
theorem eql_adr (a b x y : Int) (w : World) : (binOp .eql 36 (.agg #[.int .u64 a, .int .u64 b]) (.agg #[.int .u64 x, .int .u64 y])).run Tryz.prog w = .ok (.bool (a == x && b == y)) w := by
  rw [run_eql_struct, show (10000 : Nat) = 9998 + 2 from rfl, eq_addr 9998 a b x y w]; rfl
theorem neq_adr (a b x y : Int) (w : World) : (binOp .neq 36 (.agg #[.int .u64 a, .int .u64 b]) (.agg #[.int .u64 x, .int .u64 y])).run Tryz.prog w = .ok (.bool (!(a == x && b == y))) w := by
  rw [run_neq_struct, show (10000 : Nat) = 9998 + 2 from rfl, eq_addr 9998 a b x y w]; rfl
end Go.Proofs.YtmnnjkdmnfadhaaGreatDoor
