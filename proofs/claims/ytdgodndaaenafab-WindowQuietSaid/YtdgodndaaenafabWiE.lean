/- A connection is the same as itself; theirs; by-name template. -/
import Derived.Test.YtdgodndaaenafabWiK
import Derived.Laws.StructEq
namespace Go.Proofs.Ytdgodndaaenafab
open Go.RowKit Go.Lib Go.Sort
set_option linter.unusedVariables false
set_option linter.unusedSimpArgs false

theorem eqF_cons {P : Program} {d : Nat} {xs ys : Array Value} {f : Field} {fs : List Field} {w : World} {a b : Value} {r : Bool} (hn : f.name ≠ "_") (h1 : (part f.type xs f.offset).run P w = .ok a w) (h2 : (part f.type ys f.offset).run P w = .ok b w) (h3 : (Op.equalIn d f.type a b).run P w = .ok r w) :
    (Op.eqFields d xs ys (f :: fs)).run P w = if r = true then (Op.eqFields d xs ys fs).run P w else .ok false w := by
  conv => lhs; unfold Op.eqFields
  rw [if_pos hn]
  simp only [Sem.run_bind, h1, h2, h3, Result.andThen_ok]
  cases r <;> rfl
def sdFs : List Field := [{ name := "Seen", type := 4, offset := 0, embedded := false, tag := "", pkgPath := "", byteOffset := 0 }, { name := "End", type := 22, offset := 1, embedded := false, tag := "", pkgPath := "", byteOffset := 4 }, { name := "Most", type := 22, offset := 2, embedded := false, tag := "", pkgPath := "", byteOffset := 8 }, { name := "Fin", type := 4, offset := 3, embedded := false, tag := "", pkgPath := "", byteOffset := 12 }]
def cnFs : List Field := [{ name := "State", type := 3, offset := 0, embedded := false, tag := "", pkgPath := "", byteOffset := 0 }, { name := "A", type := 27, offset := 1, embedded := false, tag := "", pkgPath := "", byteOffset := 8 }, { name := "B", type := 27, offset := 5, embedded := false, tag := "", pkgPath := "", byteOffset := 24 }]
theorem eq_sd (d : Nat) (s : SD) (w : World) : (Op.equalIn (d + 2) 27 (.agg (SA s)) (.agg (SA s))).run Try.prog w = .ok true w := by
  rw [run_equalIn_struct w (d + 1) 27 _ _ (by kernel_rfl) (by kernel_rfl)]
  rw [show (Try.prog.fieldsOf 27).toList = sdFs by kernel_rfl]
  unfold sdFs
  rw [eqF_cons (by decide) (show _ = Result.ok (.bool s.seen) w by kernel_rfl) (show _ = Result.ok (.bool s.seen) w by kernel_rfl) (run_equalIn_bool w d 4 s.seen s.seen Try.underlying4)]
  rw [eqF_cons (by decide) (show _ = Result.ok (.int .u32 s.e) w by kernel_rfl) (show _ = Result.ok (.int .u32 s.e) w by kernel_rfl) (run_equalIn_int w d 22 .u32 .u32 s.e s.e Try.underlying22)]
  rw [eqF_cons (by decide) (show _ = Result.ok (.int .u32 s.m) w by kernel_rfl) (show _ = Result.ok (.int .u32 s.m) w by kernel_rfl) (run_equalIn_int w d 22 .u32 .u32 s.m s.m Try.underlying22)]
  rw [eqF_cons (by decide) (show _ = Result.ok (.bool s.fin) w by kernel_rfl) (show _ = Result.ok (.bool s.fin) w by kernel_rfl) (run_equalIn_bool w d 4 s.fin s.fin Try.underlying4)]
  simp only [beq_self_eq_true, if_true]
  rfl
theorem eq_cn (d : Nat) (c : CN) (w : World) : (Op.equalIn (d + 3) 29 (.agg (CA c)) (.agg (CA c))).run Try.prog w = .ok true w := by
  rw [run_equalIn_struct w (d + 2) 29 _ _ (by kernel_rfl) (by kernel_rfl)]
  rw [show (Try.prog.fieldsOf 29).toList = cnFs by kernel_rfl]
  unfold cnFs
  rw [eqF_cons (by decide) (show _ = Result.ok (.int .i64 c.st) w by kernel_rfl) (show _ = Result.ok (.int .i64 c.st) w by kernel_rfl) (run_equalIn_int w (d + 1) 3 .i64 .i64 c.st c.st Try.underlying3)]
  rw [eqF_cons (by decide) (show _ = Result.ok (.agg (SA c.a)) w by kernel_rfl) (show _ = Result.ok (.agg (SA c.a)) w by kernel_rfl) (eq_sd d c.a w)]
  rw [eqF_cons (by decide) (show _ = Result.ok (.agg (SA c.b)) w by kernel_rfl) (show _ = Result.ok (.agg (SA c.b)) w by kernel_rfl) (eq_sd d c.b w)]
  simp only [beq_self_eq_true, if_true]
  rfl
theorem eql_cn (c : CN) (w : World) : (binOp .eql 29 (.agg (CA c)) (.agg (CA c))).run Try.prog w = .ok (.bool true) w := by
  rw [run_eql_struct]
  rw [show (10000 : Nat) = 9997 + 3 from rfl, eq_cn 9997 c w]
  rfl
theorem neq_cn (c : CN) (w : World) : (binOp .neq 29 (.agg (CA c)) (.agg (CA c))).run Try.prog w = .ok (.bool false) w := by
  rw [run_neq_struct]
  rw [show (10000 : Nat) = 9997 + 3 from rfl, eq_cn 9997 c w]
  rfl
theorem theirs_any (c : CN) (w : World) : Calls Try.prog 13 #[.agg (CA c)] w fun e w' => e = .returned (.agg (CA c)) ∧ Below w.heap.size w w' := by
  unfold CA
  go_enter Try.func13, Try.ntmps13
  go_wp2
  refine bodyPost_ret_by (results_cell_row Try.results13 _ _ (w.heap.size + 1) 35 #[.int .i64 c.st, .bool c.a.seen, .int .u32 c.a.e, .int .u32 c.a.m, .bool c.a.fin, .bool c.b.seen, .int .u32 c.b.e, .int .u32 c.b.m, .bool c.b.fin] (0, 0) _ rfl (blk_new2 _ _ (by simp)) Try.underlying35 rfl (by kernel_rfl)) rfl ⟨rfl, Below.al (bel_al _ _) (by simp) _⟩
end Go.Proofs.Ytdgodndaaenafab
