/- What a plan says; by-name template (gen_na.py). -/
import Derived.Test.YtokbmahnjmmcaaaNaR2
import Derived.Test.YtokbmahnjmmcaaaRHeavy
namespace Go.Proofs.Ytokbmahnjmmcaaa
open Go.RowKit Go.Lib Go.Maps
set_option linter.unusedVariables false
set_option linter.unusedSimpArgs false

theorem d3_ou (c : CF) (inn : Int) (k : KR) : ∃ a b, (d3 c inn k 0).ou = { judK c k with sh := a, sl := b } ∨ (d3 c inn k 0).ou = zK ∧ False := by
  rcases src_place c (routeP c (judK c k).dh (judK c k).dl).2 (judK c k) with hs | ⟨i, n, hs, hn⟩
  · rw [d3_hair hs]
    unfold hairD
    split
    · exact ⟨_, _, .inl rfl⟩
    · split
      · exact ⟨_, _, .inl rfl⟩
      · rename_i z _
        split
        · refine ⟨z.ah, z.al, .inl ?_⟩
          unfold lookD
          split <;> rfl
        · exact ⟨_, _, .inl rfl⟩
  · rw [d3_nat hs hn]
    refine ⟨n.oh, n.ol, .inl ?_⟩
    split
    · unfold lookD
      split <;> rfl
    · rfl
theorem make_cases (c : CF) (inn : Int) (k : KR) (tk : List KR) : ((makeP c inn k tk).2 ≠ 0 ∧ (makeP c inn k tk).1 = zP) ∨
    ((makeP c inn k tk).2 = 0 ∧ ∃ r, (makeP c inn k tk).1 = pO c k r (turnK r) ∧ freeB (turnK r) k tk = true ∧ r.proto = k.proto ∧ r.dh = (judK c k).dh ∧ r.dl = (judK c k).dl) := by
  by_cases h1 : (routeP c (judK c k).dh (judK c k).dl).1 = -1
  · left; unfold makeP; rw [if_pos h1]; exact ⟨by simp, rfl⟩
  by_cases h2 : (routeP c (judK c k).dh (judK c k).dl).2 = -1
  · left; unfold makeP; rw [if_neg h1, if_pos h2]; exact ⟨by simp, rfl⟩
  rw [make_rest h1 h2]
  cases hq : portQ (d3 c inn k 0) tk with
  | none => left; exact ⟨by simp, rfl⟩
  | some r =>
    right
    refine ⟨rfl, r, rfl, ?_⟩
    obtain ⟨a, b, ho⟩ := d3_ou c inn k
    have ho := ho.resolve_right (fun h => h.2)
    unfold portQ at hq
    have hop := d3_op c inn k 0
    split at hq
    · obtain ⟨f, p, e⟩ := scan_free _ _ hq
      rw [hop] at f
      refine ⟨f, ?_⟩
      rw [e, ho]
      unfold tryK
      split <;> exact ⟨rfl, rfl, rfl⟩
    · split at hq
      · rename_i hf
        cases hq
        rw [hop] at hf
        refine ⟨hf, ?_⟩
        rw [ho]
        exact ⟨rfl, rfl, rfl⟩
      · cases hq
theorem eql_ad (a b x y : Int) (w : World) : (binOp .eql 33 (.agg #[.int .u64 a, .int .u64 b]) (.agg #[.int .u64 x, .int .u64 y])).run Try.prog w = .ok (.bool (a == x && b == y)) w := by
  rw [run_eql_struct]
  rw [show (10000 : Nat) = 9998 + 2 from rfl, eq_adr 9998 a b x y w]
  rfl
theorem zeroPl (w : World) : (binOp .eql 38 (.agg (PA zP)) (.agg #[.int .i64 0, .int .u64 0, .int .u64 0, .int .u64 0, .int .u64 0, .int .i64 0, .int .i64 0, .int .i64 0, .int .u64 0, .int .u64 0, .int .u64 0, .int .u64 0, .int .i64 0, .int .i64 0, .int .i64 0, .int .u64 0, .int .u64 0, .int .u64 0, .int .u64 0, .int .i64 0, .int .i64 0, .int .i64 0, .int .u64 0, .int .u64 0, .int .u64 0, .int .u64 0, .int .i64 0, .int .i64 0, .int .i64 0, .int .u64 0, .int .u64 0, .int .u64 0, .int .u64 0, .int .i64 0, .int .i64 0, .int .i64 0, .int .i64 0])).run Try.prog w = .ok (.bool true) w := by kernel_rfl
def LawP (w : World) (e : Ending) (w' : World) : Prop := e = .returned (.bool true) ∧ Below w.heap.size w w'
end Go.Proofs.Ytokbmahnjmmcaaa
