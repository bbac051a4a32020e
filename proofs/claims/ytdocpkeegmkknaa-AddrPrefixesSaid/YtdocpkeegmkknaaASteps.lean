/- AddrSteps's walk; by-name template. -/
import Derived.Test.YtdocpkeegmkknaaAOrder
import Derived.Test.YtdocpkeegmkknaaANxt
namespace Go.Proofs.Ytdocpkeegmkknaa
open Go.RowKit
set_option linter.unusedVariables false
set_option linter.unusedSimpArgs false

theorem nextT_top : nextT 18446744073709551615 18446744073709551615 = .tuple #[.agg #[.int .u64 0, .int .u64 0], .bool false] := by simp [nextT]

theorem next_parts {ah al : Int} (h0 : Word ah) (h1 : Word al) (h : ¬ (ah = 18446744073709551615 ∧ al = 18446744073709551615)) :
    ∃ nh nl, Word nh ∧ Word nl ∧ nextT ah al = .tuple #[.agg #[.int .u64 nh, .int .u64 nl], .bool true] ∧ prevT nh nl = .tuple #[.agg #[.int .u64 ah, .int .u64 al], .bool true] ∧
      cmpA ah al nh nl = -1 ∧ cmpA nh nl ah al = 1 ∧ ∀ bh bl, Word bl → cmpA ah al bh bl = -1 → ¬ cmpA bh bl nh nl = -1 := by
  obtain ⟨p0, p1⟩ := h0; obtain ⟨q0, q1⟩ := h1
  by_cases k : al = 18446744073709551615
  · subst k
    have h2 : ¬ ah = 18446744073709551615 := fun e => h ⟨e, rfl⟩
    refine ⟨ah + 1, 0, ⟨by omega, by omega⟩, ⟨by omega, by omega⟩, by simp [nextT, h2], ?_, (cmpA_lt _ _ _ _).2 (by omega), (cmpA_gt _ _ _ _).2 (by omega), ?_⟩
    · have : ¬ ah + 1 = 0 := by omega
      simp [prevT, this]
    · intro bh bl hl e f
      have := (cmpA_lt _ _ _ _).1 e
      have := (cmpA_lt _ _ _ _).1 f
      obtain ⟨r0, r1⟩ := hl
      omega
  · refine ⟨ah, al + 1, ⟨by omega, by omega⟩, ⟨by omega, by omega⟩, by simp [nextT, k], ?_, (cmpA_lt _ _ _ _).2 (by omega), (cmpA_gt _ _ _ _).2 (by omega), ?_⟩
    · have : ¬ al + 1 = 0 := by omega
      simp [prevT, this]
    · intro bh bl hl e f
      have := (cmpA_lt _ _ _ _).1 e
      have := (cmpA_lt _ _ _ _).1 f
      omega

set_option maxHeartbeats 2000000 in
theorem steps_any (ah al bh bl : Int) (h0 : Word ah) (h1 : Word al) (h2 : Word bh) (h3 : Word bl) (w : World) : Calls Try.prog 5 #[.agg #[.int .u64 ah, .int .u64 al], .agg #[.int .u64 bh, .int .u64 bl]] w (LawPost w) := by
  unfold LawPost
  go_enter Try.func5, Try.ntmps5
  go_wp2_with fail
  obtain ⟨w0, hw0⟩ : ∃ w0, w0 = (w.alloc (Obj.cells #[Value.int IntKind.u64 ah, Value.int IntKind.u64 al] 24)).alloc (Obj.cells #[Value.int IntKind.u64 bh, Value.int IntKind.u64 bl] 24) := ⟨_, rfl⟩
  have b0 : Below w.heap.size w w0 := by rw [hw0]; repeat (first | exact Below.refl _ _ | apply Below.dr | apply Below.al)
  have l0 : w.heap.size + 1 < w0.heap.size := by rw [hw0]; simp
  have hC : ∀ w', Below w0.heap.size w0 w' → w'.cell? ⟨w.heap.size, 0, none⟩ = some (.int .u64 ah) ∧ w'.cell? ⟨w.heap.size, 1, none⟩ = some (.int .u64 al) ∧ w'.cell? ⟨w.heap.size + 1, 0, none⟩ = some (.int .u64 bh) ∧ w'.cell? ⟨w.heap.size + 1, 1, none⟩ = some (.int .u64 bl) := by
    intro w' h
    refine ⟨keepc h ?_, keepc h ?_, keepc h ?_, keepc h ?_⟩ <;> (rw [hw0]; simp [go_sem, World.cell?_alloc_past])
  rw [← hw0]
  clear hw0
  have cn := next_any ah al h0 h1
  by_cases ht : ah = 18446744073709551615 ∧ al = 18446744073709551615
  · obtain ⟨rfl, rfl⟩ := ht
    rw [nextT_top] at cn
    refine (kept (cn _) (Below.refl _ _) hC).mono ?_
    rintro e w1 ⟨rfl, ⟨k0, k1, k2, k3⟩, hb⟩
    have q0 := fun o => keepc (Below.al (Below.refl _ w1) o) k0
    have q1 := fun o => keepc (Below.al (Below.refl _ w1) o) k1
    have q2 := fun o => keepc (Below.al (Below.refl _ w1) o) k2
    have q3 := fun o => keepc (Below.al (Below.refl _ w1) o) k3
    go_wp2
    go_ret
    exact ⟨rfl, Below.al (bel_via b0 hb) _⟩
  · obtain ⟨nh, nl, wh, wl, hn, hp, hc1, hc2, hno⟩ := next_parts h0 h1 ht
    have cp := prev_any nh nl wh wl
    rw [hn] at cn
    rw [hp] at cp
    have hc0 : cmpA ah al ah al = 0 := (cmpA_eq _ _ _ _).2 ⟨rfl, rfl⟩
    refine (kept (cn _) (Below.refl _ _) hC).mono ?_
    rintro e w1 ⟨rfl, ⟨k0, k1, k2, k3⟩, hb⟩
    have l1 : w.heap.size + 1 < w1.heap.size := by have := hb.size; omega
    obtain ⟨N, hN⟩ : ∃ N, N = w1.heap.size := ⟨_, rfl⟩
    go_wp2_with fail
    rw [← hN]
    obtain ⟨w2, hw2⟩ : ∃ w2, w2 = w1.alloc (Obj.cells #[Value.int IntKind.u64 nh, Value.int IntKind.u64 nl] 24) := ⟨_, rfl⟩
    have b2 : Below w.heap.size w w2 := by rw [hw2]; exact Below.al (bel_via b0 hb) _
    have hC2 : ∀ w', Below w2.heap.size w2 w' → (w'.cell? ⟨w.heap.size, 0, none⟩ = some (.int .u64 ah) ∧ w'.cell? ⟨w.heap.size, 1, none⟩ = some (.int .u64 al) ∧ w'.cell? ⟨w.heap.size + 1, 0, none⟩ = some (.int .u64 bh) ∧ w'.cell? ⟨w.heap.size + 1, 1, none⟩ = some (.int .u64 bl)) ∧ w'.cell? ⟨N, 0, none⟩ = some (.int .u64 nh) ∧ w'.cell? ⟨N, 1, none⟩ = some (.int .u64 nl) := by
      intro w' h
      refine ⟨hC w' (bel_via (w1 := w2) (by rw [hw2]; exact Below.al hb _) h), keepc h ?_, keepc h ?_⟩ <;> (rw [hw2, hN]; simp [go_sem])
    rw [← hw2]
    have l2 : N < w2.heap.size := by rw [hw2, hN]; simp
    clear hw2 hN
    refine (kept (cp _) (Below.refl _ _) hC2).mono ?_
    rintro e w3 ⟨rfl, ⟨⟨k0, k1, k2, k3⟩, k4, k5⟩, hb3⟩
    have l3 : w2.heap.size ≤ w3.heap.size := hb3.size
    have q0 := fun o => keepc (Below.al (Below.refl _ w3) o) k0
    have q1 := fun o => keepc (Below.al (Below.refl _ w3) o) k1
    have q2 := fun o => keepc (Below.al (Below.refl _ w3) o) k2
    have q3 := fun o => keepc (Below.al (Below.refl _ w3) o) k3
    have q4 := fun o => keepc (Below.al (Below.refl _ w3) o) k4
    have q5 := fun o => keepc (Below.al (Below.refl _ w3) o) k5
    
    rcases cmpA_or ah al bh bl with hx | hx | hx
    · have hq := hno bh bl h3 hx
      rcases cmpA_or bh bl nh nl with hy | hy | hy
      · exact absurd hy hq
      · go_wp2_with ((go_at_call 7; refine (kept (cmp_any _ _ _ _ _) (by repeat (first | assumption | apply Below.dr | apply Below.al)) hC2).mono ?_; rintro e w4 ⟨rfl, ⟨⟨k0, k1, k2, k3⟩, k4, k5⟩, hb4⟩))
        all_goals (go_ret; exact ⟨rfl, bel_via b2 (by assumption)⟩)
      · go_wp2_with ((go_at_call 7; refine (kept (cmp_any _ _ _ _ _) (by repeat (first | assumption | apply Below.dr | apply Below.al)) hC2).mono ?_; rintro e w4 ⟨rfl, ⟨⟨k0, k1, k2, k3⟩, k4, k5⟩, hb4⟩))
        all_goals (go_ret; exact ⟨rfl, bel_via b2 (by assumption)⟩)
    · go_wp2_with ((go_at_call 7; refine (kept (cmp_any _ _ _ _ _) (by repeat (first | assumption | apply Below.dr | apply Below.al)) hC2).mono ?_; rintro e w4 ⟨rfl, ⟨⟨k0, k1, k2, k3⟩, k4, k5⟩, hb4⟩))
      all_goals (go_ret; exact ⟨rfl, bel_via b2 (by assumption)⟩)
    · go_wp2_with ((go_at_call 7; refine (kept (cmp_any _ _ _ _ _) (by repeat (first | assumption | apply Below.dr | apply Below.al)) hC2).mono ?_; rintro e w4 ⟨rfl, ⟨⟨k0, k1, k2, k3⟩, k4, k5⟩, hb4⟩))
      all_goals (go_ret; exact ⟨rfl, bel_via b2 (by assumption)⟩)
end Go.Proofs.Ytdocpkeegmkknaa
