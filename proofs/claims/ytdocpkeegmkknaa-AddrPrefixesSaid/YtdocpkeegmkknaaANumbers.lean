/- AddrNumbers's walk; by-name template. -/
import Derived.Test.YtdocpkeegmkknaaASteps
namespace Go.Proofs.Ytdocpkeegmkknaa
open Go.RowKit
set_option linter.unusedVariables false
set_option linter.unusedSimpArgs false

theorem keepB {w4 wr w' : World} {X : Prop} {C : World → Prop} (hC : ∀ w', Below w4.heap.size w4 w' → C w') (hb : Below wr.heap.size wr w') (hH : Below w4.heap.size w4 wr ∧ X) : Below w4.heap.size w4 w' ∧ C w' :=
  ⟨bel_via hH.1 hb, hC _ (bel_via hH.1 hb)⟩
theorem keepD {w4 wr : World} {X : Prop} {C : World → Prop} (hC : ∀ w', Below w4.heap.size w4 w' → C w') (hH : Below w4.heap.size w4 wr ∧ X) : Below w4.heap.size w4 wr.drew ∧ C wr.drew :=
  ⟨Below.dr hH.1, hC _ (Below.dr hH.1)⟩
theorem keep0 {w4 : World} {C : World → Prop} (hC : ∀ w', Below w4.heap.size w4 w' → C w') : Below w4.heap.size w4 w4.drew ∧ C w4.drew := ⟨Below.dr (Below.refl _ _), hC _ (Below.dr (Below.refl _ _))⟩
theorem keep00 {w4 : World} {C : World → Prop} (hC : ∀ w', Below w4.heap.size w4 w' → C w') : Below w4.heap.size w4 w4 ∧ C w4 := ⟨(Below.refl _ _), hC _ ((Below.refl _ _))⟩

theorem next_tuple (ah al : Int) : ∃ xh xl, ∃ ok : Bool, nextT ah al = .tuple #[.agg #[.int .u64 xh, .int .u64 xl], .bool ok] := by
  unfold nextT
  split
  · split
    · exact ⟨_, _, _, rfl⟩
    · exact ⟨_, _, _, rfl⟩
  · exact ⟨_, _, _, rfl⟩
theorem prev_tuple (ah al : Int) : ∃ xh xl, ∃ ok : Bool, prevT ah al = .tuple #[.agg #[.int .u64 xh, .int .u64 xl], .bool ok] := by
  unfold prevT
  split
  · split
    · exact ⟨_, _, _, rfl⟩
    · exact ⟨_, _, _, rfl⟩
  · exact ⟨_, _, _, rfl⟩

set_option maxHeartbeats 4000000 in
set_option maxRecDepth 100000 in
theorem numbers_any (ah al bh bl n m : Int) (h0 : Word ah) (h1 : Word al) (h2 : Word bh) (h3 : Word bl) (hn : -9223372036854775808 ≤ n ∧ n < 9223372036854775808) (hm : 0 ≤ m ∧ m < 4294967296) (w : World) : Calls Try.prog 4 #[.agg #[.int .u64 ah, .int .u64 al], .agg #[.int .u64 bh, .int .u64 bl], .int .i64 n, .int .u32 m] w (LawPost w) := by
  unfold LawPost
  have c1 := next_any ah al h0 h1
  have c2 := rnext_any ah al h0 h1
  have c3 := prev_any ah al h0 h1
  have c4 := rprev_any ah al h0 h1
  obtain ⟨xh, xl, ok, e1⟩ := next_tuple ah al
  obtain ⟨zh, zl, may, e3⟩ := prev_tuple ah al
  rw [e1] at c1 c2
  rw [e3] at c3 c4
  obtain ⟨hn0, hn1⟩ := hn
  obtain ⟨hm0, hm1⟩ := hm
  go_enter Try.func4, Try.ntmps4
  go_wp2_with fail
  obtain ⟨w0, hw0⟩ : ∃ w0, w0 = (w.alloc (Obj.cells #[Value.int IntKind.u64 ah, Value.int IntKind.u64 al] 24)).alloc (Obj.cells #[Value.int IntKind.u64 bh, Value.int IntKind.u64 bl] 24) := ⟨_, rfl⟩
  have b0 : Below w.heap.size w w0 := by rw [hw0]; repeat (first | exact Below.refl _ _ | apply Below.dr | apply Below.al)
  have hC0 : ∀ w', Below w0.heap.size w0 w' → w'.cell? ⟨w.heap.size, 0, none⟩ = some (.int .u64 ah) ∧ w'.cell? ⟨w.heap.size, 1, none⟩ = some (.int .u64 al) ∧ w'.cell? ⟨w.heap.size + 1, 0, none⟩ = some (.int .u64 bh) ∧ w'.cell? ⟨w.heap.size + 1, 1, none⟩ = some (.int .u64 bl) := by
    intro w' h
    refine ⟨keepc h ?_, keepc h ?_, keepc h ?_, keepc h ?_⟩ <;> (rw [hw0]; simp [go_sem, World.cell?_alloc_past])
  rw [← hw0]
  clear hw0
  refine (kept (c1 _) (Below.refl _ _) hC0).mono ?_
  rintro e u1 ⟨rfl, ⟨k0, k1, k2, k3⟩, hb1⟩
  have bu1 : Below w.heap.size w u1 := bel_via b0 hb1
  clear hb1 b0 hC0
  obtain ⟨N1, hN1⟩ : ∃ N, N = u1.heap.size := ⟨_, rfl⟩
  have q0 := fun o => keepc (Below.al (Below.refl _ u1) o) k0
  have q1 := fun o => keepc (Below.al (Below.refl _ u1) o) k1
  go_wp2_with fail
  rw [← hN1]
  clear q0 q1
  obtain ⟨w1, hw1⟩ : ∃ v, v = u1.alloc (Obj.cells #[Value.int IntKind.u64 xh, Value.int IntKind.u64 xl] 24) := ⟨_, rfl⟩
  have b1 : Below w.heap.size w w1 := by rw [hw1]; exact Below.al bu1 _
  have hC1 : ∀ w', Below w1.heap.size w1 w' → w'.cell? ⟨w.heap.size, 0, none⟩ = some (.int .u64 ah) ∧ w'.cell? ⟨w.heap.size, 1, none⟩ = some (.int .u64 al) ∧ w'.cell? ⟨w.heap.size + 1, 0, none⟩ = some (.int .u64 bh) ∧ w'.cell? ⟨w.heap.size + 1, 1, none⟩ = some (.int .u64 bl) ∧ w'.cell? ⟨N1, 0, none⟩ = some (.int .u64 xh) ∧ w'.cell? ⟨N1, 1, none⟩ = some (.int .u64 xl) := by
    intro w' h
    have al := fun {p : Addr} {v : Value} (hc : u1.cell? p = some v) => keepc h (by rw [hw1]; exact keepc (Below.al (Below.refl _ _) _) hc)
    refine ⟨al k0, al k1, al k2, al k3, keepc h ?_, keepc h ?_⟩ <;> (rw [hw1, hN1]; simp [go_sem])
  rw [← hw1]
  clear hw1 hN1 bu1 k0 k1 k2 k3
  refine (kept (c2 _) (Below.refl _ _) hC1).mono ?_
  rintro e u2 ⟨rfl, ⟨k0, k1, k2, k3, k4, k5⟩, hb2⟩
  have bu2 : Below w.heap.size w u2 := bel_via b1 hb2
  clear hb2 b1 hC1
  obtain ⟨N2, hN2⟩ : ∃ N, N = u2.heap.size := ⟨_, rfl⟩
  have q0 := fun o => keepc (Below.al (Below.refl _ u2) o) k0
  have q1 := fun o => keepc (Below.al (Below.refl _ u2) o) k1
  go_wp2_with fail
  rw [← hN2]
  clear q0 q1
  obtain ⟨w2, hw2⟩ : ∃ v, v = u2.alloc (Obj.cells #[Value.int IntKind.u64 xh, Value.int IntKind.u64 xl] 24) := ⟨_, rfl⟩
  have b2 : Below w.heap.size w w2 := by rw [hw2]; exact Below.al bu2 _
  have hC2 : ∀ w', Below w2.heap.size w2 w' → w'.cell? ⟨w.heap.size, 0, none⟩ = some (.int .u64 ah) ∧ w'.cell? ⟨w.heap.size, 1, none⟩ = some (.int .u64 al) ∧ w'.cell? ⟨w.heap.size + 1, 0, none⟩ = some (.int .u64 bh) ∧ w'.cell? ⟨w.heap.size + 1, 1, none⟩ = some (.int .u64 bl) ∧ w'.cell? ⟨N1, 0, none⟩ = some (.int .u64 xh) ∧ w'.cell? ⟨N1, 1, none⟩ = some (.int .u64 xl) ∧ w'.cell? ⟨N2, 0, none⟩ = some (.int .u64 xh) ∧ w'.cell? ⟨N2, 1, none⟩ = some (.int .u64 xl) := by
    intro w' h
    have al := fun {p : Addr} {v : Value} (hc : u2.cell? p = some v) => keepc h (by rw [hw2]; exact keepc (Below.al (Below.refl _ _) _) hc)
    refine ⟨al k0, al k1, al k2, al k3, al k4, al k5, keepc h ?_, keepc h ?_⟩ <;> (rw [hw2, hN2]; simp [go_sem])
  rw [← hw2]
  clear hw2 hN2 bu2 k0 k1 k2 k3 k4 k5
  refine (kept (c3 _) (Below.refl _ _) hC2).mono ?_
  rintro e u3 ⟨rfl, ⟨k0, k1, k2, k3, k4, k5, k6, k7⟩, hb3⟩
  have bu3 : Below w.heap.size w u3 := bel_via b2 hb3
  clear hb3 b2 hC2
  obtain ⟨N3, hN3⟩ : ∃ N, N = u3.heap.size := ⟨_, rfl⟩
  have q0 := fun o => keepc (Below.al (Below.refl _ u3) o) k0
  have q1 := fun o => keepc (Below.al (Below.refl _ u3) o) k1
  go_wp2_with fail
  rw [← hN3]
  clear q0 q1
  obtain ⟨w3, hw3⟩ : ∃ v, v = u3.alloc (Obj.cells #[Value.int IntKind.u64 zh, Value.int IntKind.u64 zl] 24) := ⟨_, rfl⟩
  have b3 : Below w.heap.size w w3 := by rw [hw3]; exact Below.al bu3 _
  have hC3 : ∀ w', Below w3.heap.size w3 w' → w'.cell? ⟨w.heap.size, 0, none⟩ = some (.int .u64 ah) ∧ w'.cell? ⟨w.heap.size, 1, none⟩ = some (.int .u64 al) ∧ w'.cell? ⟨w.heap.size + 1, 0, none⟩ = some (.int .u64 bh) ∧ w'.cell? ⟨w.heap.size + 1, 1, none⟩ = some (.int .u64 bl) ∧ w'.cell? ⟨N1, 0, none⟩ = some (.int .u64 xh) ∧ w'.cell? ⟨N1, 1, none⟩ = some (.int .u64 xl) ∧ w'.cell? ⟨N2, 0, none⟩ = some (.int .u64 xh) ∧ w'.cell? ⟨N2, 1, none⟩ = some (.int .u64 xl) ∧ w'.cell? ⟨N3, 0, none⟩ = some (.int .u64 zh) ∧ w'.cell? ⟨N3, 1, none⟩ = some (.int .u64 zl) := by
    intro w' h
    have al := fun {p : Addr} {v : Value} (hc : u3.cell? p = some v) => keepc h (by rw [hw3]; exact keepc (Below.al (Below.refl _ _) _) hc)
    refine ⟨al k0, al k1, al k2, al k3, al k4, al k5, al k6, al k7, keepc h ?_, keepc h ?_⟩ <;> (rw [hw3, hN3]; simp [go_sem])
  rw [← hw3]
  clear hw3 hN3 bu3 k0 k1 k2 k3 k4 k5 k6 k7
  refine (kept (c4 _) (Below.refl _ _) hC3).mono ?_
  rintro e u4 ⟨rfl, ⟨k0, k1, k2, k3, k4, k5, k6, k7, k8, k9⟩, hb4⟩
  have bu4 : Below w.heap.size w u4 := bel_via b3 hb4
  clear hb4 b3 hC3
  obtain ⟨N4, hN4⟩ : ∃ N, N = u4.heap.size := ⟨_, rfl⟩
  have q0 := fun o => keepc (Below.al (Below.refl _ u4) o) k0
  have q1 := fun o => keepc (Below.al (Below.refl _ u4) o) k1
  go_wp2_with fail
  rw [← hN4]
  clear q0 q1
  obtain ⟨w4, hw4⟩ : ∃ v, v = u4.alloc (Obj.cells #[Value.int IntKind.u64 zh, Value.int IntKind.u64 zl] 24) := ⟨_, rfl⟩
  have b4 : Below w.heap.size w w4 := by rw [hw4]; exact Below.al bu4 _
  have hC4 : ∀ w', Below w4.heap.size w4 w' → w'.cell? ⟨w.heap.size, 0, none⟩ = some (.int .u64 ah) ∧ w'.cell? ⟨w.heap.size, 1, none⟩ = some (.int .u64 al) ∧ w'.cell? ⟨w.heap.size + 1, 0, none⟩ = some (.int .u64 bh) ∧ w'.cell? ⟨w.heap.size + 1, 1, none⟩ = some (.int .u64 bl) ∧ w'.cell? ⟨N1, 0, none⟩ = some (.int .u64 xh) ∧ w'.cell? ⟨N1, 1, none⟩ = some (.int .u64 xl) ∧ w'.cell? ⟨N2, 0, none⟩ = some (.int .u64 xh) ∧ w'.cell? ⟨N2, 1, none⟩ = some (.int .u64 xl) ∧ w'.cell? ⟨N3, 0, none⟩ = some (.int .u64 zh) ∧ w'.cell? ⟨N3, 1, none⟩ = some (.int .u64 zl) ∧ w'.cell? ⟨N4, 0, none⟩ = some (.int .u64 zh) ∧ w'.cell? ⟨N4, 1, none⟩ = some (.int .u64 zl) := by
    intro w' h
    have al := fun {p : Addr} {v : Value} (hc : u4.cell? p = some v) => keepc h (by rw [hw4]; exact keepc (Below.al (Below.refl _ _) _) hc)
    refine ⟨al k0, al k1, al k2, al k3, al k4, al k5, al k6, al k7, al k8, al k9, keepc h ?_, keepc h ?_⟩ <;> (rw [hw4, hN4]; simp [go_sem])
  rw [← hw4]
  clear hw4 hN4 bu4 k0 k1 k2 k3 k4 k5 k6 k7 k8 k9
  go_region_held3 (fun w' => Below w4.heap.size w4 w' ∧ w'.cell? ⟨w.heap.size, 0, none⟩ = some (.int .u64 ah) ∧ w'.cell? ⟨w.heap.size, 1, none⟩ = some (.int .u64 al) ∧ w'.cell? ⟨w.heap.size + 1, 0, none⟩ = some (.int .u64 bh) ∧ w'.cell? ⟨w.heap.size + 1, 1, none⟩ = some (.int .u64 bl) ∧ w'.cell? ⟨N1, 0, none⟩ = some (.int .u64 xh) ∧ w'.cell? ⟨N1, 1, none⟩ = some (.int .u64 xl) ∧ w'.cell? ⟨N2, 0, none⟩ = some (.int .u64 xh) ∧ w'.cell? ⟨N2, 1, none⟩ = some (.int .u64 xl) ∧ w'.cell? ⟨N3, 0, none⟩ = some (.int .u64 zh) ∧ w'.cell? ⟨N3, 1, none⟩ = some (.int .u64 zl) ∧ w'.cell? ⟨N4, 0, none⟩ = some (.int .u64 zh) ∧ w'.cell? ⟨N4, 1, none⟩ = some (.int .u64 zl)) (first | exact keep00 hC4 | exact keep0 hC4 | exact keepD hC4 (by assumption) | exact keepB hC4 hb (by assumption) | exact keepB hC4 (by assumption) (by assumption))
    (first
      | (go_at_call 13; refine (is4_any ah al h0 h1 _).mono ?_; rintro e w' ⟨rfl, hb⟩)
      | (go_at_call 14; refine (ris4_any ah al h0 h1 _).mono ?_; rintro e w' ⟨rfl, hb⟩)
      | (go_at_call 15; refine (of4_any m hm0 hm1 _).mono ?_; rintro e w' ⟨rfl, hb⟩)
      | (go_at_call 16; refine (rof4_any m hm0 hm1 _).mono ?_; rintro e w' ⟨rfl, hb⟩)
      | (go_at_call 17; refine (of_any n hn0 hn1 _).mono ?_; rintro e w' ⟨rfl, hb⟩)
      | (go_at_call 18; refine (rof_any n hn0 hn1 _).mono ?_; rintro e w' ⟨rfl, hb⟩)
      | (go_at_call 7; refine (cmp_any ah al bh bl _).mono ?_; rintro e w' ⟨rfl, hb⟩)
      | (go_at_call 8; refine (rcmp_any ah al bh bl _).mono ?_; rintro e w' ⟨rfl, hb⟩))
  all_goals (go_wp2; go_ret; exact ⟨rfl, bel_via b4 (And.left (by assumption))⟩)
end Go.Proofs.Ytdocpkeegmkknaa
