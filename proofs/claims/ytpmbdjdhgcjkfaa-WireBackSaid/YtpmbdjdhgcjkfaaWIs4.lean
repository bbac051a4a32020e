/- Is4, of the program and of the document; by-name template. -/
import Derived.Test.YtpmbdjdhgcjkfaaWPart
namespace Go.Proofs.Ytpmbdjdhgcjkfaa
open Go.RowKit Go.Sort
set_option linter.unusedVariables false
set_option linter.unusedSimpArgs false

def Word (x : Int) : Prop := 0 ≤ x ∧ x < 18446744073709551616

theorem is4_ex (ah al : Int) (h0 : Word ah) (h1 : Word al) (w : World) : Calls Try.prog 59 #[.agg #[.int .u64 ah, .int .u64 al]] w fun e w' => e = .returned (.bool (is4I ah al)) ∧ w' = w.alloc (.cells #[.int .u64 ah, .int .u64 al] 25) := by
  unfold is4I
  obtain ⟨p0, p1⟩ := h0; obtain ⟨q0, q1⟩ := h1
  by_cases h : ah = 0
  · subst h
    by_cases k : al / 4294967296 = 65535
    · go_enter Try.func59, Try.ntmps59
      go_wp2
      go_ret
      exact ⟨by simp [k], rfl⟩
    · have kb : (al / 4294967296 == 65535) = false := by simp [k]
      go_enter Try.func59, Try.ntmps59
      go_wp2
      go_ret
      exact ⟨by simp [k], rfl⟩
  · have hb : (ah == 0) = false := by simp [h]
    go_enter Try.func59, Try.ntmps59
    go_wp2
    go_ret
    exact ⟨by simp [h], rfl⟩

theorem is4_any (ah al : Int) (h0 : Word ah) (h1 : Word al) (w : World) : Calls Try.prog 59 #[.agg #[.int .u64 ah, .int .u64 al]] w fun e w' => e = .returned (.bool (is4I ah al)) ∧ Below w.heap.size w w' :=
  (is4_ex ah al h0 h1 w).mono fun e w' ⟨he, hw⟩ => ⟨he, by rw [hw]; exact Below.al (Below.refl _ _) _⟩

theorem ris4_ex (ah al : Int) (h0 : Word ah) (h1 : Word al) (w : World) : Calls Try.prog 62 #[.agg #[.int .u64 ah, .int .u64 al]] w fun e w' => e = .returned (.bool (is4I ah al)) ∧ w' = w.alloc (.cells #[.int .u64 ah, .int .u64 al] 25) := by
  unfold is4I
  obtain ⟨p0, p1⟩ := h0; obtain ⟨q0, q1⟩ := h1
  by_cases h : ah = 0
  · subst h
    by_cases k : 281470681743360 ≤ al
    · by_cases k2 : al ≤ 281474976710655
      · have k3 : al / 4294967296 = 65535 := by omega
        go_enter Try.func62, Try.ntmps62
        go_wp2
        go_ret
        exact ⟨by simp [k3], rfl⟩
      · have k3 : ¬ al / 4294967296 = 65535 := by omega
        have kb : decide (al ≤ 281474976710655) = false := by simp [k2]
        go_enter Try.func62, Try.ntmps62
        go_wp2
        go_ret
        exact ⟨by simp [k3], rfl⟩
    · have k3 : ¬ al / 4294967296 = 65535 := by omega
      have kb : decide (281470681743360 ≤ al) = false := by simp [k]
      go_enter Try.func62, Try.ntmps62
      go_wp2
      go_ret
      exact ⟨by simp [k3], rfl⟩
  · have hb : (ah == 0) = false := by simp [h]
    go_enter Try.func62, Try.ntmps62
    go_wp2
    go_ret
    exact ⟨by simp [h], rfl⟩

theorem ris4_any (ah al : Int) (h0 : Word ah) (h1 : Word al) (w : World) : Calls Try.prog 62 #[.agg #[.int .u64 ah, .int .u64 al]] w fun e w' => e = .returned (.bool (is4I ah al)) ∧ Below w.heap.size w w' :=
  (ris4_ex ah al h0 h1 w).mono fun e w' ⟨he, hw⟩ => ⟨he, by rw [hw]; exact Below.al (Below.refl _ _) _⟩
end Go.Proofs.Ytpmbdjdhgcjkfaa
