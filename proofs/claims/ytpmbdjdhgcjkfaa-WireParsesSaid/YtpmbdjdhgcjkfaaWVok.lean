/- The numbers of a packet's view; by-name template. -/
import Derived.Test.YtpmbdjdhgcjkfaaWRight
namespace Go.Proofs.Ytpmbdjdhgcjkfaa
open Go.RowKit Go.Sort
set_option linter.unusedVariables false
set_option linter.unusedSimpArgs false

theorem vok_zero : VOk zvw := by
  refine ⟨?_, ?_, ?_, ?_, ?_, ?_, rfl⟩ <;> simp [zvw, Word]
theorem adr4 {l : List UInt8} (h : l.length = 4) : Word (adrH l : Nat) ∧ Word (adrL l : Nat) ∧ is4I (adrH l : Nat) (adrL l : Nat) = true := by
  have hb := numB_lt l
  rw [h] at hb
  unfold adrH adrL Word is4I
  rw [if_pos h, if_pos h]
  refine ⟨by omega, by omega, ?_⟩
  have : ((281470681743360 + numB l : Nat) : Int) / 4294967296 = 65535 := by omega
  rw [this]; rfl
theorem vok_part {v : VW} (h : VOk v) (o m : Int) : VOk (partP v o m) := ⟨h.p0, h.p1, h.sh, h.sl, h.dh, h.dl, h.fam⟩
theorem vok_parse (l : List UInt8) : VOk (parseP l).1 := by
  by_cases h : (parseP l).2 = 0
  · unfold parseP at h ⊢
    obtain ⟨h1, h2, h3, h4⟩ := outerP_ok h
    rw [h4]
    obtain ⟨k1, k2, ⟨k0, k3⟩ | ⟨k0, k3⟩⟩ := innerP_ok h1
    · rw [k3] at h1 ⊢
      obtain ⟨p1, p2, p3, p4, p5, p6, p7⟩ := parse4P_ok h1
      rw [p7]
      refine vok_part ?_ _ _
      obtain ⟨s1, s2, s3⟩ := adr4 (l := (l.drop 12).take 4) (by rw [List.length_take, List.length_drop]; omega)
      obtain ⟨d1, d2, d3⟩ := adr4 (l := (l.drop 16).take 4) (by rw [List.length_take, List.length_drop]; omega)
      have hp := byN_lt l 9
      exact ⟨by simp only [view4]; omega, by simp only [view4]; omega, s1, s2, d1, d2, by simp only [view4]; rw [s3, d3]⟩
    · rw [k3] at h1 ⊢
      obtain ⟨p1, p2, p3, p4, p5⟩ := parse6P_ok h1
      have s1 := adrH_lt (l := (l.drop 8).take 16) (by rw [List.length_take, List.length_drop]; omega)
      have s2 := adrL_lt (l := (l.drop 8).take 16) (by rw [List.length_take, List.length_drop]; omega)
      have d1 := adrH_lt (l := (l.drop 24).take 16) (by rw [List.length_take, List.length_drop]; omega)
      have d2 := adrL_lt (l := (l.drop 24).take 16) (by rw [List.length_take, List.length_drop]; omega)
      have hp := byN_lt l 6
      have hq := byN_lt l 40
      simp only [view6] at p3 p4
      rcases p5 with ⟨q1, q2⟩ | ⟨q1, q2, q3, q4⟩
      · rw [q2]
        exact ⟨by simp only [view6]; omega, by simp only [view6]; omega, s1, s2, d1, d2, by simp only [view6]; rw [p3, p4]⟩
      · rw [q4]
        refine vok_part ?_ _ _
        exact ⟨by simp only; omega, by simp only; omega, s1, s2, d1, d2, by simp only [view6]; rw [p3, p4]⟩
  · rw [parseP_bad h]; exact vok_zero
end Go.Proofs.Ytpmbdjdhgcjkfaa
