/- Steps of a draft: look, give; by-name template (gen_na.py). -/
import Derived.Test.YtokbmahnjmmcaaaNaM1
namespace Go.Proofs.Ytokbmahnjmmcaaa
open Go.RowKit Go.Lib Go.Maps
set_option linter.unusedVariables false
set_option linter.unusedSimpArgs false

def lookD (d : DR) (f t : Int) : DR := if portedB d.op.proto then { d with looks := true, frm := f, til := t } else d
def giveD (d : DR) (p : Int) : DR := { d with ou := tryK d.ou p }
def LPost (w : World) (B : Nat) (d' : DR) (e : Ending) (w' : World) : Prop := ∃ v, e = .returned v ∧ DAt w' B d' ∧ Off B w w'
set_option maxRecDepth 100000 in
set_option maxHeartbeats 8000000 in
theorem look_any (d : DR) (B : Nat) (f t : Int) {w : World} (h : DAt w B d) : Calls Try.prog 35 #[.pointer (some ⟨B, 0, none⟩), .int .i64 f, .int .i64 t] w (LPost w B (lookD d f t)) := by
  have c7 : w.cell? ⟨B, 7, none⟩ = some (.int .i64 d.op.proto) := h.cell 7 rfl
  have c48 : w.cell? ⟨B, 48, none⟩ = some (.bool d.looks) := h.cell 48 rfl
  have c49 : w.cell? ⟨B, 49, none⟩ = some (.int .i64 d.frm) := h.cell 49 rfl
  have c50 : w.cell? ⟨B, 50, none⟩ = some (.int .i64 d.til) := h.cell 50 rfl
  have z48 := free_of h 48
  have z49 := free_of h 49
  have z50 := free_of h 50
  have h1 := h.set1 (d' := { d with looks := true }) 48 (.bool true) (by kernel_rfl)
  have h2 := h1.set1 (d' := { d with looks := true, frm := f }) 49 (.int .i64 f) (by kernel_rfl)
  have h3 := h2.set1 (d' := { d with looks := true, frm := f, til := t }) 50 (.int .i64 t) (by kernel_rfl)
  have F3 := (((Off.refl B w).set 48 (.bool true)).set 49 (.int .i64 f)).set 50 (.int .i64 t)
  obtain ⟨M, hM⟩ : ∃ M, M = LPost w B (lookD d f t) := ⟨_, rfl⟩
  rw [← hM]
  have FT : portedB d.op.proto = true → M (.returned (.tuple #[])) (((w.setCell ⟨B, 48, none⟩ (.bool true)).setCell ⟨B, 49, none⟩ (.int .i64 f)).setCell ⟨B, 50, none⟩ (.int .i64 t)) := fun hp => by
    rw [hM]; exact ⟨_, rfl, by unfold lookD; rw [if_pos hp]; exact h3, F3⟩
  have FF : portedB d.op.proto = false → M (.returned (.tuple #[])) w := fun hp => by
    rw [hM]; exact ⟨_, rfl, by unfold lookD; rw [if_neg (by rw [hp]; simp)]; exact h, Off.refl B w⟩
  have FT := Lib.hid FT
  have FF := Lib.hid FF
  have hlt := h.lt
  clear h h1 h2 h3 F3 hM
  generalize d.op.proto = q at *
  go_enter Try.func35, Try.ntmps35
  go_wp2
  all_goals (
    simp [bodyPost, results, Try.results35, go_sem]
    first
      | exact FT.out (by unfold portedB icmpB; simp_all)
      | exact FF.out (by unfold portedB icmpB; simp_all))
set_option maxRecDepth 100000 in
set_option maxHeartbeats 8000000 in
theorem give_any (d : DR) (B : Nat) (p : Int) {w : World} (h : DAt w B d) : Calls Try.prog 37 #[.pointer (some ⟨B, 0, none⟩), .int .i64 p] w (LPost w B (giveD d p)) := by
  have c14 : w.cell? ⟨B, 14, none⟩ = some (.int .i64 d.ou.proto) := h.cell 14 rfl
  have c19 : w.cell? ⟨B, 19, none⟩ = some (.int .i64 d.ou.sp) := h.cell 19 rfl
  have c20 : w.cell? ⟨B, 20, none⟩ = some (.int .i64 d.ou.dp) := h.cell 20 rfl
  have z19 := free_of h 19
  have z20 := free_of h 20
  have h1 := h.set1 (d' := { d with ou := { d.ou with sp := p } }) 19 (.int .i64 p) (by kernel_rfl)
  have h2 := h1.set1 (d' := { d with ou := { d.ou with sp := p, dp := p } }) 20 (.int .i64 p) (by kernel_rfl)
  have F1 := ((Off.refl B w).set 19 (.int .i64 p))
  have F2 := F1.set 20 (.int .i64 p)
  obtain ⟨M, hM⟩ : ∃ M, M = LPost w B (giveD d p) := ⟨_, rfl⟩
  rw [← hM]
  have FT : icmpB d.ou.proto = true → M (.returned (.tuple #[])) ((w.setCell ⟨B, 19, none⟩ (.int .i64 p)).setCell ⟨B, 20, none⟩ (.int .i64 p)) := fun hp => by
    rw [hM]; exact ⟨_, rfl, by unfold giveD tryK; rw [if_pos hp]; exact h2, F2⟩
  have FF : icmpB d.ou.proto = false → M (.returned (.tuple #[])) (w.setCell ⟨B, 19, none⟩ (.int .i64 p)) := fun hp => by
    rw [hM]; exact ⟨_, rfl, by unfold giveD tryK; rw [if_neg (by rw [hp]; simp)]; exact h1, F1⟩
  have FT := Lib.hid FT
  have FF := Lib.hid FF
  have hlt := h.lt
  clear h h1 h2 F1 F2 hM
  generalize d.ou.proto = q at *
  go_enter Try.func37, Try.ntmps37
  go_wp2
  all_goals (
    simp [bodyPost, results, Try.results37, go_sem]
    first
      | exact FT.out (by unfold icmpB; simp_all)
      | exact FF.out (by unfold icmpB; simp_all))
end Go.Proofs.Ytokbmahnjmmcaaa
