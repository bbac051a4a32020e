/- take, Drop and Due of a wheel; by-name template. -/
import Derived.Test.YtdgodndaaenafaaWhMap
namespace Go.Proofs.Ytdgodndaaenafaa
open Go.RowKit Go.Lib Go.Maps
set_option linter.unusedVariables false
set_option linter.unusedSimpArgs false

theorem run_ta2 (w : World) (a : Option Addr) : (Instr.typeAssert (.iface 87 (.pointer a)) 20 87 false).run Try.prog w = .ok (.pointer a) w := by kernel_rfl

section
variable {w : World} {T S : Nat → Prop} {Bw Mp : Nat} {A : Option Addr} {cap : Nat} {E : List DE} {L : List K2}

theorem uidE_perm {E F : List DE} (h : E.Perm F) (hu : UidE E) : UidE F := h.pairwise hu (fun h e => h e.symm)

/-- One that the map knows stands at its place. -/
theorem WIn.at (h : WIn w T S Bw Mp A cap E) {id : Int} (hh : hasE E id = true) : ∃ p, p < E.length ∧ (ge E p).id = id := by
  obtain ⟨e, he, hid⟩ := List.any_eq_true.1 hh
  obtain ⟨p, hp⟩ := List.getElem?_of_mem he
  exact ⟨p, (List.getElem?_eq_some_iff.1 hp).1, by rw [ge_of hp]; simpa using hid⟩

def TakePost (w : World) (T S : Nat → Prop) (Bw Mp : Nat) (A : Option Addr) (cap : Nat) (E : List DE) (p : Nat) (w' : World) : Prop :=
  ∃ E', WIn w' T S Bw Mp A cap E' ∧ E'.Perm (E.eraseIdx p) ∧ OffS T w w' ∧ ∃ q, w'.heap[(ge E p).B]? = some (.cells (dc (ge E p) q) 86 (0, 0))

theorem take_fin (h : WIn w T S Bw Mp A cap E) {p : Nat} (hp : p < E.length) {w1 : World} (h1 : RemPost w S Bw Mp A cap E p w1) :
    ∃ w2, (Builtin.delete_ #[79, 3] 0 #[.map (some Mp), .int .i64 (ge E p).id]).run Try.prog w1.drew = .ok (.tuple #[]) w2 ∧ TakePost w T S Bw Mp A cap E p w2 ∧ w1.cell? ⟨Bw, 1, none⟩ = some (.map (some Mp)) ∧ w1.cell? ⟨(ge E p).B, 0, none⟩ = some (.int .i64 (ge E p).id) := by
  obtain ⟨E', q1, p1, f1, o1, q, d1⟩ := h1
  have hMB : Mp ≠ Bw := h.mp.ne h.q.hw
  have hm1 : MapIs w1 Mp E := h.mp.keep (o1.block Mp h.mp.lt (fun e => e.elim h.q.nM hMB))
  have hpp : (ge E p :: E').Perm E := (List.Perm.cons _ p1).trans (erase_perm hp)
  have hm2 : MapIs w1.drew Mp (ge E p :: E') := (hm1.perm (hpp.map _)).keep rfl
  have hu : UidE (ge E p :: E') := uidE_perm hpp.symm h.un
  obtain ⟨w2, hr, hm3, o3⟩ := hm2.drop (h.ok _ (ge_mem hp)) hu 0
  have o13 : OffS (fun j => j = Mp) w1 w2 := ⟨o3.os, o3.tape, o3.output, o3.size, o3.block⟩
  have oT : OffS T w w2 := (o1.mono (fun k _ hk => by
    rcases hk with hk | rfl
    · exact h.tS k hk
    · exact h.tB)).trans (o13.mono (fun k _ e => by rw [e]; exact h.tM))
  refine ⟨w2, hr, ⟨E', {
    q := q1.off o13 (fun k hk e => by
      subst e
      rcases hk with e | e
      · exact hMB e
      · exact h.q.nM e)
    mp := hm3
    hp := f1
    tB := h.tB
    tM := h.tM
    tS := h.tS
    lt := fun k hk => Nat.lt_of_lt_of_le (h.lt k hk) oT.size
    un := (List.pairwise_cons.1 hu).2
    ok := fun e he => h.ok e (hpp.subset (List.mem_cons_of_mem _ he)) }, p1, oT, q, ?_⟩, q1.c1, cell_of_row _ _ 0 _ _ _ d1⟩
  rw [o13.block _ (blk_lt d1) (fun e => hm1.ne d1 e.symm)]
  exact d1

set_option maxHeartbeats 1000000 in
theorem take_any (h : WIn w T S Bw Mp A cap E) {p : Nat} (hp : p < E.length) :
    Calls Try.prog 40 #[.pointer (some ⟨Bw, 0, none⟩), .int .i64 (p : Int)] w fun e w' => e = .returned (.pointer (some ⟨(ge E p).B, 0, none⟩)) ∧ TakePost w T S Bw Mp A cap E p w' := by
  have hR := remove_any h.q hp h.hp
  unfold qp at hR
  obtain ⟨M, hM⟩ : ∃ M : World → Prop, M = TakePost w T S Bw Mp A cap E p := ⟨_, rfl⟩
  have FIN := fun w1 (h1 : RemPost w S Bw Mp A cap E p w1) => take_fin h hp h1
  rw [← hM] at FIN ⊢
  have HF := Lib.hid FIN
  have ta := fun w => run_ta2 w (some ⟨(ge E p).B, 0, none⟩)
  clear FIN hM h hp
  generalize RemPost w S Bw Mp A cap E p = R at *
  generalize (ge E p).B = b at *
  generalize (ge E p).id = id at *
  go_enter Try.func40, Try.ntmps40
  go_wp2_with (go_at_call 43; refine hR.mono ?_; rintro e w1 ⟨rfl, h1⟩)
  obtain ⟨w2, hr, hT, c1, c0⟩ := HF.out w1 h1
  clear HF hR h1 ta
  have HT := Lib.hid hT
  clear hT
  go_region
  all_goals
    go_wp2
    go_ret
    exact ⟨rfl, HT.out⟩

theorem TakePost.wat (h : WIn w T S Bw Mp A cap E) (hr : Ris L) (hpm : (E.map DE.me).Perm L) {p : Nat} (hp : p < E.length) {w' : World} (k : TakePost w T S Bw Mp A cap E p w') : WAt w' T Bw (remP L (ge E p).id) ∧ OffS T w w' ∧ w'.cell? ⟨(ge E p).B, 0, none⟩ = some (.int .i64 (ge E p).id) := by
  obtain ⟨E', h1, p1, o1, q, d1⟩ := k
  refine ⟨⟨rem_ris hr _, S, Mp, A, cap, E', h1, ?_⟩, o1, cell_of_row _ _ 0 _ _ _ d1⟩
  have h2 : ((ge E p :: E').map DE.me).Perm L := (((List.Perm.cons _ p1).trans (erase_perm hp)).map _).trans hpm
  rw [List.map_cons] at h2
  have h3 := rem_perm h2 (ge E p).id
  have hu : UId ((ge E p).me :: E'.map DE.me) := uid_perm h2.symm (uid_perm hpm (uid_of h.un))
  have h4 := rem_cons hu
  rw [show (ge E p).me.1 = (ge E p).id from rfl] at h4
  rw [h4] at h3
  exact h3

theorem wdrop_any (h : WAt w T Bw L) {id : Int} (hid : i64ok id) :
    Calls Try.prog 33 #[.pointer (some ⟨Bw, 0, none⟩), .int .i64 id] w fun e w' => e = .returned (.bool (hasP L id)) ∧ WAt w' T Bw (remP L id) ∧ OffS T w w' := by
  have h0 := h
  obtain ⟨hr, S, Mp, A, cap, E, hi, hp⟩ := h
  have e1 : hasP L id = hasE E id := by rw [← has_perm hp, hasE_me]
  have c1 := hi.q.c1
  rw [e1]
  rcases hb : hasE E id with _ | _
  · have hl := look_out hi.mp hid hb
    have e2 : remP L id = L := rem_id (has_false.1 (by rw [e1]; exact hb))
    rw [e2]
    have HF := Lib.hid h0
    clear h0 hi hp hb e1 e2 hr
    go_enter Try.func33, Try.ntmps33
    go_wp2
    go_ret
    exact ⟨rfl, HF.out, OffS.refl _ _⟩
  · obtain ⟨p, hpl, hpe⟩ := hi.at hb
    have hl := look_in hi.mp (ge_mem hpl) (hi.ok _ (ge_mem hpl))
    have d2 := hi.q.d2 hpl
    have hT := take_any hi hpl
    have FIN := fun w' (k : TakePost w T S Bw Mp A cap E p w') => k.wat hi hr hp hpl
    rw [hpe] at FIN hl
    have HF := Lib.hid FIN
    clear FIN h0 hi hp hb e1 hr hpe
    generalize (ge E p).B = b at *
    generalize TakePost w T S Bw Mp A cap E p = R at *
    go_enter Try.func33, Try.ntmps33
    go_wp2_with (go_at_call 40; refine hT.mono ?_; rintro e w1 ⟨rfl, h1⟩)
    go_ret
    exact ⟨rfl, (HF.out _ h1).1, (HF.out _ h1).2.1⟩
end
end Go.Proofs.Ytdgodndaaenafaa
