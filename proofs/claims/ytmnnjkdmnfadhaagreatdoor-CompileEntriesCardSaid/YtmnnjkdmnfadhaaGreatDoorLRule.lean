/- Rules: what they name, what they may be; by-name template (gen_lrule.py). -/
import Derived.Test.YtmnnjkdmnfadhaaGreatDoorLAct
namespace Go.Proofs.YtmnnjkdmnfadhaaGreatDoor
open Go.Shelf Go.RowKit Go.Lib Go.Sort
set_option linter.unusedVariables false
set_option linter.unusedSimpArgs false

theorem oa_zon (key : ByteArray) (A : Option Addr) (n c : Nat) (l : List ZR) {w : World} (hS : Sl w 4 zrc A n l) :
    Calls Tryz.prog 121 #[.slice A n c, .func (.func 40) #[] #[], .string key] w fun e w' => e = .returned (.bool (isAny key || l.any fun x => eqs x.nm key)) ∧ Below w.heap.size w w' := by
  have cc := has_zon key A n c l hS
  generalize (l.any fun x => eqs x.nm key) = r at *
  clear hS
  by_cases h : key.toList = [97, 110, 121]
  · have hi : isAny key = true := by simp [isAny, h]
    rw [hi]
    clear hi
    go_enter Tryz.func121, Tryz.ntmps121
    go_wp2
    go_ret
    exact ⟨rfl, Below.refl _ _⟩
  · have hb : (key.toList == [97, 110, 121]) = false := by simp [h]
    have hi : isAny key = false := hb
    rw [hi]
    clear hi
    go_enter Tryz.func121, Tryz.ntmps121
    go_wp2_with (go_at_call 96; with_reducible refine cc.mono ?_; rintro e w' ⟨rfl, hb'⟩)
    go_ret
    exact ⟨by simp, hb'⟩

theorem oa_obj (key : ByteArray) (A : Option Addr) (n c : Nat) (l : List OR) {w : World} (hS : Sl w 2 orc A n l) :
    Calls Tryz.prog 117 #[.slice A n c, .func (.func 48) #[] #[], .string key] w fun e w' => e = .returned (.bool (isAny key || l.any fun x => eqs x.nm key)) ∧ Below w.heap.size w w' := by
  have cc := has_obj key A n c l hS
  generalize (l.any fun x => eqs x.nm key) = r at *
  clear hS
  by_cases h : key.toList = [97, 110, 121]
  · have hi : isAny key = true := by simp [isAny, h]
    rw [hi]
    clear hi
    go_enter Tryz.func117, Tryz.ntmps117
    go_wp2
    go_ret
    exact ⟨rfl, Below.refl _ _⟩
  · have hb : (key.toList == [97, 110, 121]) = false := by simp [h]
    have hi : isAny key = false := hb
    rw [hi]
    clear hi
    go_enter Tryz.func117, Tryz.ntmps117
    go_wp2_with (go_at_call 102; with_reducible refine cc.mono ?_; rintro e w' ⟨rfl, hb'⟩)
    go_ret
    exact ⟨by simp, hb'⟩

theorem oa_srv (key : ByteArray) (A : Option Addr) (n c : Nat) (l : List SR) {w : World} (hS : Sl w 4 src A n l) :
    Calls Tryz.prog 118 #[.slice A n c, .func (.func 54) #[] #[], .string key] w fun e w' => e = .returned (.bool (isAny key || l.any fun x => eqs x.nm key)) ∧ Below w.heap.size w w' := by
  have cc := has_srv key A n c l hS
  generalize (l.any fun x => eqs x.nm key) = r at *
  clear hS
  by_cases h : key.toList = [97, 110, 121]
  · have hi : isAny key = true := by simp [isAny, h]
    rw [hi]
    clear hi
    go_enter Tryz.func118, Tryz.ntmps118
    go_wp2
    go_ret
    exact ⟨rfl, Below.refl _ _⟩
  · have hb : (key.toList == [97, 110, 121]) = false := by simp [h]
    have hi : isAny key = false := hb
    rw [hi]
    clear hi
    go_enter Tryz.func118, Tryz.ntmps118
    go_wp2_with (go_at_call 110; with_reducible refine cc.mono ?_; rintro e w' ⟨rfl, hb'⟩)
    go_ret
    exact ⟨by simp, hb'⟩

/-- A rule's cells. -/
structure UrB (W : World) (B : Nat) (u : UR) : Prop where
  u0 : W.cell? ⟨B, 0, none⟩ = some (.string u.inz)
  u1 : W.cell? ⟨B, 1, none⟩ = some (.string u.out)
  u2 : W.cell? ⟨B, 2, none⟩ = some (.string u.src)
  u3 : W.cell? ⟨B, 3, none⟩ = some (.string u.dst)
  u4 : W.cell? ⟨B, 4, none⟩ = some (.string u.svc)
  u5 : W.cell? ⟨B, 5, none⟩ = some (.int .i64 u.act)
  u6 : W.cell? ⟨B, 6, none⟩ = some (.string u.lim)
  u7 : W.cell? ⟨B, 7, none⟩ = some (.bool u.proxy)
theorem UrB.keep {W W' : World} {B : Nat} {u : UR} (h : UrB W B u) (hb : Below W.heap.size W W') : UrB W' B u :=
  ⟨keepc hb h.u0, keepc hb h.u1, keepc hb h.u2, keepc hb h.u3, keepc hb h.u4, keepc hb h.u5, keepc hb h.u6, keepc hb h.u7⟩
theorem UrB.made (w : World) (u : UR) : UrB (w.alloc (.cells (urc u).toArray 70)) w.heap.size u := by
  constructor <;> simp [urc, go_sem]

def zoB (c : CF) (nm : ByteArray) : Bool := isAny nm || c.zs.any fun x => eqs x.nm nm
def obB (c : CF) (nm : ByteArray) : Bool := isAny nm || c.os.any fun x => eqs x.nm nm
def svB (c : CF) (nm : ByteArray) : Bool := isAny nm || c.ss.any fun x => eqs x.nm nm
def lmB (c : CF) (nm : ByteArray) : Bool := nm.toList.isEmpty || c.ls.any fun x => eqs x.nm nm
def rnB (c : CF) (u : UR) : Bool := zoB c u.inz && (zoB c u.out && (obB c u.src && (obB c u.dst && (svB c u.svc && lmB c u.lim))))

set_option maxHeartbeats 8000000 in
theorem rn_any (c : CF) (u : UR) {w : World} (hc : c.Ok w) :
    Calls Tryz.prog 72 #[.agg (cfc c), .agg (urc u).toArray] w fun e w' => e = .returned (.bool (rnB c u)) ∧ Below w.heap.size w w' := by
  obtain ⟨w0, hw0⟩ : ∃ w0, w0 = (w.alloc (.cells (cfc c) 30)).alloc (.cells (urc u).toArray 70) := ⟨_, rfl⟩
  have hb0 : Below w.heap.size w w0 := by rw [hw0]; exact Below.al (Below.al (Below.refl _ _) _) _
  have hC : ∀ w', Below w0.heap.size w0 w' → CfB w' w.heap.size c ∧ UrB w' (w.heap.size + 1) u := by
    intro w' h
    refine ⟨CfB.keep ?_ h, UrB.keep ?_ h⟩
    · rw [hw0]; exact (CfB.made w c).keep (Below.al (Below.refl _ _) _)
    · rw [hw0]; have := UrB.made (w.alloc (.cells (cfc c) 30)) u; simpa using this
  have hok := fun (W : World) (hW : Below w0.heap.size w0 W) => (hc.keep hb0).keep hW
  have q1 := fun W hW => oa_zon u.inz c.zA c.zn c.zc c.zs (hok W hW).z
  have q2 := fun W hW => oa_zon u.out c.zA c.zn c.zc c.zs (hok W hW).z
  have q3 := fun W hW => oa_obj u.src c.oA c.on c.oc c.os (hok W hW).o
  have q4 := fun W hW => oa_obj u.dst c.oA c.on c.oc c.os (hok W hW).o
  have q5 := fun W hW => oa_srv u.svc c.sA c.sn c.sc c.ss (hok W hW).s
  have q6 := fun W hW => has_lim u.lim c.lA c.ln c.lc c.ls (hok W hW).l
  have hr : rnB c u = ((isAny u.inz || c.zs.any fun x => eqs x.nm u.inz) && ((isAny u.out || c.zs.any fun x => eqs x.nm u.out) && ((isAny u.src || c.os.any fun x => eqs x.nm u.src) && ((isAny u.dst || c.os.any fun x => eqs x.nm u.dst) && ((isAny u.svc || c.ss.any fun x => eqs x.nm u.svc) && (u.lim.toList.isEmpty || c.ls.any fun x => eqs x.nm u.lim)))))) := rfl
  rw [hr]
  clear hr hok hc
  generalize (isAny u.inz || c.zs.any fun x => eqs x.nm u.inz) = r1 at *
  generalize (isAny u.out || c.zs.any fun x => eqs x.nm u.out) = r2 at *
  generalize (isAny u.src || c.os.any fun x => eqs x.nm u.src) = r3 at *
  generalize (isAny u.dst || c.os.any fun x => eqs x.nm u.dst) = r4 at *
  generalize (isAny u.svc || c.ss.any fun x => eqs x.nm u.svc) = r5 at *
  generalize (c.ls.any fun x => eqs x.nm u.lim) = r6 at *
  have hbc : Below w0.heap.size w0 w0 := Below.refl _ _
  obtain ⟨⟨c0, c1, c2, c3, c4, c5, c6, c7⟩, ⟨u0, u1, u2, u3, u4, u5, u6, u7⟩⟩ := hC w0 hbc
  obtain ⟨n0, n1, n2, n3, n4, n5, n6, n7⟩ := u
  simp only [cfc, urc] at *
  subst hw0
  cases r1 with
  | false =>
    go_enter Tryz.func72, Tryz.ntmps72
    go_wp2_with (first | (go_at_call 121; first | ((with_reducible refine (q1 _ hbc).mono ?_); rintro e wn ⟨rfl, hbn⟩; replace hbc := bel_via hbc hbn; clear hbn; clear c0 c1 c2 c3 c4 c5 c6 c7 u0 u1 u2 u3 u4 u5 u6 u7; obtain ⟨⟨c0, c1, c2, c3, c4, c5, c6, c7⟩, ⟨u0, u1, u2, u3, u4, u5, u6, u7⟩⟩ := hC _ hbc) | ((with_reducible refine (q2 _ hbc).mono ?_); rintro e wn ⟨rfl, hbn⟩; replace hbc := bel_via hbc hbn; clear hbn; clear c0 c1 c2 c3 c4 c5 c6 c7 u0 u1 u2 u3 u4 u5 u6 u7; obtain ⟨⟨c0, c1, c2, c3, c4, c5, c6, c7⟩, ⟨u0, u1, u2, u3, u4, u5, u6, u7⟩⟩ := hC _ hbc)) | (go_at_call 117; first | ((with_reducible refine (q3 _ hbc).mono ?_); rintro e wn ⟨rfl, hbn⟩; replace hbc := bel_via hbc hbn; clear hbn; clear c0 c1 c2 c3 c4 c5 c6 c7 u0 u1 u2 u3 u4 u5 u6 u7; obtain ⟨⟨c0, c1, c2, c3, c4, c5, c6, c7⟩, ⟨u0, u1, u2, u3, u4, u5, u6, u7⟩⟩ := hC _ hbc) | ((with_reducible refine (q4 _ hbc).mono ?_); rintro e wn ⟨rfl, hbn⟩; replace hbc := bel_via hbc hbn; clear hbn; clear c0 c1 c2 c3 c4 c5 c6 c7 u0 u1 u2 u3 u4 u5 u6 u7; obtain ⟨⟨c0, c1, c2, c3, c4, c5, c6, c7⟩, ⟨u0, u1, u2, u3, u4, u5, u6, u7⟩⟩ := hC _ hbc)) | (go_at_call 118; ((with_reducible refine (q5 _ hbc).mono ?_); rintro e wn ⟨rfl, hbn⟩; replace hbc := bel_via hbc hbn; clear hbn; clear c0 c1 c2 c3 c4 c5 c6 c7 u0 u1 u2 u3 u4 u5 u6 u7; obtain ⟨⟨c0, c1, c2, c3, c4, c5, c6, c7⟩, ⟨u0, u1, u2, u3, u4, u5, u6, u7⟩⟩ := hC _ hbc)) | (go_at_call 113; ((with_reducible refine (q6 _ hbc).mono ?_); rintro e wn ⟨rfl, hbn⟩; replace hbc := bel_via hbc hbn; clear hbn; clear c0 c1 c2 c3 c4 c5 c6 c7 u0 u1 u2 u3 u4 u5 u6 u7; obtain ⟨⟨c0, c1, c2, c3, c4, c5, c6, c7⟩, ⟨u0, u1, u2, u3, u4, u5, u6, u7⟩⟩ := hC _ hbc)))
    go_ret
    exact ⟨by simp, bel_via hb0 hbc⟩
  | true =>
    cases r2 with
    | false =>
      go_enter Tryz.func72, Tryz.ntmps72
      go_wp2_with (first | (go_at_call 121; first | ((with_reducible refine (q1 _ hbc).mono ?_); rintro e wn ⟨rfl, hbn⟩; replace hbc := bel_via hbc hbn; clear hbn; clear c0 c1 c2 c3 c4 c5 c6 c7 u0 u1 u2 u3 u4 u5 u6 u7; obtain ⟨⟨c0, c1, c2, c3, c4, c5, c6, c7⟩, ⟨u0, u1, u2, u3, u4, u5, u6, u7⟩⟩ := hC _ hbc) | ((with_reducible refine (q2 _ hbc).mono ?_); rintro e wn ⟨rfl, hbn⟩; replace hbc := bel_via hbc hbn; clear hbn; clear c0 c1 c2 c3 c4 c5 c6 c7 u0 u1 u2 u3 u4 u5 u6 u7; obtain ⟨⟨c0, c1, c2, c3, c4, c5, c6, c7⟩, ⟨u0, u1, u2, u3, u4, u5, u6, u7⟩⟩ := hC _ hbc)) | (go_at_call 117; first | ((with_reducible refine (q3 _ hbc).mono ?_); rintro e wn ⟨rfl, hbn⟩; replace hbc := bel_via hbc hbn; clear hbn; clear c0 c1 c2 c3 c4 c5 c6 c7 u0 u1 u2 u3 u4 u5 u6 u7; obtain ⟨⟨c0, c1, c2, c3, c4, c5, c6, c7⟩, ⟨u0, u1, u2, u3, u4, u5, u6, u7⟩⟩ := hC _ hbc) | ((with_reducible refine (q4 _ hbc).mono ?_); rintro e wn ⟨rfl, hbn⟩; replace hbc := bel_via hbc hbn; clear hbn; clear c0 c1 c2 c3 c4 c5 c6 c7 u0 u1 u2 u3 u4 u5 u6 u7; obtain ⟨⟨c0, c1, c2, c3, c4, c5, c6, c7⟩, ⟨u0, u1, u2, u3, u4, u5, u6, u7⟩⟩ := hC _ hbc)) | (go_at_call 118; ((with_reducible refine (q5 _ hbc).mono ?_); rintro e wn ⟨rfl, hbn⟩; replace hbc := bel_via hbc hbn; clear hbn; clear c0 c1 c2 c3 c4 c5 c6 c7 u0 u1 u2 u3 u4 u5 u6 u7; obtain ⟨⟨c0, c1, c2, c3, c4, c5, c6, c7⟩, ⟨u0, u1, u2, u3, u4, u5, u6, u7⟩⟩ := hC _ hbc)) | (go_at_call 113; ((with_reducible refine (q6 _ hbc).mono ?_); rintro e wn ⟨rfl, hbn⟩; replace hbc := bel_via hbc hbn; clear hbn; clear c0 c1 c2 c3 c4 c5 c6 c7 u0 u1 u2 u3 u4 u5 u6 u7; obtain ⟨⟨c0, c1, c2, c3, c4, c5, c6, c7⟩, ⟨u0, u1, u2, u3, u4, u5, u6, u7⟩⟩ := hC _ hbc)))
      go_ret
      exact ⟨by simp, bel_via hb0 hbc⟩
    | true =>
      cases r3 with
      | false =>
        go_enter Tryz.func72, Tryz.ntmps72
        go_wp2_with (first | (go_at_call 121; first | ((with_reducible refine (q1 _ hbc).mono ?_); rintro e wn ⟨rfl, hbn⟩; replace hbc := bel_via hbc hbn; clear hbn; clear c0 c1 c2 c3 c4 c5 c6 c7 u0 u1 u2 u3 u4 u5 u6 u7; obtain ⟨⟨c0, c1, c2, c3, c4, c5, c6, c7⟩, ⟨u0, u1, u2, u3, u4, u5, u6, u7⟩⟩ := hC _ hbc) | ((with_reducible refine (q2 _ hbc).mono ?_); rintro e wn ⟨rfl, hbn⟩; replace hbc := bel_via hbc hbn; clear hbn; clear c0 c1 c2 c3 c4 c5 c6 c7 u0 u1 u2 u3 u4 u5 u6 u7; obtain ⟨⟨c0, c1, c2, c3, c4, c5, c6, c7⟩, ⟨u0, u1, u2, u3, u4, u5, u6, u7⟩⟩ := hC _ hbc)) | (go_at_call 117; first | ((with_reducible refine (q3 _ hbc).mono ?_); rintro e wn ⟨rfl, hbn⟩; replace hbc := bel_via hbc hbn; clear hbn; clear c0 c1 c2 c3 c4 c5 c6 c7 u0 u1 u2 u3 u4 u5 u6 u7; obtain ⟨⟨c0, c1, c2, c3, c4, c5, c6, c7⟩, ⟨u0, u1, u2, u3, u4, u5, u6, u7⟩⟩ := hC _ hbc) | ((with_reducible refine (q4 _ hbc).mono ?_); rintro e wn ⟨rfl, hbn⟩; replace hbc := bel_via hbc hbn; clear hbn; clear c0 c1 c2 c3 c4 c5 c6 c7 u0 u1 u2 u3 u4 u5 u6 u7; obtain ⟨⟨c0, c1, c2, c3, c4, c5, c6, c7⟩, ⟨u0, u1, u2, u3, u4, u5, u6, u7⟩⟩ := hC _ hbc)) | (go_at_call 118; ((with_reducible refine (q5 _ hbc).mono ?_); rintro e wn ⟨rfl, hbn⟩; replace hbc := bel_via hbc hbn; clear hbn; clear c0 c1 c2 c3 c4 c5 c6 c7 u0 u1 u2 u3 u4 u5 u6 u7; obtain ⟨⟨c0, c1, c2, c3, c4, c5, c6, c7⟩, ⟨u0, u1, u2, u3, u4, u5, u6, u7⟩⟩ := hC _ hbc)) | (go_at_call 113; ((with_reducible refine (q6 _ hbc).mono ?_); rintro e wn ⟨rfl, hbn⟩; replace hbc := bel_via hbc hbn; clear hbn; clear c0 c1 c2 c3 c4 c5 c6 c7 u0 u1 u2 u3 u4 u5 u6 u7; obtain ⟨⟨c0, c1, c2, c3, c4, c5, c6, c7⟩, ⟨u0, u1, u2, u3, u4, u5, u6, u7⟩⟩ := hC _ hbc)))
        go_ret
        exact ⟨by simp, bel_via hb0 hbc⟩
      | true =>
        cases r4 with
        | false =>
          go_enter Tryz.func72, Tryz.ntmps72
          go_wp2_with (first | (go_at_call 121; first | ((with_reducible refine (q1 _ hbc).mono ?_); rintro e wn ⟨rfl, hbn⟩; replace hbc := bel_via hbc hbn; clear hbn; clear c0 c1 c2 c3 c4 c5 c6 c7 u0 u1 u2 u3 u4 u5 u6 u7; obtain ⟨⟨c0, c1, c2, c3, c4, c5, c6, c7⟩, ⟨u0, u1, u2, u3, u4, u5, u6, u7⟩⟩ := hC _ hbc) | ((with_reducible refine (q2 _ hbc).mono ?_); rintro e wn ⟨rfl, hbn⟩; replace hbc := bel_via hbc hbn; clear hbn; clear c0 c1 c2 c3 c4 c5 c6 c7 u0 u1 u2 u3 u4 u5 u6 u7; obtain ⟨⟨c0, c1, c2, c3, c4, c5, c6, c7⟩, ⟨u0, u1, u2, u3, u4, u5, u6, u7⟩⟩ := hC _ hbc)) | (go_at_call 117; first | ((with_reducible refine (q3 _ hbc).mono ?_); rintro e wn ⟨rfl, hbn⟩; replace hbc := bel_via hbc hbn; clear hbn; clear c0 c1 c2 c3 c4 c5 c6 c7 u0 u1 u2 u3 u4 u5 u6 u7; obtain ⟨⟨c0, c1, c2, c3, c4, c5, c6, c7⟩, ⟨u0, u1, u2, u3, u4, u5, u6, u7⟩⟩ := hC _ hbc) | ((with_reducible refine (q4 _ hbc).mono ?_); rintro e wn ⟨rfl, hbn⟩; replace hbc := bel_via hbc hbn; clear hbn; clear c0 c1 c2 c3 c4 c5 c6 c7 u0 u1 u2 u3 u4 u5 u6 u7; obtain ⟨⟨c0, c1, c2, c3, c4, c5, c6, c7⟩, ⟨u0, u1, u2, u3, u4, u5, u6, u7⟩⟩ := hC _ hbc)) | (go_at_call 118; ((with_reducible refine (q5 _ hbc).mono ?_); rintro e wn ⟨rfl, hbn⟩; replace hbc := bel_via hbc hbn; clear hbn; clear c0 c1 c2 c3 c4 c5 c6 c7 u0 u1 u2 u3 u4 u5 u6 u7; obtain ⟨⟨c0, c1, c2, c3, c4, c5, c6, c7⟩, ⟨u0, u1, u2, u3, u4, u5, u6, u7⟩⟩ := hC _ hbc)) | (go_at_call 113; ((with_reducible refine (q6 _ hbc).mono ?_); rintro e wn ⟨rfl, hbn⟩; replace hbc := bel_via hbc hbn; clear hbn; clear c0 c1 c2 c3 c4 c5 c6 c7 u0 u1 u2 u3 u4 u5 u6 u7; obtain ⟨⟨c0, c1, c2, c3, c4, c5, c6, c7⟩, ⟨u0, u1, u2, u3, u4, u5, u6, u7⟩⟩ := hC _ hbc)))
          go_ret
          exact ⟨by simp, bel_via hb0 hbc⟩
        | true =>
          cases r5 with
          | false =>
            go_enter Tryz.func72, Tryz.ntmps72
            go_wp2_with (first | (go_at_call 121; first | ((with_reducible refine (q1 _ hbc).mono ?_); rintro e wn ⟨rfl, hbn⟩; replace hbc := bel_via hbc hbn; clear hbn; clear c0 c1 c2 c3 c4 c5 c6 c7 u0 u1 u2 u3 u4 u5 u6 u7; obtain ⟨⟨c0, c1, c2, c3, c4, c5, c6, c7⟩, ⟨u0, u1, u2, u3, u4, u5, u6, u7⟩⟩ := hC _ hbc) | ((with_reducible refine (q2 _ hbc).mono ?_); rintro e wn ⟨rfl, hbn⟩; replace hbc := bel_via hbc hbn; clear hbn; clear c0 c1 c2 c3 c4 c5 c6 c7 u0 u1 u2 u3 u4 u5 u6 u7; obtain ⟨⟨c0, c1, c2, c3, c4, c5, c6, c7⟩, ⟨u0, u1, u2, u3, u4, u5, u6, u7⟩⟩ := hC _ hbc)) | (go_at_call 117; first | ((with_reducible refine (q3 _ hbc).mono ?_); rintro e wn ⟨rfl, hbn⟩; replace hbc := bel_via hbc hbn; clear hbn; clear c0 c1 c2 c3 c4 c5 c6 c7 u0 u1 u2 u3 u4 u5 u6 u7; obtain ⟨⟨c0, c1, c2, c3, c4, c5, c6, c7⟩, ⟨u0, u1, u2, u3, u4, u5, u6, u7⟩⟩ := hC _ hbc) | ((with_reducible refine (q4 _ hbc).mono ?_); rintro e wn ⟨rfl, hbn⟩; replace hbc := bel_via hbc hbn; clear hbn; clear c0 c1 c2 c3 c4 c5 c6 c7 u0 u1 u2 u3 u4 u5 u6 u7; obtain ⟨⟨c0, c1, c2, c3, c4, c5, c6, c7⟩, ⟨u0, u1, u2, u3, u4, u5, u6, u7⟩⟩ := hC _ hbc)) | (go_at_call 118; ((with_reducible refine (q5 _ hbc).mono ?_); rintro e wn ⟨rfl, hbn⟩; replace hbc := bel_via hbc hbn; clear hbn; clear c0 c1 c2 c3 c4 c5 c6 c7 u0 u1 u2 u3 u4 u5 u6 u7; obtain ⟨⟨c0, c1, c2, c3, c4, c5, c6, c7⟩, ⟨u0, u1, u2, u3, u4, u5, u6, u7⟩⟩ := hC _ hbc)) | (go_at_call 113; ((with_reducible refine (q6 _ hbc).mono ?_); rintro e wn ⟨rfl, hbn⟩; replace hbc := bel_via hbc hbn; clear hbn; clear c0 c1 c2 c3 c4 c5 c6 c7 u0 u1 u2 u3 u4 u5 u6 u7; obtain ⟨⟨c0, c1, c2, c3, c4, c5, c6, c7⟩, ⟨u0, u1, u2, u3, u4, u5, u6, u7⟩⟩ := hC _ hbc)))
            go_ret
            exact ⟨by simp, bel_via hb0 hbc⟩
          | true =>
            by_cases hE : n6.toList = []
            · have hE1 : n6.toList.isEmpty = true := by simp [hE]
              have hE2 : (n6.toList == []) = true := by simp [hE]
              go_enter Tryz.func72, Tryz.ntmps72
              go_wp2_with (first | (go_at_call 121; first | ((with_reducible refine (q1 _ hbc).mono ?_); rintro e wn ⟨rfl, hbn⟩; replace hbc := bel_via hbc hbn; clear hbn; clear c0 c1 c2 c3 c4 c5 c6 c7 u0 u1 u2 u3 u4 u5 u6 u7; obtain ⟨⟨c0, c1, c2, c3, c4, c5, c6, c7⟩, ⟨u0, u1, u2, u3, u4, u5, u6, u7⟩⟩ := hC _ hbc) | ((with_reducible refine (q2 _ hbc).mono ?_); rintro e wn ⟨rfl, hbn⟩; replace hbc := bel_via hbc hbn; clear hbn; clear c0 c1 c2 c3 c4 c5 c6 c7 u0 u1 u2 u3 u4 u5 u6 u7; obtain ⟨⟨c0, c1, c2, c3, c4, c5, c6, c7⟩, ⟨u0, u1, u2, u3, u4, u5, u6, u7⟩⟩ := hC _ hbc)) | (go_at_call 117; first | ((with_reducible refine (q3 _ hbc).mono ?_); rintro e wn ⟨rfl, hbn⟩; replace hbc := bel_via hbc hbn; clear hbn; clear c0 c1 c2 c3 c4 c5 c6 c7 u0 u1 u2 u3 u4 u5 u6 u7; obtain ⟨⟨c0, c1, c2, c3, c4, c5, c6, c7⟩, ⟨u0, u1, u2, u3, u4, u5, u6, u7⟩⟩ := hC _ hbc) | ((with_reducible refine (q4 _ hbc).mono ?_); rintro e wn ⟨rfl, hbn⟩; replace hbc := bel_via hbc hbn; clear hbn; clear c0 c1 c2 c3 c4 c5 c6 c7 u0 u1 u2 u3 u4 u5 u6 u7; obtain ⟨⟨c0, c1, c2, c3, c4, c5, c6, c7⟩, ⟨u0, u1, u2, u3, u4, u5, u6, u7⟩⟩ := hC _ hbc)) | (go_at_call 118; ((with_reducible refine (q5 _ hbc).mono ?_); rintro e wn ⟨rfl, hbn⟩; replace hbc := bel_via hbc hbn; clear hbn; clear c0 c1 c2 c3 c4 c5 c6 c7 u0 u1 u2 u3 u4 u5 u6 u7; obtain ⟨⟨c0, c1, c2, c3, c4, c5, c6, c7⟩, ⟨u0, u1, u2, u3, u4, u5, u6, u7⟩⟩ := hC _ hbc)) | (go_at_call 113; ((with_reducible refine (q6 _ hbc).mono ?_); rintro e wn ⟨rfl, hbn⟩; replace hbc := bel_via hbc hbn; clear hbn; clear c0 c1 c2 c3 c4 c5 c6 c7 u0 u1 u2 u3 u4 u5 u6 u7; obtain ⟨⟨c0, c1, c2, c3, c4, c5, c6, c7⟩, ⟨u0, u1, u2, u3, u4, u5, u6, u7⟩⟩ := hC _ hbc)))
              go_ret
              exact ⟨by simp [hE1], bel_via hb0 hbc⟩
            · have hE1 : n6.toList.isEmpty = false := by simpa using hE
              have hE2 : (n6.toList == []) = false := by simp [hE]
              go_enter Tryz.func72, Tryz.ntmps72
              go_wp2_with (first | (go_at_call 121; first | ((with_reducible refine (q1 _ hbc).mono ?_); rintro e wn ⟨rfl, hbn⟩; replace hbc := bel_via hbc hbn; clear hbn; clear c0 c1 c2 c3 c4 c5 c6 c7 u0 u1 u2 u3 u4 u5 u6 u7; obtain ⟨⟨c0, c1, c2, c3, c4, c5, c6, c7⟩, ⟨u0, u1, u2, u3, u4, u5, u6, u7⟩⟩ := hC _ hbc) | ((with_reducible refine (q2 _ hbc).mono ?_); rintro e wn ⟨rfl, hbn⟩; replace hbc := bel_via hbc hbn; clear hbn; clear c0 c1 c2 c3 c4 c5 c6 c7 u0 u1 u2 u3 u4 u5 u6 u7; obtain ⟨⟨c0, c1, c2, c3, c4, c5, c6, c7⟩, ⟨u0, u1, u2, u3, u4, u5, u6, u7⟩⟩ := hC _ hbc)) | (go_at_call 117; first | ((with_reducible refine (q3 _ hbc).mono ?_); rintro e wn ⟨rfl, hbn⟩; replace hbc := bel_via hbc hbn; clear hbn; clear c0 c1 c2 c3 c4 c5 c6 c7 u0 u1 u2 u3 u4 u5 u6 u7; obtain ⟨⟨c0, c1, c2, c3, c4, c5, c6, c7⟩, ⟨u0, u1, u2, u3, u4, u5, u6, u7⟩⟩ := hC _ hbc) | ((with_reducible refine (q4 _ hbc).mono ?_); rintro e wn ⟨rfl, hbn⟩; replace hbc := bel_via hbc hbn; clear hbn; clear c0 c1 c2 c3 c4 c5 c6 c7 u0 u1 u2 u3 u4 u5 u6 u7; obtain ⟨⟨c0, c1, c2, c3, c4, c5, c6, c7⟩, ⟨u0, u1, u2, u3, u4, u5, u6, u7⟩⟩ := hC _ hbc)) | (go_at_call 118; ((with_reducible refine (q5 _ hbc).mono ?_); rintro e wn ⟨rfl, hbn⟩; replace hbc := bel_via hbc hbn; clear hbn; clear c0 c1 c2 c3 c4 c5 c6 c7 u0 u1 u2 u3 u4 u5 u6 u7; obtain ⟨⟨c0, c1, c2, c3, c4, c5, c6, c7⟩, ⟨u0, u1, u2, u3, u4, u5, u6, u7⟩⟩ := hC _ hbc)) | (go_at_call 113; ((with_reducible refine (q6 _ hbc).mono ?_); rintro e wn ⟨rfl, hbn⟩; replace hbc := bel_via hbc hbn; clear hbn; clear c0 c1 c2 c3 c4 c5 c6 c7 u0 u1 u2 u3 u4 u5 u6 u7; obtain ⟨⟨c0, c1, c2, c3, c4, c5, c6, c7⟩, ⟨u0, u1, u2, u3, u4, u5, u6, u7⟩⟩ := hC _ hbc)))
              go_ret
              exact ⟨by simp [hE1], bel_via hb0 hbc⟩
end Go.Proofs.YtmnnjkdmnfadhaaGreatDoor
