/- Actions, defaults; by-name template (gen_lact.py). -/
import Derived.Test.YtmnnjkdmnfadhaaGreatDoorLLeaf
import Derived.Test.YtmnnjkdmnfadhaaGreatDoorLOwn
namespace Go.Proofs.YtmnnjkdmnfadhaaGreatDoor
open Go.Shelf Go.RowKit Go.Lib Go.Sort
set_option linter.unusedVariables false
set_option linter.unusedSimpArgs false

/-- The rows that a block begins with. -/
theorem sl_block {α : Type} {k : Nat} {enc : α → List Value} (hk : ∀ x, (enc x).length = k) {W : World} {b : Nat} {l : List α} {cs : Array Value} {t : TypeId} {fz : Nat × Nat} (h : W.heap[b]? = some (.cells cs t fz)) (hb : l.length ≤ 9223372036854775807) (hcs : ∀ (j : Nat) (v : Value), (l.flatMap enc)[j]? = some v → cs[j]? = some v) : Sl W k enc (some ⟨b, 0, none⟩) l.length l :=
  ⟨rfl, hb, fun _ => ⟨b, 0, rfl, (Array.getElem?_eq_some_iff.1 h).1, fun j x hj i v hv => by
    have := hcs _ v (flat_get hk l j x hj i v hv)
    rw [show 0 + j * k + i = j * k + i by omega]
    simp only [World.cell?, h]
    exact this⟩⟩
theorem pre_get {cs rest : Array Value} {l : List Value} (h : cs.toList = l) (j : Nat) (v : Value) (hv : l[j]? = some v) : (cs ++ rest)[j]? = some v := by
  subst h
  have hv2 : cs[j]? = some v := by simpa using hv
  rw [Array.getElem?_append_left (Array.getElem?_eq_some_iff.1 hv2).1]; exact hv2

set_option maxHeartbeats 1000000 in
theorem act_any (w : World) : Calls Tryz.prog 75 #[] w (Made w [⟨accS, 1⟩, ⟨drpS, 2⟩, ⟨rejS, 3⟩]) := by
  go_enter Tryz.func75, Tryz.ntmps75
  go_wp2_with (go_at_call 77; with_reducible refine (defaults_any _).mono ?_; rintro e w' ⟨rfl, rfl⟩)
  go_ret
  refine ⟨w.heap.size + 1 + 1, 3, _, rfl, sl_block (α := MR) (k := 2) (enc := mrc) (l := [⟨accS, 1⟩, ⟨drpS, 2⟩, ⟨rejS, 3⟩]) (fun _ => rfl) (show (World.drew _).heap[_]? = _ from al_new (by simp) _) (by simp) ?_, ?_⟩
  · intro j v hv
    rw [← Array.append_assoc]
    exact pre_get (l := [Value.string accS, .int .i64 1, .string drpS, .int .i64 2, .string rejS, .int .i64 3]) rfl j v hv
  · repeat (first | exact Below.refl _ _ | apply Below.dr | apply Below.al)

def defB (d : Int) : Bool := [(⟨accS, 1⟩ : MR), ⟨drpS, 2⟩].any fun x => x.nu == d
def actB (d : Int) : Bool := [(⟨accS, 1⟩ : MR), ⟨drpS, 2⟩, ⟨rejS, 3⟩].any fun x => x.nu == d
theorem defB_iff (d : Int) : defB d = true ↔ d = 1 ∨ d = 2 := by simp [defB]; omega
theorem actB_iff (d : Int) : actB d = true ↔ d = 1 ∨ d = 2 ∨ d = 3 := by simp [actB]; omega
def defP (c : CF) : Int := if defB c.dflt = true then 0 else 1
theorem hasdef_any (d : Int) {W : World} {g : Nat} (h : W.heap[g]? = some (.cells #[.string accS, .int .i64 1, .string drpS, .int .i64 2] 125 (0, 0))) :
    Calls Tryz.prog 74 #[.slice (some ⟨g, 0, none⟩) 2 2, .func (.func 76) #[] #[], .int .i64 d] W fun e w' => e = .returned (.bool (defB d)) ∧ Below W.heap.size W w' :=
  has_mea d (some ⟨g, 0, none⟩) 2 2 [⟨accS, 1⟩, ⟨drpS, 2⟩] (sl_block (α := MR) (k := 2) (enc := mrc) (l := [⟨accS, 1⟩, ⟨drpS, 2⟩]) (fun _ => rfl) h (by simp) fun j v hv => by
    have : (#[Value.string accS, .int .i64 1, .string drpS, .int .i64 2] : Array Value).toList[j]? = some v := hv
    simpa using this)
set_option maxHeartbeats 1000000 in
theorem cdef_any (c : CF) {w : World} : Calls Tryz.prog 21 #[.agg (cfc c)] w fun e w' => e = .returned (.int .i64 (defP c)) ∧ Below w.heap.size w w' := by
  have b1 : Below w.heap.size w (w.alloc (.cells (cfc c) 30)) := Below.al (Below.refl _ _) _
  have hB := CfB.made w c
  have hd := fun (W : World) (g : Nat) h => hasdef_any c.dflt (W := W) (g := g) h
  have hr : defP c = if defB c.dflt = true then 0 else 1 := rfl
  rw [hr]
  clear hr
  generalize defB c.dflt = R at *
  obtain ⟨-, -, -, -, -, -, -, c7⟩ := hB
  go_enter Tryz.func21, Tryz.ntmps21
  go_wp2
  generalize w.alloc (.cells (cfc c) 30) = W1 at *
  have hlt : w.heap.size < W1.heap.size := World.block_lt_of_cell? _ _ c7
  go_region_with (first | (go_at_call 77; refine (defaults_any _).mono ?_; rintro e w' ⟨rfl, rfl⟩) | (go_at_call 74; refine (hd _ _ (show (World.drew _).heap[_]? = _ from al_new rfl _)).mono ?_; rintro e w' ⟨rfl, hb2⟩))
  all_goals
    have hbz := bel_via b1 (bel_via (Below.dr (Below.al (Below.refl _ _) _)) hb2)
    cases R with
    | true =>
      go_wp2
      go_ret
      exact ⟨rfl, hbz⟩
    | false =>
      go_wp2
      go_ret
      exact ⟨rfl, hbz⟩
end Go.Proofs.YtmnnjkdmnfadhaaGreatDoor
