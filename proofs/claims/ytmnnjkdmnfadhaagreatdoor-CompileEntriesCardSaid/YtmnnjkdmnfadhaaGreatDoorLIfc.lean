/- Interfaces of zones: the program's; by-name template (gen_lclo.py). -/
import Derived.Test.YtmnnjkdmnfadhaaGreatDoorLRul
import Derived.Test.YtmnnjkdmnfadhaaGreatDoorShelf2
namespace Go.Proofs.YtmnnjkdmnfadhaaGreatDoor
open Go.Shelf Go.RowKit Go.Lib Go.Sort
set_option linter.unusedVariables false
set_option linter.unusedSimpArgs false

def inZ (x : Int) (z : ZR) : Bool := z.ifs.any fun y => x == y
def hasIf (zl : List ZR) (n : Int) : Bool := zl.any (inZ n)
theorem contains_any (x : Int) (A : Option Addr) (n cc : Nat) (l : List Int) {w : World} (hS : Sl w 1 (fun x : Int => [Value.int .i64 x]) A n l) :
    Calls Tryz.prog 45 #[.slice A n cc, .int .i64 x] w fun e w' => e = .returned (.bool (l.any fun y => x == y)) ∧ w = w' := by
  by_cases h0 : n = 0
  · subst h0
    obtain rfl : l = [] := List.eq_nil_of_length_eq_zero hS.len
    exact (Tryz.slices_Contains_int_empty A cc x w).mono fun e w' ⟨he, hw⟩ => ⟨by rw [he]; rfl, hw.symm⟩
  · obtain ⟨b, off, hA, hlt, hc⟩ := hS.row (by omega)
    subst hA
    refine (Tryz.slices_Contains_int b off n cc l x w (by rw [hS.len]; exact Nat.le_refl _) (by have := hS.big; omega) (fun j hj => ?_)).mono fun e w' ⟨he, hw⟩ => ⟨by rw [he, List.take_of_length_le (by rw [hS.len]; exact Nat.le_refl _), List.contains_eq_any_beq], hw.symm⟩
    have hg : l[j]? = some (l.getD j 0) := by rw [List.getD_eq_getElem?_getD, List.getElem?_eq_getElem hj]; rfl
    simpa using hc j _ hg 0 _ rfl

theorem have1_any (x : Int) (B : Nat) (z : ZR) {W : World} (hz : Sl W 1 (fun x : Int => [Value.int .i64 x]) z.ia z.il z.ifs) (hB : W.cell? ⟨B, 0, none⟩ = some (.int .i64 x)) :
    Calls Tryz.prog 99 #[.agg (zrc z).toArray, .pointer (some ⟨B, 0, none⟩)] W fun e w' => e = .returned (.bool (inZ x z)) ∧ Below W.heap.size W w' := by
  obtain ⟨nm, ah, al, ia, il, ic, ifs⟩ := z
  have hb2 : B < W.heap.size := World.block_lt_of_cell? _ _ hB
  have hz' : Sl (W.alloc (.cells (zrc ⟨nm, ah, al, ia, il, ic, ifs⟩).toArray 59)) 1 (fun x : Int => [Value.int .i64 x]) ia il ifs := hz.keep (Below.al (Below.refl _ _) _)
  have hB' : (W.alloc (.cells (zrc ⟨nm, ah, al, ia, il, ic, ifs⟩).toArray 59)).cell? ⟨B, 0, none⟩ = some (.int .i64 x) := keepc (Below.al (Below.refl _ _) _) hB
  have cc := contains_any x ia il ic ifs hz'
  simp only [zrc, inZ] at *
  generalize (ifs.any fun y => x == y) = r at *
  clear hz hz'
  go_enter Tryz.func99, Tryz.ntmps99
  go_wp2_with (go_at_call 45; with_reducible refine cc.mono ?_; rintro e w' ⟨rfl, rfl⟩)
  go_ret
  exact ⟨rfl, Below.al (Below.refl _ _) _⟩
theorem eHave1 : ∀ args w, (callFunc 99 args).run Tryz.prog w = .ok (.enter 99 args) w := enters_of Tryz.func99 (by kernel_rfl) rfl

theorem haveif_any (x : Int) (A : Option Addr) (n c : Nat) (l : List ZR) {w : World} (hS : Sl w 4 zrc A n l) (hzi : ∀ z ∈ l, Sl w 1 (fun x : Int => [Value.int .i64 x]) z.ia z.il z.ifs) :
    Calls Tryz.prog 46 #[.slice A n c, .int .i64 x] w fun e w' => e = .returned (.bool (hasIf l x)) ∧ Below w.heap.size w w' := by
  have b1 : Below w.heap.size w (w.alloc (.cells #[.int .i64 x] 3)) := Below.al (Below.refl _ _) _
  have hB : (w.alloc (.cells #[.int .i64 x] 3)).cell? ⟨w.heap.size, 0, none⟩ = some (.int .i64 x) := by simp [go_sem]
  have cc := has_rows Tryz.lc_zon Tryz.isAgg59 Tryz.sizeOf59 zrc (fun _ => rfl) (inZ x) 99 #[.pointer (some ⟨w.heap.size, 0, none⟩)] eHave1 A n c l (w.alloc (.cells #[.int .i64 x] 3))
    (fun W z hz hW => have1_any x w.heap.size z (((hzi z hz).keep b1).keep hW) (keepc hW hB)) (hS.keep b1)
  change Calls Tryz.prog 98 _ _ _ at cc
  unfold hasIf
  generalize l.any (inZ x) = r at *
  clear hS hzi hB
  go_enter Tryz.func46, Tryz.ntmps46
  go_wp2_with (go_at_call 98; go_loud (with_reducible refine cc.mono ?_); rintro e w' ⟨rfl, hb⟩)
  go_ret
  exact ⟨rfl, bel_via b1 hb⟩

/-- What is wrong with an interface of a zone. -/
def ifcChk (zl : List ZR) (n : Int) (these : List Int) : Int := if wiB n 0 15 = true then (if (these.any fun y => n == y) = true then 63 else if hasIf zl n = true then 63 else 0) else 61
set_option maxHeartbeats 2000000 in
theorem ifc1_any (zA : Option Addr) (zn zc : Nat) (zl : List ZR) (B : Nat) (n : Int) (iA : Option Addr) (j ic : Nat) (these : List Int) {W : World} (hz : Sl W 4 zrc zA zn zl) (hzi : ∀ z ∈ zl, Sl W 1 (fun x : Int => [Value.int .i64 x]) z.ia z.il z.ifs) (hi : Sl W 1 (fun x : Int => [Value.int .i64 x]) iA j these) (hB : W.cell? ⟨B, 0, none⟩ = some (.slice zA zn zc)) :
    Calls Tryz.prog 44 #[.int .i64 n, .slice iA j ic, .pointer (some ⟨B, 0, none⟩)] W fun e w' => e = .returned (.int .i64 (ifcChk zl n these)) ∧ Below W.heap.size W w' := by
  have c1 := within_any n 0 15 W
  have c2 := contains_any n iA j ic these hi
  have c3 := haveif_any n zA zn zc zl hz hzi
  unfold ifcChk
  generalize wiB n 0 15 = K1 at *
  generalize (these.any fun y => n == y) = K2 at *
  generalize hasIf zl n = K3 at *
  clear hz hzi hi
  cases K1 <;> cases K2 <;> cases K3 <;>
  ( go_enter Tryz.func44, Tryz.ntmps44
    go_wp2_with (first | (go_at_call 42; with_reducible refine c1.mono ?_; rintro e w1 ⟨rfl, rfl⟩) | (go_at_call 45; with_reducible refine c2.mono ?_; rintro e w2 ⟨rfl, rfl⟩) | (go_at_call 46; with_reducible refine c3.mono ?_; rintro e w3 ⟨rfl, hb3⟩))
    go_ret
    first | exact ⟨by simp, hb3⟩ | exact ⟨by simp, Below.refl _ _⟩)
theorem eIfc1 : ∀ args w, (callFunc 44 args).run Tryz.prog w = .ok (.enter 44 args) w := enters_of Tryz.func44 (by kernel_rfl) rfl
end Go.Proofs.YtmnnjkdmnfadhaaGreatDoor
