/- Zones: the program's and the document's; by-name template. -/
import Derived.Test.YtokbmahnjmmcaaaRBase
namespace Go.Proofs.Ytokbmahnjmmcaaa
open Go.Shelf Go.RowKit Go.Lib
set_option linter.unusedVariables false
set_option linter.unusedSimpArgs false

def inZ (x : Int) (z : ZR) : Bool := z.ifs.any fun y => x == y
def zoneP (c : CF) (x : Int) : Int := pl (inZ x) c.zs

theorem contains_any (x : Int) (A : Option Addr) (n cc : Nat) (l : List Int) {w : World} (hS : Sl w 1 (fun x : Int => [Value.int .i64 x]) A n l) :
    Calls Try.prog 58 #[.slice A n cc, .int .i64 x] w fun e w' => e = .returned (.bool (l.any fun y => x == y)) ∧ w = w' := by
  by_cases h0 : n = 0
  · subst h0
    obtain rfl : l = [] := List.eq_nil_of_length_eq_zero hS.len
    exact (Try.slices_Contains_int_empty A cc x w).mono fun e w' ⟨he, hw⟩ => ⟨by rw [he]; rfl, hw.symm⟩
  · obtain ⟨b, off, hA, hlt, hc⟩ := hS.row (by omega)
    subst hA
    refine (Try.slices_Contains_int b off n cc l x w (by rw [hS.len]; exact Nat.le_refl _) (by have := hS.big; omega) (fun j hj => ?_)).mono fun e w' ⟨he, hw⟩ => ⟨by rw [he, List.take_of_length_le (by rw [hS.len]; exact Nat.le_refl _), List.contains_eq_any_beq], hw.symm⟩
    have hg : l[j]? = some (l.getD j 0) := by rw [List.getD_eq_getElem?_getD, List.getElem?_eq_getElem hj]; rfl
    simpa using hc j _ hg 0 _ rfl

theorem zone1_any (x : Int) (B : Nat) (z : ZR) {W : World} (hz : Sl W 1 (fun x : Int => [Value.int .i64 x]) z.ia z.il z.ifs) (hB : W.cell? ⟨B, 0, none⟩ = some (.int .i64 x)) :
    Calls Try.prog 57 #[.agg (zrc z).toArray, .pointer (some ⟨B, 0, none⟩)] W fun e w' => e = .returned (.bool (inZ x z)) ∧ Below W.heap.size W w' := by
  obtain ⟨nm, ah, al, ia, il, ic, ifs⟩ := z
  have hb2 : B < W.heap.size := World.block_lt_of_cell? _ _ hB
  have hz' : Sl (W.alloc (.cells (zrc ⟨nm, ah, al, ia, il, ic, ifs⟩).toArray 47)) 1 (fun x : Int => [Value.int .i64 x]) ia il ifs := hz.keep (Below.al (Below.refl _ _) _)
  have hB' : (W.alloc (.cells (zrc ⟨nm, ah, al, ia, il, ic, ifs⟩).toArray 47)).cell? ⟨B, 0, none⟩ = some (.int .i64 x) := keepc (Below.al (Below.refl _ _) _) hB
  have cc := contains_any x ia il ic ifs hz'
  simp only [zrc, inZ] at *
  generalize (ifs.any fun y => x == y) = r at *
  clear hz hz'
  go_enter Try.func57, Try.ntmps57
  go_wp2_with (go_at_call 58; with_reducible refine cc.mono ?_; rintro e w' ⟨rfl, rfl⟩)
  go_ret
  exact ⟨rfl, Below.al (Below.refl _ _) _⟩

theorem e30 : ∀ args w, (callFunc 57 args).run Try.prog w = .ok (.enter 57 args) w := enters_of Try.func57 (by kernel_rfl) rfl

/-- The configuration's own block. -/
theorem cfg_cells {w : World} {c : CF} {W : World} (hb : Below (w.alloc (.cells (cfc c) 30)).heap.size (w.alloc (.cells (cfc c) 30)) W) :
    W.cell? ⟨w.heap.size, 0, none⟩ = some (.slice c.zA c.zn c.zc) ∧ W.cell? ⟨w.heap.size, 1, none⟩ = some (.slice c.oA c.on c.oc) ∧ W.cell? ⟨w.heap.size, 2, none⟩ = some (.slice c.sA c.sn c.sc) ∧ W.cell? ⟨w.heap.size, 3, none⟩ = some (.slice c.lA c.ln c.lc) ∧ W.cell? ⟨w.heap.size, 4, none⟩ = some (.slice c.tA c.tn c.tc) ∧ W.cell? ⟨w.heap.size, 5, none⟩ = some (.slice c.nA c.nn c.nc) ∧ W.cell? ⟨w.heap.size, 6, none⟩ = some (.slice c.uA c.un c.uc) ∧ W.cell? ⟨w.heap.size, 7, none⟩ = some (.int .i64 c.dflt) := by
  refine ⟨keepc hb ?_, keepc hb ?_, keepc hb ?_, keepc hb ?_, keepc hb ?_, keepc hb ?_, keepc hb ?_, keepc hb ?_⟩ <;> simp [cfc, go_sem]

theorem zone_any (c : CF) (x : Int) {w : World} (hc : c.Ok w) :
    Calls Try.prog 48 #[.agg (cfc c), .int .i64 x] w fun e w' => e = .returned (.int .i64 (zoneP c x)) ∧ Below w.heap.size w w' := by
  have hb : Below w.heap.size w ((w.alloc (.cells (cfc c) 30)).alloc (.cells #[.int .i64 x] 3)) := Below.al (Below.al (Below.refl _ _) _) _
  have cc := idx_rows Try.li29 Try.isAgg47 Try.sizeOf47 zrc (fun _ => rfl) (inZ x) 57 #[.pointer (some ⟨w.heap.size + 1, 0, none⟩)] e30 c.zA c.zn c.zc c.zs ((w.alloc (.cells (cfc c) 30)).alloc (.cells #[.int .i64 x] 3))
    (fun W z hz hW => zone1_any x (w.heap.size + 1) z (((hc.zi z hz).keep hb).keep hW) (keepc hW (by simp [go_sem, World.cell?_alloc_past]))) (hc.z.keep hb)
  change Calls Try.prog 56 _ _ _ at cc
  unfold zoneP
  generalize pl (inZ x) c.zs = r at *
  simp only [cfc] at *
  clear hc
  go_enter Try.func48, Try.ntmps48
  go_wp2_with (go_at_call 56; with_reducible refine cc.mono ?_; rintro e w' ⟨rfl, hb'⟩)
  go_ret
  exact ⟨rfl, bel_via hb hb'⟩
end Go.Proofs.Ytokbmahnjmmcaaa
