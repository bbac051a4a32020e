/- slices.SortFunc at addresses, by addr.Compare; by-name template. -/
import Derived.Test.YtomennaekjklbaaCRAdd
import Derived.Test.YtomennaekjklbaaShelf
import Derived.Shelf.SlSortCmp.WholeK
namespace Go.Proofs.Ytomennaekjklbaa
open Go.Shelf Go.RowKit Go.Lib Go.Sort
set_option linter.unusedVariables false
set_option linter.unusedSimpArgs false

def GB (w w' : World) : Prop := ∃ (q : Nat) (os : Array Obj), w' = grow (w.drewN q) os
theorem GB.refl (w : World) : GB w w := ⟨0, #[], by rw [grow_empty]; rfl⟩
theorem GB.al {w w' : World} (h : GB w w') (o : Obj) : GB w (w'.alloc o) := by
  obtain ⟨q, os, rfl⟩ := h
  exact ⟨q, os ++ #[o], by rw [alloc_eq_grow, grow_grow]⟩
theorem GB.dr {w w' : World} (h : GB w w') : GB w w'.drew := by
  obtain ⟨q, os, rfl⟩ := h
  exact ⟨q + 1, os, by simp [grow, World.drew, World.drewN, Nat.add_assoc]⟩
theorem cmpg_any (ah al bh bl : Int) (w : World) : Calls Try.prog 63 #[.agg #[.int .u64 ah, .int .u64 al], .agg #[.int .u64 bh, .int .u64 bl]] w fun e w' => e = .returned (.int .i64 (cmpA ah al bh bl)) ∧ GB w w' := by
  unfold cmpA
  go_enter Try.func63, Try.ntmps63
  go_wp2
  go_region_held3 (fun w' => w'.cell? ⟨w.heap.size, 0, none⟩ = some (.int .u64 ah) ∧ w'.cell? ⟨w.heap.size, 1, none⟩ = some (.int .u64 al) ∧ w'.cell? ⟨w.heap.size + 1, 0, none⟩ = some (.int .u64 bh) ∧ w'.cell? ⟨w.heap.size + 1, 1, none⟩ = some (.int .u64 bl)) (simp [go_sem, World.cell?_alloc_past])
    (first
      | (go_at_call 71; refine (cmpU_any _ _ _).mono ?_; rintro e w' ⟨rfl, rfl⟩)
      | (go_at_call 70; refine (or_any (cmpI ah bh) (cmpI al bl) (by simp [go_sem]) (by simp [go_sem])).mono ?_; rintro e w' ⟨rfl, rfl⟩))
  go_wp2
  go_ret
  exact ⟨rfl, by repeat (first | exact GB.refl _ | apply GB.dr | apply GB.al)⟩
def cfP (x y : P2) : Int := cmpA x.h x.l y.h y.l
theorem ltOf_P (x y : P2) : ltOf cfP x y = ltP x y := rfl
theorem swoP : SWO (ltOf cfP) where
  irrefl x := by rw [ltOf_P]; exact lt_irrefl x
  trans x y z h1 h2 := by rw [ltOf_P] at *; exact lt_trans h1 h2
  ntrans x y z h1 h2 := by
    rw [ltOf_P] at *
    cases h : ltP x z with
    | false => rfl
    | true =>
      have k1 := mt (ltP_iff x y).2 (by rw [h1]; exact Bool.false_ne_true)
      have k2 := mt (ltP_iff y z).2 (by rw [h2]; exact Bool.false_ne_true)
      have k3 := (ltP_iff x z).1 h
      omega

theorem sort_any (blk off cap : Nat) (d : Array P2) (w : World) (hH : HoldsK p2c 2 w blk off d) (hblk : blk < w.heap.size) (hsz : d.size < 4611686018427387904) :
    Calls Try.prog 62 #[.slice (some ⟨blk, off, none⟩) d.size cap, .func (.func 63) #[] #[]] w fun e w' =>
      e = .returned (.tuple #[]) ∧ ∃ d' n os, PermIn 0 d.size d d' ∧ SortedIn (ltOf cfP) 0 d.size d' ∧ w' = sortWorldK p2c 2 w blk off n d' os := by
  have eg : ∀ args w, (callFunc 63 args).run Try.prog w = .ok (.enter 63 args) w := enters_of Try.func63 (by kernel_rfl) rfl
  have hcon := AnyQ.slices_SortFunc Try.sort_adr 2 (fun w => by kernel_rfl) (fun w => by kernel_rfl) p2c (fun _ => rfl) (fun x v hv => p2_one x v hv) cfP swoP 63 #[] blk off cap d w eg (fun _ _ _ _ x y => cmpg_any x.h x.l y.h y.l _) hH hblk hsz
  change Calls Try.prog 62 _ _ _ at hcon
  exact hcon
end Go.Proofs.Ytomennaekjklbaa
