/- FlowCaps: the walk's inner parts; by-name template (gen_foca.py). -/
import Derived.Test.YtdgodndaaenafaaFoXt
import Derived.Test.YtdgodndaaenafaaFoKe
namespace Go.Proofs.Ytdgodndaaenafaa
open Go.RowKit Go.Lib Go.Maps
set_option linter.unusedVariables false
set_option linter.unusedSimpArgs false

def SA (x : Stp) : Array Value := (scells x).toArray
def zs : Stp := ⟨0, 0, 0, 0, zf⟩
theorem s_inf (x : Stp) : (Try.prog.info? 40).map (·.size) = some (SA x).size := by rw [show (SA x).size = 24 from rfl]; kernel_rfl
theorem s_one (x : Stp) : (SA x).all (·.oneCell') = true := by unfold SA scells fcells; simp [Value.oneCell']
theorem sa_row {w : World} {b off i : Nat} {l : List Stp} {x : Stp} (h : ∀ j y, l[j]? = some y → ∀ t v, (scells y)[t]? = some v → w.cell? ⟨b, off + j * 24 + t, none⟩ = some v) (hx : l[i]? = some x) :
    ∀ j v, (SA x).toList[j]? = some v → w.cell? ((⟨b, off + i * 24, none⟩ : Addr).add j) = some v := by
  intro j v hj
  rw [addr_add]
  exact h i x hx j v hj
section
variable {w : World} {B : Nat} {x : Stp} {T : TypeId}
theorem sa_kind (h : w.heap[B]? = some (.cells (SA x) T (0, 0))) : w.cell? ⟨B, 0, none⟩ = some (.int .i64 x.kind) := cell_of_row _ B 0 _ _ _ h
theorem sa_n (h : w.heap[B]? = some (.cells (SA x) T (0, 0))) : w.cell? ⟨B, 1, none⟩ = some (.int .i64 x.n) := cell_of_row _ B 1 _ _ _ h
theorem sa_en (h : w.heap[B]? = some (.cells (SA x) T (0, 0))) : w.cell? ⟨B, 3, none⟩ = some (.int .i64 x.en) := cell_of_row _ B 3 _ _ _ h
theorem sa_f (h : w.heap[B]? = some (.cells (SA x) T (0, 0))) : ∀ j v, (FA x.f).toList[j]? = some v → w.cell? ((⟨B, 4, none⟩ : Addr).add j) = some v := by
  intro j v hj
  rw [addr_add, cell_of_row w B (4 + j) _ _ _ h]
  have hl : j < 20 := (List.getElem?_eq_some_iff.1 hj).1
  show (scells x).toArray[4 + j]? = some v
  unfold scells
  simp only [List.getElem?_toArray]
  rw [List.getElem?_append_right (by simp)]
  simpa [FA] using hj
theorem sa_op (h : w.heap[B]? = some (.cells (SA x) T (0, 0))) : ∀ j v, (KA x.f.op).toList[j]? = some v → w.cell? ((⟨B, 5, none⟩ : Addr).add j) = some v := by
  intro j v hj
  rw [addr_add, cell_of_row w B (5 + j) _ _ _ h]
  match j, hj with
  | 0, hj => exact hj
  | 1, hj => exact hj
  | 2, hj => exact hj
  | 3, hj => exact hj
  | 4, hj => exact hj
  | 5, hj => exact hj
  | 6, hj => exact hj
  | j + 7, hj => simp [KA, kcells] at hj
theorem sa_bk (h : w.heap[B]? = some (.cells (SA x) T (0, 0))) : ∀ j v, (KA x.f.bk).toList[j]? = some v → w.cell? ((⟨B, 12, none⟩ : Addr).add j) = some v := by
  intro j v hj
  rw [addr_add, cell_of_row w B (12 + j) _ _ _ h]
  match j, hj with
  | 0, hj => exact hj
  | 1, hj => exact hj
  | 2, hj => exact hj
  | 3, hj => exact hj
  | 4, hj => exact hj
  | 5, hj => exact hj
  | 6, hj => exact hj
  | j + 7, hj => simp [KA, kcells] at hj
theorem row_op {b off i : Nat} {l : List Fl} {y : Fl} (h : ∀ j v, (FA y).toList[j]? = some v → w.cell? ((⟨b, off, none⟩ : Addr).add j) = some v) : ∀ j v, (KA y.op).toList[j]? = some v → w.cell? ((⟨b, off + 1, none⟩ : Addr).add j) = some v := by
  intro j v hj
  have e : (⟨b, off + 1, none⟩ : Addr).add j = (⟨b, off, none⟩ : Addr).add (1 + j) := by rw [addr_add, addr_add]; congr 1; omega
  rw [e]
  refine h (1 + j) v ?_
  match j, hj with
  | 0, hj => exact hj
  | 1, hj => exact hj
  | 2, hj => exact hj
  | 3, hj => exact hj
  | 4, hj => exact hj
  | 5, hj => exact hj
  | 6, hj => exact hj
  | j + 7, hj => simp [KA, kcells] at hj
theorem row_bk {b off i : Nat} {l : List Fl} {y : Fl} (h : ∀ j v, (FA y).toList[j]? = some v → w.cell? ((⟨b, off, none⟩ : Addr).add j) = some v) : ∀ j v, (KA y.bk).toList[j]? = some v → w.cell? ((⟨b, off + 8, none⟩ : Addr).add j) = some v := by
  intro j v hj
  have e : (⟨b, off + 8, none⟩ : Addr).add j = (⟨b, off, none⟩ : Addr).add (8 + j) := by rw [addr_add, addr_add]; congr 1; omega
  rw [e]
  refine h (8 + j) v ?_
  match j, hj with
  | 0, hj => exact hj
  | 1, hj => exact hj
  | 2, hj => exact hj
  | 3, hj => exact hj
  | 4, hj => exact hj
  | 5, hj => exact hj
  | 6, hj => exact hj
  | j + 7, hj => simp [KA, kcells] at hj
theorem row_st {b off i : Nat} {y : Fl} (h : ∀ j v, (FA y).toList[j]? = some v → w.cell? ((⟨b, off, none⟩ : Addr).add j) = some v) : w.cell? ⟨b, off + 18, none⟩ = some (.int .i64 y.st) := by
  have := h 18 (.int .i64 y.st) rfl
  rw [addr_add] at this
  exact this
end

theorem cell_blk {w w' : World} {b o j : Nat} {v : Value} (e : w'.heap[b]? = w.heap[b]?) (h : w.cell? ((⟨b, o, none⟩ : Addr).add j) = some v) : w'.cell? ((⟨b, o, none⟩ : Addr).add j) = some v := by
  rw [addr_add] at *
  exact (World.cell?_of_block (a := ⟨b, o + j, none⟩) e).trans h
/-- the keys of the first ones, each once. -/
def KeysOf (g : Ky → Option Int) (l : List Fl) : Prop := ∀ x, g x ≠ none → ∃ f ∈ l, hitF x f = true
theorem keys_new {L : List Fl} (gd : GoodF L) {k : Nat} {f : Fl} (hk : L[k]? = some f) {g : Ky → Option Int} (hg : KeysOf g (L.take k)) : g f.op = none ∧ upK g f.op 1 f.bk = none ∧ KeysOf (upK (upK g f.op 1) f.bk 1) (L.take (k + 1)) := by
  have hfL := List.mem_of_getElem? hk
  have hkl := (List.getElem?_eq_some_iff.1 hk).1
  have hno : ∀ x, hitF x f = true → g x = none := fun x hx => by
    cases e : g x with
    | none => rfl
    | some v =>
      exfalso
      obtain ⟨f', hf', hh⟩ := hg x (by rw [e]; simp)
      have e2 := hit_one gd (List.mem_of_mem_take hf') hfL hh hx
      obtain ⟨j, hj⟩ := List.getElem?_of_mem hf'
      have hjl := (List.getElem?_eq_some_iff.1 hj).1
      rw [List.length_take] at hjl
      rw [List.getElem?_take_of_lt (by omega)] at hj
      have := List.pairwise_iff_getElem.1 gd.ris j k (by omega) hkl (by omega)
      rw [(List.getElem?_eq_some_iff.1 hj).2, (List.getElem?_eq_some_iff.1 hk).2, e2] at this
      omega
  have h1 := hno f.op (by simp [hitF])
  have h2 := hno f.bk (by simp [hitF])
  have hob := gd.ob f hfL
  refine ⟨h1, by unfold upK; rw [if_neg (Ne.symm hob), h2], fun x hx => ?_⟩
  rw [List.take_add_one, hk]
  unfold upK at hx
  by_cases e1 : x = f.bk
  · exact ⟨f, by simp, by simp [hitF, e1]⟩
  · rw [if_neg e1] at hx
    by_cases e2 : x = f.op
    · exact ⟨f, by simp, by simp [hitF, e2]⟩
    · rw [if_neg e2] at hx
      obtain ⟨f', hf', hh⟩ := hg x hx
      exact ⟨f', by simp [hf'], hh⟩
theorem cnt_take {L : List Fl} {k : Nat} {f : Fl} (hk : L[k]? = some f) : cntF (L.take (k + 1)) = cntF (L.take k) + if openF f then 1 else 0 := by
  unfold cntF
  rw [List.take_add_one, hk, List.filter_append, List.length_append]
  cases h : openF f <;> simp [h]
end Go.Proofs.Ytdgodndaaenafaa
