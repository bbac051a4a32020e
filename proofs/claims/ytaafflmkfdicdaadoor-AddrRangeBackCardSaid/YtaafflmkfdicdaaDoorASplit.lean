/- Texts are read, as the program reads them; by-name template. -/
import Derived.Test.YtaafflmkfdicdaaDoorAGaddr
namespace Go.Proofs.YtaafflmkfdicdaaDoor
open Go.RowKit
set_option linter.unusedVariables false
set_option linter.unusedSimpArgs false

def readT : Option (Nat × Nat) → Value
  | none => .tuple #[.agg #[.int .u64 0, .int .u64 0], .bool false]
  | some x => .tuple #[.agg #[.int .u64 (x.1 : Nat), .int .u64 (x.2 : Nat)], .bool true]

theorem heap_set2 {w : World} {B : Nat} {x y : Value} {t : TypeId} {fz : Nat × Nat} (h : w.heap[B]? = some (.cells #[x, y] t fz)) (a b : Value) :
    ((w.setCell ⟨B, 0, none⟩ a).setCell ⟨B, 1, none⟩ b).heap[B]? = some (.cells #[a, b] t fz) := by
  have := heap_set (heap_set h 0 a) 1 b
  simpa using this

theorem res_pair {fn : Func} {p u : Tmp} (h : fn.results = #[.cell p 24, .tmp u]) (tmps : Array Value) (W : World) (g : Nat) (A B : Value) (hp : tmps.getD p undef = .pointer (some ⟨g, 0, none⟩)) (hg : W.heap[g]? = some (.cells #[A, B] 24 (0, 0))) :
    (results fn tmps).run Tryd.prog W = .ok (.tuple #[.agg #[A, B], tmps.getD u undef]) W := by
  rw [results_cell_tmp h, hp]
  have e : (asAddr (.pointer (some ⟨g, 0, none⟩))).run Tryd.prog W = .ok ⟨g, 0, none⟩ W := rfl
  rw [e]
  simp only [Result.andThen]
  rw [run_loadVar_row W g 24 24 #[A, B] (0, 0) _ hg Tryd.underlying24 rfl (by kernel_rfl)]

theorem splitOn_len (c : UInt8) : ∀ s : List UInt8, ∀ p ∈ splitOn c s, p.length ≤ s.length
  | [], p, hp => by
    obtain rfl : p = [] := by simpa [splitOn] using hp
    simp
  | b :: s, p, hp => by
    have ih := splitOn_len c s
    unfold splitOn at hp
    split at hp
    · rcases List.mem_cons.1 hp with rfl | hp
      · simp
      · have := ih p hp; simp; omega
    · cases h2 : splitOn c s with
      | nil => exact absurd h2 (splitOn_ne c s)
      | cons q l =>
        rw [h2] at hp ih
        simp only at hp
        rcases List.mem_cons.1 hp with rfl | hp
        · have := ih q (by simp); simp; omega
        · have := ih p (by simp [hp]); simp; omega

/-- What strings.Split lays: the pieces of a text. -/
theorem split_pieces (s : ByteArray) (c : UInt8) : ∃ PS : List ByteArray, Lib.splitB ⟨#[c]⟩ 0 (Lib.countB s ⟨#[c]⟩) s = PS ∧ PS.map (·.data.toList) = splitOn c s.data.toList ∧ Lib.countB s ⟨#[c]⟩ + 1 = PS.length ∧ ∀ p ∈ PS, p.size ≤ s.size := by
  have h1 := Lib.splitB_data ⟨#[c]⟩ 0 (Lib.countB s ⟨#[c]⟩) s
  have h2 : Lib.countB s ⟨#[c]⟩ = s.data.toList.count c := Lib.count_one c s.data.toList
  rw [h2] at h1
  have h3 := splitK_eq c s.data.toList
  have h4 : (Lib.splitB ⟨#[c]⟩ 0 (Lib.countB s ⟨#[c]⟩) s).map (·.data.toList) = splitOn c s.data.toList := by rw [h2, h1]; exact h3
  refine ⟨_, rfl, h4, (Lib.splitB_all ⟨#[c]⟩ (by simp [ByteArray.size]) 0 _ s rfl).symm, ?_⟩
  intro p hp
  have := splitOn_len c s.data.toList p.data.toList (by rw [← h4]; exact List.mem_map_of_mem hp)
  exact this

theorem parseB_le {l : List UInt8} {n : Nat} (h : Lib.parseUintB 8 l = .ok n) : n ≤ 255 := Lib.parseUintB_le h
theorem hexM_le : ∀ (l : List UInt8) (acc n : Nat), acc ≤ 65535 → hexM acc l = .ok n → n ≤ 65535
  | [], acc, n, h, e => by
    obtain rfl : acc = n := by simpa [hexM] using e
    exact h
  | c :: r, acc, n, h, e => by
    rw [hexM] at e
    split at e
    · cases e
    · split at e
      · cases e
      · exact hexM_le r _ n (by omega) e
theorem hexEnd_le {l : List UInt8} {n : Nat} (h : hexEnd l = .ok n) : n ≤ 65535 := by
  unfold hexEnd at h
  split at h
  · cases h
  · exact hexM_le l 0 n (by omega) h

theorem orW (i : Nat) {x y : Int} (h0 : 0 ≤ x) (h : x % 2 ^ i = 0) (h1 : x < 4294967296) (k0 : 0 ≤ y) (k : y < 2 ^ i) (k1 : y < 4294967296) : bits .or .u32 x y = x + y :=
  bits_join .u32 32 (Nat.le_refl _) (fun n h0 h1 => by simp [IntKind.wrap, IntKind.signed, IntKind.bits]; omega) i x y h0 h (by simpa using h1) k0 k (by simpa using k1)

end Go.Proofs.YtaafflmkfdicdaaDoor
