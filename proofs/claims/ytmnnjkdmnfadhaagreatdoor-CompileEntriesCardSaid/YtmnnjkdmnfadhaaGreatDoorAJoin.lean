/- An address's text, as the program prints it; by-name template. -/
import Derived.Test.YtmnnjkdmnfadhaaGreatDoorAStr
namespace Go.Proofs.YtmnnjkdmnfadhaaGreatDoor
open Go.RowKit
set_option linter.unusedVariables false
set_option linter.unusedSimpArgs false

theorem joinC_len (c : UInt8) (m : Nat) : ∀ l : List (List UInt8), (∀ p ∈ l, p.length ≤ m) → (joinC c l).length ≤ (m + 1) * l.length
  | [], _ => by simp [joinC]
  | [p], h => by have := h p (by simp); simp [joinC]; omega
  | p :: q :: r, h => by
    have h1 := h p (by simp)
    have ih := joinC_len c m (q :: r) (fun x hx => h x (by simp [hx]))
    rw [joinC_cons c p _ (by simp)]
    simp only [List.length_append, List.length_cons] at ih ⊢
    rw [Nat.mul_add] at ih ⊢
    rw [Nat.mul_add]
    omega

theorem hexs_len {l : List Nat} (h : ∀ n ∈ l, n ≤ 65535) : ∀ p ∈ hexs l, p.length ≤ 4 := by
  intro p hp
  obtain ⟨n, hn, rfl⟩ := List.mem_map.1 hp
  exact digs_len 3 (by have := h n hn; omega)

theorem take_one {α : Type} {l : List α} {k : Nat} (h : k < l.length) : l.take (k + 1) = l.take k ++ [l[k]] := by
  rw [List.take_add_one, List.getElem?_eq_getElem h]; rfl

theorem join_step {c : UInt8} {l : List (List UInt8)} {k : Nat} (h : k < l.length) : joinC c (l.take (k + 1)) = if k = 0 then l[k] else joinC c (l.take k) ++ c :: l[k] := by
  rw [take_one h]
  split
  · rename_i e; subst e; rfl
  · rename_i e
    rw [joinC_snoc]
    intro e2
    have e3 : (l.take k).length = k := by simp; omega
    rw [e2] at e3
    simp at e3
    omega

theorem byteCells_app (a b : List UInt8) : Lib.byteCells (a ++ b) = Lib.byteCells a ++ Lib.byteCells b := by simp [Lib.byteCells]

/-- A text out of a row of the call's own. -/
theorem to_text {w : World} {B : Nat} {v : Value} {l : List UInt8} (h : w.ownsRow B 5 1 v l.length (Lib.byteCells l)) : (convert 197 9 v).run Tryz.prog w = .ok (.string ⟨l.toArray⟩) w := by
  rcases h.2 with ⟨rfl, h0⟩ | ⟨g, cap, cur, rfl, -, -, -, -, -, -⟩
  · have : l = [] := List.length_eq_zero_iff.1 h0
    subst this
    have u1 := Tryz.underlying197
    have u2 := Tryz.underlying5
    have u3 := Tryz.underlying9
    rw [run_convert_bytes_string w 197 9 5 none 0 0 u1 u2 u3]
    rfl
  · exact run_convert_bytes_back (P := Tryz.prog) w 197 9 5 ⟨g, 0, none⟩ cap l Tryz.underlying197 Tryz.underlying5 Tryz.underlying9 (fun j hj => h.cells (g := g) rfl j _ (by simp [Lib.byteCells, hj]))

set_option maxHeartbeats 4000000 in
set_option maxRecDepth 100000 in
theorem join_any (b o cap : Nat) (l : List Nat) (hr : ∀ n ∈ l, n ≤ 65535) (hlen : l.length ≤ 8) {w : World} (hG : Glob w) (hl : ∀ j (h : j < l.length), w.cell? ⟨b, o + j, none⟩ = some (.int .u16 (l[j] : Nat))) :
    Calls Tryz.prog 147 #[.slice (some ⟨b, o, none⟩) l.length cap] w fun e w' => e = .returned (.string ⟨(joinC 58 (hexs l)).toArray⟩) ∧ Below w.heap.size w w' := by
  obtain ⟨i0, hi, hz0, hz1, hz2⟩ := info_parts info8
  have hb5 : ∀ k, (joinC 58 (hexs (l.take k))).length ≤ 40 := by
    intro k
    have h1 := joinC_len 58 4 (hexs (l.take k)) (hexs_len (fun n hn => hr n (List.mem_of_mem_take hn)))
    have h2 : (hexs (l.take k)).length ≤ 8 := by simp [hexs]; omega
    omega
  have l63 : (l.length : Int) ≤ 8 := by omega
  go_enter Tryz.func147, Tryz.ntmps147
  go_wp2
  go_loopw [8, 3] (fun vi vb wr => ∃ (k : Nat), vi = .int .i64 k ∧ k ≤ l.length ∧ Hid (wr.ownsRow w.heap.size 5 1 vb (joinC 58 (hexs (l.take k))).length (Lib.byteCells (joinC 58 (hexs (l.take k)))) ∧ Below w.heap.size w wr)) (fun vi _ _ => l.length - (intOf vi).toNat)
  case atStart => exact ⟨0, rfl, by omega, Lib.hid ⟨World.ownsRow_nil _ _ _ _, Below.refl _ _⟩⟩
  case round =>
    obtain ⟨k, rfl, hk, hh⟩ := hrel
    obtain ⟨hown, hbel⟩ := hh.out
    clear hh
    by_cases hkl : k < l.length
    · have hc : wr.cell? ⟨b, o + k, none⟩ = some (.int .u16 (l[k] : Nat)) := keepc hbel (hl k hkl)
      have hn : l[k] ≤ 65535 := hr _ (List.getElem_mem _)
      have hst := join_step (c := 58) (l := hexs l) (k := k) (by simpa [hexs] using hkl)
      rw [show (hexs l)[k]'(by simpa [hexs] using hkl) = digs 16 l[k] by simp [hexs]] at hst
      have et : ∀ j, (hexs l).take j = hexs (l.take j) := fun j => by simp [hexs, List.map_take]
      rw [et, et] at hst
      have h40 := hb5 k
      have hsz : w.heap.size ≤ wr.heap.size := hbel.size
      have kk : (k : Int) < l.length := by omega
      generalize hx : l[k] = x at *
      obtain ⟨J, hJ⟩ : ∃ J, J = joinC 58 (hexs (l.take k)) := ⟨_, rfl⟩
      rw [← hJ] at hown h40 hst
      by_cases k0 : k = 0
      · subst k0
        rw [if_pos rfl] at hst
        have hJ0 : J = [] := by rw [hJ]; rfl
        subst hJ0
        clear hJ
        have hc0 : wr.cell? ⟨b, o, none⟩ = some (.int .u16 (x : Nat)) := hc
        have hST := Lib.hid hst
        clear hst
        go_wp2_with (go_at_call 162; refine (appU_16 w.heap.size x hn _ _ _ (hG.on hbel) hown hsz (by simp)).mono ?_; rintro e w1 ⟨v1, rfl, hown1, hb1⟩)
        have hst := hST.out
        refine ⟨⟨1, rfl, by omega, Lib.hid ⟨?_, hbel.trans hb1⟩⟩, by simp [intOf]; omega⟩
        have e0 : Lib.byteCells [] = [] := rfl
        rw [e0, List.nil_append] at hown1
        rw [hst]
        simpa using hown1
      · rw [if_neg k0] at hst
        have k1 : (0 : Int) < (k : Int) := by omega
        have hJs := Lib.hid hJ
        clear hJ
        have hST := Lib.hid hst
        clear hst
        go_wp2_with (at_builtin; refine wpList_append_own _ rfl _ _ 197 rfl w.heap.size 5 i0 (.int .u8 0) 1 1 Tryz.underlying197 hi hz0 hz1 hz2 rfl (by decide) _ _ _ rfl (hown.alloc _) ⟨wr.heap.size, 0, none⟩ 1 1 [Value.int .u8 58] rfl rfl (by intro j u' hj; match j, hj with | 0, hj => simp at hj; subst hj; simp [Addr.add]) (by intro u' hu'; simp at hu'; subst hu'; rfl) (by unfold maxLen; omega) (by omega) (by simp; omega) ?_)
        intro v2 w2 hown2 hgrow _
        have hbel2 : Below w.heap.size w w2 := (Below.al hbel _).grown hgrow (by simp; omega) (fun k hk => (hown.lt k hk).1)
        have hsz2 : w.heap.size ≤ w2.heap.size := hbel2.size
        go_wp2_with (go_at_call 162; refine (appU_16 w.heap.size x hn _ _ _ (hG.on hbel2) hown2 hsz2 (by omega)).mono ?_; rintro e w1 ⟨v1, rfl, hown1, hb1⟩)
        have hst := hST.out
        refine ⟨⟨k + 1, by simp, by omega, Lib.hid ⟨?_, hbel2.trans hb1⟩⟩, by simp [intOf]; omega⟩
        rw [hst]
        have e1 : Lib.byteCells (J ++ 58 :: digs 16 x) = Lib.byteCells J ++ [Value.int .u8 58] ++ Lib.byteCells (digs 16 x) := by simp [Lib.byteCells]
        have e2 : (J ++ 58 :: digs 16 x).length = J.length + 1 + (digs 16 x).length := by simp; omega
        rw [e1, e2]
        exact hown1
    · obtain rfl : k = l.length := by omega
      rw [List.take_length] at hown
      have hcv := to_text hown
      go_wp2
      go_ret
      exact ⟨rfl, hbel⟩
end Go.Proofs.YtmnnjkdmnfadhaaGreatDoor
