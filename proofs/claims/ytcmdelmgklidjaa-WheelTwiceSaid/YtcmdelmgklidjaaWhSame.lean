/- Two rows of numbers held against each other; by-name template. -/
import Derived.Test.YtcmdelmgklidjaaWhRDue
namespace Go.Proofs.Ytcmdelmgklidjaa
open Go.RowKit Go.Lib Go.Maps
set_option linter.unusedVariables false
set_option linter.unusedSimpArgs false

def e1 (n : Int) : List Value := [vI n]
theorem e1_len (n : Int) : (e1 n).length = 1 := rfl
theorem map_flat (L : List Int) : L.map vI = L.flatMap e1 := by
  induction L with
  | nil => rfl
  | cons a t ih => rw [List.map_cons, List.flatMap_cons, ih]; rfl
theorem ints_sl {w : World} {base n : Nat} {v : Value} {L : List Int} (h : w.ownsRow base 3 1 v n (L.map vI)) (hl : L.length = n) : ∃ A c, v = .slice A n c ∧ Sl w 1 e1 A n L := by
  rw [map_flat] at h
  obtain ⟨A, c, hv, hs, _⟩ := sl_of_own (k := 1) (enc := e1) e1_len h hl
  exact ⟨A, c, hv, hs⟩

theorem same_ints {w : World} {A B : Option Addr} {n m c d : Nat} {L K : List Int} (hn : n ≤ 65536) (h : Sl w 1 e1 A n L) (h' : Sl w 1 e1 B m K) :
    Calls Try.prog 14 #[.slice A n c, .slice B m d] w fun e w' => e = .returned (.bool (decide (L = K))) ∧ Below w.heap.size w w' := by
  have hl := h.len
  have hk := h'.len
  by_cases hnm : n = m
  · subst hnm
    have HNO : ∀ i, i < n → L[i]? ≠ K[i]? → decide (L = K) = false := fun i hi hne => decide_eq_false (fun e => hne (by rw [e]))
    have HYES : (∀ i, i < n → L[i]? = K[i]?) → decide (L = K) = true := fun hh => decide_eq_true (List.ext_getElem? fun i => by
      by_cases hi : i < n
      · exact hh i hi
      · rw [List.getElem?_eq_none (by omega), List.getElem?_eq_none (by omega)])
    generalize decide (L = K) = Z at *
    have HN := Lib.hid HNO
    have HY := Lib.hid HYES
    clear HNO HYES
    go_enter Try.func14, Try.ntmps14
    go_wp2
    go_loopw [5] (fun v wr => ∃ i : Nat, v = .int .i64 (i : Int) ∧ i ≤ n ∧ Hid (∀ j, j < i → L[j]? = K[j]?) ∧ Below w.heap.size w wr) (fun v _ => n - (intOf v).toNat)
    case atStart => exact ⟨0, rfl, Nat.zero_le _, Lib.hid (fun j hj => absurd hj (Nat.not_lt_zero _)), Below.refl _ _⟩
    case round =>
      obtain ⟨i, rfl, hi, HF, hb⟩ := hrel
      by_cases hlt : i < n
      · obtain ⟨b, off, rfl, _, hr⟩ := h.row (by omega)
        obtain ⟨b', off', rfl, _, hr'⟩ := h'.row (by omega)
        have r0 := keepc hb (hr i _ (List.getElem?_eq_getElem (by omega)) 0 _ rfl)
        have r1 := keepc hb (hr' i _ (List.getElem?_eq_getElem (by omega)) 0 _ rfl)
        simp only [Nat.mul_one, Nat.add_zero] at r0 r1
        have hltI : (i : Int) < (n : Int) := by omega
        have hdd : decide (i < n) = true := by simp [hlt]
        have eL : L[i]? = some L[i] := List.getElem?_eq_getElem (by omega)
        have eK : K[i]? = some K[i] := List.getElem?_eq_getElem (by omega)
        by_cases he : L[i] = K[i]
        · have HF' : Hid (∀ j, j < i + 1 → L[j]? = K[j]?) := Lib.hid (fun j hj => by
            by_cases e : j = i
            · subst e; rw [eL, eK, he]
            · exact HF.out j (by omega))
          rw [he] at r0
          generalize K[i] = y at *
          clear HF HN HY eL eK he hr hr' h h'
          unfold vI at r0 r1
          go_wp2
          go_quiet (fail)
          go_wp2
          refine ⟨?_, by simp [intOf]; omega⟩
          first | exact ⟨i + 1, by simp, by omega, HF', bel_dn hb _⟩ | ((repeat apply Exists.intro); refine ⟨⟨i + 1, ?_, by omega, HF', bel_dn hb _⟩, rfl⟩; simp)
        · have hz := HN.out i hlt (by rw [eL, eK]; simpa using he)
          have heb : (L[i] == K[i]) = false := by simpa using he
          generalize L[i] = x at *
          generalize K[i] = y at *
          subst hz
          clear HF HN HY eL eK hr hr' h h'
          unfold vI at r0 r1
          go_wp2
          go_quiet (fail)
          go_wp2
          first | exact ⟨rfl, bel_dn hb _⟩ | (go_ret; exact ⟨rfl, bel_dn hb _⟩)
      · have hz := HY.out (fun j hj => HF.out j (by omega))
        subst hz
        have hltI : ¬ (i : Int) < (n : Int) := by omega
        clear HF HN HY h h'
        go_wp2
        first | exact ⟨rfl, hb⟩ | (go_ret; exact ⟨rfl, hb⟩)
  · have hz : decide (L = K) = false := decide_eq_false (fun e => hnm (by rw [← hl, ← hk, e]))
    rw [hz]
    have hnI : ¬ (n : Int) = (m : Int) := by omega
    have hb := Below.refl w.heap.size w
    clear hz h h' hl hk
    go_enter Try.func14, Try.ntmps14
    go_wp2
    go_ret
    exact ⟨rfl, hb⟩
end Go.Proofs.Ytcmdelmgklidjaa
