/- Groups are read; by-name template. -/
import Derived.Test.YtaafflmkfdicdaaDoorASplit
namespace Go.Proofs.YtaafflmkfdicdaaDoor
open Go.RowKit
set_option linter.unusedVariables false
set_option linter.unusedSimpArgs false

theorem info16 : (Tryd.prog.info? 55).map (fun i => (i.zero, i.size, i.bytes)) = some (some (.int .u16 0), 1, 2) := by kernel_rfl

theorem own_weak {w : World} {B B' : Nat} {e : TypeId} {size : Nat} {v : Value} {n : Nat} {xs : List Value} (h : w.ownsRow B e size v n xs) (hB : B' ≤ B) : w.ownsRow B' e size v n xs := by
  obtain ⟨a1, a2⟩ := h
  refine ⟨a1, ?_⟩
  rcases a2 with a2 | ⟨g, cap, cur, q1, q2, q3⟩
  · exact .inl a2
  · exact .inr ⟨g, cap, cur, q1, Nat.le_trans hB q2, q3⟩

/-- Groups as cells. -/
def u16s (l : List Nat) : List Value := l.map fun n => Value.int .u16 (n : Nat)

def RgPost (x : Option (List Nat)) (w : World) (e : Ending) (w' : World) : Prop :=
  Below w.heap.size w w' ∧ match x with
  | none => ∃ v, e = .returned (.tuple #[v, .bool false])
  | some l => ∃ v, e = .returned (.tuple #[v, .bool true]) ∧ w'.ownsRow w.heap.size 55 1 v l.length (u16s l) ∧ ∀ n ∈ l, n ≤ 65535

set_option maxHeartbeats 1000000 in
set_option maxRecDepth 100000 in
theorem rg_any (s : ByteArray) (hs : s.size ≤ 281474976) {w : World} (hG : Glob w) : Calls Tryd.prog 61 #[.string s] w (RgPost (rgP s.data.toList) w) := by
  obtain ⟨m, hm⟩ := hG.ml
  obtain ⟨PS, hPS, hmap, hcnt, hsz⟩ := split_pieces s 58
  have hcs := Tryd.strings_Split s ⟨#[58]⟩ m w (by omega) hm (by decide)
  rw [hPS, hcnt] at hcs
  obtain ⟨R, hR⟩ : ∃ R, R = rgP s.data.toList := ⟨_, rfl⟩
  rw [← hR]
  have hlen : PS.length ≤ s.size + 1 := by
    rw [← hcnt]
    have := Lib.countB_le ⟨#[58]⟩ (by simp [ByteArray.size]) s.size s (Nat.le_refl _)
    omega
  unfold rgP at hR
  rw [← hmap] at hR
  by_cases h0 : s.data.toList = []
  · rw [if_pos h0] at hR
    have hs0 : s = ⟨#[]⟩ := by
      obtain ⟨⟨l⟩⟩ := s
      have : l = [] := h0
      rw [this]
    subst hR
    unfold RgPost
    subst hs0
    go_enter Tryd.func61, Tryd.ntmps61
    go_wp2
    go_ret2
    exact ⟨Below.refl _ _, _, rfl, World.ownsRow_nil _ _ _ _⟩
  · rw [if_neg h0] at hR
    have hemp : s.toList.isEmpty = false := by
      rw [← decide_eq_emptyBytes]
      refine decide_eq_false (fun h => h0 ?_)
      rw [h]; rfl
    clear h0 hmap hcnt hPS
    have HR := Lib.hid hR
    clear hR
    unfold RgPost
    obtain ⟨i0, hi, hz0, hz1, hz2⟩ := info_parts info16
    go_enter Tryd.func61, Tryd.ntmps61
    go_wp2_with (go_at_call 63; refine hcs.mono ?_; rintro e w1 ⟨rfl, rfl⟩; refine Hid.out ?_)
    obtain ⟨w1, hw1⟩ : ∃ v, v = w.alloc (.cells (PS.map Value.string).toArray 9) := ⟨_, rfl⟩
    have bw1 : Below w.heap.size w w1 := by rw [hw1]; exact Below.al (Below.refl _ _) _
    have hPc : ∀ w', Below w1.heap.size w1 w' → ∀ k (h : k < PS.length), w'.cell? ⟨w.heap.size, k, none⟩ = some (.string PS[k]) := by
      intro w' h k hk
      refine keepc h ?_
      have hg : w1.heap[w.heap.size]? = some (.cells (PS.map Value.string).toArray 9 (0, 0)) := by rw [hw1]; exact al_new rfl _
      simp only [World.cell?, hg]
      simp [hk]
    have HPc := Lib.hid hPc
    clear hPc
    try rw [← hw1]
    clear hw1
    refine Lib.hid ?_
    go_wp2
    go_loopw [4, 14] (fun vl vi wr => ∃ (k : Nat) (l : List Nat), vi = .int .i64 k ∧ k ≤ PS.length ∧ l.length = k ∧ wr.ownsRow w1.heap.size 55 1 vl l.length (u16s l) ∧ Below w1.heap.size w1 wr ∧ Hid ((∀ n ∈ l, n ≤ 65535) ∧ rgFrom (PS.map (·.data.toList)) [] = rgFrom ((PS.drop k).map (·.data.toList)) l)) (fun _ vi _ => PS.length - (intOf vi).toNat)
    case atStart => exact ⟨0, [], rfl, by omega, rfl, World.ownsRow_nil _ _ _ _, Below.refl _ _, Lib.hid ⟨by simp, rfl⟩⟩
    case round =>
      obtain ⟨k, l, rfl, hk, hlk, hown, hbr, hh⟩ := hrel
      have bwr : Below w.heap.size w wr := bel_via bw1 hbr
      by_cases hkl : k < PS.length
      · have hc := HPc.out wr hbr k hkl
        have hps := hsz _ (List.getElem_mem hkl)
        have hd : PS.drop k = PS[k] :: PS.drop (k + 1) := List.drop_eq_getElem_cons hkl
        rw [hd] at hh
        generalize PS[k] = p at hc hps hh
        rw [List.map_cons, rgFrom] at hh
        have cp := pu16_any p (by omega) (hG.on bwr)
        unfold PuPost at cp
        have kk : (k : Int) < (PS.length : Int) := by omega
        have kmax : (PS.length : Int) ≤ 281474977 := by omega
        cases hp : hexEnd p.data.toList with
        | ok b =>
          rw [hp] at cp hh
          simp only at cp hh
          have hb := hexEnd_le hp
          clear hp hd
          have b1 : (b : Int) ≤ 65535 := by omega
          obtain ⟨hall, hfr⟩ := hh.out
          have H2 := Lib.hid (show (∀ n ∈ l ++ [b], n ≤ 65535) ∧ _ from ⟨by intro n hn; rcases List.mem_append.1 hn with h | h; exact hall n h; simp at h; omega, hfr⟩)
          clear hh hall hfr
          go_wp2_with (go_at_call 64; refine cp.mono ?_; rintro e w2 ⟨hb2, rfl⟩; refine Hid.out ?_)
          have hown2 := own_below hown hb2
          have hsz2 : w1.heap.size ≤ w2.heap.size := by have := hbr.size; have := hb2.size; omega
          refine Lib.hid ?_
          go_wp2_with (at_builtin; refine wpList_append_own _ rfl _ _ 62 rfl w1.heap.size 55 i0 (.int .u16 0) 1 2 Tryd.underlying62 hi hz0 hz1 hz2 rfl (by decide) _ _ _ rfl (hown2.alloc _) ⟨w2.heap.size, 0, none⟩ 1 1 [Value.int .u16 (b : Nat)] rfl rfl (by intro j u' hj; match j, hj with | 0, hj => simp at hj; subst hj; simp [Addr.add]) (by intro u' hu'; simp at hu'; subst hu'; rfl) (by unfold maxLen; omega) (by omega) (by simp; omega) ?_)
          intro v3 w3 hown3 hgrow _
          have hb3 : Below w1.heap.size w1 w3 := (Below.al (bel_via hbr hb2) _).grown hgrow (by simp; omega) (fun k hk => (hown2.lt k hk).1)
          go_wp2
          refine ⟨⟨k + 1, l ++ [b], by simp, by omega, by simp [hlk], ?_, hb3, H2⟩, by simp [intOf]; omega⟩
          have e1 : u16s (l ++ [b]) = u16s l ++ [Value.int .u16 (b : Nat)] := by simp [u16s]
          rw [e1, show (l ++ [b]).length = k + 1 by simp [hlk]]
          exact hown3
        | «syntax» =>
          rw [hp] at cp hh
          simp only at cp hh
          have HH := HR.out
          rw [hh.out.2] at HH
          clear hp hd
          subst HH
          go_wp2_with (go_at_call 64; refine cp.mono ?_; rintro e w2 ⟨hb2, x, t, pp, rfl⟩)
          go_ret2
          exact ⟨bel_via bwr hb2, _, rfl⟩
        | range =>
          rw [hp] at cp hh
          simp only at cp hh
          have HH := HR.out
          rw [hh.out.2] at HH
          clear hp hd
          subst HH
          go_wp2_with (go_at_call 64; refine cp.mono ?_; rintro e w2 ⟨hb2, x, t, pp, rfl⟩)
          go_ret2
          exact ⟨bel_via bwr hb2, _, rfl⟩
      · obtain rfl : k = PS.length := by omega
        have HH := HR.out
        obtain ⟨hall, hfr⟩ := hh.out
        rw [hfr, List.drop_eq_nil_of_le (Nat.le_refl _)] at HH
        have HH2 : R = some l := HH
        clear hh HR HH hfr
        subst HH2
        go_wp2
        go_ret2
        refine ⟨bwr, _, rfl, ?_, hall⟩
        have hw := own_weak hown bw1.size
        rw [hlk] at hw
        exact hw
end Go.Proofs.YtaafflmkfdicdaaDoor
