/- strconv.ParseUint to the base sixteen, 16 bits; to the base ten, 8 bits; by-name template. -/
import Derived.Test.YtaafflmkfdicdaaDoorAPuA
namespace Go.Proofs.YtaafflmkfdicdaaDoor
open Go.RowKit
set_option linter.unusedVariables false
set_option linter.unusedSimpArgs false

set_option maxRecDepth 100000 in
theorem ipu16_any (t : ByteArray) (hmax : t.size ≤ 281474976710656) (w : World) :
    Calls Tryd.prog 78 #[.string t, .int .i64 16, .int .i64 16] w fun e w' => e = .returned (Lib.uintTupleM 102 65535 (hexEnd t.data.toList)) ∧ Below w.heap.size w w' := by
  by_cases h : t.size = 0
  · have ht : t = ⟨#[]⟩ := by
      obtain ⟨⟨l⟩⟩ := t
      have : l = [] := List.length_eq_zero_iff.1 h
      rw [this]
    subst ht
    go_enter Tryd.func78, Tryd.ntmps78
    go_wp2
    go_ret2
    exact ⟨rfl, Below.refl _ _⟩
  · refine (ipu16_ne t h hmax w).mono fun e w' ⟨he, hw⟩ => ⟨?_, by rw [hw]; exact Lib.bytesWorld_below _ _ _⟩
    rw [he]
    unfold hexEnd
    rw [if_neg]
    intro e0
    apply h
    have h3 : t.data.toList.length = t.size := by rw [Lib.size_eq]
    rw [e0] at h3
    simpa using h3.symm

def okT (n : Nat) : Ending := .returned (.tuple #[.int .u64 n, .nilIface])
def PuPost (x : Lib.NumEnd Nat) (w : World) (e : Ending) (w' : World) : Prop :=
  Below w.heap.size w w' ∧ match x with
  | .ok n => e = .returned (.tuple #[.int .u64 n, .nilIface])
  | _ => ∃ m t p, e = .returned (.tuple #[.int .u64 m, .iface t p])

set_option maxRecDepth 100000 in
/-- strconv.ParseUint, base sixteen. -/
theorem pu16_any (s : ByteArray) (hmax : s.size ≤ 281474976710656) {w : World} (hG : Glob w) :
    Calls Tryd.prog 64 #[.string s, .int .i64 16, .int .i64 16] w (PuPost (hexEnd s.data.toList) w) := by
  unfold PuPost
  have c := ipu16_any s hmax w
  cases h : hexEnd s.data.toList with
  | ok n =>
    rw [h] at c
    simp only [Lib.uintTupleM] at c
    go_enter Tryd.func64, Tryd.ntmps64
    go_wp2_with (go_at_call 78; refine c.mono ?_; rintro e w' ⟨rfl, hb⟩)
    go_ret2
    exact ⟨hb, rfl⟩
  | «syntax» =>
    rw [h] at c
    simp only [Lib.uintTupleM] at c
    go_enter Tryd.func64, Tryd.ntmps64
    go_wp2_with (go_at_call 78; refine c.mono ?_)
    rintro e w' ⟨rfl, hb⟩
    obtain ⟨ev, hv, hev⟩ := (hG.on hb).es
    go_wp2_with (go_at_call 59; refine (Tryd.strconv_toError_syntax _ s _ _ ev _ hmax hv hev).mono ?_; rintro e w2 ⟨N, rfl, h1, h2, h3⟩)
    go_ret2
    exact ⟨bel_via hb h3, _, _, _, rfl⟩
  | range =>
    rw [h] at c
    simp only [Lib.uintTupleM] at c
    go_enter Tryd.func64, Tryd.ntmps64
    go_wp2_with (go_at_call 78; refine c.mono ?_)
    rintro e w' ⟨rfl, hb⟩
    obtain ⟨ev, hv, hev⟩ := (hG.on hb).er
    go_wp2_with (go_at_call 59; refine (Tryd.strconv_toError_range _ s _ _ ev _ hmax hv hev).mono ?_; rintro e w2 ⟨N, rfl, h1, h2, h3⟩)
    go_ret2
    exact ⟨bel_via hb h3, _, _, _, rfl⟩

/-- strconv.ParseUint, base ten, eight bits. -/
theorem pu10_any (s : ByteArray) (hmax : s.size ≤ 281474976710656) {w : World} (hG : Glob w) :
    Calls Tryd.prog 64 #[.string s, .int .i64 10, .int .i64 8] w (PuPost (Lib.parseUintB 8 s.data.toList) w) := by
  unfold PuPost
  cases h : Lib.parseUintB 8 s.data.toList with
  | ok n =>
    refine (Tryd.strconv_ParseUint_10_at8_ok s (by omega) n h w).mono fun e w' ⟨he, hw⟩ => ⟨?_, he⟩
    rcases hw with rfl | rfl
    · exact Below.refl _ _
    · exact Lib.bytesWorld_below _ _ _
  | «syntax» =>
    obtain ⟨ev, hv, hev⟩ := hG.es
    exact (Tryd.strconv_ParseUint_10_at8_syntax s hmax h ev w hv hev).mono fun e w' ⟨N, he, h1, h2, h3⟩ => ⟨h3, _, _, _, he⟩
  | range =>
    obtain ⟨ev, hv, hev⟩ := hG.er
    exact (Tryd.strconv_ParseUint_10_at8_range s hmax h ev w hv hev).mono fun e w' ⟨N, he, h1, h2, h3⟩ => ⟨h3, _, _, _, he⟩
end Go.Proofs.YtaafflmkfdicdaaDoor
