/- NatAll: the walk; by-name template (gen_na.py). -/
import Derived.Test.YtokbmahnjmmcaaaNaL
namespace Go.Proofs.Ytokbmahnjmmcaaa
open Go.RowKit Go.Lib Go.Maps
set_option linter.unusedVariables false
set_option linter.unusedSimpArgs false

theorem keyed : Keyed Try.prog 3 := int_keyed Try.underlying3

theorem keyOf_id {n : Int} (h : i64ok n) : keyOf Try.prog 3 (.int .i64 n) = some (.int .i64 n) := keyOf_int_mk Try.underlying3 (wf_ok h)

theorem kl_key (n : Int) : WideAt.IsKeyLit (.int .i64 n) := trivial
theorem zeroI (w : World) : (zeroValue 3).run Try.prog w = .ok (.int .i64 0) w := by kernel_rfl
noncomputable abbrev eI : Value → Option (DataW Unit × List MemPlace) := plainElem Try.prog 3
theorem eI_mk {n : Int} (h : i64ok n) : eI (.int .i64 n) = some (.lit (.int .i64 n), []) := plainElem_int Try.underlying3 (wf_ok h)

theorem eI_inv {v : Value} {n : Int} {ps : List MemPlace} (h : eI v = some (.lit (.int .i64 n), ps)) : v = .int .i64 n := by
  obtain ⟨a, hv, hz, _⟩ := plainElem_int_inv Try.underlying3 h
  simp only [Prod.mk.injEq, DataW.lit.injEq, Lit.int.injEq, true_and] at hz
  rw [hv, hz.1]
theorem litI_ne {a b : Int} (h : a ≠ b) : (Lit.int .i64 a) ≠ (Lit.int .i64 b) := fun e => h (by cases e; rfl)

/-! ### the map of flows -/

theorem port_val {f t w : Int} {i : Nat} (h : i < cnt f t) : ∃ z, f ≤ z ∧ z ≤ t ∧ (f ≤ w → w ≤ t → z = w) ∧ z = (if w < f ∨ t < w then f else w) ∧ (portP f t w i).1 = if (i : Int) ≤ t - z then z + i else f + i - (t - z + 1) := by
  unfold cnt at h
  by_cases q : f < 0 ∨ 65535 < f ∨ t < f ∨ 65535 < t
  · rw [if_pos q] at h; omega
  · rw [if_neg q] at h
    refine ⟨if w < f ∨ t < w then f else w, by split <;> omega, by split <;> omega, fun _ _ => if_neg (by omega), rfl, ?_⟩
    unfold portP
    rw [if_neg (show ¬ (f < 0 ∨ 65535 < f ∨ t < f ∨ 65535 < t ∨ (i : Int) < 0 ∨ t - f < (i : Int)) by omega)]
    generalize (if w < f ∨ t < w then f else w) = z
    split <;> rfl
theorem cnt_of {f t : Int} {i : Nat} (h : i < cnt f t) : (i : Int) ≤ t - f := by
  unfold cnt at h
  split at h <;> omega
theorem port_in {f t w : Int} {i : Nat} (h : i < cnt f t) : f ≤ (portP f t w i).1 ∧ (portP f t w i).1 ≤ t := by
  obtain ⟨z, h1, h2, _, _, e⟩ := port_val (w := w) h
  have := cnt_of h
  rw [e]
  split <;> omega
theorem port_inj {f t w : Int} {i j : Nat} (h : i < cnt f t) (h' : j < cnt f t) (e : (portP f t w i).1 = (portP f t w j).1) : i = j := by
  obtain ⟨z, h1, h2, _, hz, e1⟩ := port_val (w := w) h
  obtain ⟨z', _, _, _, hz', e2⟩ := port_val (w := w) h'
  have q1 := cnt_of h
  have q2 := cnt_of h'
  have ez : z' = z := hz'.trans hz.symm
  rw [ez] at e2
  clear hz hz' ez
  rw [e1, e2] at e
  split at e <;> split at e <;> omega
theorem port_0 {f t w : Int} (h : 0 < cnt f t) (h1 : f ≤ w) (h2 : w ≤ t) : (portP f t w 0).1 = w := by
  obtain ⟨z, _, _, hw, _, e⟩ := port_val (w := w) h
  have := hw h1 h2
  subst this
  simp only [Int.natCast_zero] at e
  have e' : (portP f t z 0).1 = if (0 : Int) ≤ t - z then z + 0 else f + 0 - (t - z + 1) := e
  rw [e', if_pos (by omega)]
  omega
/-- a map that has just these numbers, each once. -/
def MapI (w : World) (Mp : Nat) (g : Int → Bool) (c : Nat) : Prop :=
  ∃ D : DataW Unit, w.ownsMap Try.prog 3 eI Mp c D ∧ (∀ k, i64ok k → has D (.int .i64 k) = g k) ∧ Maps.size D = c
theorem MapI.keep {w w' : World} {Mp c : Nat} {g : Int → Bool} (h : MapI w Mp g c) (hw : w'.heap[Mp]? = w.heap[Mp]?) : MapI w' Mp g c := by
  obtain ⟨D, ⟨es, clock, h1, rest⟩, h2⟩ := h
  exact ⟨D, ⟨es, clock, hw.trans h1, rest⟩, h2⟩
theorem MapI.look {w : World} {Mp c : Nat} {g : Int → Bool} (h : MapI w Mp g c) {k : Int} (hs : i64ok k) (hg : g k = false) :
    (Instr.lookup 62 (.map (some Mp)) (.int .i64 k) false).run Try.prog w = .ok (.int .i64 0) w := by
  obtain ⟨D, h1, h2, _⟩ := h
  obtain ⟨v, ps, hr, hv⟩ := h1.lookup keyed Try.underlying62 (zeroI w) (zd := .lit (.int .i64 0)) (zp := []) (eI_mk (by unfold i64ok; omega)) (keyOf_id hs)
  have := h2 _ hs
  rw [hg] at this
  rw [atKey_of_not_has this] at hv
  rw [eI_inv hv] at hr
  exact hr
theorem MapI.put {w : World} {Mp c : Nat} {g : Int → Bool} (h : MapI w Mp g c) (hl : c < 1000000) {k : Int} (hs : i64ok k) (hg : g k = false) :
    ∃ w', (Instr.mapUpdate 62 (.map (some Mp)) (.int .i64 k) (.int .i64 1)).run Try.prog w = .ok () w' ∧ MapI w' Mp (fun x => g x || x == k) (c + 1) ∧ OffS (fun j => j = Mp) w w' := by
  obtain ⟨D, h1, h2, h4⟩ := h
  obtain ⟨w', hr, ho, hgr⟩ := h1.update keyed Try.underlying62 (by unfold maxLen; omega) (keyOf_id hs) (eI_mk (show i64ok 1 by unfold i64ok; omega))
  have ht := h1.tidy keyed
  have hsz : Maps.size (D.put (.int .i64 k) (.lit (.int .i64 1))) = c + 1 := by
    rw [size_put ht, h2 _ hs, h4, hg]; rfl
  refine ⟨w', hr, ⟨_, ?_, fun x hx => ?_, hsz⟩, grown_off hgr⟩
  · obtain ⟨es, clock, q1, q2, q3, q4⟩ := ho
    refine ⟨es, clock, q1, q2, ?_, q4⟩
    rw [← hsz, q4]
    simp [Maps.size, length_sorted]
  · by_cases e : x = k
    · subst e
      rw [has_put_same ht.isMap (kl_key _)]; simp
    · rw [has_put_other (litI_ne e), h2 x hx]; simp [e]
theorem MapI.len {w : World} {Mp c : Nat} {g : Int → Bool} (h : MapI w Mp g c) (ty : TypeId) : (Builtin.len_ #[62] ty #[.map (some Mp)]).run Try.prog w = .ok (.int .i64 c) w := by
  obtain ⟨D, h1, _, h4⟩ := h
  rw [← h4]
  exact h1.len Try.underlying62 ty
def seenP (f t w : Int) (i : Nat) : Int → Bool := fun x => (List.range i).any fun j => (portP f t w j).1 == x
theorem seen_new {f t w : Int} {i : Nat} (h : i < cnt f t) : seenP f t w i (portP f t w i).1 = false := by
  unfold seenP
  rw [Bool.eq_false_iff]
  intro q
  obtain ⟨j, hj, e⟩ := List.any_eq_true.1 q
  have := List.mem_range.1 hj
  have := port_inj (show j < cnt f t by omega) h (by simpa using e)
  omega
theorem seen_succ (f t w : Int) (i : Nat) : (fun x => seenP f t w i x || x == (portP f t w i).1) = seenP f t w (i + 1) := by
  funext x
  unfold seenP
  rw [List.range_succ, List.any_append]
  simp only [List.any_cons, List.any_nil, Bool.or_false]
  congr 1
  exact Bool.beq_comm
set_option maxRecDepth 100000 in
set_option maxHeartbeats 4000000 in
theorem all_any (f t u : Int) {w : World} (hf : 0 ≤ f ∧ f < 65536) (ht : 0 ≤ t ∧ t < 65536) (hu : i64ok u) : Calls Try.prog 6 #[.int .u16 f, .int .u16 t, .int .i64 u] w fun e w' => e = .returned (.bool true) ∧ Below w.heap.size w w' := by
  have cp := fun (i : Nat) (hi : i ≤ 65536) (W : World) => port_any f t u i W (by unfold i64ok; omega) (by unfold i64ok; omega) hu (by unfold i64ok; omega)
  by_cases h1 : t < f
  · go_enter Try.func6, Try.ntmps6
    go_wp2
    all_goals (go_ret; exact ⟨rfl, Below.refl _ _⟩)
  have h2 : IntKind.u16.wrap (t - f) = t - f := by simp [IntKind.wrap, IntKind.signed, IntKind.bits]; omega
  by_cases h3 : 1024 < t - f
  · have h3' : decide (1024 < t - f) = true := decide_eq_true h3
    go_enter Try.func6, Try.ntmps6
    go_wp2
    all_goals (go_ret; exact ⟨rfl, Below.refl _ _⟩)
  obtain ⟨n, hn⟩ : ∃ n : Nat, t - f + 1 = (n : Int) := ⟨(t - f + 1).toNat, by omega⟩
  have hcn : cnt f t = n := by unfold cnt; rw [if_neg (by omega)]; omega
  have hn2 : n ≤ 1025 := by omega
  have HN := Lib.hid hn
  have e1 : IntKind.i64.wrap f = f := by rw [IntKind.wrap_i64]; omega
  have e2 : IntKind.i64.wrap t = t := by rw [IntKind.wrap_i64]; omega
  have hmm := @run_makeMap Try.prog
  go_enter Try.func6, Try.ntmps6
  go_wp2
  go_wp2
  clear hmm
  go_loopw [9] (fun v9 wr => ∃ i : Nat, v9 = .int .i64 i ∧ i ≤ n ∧ MapI wr w.heap.size (seenP f t u i) i ∧ Below w.heap.size w wr) (fun v9 _ => n - (intOf v9).toNat)
  case atStart => exact ⟨0, rfl, by omega, MapI.keep (w := w.alloc (.map #[] 0)) ⟨.map [], World.ownsMap_made w Try.prog 3 eI, fun _ _ => rfl, rfl⟩ rfl, bel_al _ _⟩
  case round =>
    obtain ⟨i, rfl, hi, hM, hB⟩ := hrel
    by_cases hlt : i < n
    · have hlti : (i : Int) < (n : Int) := by omega
      have hc : i < cnt f t := by omega
      have c1 := cp i (by omega)
      rw [port_ok, show decide (i < cnt f t) = true from decide_eq_true hc] at c1
      have hin := port_in (w := u) hc
      have h0 : i = 0 → f ≤ u → u ≤ t → (portP f t u i).1 = u := fun e q1 q2 => by subst e; exact port_0 hc q1 q2
      have hnew := seen_new (w := u) hc
      have hsuc := seen_succ f t u i
      generalize (portP f t u i).1 = p at *
      have hL := hM.look (k := p) (by unfold i64ok; omega) hnew
      obtain ⟨w', hr, hM', ho⟩ := hM.put (by omega) (k := p) (by unfold i64ok; omega) hnew
      rw [hsuc] at hM'
      have HM := Lib.hid hM'
      have HO := Lib.hid (hB.trans (ho.toBelow (A := w.heap.size) (fun k e => by omega) hB.size))
      clear hM hM' ho hsuc hnew cp
      have HIN := Lib.hid hin
      have e0 : (i : Int) = 0 ↔ i = 0 := by omega
      have hq : ¬ p < f := by omega
      have hq2 : ¬ t < p := by omega
      have hp0 : ¬ (i = 0 ∧ f ≤ u ∧ u ≤ t ∧ p ≠ u) := fun ⟨a, b, c, d⟩ => d (h0 a b c)
      clear h0 hin
      go_wp2_with (go_at_call 15; refine (c1 _).mono ?_; rintro e w1 ⟨rfl, h1⟩; rw [h1]; clear h1)
      all_goals first
        | (refine ⟨⟨i + 1, by first | rfl | (congr 1; omega), by omega, HM.out, HO.out⟩, by simp [intOf]; omega⟩)
        | (exfalso
           refine hp0 ⟨by assumption, by assumption, by assumption, fun e => ?_⟩
           subst e
           have hx : ∀ z : Prop, (z ∨ (p != p) = true) → z := fun z h => h.elim id (fun h => by simp at h)
           rename_i q4
           have := hx _ q4
           omega)
    · have : i = n := by omega
      subst this
      have c1 := fun W => cp i (by omega) W
      rw [port_ok, show decide (i < cnt f t) = false from decide_eq_false (by omega)] at c1
      have hLn := hM.len
      have HB := Lib.hid hB
      have hlt2 : ¬ (i : Int) < (i : Int) := by omega
      clear hM hB cp h1 h3 hn hcn hlt
      go_wp2_with (go_at_call 15; refine (c1 _).mono ?_; rintro e w1 ⟨rfl, h1⟩; rw [h1]; clear h1)
      go_ret
      exact ⟨rfl, HB.out⟩
end Go.Proofs.Ytokbmahnjmmcaaa
