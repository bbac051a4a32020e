/- The maps of a table of flows; by-name template. -/
import Derived.Test.YtdgodndaaenafaaFoP
import Derived.Test.YtdgodndaaenafaaWhDue
import Derived.Laws.StructEq
import Derived.WideKeyEntry
namespace Go.Proofs.Ytdgodndaaenafaa
open Go.RowKit Go.Lib Go.Maps
set_option linter.unusedVariables false
set_option linter.unusedSimpArgs false

/-! ### keys -/
def kcells (k : Ky) : List Value := [.int .i64 k.pr, .int .u64 k.sh, .int .u64 k.sl, .int .u64 k.dh, .int .u64 k.dl, .int .i64 k.sp, .int .i64 k.dp]
def KA (k : Ky) : Array Value := (kcells k).toArray
def kv (k : Ky) : Value := .agg (KA k)
def kl (k : Ky) : Lit := .string (keyBytes [.int .i64 k.pr, .int .u64 k.sh, .int .u64 k.sl, .int .u64 k.dh, .int .u64 k.dl, .int .i64 k.sp, .int .i64 k.dp])
theorem keyedK : Keyed Try.prog 36 := Keyed.of_law (deep_law_gate (P := Try.prog) (by kernel_rfl) (of_decide_eq_true (by kernel_rfl)) (of_decide_eq_true (by kernel_rfl)) (by kernel_rfl) (by kernel_rfl))
theorem u64_wf {n : Int} (h : u64ok n) : (Lit.int .u64 n).wf = true := by
  unfold u64ok at h
  simp [Lit.wf, IntKind.min, IntKind.max, IntKind.bits, IntKind.signed]
  omega
theorem cells_key : Try.prog.cellsOf 36 = 7 := by kernel_rfl
theorem cells_adr : Try.prog.cellsOf 34 = 2 := by kernel_rfl
theorem cells_u64 : Try.prog.cellsOf 32 = 1 := by kernel_rfl
theorem cells_int : Try.prog.cellsOf 3 = 1 := by kernel_rfl
theorem kt_key : Try.prog.keyType 36 = true := by kernel_rfl
theorem types_some : ∃ m, Try.prog.types.size = m + 3 := ⟨Try.prog.types.size - 3, by kernel_rfl⟩

theorem lits_adr {m : Nat} {a b : Int} (w1 : (Lit.int .u64 a).wf = true) (w2 : (Lit.int .u64 b).wf = true) : Try.prog.keyLits (m + 2) 34 [.int .u64 a, .int .u64 b] = some [.int .u64 a, .int .u64 b] := by
  unfold Program.keyLits
  simp [Try.underlying34, cells_u64, cells_adr, Program.keyLits, Try.underlying32, w1, w2, List.mapM_cons]
theorem lits_int {m : Nat} {a : Int} (w1 : (Lit.int .i64 a).wf = true) : Try.prog.keyLits (m + 1) 3 [.int .i64 a] = some [.int .i64 a] := by
  unfold Program.keyLits
  simp [Try.underlying3, w1]
theorem keyOf_ky {k : Ky} (h : KyOk k) : keyOf Try.prog 36 (kv k) = some (kl k) := by
  obtain ⟨m, hm⟩ := types_some
  obtain ⟨h1, h2, h3, h4, h5, h6, h7⟩ := h
  have w1 := wf_ok h1
  have w2 := u64_wf h2
  have w3 := u64_wf h3
  have w4 := u64_wf h4
  have w5 := u64_wf h5
  have w6 := wf_ok h6
  have w7 := wf_ok h7
  unfold keyOf kv KA kcells
  simp only [Try.underlying36]
  rw [if_pos (by simp [kt_key, Value.formed, Try.underlying36, cells_key]), hm]
  unfold Program.keyLits
  simp [Try.underlying36, Value.cells, cells_key, cells_adr, cells_int, lits_adr w2 w3, lits_adr w4 w5, lits_int w1, lits_int w6, lits_int w7, kl, List.mapM_cons]
theorem kl_inj {k k' : Ky} (h : KyOk k) (h' : KyOk k') (e : kl k = kl k') : k = k' := by
  have := keyedK.inj (keyOf_ky h) (e ▸ keyOf_ky h')
  obtain ⟨a, b, c, d, x, y, z⟩ := k
  obtain ⟨a', b', c', d', x', y', z'⟩ := k'
  simp [kv, KA, kcells] at this
  obtain ⟨rfl, rfl, rfl, rfl, rfl, rfl, rfl⟩ := this
  rfl
theorem klk (k : Ky) : WideAt.IsKeyLit (kl k) := trivial

/-! ### flows -/
def fcells (f : Fl) : List Value := [.int .i64 f.id, .int .i64 f.op.pr, .int .u64 f.op.sh, .int .u64 f.op.sl, .int .u64 f.op.dh, .int .u64 f.op.dl, .int .i64 f.op.sp, .int .i64 f.op.dp,
  .int .i64 f.bk.pr, .int .u64 f.bk.sh, .int .u64 f.bk.sl, .int .u64 f.bk.dh, .int .u64 f.bk.dl, .int .i64 f.bk.sp, .int .i64 f.bk.dp, .int .i64 f.ii, .int .i64 f.oo, .int .i64 f.ru, .int .i64 f.st, .int .i64 f.en]
def FA (f : Fl) : Array Value := (fcells f).toArray
def fv (f : Fl) : Value := .agg (FA f)
def toD : Value → DataW Unit
  | .int k n => .lit (.int k n)
  | _ => .nil
def isI : Value → Bool
  | .int _ _ => true
  | _ => false
def flR : Value → Option (DataW Unit × List MemPlace)
  | .agg cs => if cs.toList.all isI then some (.agg (cs.toList.map toD), []) else none
  | _ => none
def fD (f : Fl) : DataW Unit := .agg ((fcells f).map toD)
theorem flR_mk (f : Fl) : flR (fv f) = some (fD f, []) := rfl
theorem toD_inj : ∀ {l m : List Value}, l.all isI = true → m.all isI = true → l.map toD = m.map toD → l = m
  | [], [], _, _, _ => rfl
  | [], b :: s, _, _, h => by simp at h
  | a :: r, [], _, _, h => by simp at h
  | a :: r, b :: s, h1, h2, h => by
    simp only [List.all_cons, Bool.and_eq_true] at h1 h2
    simp only [List.map_cons, List.cons.injEq] at h
    rw [toD_inj h1.2 h2.2 h.2]
    congr 1
    have a1 := h1.1
    have b1 := h2.1
    cases a <;> simp [isI] at a1
    cases b <;> simp [isI] at b1
    have := h.1
    simpa [toD] using this
theorem flR_inv {v : Value} {f : Fl} {ps : List MemPlace} (h : flR v = some (fD f, ps)) : v = fv f := by
  unfold flR at h
  split at h
  · rename_i cs
    split at h
    · rename_i hc
      simp only [Option.some.injEq, Prod.mk.injEq, fD, DataW.agg.injEq] at h
      have := toD_inj hc (by rfl) h.1
      unfold fv FA
      rw [← this]
    · cases h
  · cases h
theorem zeroF (w : World) : (zeroValue 38).run Try.prog w = .ok (fv zf) w := by kernel_rfl
theorem zeroI (w : World) : (zeroValue 3).run Try.prog w = .ok (.int .i64 0) w := by kernel_rfl
theorem litI_ne {a b : Int} (h : a ≠ b) : (Lit.int .i64 a) ≠ (Lit.int .i64 b) := fun e => h (by cases e; rfl)

/-! ### the map of flows -/
def MapO (w : World) (Mp : Nat) (g : Int → Option Fl) (c : Nat) : Prop :=
  ∃ D : DataW Unit, w.ownsMap Try.prog 3 flR Mp c D ∧ (∀ id, i64ok id → has D (.int .i64 id) = (g id).isSome) ∧ (∀ id f, i64ok id → g id = some f → ∀ zd, D.atKey (.int .i64 id) zd = fD f) ∧ Maps.size D = c
def MapK (w : World) (Mp : Nat) (g : Ky → Option Int) (c : Nat) : Prop :=
  ∃ D : DataW Unit, w.ownsMap Try.prog 36 (plainElem Try.prog 3) Mp c D ∧ (∀ k, KyOk k → has D (kl k) = (g k).isSome) ∧ (∀ k n, KyOk k → g k = some n → i64ok n ∧ ∀ zd, D.atKey (kl k) zd = .lit (.int .i64 n)) ∧ Maps.size D = c

section
variable {w w' : World} {Mp c : Nat} {g : Int → Option Fl} {gk : Ky → Option Int}
theorem MapO.keep (h : MapO w Mp g c) (hw : w'.heap[Mp]? = w.heap[Mp]?) : MapO w' Mp g c := by
  obtain ⟨D, ⟨es, clock, h1, rest⟩, h2⟩ := h
  exact ⟨D, ⟨es, clock, hw.trans h1, rest⟩, h2⟩
theorem MapK.keep (h : MapK w Mp gk c) (hw : w'.heap[Mp]? = w.heap[Mp]?) : MapK w' Mp gk c := by
  obtain ⟨D, ⟨es, clock, h1, rest⟩, h2⟩ := h
  exact ⟨D, ⟨es, clock, hw.trans h1, rest⟩, h2⟩
theorem MapO.congr (h : MapO w Mp g c) {g' : Int → Option Fl} (e : ∀ id, g' id = g id) : MapO w Mp g' c := by
  rw [show g' = g from funext e]; exact h
theorem MapK.congr (h : MapK w Mp gk c) {g' : Ky → Option Int} (e : ∀ k, g' k = gk k) : MapK w Mp g' c := by
  rw [show g' = gk from funext e]; exact h
theorem MapO.lt (h : MapO w Mp g c) : Mp < w.heap.size := by obtain ⟨D, h, _⟩ := h; exact h.lt
theorem MapK.lt (h : MapK w Mp gk c) : Mp < w.heap.size := by obtain ⟨D, h, _⟩ := h; exact h.lt
theorem MapO.ne (h : MapO w Mp g c) {k : Nat} {cs : Array Value} {T : TypeId} (hk : w.heap[k]? = some (.cells cs T (0, 0))) : Mp ≠ k := by
  obtain ⟨D, ⟨es, clock, h1, rest⟩, h2⟩ := h
  intro e
  rw [e, hk] at h1
  cases h1
theorem MapK.ne (h : MapK w Mp gk c) {k : Nat} {cs : Array Value} {T : TypeId} (hk : w.heap[k]? = some (.cells cs T (0, 0))) : Mp ≠ k := by
  obtain ⟨D, ⟨es, clock, h1, rest⟩, h2⟩ := h
  intro e
  rw [e, hk] at h1
  cases h1

theorem MapO.look (h : MapO w Mp g c) {id : Int} (hs : i64ok id) :
    (Instr.lookup 63 (.map (some Mp)) (.int .i64 id) true).run Try.prog w = .ok (.tuple #[.agg (FA ((g id).getD zf)), .bool (g id).isSome]) w := by
  obtain ⟨D, h1, h2, h3, _⟩ := h
  obtain ⟨v, ps, hr, hv⟩ := h1.look_ok keyed Try.underlying63 (zeroF w) (zd := fD zf) (zp := []) (flR_mk zf) (keyOf_id hs)
  rw [h2 _ hs] at hr
  rw [hr]
  cases e : g id with
  | some f =>
    rw [h3 id f hs e] at hv
    rw [flR_inv hv]
    rfl
  | none =>
    have := h2 _ hs
    rw [e] at this
    rw [atKey_of_not_has this] at hv
    rw [flR_inv hv]
    rfl
theorem MapO.look1 (h : MapO w Mp g c) {id : Int} (hs : i64ok id) :
    (Instr.lookup 63 (.map (some Mp)) (.int .i64 id) false).run Try.prog w = .ok (.agg (FA ((g id).getD zf))) w := by
  obtain ⟨D, h1, h2, h3, _⟩ := h
  obtain ⟨v, ps, hr, hv⟩ := h1.lookup keyed Try.underlying63 (zeroF w) (zd := fD zf) (zp := []) (flR_mk zf) (keyOf_id hs)
  rw [hr]
  cases e : g id with
  | some f =>
    rw [h3 id f hs e] at hv
    rw [flR_inv hv]
    rfl
  | none =>
    have := h2 _ hs
    rw [e] at this
    rw [atKey_of_not_has this] at hv
    rw [flR_inv hv]
    rfl
theorem MapK.look (h : MapK w Mp gk c) {k : Ky} (hs : KyOk k) :
    (Instr.lookup 58 (.map (some Mp)) (.agg (KA k)) true).run Try.prog w = .ok (.tuple #[.int .i64 ((gk k).getD 0), .bool (gk k).isSome]) w := by
  obtain ⟨D, h1, h2, h3, _⟩ := h
  have hz : plainElem (H := Unit) Try.prog 3 (.int .i64 0) = some (.lit (.int .i64 0), []) := plainElem_int Try.underlying3 (by decide)
  obtain ⟨v, ps, hr, hv⟩ := h1.look_ok keyedK Try.underlying58 (zeroI w) hz (keyOf_ky hs)
  unfold kv at hr
  rw [h2 _ hs] at hr
  rw [hr]
  obtain ⟨a, rfl, hz2, _⟩ := plainElem_int_inv Try.underlying3 hv
  simp only [Prod.mk.injEq] at hz2
  cases e : gk k with
  | some n =>
    rw [(h3 k n hs e).2] at hz2
    simp at hz2
    rw [hz2.1]
    rfl
  | none =>
    have := h2 _ hs
    rw [e] at this
    rw [atKey_of_not_has this] at hz2
    simp at hz2
    rw [← hz2.1]
    rfl
theorem MapK.look1 (h : MapK w Mp gk c) {k : Ky} (hs : KyOk k) :
    (Instr.lookup 58 (.map (some Mp)) (.agg (KA k)) false).run Try.prog w = .ok (.int .i64 ((gk k).getD 0)) w := by
  obtain ⟨D, h1, h2, h3, _⟩ := h
  obtain ⟨n, hr, hat, _⟩ := h1.lookup_int keyedK Try.underlying58 Try.underlying3 (zeroI w) (keyOf_ky hs)
  unfold kv at hr
  rw [hr]
  cases e : gk k with
  | some m =>
    rw [(h3 k m hs e).2] at hat
    simp at hat
    rw [hat]
    rfl
  | none =>
    have := h2 _ hs
    rw [e] at this
    rw [atKey_of_not_has this] at hat
    simp at hat
    rw [← hat]
    rfl

def upO (g : Int → Option Fl) (f : Fl) : Int → Option Fl := fun id => if id = f.id then some f else g id
def deO (g : Int → Option Fl) (i : Int) : Int → Option Fl := fun id => if id = i then none else g id
def upK (g : Ky → Option Int) (k : Ky) (n : Int) : Ky → Option Int := fun x => if x = k then some n else g x
def deK (g : Ky → Option Int) (k : Ky) : Ky → Option Int := fun x => if x = k then none else g x

theorem MapO.put (h : MapO w Mp g c) (hl : c < 1000000) {f : Fl} (hs : i64ok f.id) :
    ∃ w', (Instr.mapUpdate 63 (.map (some Mp)) (.int .i64 f.id) (.agg (FA f))).run Try.prog w = .ok () w' ∧ MapO w' Mp (upO g f) (if (g f.id).isSome then c else c + 1) ∧ OffS (fun j => j = Mp) w w' := by
  obtain ⟨D, h1, h2, h3, h4⟩ := h
  obtain ⟨w', hr, ho, hg⟩ := h1.update keyed Try.underlying63 (by unfold maxLen; omega) (keyOf_id hs) (flR_mk f)
  have ht := h1.tidy keyed
  have hsz : Maps.size (D.put (.int .i64 f.id) (fD f)) = if (g f.id).isSome then c else c + 1 := by
    rw [size_put ht, h2 _ hs, h4]
  refine ⟨w', hr, ⟨_, ?_, fun id hid => ?_, fun id f' hid he zd => ?_, hsz⟩, grown_off hg⟩
  · obtain ⟨es, clock, q1, q2, q3, q4⟩ := ho
    refine ⟨es, clock, q1, q2, ?_, q4⟩
    rw [← hsz, q4]
    simp [Maps.size, length_sorted]
  · unfold upO
    by_cases e : id = f.id
    · subst e
      rw [has_put_same ht.isMap (kl_key _), if_pos rfl]; rfl
    · rw [has_put_other (litI_ne e), h2 id hid, if_neg e]
  · unfold upO at he
    by_cases e : id = f.id
    · subst e
      rw [if_pos rfl] at he
      cases he
      rw [atKey_put_same ht.isMap (kl_key _)]
    · rw [if_neg e] at he
      rw [atKey_put_other (litI_ne e), h3 id f' hid he]
theorem MapO.del (h : MapO w Mp g c) {id : Int} (hs : i64ok id) (ty : TypeId) :
    ∃ w', (Builtin.delete_ #[63, 3] ty #[.map (some Mp), .int .i64 id]).run Try.prog w = .ok (.tuple #[]) w' ∧ MapO w' Mp (deO g id) (if (g id).isSome then c - 1 else c) ∧ OffS (fun j => j = Mp) w w' := by
  obtain ⟨D, h1, h2, h3, h4⟩ := h
  obtain ⟨w', hr, ho, hg⟩ := h1.drop keyed Try.underlying63 (keyOf_id hs) ty
  have ht := h1.tidy keyed
  have hsz : Maps.size (D.del (.int .i64 id)) = if (g id).isSome then c - 1 else c := by
    have := size_del (k := .int .i64 id) ht
    rw [h2 _ hs, h4] at this
    split at this <;> rename_i q <;> simp_all
    omega
  refine ⟨w', hr, ⟨_, ?_, fun i hid => ?_, fun i f' hid he zd => ?_, hsz⟩, grown_off hg.grown⟩
  · obtain ⟨es, clock, q1, q2, q3, q4⟩ := ho
    refine ⟨es, clock, q1, q2, ?_, q4⟩
    rw [← hsz, q4]
    simp [Maps.size, length_sorted]
  · unfold deO
    by_cases e : i = id
    · subst e
      rw [has_del_same, if_pos rfl]; rfl
    · rw [has_del_other (litI_ne e), h2 i hid, if_neg e]
  · unfold deO at he
    by_cases e : i = id
    · rw [if_pos e] at he; cases he
    · rw [if_neg e] at he
      rw [atKey_del_other (litI_ne e), h3 i f' hid he]
theorem kl_ne {k k' : Ky} (h : KyOk k) (h' : KyOk k') (e : k ≠ k') : kl k ≠ kl k' := fun q => e (kl_inj h h' q)
theorem MapK.put (h : MapK w Mp gk c) (hl : c < 1000000) {k : Ky} (hs : KyOk k) {n : Int} (hn : i64ok n) :
    ∃ w', (Instr.mapUpdate 58 (.map (some Mp)) (.agg (KA k)) (.int .i64 n)).run Try.prog w = .ok () w' ∧ MapK w' Mp (upK gk k n) (if (gk k).isSome then c else c + 1) ∧ OffS (fun j => j = Mp) w w' := by
  obtain ⟨D, h1, h2, h3, h4⟩ := h
  obtain ⟨w', hr, ho, hg⟩ := h1.update keyedK Try.underlying58 (by unfold maxLen; omega) (keyOf_ky hs) (plainElem_int (H := Unit) Try.underlying3 (wf_ok hn))
  have ht := h1.tidy keyedK
  have hsz : Maps.size (D.put (kl k) (.lit (.int .i64 n))) = if (gk k).isSome then c else c + 1 := by
    rw [size_put ht, h2 _ hs, h4]
  refine ⟨w', hr, ⟨_, ?_, fun x hx => ?_, fun x m hx he => ?_, hsz⟩, grown_off hg⟩
  · obtain ⟨es, clock, q1, q2, q3, q4⟩ := ho
    refine ⟨es, clock, q1, q2, ?_, q4⟩
    rw [← hsz, q4]
    simp [Maps.size, length_sorted]
  · unfold upK
    by_cases e : x = k
    · subst e
      rw [has_put_same ht.isMap (klk _), if_pos rfl]; rfl
    · rw [has_put_other (kl_ne hx hs e), h2 x hx, if_neg e]
  · unfold upK at he
    by_cases e : x = k
    · subst e
      rw [if_pos rfl] at he
      cases he
      exact ⟨hn, fun zd => atKey_put_same ht.isMap (klk _) _ _⟩
    · rw [if_neg e] at he
      exact ⟨(h3 x m hx he).1, fun zd => by rw [atKey_put_other (kl_ne hx hs e), (h3 x m hx he).2]⟩
theorem MapK.del (h : MapK w Mp gk c) {k : Ky} (hs : KyOk k) (ty : TypeId) :
    ∃ w', (Builtin.delete_ #[58, 36] ty #[.map (some Mp), .agg (KA k)]).run Try.prog w = .ok (.tuple #[]) w' ∧ MapK w' Mp (deK gk k) (if (gk k).isSome then c - 1 else c) ∧ OffS (fun j => j = Mp) w w' := by
  obtain ⟨D, h1, h2, h3, h4⟩ := h
  obtain ⟨w', hr, ho, hg⟩ := h1.drop keyedK Try.underlying58 (keyOf_ky hs) ty
  have ht := h1.tidy keyedK
  have hsz : Maps.size (D.del (kl k)) = if (gk k).isSome then c - 1 else c := by
    have := size_del (k := kl k) ht
    rw [h2 _ hs, h4] at this
    split at this <;> rename_i q <;> simp_all
    omega
  refine ⟨w', hr, ⟨_, ?_, fun x hx => ?_, fun x m hx he => ?_, hsz⟩, grown_off hg.grown⟩
  · obtain ⟨es, clock, q1, q2, q3, q4⟩ := ho
    refine ⟨es, clock, q1, q2, ?_, q4⟩
    rw [← hsz, q4]
    simp [Maps.size, length_sorted]
  · unfold deK
    by_cases e : x = k
    · subst e
      rw [has_del_same, if_pos rfl]; rfl
    · rw [has_del_other (kl_ne hx hs e), h2 x hx, if_neg e]
  · unfold deK at he
    by_cases e : x = k
    · rw [if_pos e] at he; cases he
    · rw [if_neg e] at he
      exact ⟨(h3 x m hx he).1, fun zd => by rw [atKey_del_other (kl_ne hx hs e), (h3 x m hx he).2]⟩
end

/-! ### are they the same -/
theorem eqF_cons {P : Program} {d : Nat} {xs ys : Array Value} {f : Field} {fs : List Field} {w : World} {a b : Value} {r : Bool} (hn : f.name ≠ "_") (h1 : (part f.type xs f.offset).run P w = .ok a w) (h2 : (part f.type ys f.offset).run P w = .ok b w) (h3 : (Op.equalIn d f.type a b).run P w = .ok r w) :
    (Op.eqFields d xs ys (f :: fs)).run P w = if r = true then (Op.eqFields d xs ys fs).run P w else .ok false w := by
  conv => lhs; unfold Op.eqFields
  rw [if_pos hn]
  simp only [Sem.run_bind, h1, h2, h3, Result.andThen_ok]
  cases r <;> rfl
theorem eq_adr (d : Nat) (a b x y : Int) (w : World) : (Op.equalIn (d + 2) 34 (.agg #[.int .u64 a, .int .u64 b]) (.agg #[.int .u64 x, .int .u64 y])).run Try.prog w = .ok (a == x && b == y) w := by
  rw [run_equalIn_struct w (d + 1) 34 _ _ (by kernel_rfl) (by kernel_rfl)]
  rw [show (Try.prog.fieldsOf 34).toList = [{ name := "Hi", type := 32, offset := 0, embedded := false, tag := "", pkgPath := "", byteOffset := 0 }, { name := "Lo", type := 32, offset := 1, embedded := false, tag := "", pkgPath := "", byteOffset := 8 }] from by kernel_rfl]
  rw [eqF_cons (by decide) (show _ = Result.ok (.int .u64 a) w by kernel_rfl) (show _ = Result.ok (.int .u64 x) w by kernel_rfl) (run_equalIn_int w d 32 .u64 .u64 a x Try.underlying32)]
  rw [eqF_cons (by decide) (show _ = Result.ok (.int .u64 b) w by kernel_rfl) (show _ = Result.ok (.int .u64 y) w by kernel_rfl) (run_equalIn_int w d 32 .u64 .u64 b y Try.underlying32)]
  cases (a == x) <;> cases (b == y) <;> rfl
def keyFs : List Field := [{ name := "Proto", type := 3, offset := 0, embedded := false, tag := "", pkgPath := "", byteOffset := 0 }, { name := "Src", type := 34, offset := 1, embedded := false, tag := "", pkgPath := "", byteOffset := 8 }, { name := "Dst", type := 34, offset := 3, embedded := false, tag := "", pkgPath := "", byteOffset := 24 }, { name := "SPort", type := 3, offset := 5, embedded := false, tag := "", pkgPath := "", byteOffset := 40 }, { name := "DPort", type := 3, offset := 6, embedded := false, tag := "", pkgPath := "", byteOffset := 48 }]
theorem eq_ky (d : Nat) (k m : Ky) (w : World) : (Op.equalIn (d + 3) 36 (.agg (KA k)) (.agg (KA m))).run Try.prog w = .ok (k == m) w := by
  obtain ⟨a, b, c, e, f, g, h⟩ := k
  obtain ⟨a', b', c', e', f', g', h'⟩ := m
  have hb : ((⟨a, b, c, e, f, g, h⟩ : Ky) == ⟨a', b', c', e', f', g', h'⟩) = ((a == a') && ((b == b' && c == c') && ((e == e' && f == f') && ((g == g') && (h == h'))))) := by
    rw [Bool.eq_iff_iff]
    simp [and_assoc]
  rw [hb, run_equalIn_struct w (d + 2) 36 _ _ (by kernel_rfl) (by kernel_rfl)]
  rw [show (Try.prog.fieldsOf 36).toList = keyFs from by kernel_rfl]
  unfold keyFs
  rw [eqF_cons (by decide) (show _ = Result.ok (.int .i64 a) w by kernel_rfl) (show _ = Result.ok (.int .i64 a') w by kernel_rfl) (run_equalIn_int w (d + 1) 3 .i64 .i64 a a' Try.underlying3)]
  rw [eqF_cons (by decide) (show _ = Result.ok (.agg #[.int .u64 b, .int .u64 c]) w by kernel_rfl) (show _ = Result.ok (.agg #[.int .u64 b', .int .u64 c']) w by kernel_rfl) (eq_adr d b c b' c' w)]
  rw [eqF_cons (by decide) (show _ = Result.ok (.agg #[.int .u64 e, .int .u64 f]) w by kernel_rfl) (show _ = Result.ok (.agg #[.int .u64 e', .int .u64 f']) w by kernel_rfl) (eq_adr d e f e' f' w)]
  rw [eqF_cons (by decide) (show _ = Result.ok (.int .i64 g) w by kernel_rfl) (show _ = Result.ok (.int .i64 g') w by kernel_rfl) (run_equalIn_int w (d + 1) 3 .i64 .i64 g g' Try.underlying3)]
  rw [eqF_cons (by decide) (show _ = Result.ok (.int .i64 h) w by kernel_rfl) (show _ = Result.ok (.int .i64 h') w by kernel_rfl) (run_equalIn_int w (d + 1) 3 .i64 .i64 h h' Try.underlying3)]
  cases (a == a') <;> cases (b == b' && c == c') <;> cases (e == e' && f == f') <;> cases (g == g') <;> cases (h == h') <;> rfl
theorem eql_ky (k m : Ky) (w : World) : (binOp .eql 36 (.agg (KA k)) (.agg (KA m))).run Try.prog w = .ok (.bool (k == m)) w := by
  rw [run_eql_struct]
  rw [show (10000 : Nat) = 9997 + 3 from rfl, eq_ky 9997 k m w]
  rfl
theorem neq_ky (k m : Ky) (w : World) : (binOp .neq 36 (.agg (KA k)) (.agg (KA m))).run Try.prog w = .ok (.bool (!(k == m))) w := by
  rw [run_neq_struct]
  rw [show (10000 : Nat) = 9997 + 3 from rfl, eq_ky 9997 k m w]
  rfl
end Go.Proofs.Ytdgodndaaenafaa
