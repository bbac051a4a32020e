/- The frame of tied cards whose walk needs no table; by-name template. -/
import Derived.Test.YtmnnjkdmnfadhaaGreatDoorRows
import Derived.Test.YtmnnjkdmnfadhaaGreatDoorCards
import Derived.Test.YtmnnjkdmnfadhaaGreatDoorTie
import Derived.ProofKit
import Derived.OpenShut
import Derived.ShutString
import Derived.ChangeOld
import Derived.Carry
import Derived.WideShapes
import Derived.ChangeMaps5
import Derived.HandedShaped
import Derived.Handed
import Derived.Lay
import Derived.PinnedBridge
import Derived.Stop.LaidErr
import Derived.Shelf.Vars
import Derived.MakeChecks
import Derived.SevenTiedAt
import Derived.Test.YtmnnjkdmnfadhaaGreatDoorZC
import Derived.Deep.Slices
import Derived.Deep.Strs
import Derived.Test.YtmnnjkdmnfadhaaGreatDoorAStr
import Derived.Test.YtmnnjkdmnfadhaaGreatDoorZF
namespace Go.Proofs.YtmnnjkdmnfadhaaGreatDoor
open Go.ChangeShapes Go.WideShapes Go.ChangeAt Go.RowKit
set_option maxRecDepth 100000

theorem own : ownKnob Tryz.prog.godebug = none := by kernel_rfl
theorem laidOut : laidOutB Tryz.prog = true := by kernel_rfl

/-- The wrap for a row that lists variables, the world's shape kept. -/
theorem ret_laid {H : Type} {enc : TypeId × Value → H} {a : Assume} {C : Checked} {os : Os} {f : FuncId} {fn : Func} {s : ChangeSpec} {conds : List PathCond} {apart fresh handsOn again : Bool} {X : World → Array Value → Prop}
    (hX : ∀ (w w' : World) (args : Array Value), w.heap = w'.heap → X w args → X w' args)
    (own : ownKnob C.prog.godebug = none) (started : os.Started) (noInit : C.prog.inits.idxOf? f = none) (hfn : C.prog.funcs[f]? = some fn)
    (witness : ∃ (w : World) (tape : Tape) (i : Input), w.os = os ∧ (w.forCall tape i).Shaped C.prog ∧ i.vars = [] ∧ Input.okWide C.prog (w.forCall tape i) .any w.heap.size f i ∧
      ((s.pre enc C.prog fn conds apart (w.forCall tape i).memory i.args ∧ X (w.forCall tape i).memory i.args) ∧ sizedMet enc C.prog fn (OpenSpec.ofChange s) apart (w.forCall tape i).memory i.args) ∧ a.holds C.prog (lone (Frame.enter C.prog f i.args .normal) [] (w.forCall tape i)))
    (contract : ∀ (W : World) (base : Nat) (args : Array Value) (ds gs : List (DataW H)) (before : List MemPlace),
      (∀ (j : Nat) t v, fn.params[j]? = some t → args[j]? = some v → Value.okWide C.prog W .any base t v) →
      DataW.Whole enc C.prog fn.params.toList s.vars apart W args.toList ds gs before → X W args → W.ShapedOpen C.prog →
      Calls C.prog f args W fun e W' => ∃ v, e = .returned v ∧ s.post enc C.prog fn apart fresh handsOn again W args v W') :
    ReturnsInHanded a C os f .any (fun w args => (s.pre enc C.prog fn conds apart w args ∧ X w args) ∧ sizedMet enc C.prog fn (OpenSpec.ofChange s) apart w args) (s.post enc C.prog fn apart fresh handsOn again) := by
  refine returnsInHanded_of_calls own started noInit witness ?_
  intro w tape i _ hsh _ hok hpre _
  obtain ⟨_, _, _, fn', hfn', _, _, _, _, hval⟩ := hok
  have e : fn' = fn := Option.some.inj (hfn'.symm.trans hfn)
  subst e
  obtain ⟨⟨⟨ds, gs, before, hw, _⟩, hx⟩, _⟩ := hpre
  have hw' := DataW.Whole.of_heap (w' := w.forCall tape i) (by rfl) hw
  refine (contract (w.forCall tape i) w.heap.size i.args ds gs before hval hw' (hX _ _ _ (by rfl) hx) hsh).mono fun e W' ⟨v, he, hp⟩ => ?_
  subst he
  exact ChangeSpec.post_blind hp

end Go.Proofs.YtmnnjkdmnfadhaaGreatDoor

namespace Go.Proofs.YtmnnjkdmnfadhaaGreatDoor
open Go.ChangeShapes Go.WideShapes Go.ChangeAt Go.RowKit
set_option maxRecDepth 100000
set_option linter.unusedVariables false
set_option linter.unusedSimpArgs false

theorem wd_of_wf {x : Int} (h : (Lit.int .u64 x).wf = true) : Word x := by
  simp [Lit.wf, IntKind.min, IntKind.max, IntKind.signed, IntKind.bits] at h
  exact ⟨by omega, by omega⟩
theorem iw_of_wf {x : Int} (h : (Lit.int .i64 x).wf = true) : -9223372036854775808 ≤ x ∧ x < 9223372036854775808 := by
  simp [Lit.wf, IntKind.min, IntKind.max, IntKind.signed, IntKind.bits] at h
  exact ⟨by omega, by omega⟩
theorem fc_uint64 : Tryz.prog.cellsOf 34 = 1 := by kernel_rfl
theorem fc_int : Tryz.prog.cellsOf 3 = 1 := by kernel_rfl
theorem fc_string : Tryz.prog.cellsOf 9 = 1 := by kernel_rfl
theorem fc_bool : Tryz.prog.cellsOf 4 = 1 := by kernel_rfl
theorem fc_sint : Tryz.prog.cellsOf 57 = 1 := by kernel_rfl
theorem fc_sapi_Range : Tryz.prog.cellsOf 60 = 1 := by kernel_rfl
theorem fc_sapi_Zone : Tryz.prog.cellsOf 22 = 1 := by kernel_rfl
theorem fc_sapi_Object : Tryz.prog.cellsOf 23 = 1 := by kernel_rfl
theorem fc_sapi_Service : Tryz.prog.cellsOf 24 = 1 := by kernel_rfl
theorem fc_sapi_Limit : Tryz.prog.cellsOf 25 = 1 := by kernel_rfl
theorem fc_sapi_Route : Tryz.prog.cellsOf 26 = 1 := by kernel_rfl
theorem fc_sapi_Nat : Tryz.prog.cellsOf 27 = 1 := by kernel_rfl
theorem fc_sapi_Rule : Tryz.prog.cellsOf 28 = 1 := by kernel_rfl
theorem fc_api_Addr : Tryz.prog.cellsOf 36 = 2 := by kernel_rfl
theorem fc_api_Range : Tryz.prog.cellsOf 45 = 4 := by kernel_rfl
theorem fc_api_Zone : Tryz.prog.cellsOf 59 = 4 := by kernel_rfl
theorem fc_api_Object : Tryz.prog.cellsOf 62 = 2 := by kernel_rfl
theorem fc_api_Service : Tryz.prog.cellsOf 64 = 4 := by kernel_rfl
theorem fc_api_Limit : Tryz.prog.cellsOf 66 = 4 := by kernel_rfl
theorem fc_api_Route : Tryz.prog.cellsOf 109 = 6 := by kernel_rfl
theorem fc_api_Nat : Tryz.prog.cellsOf 68 = 10 := by kernel_rfl
theorem fc_api_Rule : Tryz.prog.cellsOf 70 = 8 := by kernel_rfl
theorem fc_cfg : Tryz.prog.cellsOf 30 = 8 := by kernel_rfl

section
variable {H : Type} {enc : TypeId × Value → H} {w : World} {base : Nat} {spare : Nat → Bool} {held : Bool}

theorem open_f_u64 {fuel : Nat} {c0 : Value} {x : DataW H × List MemPlace} (h : DataW.trod enc Tryz.prog w base spare held fuel 34 [c0] = some x) : ∃ a : Int, c0 = .int .u64 a ∧ Word a := by
  obtain ⟨k, e0, _, w0⟩ := DataW.trod_int Tryz.underlying34 h
  simp only [List.cons.injEq, and_true] at e0
  exact ⟨k, e0, wd_of_wf w0⟩
theorem open_f_i64 {fuel : Nat} {c0 : Value} {x : DataW H × List MemPlace} (h : DataW.trod enc Tryz.prog w base spare held fuel 3 [c0] = some x) : ∃ a : Int, c0 = .int .i64 a ∧ -9223372036854775808 ≤ a ∧ a < 9223372036854775808 := by
  obtain ⟨k, e0, _, w0⟩ := DataW.trod_int Tryz.underlying3 h
  simp only [List.cons.injEq, and_true] at e0
  exact ⟨k, e0, iw_of_wf w0⟩
theorem open_f_str {fuel : Nat} {c0 : Value} {x : DataW H × List MemPlace} (h : DataW.trod enc Tryz.prog w base spare held fuel 9 [c0] = some x) : ∃ a : ByteArray, c0 = .string a ∧ a.size ≤ maxLen := by
  obtain ⟨k, e0, _, w0⟩ := DataW.trod_string Tryz.underlying9 h
  simp only [List.cons.injEq, and_true] at e0
  exact ⟨k, e0, w0⟩
theorem open_f_bool {fuel : Nat} {c0 : Value} {x : DataW H × List MemPlace} (h : DataW.trod enc Tryz.prog w base spare held fuel 4 [c0] = some x) : ∃ a : Bool, c0 = .bool a := by
  obtain ⟨b, e0, _⟩ := DataW.trod_bool Tryz.underlying4 h
  simp only [List.cons.injEq, and_true] at e0
  exact ⟨b, e0⟩

/-- A slice of rows is opened. -/
theorem open_sl {α : Type} (S E : TypeId) (k : Nat) (hu : Tryz.prog.underlying S = some (.slice E)) (hk : Tryz.prog.cellsOf E = k) (hkp : 0 < k) (en : α → List Value) (good : α → Prop)
    (opn : ∀ (fuel : Nat) (cs : List Value) (x : DataW H × List MemPlace), DataW.trod enc Tryz.prog w base spare held fuel E cs = some x → ∃ a : α, cs = en a ∧ good a)
    {fuel : Nat} {c0 : Value} {x : DataW H × List MemPlace} (h : DataW.trod enc Tryz.prog w base spare held fuel S [c0] = some x) :
    ∃ (A : Option Addr) (len cap : Nat) (L : List α), c0 = .slice A len cap ∧ Sl w k en A len L ∧ (∀ a ∈ L, good a) ∧ len ≤ cap := by
  rcases Go.Deep.open_slice hu h with ⟨hcs, hx0⟩ | ⟨p, len', cap', m, n, D, Pl, hcs, hb, hl, hm, hmm, hx, hi⟩
  · simp only [List.cons.injEq, and_true] at hcs
    exact ⟨none, 0, 0, [], hcs, ⟨rfl, by omega, fun h => absurd h (Nat.lt_irrefl _)⟩, fun a ha => by simp at ha, Nat.le_refl _⟩
  · simp only [List.cons.injEq, and_true] at hcs
    have hlm : len' ≤ m := by rw [hmm]; split <;> omega
    rw [hk] at hi
    have hone : ∀ i, i < len' → ∃ a : α, good a ∧ ∃ b off, p = ⟨b, off, none⟩ ∧ b < w.heap.size ∧ ∀ j v, (en a)[j]? = some v → w.cell? ⟨b, off + i * k + j, none⟩ = some v := by
      intro i hil
      obtain ⟨cs', hc, ht⟩ := hi i (by omega)
      obtain ⟨a, rfl, hg⟩ := opn _ _ _ ht
      obtain ⟨_, hlc, hat⟩ := World.cells?_some hc
      obtain ⟨b, off, spot⟩ := p
      have hsp : spot = none := by
        obtain ⟨cs0, hc0, _⟩ := hi 0 (by omega)
        obtain ⟨_, hl0, hat0⟩ := World.cells?_some hc0
        have := World.cell?_spot ((hat0 0 (by omega)).trans (List.getElem?_eq_getElem (by omega)))
        simpa [Addr.add] using this
      subst hsp
      have hadd : ∀ j, (⟨b, off, none⟩ : Addr).add j = ⟨b, off + j, none⟩ := by intro j; unfold Addr.add; split <;> simp_all
      have hcell : ∀ j v, (en a)[j]? = some v → w.cell? ⟨b, off + i * k + j, none⟩ = some v := by
        intro j v hv
        have hj : j < k := by rw [← hlc]; exact (List.getElem?_eq_some_iff.1 hv).1
        have e0 : w.cell? (Addr.add ⟨b, off, none⟩ (i * k + j)) = some v := by
          rw [← Go.Deep.add_add, hat j hj, hv]
        rw [hadd] at e0
        rw [← e0]; congr 2; omega
      have hlt : b < w.heap.size := by
        have : ∃ v, (en a)[0]? = some v := ⟨_, List.getElem?_eq_getElem (by rw [hlc]; exact hkp)⟩
        obtain ⟨v, hv⟩ := this
        exact World.block_lt_of_cell? _ _ (hcell 0 v hv)
      exact ⟨a, hg, b, off, rfl, hlt, hcell⟩
    by_cases h0 : len' = 0
    · subst h0
      exact ⟨some p, 0, cap', [], hcs, ⟨rfl, by omega, fun h => absurd h (Nat.lt_irrefl _)⟩, fun a ha => by simp at ha, Nat.zero_le _⟩
    · obtain ⟨a0, _, b, off, hp, hlt, _⟩ := hone 0 (by omega)
      have ha : ∀ i, ∃ a : α, i < len' → good a ∧ ∀ j v, (en a)[j]? = some v → w.cell? ⟨b, off + i * k + j, none⟩ = some v := by
        intro i
        by_cases hil : i < len'
        · obtain ⟨a, hg, b', off', hp', _, hc⟩ := hone i hil
          rw [hp] at hp'
          cases hp'
          exact ⟨a, fun _ => ⟨hg, hc⟩⟩
        · exact ⟨a0, fun h => absurd h hil⟩
      refine ⟨some p, len', cap', (List.range len').map fun i => Classical.choose (ha i), hcs, ⟨by simp, by unfold maxLen at hm; omega, fun _ => ⟨b, off, by rw [hp], hlt, fun j x hj => ?_⟩⟩, fun a hmem => ?_, hl⟩
      · simp only [List.getElem?_map, Option.map_eq_some_iff] at hj
        obtain ⟨i', hi', rfl⟩ := hj
        have hjl : j < len' := by
          have := (List.getElem?_eq_some_iff.1 hi').1
          simpa using this
        have e : i' = j := by
          rw [List.getElem?_range hjl] at hi'
          simpa using hi'.symm
        subst e
        exact (Classical.choose_spec (ha i') hjl).2
      · obtain ⟨i, hi', rfl⟩ := List.mem_map.1 hmem
        exact (Classical.choose_spec (ha i) (List.mem_range.1 hi')).1
theorem open_f_ints {fuel : Nat} {c0 : Value} {x : DataW H × List MemPlace} (h : DataW.trod enc Tryz.prog w base spare held fuel 57 [c0] = some x) :
    ∃ (A : Option Addr) (len cap : Nat) (L : List Int), c0 = .slice A len cap ∧ Sl w 1 (fun x : Int => [Value.int .i64 x]) A len L ∧ len ≤ cap := by
  obtain ⟨A, len, cap, L, h1, h2, _, h3⟩ := open_sl 57 3 1 Tryz.underlying57 fc_int (by omega) (fun x : Int => [Value.int .i64 x]) (fun _ => True) (fun fuel cs x h => by
    obtain ⟨k, e0, _, w0⟩ := DataW.trod_int Tryz.underlying3 h
    exact ⟨k, e0, trivial⟩) h
  exact ⟨A, len, cap, L, h1, h2, h3⟩
theorem open_c_adr {fuel : Nat} {cs : List Value} {x : DataW H × List MemPlace} (h : DataW.trod enc Tryz.prog w base spare held fuel 36 cs = some x) :
    ∃ a b : Int, cs = [.int .u64 a, .int .u64 b] ∧ Word a ∧ Word b := by
  obtain ⟨xs, n, _, _, hl, hxl, hf⟩ := DataW.trod_struct Tryz.underlying36 h
  rw [fc_api_Addr] at hl
  match cs, hl with
  | [c0, c1], _ =>
    have h0 : DataW.trod enc Tryz.prog w base spare held n 34 [c0] = xs[0]? := by simpa [fc_uint64, fc_int, fc_string, fc_bool, fc_sint, fc_sapi_Range, fc_sapi_Zone, fc_sapi_Object, fc_sapi_Service, fc_sapi_Limit, fc_sapi_Route, fc_sapi_Nat, fc_sapi_Rule, fc_api_Addr, fc_api_Range, fc_api_Zone, fc_api_Object, fc_api_Service, fc_api_Limit, fc_api_Route, fc_api_Nat, fc_api_Rule] using hf 0 _ rfl
    have hx0 : xs[0]? = some (xs[0]'(by rw [hxl]; decide)) := List.getElem?_eq_getElem _
    have h1 : DataW.trod enc Tryz.prog w base spare held n 34 [c1] = xs[1]? := by simpa [fc_uint64, fc_int, fc_string, fc_bool, fc_sint, fc_sapi_Range, fc_sapi_Zone, fc_sapi_Object, fc_sapi_Service, fc_sapi_Limit, fc_sapi_Route, fc_sapi_Nat, fc_sapi_Rule, fc_api_Addr, fc_api_Range, fc_api_Zone, fc_api_Object, fc_api_Service, fc_api_Limit, fc_api_Route, fc_api_Nat, fc_api_Rule] using hf 1 _ rfl
    have hx1 : xs[1]? = some (xs[1]'(by rw [hxl]; decide)) := List.getElem?_eq_getElem _
    obtain ⟨ah, rfl, g_ah⟩ := open_f_u64 (h0.trans hx0)
    obtain ⟨al, rfl, g_al⟩ := open_f_u64 (h1.trans hx1)
    exact ⟨ah, al, rfl, g_ah, g_al⟩
theorem open_c_rng {fuel : Nat} {cs : List Value} {x : DataW H × List MemPlace} (h : DataW.trod enc Tryz.prog w base spare held fuel 45 cs = some x) :
    ∃ r : R4, cs = r4c r ∧ RW r := by
  obtain ⟨xs, n, _, _, hl, hxl, hf⟩ := DataW.trod_struct Tryz.underlying45 h
  rw [fc_api_Range] at hl
  match cs, hl with
  | [c0, c1, c2, c3], _ =>
    have h0 : DataW.trod enc Tryz.prog w base spare held n 36 [c0, c1] = xs[0]? := by simpa [fc_uint64, fc_int, fc_string, fc_bool, fc_sint, fc_sapi_Range, fc_sapi_Zone, fc_sapi_Object, fc_sapi_Service, fc_sapi_Limit, fc_sapi_Route, fc_sapi_Nat, fc_sapi_Rule, fc_api_Addr, fc_api_Range, fc_api_Zone, fc_api_Object, fc_api_Service, fc_api_Limit, fc_api_Route, fc_api_Nat, fc_api_Rule] using hf 0 _ rfl
    have hx0 : xs[0]? = some (xs[0]'(by rw [hxl]; decide)) := List.getElem?_eq_getElem _
    have h1 : DataW.trod enc Tryz.prog w base spare held n 36 [c2, c3] = xs[1]? := by simpa [fc_uint64, fc_int, fc_string, fc_bool, fc_sint, fc_sapi_Range, fc_sapi_Zone, fc_sapi_Object, fc_sapi_Service, fc_sapi_Limit, fc_sapi_Route, fc_sapi_Nat, fc_sapi_Rule, fc_api_Addr, fc_api_Range, fc_api_Zone, fc_api_Object, fc_api_Service, fc_api_Limit, fc_api_Route, fc_api_Nat, fc_api_Rule] using hf 1 _ rfl
    have hx1 : xs[1]? = some (xs[1]'(by rw [hxl]; decide)) := List.getElem?_eq_getElem _
    obtain ⟨fh, fl, e_f, g_fh, g_fl⟩ := open_c_adr (h0.trans hx0)
    simp only [List.cons.injEq, and_true] at e_f
    obtain ⟨rfl, rfl⟩ := e_f
    obtain ⟨th, tl, e_t, g_th, g_tl⟩ := open_c_adr (h1.trans hx1)
    simp only [List.cons.injEq, and_true] at e_t
    obtain ⟨rfl, rfl⟩ := e_t
    exact ⟨⟨fh, fl, th, tl⟩, rfl, g_fh, g_fl, g_th, g_tl⟩
theorem open_c_zone {fuel : Nat} {cs : List Value} {x : DataW H × List MemPlace} (h : DataW.trod enc Tryz.prog w base spare held fuel 59 cs = some x) :
    ∃ z : ZR, cs = zrc z ∧ (Sl w 1 (fun x : Int => [Value.int .i64 x]) z.ia z.il z.ifs ∧ z.il ≤ z.ic ∧ z.nm.size ≤ maxLen) := by
  obtain ⟨xs, n, _, _, hl, hxl, hf⟩ := DataW.trod_struct Tryz.underlying59 h
  rw [fc_api_Zone] at hl
  match cs, hl with
  | [c0, c1, c2, c3], _ =>
    have h0 : DataW.trod enc Tryz.prog w base spare held n 9 [c0] = xs[0]? := by simpa [fc_uint64, fc_int, fc_string, fc_bool, fc_sint, fc_sapi_Range, fc_sapi_Zone, fc_sapi_Object, fc_sapi_Service, fc_sapi_Limit, fc_sapi_Route, fc_sapi_Nat, fc_sapi_Rule, fc_api_Addr, fc_api_Range, fc_api_Zone, fc_api_Object, fc_api_Service, fc_api_Limit, fc_api_Route, fc_api_Nat, fc_api_Rule] using hf 0 _ rfl
    have hx0 : xs[0]? = some (xs[0]'(by rw [hxl]; decide)) := List.getElem?_eq_getElem _
    have h1 : DataW.trod enc Tryz.prog w base spare held n 36 [c1, c2] = xs[1]? := by simpa [fc_uint64, fc_int, fc_string, fc_bool, fc_sint, fc_sapi_Range, fc_sapi_Zone, fc_sapi_Object, fc_sapi_Service, fc_sapi_Limit, fc_sapi_Route, fc_sapi_Nat, fc_sapi_Rule, fc_api_Addr, fc_api_Range, fc_api_Zone, fc_api_Object, fc_api_Service, fc_api_Limit, fc_api_Route, fc_api_Nat, fc_api_Rule] using hf 1 _ rfl
    have hx1 : xs[1]? = some (xs[1]'(by rw [hxl]; decide)) := List.getElem?_eq_getElem _
    have h2 : DataW.trod enc Tryz.prog w base spare held n 57 [c3] = xs[2]? := by simpa [fc_uint64, fc_int, fc_string, fc_bool, fc_sint, fc_sapi_Range, fc_sapi_Zone, fc_sapi_Object, fc_sapi_Service, fc_sapi_Limit, fc_sapi_Route, fc_sapi_Nat, fc_sapi_Rule, fc_api_Addr, fc_api_Range, fc_api_Zone, fc_api_Object, fc_api_Service, fc_api_Limit, fc_api_Route, fc_api_Nat, fc_api_Rule] using hf 2 _ rfl
    have hx2 : xs[2]? = some (xs[2]'(by rw [hxl]; decide)) := List.getElem?_eq_getElem _
    obtain ⟨nm, rfl, g_nm⟩ := open_f_str (h0.trans hx0)
    obtain ⟨ah, al, e_a, g_ah, g_al⟩ := open_c_adr (h1.trans hx1)
    simp only [List.cons.injEq, and_true] at e_a
    obtain ⟨rfl, rfl⟩ := e_a
    obtain ⟨ia, il, ic, ifs, rfl, hS, hcap⟩ := open_f_ints (h2.trans hx2)
    exact ⟨⟨nm, ah, al, ia, il, ic, ifs⟩, rfl, hS, hcap, g_nm⟩
theorem open_f_rngs {fuel : Nat} {c0 : Value} {x : DataW H × List MemPlace} (h : DataW.trod enc Tryz.prog w base spare held fuel 60 [c0] = some x) :
    ∃ (A : Option Addr) (len cap : Nat) (L : List R4), c0 = .slice A len cap ∧ Sl w 4 r4c A len L ∧ len ≤ cap ∧ ∀ r ∈ L, RW r := by
  obtain ⟨A, len, cap, L, h1, h2, h4, h3⟩ := open_sl 60 45 4 Tryz.underlying60 fc_api_Range (by omega) r4c RW (fun fuel cs x h => open_c_rng h) h
  exact ⟨A, len, cap, L, h1, h2, h3, h4⟩
theorem open_c_object {fuel : Nat} {cs : List Value} {x : DataW H × List MemPlace} (h : DataW.trod enc Tryz.prog w base spare held fuel 62 cs = some x) :
    ∃ z : OR, cs = orc z ∧ (Sl w 4 r4c z.ra z.rl z.rs ∧ z.rl ≤ z.rc ∧ (∀ r ∈ z.rs, RW r) ∧ z.nm.size ≤ maxLen) := by
  obtain ⟨xs, n, _, _, hl, hxl, hf⟩ := DataW.trod_struct Tryz.underlying62 h
  rw [fc_api_Object] at hl
  match cs, hl with
  | [c0, c1], _ =>
    have h0 : DataW.trod enc Tryz.prog w base spare held n 9 [c0] = xs[0]? := by simpa [fc_uint64, fc_int, fc_string, fc_bool, fc_sint, fc_sapi_Range, fc_sapi_Zone, fc_sapi_Object, fc_sapi_Service, fc_sapi_Limit, fc_sapi_Route, fc_sapi_Nat, fc_sapi_Rule, fc_api_Addr, fc_api_Range, fc_api_Zone, fc_api_Object, fc_api_Service, fc_api_Limit, fc_api_Route, fc_api_Nat, fc_api_Rule] using hf 0 _ rfl
    have hx0 : xs[0]? = some (xs[0]'(by rw [hxl]; decide)) := List.getElem?_eq_getElem _
    have h1 : DataW.trod enc Tryz.prog w base spare held n 60 [c1] = xs[1]? := by simpa [fc_uint64, fc_int, fc_string, fc_bool, fc_sint, fc_sapi_Range, fc_sapi_Zone, fc_sapi_Object, fc_sapi_Service, fc_sapi_Limit, fc_sapi_Route, fc_sapi_Nat, fc_sapi_Rule, fc_api_Addr, fc_api_Range, fc_api_Zone, fc_api_Object, fc_api_Service, fc_api_Limit, fc_api_Route, fc_api_Nat, fc_api_Rule] using hf 1 _ rfl
    have hx1 : xs[1]? = some (xs[1]'(by rw [hxl]; decide)) := List.getElem?_eq_getElem _
    obtain ⟨nm, rfl, g_nm⟩ := open_f_str (h0.trans hx0)
    obtain ⟨ra, rl, rc, rs, rfl, hS, hcap, hrw⟩ := open_f_rngs (h1.trans hx1)
    exact ⟨⟨nm, ra, rl, rc, rs⟩, rfl, hS, hcap, hrw, g_nm⟩
theorem open_c_service {fuel : Nat} {cs : List Value} {x : DataW H × List MemPlace} (h : DataW.trod enc Tryz.prog w base spare held fuel 64 cs = some x) :
    ∃ z : SR, cs = src z ∧ z.nm.size ≤ maxLen := by
  obtain ⟨xs, n, _, _, hl, hxl, hf⟩ := DataW.trod_struct Tryz.underlying64 h
  rw [fc_api_Service] at hl
  match cs, hl with
  | [c0, c1, c2, c3], _ =>
    have h0 : DataW.trod enc Tryz.prog w base spare held n 9 [c0] = xs[0]? := by simpa [fc_uint64, fc_int, fc_string, fc_bool, fc_sint, fc_sapi_Range, fc_sapi_Zone, fc_sapi_Object, fc_sapi_Service, fc_sapi_Limit, fc_sapi_Route, fc_sapi_Nat, fc_sapi_Rule, fc_api_Addr, fc_api_Range, fc_api_Zone, fc_api_Object, fc_api_Service, fc_api_Limit, fc_api_Route, fc_api_Nat, fc_api_Rule] using hf 0 _ rfl
    have hx0 : xs[0]? = some (xs[0]'(by rw [hxl]; decide)) := List.getElem?_eq_getElem _
    have h1 : DataW.trod enc Tryz.prog w base spare held n 3 [c1] = xs[1]? := by simpa [fc_uint64, fc_int, fc_string, fc_bool, fc_sint, fc_sapi_Range, fc_sapi_Zone, fc_sapi_Object, fc_sapi_Service, fc_sapi_Limit, fc_sapi_Route, fc_sapi_Nat, fc_sapi_Rule, fc_api_Addr, fc_api_Range, fc_api_Zone, fc_api_Object, fc_api_Service, fc_api_Limit, fc_api_Route, fc_api_Nat, fc_api_Rule] using hf 1 _ rfl
    have hx1 : xs[1]? = some (xs[1]'(by rw [hxl]; decide)) := List.getElem?_eq_getElem _
    have h2 : DataW.trod enc Tryz.prog w base spare held n 3 [c2] = xs[2]? := by simpa [fc_uint64, fc_int, fc_string, fc_bool, fc_sint, fc_sapi_Range, fc_sapi_Zone, fc_sapi_Object, fc_sapi_Service, fc_sapi_Limit, fc_sapi_Route, fc_sapi_Nat, fc_sapi_Rule, fc_api_Addr, fc_api_Range, fc_api_Zone, fc_api_Object, fc_api_Service, fc_api_Limit, fc_api_Route, fc_api_Nat, fc_api_Rule] using hf 2 _ rfl
    have hx2 : xs[2]? = some (xs[2]'(by rw [hxl]; decide)) := List.getElem?_eq_getElem _
    have h3 : DataW.trod enc Tryz.prog w base spare held n 3 [c3] = xs[3]? := by simpa [fc_uint64, fc_int, fc_string, fc_bool, fc_sint, fc_sapi_Range, fc_sapi_Zone, fc_sapi_Object, fc_sapi_Service, fc_sapi_Limit, fc_sapi_Route, fc_sapi_Nat, fc_sapi_Rule, fc_api_Addr, fc_api_Range, fc_api_Zone, fc_api_Object, fc_api_Service, fc_api_Limit, fc_api_Route, fc_api_Nat, fc_api_Rule] using hf 3 _ rfl
    have hx3 : xs[3]? = some (xs[3]'(by rw [hxl]; decide)) := List.getElem?_eq_getElem _
    obtain ⟨nm, rfl, g_nm⟩ := open_f_str (h0.trans hx0)
    obtain ⟨p, rfl, g_p⟩ := open_f_i64 (h1.trans hx1)
    obtain ⟨f, rfl, g_f⟩ := open_f_i64 (h2.trans hx2)
    obtain ⟨t, rfl, g_t⟩ := open_f_i64 (h3.trans hx3)
    exact ⟨⟨nm, p, f, t⟩, rfl, g_nm⟩
theorem open_c_limit {fuel : Nat} {cs : List Value} {x : DataW H × List MemPlace} (h : DataW.trod enc Tryz.prog w base spare held fuel 66 cs = some x) :
    ∃ z : LR, cs = lrc z ∧ z.nm.size ≤ maxLen := by
  obtain ⟨xs, n, _, _, hl, hxl, hf⟩ := DataW.trod_struct Tryz.underlying66 h
  rw [fc_api_Limit] at hl
  match cs, hl with
  | [c0, c1, c2, c3], _ =>
    have h0 : DataW.trod enc Tryz.prog w base spare held n 9 [c0] = xs[0]? := by simpa [fc_uint64, fc_int, fc_string, fc_bool, fc_sint, fc_sapi_Range, fc_sapi_Zone, fc_sapi_Object, fc_sapi_Service, fc_sapi_Limit, fc_sapi_Route, fc_sapi_Nat, fc_sapi_Rule, fc_api_Addr, fc_api_Range, fc_api_Zone, fc_api_Object, fc_api_Service, fc_api_Limit, fc_api_Route, fc_api_Nat, fc_api_Rule] using hf 0 _ rfl
    have hx0 : xs[0]? = some (xs[0]'(by rw [hxl]; decide)) := List.getElem?_eq_getElem _
    have h1 : DataW.trod enc Tryz.prog w base spare held n 3 [c1] = xs[1]? := by simpa [fc_uint64, fc_int, fc_string, fc_bool, fc_sint, fc_sapi_Range, fc_sapi_Zone, fc_sapi_Object, fc_sapi_Service, fc_sapi_Limit, fc_sapi_Route, fc_sapi_Nat, fc_sapi_Rule, fc_api_Addr, fc_api_Range, fc_api_Zone, fc_api_Object, fc_api_Service, fc_api_Limit, fc_api_Route, fc_api_Nat, fc_api_Rule] using hf 1 _ rfl
    have hx1 : xs[1]? = some (xs[1]'(by rw [hxl]; decide)) := List.getElem?_eq_getElem _
    have h2 : DataW.trod enc Tryz.prog w base spare held n 3 [c2] = xs[2]? := by simpa [fc_uint64, fc_int, fc_string, fc_bool, fc_sint, fc_sapi_Range, fc_sapi_Zone, fc_sapi_Object, fc_sapi_Service, fc_sapi_Limit, fc_sapi_Route, fc_sapi_Nat, fc_sapi_Rule, fc_api_Addr, fc_api_Range, fc_api_Zone, fc_api_Object, fc_api_Service, fc_api_Limit, fc_api_Route, fc_api_Nat, fc_api_Rule] using hf 2 _ rfl
    have hx2 : xs[2]? = some (xs[2]'(by rw [hxl]; decide)) := List.getElem?_eq_getElem _
    have h3 : DataW.trod enc Tryz.prog w base spare held n 4 [c3] = xs[3]? := by simpa [fc_uint64, fc_int, fc_string, fc_bool, fc_sint, fc_sapi_Range, fc_sapi_Zone, fc_sapi_Object, fc_sapi_Service, fc_sapi_Limit, fc_sapi_Route, fc_sapi_Nat, fc_sapi_Rule, fc_api_Addr, fc_api_Range, fc_api_Zone, fc_api_Object, fc_api_Service, fc_api_Limit, fc_api_Route, fc_api_Nat, fc_api_Rule] using hf 3 _ rfl
    have hx3 : xs[3]? = some (xs[3]'(by rw [hxl]; decide)) := List.getElem?_eq_getElem _
    obtain ⟨nm, rfl, g_nm⟩ := open_f_str (h0.trans hx0)
    obtain ⟨r, rfl, g_r⟩ := open_f_i64 (h1.trans hx1)
    obtain ⟨b, rfl, g_b⟩ := open_f_i64 (h2.trans hx2)
    obtain ⟨s, rfl⟩ := open_f_bool (h3.trans hx3)
    exact ⟨⟨nm, r, b, s⟩, rfl, g_nm⟩
theorem open_c_route {fuel : Nat} {cs : List Value} {x : DataW H × List MemPlace} (h : DataW.trod enc Tryz.prog w base spare held fuel 109 cs = some x) :
    ∃ z : TR, cs = trc z ∧ (RW z.r ∧ SW z.bits) := by
  obtain ⟨xs, n, _, _, hl, hxl, hf⟩ := DataW.trod_struct Tryz.underlying109 h
  rw [fc_api_Route] at hl
  match cs, hl with
  | [c0, c1, c2, c3, c4, c5], _ =>
    have h0 : DataW.trod enc Tryz.prog w base spare held n 45 [c0, c1, c2, c3] = xs[0]? := by simpa [fc_uint64, fc_int, fc_string, fc_bool, fc_sint, fc_sapi_Range, fc_sapi_Zone, fc_sapi_Object, fc_sapi_Service, fc_sapi_Limit, fc_sapi_Route, fc_sapi_Nat, fc_sapi_Rule, fc_api_Addr, fc_api_Range, fc_api_Zone, fc_api_Object, fc_api_Service, fc_api_Limit, fc_api_Route, fc_api_Nat, fc_api_Rule] using hf 0 _ rfl
    have hx0 : xs[0]? = some (xs[0]'(by rw [hxl]; decide)) := List.getElem?_eq_getElem _
    have h1 : DataW.trod enc Tryz.prog w base spare held n 3 [c4] = xs[1]? := by simpa [fc_uint64, fc_int, fc_string, fc_bool, fc_sint, fc_sapi_Range, fc_sapi_Zone, fc_sapi_Object, fc_sapi_Service, fc_sapi_Limit, fc_sapi_Route, fc_sapi_Nat, fc_sapi_Rule, fc_api_Addr, fc_api_Range, fc_api_Zone, fc_api_Object, fc_api_Service, fc_api_Limit, fc_api_Route, fc_api_Nat, fc_api_Rule] using hf 1 _ rfl
    have hx1 : xs[1]? = some (xs[1]'(by rw [hxl]; decide)) := List.getElem?_eq_getElem _
    have h2 : DataW.trod enc Tryz.prog w base spare held n 3 [c5] = xs[2]? := by simpa [fc_uint64, fc_int, fc_string, fc_bool, fc_sint, fc_sapi_Range, fc_sapi_Zone, fc_sapi_Object, fc_sapi_Service, fc_sapi_Limit, fc_sapi_Route, fc_sapi_Nat, fc_sapi_Rule, fc_api_Addr, fc_api_Range, fc_api_Zone, fc_api_Object, fc_api_Service, fc_api_Limit, fc_api_Route, fc_api_Nat, fc_api_Rule] using hf 2 _ rfl
    have hx2 : xs[2]? = some (xs[2]'(by rw [hxl]; decide)) := List.getElem?_eq_getElem _
    obtain ⟨r, e_r, g_r⟩ := open_c_rng (h0.trans hx0)
    simp only [r4c, List.cons.injEq, and_true] at e_r
    obtain ⟨rfl, rfl, rfl, rfl⟩ := e_r
    obtain ⟨b, rfl, g_b⟩ := open_f_i64 (h1.trans hx1)
    obtain ⟨i, rfl, g_i⟩ := open_f_i64 (h2.trans hx2)
    exact ⟨⟨r, b, i⟩, rfl, g_r, g_b⟩
theorem open_c_nat {fuel : Nat} {cs : List Value} {x : DataW H × List MemPlace} (h : DataW.trod enc Tryz.prog w base spare held fuel 68 cs = some x) :
    ∃ z : NR, cs = nrc z ∧ NW z := by
  obtain ⟨xs, n, _, _, hl, hxl, hf⟩ := DataW.trod_struct Tryz.underlying68 h
  rw [fc_api_Nat] at hl
  match cs, hl with
  | [c0, c1, c2, c3, c4, c5, c6, c7, c8, c9], _ =>
    have h0 : DataW.trod enc Tryz.prog w base spare held n 3 [c0] = xs[0]? := by simpa [fc_uint64, fc_int, fc_string, fc_bool, fc_sint, fc_sapi_Range, fc_sapi_Zone, fc_sapi_Object, fc_sapi_Service, fc_sapi_Limit, fc_sapi_Route, fc_sapi_Nat, fc_sapi_Rule, fc_api_Addr, fc_api_Range, fc_api_Zone, fc_api_Object, fc_api_Service, fc_api_Limit, fc_api_Route, fc_api_Nat, fc_api_Rule] using hf 0 _ rfl
    have hx0 : xs[0]? = some (xs[0]'(by rw [hxl]; decide)) := List.getElem?_eq_getElem _
    have h1 : DataW.trod enc Tryz.prog w base spare held n 9 [c1] = xs[1]? := by simpa [fc_uint64, fc_int, fc_string, fc_bool, fc_sint, fc_sapi_Range, fc_sapi_Zone, fc_sapi_Object, fc_sapi_Service, fc_sapi_Limit, fc_sapi_Route, fc_sapi_Nat, fc_sapi_Rule, fc_api_Addr, fc_api_Range, fc_api_Zone, fc_api_Object, fc_api_Service, fc_api_Limit, fc_api_Route, fc_api_Nat, fc_api_Rule] using hf 1 _ rfl
    have hx1 : xs[1]? = some (xs[1]'(by rw [hxl]; decide)) := List.getElem?_eq_getElem _
    have h2 : DataW.trod enc Tryz.prog w base spare held n 9 [c2] = xs[2]? := by simpa [fc_uint64, fc_int, fc_string, fc_bool, fc_sint, fc_sapi_Range, fc_sapi_Zone, fc_sapi_Object, fc_sapi_Service, fc_sapi_Limit, fc_sapi_Route, fc_sapi_Nat, fc_sapi_Rule, fc_api_Addr, fc_api_Range, fc_api_Zone, fc_api_Object, fc_api_Service, fc_api_Limit, fc_api_Route, fc_api_Nat, fc_api_Rule] using hf 2 _ rfl
    have hx2 : xs[2]? = some (xs[2]'(by rw [hxl]; decide)) := List.getElem?_eq_getElem _
    have h3 : DataW.trod enc Tryz.prog w base spare held n 9 [c3] = xs[3]? := by simpa [fc_uint64, fc_int, fc_string, fc_bool, fc_sint, fc_sapi_Range, fc_sapi_Zone, fc_sapi_Object, fc_sapi_Service, fc_sapi_Limit, fc_sapi_Route, fc_sapi_Nat, fc_sapi_Rule, fc_api_Addr, fc_api_Range, fc_api_Zone, fc_api_Object, fc_api_Service, fc_api_Limit, fc_api_Route, fc_api_Nat, fc_api_Rule] using hf 3 _ rfl
    have hx3 : xs[3]? = some (xs[3]'(by rw [hxl]; decide)) := List.getElem?_eq_getElem _
    have h4 : DataW.trod enc Tryz.prog w base spare held n 36 [c4, c5] = xs[4]? := by simpa [fc_uint64, fc_int, fc_string, fc_bool, fc_sint, fc_sapi_Range, fc_sapi_Zone, fc_sapi_Object, fc_sapi_Service, fc_sapi_Limit, fc_sapi_Route, fc_sapi_Nat, fc_sapi_Rule, fc_api_Addr, fc_api_Range, fc_api_Zone, fc_api_Object, fc_api_Service, fc_api_Limit, fc_api_Route, fc_api_Nat, fc_api_Rule] using hf 4 _ rfl
    have hx4 : xs[4]? = some (xs[4]'(by rw [hxl]; decide)) := List.getElem?_eq_getElem _
    have h5 : DataW.trod enc Tryz.prog w base spare held n 36 [c6, c7] = xs[5]? := by simpa [fc_uint64, fc_int, fc_string, fc_bool, fc_sint, fc_sapi_Range, fc_sapi_Zone, fc_sapi_Object, fc_sapi_Service, fc_sapi_Limit, fc_sapi_Route, fc_sapi_Nat, fc_sapi_Rule, fc_api_Addr, fc_api_Range, fc_api_Zone, fc_api_Object, fc_api_Service, fc_api_Limit, fc_api_Route, fc_api_Nat, fc_api_Rule] using hf 5 _ rfl
    have hx5 : xs[5]? = some (xs[5]'(by rw [hxl]; decide)) := List.getElem?_eq_getElem _
    have h6 : DataW.trod enc Tryz.prog w base spare held n 3 [c8] = xs[6]? := by simpa [fc_uint64, fc_int, fc_string, fc_bool, fc_sint, fc_sapi_Range, fc_sapi_Zone, fc_sapi_Object, fc_sapi_Service, fc_sapi_Limit, fc_sapi_Route, fc_sapi_Nat, fc_sapi_Rule, fc_api_Addr, fc_api_Range, fc_api_Zone, fc_api_Object, fc_api_Service, fc_api_Limit, fc_api_Route, fc_api_Nat, fc_api_Rule] using hf 6 _ rfl
    have hx6 : xs[6]? = some (xs[6]'(by rw [hxl]; decide)) := List.getElem?_eq_getElem _
    have h7 : DataW.trod enc Tryz.prog w base spare held n 3 [c9] = xs[7]? := by simpa [fc_uint64, fc_int, fc_string, fc_bool, fc_sint, fc_sapi_Range, fc_sapi_Zone, fc_sapi_Object, fc_sapi_Service, fc_sapi_Limit, fc_sapi_Route, fc_sapi_Nat, fc_sapi_Rule, fc_api_Addr, fc_api_Range, fc_api_Zone, fc_api_Object, fc_api_Service, fc_api_Limit, fc_api_Route, fc_api_Nat, fc_api_Rule] using hf 7 _ rfl
    have hx7 : xs[7]? = some (xs[7]'(by rw [hxl]; decide)) := List.getElem?_eq_getElem _
    obtain ⟨k, rfl, g_k⟩ := open_f_i64 (h0.trans hx0)
    obtain ⟨z, rfl, g_z⟩ := open_f_str (h1.trans hx1)
    obtain ⟨o, rfl, g_o⟩ := open_f_str (h2.trans hx2)
    obtain ⟨s, rfl, g_s⟩ := open_f_str (h3.trans hx3)
    obtain ⟨uh, ul, e_u, g_uh, g_ul⟩ := open_c_adr (h4.trans hx4)
    simp only [List.cons.injEq, and_true] at e_u
    obtain ⟨rfl, rfl⟩ := e_u
    obtain ⟨vh, vl, e_v, g_vh, g_vl⟩ := open_c_adr (h5.trans hx5)
    simp only [List.cons.injEq, and_true] at e_v
    obtain ⟨rfl, rfl⟩ := e_v
    obtain ⟨f, rfl, g_f⟩ := open_f_i64 (h6.trans hx6)
    obtain ⟨t, rfl, g_t⟩ := open_f_i64 (h7.trans hx7)
    exact ⟨⟨k, z, o, s, uh, ul, vh, vl, f, t⟩, rfl, g_uh, g_ul, g_vh, g_vl⟩
theorem open_c_rule {fuel : Nat} {cs : List Value} {x : DataW H × List MemPlace} (h : DataW.trod enc Tryz.prog w base spare held fuel 70 cs = some x) :
    ∃ z : UR, cs = urc z ∧ True := by
  obtain ⟨xs, n, _, _, hl, hxl, hf⟩ := DataW.trod_struct Tryz.underlying70 h
  rw [fc_api_Rule] at hl
  match cs, hl with
  | [c0, c1, c2, c3, c4, c5, c6, c7], _ =>
    have h0 : DataW.trod enc Tryz.prog w base spare held n 9 [c0] = xs[0]? := by simpa [fc_uint64, fc_int, fc_string, fc_bool, fc_sint, fc_sapi_Range, fc_sapi_Zone, fc_sapi_Object, fc_sapi_Service, fc_sapi_Limit, fc_sapi_Route, fc_sapi_Nat, fc_sapi_Rule, fc_api_Addr, fc_api_Range, fc_api_Zone, fc_api_Object, fc_api_Service, fc_api_Limit, fc_api_Route, fc_api_Nat, fc_api_Rule] using hf 0 _ rfl
    have hx0 : xs[0]? = some (xs[0]'(by rw [hxl]; decide)) := List.getElem?_eq_getElem _
    have h1 : DataW.trod enc Tryz.prog w base spare held n 9 [c1] = xs[1]? := by simpa [fc_uint64, fc_int, fc_string, fc_bool, fc_sint, fc_sapi_Range, fc_sapi_Zone, fc_sapi_Object, fc_sapi_Service, fc_sapi_Limit, fc_sapi_Route, fc_sapi_Nat, fc_sapi_Rule, fc_api_Addr, fc_api_Range, fc_api_Zone, fc_api_Object, fc_api_Service, fc_api_Limit, fc_api_Route, fc_api_Nat, fc_api_Rule] using hf 1 _ rfl
    have hx1 : xs[1]? = some (xs[1]'(by rw [hxl]; decide)) := List.getElem?_eq_getElem _
    have h2 : DataW.trod enc Tryz.prog w base spare held n 9 [c2] = xs[2]? := by simpa [fc_uint64, fc_int, fc_string, fc_bool, fc_sint, fc_sapi_Range, fc_sapi_Zone, fc_sapi_Object, fc_sapi_Service, fc_sapi_Limit, fc_sapi_Route, fc_sapi_Nat, fc_sapi_Rule, fc_api_Addr, fc_api_Range, fc_api_Zone, fc_api_Object, fc_api_Service, fc_api_Limit, fc_api_Route, fc_api_Nat, fc_api_Rule] using hf 2 _ rfl
    have hx2 : xs[2]? = some (xs[2]'(by rw [hxl]; decide)) := List.getElem?_eq_getElem _
    have h3 : DataW.trod enc Tryz.prog w base spare held n 9 [c3] = xs[3]? := by simpa [fc_uint64, fc_int, fc_string, fc_bool, fc_sint, fc_sapi_Range, fc_sapi_Zone, fc_sapi_Object, fc_sapi_Service, fc_sapi_Limit, fc_sapi_Route, fc_sapi_Nat, fc_sapi_Rule, fc_api_Addr, fc_api_Range, fc_api_Zone, fc_api_Object, fc_api_Service, fc_api_Limit, fc_api_Route, fc_api_Nat, fc_api_Rule] using hf 3 _ rfl
    have hx3 : xs[3]? = some (xs[3]'(by rw [hxl]; decide)) := List.getElem?_eq_getElem _
    have h4 : DataW.trod enc Tryz.prog w base spare held n 9 [c4] = xs[4]? := by simpa [fc_uint64, fc_int, fc_string, fc_bool, fc_sint, fc_sapi_Range, fc_sapi_Zone, fc_sapi_Object, fc_sapi_Service, fc_sapi_Limit, fc_sapi_Route, fc_sapi_Nat, fc_sapi_Rule, fc_api_Addr, fc_api_Range, fc_api_Zone, fc_api_Object, fc_api_Service, fc_api_Limit, fc_api_Route, fc_api_Nat, fc_api_Rule] using hf 4 _ rfl
    have hx4 : xs[4]? = some (xs[4]'(by rw [hxl]; decide)) := List.getElem?_eq_getElem _
    have h5 : DataW.trod enc Tryz.prog w base spare held n 3 [c5] = xs[5]? := by simpa [fc_uint64, fc_int, fc_string, fc_bool, fc_sint, fc_sapi_Range, fc_sapi_Zone, fc_sapi_Object, fc_sapi_Service, fc_sapi_Limit, fc_sapi_Route, fc_sapi_Nat, fc_sapi_Rule, fc_api_Addr, fc_api_Range, fc_api_Zone, fc_api_Object, fc_api_Service, fc_api_Limit, fc_api_Route, fc_api_Nat, fc_api_Rule] using hf 5 _ rfl
    have hx5 : xs[5]? = some (xs[5]'(by rw [hxl]; decide)) := List.getElem?_eq_getElem _
    have h6 : DataW.trod enc Tryz.prog w base spare held n 9 [c6] = xs[6]? := by simpa [fc_uint64, fc_int, fc_string, fc_bool, fc_sint, fc_sapi_Range, fc_sapi_Zone, fc_sapi_Object, fc_sapi_Service, fc_sapi_Limit, fc_sapi_Route, fc_sapi_Nat, fc_sapi_Rule, fc_api_Addr, fc_api_Range, fc_api_Zone, fc_api_Object, fc_api_Service, fc_api_Limit, fc_api_Route, fc_api_Nat, fc_api_Rule] using hf 6 _ rfl
    have hx6 : xs[6]? = some (xs[6]'(by rw [hxl]; decide)) := List.getElem?_eq_getElem _
    have h7 : DataW.trod enc Tryz.prog w base spare held n 4 [c7] = xs[7]? := by simpa [fc_uint64, fc_int, fc_string, fc_bool, fc_sint, fc_sapi_Range, fc_sapi_Zone, fc_sapi_Object, fc_sapi_Service, fc_sapi_Limit, fc_sapi_Route, fc_sapi_Nat, fc_sapi_Rule, fc_api_Addr, fc_api_Range, fc_api_Zone, fc_api_Object, fc_api_Service, fc_api_Limit, fc_api_Route, fc_api_Nat, fc_api_Rule] using hf 7 _ rfl
    have hx7 : xs[7]? = some (xs[7]'(by rw [hxl]; decide)) := List.getElem?_eq_getElem _
    obtain ⟨a, rfl, g_a⟩ := open_f_str (h0.trans hx0)
    obtain ⟨b, rfl, g_b⟩ := open_f_str (h1.trans hx1)
    obtain ⟨c, rfl, g_c⟩ := open_f_str (h2.trans hx2)
    obtain ⟨d, rfl, g_d⟩ := open_f_str (h3.trans hx3)
    obtain ⟨e, rfl, g_e⟩ := open_f_str (h4.trans hx4)
    obtain ⟨f, rfl, g_f⟩ := open_f_i64 (h5.trans hx5)
    obtain ⟨g, rfl, g_g⟩ := open_f_str (h6.trans hx6)
    obtain ⟨hh, rfl⟩ := open_f_bool (h7.trans hx7)
    exact ⟨⟨a, b, c, d, e, f, g, hh⟩, rfl, trivial⟩

/-- A configuration is opened. -/
theorem open_cfg_cells {fuel : Nat} {cs : List Value} {x : DataW H × List MemPlace} (h : DataW.trod enc Tryz.prog w base spare held fuel 30 cs = some x) :
    ∃ c : CF, cs = (cfc c).toList ∧ c.Ok w ∧ c.Good := by
  obtain ⟨xs, n, _, hx, hl, hxl, hf⟩ := DataW.trod_struct Tryz.underlying30 h
  rw [fc_cfg] at hl
  match cs, hl with
  | [c0, c1, c2, c3, c4, c5, c6, c7], _ =>
    have h0 : DataW.trod enc Tryz.prog w base spare held n 22 [c0] = xs[0]? := by simpa [fc_uint64, fc_int, fc_string, fc_bool, fc_sint, fc_sapi_Range, fc_sapi_Zone, fc_sapi_Object, fc_sapi_Service, fc_sapi_Limit, fc_sapi_Route, fc_sapi_Nat, fc_sapi_Rule, fc_api_Addr, fc_api_Range, fc_api_Zone, fc_api_Object, fc_api_Service, fc_api_Limit, fc_api_Route, fc_api_Nat, fc_api_Rule] using hf 0 _ rfl
    have hx0 : xs[0]? = some (xs[0]'(by rw [hxl]; decide)) := List.getElem?_eq_getElem _
    have h1 : DataW.trod enc Tryz.prog w base spare held n 23 [c1] = xs[1]? := by simpa [fc_uint64, fc_int, fc_string, fc_bool, fc_sint, fc_sapi_Range, fc_sapi_Zone, fc_sapi_Object, fc_sapi_Service, fc_sapi_Limit, fc_sapi_Route, fc_sapi_Nat, fc_sapi_Rule, fc_api_Addr, fc_api_Range, fc_api_Zone, fc_api_Object, fc_api_Service, fc_api_Limit, fc_api_Route, fc_api_Nat, fc_api_Rule] using hf 1 _ rfl
    have hx1 : xs[1]? = some (xs[1]'(by rw [hxl]; decide)) := List.getElem?_eq_getElem _
    have h2 : DataW.trod enc Tryz.prog w base spare held n 24 [c2] = xs[2]? := by simpa [fc_uint64, fc_int, fc_string, fc_bool, fc_sint, fc_sapi_Range, fc_sapi_Zone, fc_sapi_Object, fc_sapi_Service, fc_sapi_Limit, fc_sapi_Route, fc_sapi_Nat, fc_sapi_Rule, fc_api_Addr, fc_api_Range, fc_api_Zone, fc_api_Object, fc_api_Service, fc_api_Limit, fc_api_Route, fc_api_Nat, fc_api_Rule] using hf 2 _ rfl
    have hx2 : xs[2]? = some (xs[2]'(by rw [hxl]; decide)) := List.getElem?_eq_getElem _
    have h3 : DataW.trod enc Tryz.prog w base spare held n 25 [c3] = xs[3]? := by simpa [fc_uint64, fc_int, fc_string, fc_bool, fc_sint, fc_sapi_Range, fc_sapi_Zone, fc_sapi_Object, fc_sapi_Service, fc_sapi_Limit, fc_sapi_Route, fc_sapi_Nat, fc_sapi_Rule, fc_api_Addr, fc_api_Range, fc_api_Zone, fc_api_Object, fc_api_Service, fc_api_Limit, fc_api_Route, fc_api_Nat, fc_api_Rule] using hf 3 _ rfl
    have hx3 : xs[3]? = some (xs[3]'(by rw [hxl]; decide)) := List.getElem?_eq_getElem _
    have h4 : DataW.trod enc Tryz.prog w base spare held n 26 [c4] = xs[4]? := by simpa [fc_uint64, fc_int, fc_string, fc_bool, fc_sint, fc_sapi_Range, fc_sapi_Zone, fc_sapi_Object, fc_sapi_Service, fc_sapi_Limit, fc_sapi_Route, fc_sapi_Nat, fc_sapi_Rule, fc_api_Addr, fc_api_Range, fc_api_Zone, fc_api_Object, fc_api_Service, fc_api_Limit, fc_api_Route, fc_api_Nat, fc_api_Rule] using hf 4 _ rfl
    have hx4 : xs[4]? = some (xs[4]'(by rw [hxl]; decide)) := List.getElem?_eq_getElem _
    have h5 : DataW.trod enc Tryz.prog w base spare held n 27 [c5] = xs[5]? := by simpa [fc_uint64, fc_int, fc_string, fc_bool, fc_sint, fc_sapi_Range, fc_sapi_Zone, fc_sapi_Object, fc_sapi_Service, fc_sapi_Limit, fc_sapi_Route, fc_sapi_Nat, fc_sapi_Rule, fc_api_Addr, fc_api_Range, fc_api_Zone, fc_api_Object, fc_api_Service, fc_api_Limit, fc_api_Route, fc_api_Nat, fc_api_Rule] using hf 5 _ rfl
    have hx5 : xs[5]? = some (xs[5]'(by rw [hxl]; decide)) := List.getElem?_eq_getElem _
    have h6 : DataW.trod enc Tryz.prog w base spare held n 28 [c6] = xs[6]? := by simpa [fc_uint64, fc_int, fc_string, fc_bool, fc_sint, fc_sapi_Range, fc_sapi_Zone, fc_sapi_Object, fc_sapi_Service, fc_sapi_Limit, fc_sapi_Route, fc_sapi_Nat, fc_sapi_Rule, fc_api_Addr, fc_api_Range, fc_api_Zone, fc_api_Object, fc_api_Service, fc_api_Limit, fc_api_Route, fc_api_Nat, fc_api_Rule] using hf 6 _ rfl
    have hx6 : xs[6]? = some (xs[6]'(by rw [hxl]; decide)) := List.getElem?_eq_getElem _
    have h7 : DataW.trod enc Tryz.prog w base spare held n 3 [c7] = xs[7]? := by simpa [fc_uint64, fc_int, fc_string, fc_bool, fc_sint, fc_sapi_Range, fc_sapi_Zone, fc_sapi_Object, fc_sapi_Service, fc_sapi_Limit, fc_sapi_Route, fc_sapi_Nat, fc_sapi_Rule, fc_api_Addr, fc_api_Range, fc_api_Zone, fc_api_Object, fc_api_Service, fc_api_Limit, fc_api_Route, fc_api_Nat, fc_api_Rule] using hf 7 _ rfl
    have hx7 : xs[7]? = some (xs[7]'(by rw [hxl]; decide)) := List.getElem?_eq_getElem _
    obtain ⟨zA, zn, zc, zs, rfl, S0, G0, N0⟩ := open_sl 22 59 4 Tryz.underlying22 fc_api_Zone (by omega) zrc (fun z => Sl w 1 (fun x : Int => [Value.int .i64 x]) z.ia z.il z.ifs ∧ z.il ≤ z.ic ∧ z.nm.size ≤ maxLen) (fun fuel cs x h => open_c_zone h) (h0.trans hx0)
    obtain ⟨oA, on, oc, os, rfl, S1, G1, N1⟩ := open_sl 23 62 2 Tryz.underlying23 fc_api_Object (by omega) orc (fun z => Sl w 4 r4c z.ra z.rl z.rs ∧ z.rl ≤ z.rc ∧ (∀ r ∈ z.rs, RW r) ∧ z.nm.size ≤ maxLen) (fun fuel cs x h => open_c_object h) (h1.trans hx1)
    obtain ⟨sA, sn, sc, ss, rfl, S2, G2, N2⟩ := open_sl 24 64 4 Tryz.underlying24 fc_api_Service (by omega) src (fun z => z.nm.size ≤ maxLen) (fun fuel cs x h => open_c_service h) (h2.trans hx2)
    obtain ⟨lA, ln, lc, ls, rfl, S3, G3, N3⟩ := open_sl 25 66 4 Tryz.underlying25 fc_api_Limit (by omega) lrc (fun z => z.nm.size ≤ maxLen) (fun fuel cs x h => open_c_limit h) (h3.trans hx3)
    obtain ⟨tA, tn, tc, ts, rfl, S4, G4, N4⟩ := open_sl 26 109 6 Tryz.underlying26 fc_api_Route (by omega) trc (fun z => RW z.r ∧ SW z.bits) (fun fuel cs x h => open_c_route h) (h4.trans hx4)
    obtain ⟨nA, nn, nc, ns, rfl, S5, G5, N5⟩ := open_sl 27 68 10 Tryz.underlying27 fc_api_Nat (by omega) nrc NW (fun fuel cs x h => open_c_nat h) (h5.trans hx5)
    obtain ⟨uA, un, uc, us, rfl, S6, G6, N6⟩ := open_sl 28 70 8 Tryz.underlying28 fc_api_Rule (by omega) urc (fun _ => True) (fun fuel cs x h => open_c_rule h) (h6.trans hx6)
    obtain ⟨df, rfl, _⟩ := open_f_i64 (h7.trans hx7)
    have ml : maxLen = 9223372036854775807 := rfl
    exact ⟨⟨zA, zn, zc, zs, oA, on, oc, os, sA, sn, sc, ss, lA, ln, lc, ls, tA, tn, tc, ts, nA, nn, nc, ns, uA, un, uc, us, df⟩, rfl, ⟨S0, S1, S2, S3, S4, S5, S6, fun z hz => (G0 z hz).1, fun z hz => (G1 z hz).1, fun z hz => ⟨(G5 z hz).1, (G5 z hz).2.1⟩⟩,
      ⟨⟨N0, N1, N2, N3, N4, N5, N6⟩, fun z hz => (G0 z hz).2.2, fun z hz => (G1 z hz).2.2.2, fun z hz => G2 z hz, fun z hz => G3 z hz, fun z hz => (G0 z hz).2.1, fun z hz => (G1 z hz).2.1, fun z hz => (G1 z hz).2.2.1, fun z hz => G4 z hz, fun z hz => G5 z hz⟩⟩

/-- A configuration that came in is opened. -/
theorem open_cfg {r : Reach} {b0 : Nat} {v : Value} {d : DataW H} {pl : List MemPlace} (hval : Value.okWide Tryz.prog w r b0 30 v) (hd : DataW.Trod enc Tryz.prog w base spare held 30 v d pl) :
    ∃ c : CF, v = .agg (cfc c) ∧ c.Ok w ∧ c.Good := by
  obtain ⟨cs, rfl, hs⟩ := okWide_struct Tryz.underlying30 hval
  obtain ⟨fuel, hf⟩ := hd
  obtain ⟨c, e, hok, hg⟩ := open_cfg_cells (cs := cs.toList) (by simpa [Value.cells] using hf)
  exact ⟨c, by rw [show cs = cfc c from Array.toList_inj.1 e], hok, hg⟩
end
end Go.Proofs.YtmnnjkdmnfadhaaGreatDoor

namespace Go.Proofs.YtmnnjkdmnfadhaaGreatDoor
open Go.ChangeShapes Go.WideShapes Go.ChangeAt Go.RowKit
set_option maxRecDepth 100000

/-- The numbers of a table. -/
def numsOf : DataW Unit → List Int
  | .agg l => l.map fun d => match d with | .lit (.int _ z) => z | _ => 0
  | _ => []

def laidList : List (String × DataW Unit) := [("math/bits.deBruijn32tab", Rows.laid_math_bits_deBruijn32tab), ("math/bits.deBruijn64tab", Lib.tabData .u8 (numsOf Rows.laid_math_bits_deBruijn64tab)), ("internal/strconv.uint64pow10", Lib.tabData .u64 Lib.pow10Tab)]

/-- What the listed variables give. -/
theorem glob_of {W : World} (hL : laidMetH Tryz.prog laidList W) : Glob W := by
  rw [MakeChecks.laidMetH_plain _ _ _ (by kernel_rfl)] at hL
  have g64 : Tryz.prog.globalNamed "math/bits.deBruijn64tab" = some 2 := by kernel_rfl
  have t64 : Lib.TabIs Tryz.prog W "math/bits.deBruijn64tab" .u8 (numsOf Rows.laid_math_bits_deBruijn64tab) :=
    Lib.tabIs_of_head (t := 213) (e := 5) (n := 64) g64 (by kernel_rfl) Tryz.underlying213 Tryz.underlying5 (by kernel_rfl) (by kernel_rfl) hL.tail
  have tp : Lib.TabIs Tryz.prog W "internal/strconv.uint64pow10" .u64 Lib.pow10Tab :=
    Lib.tabIs_of_head (g := 0) (t := 208) (e := 34) (n := 20) (by kernel_rfl) (by kernel_rfl) Tryz.underlying208 Tryz.underlying34 (by kernel_rfl) (by kernel_rfl) hL.tail.tail
  refine ⟨tp, ?_⟩
  have := t64.cell g64 15 (of_decide_eq_true (by kernel_rfl))
  rw [this]; rfl
end Go.Proofs.YtmnnjkdmnfadhaaGreatDoor

namespace Go.Proofs.YtmnnjkdmnfadhaaGreatDoor
open Go.ChangeShapes Go.WideShapes Go.ChangeAt Go.RowKit
set_option maxRecDepth 100000
set_option linter.unusedVariables false
set_option linter.unusedSimpArgs false

theorem fc_api_Key : Tryz.prog.cellsOf 38 = 7 := by kernel_rfl
theorem fc_api_Header : Tryz.prog.cellsOf 40 = 9 := by kernel_rfl
section
variable {H : Type} {enc : TypeId × Value → H} {w : World} {base : Nat} {spare : Nat → Bool} {held : Bool}
theorem open_c_key {fuel : Nat} {cs : List Value} {x : DataW H × List MemPlace} (h : DataW.trod enc Tryz.prog w base spare held fuel 38 cs = some x) :
    ∃ p sh sl dh dl sp dp : Int, cs = [.int .i64 p, .int .u64 sh, .int .u64 sl, .int .u64 dh, .int .u64 dl, .int .i64 sp, .int .i64 dp] := by
  obtain ⟨xs, n, _, _, hl, hxl, hf⟩ := DataW.trod_struct Tryz.underlying38 h
  rw [fc_api_Key] at hl
  match cs, hl with
  | [c0, c1, c2, c3, c4, c5, c6], _ =>
    have h0 : DataW.trod enc Tryz.prog w base spare held n 3 [c0] = xs[0]? := by simpa [fc_uint64, fc_int, fc_api_Addr, fc_api_Key, fc_api_Header] using hf 0 _ rfl
    have hx0 : xs[0]? = some (xs[0]'(by rw [hxl]; decide)) := List.getElem?_eq_getElem _
    have h1 : DataW.trod enc Tryz.prog w base spare held n 36 [c1, c2] = xs[1]? := by simpa [fc_uint64, fc_int, fc_api_Addr, fc_api_Key, fc_api_Header] using hf 1 _ rfl
    have hx1 : xs[1]? = some (xs[1]'(by rw [hxl]; decide)) := List.getElem?_eq_getElem _
    have h2 : DataW.trod enc Tryz.prog w base spare held n 36 [c3, c4] = xs[2]? := by simpa [fc_uint64, fc_int, fc_api_Addr, fc_api_Key, fc_api_Header] using hf 2 _ rfl
    have hx2 : xs[2]? = some (xs[2]'(by rw [hxl]; decide)) := List.getElem?_eq_getElem _
    have h3 : DataW.trod enc Tryz.prog w base spare held n 3 [c5] = xs[3]? := by simpa [fc_uint64, fc_int, fc_api_Addr, fc_api_Key, fc_api_Header] using hf 3 _ rfl
    have hx3 : xs[3]? = some (xs[3]'(by rw [hxl]; decide)) := List.getElem?_eq_getElem _
    have h4 : DataW.trod enc Tryz.prog w base spare held n 3 [c6] = xs[4]? := by simpa [fc_uint64, fc_int, fc_api_Addr, fc_api_Key, fc_api_Header] using hf 4 _ rfl
    have hx4 : xs[4]? = some (xs[4]'(by rw [hxl]; decide)) := List.getElem?_eq_getElem _
    obtain ⟨p, rfl, g_p⟩ := open_f_i64 (h0.trans hx0)
    obtain ⟨sh, sl, e_s, g_sh, g_sl⟩ := open_c_adr (h1.trans hx1)
    simp only [List.cons.injEq, and_true] at e_s
    obtain ⟨rfl, rfl⟩ := e_s
    obtain ⟨dh, dl, e_d, g_dh, g_dl⟩ := open_c_adr (h2.trans hx2)
    simp only [List.cons.injEq, and_true] at e_d
    obtain ⟨rfl, rfl⟩ := e_d
    obtain ⟨sp, rfl, g_sp⟩ := open_f_i64 (h3.trans hx3)
    obtain ⟨dp, rfl, g_dp⟩ := open_f_i64 (h4.trans hx4)
    exact ⟨p, sh, sl, dh, dl, sp, dp, rfl⟩
theorem open_c_hdr {fuel : Nat} {cs : List Value} {x : DataW H × List MemPlace} (h : DataW.trod enc Tryz.prog w base spare held fuel 40 cs = some x) :
    ∃ i o p sh sl dh dl sp dp : Int, cs = (hdA i o p sh sl dh dl sp dp).toList := by
  obtain ⟨xs, n, _, _, hl, hxl, hf⟩ := DataW.trod_struct Tryz.underlying40 h
  rw [fc_api_Header] at hl
  match cs, hl with
  | [c0, c1, c2, c3, c4, c5, c6, c7, c8], _ =>
    have h0 : DataW.trod enc Tryz.prog w base spare held n 3 [c0] = xs[0]? := by simpa [fc_uint64, fc_int, fc_api_Addr, fc_api_Key, fc_api_Header] using hf 0 _ rfl
    have hx0 : xs[0]? = some (xs[0]'(by rw [hxl]; decide)) := List.getElem?_eq_getElem _
    have h1 : DataW.trod enc Tryz.prog w base spare held n 3 [c1] = xs[1]? := by simpa [fc_uint64, fc_int, fc_api_Addr, fc_api_Key, fc_api_Header] using hf 1 _ rfl
    have hx1 : xs[1]? = some (xs[1]'(by rw [hxl]; decide)) := List.getElem?_eq_getElem _
    have h2 : DataW.trod enc Tryz.prog w base spare held n 38 [c2, c3, c4, c5, c6, c7, c8] = xs[2]? := by simpa [fc_uint64, fc_int, fc_api_Addr, fc_api_Key, fc_api_Header] using hf 2 _ rfl
    have hx2 : xs[2]? = some (xs[2]'(by rw [hxl]; decide)) := List.getElem?_eq_getElem _
    obtain ⟨i, rfl, g_i⟩ := open_f_i64 (h0.trans hx0)
    obtain ⟨o, rfl, g_o⟩ := open_f_i64 (h1.trans hx1)
    obtain ⟨p, sh, sl, dh, dl, sp, dp, e_k⟩ := open_c_key (h2.trans hx2)
    simp only [List.cons.injEq, and_true] at e_k
    obtain ⟨rfl, rfl, rfl, rfl, rfl, rfl, rfl⟩ := e_k
    exact ⟨i, o, p, sh, sl, dh, dl, sp, dp, rfl⟩

theorem open_hdr {r : Reach} {b0 : Nat} {v : Value} {d : DataW H} {ps : List MemPlace} (hval : Value.okWide Tryz.prog w r b0 40 v) (hd : DataW.Trod enc Tryz.prog w base spare held 40 v d ps) :
    ∃ i o p sh sl dh dl sp dp : Int, v = .agg (hdA i o p sh sl dh dl sp dp) := by
  obtain ⟨cs, rfl, hs⟩ := okWide_struct Tryz.underlying40 hval
  obtain ⟨fuel, hf⟩ := hd
  obtain ⟨i, o, p, sh, sl, dh, dl, sp, dp, e⟩ := open_c_hdr (cs := cs.toList) (by simpa [Value.cells] using hf)
  exact ⟨i, o, p, sh, sl, dh, dl, sp, dp, by rw [Array.toList_inj.1 e]⟩
end
end Go.Proofs.YtmnnjkdmnfadhaaGreatDoor

namespace Go.Proofs.YtmnnjkdmnfadhaaGreatDoor
open Go.ChangeShapes Go.WideShapes Go.ChangeAt Go.RowKit
set_option linter.unusedVariables false
set_option maxRecDepth 100000

theorem cen_any_lifted (os : Os) (started : os.Started) (H : Type) (enc : TypeId × Value → H) :
    ReturnsInHanded {} Tryz.checked os 4 .any (fun w args => (Rows.compileEntriesSpec.pre enc Tryz.prog Tryz.f4 [] false w args ∧ laidMetH Tryz.prog Rows.compileEntriesRow.laid w) ∧ sizedMet enc Tryz.prog Tryz.f4 (OpenSpec.ofChange Rows.compileEntriesSpec) false w args) (Rows.compileEntriesSpec.post enc Tryz.prog Tryz.f4 false true false false) := by
  refine ret_laid (C := Tryz.checked) (X := fun w _ => laidMetH Tryz.prog Rows.compileEntriesRow.laid w) (fun _ _ _ hh h => h.of_heap hh) own started (by kernel_rfl) Tryz.func4
    (ChangeSpec.witness_shaped (enc := enc) (C := Tryz.checked) (os := os) (X := fun w _ => laidMetH Tryz.prog Rows.compileEntriesRow.laid w) false (World.laidAll Tryz.prog os Rows.compileEntriesRow.laid) #[.agg #[.slice none 0 0, .slice none 0 0, .slice none 0 0, .slice none 0 0, .slice none 0 0, .slice none 0 0, .slice none 0 0, .int .i64 0], .agg #[.int .i64 0, .int .i64 0, .int .i64 0, .int .u64 0, .int .u64 0, .int .u64 0, .int .u64 0, .int .i64 0, .int .i64 0]] 8 (World.laidAll_os _ _ _)
      (World.shaped_of_ZipB (by kernel_rfl) (by kernel_rfl)) (by kernel_rfl) (by kernel_rfl) (by kernel_rfl)
      (by rw [MakeChecks.laidMetH_plain _ _ _ (by kernel_rfl)]; exact laidMet_laidAll _ (by kernel_rfl) (by kernel_rfl))) ?_
  intro W base args ds gs before hval0 hW hL hsh
  have hG : Glob W := glob_of hL
  have hval : ∀ (j : Nat) t v, Tryz.f4.params[j]? = some t → args[j]? = some v → Value.okWide Tryz.prog W .any base t v := hval0
  have hW' := hW
  obtain ⟨p, q, hA0, hV, rfl, hfz, hnd⟩ := hW
  have hA : DataW.TrodAll enc Tryz.prog W 0 (fun _ => true) true Tryz.f4.params.toList args.toList ds p := hA0
  rw [Tryz.params4] at hA hval
  obtain ⟨v0, v1, d0, d1, p0, p1, rfl, rfl, rfl, h0, h1⟩ := trodAll_two hA
  obtain ⟨rfl, rfl⟩ := trodVars_none hV
  have k0 := h0
  have lt0 : ∀ x ∈ p0, x.block < W.heap.size := by obtain ⟨m, hm⟩ := k0; exact DataW.trod_lt m _ _ _ hm
  obtain ⟨c0, rfl, ok0, gd0⟩ := open_cfg (hval 0 30 v0 rfl rfl) h0
  have k1 := h1
  have lt1 : ∀ x ∈ p1, x.block < W.heap.size := by obtain ⟨m, hm⟩ := k1; exact DataW.trod_lt m _ _ _ hm
  obtain ⟨i1, o1, pp1, sh1, sl1, dh1, dl1, sp1, dp1, rfl⟩ := open_hdr (hval 1 40 v1 rfl rfl) h1
  clear hA0 hval0
  refine (cen_any c0 i1 o1 pp1 sh1 sl1 dh1 dl1 sp1 dp1 ok0 gd0 hG).mono fun e W' ⟨he, bel⟩ => ?_
  subst he
  exact ⟨_, rfl, _, _, _, [], _, [], hW', trodAll_mk1 (shut_bool Tryz.underlying4 _), (trodAll_mk2 (Below.trod laidOut (by kernel_rfl) (of_decide_eq_true (by kernel_rfl)) k0 bel lt0) (Below.trod laidOut (by kernel_rfl) (of_decide_eq_true (by kernel_rfl)) k1 bel lt1)), rfl, bel.frame _, fun h => by cases h⟩

theorem cen_holds : Rows.CompileEntriesSaid :=
  OpenClaim.holds_of_wide 4 Tryz.f4 rfl rfl rfl rfl rfl rfl rfl ⟨rfl, rfl, rfl, rfl, rfl⟩ rfl rfl rfl rfl rfl (by kernel_rfl) Tryz.func4 (by kernel_rfl)
    (of_decide_eq_true (by kernel_rfl)) (by unfold Func.isWrapper; first | (rw [if_pos (by decide +kernel)]; kernel_rfl) | (rw [if_neg (by decide +kernel)]; exact ⟨rfl, rfl⟩))
    (fun os started H enc _ => cen_any_lifted os started H enc)

theorem cen_holds_card : Rows.CompileEntriesCardSaid :=
  Claim7.holds_tied_plain_at .later [] [.data, .data, .data] true Rows.compileEntriesCard.stood.harness false
    cen_holds (fun _ h => by cases h) (by kernel_rfl) (fun _ h => by cases h) compileEntries_row_tie rfl ⟨rfl, rfl⟩ (by kernel_rfl) rfl
    (fun f fn hf hfn => by
      obtain rfl : f = 4 := Option.some.inj ((show Tryz.prog.funcNamed "sallyport/sallyportlaw10.CompileEntries" = some 4 by kernel_rfl).symm.trans hf) |>.symm
      obtain rfl : fn = Tryz.f4 := (Option.some.inj (Tryz.func4.symm.trans hfn)).symm
      exact ⟨by kernel_rfl, fun j t ht => by
        rw [Tryz.params4] at ht
        have hm : t ∈ [30, 40] := by simpa using Array.mem_of_getElem? ht
        have hall : ([30, 40].all fun u => !Tryz.prog.wantsStandIn u) = true := by kernel_rfl
        exact (show Tryz.prog.wantsStandIn t = false by simpa using List.all_eq_true.1 hall t hm)⟩)
    (by kernel_rfl)
end Go.Proofs.YtmnnjkdmnfadhaaGreatDoor
