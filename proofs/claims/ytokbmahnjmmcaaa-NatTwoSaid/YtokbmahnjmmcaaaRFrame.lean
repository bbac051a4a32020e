/- The frames of the rules' rows: configurations, keys, headers are opened; by-name template (gen_rframe.py). -/
import Derived.Test.YtokbmahnjmmcaaaRBase
import Derived.ProofKit
import Derived.OpenShut
import Derived.ShutString
import Derived.ChangeOld
import Derived.Carry
import Derived.SizedLaws
import Derived.WideShapes
import Derived.Deep.Slices
import Derived.Deep.Strs
namespace Go.Proofs.Ytokbmahnjmmcaaa
open Go.ChangeShapes Go.WideShapes Go.ChangeAt Go.RowKit
set_option maxRecDepth 100000
set_option linter.unusedVariables false
set_option linter.unusedSimpArgs false

theorem own : ownKnob Try.prog.godebug = none := by kernel_rfl
theorem laidOut : laidOutB Try.prog = true := by kernel_rfl
theorem word_of_wf {x : Int} (h : (Lit.int .u64 x).wf = true) : Word x := by
  simp [Lit.wf, IntKind.min, IntKind.max, IntKind.signed, IntKind.bits] at h
  exact ⟨by omega, by omega⟩
theorem i64_of_wf {x : Int} (h : (Lit.int .i64 x).wf = true) : -9223372036854775808 ≤ x ∧ x < 9223372036854775808 := by
  simp [Lit.wf, IntKind.min, IntKind.max, IntKind.signed, IntKind.bits] at h
  exact ⟨by omega, by omega⟩
theorem fc_uint64 : Try.prog.cellsOf 31 = 1 := by kernel_rfl
theorem fc_int : Try.prog.cellsOf 3 = 1 := by kernel_rfl
theorem fc_string : Try.prog.cellsOf 9 = 1 := by kernel_rfl
theorem fc_bool : Try.prog.cellsOf 4 = 1 := by kernel_rfl
theorem fc_sint : Try.prog.cellsOf 45 = 1 := by kernel_rfl
theorem fc_sapi_Range : Try.prog.cellsOf 67 = 1 := by kernel_rfl
theorem fc_sapi_Zone : Try.prog.cellsOf 22 = 1 := by kernel_rfl
theorem fc_sapi_Object : Try.prog.cellsOf 23 = 1 := by kernel_rfl
theorem fc_sapi_Service : Try.prog.cellsOf 24 = 1 := by kernel_rfl
theorem fc_sapi_Limit : Try.prog.cellsOf 25 = 1 := by kernel_rfl
theorem fc_sapi_Route : Try.prog.cellsOf 26 = 1 := by kernel_rfl
theorem fc_sapi_Nat : Try.prog.cellsOf 27 = 1 := by kernel_rfl
theorem fc_sapi_Rule : Try.prog.cellsOf 28 = 1 := by kernel_rfl
theorem fc_api_Addr : Try.prog.cellsOf 33 = 2 := by kernel_rfl
theorem fc_api_Range : Try.prog.cellsOf 51 = 4 := by kernel_rfl
theorem fc_api_Zone : Try.prog.cellsOf 47 = 4 := by kernel_rfl
theorem fc_api_Object : Try.prog.cellsOf 69 = 2 := by kernel_rfl
theorem fc_api_Service : Try.prog.cellsOf 99 = 4 := by kernel_rfl
theorem fc_api_Limit : Try.prog.cellsOf 131 = 4 := by kernel_rfl
theorem fc_api_Route : Try.prog.cellsOf 53 = 6 := by kernel_rfl
theorem fc_api_Nat : Try.prog.cellsOf 49 = 10 := by kernel_rfl
theorem fc_api_Rule : Try.prog.cellsOf 133 = 8 := by kernel_rfl
theorem fc_api_Key : Try.prog.cellsOf 35 = 7 := by kernel_rfl
theorem fc_cfg : Try.prog.cellsOf 30 = 8 := by kernel_rfl

section
variable {H : Type} {enc : TypeId × Value → H} {w : World} {base : Nat} {spare : Nat → Bool} {held : Bool}
/-- What the data of a list says of its length. -/
def LenOf (d : DataW H) (n : Nat) : Prop := n = 0 ∨ ∃ elems spare, d = .slice elems spare ∧ elems.length = n

theorem open_f_u64 {fuel : Nat} {c0 : Value} {x : DataW H × List MemPlace} (h : DataW.trod enc Try.prog w base spare held fuel 31 [c0] = some x) : ∃ a : Int, c0 = .int .u64 a ∧ Word a := by
  obtain ⟨k, e0, _, w0⟩ := DataW.trod_int Try.underlying31 h
  simp only [List.cons.injEq, and_true] at e0
  exact ⟨k, e0, word_of_wf w0⟩
theorem open_f_i64 {fuel : Nat} {c0 : Value} {x : DataW H × List MemPlace} (h : DataW.trod enc Try.prog w base spare held fuel 3 [c0] = some x) : ∃ a : Int, c0 = .int .i64 a ∧ -9223372036854775808 ≤ a ∧ a < 9223372036854775808 := by
  obtain ⟨k, e0, _, w0⟩ := DataW.trod_int Try.underlying3 h
  simp only [List.cons.injEq, and_true] at e0
  exact ⟨k, e0, i64_of_wf w0⟩
theorem open_f_str {fuel : Nat} {c0 : Value} {x : DataW H × List MemPlace} (h : DataW.trod enc Try.prog w base spare held fuel 9 [c0] = some x) : ∃ a : ByteArray, c0 = .string a ∧ a.size ≤ maxLen := by
  obtain ⟨k, e0, _, w0⟩ := DataW.trod_string Try.underlying9 h
  simp only [List.cons.injEq, and_true] at e0
  exact ⟨k, e0, w0⟩
theorem open_f_bool {fuel : Nat} {c0 : Value} {x : DataW H × List MemPlace} (h : DataW.trod enc Try.prog w base spare held fuel 4 [c0] = some x) : ∃ a : Bool, c0 = .bool a := by
  obtain ⟨b, e0, _⟩ := DataW.trod_bool Try.underlying4 h
  simp only [List.cons.injEq, and_true] at e0
  exact ⟨b, e0⟩

/-- A slice of rows is opened. -/
theorem open_sl {α : Type} (S E : TypeId) (k : Nat) (hu : Try.prog.underlying S = some (.slice E)) (hk : Try.prog.cellsOf E = k) (hkp : 0 < k) (en : α → List Value) (good : α → Prop)
    (opn : ∀ (fuel : Nat) (cs : List Value) (x : DataW H × List MemPlace), DataW.trod enc Try.prog w base spare held fuel E cs = some x → ∃ a : α, cs = en a ∧ good a)
    {fuel : Nat} {c0 : Value} {x : DataW H × List MemPlace} (h : DataW.trod enc Try.prog w base spare held fuel S [c0] = some x) :
    ∃ (A : Option Addr) (len cap : Nat) (L : List α), c0 = .slice A len cap ∧ Sl w k en A len L ∧ (∀ a ∈ L, good a) ∧ LenOf x.1 len ∧ (A = none → cap = 0) := by
  rcases Go.Deep.open_slice hu h with ⟨hcs, hx0⟩ | ⟨p, len', cap', m, n, D, Pl, hcs, hb, hl, hm, hmm, hx, hi⟩
  · simp only [List.cons.injEq, and_true] at hcs
    exact ⟨none, 0, 0, [], hcs, ⟨rfl, by omega, fun h => absurd h (Nat.lt_irrefl _)⟩, fun a ha => by simp at ha, .inl rfl, fun _ => rfl⟩
  · simp only [List.cons.injEq, and_true] at hcs
    have hlm : len' ≤ m := by rw [hmm]; split <;> omega
    rw [hk] at hi
    have hone : ∀ i, i < len' → ∃ a : α, good a ∧ ∃ b off, p = ⟨b, off, none⟩ ∧ b < w.heap.size ∧ ∀ j v, (en a)[j]? = some v → w.cell? ⟨b, off + i * k + j, none⟩ = some v := by
      intro i hil
      obtain ⟨cs', hc, ht⟩ := hi i (by omega)
      obtain ⟨a, rfl, hg⟩ := opn _ _ _ ht
      obtain ⟨_, hlc, hat⟩ := World.cells?_some hc
      obtain ⟨b, off, spot⟩ := p
      have hsp : spot = none := by
        obtain ⟨cs0, hc0, _⟩ := hi 0 (by omega)
        obtain ⟨_, hl0, hat0⟩ := World.cells?_some hc0
        have := World.cell?_spot ((hat0 0 (by omega)).trans (List.getElem?_eq_getElem (by omega)))
        simpa [Addr.add] using this
      subst hsp
      have hadd : ∀ j, (⟨b, off, none⟩ : Addr).add j = ⟨b, off + j, none⟩ := by intro j; unfold Addr.add; split <;> simp_all
      have hcell : ∀ j v, (en a)[j]? = some v → w.cell? ⟨b, off + i * k + j, none⟩ = some v := by
        intro j v hv
        have hj : j < k := by rw [← hlc]; exact (List.getElem?_eq_some_iff.1 hv).1
        have e0 : w.cell? (Addr.add ⟨b, off, none⟩ (i * k + j)) = some v := by
          rw [← Go.Deep.add_add, hat j hj, hv]
        rw [hadd] at e0
        rw [← e0]; congr 2; omega
      have hlt : b < w.heap.size := by
        have : ∃ v, (en a)[0]? = some v := ⟨_, List.getElem?_eq_getElem (by rw [hlc]; exact hkp)⟩
        obtain ⟨v, hv⟩ := this
        exact World.block_lt_of_cell? _ _ (hcell 0 v hv)
      exact ⟨a, hg, b, off, rfl, hlt, hcell⟩
    by_cases h0 : len' = 0
    · subst h0
      exact ⟨some p, 0, cap', [], hcs, ⟨rfl, by omega, fun h => absurd h (Nat.lt_irrefl _)⟩, fun a ha => by simp at ha, .inl rfl, fun h => by cases h⟩
    · obtain ⟨a0, _, b, off, hp, hlt, _⟩ := hone 0 (by omega)
      have ha : ∀ i, ∃ a : α, i < len' → good a ∧ ∀ j v, (en a)[j]? = some v → w.cell? ⟨b, off + i * k + j, none⟩ = some v := by
        intro i
        by_cases hil : i < len'
        · obtain ⟨a, hg, b', off', hp', _, hc⟩ := hone i hil
          rw [hp] at hp'
          cases hp'
          exact ⟨a, fun _ => ⟨hg, hc⟩⟩
        · exact ⟨a0, fun h => absurd h hil⟩
      refine ⟨some p, len', cap', (List.range len').map fun i => Classical.choose (ha i), hcs, ⟨by simp, by unfold maxLen at hm; omega, fun _ => ⟨b, off, by rw [hp], hlt, fun j x hj => ?_⟩⟩, fun a hmem => ?_, .inr ⟨_, _, by rw [hx], by simp⟩, fun h => by cases h⟩
      · simp only [List.getElem?_map, Option.map_eq_some_iff] at hj
        obtain ⟨i', hi', rfl⟩ := hj
        have hjl : j < len' := by
          have := (List.getElem?_eq_some_iff.1 hi').1
          simpa using this
        have e : i' = j := by
          rw [List.getElem?_range hjl] at hi'
          simpa using hi'.symm
        subst e
        exact (Classical.choose_spec (ha i') hjl).2
      · obtain ⟨i, hi', rfl⟩ := List.mem_map.1 hmem
        exact (Classical.choose_spec (ha i) (List.mem_range.1 hi')).1
theorem open_f_ints {fuel : Nat} {c0 : Value} {x : DataW H × List MemPlace} (h : DataW.trod enc Try.prog w base spare held fuel 45 [c0] = some x) :
    ∃ (A : Option Addr) (len cap : Nat) (L : List Int), c0 = .slice A len cap ∧ Sl w 1 (fun x : Int => [Value.int .i64 x]) A len L := by
  obtain ⟨A, len, cap, L, h1, h2, _, _, _⟩ := open_sl 45 3 1 Try.underlying45 fc_int (by omega) (fun x : Int => [Value.int .i64 x]) (fun _ => True) (fun fuel cs x h => by
    obtain ⟨k, e0, _, w0⟩ := DataW.trod_int Try.underlying3 h
    exact ⟨k, e0, trivial⟩) h
  exact ⟨A, len, cap, L, h1, h2⟩
theorem open_c_adr {fuel : Nat} {cs : List Value} {x : DataW H × List MemPlace} (h : DataW.trod enc Try.prog w base spare held fuel 33 cs = some x) :
    ∃ a b : Int, cs = [.int .u64 a, .int .u64 b] ∧ Word a ∧ Word b := by
  obtain ⟨xs, n, _, _, hl, hxl, hf⟩ := DataW.trod_struct Try.underlying33 h
  rw [fc_api_Addr] at hl
  match cs, hl with
  | [c0, c1], _ =>
    have h0 : DataW.trod enc Try.prog w base spare held n 31 [c0] = xs[0]? := by simpa [fc_uint64, fc_int, fc_string, fc_bool, fc_sint, fc_sapi_Range, fc_sapi_Zone, fc_sapi_Object, fc_sapi_Service, fc_sapi_Limit, fc_sapi_Route, fc_sapi_Nat, fc_sapi_Rule, fc_api_Addr, fc_api_Range, fc_api_Zone, fc_api_Object, fc_api_Service, fc_api_Limit, fc_api_Route, fc_api_Nat, fc_api_Rule, fc_api_Key] using hf 0 _ rfl
    have hx0 : xs[0]? = some (xs[0]'(by rw [hxl]; decide)) := List.getElem?_eq_getElem _
    have h1 : DataW.trod enc Try.prog w base spare held n 31 [c1] = xs[1]? := by simpa [fc_uint64, fc_int, fc_string, fc_bool, fc_sint, fc_sapi_Range, fc_sapi_Zone, fc_sapi_Object, fc_sapi_Service, fc_sapi_Limit, fc_sapi_Route, fc_sapi_Nat, fc_sapi_Rule, fc_api_Addr, fc_api_Range, fc_api_Zone, fc_api_Object, fc_api_Service, fc_api_Limit, fc_api_Route, fc_api_Nat, fc_api_Rule, fc_api_Key] using hf 1 _ rfl
    have hx1 : xs[1]? = some (xs[1]'(by rw [hxl]; decide)) := List.getElem?_eq_getElem _
    obtain ⟨ah, rfl, g_ah⟩ := open_f_u64 (h0.trans hx0)
    obtain ⟨al, rfl, g_al⟩ := open_f_u64 (h1.trans hx1)
    exact ⟨ah, al, rfl, g_ah, g_al⟩
theorem open_c_rng {fuel : Nat} {cs : List Value} {x : DataW H × List MemPlace} (h : DataW.trod enc Try.prog w base spare held fuel 51 cs = some x) :
    ∃ r : R4, cs = r4c r := by
  obtain ⟨xs, n, _, _, hl, hxl, hf⟩ := DataW.trod_struct Try.underlying51 h
  rw [fc_api_Range] at hl
  match cs, hl with
  | [c0, c1, c2, c3], _ =>
    have h0 : DataW.trod enc Try.prog w base spare held n 33 [c0, c1] = xs[0]? := by simpa [fc_uint64, fc_int, fc_string, fc_bool, fc_sint, fc_sapi_Range, fc_sapi_Zone, fc_sapi_Object, fc_sapi_Service, fc_sapi_Limit, fc_sapi_Route, fc_sapi_Nat, fc_sapi_Rule, fc_api_Addr, fc_api_Range, fc_api_Zone, fc_api_Object, fc_api_Service, fc_api_Limit, fc_api_Route, fc_api_Nat, fc_api_Rule, fc_api_Key] using hf 0 _ rfl
    have hx0 : xs[0]? = some (xs[0]'(by rw [hxl]; decide)) := List.getElem?_eq_getElem _
    have h1 : DataW.trod enc Try.prog w base spare held n 33 [c2, c3] = xs[1]? := by simpa [fc_uint64, fc_int, fc_string, fc_bool, fc_sint, fc_sapi_Range, fc_sapi_Zone, fc_sapi_Object, fc_sapi_Service, fc_sapi_Limit, fc_sapi_Route, fc_sapi_Nat, fc_sapi_Rule, fc_api_Addr, fc_api_Range, fc_api_Zone, fc_api_Object, fc_api_Service, fc_api_Limit, fc_api_Route, fc_api_Nat, fc_api_Rule, fc_api_Key] using hf 1 _ rfl
    have hx1 : xs[1]? = some (xs[1]'(by rw [hxl]; decide)) := List.getElem?_eq_getElem _
    obtain ⟨fh, fl, e_f, g_fh, g_fl⟩ := open_c_adr (h0.trans hx0)
    simp only [List.cons.injEq, and_true] at e_f
    obtain ⟨rfl, rfl⟩ := e_f
    obtain ⟨th, tl, e_t, g_th, g_tl⟩ := open_c_adr (h1.trans hx1)
    simp only [List.cons.injEq, and_true] at e_t
    obtain ⟨rfl, rfl⟩ := e_t
    exact ⟨⟨fh, fl, th, tl⟩, rfl⟩
theorem open_c_zone {fuel : Nat} {cs : List Value} {x : DataW H × List MemPlace} (h : DataW.trod enc Try.prog w base spare held fuel 47 cs = some x) :
    ∃ z : ZR, cs = zrc z ∧ (Sl w 1 (fun x : Int => [Value.int .i64 x]) z.ia z.il z.ifs ∧ Word z.ah ∧ Word z.al) := by
  obtain ⟨xs, n, _, _, hl, hxl, hf⟩ := DataW.trod_struct Try.underlying47 h
  rw [fc_api_Zone] at hl
  match cs, hl with
  | [c0, c1, c2, c3], _ =>
    have h0 : DataW.trod enc Try.prog w base spare held n 9 [c0] = xs[0]? := by simpa [fc_uint64, fc_int, fc_string, fc_bool, fc_sint, fc_sapi_Range, fc_sapi_Zone, fc_sapi_Object, fc_sapi_Service, fc_sapi_Limit, fc_sapi_Route, fc_sapi_Nat, fc_sapi_Rule, fc_api_Addr, fc_api_Range, fc_api_Zone, fc_api_Object, fc_api_Service, fc_api_Limit, fc_api_Route, fc_api_Nat, fc_api_Rule, fc_api_Key] using hf 0 _ rfl
    have hx0 : xs[0]? = some (xs[0]'(by rw [hxl]; decide)) := List.getElem?_eq_getElem _
    have h1 : DataW.trod enc Try.prog w base spare held n 33 [c1, c2] = xs[1]? := by simpa [fc_uint64, fc_int, fc_string, fc_bool, fc_sint, fc_sapi_Range, fc_sapi_Zone, fc_sapi_Object, fc_sapi_Service, fc_sapi_Limit, fc_sapi_Route, fc_sapi_Nat, fc_sapi_Rule, fc_api_Addr, fc_api_Range, fc_api_Zone, fc_api_Object, fc_api_Service, fc_api_Limit, fc_api_Route, fc_api_Nat, fc_api_Rule, fc_api_Key] using hf 1 _ rfl
    have hx1 : xs[1]? = some (xs[1]'(by rw [hxl]; decide)) := List.getElem?_eq_getElem _
    have h2 : DataW.trod enc Try.prog w base spare held n 45 [c3] = xs[2]? := by simpa [fc_uint64, fc_int, fc_string, fc_bool, fc_sint, fc_sapi_Range, fc_sapi_Zone, fc_sapi_Object, fc_sapi_Service, fc_sapi_Limit, fc_sapi_Route, fc_sapi_Nat, fc_sapi_Rule, fc_api_Addr, fc_api_Range, fc_api_Zone, fc_api_Object, fc_api_Service, fc_api_Limit, fc_api_Route, fc_api_Nat, fc_api_Rule, fc_api_Key] using hf 2 _ rfl
    have hx2 : xs[2]? = some (xs[2]'(by rw [hxl]; decide)) := List.getElem?_eq_getElem _
    obtain ⟨nm, rfl, g_nm⟩ := open_f_str (h0.trans hx0)
    obtain ⟨ah, al, e_a, g_ah, g_al⟩ := open_c_adr (h1.trans hx1)
    simp only [List.cons.injEq, and_true] at e_a
    obtain ⟨rfl, rfl⟩ := e_a
    obtain ⟨ia, il, ic, ifs, rfl, hS⟩ := open_f_ints (h2.trans hx2)
    exact ⟨⟨nm, ah, al, ia, il, ic, ifs⟩, rfl, hS, g_ah, g_al⟩
theorem open_f_rngs {fuel : Nat} {c0 : Value} {x : DataW H × List MemPlace} (h : DataW.trod enc Try.prog w base spare held fuel 67 [c0] = some x) :
    ∃ (A : Option Addr) (len cap : Nat) (L : List R4), c0 = .slice A len cap ∧ Sl w 4 r4c A len L := by
  obtain ⟨A, len, cap, L, h1, h2, _, _, _⟩ := open_sl 67 51 4 Try.underlying67 fc_api_Range (by omega) r4c (fun _ => True) (fun fuel cs x h => by
    obtain ⟨r, e⟩ := open_c_rng h
    exact ⟨r, e, trivial⟩) h
  exact ⟨A, len, cap, L, h1, h2⟩
theorem open_c_object {fuel : Nat} {cs : List Value} {x : DataW H × List MemPlace} (h : DataW.trod enc Try.prog w base spare held fuel 69 cs = some x) :
    ∃ z : OR, cs = orc z ∧ Sl w 4 r4c z.ra z.rl z.rs := by
  obtain ⟨xs, n, _, _, hl, hxl, hf⟩ := DataW.trod_struct Try.underlying69 h
  rw [fc_api_Object] at hl
  match cs, hl with
  | [c0, c1], _ =>
    have h0 : DataW.trod enc Try.prog w base spare held n 9 [c0] = xs[0]? := by simpa [fc_uint64, fc_int, fc_string, fc_bool, fc_sint, fc_sapi_Range, fc_sapi_Zone, fc_sapi_Object, fc_sapi_Service, fc_sapi_Limit, fc_sapi_Route, fc_sapi_Nat, fc_sapi_Rule, fc_api_Addr, fc_api_Range, fc_api_Zone, fc_api_Object, fc_api_Service, fc_api_Limit, fc_api_Route, fc_api_Nat, fc_api_Rule, fc_api_Key] using hf 0 _ rfl
    have hx0 : xs[0]? = some (xs[0]'(by rw [hxl]; decide)) := List.getElem?_eq_getElem _
    have h1 : DataW.trod enc Try.prog w base spare held n 67 [c1] = xs[1]? := by simpa [fc_uint64, fc_int, fc_string, fc_bool, fc_sint, fc_sapi_Range, fc_sapi_Zone, fc_sapi_Object, fc_sapi_Service, fc_sapi_Limit, fc_sapi_Route, fc_sapi_Nat, fc_sapi_Rule, fc_api_Addr, fc_api_Range, fc_api_Zone, fc_api_Object, fc_api_Service, fc_api_Limit, fc_api_Route, fc_api_Nat, fc_api_Rule, fc_api_Key] using hf 1 _ rfl
    have hx1 : xs[1]? = some (xs[1]'(by rw [hxl]; decide)) := List.getElem?_eq_getElem _
    obtain ⟨nm, rfl, g_nm⟩ := open_f_str (h0.trans hx0)
    obtain ⟨ra, rl, rc, rs, rfl, hS⟩ := open_f_rngs (h1.trans hx1)
    exact ⟨⟨nm, ra, rl, rc, rs⟩, rfl, hS⟩
theorem open_c_service {fuel : Nat} {cs : List Value} {x : DataW H × List MemPlace} (h : DataW.trod enc Try.prog w base spare held fuel 99 cs = some x) :
    ∃ z : SR, cs = src z ∧ True := by
  obtain ⟨xs, n, _, _, hl, hxl, hf⟩ := DataW.trod_struct Try.underlying99 h
  rw [fc_api_Service] at hl
  match cs, hl with
  | [c0, c1, c2, c3], _ =>
    have h0 : DataW.trod enc Try.prog w base spare held n 9 [c0] = xs[0]? := by simpa [fc_uint64, fc_int, fc_string, fc_bool, fc_sint, fc_sapi_Range, fc_sapi_Zone, fc_sapi_Object, fc_sapi_Service, fc_sapi_Limit, fc_sapi_Route, fc_sapi_Nat, fc_sapi_Rule, fc_api_Addr, fc_api_Range, fc_api_Zone, fc_api_Object, fc_api_Service, fc_api_Limit, fc_api_Route, fc_api_Nat, fc_api_Rule, fc_api_Key] using hf 0 _ rfl
    have hx0 : xs[0]? = some (xs[0]'(by rw [hxl]; decide)) := List.getElem?_eq_getElem _
    have h1 : DataW.trod enc Try.prog w base spare held n 3 [c1] = xs[1]? := by simpa [fc_uint64, fc_int, fc_string, fc_bool, fc_sint, fc_sapi_Range, fc_sapi_Zone, fc_sapi_Object, fc_sapi_Service, fc_sapi_Limit, fc_sapi_Route, fc_sapi_Nat, fc_sapi_Rule, fc_api_Addr, fc_api_Range, fc_api_Zone, fc_api_Object, fc_api_Service, fc_api_Limit, fc_api_Route, fc_api_Nat, fc_api_Rule, fc_api_Key] using hf 1 _ rfl
    have hx1 : xs[1]? = some (xs[1]'(by rw [hxl]; decide)) := List.getElem?_eq_getElem _
    have h2 : DataW.trod enc Try.prog w base spare held n 3 [c2] = xs[2]? := by simpa [fc_uint64, fc_int, fc_string, fc_bool, fc_sint, fc_sapi_Range, fc_sapi_Zone, fc_sapi_Object, fc_sapi_Service, fc_sapi_Limit, fc_sapi_Route, fc_sapi_Nat, fc_sapi_Rule, fc_api_Addr, fc_api_Range, fc_api_Zone, fc_api_Object, fc_api_Service, fc_api_Limit, fc_api_Route, fc_api_Nat, fc_api_Rule, fc_api_Key] using hf 2 _ rfl
    have hx2 : xs[2]? = some (xs[2]'(by rw [hxl]; decide)) := List.getElem?_eq_getElem _
    have h3 : DataW.trod enc Try.prog w base spare held n 3 [c3] = xs[3]? := by simpa [fc_uint64, fc_int, fc_string, fc_bool, fc_sint, fc_sapi_Range, fc_sapi_Zone, fc_sapi_Object, fc_sapi_Service, fc_sapi_Limit, fc_sapi_Route, fc_sapi_Nat, fc_sapi_Rule, fc_api_Addr, fc_api_Range, fc_api_Zone, fc_api_Object, fc_api_Service, fc_api_Limit, fc_api_Route, fc_api_Nat, fc_api_Rule, fc_api_Key] using hf 3 _ rfl
    have hx3 : xs[3]? = some (xs[3]'(by rw [hxl]; decide)) := List.getElem?_eq_getElem _
    obtain ⟨nm, rfl, g_nm⟩ := open_f_str (h0.trans hx0)
    obtain ⟨p, rfl, g_p⟩ := open_f_i64 (h1.trans hx1)
    obtain ⟨f, rfl, g_f⟩ := open_f_i64 (h2.trans hx2)
    obtain ⟨t, rfl, g_t⟩ := open_f_i64 (h3.trans hx3)
    exact ⟨⟨nm, p, f, t⟩, rfl, trivial⟩
theorem open_c_limit {fuel : Nat} {cs : List Value} {x : DataW H × List MemPlace} (h : DataW.trod enc Try.prog w base spare held fuel 131 cs = some x) :
    ∃ z : LR, cs = lrc z ∧ True := by
  obtain ⟨xs, n, _, _, hl, hxl, hf⟩ := DataW.trod_struct Try.underlying131 h
  rw [fc_api_Limit] at hl
  match cs, hl with
  | [c0, c1, c2, c3], _ =>
    have h0 : DataW.trod enc Try.prog w base spare held n 9 [c0] = xs[0]? := by simpa [fc_uint64, fc_int, fc_string, fc_bool, fc_sint, fc_sapi_Range, fc_sapi_Zone, fc_sapi_Object, fc_sapi_Service, fc_sapi_Limit, fc_sapi_Route, fc_sapi_Nat, fc_sapi_Rule, fc_api_Addr, fc_api_Range, fc_api_Zone, fc_api_Object, fc_api_Service, fc_api_Limit, fc_api_Route, fc_api_Nat, fc_api_Rule, fc_api_Key] using hf 0 _ rfl
    have hx0 : xs[0]? = some (xs[0]'(by rw [hxl]; decide)) := List.getElem?_eq_getElem _
    have h1 : DataW.trod enc Try.prog w base spare held n 3 [c1] = xs[1]? := by simpa [fc_uint64, fc_int, fc_string, fc_bool, fc_sint, fc_sapi_Range, fc_sapi_Zone, fc_sapi_Object, fc_sapi_Service, fc_sapi_Limit, fc_sapi_Route, fc_sapi_Nat, fc_sapi_Rule, fc_api_Addr, fc_api_Range, fc_api_Zone, fc_api_Object, fc_api_Service, fc_api_Limit, fc_api_Route, fc_api_Nat, fc_api_Rule, fc_api_Key] using hf 1 _ rfl
    have hx1 : xs[1]? = some (xs[1]'(by rw [hxl]; decide)) := List.getElem?_eq_getElem _
    have h2 : DataW.trod enc Try.prog w base spare held n 3 [c2] = xs[2]? := by simpa [fc_uint64, fc_int, fc_string, fc_bool, fc_sint, fc_sapi_Range, fc_sapi_Zone, fc_sapi_Object, fc_sapi_Service, fc_sapi_Limit, fc_sapi_Route, fc_sapi_Nat, fc_sapi_Rule, fc_api_Addr, fc_api_Range, fc_api_Zone, fc_api_Object, fc_api_Service, fc_api_Limit, fc_api_Route, fc_api_Nat, fc_api_Rule, fc_api_Key] using hf 2 _ rfl
    have hx2 : xs[2]? = some (xs[2]'(by rw [hxl]; decide)) := List.getElem?_eq_getElem _
    have h3 : DataW.trod enc Try.prog w base spare held n 4 [c3] = xs[3]? := by simpa [fc_uint64, fc_int, fc_string, fc_bool, fc_sint, fc_sapi_Range, fc_sapi_Zone, fc_sapi_Object, fc_sapi_Service, fc_sapi_Limit, fc_sapi_Route, fc_sapi_Nat, fc_sapi_Rule, fc_api_Addr, fc_api_Range, fc_api_Zone, fc_api_Object, fc_api_Service, fc_api_Limit, fc_api_Route, fc_api_Nat, fc_api_Rule, fc_api_Key] using hf 3 _ rfl
    have hx3 : xs[3]? = some (xs[3]'(by rw [hxl]; decide)) := List.getElem?_eq_getElem _
    obtain ⟨nm, rfl, g_nm⟩ := open_f_str (h0.trans hx0)
    obtain ⟨r, rfl, g_r⟩ := open_f_i64 (h1.trans hx1)
    obtain ⟨b, rfl, g_b⟩ := open_f_i64 (h2.trans hx2)
    obtain ⟨s, rfl⟩ := open_f_bool (h3.trans hx3)
    exact ⟨⟨nm, r, b, s⟩, rfl, trivial⟩
theorem open_c_route {fuel : Nat} {cs : List Value} {x : DataW H × List MemPlace} (h : DataW.trod enc Try.prog w base spare held fuel 53 cs = some x) :
    ∃ z : TR, cs = trc z ∧ True := by
  obtain ⟨xs, n, _, _, hl, hxl, hf⟩ := DataW.trod_struct Try.underlying53 h
  rw [fc_api_Route] at hl
  match cs, hl with
  | [c0, c1, c2, c3, c4, c5], _ =>
    have h0 : DataW.trod enc Try.prog w base spare held n 51 [c0, c1, c2, c3] = xs[0]? := by simpa [fc_uint64, fc_int, fc_string, fc_bool, fc_sint, fc_sapi_Range, fc_sapi_Zone, fc_sapi_Object, fc_sapi_Service, fc_sapi_Limit, fc_sapi_Route, fc_sapi_Nat, fc_sapi_Rule, fc_api_Addr, fc_api_Range, fc_api_Zone, fc_api_Object, fc_api_Service, fc_api_Limit, fc_api_Route, fc_api_Nat, fc_api_Rule, fc_api_Key] using hf 0 _ rfl
    have hx0 : xs[0]? = some (xs[0]'(by rw [hxl]; decide)) := List.getElem?_eq_getElem _
    have h1 : DataW.trod enc Try.prog w base spare held n 3 [c4] = xs[1]? := by simpa [fc_uint64, fc_int, fc_string, fc_bool, fc_sint, fc_sapi_Range, fc_sapi_Zone, fc_sapi_Object, fc_sapi_Service, fc_sapi_Limit, fc_sapi_Route, fc_sapi_Nat, fc_sapi_Rule, fc_api_Addr, fc_api_Range, fc_api_Zone, fc_api_Object, fc_api_Service, fc_api_Limit, fc_api_Route, fc_api_Nat, fc_api_Rule, fc_api_Key] using hf 1 _ rfl
    have hx1 : xs[1]? = some (xs[1]'(by rw [hxl]; decide)) := List.getElem?_eq_getElem _
    have h2 : DataW.trod enc Try.prog w base spare held n 3 [c5] = xs[2]? := by simpa [fc_uint64, fc_int, fc_string, fc_bool, fc_sint, fc_sapi_Range, fc_sapi_Zone, fc_sapi_Object, fc_sapi_Service, fc_sapi_Limit, fc_sapi_Route, fc_sapi_Nat, fc_sapi_Rule, fc_api_Addr, fc_api_Range, fc_api_Zone, fc_api_Object, fc_api_Service, fc_api_Limit, fc_api_Route, fc_api_Nat, fc_api_Rule, fc_api_Key] using hf 2 _ rfl
    have hx2 : xs[2]? = some (xs[2]'(by rw [hxl]; decide)) := List.getElem?_eq_getElem _
    obtain ⟨r, e_r⟩ := open_c_rng (h0.trans hx0)
    simp only [r4c, List.cons.injEq, and_true] at e_r
    obtain ⟨rfl, rfl, rfl, rfl⟩ := e_r
    obtain ⟨b, rfl, g_b⟩ := open_f_i64 (h1.trans hx1)
    obtain ⟨i, rfl, g_i⟩ := open_f_i64 (h2.trans hx2)
    exact ⟨⟨r, b, i⟩, rfl, trivial⟩
theorem open_c_nat {fuel : Nat} {cs : List Value} {x : DataW H × List MemPlace} (h : DataW.trod enc Try.prog w base spare held fuel 49 cs = some x) :
    ∃ z : NR, cs = nrc z ∧ ((Word z.oh ∧ Word z.ol) ∧ (Word z.ih ∧ Word z.il) ∧ i64ok z.frm ∧ i64ok z.til) := by
  obtain ⟨xs, n, _, _, hl, hxl, hf⟩ := DataW.trod_struct Try.underlying49 h
  rw [fc_api_Nat] at hl
  match cs, hl with
  | [c0, c1, c2, c3, c4, c5, c6, c7, c8, c9], _ =>
    have h0 : DataW.trod enc Try.prog w base spare held n 3 [c0] = xs[0]? := by simpa [fc_uint64, fc_int, fc_string, fc_bool, fc_sint, fc_sapi_Range, fc_sapi_Zone, fc_sapi_Object, fc_sapi_Service, fc_sapi_Limit, fc_sapi_Route, fc_sapi_Nat, fc_sapi_Rule, fc_api_Addr, fc_api_Range, fc_api_Zone, fc_api_Object, fc_api_Service, fc_api_Limit, fc_api_Route, fc_api_Nat, fc_api_Rule, fc_api_Key] using hf 0 _ rfl
    have hx0 : xs[0]? = some (xs[0]'(by rw [hxl]; decide)) := List.getElem?_eq_getElem _
    have h1 : DataW.trod enc Try.prog w base spare held n 9 [c1] = xs[1]? := by simpa [fc_uint64, fc_int, fc_string, fc_bool, fc_sint, fc_sapi_Range, fc_sapi_Zone, fc_sapi_Object, fc_sapi_Service, fc_sapi_Limit, fc_sapi_Route, fc_sapi_Nat, fc_sapi_Rule, fc_api_Addr, fc_api_Range, fc_api_Zone, fc_api_Object, fc_api_Service, fc_api_Limit, fc_api_Route, fc_api_Nat, fc_api_Rule, fc_api_Key] using hf 1 _ rfl
    have hx1 : xs[1]? = some (xs[1]'(by rw [hxl]; decide)) := List.getElem?_eq_getElem _
    have h2 : DataW.trod enc Try.prog w base spare held n 9 [c2] = xs[2]? := by simpa [fc_uint64, fc_int, fc_string, fc_bool, fc_sint, fc_sapi_Range, fc_sapi_Zone, fc_sapi_Object, fc_sapi_Service, fc_sapi_Limit, fc_sapi_Route, fc_sapi_Nat, fc_sapi_Rule, fc_api_Addr, fc_api_Range, fc_api_Zone, fc_api_Object, fc_api_Service, fc_api_Limit, fc_api_Route, fc_api_Nat, fc_api_Rule, fc_api_Key] using hf 2 _ rfl
    have hx2 : xs[2]? = some (xs[2]'(by rw [hxl]; decide)) := List.getElem?_eq_getElem _
    have h3 : DataW.trod enc Try.prog w base spare held n 9 [c3] = xs[3]? := by simpa [fc_uint64, fc_int, fc_string, fc_bool, fc_sint, fc_sapi_Range, fc_sapi_Zone, fc_sapi_Object, fc_sapi_Service, fc_sapi_Limit, fc_sapi_Route, fc_sapi_Nat, fc_sapi_Rule, fc_api_Addr, fc_api_Range, fc_api_Zone, fc_api_Object, fc_api_Service, fc_api_Limit, fc_api_Route, fc_api_Nat, fc_api_Rule, fc_api_Key] using hf 3 _ rfl
    have hx3 : xs[3]? = some (xs[3]'(by rw [hxl]; decide)) := List.getElem?_eq_getElem _
    have h4 : DataW.trod enc Try.prog w base spare held n 33 [c4, c5] = xs[4]? := by simpa [fc_uint64, fc_int, fc_string, fc_bool, fc_sint, fc_sapi_Range, fc_sapi_Zone, fc_sapi_Object, fc_sapi_Service, fc_sapi_Limit, fc_sapi_Route, fc_sapi_Nat, fc_sapi_Rule, fc_api_Addr, fc_api_Range, fc_api_Zone, fc_api_Object, fc_api_Service, fc_api_Limit, fc_api_Route, fc_api_Nat, fc_api_Rule, fc_api_Key] using hf 4 _ rfl
    have hx4 : xs[4]? = some (xs[4]'(by rw [hxl]; decide)) := List.getElem?_eq_getElem _
    have h5 : DataW.trod enc Try.prog w base spare held n 33 [c6, c7] = xs[5]? := by simpa [fc_uint64, fc_int, fc_string, fc_bool, fc_sint, fc_sapi_Range, fc_sapi_Zone, fc_sapi_Object, fc_sapi_Service, fc_sapi_Limit, fc_sapi_Route, fc_sapi_Nat, fc_sapi_Rule, fc_api_Addr, fc_api_Range, fc_api_Zone, fc_api_Object, fc_api_Service, fc_api_Limit, fc_api_Route, fc_api_Nat, fc_api_Rule, fc_api_Key] using hf 5 _ rfl
    have hx5 : xs[5]? = some (xs[5]'(by rw [hxl]; decide)) := List.getElem?_eq_getElem _
    have h6 : DataW.trod enc Try.prog w base spare held n 3 [c8] = xs[6]? := by simpa [fc_uint64, fc_int, fc_string, fc_bool, fc_sint, fc_sapi_Range, fc_sapi_Zone, fc_sapi_Object, fc_sapi_Service, fc_sapi_Limit, fc_sapi_Route, fc_sapi_Nat, fc_sapi_Rule, fc_api_Addr, fc_api_Range, fc_api_Zone, fc_api_Object, fc_api_Service, fc_api_Limit, fc_api_Route, fc_api_Nat, fc_api_Rule, fc_api_Key] using hf 6 _ rfl
    have hx6 : xs[6]? = some (xs[6]'(by rw [hxl]; decide)) := List.getElem?_eq_getElem _
    have h7 : DataW.trod enc Try.prog w base spare held n 3 [c9] = xs[7]? := by simpa [fc_uint64, fc_int, fc_string, fc_bool, fc_sint, fc_sapi_Range, fc_sapi_Zone, fc_sapi_Object, fc_sapi_Service, fc_sapi_Limit, fc_sapi_Route, fc_sapi_Nat, fc_sapi_Rule, fc_api_Addr, fc_api_Range, fc_api_Zone, fc_api_Object, fc_api_Service, fc_api_Limit, fc_api_Route, fc_api_Nat, fc_api_Rule, fc_api_Key] using hf 7 _ rfl
    have hx7 : xs[7]? = some (xs[7]'(by rw [hxl]; decide)) := List.getElem?_eq_getElem _
    obtain ⟨k, rfl, g_k⟩ := open_f_i64 (h0.trans hx0)
    obtain ⟨z, rfl, g_z⟩ := open_f_str (h1.trans hx1)
    obtain ⟨o, rfl, g_o⟩ := open_f_str (h2.trans hx2)
    obtain ⟨s, rfl, g_s⟩ := open_f_str (h3.trans hx3)
    obtain ⟨uh, ul, e_u, g_uh, g_ul⟩ := open_c_adr (h4.trans hx4)
    simp only [List.cons.injEq, and_true] at e_u
    obtain ⟨rfl, rfl⟩ := e_u
    obtain ⟨vh, vl, e_v, g_vh, g_vl⟩ := open_c_adr (h5.trans hx5)
    simp only [List.cons.injEq, and_true] at e_v
    obtain ⟨rfl, rfl⟩ := e_v
    obtain ⟨f, rfl, g_f⟩ := open_f_i64 (h6.trans hx6)
    obtain ⟨t, rfl, g_t⟩ := open_f_i64 (h7.trans hx7)
    exact ⟨⟨k, z, o, s, uh, ul, vh, vl, f, t⟩, rfl, ⟨g_uh, g_ul⟩, ⟨g_vh, g_vl⟩, (⟨g_f.1, by omega⟩ : i64ok f), (⟨g_t.1, by omega⟩ : i64ok t)⟩
theorem open_c_rule {fuel : Nat} {cs : List Value} {x : DataW H × List MemPlace} (h : DataW.trod enc Try.prog w base spare held fuel 133 cs = some x) :
    ∃ z : UR, cs = urc z ∧ True := by
  obtain ⟨xs, n, _, _, hl, hxl, hf⟩ := DataW.trod_struct Try.underlying133 h
  rw [fc_api_Rule] at hl
  match cs, hl with
  | [c0, c1, c2, c3, c4, c5, c6, c7], _ =>
    have h0 : DataW.trod enc Try.prog w base spare held n 9 [c0] = xs[0]? := by simpa [fc_uint64, fc_int, fc_string, fc_bool, fc_sint, fc_sapi_Range, fc_sapi_Zone, fc_sapi_Object, fc_sapi_Service, fc_sapi_Limit, fc_sapi_Route, fc_sapi_Nat, fc_sapi_Rule, fc_api_Addr, fc_api_Range, fc_api_Zone, fc_api_Object, fc_api_Service, fc_api_Limit, fc_api_Route, fc_api_Nat, fc_api_Rule, fc_api_Key] using hf 0 _ rfl
    have hx0 : xs[0]? = some (xs[0]'(by rw [hxl]; decide)) := List.getElem?_eq_getElem _
    have h1 : DataW.trod enc Try.prog w base spare held n 9 [c1] = xs[1]? := by simpa [fc_uint64, fc_int, fc_string, fc_bool, fc_sint, fc_sapi_Range, fc_sapi_Zone, fc_sapi_Object, fc_sapi_Service, fc_sapi_Limit, fc_sapi_Route, fc_sapi_Nat, fc_sapi_Rule, fc_api_Addr, fc_api_Range, fc_api_Zone, fc_api_Object, fc_api_Service, fc_api_Limit, fc_api_Route, fc_api_Nat, fc_api_Rule, fc_api_Key] using hf 1 _ rfl
    have hx1 : xs[1]? = some (xs[1]'(by rw [hxl]; decide)) := List.getElem?_eq_getElem _
    have h2 : DataW.trod enc Try.prog w base spare held n 9 [c2] = xs[2]? := by simpa [fc_uint64, fc_int, fc_string, fc_bool, fc_sint, fc_sapi_Range, fc_sapi_Zone, fc_sapi_Object, fc_sapi_Service, fc_sapi_Limit, fc_sapi_Route, fc_sapi_Nat, fc_sapi_Rule, fc_api_Addr, fc_api_Range, fc_api_Zone, fc_api_Object, fc_api_Service, fc_api_Limit, fc_api_Route, fc_api_Nat, fc_api_Rule, fc_api_Key] using hf 2 _ rfl
    have hx2 : xs[2]? = some (xs[2]'(by rw [hxl]; decide)) := List.getElem?_eq_getElem _
    have h3 : DataW.trod enc Try.prog w base spare held n 9 [c3] = xs[3]? := by simpa [fc_uint64, fc_int, fc_string, fc_bool, fc_sint, fc_sapi_Range, fc_sapi_Zone, fc_sapi_Object, fc_sapi_Service, fc_sapi_Limit, fc_sapi_Route, fc_sapi_Nat, fc_sapi_Rule, fc_api_Addr, fc_api_Range, fc_api_Zone, fc_api_Object, fc_api_Service, fc_api_Limit, fc_api_Route, fc_api_Nat, fc_api_Rule, fc_api_Key] using hf 3 _ rfl
    have hx3 : xs[3]? = some (xs[3]'(by rw [hxl]; decide)) := List.getElem?_eq_getElem _
    have h4 : DataW.trod enc Try.prog w base spare held n 9 [c4] = xs[4]? := by simpa [fc_uint64, fc_int, fc_string, fc_bool, fc_sint, fc_sapi_Range, fc_sapi_Zone, fc_sapi_Object, fc_sapi_Service, fc_sapi_Limit, fc_sapi_Route, fc_sapi_Nat, fc_sapi_Rule, fc_api_Addr, fc_api_Range, fc_api_Zone, fc_api_Object, fc_api_Service, fc_api_Limit, fc_api_Route, fc_api_Nat, fc_api_Rule, fc_api_Key] using hf 4 _ rfl
    have hx4 : xs[4]? = some (xs[4]'(by rw [hxl]; decide)) := List.getElem?_eq_getElem _
    have h5 : DataW.trod enc Try.prog w base spare held n 3 [c5] = xs[5]? := by simpa [fc_uint64, fc_int, fc_string, fc_bool, fc_sint, fc_sapi_Range, fc_sapi_Zone, fc_sapi_Object, fc_sapi_Service, fc_sapi_Limit, fc_sapi_Route, fc_sapi_Nat, fc_sapi_Rule, fc_api_Addr, fc_api_Range, fc_api_Zone, fc_api_Object, fc_api_Service, fc_api_Limit, fc_api_Route, fc_api_Nat, fc_api_Rule, fc_api_Key] using hf 5 _ rfl
    have hx5 : xs[5]? = some (xs[5]'(by rw [hxl]; decide)) := List.getElem?_eq_getElem _
    have h6 : DataW.trod enc Try.prog w base spare held n 9 [c6] = xs[6]? := by simpa [fc_uint64, fc_int, fc_string, fc_bool, fc_sint, fc_sapi_Range, fc_sapi_Zone, fc_sapi_Object, fc_sapi_Service, fc_sapi_Limit, fc_sapi_Route, fc_sapi_Nat, fc_sapi_Rule, fc_api_Addr, fc_api_Range, fc_api_Zone, fc_api_Object, fc_api_Service, fc_api_Limit, fc_api_Route, fc_api_Nat, fc_api_Rule, fc_api_Key] using hf 6 _ rfl
    have hx6 : xs[6]? = some (xs[6]'(by rw [hxl]; decide)) := List.getElem?_eq_getElem _
    have h7 : DataW.trod enc Try.prog w base spare held n 4 [c7] = xs[7]? := by simpa [fc_uint64, fc_int, fc_string, fc_bool, fc_sint, fc_sapi_Range, fc_sapi_Zone, fc_sapi_Object, fc_sapi_Service, fc_sapi_Limit, fc_sapi_Route, fc_sapi_Nat, fc_sapi_Rule, fc_api_Addr, fc_api_Range, fc_api_Zone, fc_api_Object, fc_api_Service, fc_api_Limit, fc_api_Route, fc_api_Nat, fc_api_Rule, fc_api_Key] using hf 7 _ rfl
    have hx7 : xs[7]? = some (xs[7]'(by rw [hxl]; decide)) := List.getElem?_eq_getElem _
    obtain ⟨a, rfl, g_a⟩ := open_f_str (h0.trans hx0)
    obtain ⟨b, rfl, g_b⟩ := open_f_str (h1.trans hx1)
    obtain ⟨c, rfl, g_c⟩ := open_f_str (h2.trans hx2)
    obtain ⟨d, rfl, g_d⟩ := open_f_str (h3.trans hx3)
    obtain ⟨e, rfl, g_e⟩ := open_f_str (h4.trans hx4)
    obtain ⟨f, rfl, g_f⟩ := open_f_i64 (h5.trans hx5)
    obtain ⟨g, rfl, g_g⟩ := open_f_str (h6.trans hx6)
    obtain ⟨hh, rfl⟩ := open_f_bool (h7.trans hx7)
    exact ⟨⟨a, b, c, d, e, f, g, hh⟩, rfl, trivial⟩
theorem open_c_key {fuel : Nat} {cs : List Value} {x : DataW H × List MemPlace} (h : DataW.trod enc Try.prog w base spare held fuel 35 cs = some x) :
    ∃ k : KR, cs = krc k ∧ KyOk k := by
  obtain ⟨xs, n, _, _, hl, hxl, hf⟩ := DataW.trod_struct Try.underlying35 h
  rw [fc_api_Key] at hl
  match cs, hl with
  | [c0, c1, c2, c3, c4, c5, c6], _ =>
    have h0 : DataW.trod enc Try.prog w base spare held n 3 [c0] = xs[0]? := by simpa [fc_uint64, fc_int, fc_string, fc_bool, fc_sint, fc_sapi_Range, fc_sapi_Zone, fc_sapi_Object, fc_sapi_Service, fc_sapi_Limit, fc_sapi_Route, fc_sapi_Nat, fc_sapi_Rule, fc_api_Addr, fc_api_Range, fc_api_Zone, fc_api_Object, fc_api_Service, fc_api_Limit, fc_api_Route, fc_api_Nat, fc_api_Rule, fc_api_Key] using hf 0 _ rfl
    have hx0 : xs[0]? = some (xs[0]'(by rw [hxl]; decide)) := List.getElem?_eq_getElem _
    have h1 : DataW.trod enc Try.prog w base spare held n 33 [c1, c2] = xs[1]? := by simpa [fc_uint64, fc_int, fc_string, fc_bool, fc_sint, fc_sapi_Range, fc_sapi_Zone, fc_sapi_Object, fc_sapi_Service, fc_sapi_Limit, fc_sapi_Route, fc_sapi_Nat, fc_sapi_Rule, fc_api_Addr, fc_api_Range, fc_api_Zone, fc_api_Object, fc_api_Service, fc_api_Limit, fc_api_Route, fc_api_Nat, fc_api_Rule, fc_api_Key] using hf 1 _ rfl
    have hx1 : xs[1]? = some (xs[1]'(by rw [hxl]; decide)) := List.getElem?_eq_getElem _
    have h2 : DataW.trod enc Try.prog w base spare held n 33 [c3, c4] = xs[2]? := by simpa [fc_uint64, fc_int, fc_string, fc_bool, fc_sint, fc_sapi_Range, fc_sapi_Zone, fc_sapi_Object, fc_sapi_Service, fc_sapi_Limit, fc_sapi_Route, fc_sapi_Nat, fc_sapi_Rule, fc_api_Addr, fc_api_Range, fc_api_Zone, fc_api_Object, fc_api_Service, fc_api_Limit, fc_api_Route, fc_api_Nat, fc_api_Rule, fc_api_Key] using hf 2 _ rfl
    have hx2 : xs[2]? = some (xs[2]'(by rw [hxl]; decide)) := List.getElem?_eq_getElem _
    have h3 : DataW.trod enc Try.prog w base spare held n 3 [c5] = xs[3]? := by simpa [fc_uint64, fc_int, fc_string, fc_bool, fc_sint, fc_sapi_Range, fc_sapi_Zone, fc_sapi_Object, fc_sapi_Service, fc_sapi_Limit, fc_sapi_Route, fc_sapi_Nat, fc_sapi_Rule, fc_api_Addr, fc_api_Range, fc_api_Zone, fc_api_Object, fc_api_Service, fc_api_Limit, fc_api_Route, fc_api_Nat, fc_api_Rule, fc_api_Key] using hf 3 _ rfl
    have hx3 : xs[3]? = some (xs[3]'(by rw [hxl]; decide)) := List.getElem?_eq_getElem _
    have h4 : DataW.trod enc Try.prog w base spare held n 3 [c6] = xs[4]? := by simpa [fc_uint64, fc_int, fc_string, fc_bool, fc_sint, fc_sapi_Range, fc_sapi_Zone, fc_sapi_Object, fc_sapi_Service, fc_sapi_Limit, fc_sapi_Route, fc_sapi_Nat, fc_sapi_Rule, fc_api_Addr, fc_api_Range, fc_api_Zone, fc_api_Object, fc_api_Service, fc_api_Limit, fc_api_Route, fc_api_Nat, fc_api_Rule, fc_api_Key] using hf 4 _ rfl
    have hx4 : xs[4]? = some (xs[4]'(by rw [hxl]; decide)) := List.getElem?_eq_getElem _
    obtain ⟨p, rfl, g_p⟩ := open_f_i64 (h0.trans hx0)
    obtain ⟨sh, sl, e_s, g_sh, g_sl⟩ := open_c_adr (h1.trans hx1)
    simp only [List.cons.injEq, and_true] at e_s
    obtain ⟨rfl, rfl⟩ := e_s
    obtain ⟨dh, dl, e_d, g_dh, g_dl⟩ := open_c_adr (h2.trans hx2)
    simp only [List.cons.injEq, and_true] at e_d
    obtain ⟨rfl, rfl⟩ := e_d
    obtain ⟨sp, rfl, g_sp⟩ := open_f_i64 (h3.trans hx3)
    obtain ⟨dp, rfl, g_dp⟩ := open_f_i64 (h4.trans hx4)
    exact ⟨⟨p, sh, sl, dh, dl, sp, dp⟩, rfl, (⟨g_p.1, by omega⟩ : i64ok p), g_sh, g_sl, g_dh, g_dl, (⟨g_sp.1, by omega⟩ : i64ok sp), (⟨g_dp.1, by omega⟩ : i64ok dp)⟩
theorem open_cfg_cells {fuel : Nat} {cs : List Value} {x : DataW H × List MemPlace} (h : DataW.trod enc Try.prog w base spare held fuel 30 cs = some x) :
    ∃ c : CF, cs = (cfc c).toList ∧ c.Ok w ∧ ∃ ps : List (DataW H), x.1 = .agg ps ∧ (∃ d, ps[0]? = some d ∧ LenOf d c.zn) ∧ (∃ d, ps[1]? = some d ∧ LenOf d c.on) ∧ (∃ d, ps[2]? = some d ∧ LenOf d c.sn) ∧ (∃ d, ps[3]? = some d ∧ LenOf d c.ln) ∧ (∃ d, ps[4]? = some d ∧ LenOf d c.tn) ∧ (∃ d, ps[5]? = some d ∧ LenOf d c.nn) ∧ (∃ d, ps[6]? = some d ∧ LenOf d c.un) ∧ (c.uA = none → c.uc = 0) := by
  obtain ⟨xs, n, _, hx, hl, hxl, hf⟩ := DataW.trod_struct Try.underlying30 h
  rw [fc_cfg] at hl
  match cs, hl with
  | [c0, c1, c2, c3, c4, c5, c6, c7], _ =>
    have h0 : DataW.trod enc Try.prog w base spare held n 22 [c0] = xs[0]? := by simpa [fc_uint64, fc_int, fc_string, fc_bool, fc_sint, fc_sapi_Range, fc_sapi_Zone, fc_sapi_Object, fc_sapi_Service, fc_sapi_Limit, fc_sapi_Route, fc_sapi_Nat, fc_sapi_Rule, fc_api_Addr, fc_api_Range, fc_api_Zone, fc_api_Object, fc_api_Service, fc_api_Limit, fc_api_Route, fc_api_Nat, fc_api_Rule, fc_api_Key] using hf 0 _ rfl
    have hx0 : xs[0]? = some (xs[0]'(by rw [hxl]; decide)) := List.getElem?_eq_getElem _
    have h1 : DataW.trod enc Try.prog w base spare held n 23 [c1] = xs[1]? := by simpa [fc_uint64, fc_int, fc_string, fc_bool, fc_sint, fc_sapi_Range, fc_sapi_Zone, fc_sapi_Object, fc_sapi_Service, fc_sapi_Limit, fc_sapi_Route, fc_sapi_Nat, fc_sapi_Rule, fc_api_Addr, fc_api_Range, fc_api_Zone, fc_api_Object, fc_api_Service, fc_api_Limit, fc_api_Route, fc_api_Nat, fc_api_Rule, fc_api_Key] using hf 1 _ rfl
    have hx1 : xs[1]? = some (xs[1]'(by rw [hxl]; decide)) := List.getElem?_eq_getElem _
    have h2 : DataW.trod enc Try.prog w base spare held n 24 [c2] = xs[2]? := by simpa [fc_uint64, fc_int, fc_string, fc_bool, fc_sint, fc_sapi_Range, fc_sapi_Zone, fc_sapi_Object, fc_sapi_Service, fc_sapi_Limit, fc_sapi_Route, fc_sapi_Nat, fc_sapi_Rule, fc_api_Addr, fc_api_Range, fc_api_Zone, fc_api_Object, fc_api_Service, fc_api_Limit, fc_api_Route, fc_api_Nat, fc_api_Rule, fc_api_Key] using hf 2 _ rfl
    have hx2 : xs[2]? = some (xs[2]'(by rw [hxl]; decide)) := List.getElem?_eq_getElem _
    have h3 : DataW.trod enc Try.prog w base spare held n 25 [c3] = xs[3]? := by simpa [fc_uint64, fc_int, fc_string, fc_bool, fc_sint, fc_sapi_Range, fc_sapi_Zone, fc_sapi_Object, fc_sapi_Service, fc_sapi_Limit, fc_sapi_Route, fc_sapi_Nat, fc_sapi_Rule, fc_api_Addr, fc_api_Range, fc_api_Zone, fc_api_Object, fc_api_Service, fc_api_Limit, fc_api_Route, fc_api_Nat, fc_api_Rule, fc_api_Key] using hf 3 _ rfl
    have hx3 : xs[3]? = some (xs[3]'(by rw [hxl]; decide)) := List.getElem?_eq_getElem _
    have h4 : DataW.trod enc Try.prog w base spare held n 26 [c4] = xs[4]? := by simpa [fc_uint64, fc_int, fc_string, fc_bool, fc_sint, fc_sapi_Range, fc_sapi_Zone, fc_sapi_Object, fc_sapi_Service, fc_sapi_Limit, fc_sapi_Route, fc_sapi_Nat, fc_sapi_Rule, fc_api_Addr, fc_api_Range, fc_api_Zone, fc_api_Object, fc_api_Service, fc_api_Limit, fc_api_Route, fc_api_Nat, fc_api_Rule, fc_api_Key] using hf 4 _ rfl
    have hx4 : xs[4]? = some (xs[4]'(by rw [hxl]; decide)) := List.getElem?_eq_getElem _
    have h5 : DataW.trod enc Try.prog w base spare held n 27 [c5] = xs[5]? := by simpa [fc_uint64, fc_int, fc_string, fc_bool, fc_sint, fc_sapi_Range, fc_sapi_Zone, fc_sapi_Object, fc_sapi_Service, fc_sapi_Limit, fc_sapi_Route, fc_sapi_Nat, fc_sapi_Rule, fc_api_Addr, fc_api_Range, fc_api_Zone, fc_api_Object, fc_api_Service, fc_api_Limit, fc_api_Route, fc_api_Nat, fc_api_Rule, fc_api_Key] using hf 5 _ rfl
    have hx5 : xs[5]? = some (xs[5]'(by rw [hxl]; decide)) := List.getElem?_eq_getElem _
    have h6 : DataW.trod enc Try.prog w base spare held n 28 [c6] = xs[6]? := by simpa [fc_uint64, fc_int, fc_string, fc_bool, fc_sint, fc_sapi_Range, fc_sapi_Zone, fc_sapi_Object, fc_sapi_Service, fc_sapi_Limit, fc_sapi_Route, fc_sapi_Nat, fc_sapi_Rule, fc_api_Addr, fc_api_Range, fc_api_Zone, fc_api_Object, fc_api_Service, fc_api_Limit, fc_api_Route, fc_api_Nat, fc_api_Rule, fc_api_Key] using hf 6 _ rfl
    have hx6 : xs[6]? = some (xs[6]'(by rw [hxl]; decide)) := List.getElem?_eq_getElem _
    have h7 : DataW.trod enc Try.prog w base spare held n 3 [c7] = xs[7]? := by simpa [fc_uint64, fc_int, fc_string, fc_bool, fc_sint, fc_sapi_Range, fc_sapi_Zone, fc_sapi_Object, fc_sapi_Service, fc_sapi_Limit, fc_sapi_Route, fc_sapi_Nat, fc_sapi_Rule, fc_api_Addr, fc_api_Range, fc_api_Zone, fc_api_Object, fc_api_Service, fc_api_Limit, fc_api_Route, fc_api_Nat, fc_api_Rule, fc_api_Key] using hf 7 _ rfl
    have hx7 : xs[7]? = some (xs[7]'(by rw [hxl]; decide)) := List.getElem?_eq_getElem _
    obtain ⟨zA, zn, zc, zs, rfl, S0, G0, L0, N0⟩ := open_sl 22 47 4 Try.underlying22 fc_api_Zone (by omega) zrc (fun z => Sl w 1 (fun x : Int => [Value.int .i64 x]) z.ia z.il z.ifs ∧ Word z.ah ∧ Word z.al) (fun fuel cs x h => open_c_zone h) (h0.trans hx0)
    obtain ⟨oA, on, oc, os, rfl, S1, G1, L1, N1⟩ := open_sl 23 69 2 Try.underlying23 fc_api_Object (by omega) orc (fun z => Sl w 4 r4c z.ra z.rl z.rs) (fun fuel cs x h => open_c_object h) (h1.trans hx1)
    obtain ⟨sA, sn, sc, ss, rfl, S2, G2, L2, N2⟩ := open_sl 24 99 4 Try.underlying24 fc_api_Service (by omega) src (fun _ => True) (fun fuel cs x h => open_c_service h) (h2.trans hx2)
    obtain ⟨lA, ln, lc, ls, rfl, S3, G3, L3, N3⟩ := open_sl 25 131 4 Try.underlying25 fc_api_Limit (by omega) lrc (fun _ => True) (fun fuel cs x h => open_c_limit h) (h3.trans hx3)
    obtain ⟨tA, tn, tc, ts, rfl, S4, G4, L4, N4⟩ := open_sl 26 53 6 Try.underlying26 fc_api_Route (by omega) trc (fun _ => True) (fun fuel cs x h => open_c_route h) (h4.trans hx4)
    obtain ⟨nA, nn, nc, ns, rfl, S5, G5, L5, N5⟩ := open_sl 27 49 10 Try.underlying27 fc_api_Nat (by omega) nrc (fun z => (Word z.oh ∧ Word z.ol) ∧ (Word z.ih ∧ Word z.il) ∧ i64ok z.frm ∧ i64ok z.til) (fun fuel cs x h => open_c_nat h) (h5.trans hx5)
    obtain ⟨uA, un, uc, us, rfl, S6, G6, L6, N6⟩ := open_sl 28 133 8 Try.underlying28 fc_api_Rule (by omega) urc (fun _ => True) (fun fuel cs x h => open_c_rule h) (h6.trans hx6)
    obtain ⟨df, rfl, _⟩ := open_f_i64 (h7.trans hx7)
    refine ⟨⟨zA, zn, zc, zs, oA, on, oc, os, sA, sn, sc, ss, lA, ln, lc, ls, tA, tn, tc, ts, nA, nn, nc, ns, uA, un, uc, us, df⟩, rfl, ⟨S0, S1, S2, S3, S4, S5, S6, fun z hz => (G0 z hz).1, G1, fun z hz => (G5 z hz).1, fun z hz => (G5 z hz).2, fun z hz => (G0 z hz).2⟩, xs.map (·.1), by rw [hx], ?_⟩
    exact ⟨⟨_, by rw [List.getElem?_map, hx0]; rfl, L0⟩, ⟨_, by rw [List.getElem?_map, hx1]; rfl, L1⟩, ⟨_, by rw [List.getElem?_map, hx2]; rfl, L2⟩, ⟨_, by rw [List.getElem?_map, hx3]; rfl, L3⟩, ⟨_, by rw [List.getElem?_map, hx4]; rfl, L4⟩, ⟨_, by rw [List.getElem?_map, hx5]; rfl, L5⟩, ⟨_, by rw [List.getElem?_map, hx6]; rfl, L6⟩, N6⟩

/-- The reach: no list of a configuration is long. -/
structure CF.Fit (c : CF) : Prop where
  z : c.zn ≤ 140737488355328
  o : c.on ≤ 140737488355328
  s : c.sn ≤ 140737488355328
  l : c.ln ≤ 140737488355328
  t : c.tn ≤ 140737488355328
  n : c.nn ≤ 140737488355328
  u : c.un ≤ 140737488355328

theorem fit_part {ts : List TypeId} {ds : List (DataW H)} (h : (DataW.weightsEach Try.prog ts ds).all (· ≤ reachBytes) = true) {j : Nat} {ps : List (DataW H)} (ht : ts[j]? = some 30) (hd : ds[j]? = some (.agg ps)) {i : Nat} {fs : Array Field} (hu : Try.prog.underlying 30 = some (.struct fs)) {S E : TypeId} (hf : (fs.toList.map (·.type))[i]? = some S) (hS : Try.prog.underlying S = some (.slice E)) (hE : 1 ≤ Try.prog.bytesOf E) {n : Nat} (hl : ∃ d, ps[i]? = some d ∧ LenOf d n) : n ≤ 140737488355328 := by
  obtain ⟨d, hp, hl⟩ := hl
  rcases hl with h0 | ⟨elems, spare, rfl, hlen⟩
  · omega
  · have h2 : (elems.length + spare.length) * Try.prog.bytesOf E ∈ (DataW.slice elems spare).weights Try.prog S := by simp [DataW.weights, hS]
    have h3 := DataW.weights_mem_each hf hp _ h2
    have h4 : (elems.length + spare.length) * Try.prog.bytesOf E ∈ (DataW.agg ps).weights Try.prog 30 := by
      simp only [DataW.weights, hu]
      exact h3
    have h5 := List.all_eq_true.1 h _ (DataW.weights_mem_each ht hd _ h4)
    have h6 := of_decide_eq_true h5
    have := reachBytes_lt
    have h7 : n ≤ (elems.length + spare.length) * Try.prog.bytesOf E := by
      rw [hlen]
      exact Nat.le_trans (by omega) (Nat.le_mul_of_pos_right _ hE)
    omega

/-- A configuration that came in is opened. -/
theorem open_cfg2 {ts : List TypeId} {ds : List (DataW H)} (hsz : (DataW.weightsEach Try.prog ts ds).all (· ≤ reachBytes) = true) {j : Nat} {r : Reach} {b0 : Nat} {v : Value} {d : DataW H} {pl : List MemPlace} (ht : ts[j]? = some 30) (hdj : ds[j]? = some d) (hval : Value.okWide Try.prog w r b0 30 v) (hd : DataW.Trod enc Try.prog w base spare held 30 v d pl) :
    ∃ c : CF, v = .agg (cfc c) ∧ c.Ok w ∧ c.Fit ∧ (c.uA = none → c.uc = 0) := by
  obtain ⟨cs, rfl, hs⟩ := okWide_struct Try.underlying30 hval
  obtain ⟨fuel, hf⟩ := hd
  obtain ⟨c, e, hok, ps, hx, L0, L1, L2, L3, L4, L5, L6, N6⟩ := open_cfg_cells (cs := cs.toList) (by simpa [Value.cells] using hf)
  simp only at hx
  subst hx
  have F := @fit_part H ts ds hsz j ps ht hdj
  exact ⟨c, by rw [show cs = cfc c from Array.toList_inj.1 e], hok, ⟨F Try.underlying30 rfl Try.underlying22 (of_decide_eq_true (by kernel_rfl)) L0, F Try.underlying30 rfl Try.underlying23 (of_decide_eq_true (by kernel_rfl)) L1, F Try.underlying30 rfl Try.underlying24 (of_decide_eq_true (by kernel_rfl)) L2, F Try.underlying30 rfl Try.underlying25 (of_decide_eq_true (by kernel_rfl)) L3, F Try.underlying30 rfl Try.underlying26 (of_decide_eq_true (by kernel_rfl)) L4, F Try.underlying30 rfl Try.underlying27 (of_decide_eq_true (by kernel_rfl)) L5, F Try.underlying30 rfl Try.underlying28 (of_decide_eq_true (by kernel_rfl)) L6⟩, N6⟩

theorem open_cfg {ts : List TypeId} {ds : List (DataW H)} (hsz : (DataW.weightsEach Try.prog ts ds).all (· ≤ reachBytes) = true) {j : Nat} {r : Reach} {b0 : Nat} {v : Value} {d : DataW H} {pl : List MemPlace} (ht : ts[j]? = some 30) (hdj : ds[j]? = some d) (hval : Value.okWide Try.prog w r b0 30 v) (hd : DataW.Trod enc Try.prog w base spare held 30 v d pl) :
    ∃ c : CF, v = .agg (cfc c) ∧ c.Ok w ∧ c.Fit :=
  let ⟨c, h1, h2, h3, _⟩ := open_cfg2 hsz ht hdj hval hd
  ⟨c, h1, h2, h3⟩

theorem open_adr {r : Reach} {b0 : Nat} {v : Value} {d : DataW H} {ps : List MemPlace} (hval : Value.okWide Try.prog w r b0 33 v) (hd : DataW.Trod enc Try.prog w base spare held 33 v d ps) :
    ∃ a b : Int, v = .agg #[.int .u64 a, .int .u64 b] ∧ Word a ∧ Word b := by
  obtain ⟨cs, rfl, hs⟩ := okWide_struct Try.underlying33 hval
  obtain ⟨fuel, hf⟩ := hd
  obtain ⟨a, b, e, wa, wb⟩ := open_c_adr (cs := cs.toList) (by simpa [Value.cells] using hf)
  exact ⟨a, b, by rw [show cs = #[.int .u64 a, .int .u64 b] by apply Array.toList_inj.1; simpa using e], wa, wb⟩
theorem open_key {r : Reach} {b0 : Nat} {v : Value} {d : DataW H} {ps : List MemPlace} (hval : Value.okWide Try.prog w r b0 35 v) (hd : DataW.Trod enc Try.prog w base spare held 35 v d ps) :
    ∃ k : KR, v = .agg (krc k).toArray ∧ KyOk k := by
  obtain ⟨cs, rfl, hs⟩ := okWide_struct Try.underlying35 hval
  obtain ⟨fuel, hf⟩ := hd
  obtain ⟨k, e, g⟩ := open_c_key (cs := cs.toList) (by simpa [Value.cells] using hf)
  exact ⟨k, by rw [show cs = (krc k).toArray by apply Array.toList_inj.1; simpa using e], g⟩
theorem open_keys {ts : List TypeId} {ds : List (DataW H)} (hsz : (DataW.weightsEach Try.prog ts ds).all (· ≤ reachBytes) = true) {j : Nat} {r : Reach} {b0 : Nat} {v : Value} {d : DataW H} {pl : List MemPlace} (ht : ts[j]? = some 64) (hdj : ds[j]? = some d) (hval : Value.okWide Try.prog w r b0 64 v) (hd : DataW.Trod enc Try.prog w base spare held 64 v d pl) :
    ∃ (A : Option Addr) (n cap : Nat) (L : List KR), v = .slice A n cap ∧ Sl w 7 krc A n L ∧ (∀ k ∈ L, KyOk k) ∧ (A = none → cap = 0) := by
  obtain ⟨a0, len0, cap0, rfl⟩ := okWide_slice Try.underlying64 hval
  obtain ⟨fuel, hf⟩ := hd
  obtain ⟨A, n, cap, L, h1, h2, h3, _, h4⟩ := open_sl 64 35 7 Try.underlying64 fc_api_Key (by omega) krc KyOk (fun fuel cs x h => open_c_key h) (show DataW.trod enc Try.prog w base spare held fuel 64 [.slice a0 len0 cap0] = some (d, pl) by simpa [Value.cells] using hf)
  exact ⟨A, n, cap, L, h1, h2, h3, h4⟩
end
end Go.Proofs.Ytokbmahnjmmcaaa
