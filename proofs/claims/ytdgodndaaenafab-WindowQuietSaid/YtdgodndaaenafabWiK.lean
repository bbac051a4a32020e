/- A script of segments in memory; by-name template (gen_wi2.py). -/
import Derived.Test.YtdgodndaaenafabWiOp
import Derived.Test.YtdgodndaaenafabWiNf
import Derived.Test.YtdgodndaaenafabWiNb
import Derived.Test.YtdgodndaaenafabWiQ
import Derived.Test.YtdgodndaaenafabWiFr
namespace Go.Proofs.Ytdgodndaaenafab
open Go.RowKit Go.Lib Go.Sort
set_option linter.unusedVariables false
set_option linter.unusedSimpArgs false

theorem next_any (c : CN) (b : Bool) (t : TR) (w : World) : Calls Try.prog 10 #[.agg (CA c), .bool b, .agg (TA t)] w fun e w' => e = .returned (.tuple #[.agg (CA (nextP c b t).1), .bool (nextP c b t).2]) ∧ Below w.heap.size w w' := by
  cases b
  · exact next_f c t w
  · exact next_b c t w
theorem openC (t : TR) (w : World) : Calls Try.prog 7 #[.agg (TA t)] w fun e w' => e = .returned (.tuple #[.agg (CA (openP t).1), .bool (openP t).2]) ∧ Below w.heap.size w w' := open_any t w
theorem ropenC (t : TR) (w : World) : Calls Try.prog 9 #[.agg (TA t)] w fun e w' => e = .returned (.tuple #[.agg (CA (openP t).1), .bool (openP t).2]) ∧ Below w.heap.size w w' := ropen_any t w
theorem yields_cells {P : Program} {ops : Array Oper} {S : World → Prop} {o : Oper} {a : Act} (hw : Region.wanted o (yielded ops a.tmps) = true) (ty : TypeId) (x : Operand) (ho : o.op = .load ty x) (ad : Addr) (hx : a.eval x = .pointer (some ad)) (cs : Array Value) (d : TypeDesc)
    (hS : ∀ w, S w → ∀ j v, cs.toList[j]? = some v → w.cell? (ad.add j) = some v) (hu : P.underlying ty = some d) (hd : (match d with | .struct _ | .array _ _ => true | _ => false) = true) (hi : (P.info? ty).map (·.size) = some cs.size) : YieldsIf P ops S o (.agg cs) a :=
  .inl ⟨hw, fun w hs => exec_cells ty x ho ad hx cs d (hS w hs) hu hd hi⟩
/-- what a step's call reads. -/
structure KS (W1 : World) (BC gb o : Nat) (c : CN) (s : WS) : Prop where
  cb : W1.heap[BC]? = some (.cells (CA c) 29 (0, 0))
  tb : ∀ j v, (TA s.t).toList[j]? = some v → W1.cell? ((⟨gb, o + 1, none⟩ : Addr).add j) = some v
  bb : W1.cell? ⟨gb, o, none⟩ = some (.bool s.back)
theorem KS.below {W1 W2 : World} {BC gb o : Nat} {c : CN} {s : WS} (h : KS W1 BC gb o c s) (b : Below W1.heap.size W1 W2) : KS W2 BC gb o c s :=
  ⟨kb b h.cb, fun j v hj => keepc b (h.tb j v hj), keepc b h.bb⟩
theorem KS.row {W1 : World} {BC gb o : Nat} {c : CN} {s : WS} (h : KS W1 BC gb o c s) {B : Nat} (h1 : BC ≠ B) (h2 : gb ≠ B) (C : Array Value) : KS (W1.setRow B C) BC gb o c s :=
  ⟨(setRow_other h1 _).trans h.cb, fun j v hj => by
      rw [addr_add]
      have := h.tb j v hj
      rw [addr_add] at this
      unfold World.cell? at this ⊢
      rw [setRow_other h2]; exact this, by
      have := h.bb
      unfold World.cell? at this ⊢
      rw [setRow_other h2]; exact this⟩
/-- the steps of a script that came in. -/
theorem ws_row {w : World} {A : Option Addr} {n : Nat} {l : List WS} (h : Sl w 11 wscells A n l) {k : Nat} (hk : k < n) :
    ∃ gb off s, A = some ⟨gb, off, none⟩ ∧ l[k]? = some s ∧ gb < w.heap.size ∧ (∀ W, Below w.heap.size w W → ∀ BC c, W.heap[BC]? = some (.cells (CA c) 29 (0, 0)) → KS W BC gb (off + k * 11) c s) := by
  obtain ⟨gb, off, hA, hlt, hc⟩ := h.row (by omega)
  have hl := h.len
  have hx : l[k]? = some l[k] := List.getElem?_eq_getElem (by omega)
  refine ⟨gb, off, l[k], hA, hx, hlt, fun W hb BC c hB => ⟨hB, fun j v hj => ?_, ?_⟩⟩
  · rw [addr_add, Nat.add_assoc]
    refine keepc hb (hc k _ hx (1 + j) v ?_)
    unfold wscells
    rw [Nat.add_comm 1 j, List.getElem?_cons_succ]
    simpa [TA, tcells] using hj
  · exact keepc hb (hc k _ hx 0 _ rfl)
theorem KS.fl {W1 : World} {BC gb o : Nat} {c : CN} {s : WS} (h : KS W1 BC gb o c s) : W1.cell? ⟨gb, o + 1 + 4, none⟩ = some (.int .i64 s.t.fl) := by
  have := h.tb 4 _ rfl
  rw [addr_add] at this; exact this
theorem KS.ak {W1 : World} {BC gb o : Nat} {c : CN} {s : WS} (h : KS W1 BC gb o c s) : W1.cell? ⟨gb, o + 1 + 3, none⟩ = some (.int .u32 s.t.ak) := by
  have := h.tb 3 _ rfl
  rw [addr_add] at this; exact this
def LawPost (w : World) (e : Ending) (w' : World) : Prop := e = .returned (.bool true) ∧ Below w.heap.size w w'
theorem zrow (w : World) : (w.alloc (.cells #[.int .i64 0, .bool false, .int .u32 0, .int .u32 0, .bool false, .bool false, .int .u32 0, .int .u32 0, .bool false] 29)).heap[w.heap.size]? = some (.cells (CA zcn) 29 (0, 0)) := blk_new w _
theorem rzrow (w : World) : (w.alloc (.cells #[.int .i64 0, .bool false, .int .u32 0, .int .u32 0, .bool false, .bool false, .int .u32 0, .int .u32 0, .bool false] 35)).heap[w.heap.size]? = some (.cells (CA zcn) 35 (0, 0)) := blk_new w _
theorem bel_blk2 {w0 w w' : World} (h : Below w0.heap.size w0 w) (b : Below w.heap.size w w') : Below w0.heap.size w0 w' := h.trans (b.mono h.size)
end Go.Proofs.Ytdgodndaaenafab
