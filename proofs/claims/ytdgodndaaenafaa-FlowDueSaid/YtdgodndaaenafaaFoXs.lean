/- A table beside other blocks; a map's entry made and filled; by-name template. -/
import Derived.Test.YtdgodndaaenafaaFoSi
import Derived.Test.YtdgodndaaenafaaFoFr
namespace Go.Proofs.Ytdgodndaaenafaa
open Go.RowKit Go.Lib Go.Maps
set_option linter.unusedVariables false
set_option linter.unusedSimpArgs false

/-- mapEntry, and what the map tells between it and entryStore. -/
theorem MapK.put3 {w : World} {Mp c : Nat} {gk : Ky → Option Int} (h : MapK w Mp gk c) (hl : c < 1000000) {k : Ky} (hs : KyOk k) {n : Int} (hn : i64ok n) :
    ∃ v0 st u1 u2, (Instr.mapEntry 58 (.map (some Mp)) (.agg (KA k))).run Try.prog w = .ok (.tuple #[v0, .int .i64 st]) u1 ∧ (Instr.entryStore 58 (.map (some Mp)) (.int .i64 st) (.int .i64 n)).run Try.prog u1 = .ok () u2 ∧
      (Instr.lookup 58 (.map (some Mp)) (.agg (KA k)) false).run Try.prog u1 = .ok (.int .i64 ((gk k).getD 0)) u1 ∧
      MapK u2 Mp (upK gk k n) (if (gk k).isSome then c else c + 1) ∧ OffS (fun j => j = Mp) w u1 ∧ OffS (fun j => j = Mp) w u2 := by
  obtain ⟨v0, st, u1, u2, r1, r2, m2, o1, o2⟩ := h.put2 hl hs hn
  refine ⟨v0, st, u1, u2, r1, r2, ?_, m2, o1, o2⟩
  have h0 := h
  obtain ⟨D, ⟨es, clock, hb, F, q3, q4⟩, p2, p3, p4⟩ := h
  rcases klawK.find w (keyOf_ky hs) es.toList F.keys with ⟨h1, h2⟩ | ⟨j, e0, h1, h2, h3⟩
  · -- a new key
    obtain ⟨w', hr, hm, ho⟩ := h0.put hl hs (n := 0) (by unfold i64ok; omega)
    have eN : gk k = none := by
      cases e : gk k with
      | none => rfl
      | some m =>
        exfalso
        have hl1 := h0.look1 hs
        have hl2 := h0.look hs
        have : (Instr.lookup 58 (.map (some Mp)) (.agg (KA k)) true).run Try.prog w = .ok (.tuple #[.int .i64 0, .bool false]) w := by
          have hc := klawK.check w es.isEmpty (keyOf_ky hs)
          unfold kv at h1 hc
          simp [Instr.lookup, run_underlying Try.underlying58, MapKept.run_getObj_map hb, hc, h1, zeroI, Result.andThen]
        rw [this, e] at hl2
        simp at hl2
    have e1 : (Instr.mapEntry 58 (.map (some Mp)) (.agg (KA k))).run Try.prog w = .ok (.tuple #[.int .i64 0, goInt clock]) (ChangeMaps.setBlock w Mp (.map (es.push ⟨kv k, .int .i64 0, clock⟩) (clock + 1))) := by
      have hc := klawK.check w false (keyOf_ky hs)
      unfold kv at hc h1 ⊢
      simp [Instr.mapEntry, run_underlying Try.underlying58, MapKept.run_getObj_map hb, hc, h1, zeroI, MapKept.run_setObj_map _ hb, Result.andThen, ChangeMaps.setBlock]
    have e2 : (Instr.mapUpdate 58 (.map (some Mp)) (.agg (KA k)) (.int .i64 0)).run Try.prog w = .ok () (ChangeMaps.setBlock w Mp (.map (es.push ⟨kv k, .int .i64 0, clock⟩) (clock + 1))) := by
      have hc := klawK.check w false (keyOf_ky hs)
      unfold kv at hc h1 ⊢
      simp [Instr.mapUpdate, run_underlying Try.underlying58, MapKept.run_getObj_map hb, hc, h1, MapKept.run_setObj_map _ hb, Result.andThen, ChangeMaps.setBlock]
    rw [e1] at r1
    cases r1
    rw [hr] at e2
    cases e2
    have := hm.look1 hs
    unfold upK at this
    rw [if_pos rfl] at this
    rw [eN]
    exact this
  · have hj : es[j]? = some e0 := by simpa using h2
    have hk0 : e0.key = .agg (KA k) := h3
    have hsame : es.modify j (fun e => { e with key := .agg (KA k) }) = es := by
      apply Array.ext'
      rw [Array.toList_modify]
      refine List.ext_getElem? fun i => ?_
      rw [List.getElem?_modify]
      cases hi : es.toList[i]? with
      | none => rfl
      | some e =>
        by_cases q : j = i
        · subst q
          rw [h2] at hi
          cases hi
          simp [← hk0]
        · simp [q]
    have e1 : ∃ v s, (Instr.mapEntry 58 (.map (some Mp)) (.agg (KA k))).run Try.prog w = .ok (.tuple #[v, s]) (ChangeMaps.setBlock w Mp (.map es clock)) := by
      have hc := klawK.check w false (keyOf_ky hs)
      have hst := klawK.stays w (keyOf_ky hs)
      unfold kv at hc h1 h3 hst
      refine ⟨e0.val, goInt e0.born, ?_⟩
      simp [Instr.mapEntry, run_underlying Try.underlying58, MapKept.run_getObj_map hb, hc, h1, hj, h3, hst, hsame, MapKept.run_setObj_map _ hb, Result.andThen, ChangeMaps.setBlock]
    obtain ⟨v, s, e1⟩ := e1
    rw [e1] at r1
    have eu : u1 = ChangeMaps.setBlock w Mp (.map es clock) := by
      simp only [Result.ok.injEq] at r1
      exact r1.2.symm
    have : MapK u1 Mp gk c := h0.keep (by rw [eu, ChangeMaps.heap_setBlock_same hb, hb])
    exact this.look1 hs
end Go.Proofs.Ytdgodndaaenafaa
