/- copy, append of zeros, clear, over rows of elements of any number of cells: what they come to; by-name template. -/
import Derived.Laws.Append
import Derived.Laws.CopyRow
import Derived.Laws.AppendOwn
import Derived.Lib.AppendZeros
import Derived.Lib.Overlaps
import Derived.Test.YtomennaekjklbaaCTwo
import Derived.StillTailTactics
import Derived.Laws.Externs
import Derived.Test.YtomennaekjklbaaKBuild
namespace Go.Proofs.Ytomennaekjklbaa
set_option linter.unusedVariables false
set_option linter.unusedSimpArgs false

section
variable {P : Program}
theorem run_copy_k (w : World) (dT sT ty elem : TypeId) (k g o dLen dCap : Nat) (a : Addr) (sLen sCap : Nat) (cur : Array Value) (t : TypeId) (cs : List Value)
    (hu : P.underlying dT = some (.slice elem)) (hs : (P.info? elem).map (·.size) = some k)
    (hg : w.heap[g]? = some (.cells cur t (0, 0))) (hn : cs.length = Nat.min sLen dLen * k)
    (hsrc : ∀ j v, cs[j]? = some v → w.cell? (a.add j) = some v) (hfit : o + cs.length ≤ cur.size) (h1 : ∀ v ∈ cs, v.oneCell' = true) :
    (Builtin.copy_ #[dT, sT] ty #[.slice (some ⟨g, o, none⟩) dLen dCap, .slice (some a) sLen sCap]).run P w =
      .ok (goInt (Nat.min sLen dLen)) (w.setRow g (cur.toList.take o ++ cs ++ cur.toList.drop (o + cs.length)).toArray) := by
  have hst := run_storeCells_at P g o t cs 0 cur w hg (by simpa using hfit) h1
  cases hq : P.info? elem with
  | none => simp [hq] at hs
  | some i =>
    have hi : i.size = k := by simpa [hq] using hs
    have hf := run_firstCells_some (P := P) w k (Nat.min sLen dLen) a sLen sCap cs hn hsrc
    simp [Builtin.copy_, run_underlying hu, Builtin.lenOf, sizeOf, typeInfo, hq, hi, hf, hst]

theorem run_append_zeros (w : World) (t tn ty e : TypeId) (i : TypeInfo) (z : Value) (kn : IntKind) (ht : P.underlying t = some (.slice e)) (htn : P.underlying tn = some (.int kn)) (hi : P.info? e = some i) (hz : i.zero = some z)
    (b : Addr) (sLen sCap : Nat) (olds : List Value) (hlo : olds.length = sLen * i.size) (holds : ∀ j v, olds[j]? = some v → w.cell? (b.add j) = some v)
    (n : Nat) (h0 : 0 < n) (hs : 0 < i.size) (hg : sCap < sLen + n) (h63 : ((sLen + n : Nat) : Int) ≤ 9223372036854775807) (h48 : n * i.bytes ≤ 281474976710656) (hfit : Builtin.nextslicecap (sLen + n) sCap * i.bytes ≤ 281474976710656) :
    (Builtin.append_ #[t, tn] ty #[.slice (some b) sLen sCap, .int .i64 (n : Int)]).run P w =
      .ok (.slice (some ⟨w.heap.size, 0, none⟩) (sLen + n) (grownCap w (sLen + n) sCap e))
        (w.drew.alloc (.cells (olds.toArray ++ Builtin.zeroCells z.cells n ++ Builtin.zeroCells z.cells (grownCap w (sLen + n) sCap e - (sLen + n))) e)) := by
  have hn : ¬ (sLen + n ≤ sCap) := by omega
  have hn0 : n ≠ 0 := by omega
  have hw : IntKind.i64.wrap (n : Int) = n := by rw [IntKind.wrap_i64]; omega
  have h63' : ¬ (9223372036854775807 < ((sLen : Int) + (n : Int))) := by omega
  have h48' : ¬ (281474976710656 < Builtin.nextslicecap (sLen + n) sCap * i.bytes) := by omega
  have h48i : ¬ (281474976710656 < (n : Int) * (i.bytes : Int)) := by
    rw [← Int.natCast_mul]
    omega
  have hneg : ¬ ((n : Int) < 0) := by omega
  have hns : ¬ (n * i.size = 0) := Nat.mul_ne_zero hn0 (by omega)
  have hfo := run_firstCells_some (P := P) w.drew i.size sLen b sLen sCap olds hlo (by simpa using holds)
  simp [Builtin.append_, run_underlying ht, run_underlying htn, sizeOf, typeInfo, zeroValue, hi, hz, asInt, asIntOf, hw, hn, hn0, hneg, hns, h63', h48', h48i, Question.forced, hfo, newRow, grownCap]

theorem run_clear_k (w : World) (t ty e : TypeId) (i : TypeInfo) (z : Value) (ht : P.underlying t = some (.slice e)) (hi : P.info? e = some i) (hz : i.zero = some z)
    (g o n c : Nat) (cur : Array Value) (T : TypeId) (hg : w.heap[g]? = some (.cells cur T (0, 0))) (hn : 0 < n) (hfit : o + (Builtin.zeroCells z.cells n).size ≤ cur.size) (h1 : ∀ v ∈ (Builtin.zeroCells z.cells n).toList, v.oneCell' = true) :
    (Builtin.clear_ #[t] ty #[.slice (some ⟨g, o, none⟩) n c]).run P w =
      .ok (.tuple #[]) (w.setRow g (cur.toList.take o ++ (Builtin.zeroCells z.cells n).toList ++ cur.toList.drop (o + (Builtin.zeroCells z.cells n).size)).toArray) := by
  have hst := run_storeCells_at P g o T (Builtin.zeroCells z.cells n).toList 0 cur w hg (by simpa using hfit) h1
  cases n with
  | zero => omega
  | succ n =>
    simp only [Nat.add_zero, Array.length_toList] at hst
    simp [Builtin.clear_, run_underlying ht, zeroValue, typeInfo, hi, hz, hst]

theorem wpList_copy_run (w : World) {ops : Array Oper} {rest : List Oper} {o : Oper} {a : Act} {Q : Exit → Act → World → Prop} (hgd : o.guard = none) (d s : Operand) (dT sT : TypeId)
    (ho : o.op = .call { callee := .builtin .copy, args := #[d, s], argTypes := #[dT, sT] }) (vd vs : Value) (hd : a.eval d = vd) (hs : a.eval s = vs)
    (v' : Value) (w' : World) (hr : (Builtin.copy_ #[dT, sT] o.type #[vd, vs]).run P w = .ok v' w') (h : wpList P ops Q rest (a.put o.dst v') w') : wpList P ops Q (o :: rest) a w :=
  wpList_plain hgd fun _ hK => by
    unfold Oper.wp execOp
    simp only [ho, resolve, invoke, builtin, Sem.run_bind, Sem.run_pure, Result.andThen_ok, List.map_toArray, List.map_cons, List.map_nil, hd, hs, hr]
    exact hK _ _ h
theorem wpList_clear_run (w : World) {ops : Array Oper} {rest : List Oper} {o : Oper} {a : Act} {Q : Exit → Act → World → Prop} (hgd : o.guard = none) (d : Operand) (dT : TypeId)
    (ho : o.op = .call { callee := .builtin .clear, args := #[d], argTypes := #[dT] }) (vd : Value) (hd : a.eval d = vd)
    (v' : Value) (w' : World) (hr : (Builtin.clear_ #[dT] o.type #[vd]).run P w = .ok v' w') (h : wpList P ops Q rest (a.put o.dst v') w') : wpList P ops Q (o :: rest) a w :=
  wpList_plain hgd fun _ hK => by
    unfold Oper.wp execOp
    simp only [ho, resolve, invoke, builtin, Sem.run_bind, Sem.run_pure, Result.andThen_ok, List.map_toArray, List.map_cons, List.map_nil, hd, hr]
    exact hK _ _ h
end

/-! ### lists cut in three -/
theorem cut_one {α : Type} (l : List α) (i k : Nat) (x : List α) (h : i + k ≤ l.length) : (l.take i ++ x ++ l.drop (i + k)).length = l.length - k + x.length := by
  simp only [List.length_append, List.length_take, List.length_drop]; omega
end Go.Proofs.Ytomennaekjklbaa

namespace Go.Proofs.Ytomennaekjklbaa
open Go.RowKit Go.Lib Go.Sort
set_option linter.unusedVariables false
set_option linter.unusedSimpArgs false

theorem flat_take (l : List EN) (i : Nat) (hi : i ≤ l.length) : (l.flatMap enc25).take (i * 25) = (l.take i).flatMap enc25 := by
  conv => lhs; rw [← List.take_append_drop i l, List.flatMap_append]
  rw [List.take_append_of_le_length (by rw [flat_len en25_len, List.length_take]; omega)]
  exact List.take_of_length_le (by rw [flat_len en25_len, List.length_take]; omega)
theorem flat_drop (l : List EN) (i : Nat) (hi : i ≤ l.length) : (l.flatMap enc25).drop (i * 25) = (l.drop i).flatMap enc25 := by
  conv => lhs; rw [← List.take_append_drop i l, List.flatMap_append]
  rw [List.drop_append_of_le_length (by rw [flat_len en25_len, List.length_take]; omega)]
  rw [List.drop_eq_nil_of_le (by rw [flat_len en25_len, List.length_take]; omega)]; rfl
theorem flat_one (l : List EN) : ∀ u ∈ l.flatMap enc25, u.oneCell' = true := fun u hu => by
  obtain ⟨y, _, hy⟩ := List.mem_flatMap.1 hu
  exact en25_one y u hy
theorem addr_add (g o j : Nat) : (⟨g, o, none⟩ : Addr).add j = ⟨g, o + j, none⟩ := by unfold Addr.add; split <;> simp_all
theorem row_cells {w : World} {g : Nat} {cur : Array Value} {T : TypeId} (h : w.heap[g]? = some (.cells cur T (0, 0))) {cs : List Value} {o : Nat} (hc : ∀ j v, cs[j]? = some v → cur[o + j]? = some v) : ∀ j v, cs[j]? = some v → w.cell? ((⟨g, o, none⟩ : Addr).add j) = some v := fun j v hj => by
  rw [addr_add, cell_of_row w g (o + j) cur T (0, 0) h]
  exact hc j v hj

/-- what the cells come to. -/
theorem ins_cells (L X C : List Value) (a k m : Nat) (hX : X.length = k) (hC : C = (L.take m).drop a) (ham : a ≤ m) (hm : m + k ≤ L.length) :
    let L1 := L.take (a + k) ++ C ++ L.drop (a + k + C.length)
    (L1.take a ++ X ++ L1.drop (a + X.length)).take (m + k) = (L.take m).take a ++ X ++ (L.take m).drop a ∧ (L1.take a ++ X ++ L1.drop (a + X.length)).length = L.length := by
  have hCl : C.length = m - a := by rw [hC, List.length_drop, List.length_take]; omega
  have e1 : (L.take (a + k) ++ C ++ L.drop (a + k + C.length)).take a = L.take a := by
    rw [List.append_assoc, List.take_append_of_le_length (by rw [List.length_take]; omega), List.take_take]
    congr 1; omega
  have e2 : (L.take (a + k) ++ C ++ L.drop (a + k + C.length)).drop (a + X.length) = C ++ L.drop (a + k + C.length) := by
    rw [List.append_assoc, hX, List.drop_append_of_le_length (by rw [List.length_take]; omega), List.drop_eq_nil_of_le (by rw [List.length_take]; omega), List.nil_append]
  simp only
  rw [e1, e2]
  refine ⟨?_, ?_⟩
  · rw [← List.append_assoc, List.take_append_of_le_length (by simp only [List.length_append, List.length_take]; omega), List.take_of_length_le (by simp only [List.length_append, List.length_take]; omega), hC, List.take_take]
    congr 2
    congr 1; omega
  · simp only [List.length_append, List.length_take, List.length_drop]; omega

theorem grow_cells (A Z X C : List Value) (a k m q : Nat) (hA : A.length = a) (hX : X.length = k) (hC : C.length = m - a) (ham : a ≤ m) (hZ : Z.length = m + k - a + q) :
    let L := A ++ Z
    let L1 := L.take a ++ X ++ L.drop (a + X.length)
    (L1.take (a + k) ++ C ++ L1.drop (a + k + C.length)).take (m + k) = A ++ X ++ C ∧ (L1.take (a + k) ++ C ++ L1.drop (a + k + C.length)).length = m + k + q := by
  simp only
  have e1 : (A ++ Z).take a = A := by rw [List.take_append_of_le_length (by omega), List.take_of_length_le (by omega)]
  rw [e1]
  have e2 : (A ++ X ++ (A ++ Z).drop (a + X.length)).take (a + k) = A ++ X := by
    rw [List.take_append_of_le_length (by simp only [List.length_append]; omega), List.take_of_length_le (by simp only [List.length_append]; omega)]
  rw [e2]
  refine ⟨?_, ?_⟩
  · rw [List.take_append_of_le_length (by simp only [List.length_append]; omega), List.take_of_length_le (by simp only [List.length_append]; omega)]
  · simp only [List.length_append, List.length_drop]; omega

def InsPost (w : World) (base n i : Nat) (l : List EN) (x : EN) (v : Value) (e : Ending) (w' : World) : Prop := ∃ v', e = .returned v' ∧ w'.ownsRow base 32 25 v' (n + 1) ((l.take i ++ x :: l.drop i).flatMap enc25) ∧ w.grownBy w' v.ownBlock
theorem ins_flat (l : List EN) (x : EN) (i : Nat) (hi : i ≤ l.length) : (l.take i ++ x :: l.drop i).flatMap enc25 = (l.flatMap enc25).take (i * 25) ++ enc25 x ++ (l.flatMap enc25).drop (i * 25) := by
  rw [flat_take l i hi, flat_drop l i hi, List.flatMap_append, List.flatMap_cons, List.append_assoc]

set_option maxRecDepth 100000 in
set_option maxHeartbeats 4000000 in
theorem ins_end {w : World} {base n vb : Nat} {l : List EN} (x : EN) (v : Value) (hn : n ≤ 4096) (hl : l.length = n) (hown : w.ownsRow base 32 25 v n (l.flatMap enc25)) (hvb : w.heap[vb]? = some (.cells (enA x) 32 (0, 0))) (hbz : base ≤ w.heap.size) :
    Calls Try.prog 17 #[v, .int .i64 (n : Int), .slice (some ⟨vb, 0, none⟩) 1 1] w (InsPost w base n n l x v) := by
  obtain ⟨M, hM⟩ : ∃ M, M = InsPost w base n n l x v := ⟨_, rfl⟩
  rw [← hM]
  have FIN : ∀ v' w', w'.ownsRow base 32 25 v' (n + 1) (l.flatMap enc25 ++ enc25 x) → w.grownBy w' v.ownBlock → M (.returned v') w' := fun v' w' h1 h2 => by
    rw [hM]
    refine ⟨v', rfl, ?_, h2⟩
    rw [ins_flat l x n (by omega), List.take_of_length_le (by rw [flat_len en25_len]; omega), List.drop_eq_nil_of_le (by rw [flat_len en25_len]; omega), List.append_nil]
    exact h1
  have HF := Lib.hid FIN
  clear FIN hM
  obtain ⟨iu, hiu, hu0, hu1, hu2⟩ := info_parts en_info
  have hnews := row_cells (cs := enc25 x) (o := 0) hvb (fun j u hj => by rw [Nat.zero_add, ← Array.getElem?_toList]; exact hj)
  have h63 : n + 1 ≤ maxLen := by unfold maxLen; omega
  have hby : (n + 1) * 200 ≤ 140737488355328 := by omega
  have HN := Lib.hid hnews
  have HO := Lib.hid hown
  rcases hown.2 with ⟨rfl, rfl⟩ | ⟨g, cap, cur, rfl, hb, hg, h1, h2, _⟩
  · clear hown hnews hvb
    go_enter Try.func17, Try.ntmps17
    go_wp2_with (at_builtin; refine wpList_append_own _ rfl _ _ 22 rfl base 32 iu (.agg #[.int .u64 0, .int .u64 0, .int .u64 0, .int .u64 0, .int .u64 0, .int .u64 0, .int .u64 0, .int .u64 0, .int .u64 0, .int .u64 0, .int .u64 0, .int .u64 0, .int .u64 0, .int .u64 0, .int .u64 0, .int .u64 0, .int .u64 0, .int .u64 0, .int .u64 0, .int .u64 0, .int .u64 0, .int .u64 0, .int .u64 0, .int .u64 0, .int .i64 0]) 25 200 Try.underlying22 hiu hu0 hu1 hu2 rfl (by decide) _ _ _ rfl HO.out ⟨vb, 0, none⟩ 1 1 (enc25 x) rfl rfl HN.out (en25_one x) h63 hby hbz ?_; intro v1 w1 hown1 hgr1 _)
    have FIN := Lib.hid (HF.out _ _ hown1 hgr1)
    clear hown1 hgr1
    go_wp2_with fail
    first | exact FIN.out | (go_ret; exact FIN.out)
  · unfold maxLen at h2
    clear hown hnews hvb
    by_cases hcn : cap = n
    · subst hcn
      go_enter Try.func17, Try.ntmps17
      go_wp2_with (at_builtin; refine wpList_append_own _ rfl _ _ 22 rfl base 32 iu (.agg #[.int .u64 0, .int .u64 0, .int .u64 0, .int .u64 0, .int .u64 0, .int .u64 0, .int .u64 0, .int .u64 0, .int .u64 0, .int .u64 0, .int .u64 0, .int .u64 0, .int .u64 0, .int .u64 0, .int .u64 0, .int .u64 0, .int .u64 0, .int .u64 0, .int .u64 0, .int .u64 0, .int .u64 0, .int .u64 0, .int .u64 0, .int .u64 0, .int .i64 0]) 25 200 Try.underlying22 hiu hu0 hu1 hu2 rfl (by decide) _ _ _ rfl HO.out ⟨vb, 0, none⟩ 1 1 (enc25 x) rfl rfl HN.out (en25_one x) h63 hby hbz ?_; intro v1 w1 hown1 hgr1 _)
      have FIN := Lib.hid (HF.out _ _ hown1 hgr1)
      clear hown1 hgr1
      go_wp2_with fail
      first | exact FIN.out | (go_ret; exact FIN.out)
    · have hcn2 : n < cap := by omega
      go_enter Try.func17, Try.ntmps17
      go_wp2_with (at_builtin; refine wpList_append_own _ rfl _ _ 22 rfl base 32 iu (.agg #[.int .u64 0, .int .u64 0, .int .u64 0, .int .u64 0, .int .u64 0, .int .u64 0, .int .u64 0, .int .u64 0, .int .u64 0, .int .u64 0, .int .u64 0, .int .u64 0, .int .u64 0, .int .u64 0, .int .u64 0, .int .u64 0, .int .u64 0, .int .u64 0, .int .u64 0, .int .u64 0, .int .u64 0, .int .u64 0, .int .u64 0, .int .u64 0, .int .i64 0]) 25 200 Try.underlying22 hiu hu0 hu1 hu2 rfl (by decide) _ _ _ rfl HO.out ⟨vb, 0, none⟩ 1 1 (enc25 x) rfl rfl HN.out (en25_one x) h63 hby hbz ?_; intro v1 w1 hown1 hgr1 _)
      have FIN := Lib.hid (HF.out _ _ hown1 hgr1)
      clear hown1 hgr1
      go_wp2_with fail
      first | exact FIN.out | (go_ret; exact FIN.out)

set_option maxRecDepth 100000 in
set_option maxHeartbeats 4000000 in
theorem ins_in {w : World} {base n i cap g vb : Nat} {l : List EN} (x : EN) (hn : n ≤ 4096) (hl : l.length = n) (hi : i < n) (hroom : n < cap) (hown : w.ownsRow base 32 25 (.slice (some ⟨g, 0, none⟩) n cap) n (l.flatMap enc25)) (hvb : w.heap[vb]? = some (.cells (enA x) 32 (0, 0))) (hne : vb ≠ g) (hbz : base ≤ w.heap.size) :
    Calls Try.prog 17 #[.slice (some ⟨g, 0, none⟩) n cap, .int .i64 (i : Int), .slice (some ⟨vb, 0, none⟩) 1 1] w (InsPost w base n i l x (.slice (some ⟨g, 0, none⟩) n cap)) := by
  obtain ⟨cur, hb, hg, h2, hcs, htk⟩ : ∃ cur, base ≤ g ∧ w.heap[g]? = some (.cells cur 32 (0, 0)) ∧ cap ≤ maxLen ∧ cur.size = cap * 25 ∧ cur.toList.take (n * 25) = l.flatMap enc25 := by
    rcases hown.2 with ⟨h, _⟩ | ⟨g', cap', cur, h, hb, hg, h1, h2, h3, h4⟩
    · cases h
    · simp only [Value.slice.injEq, Option.some.injEq, Addr.mk.injEq, and_true, true_and] at h
      obtain ⟨rfl, rfl⟩ := h
      exact ⟨cur, hb, hg, h2, h3, h4⟩
  unfold maxLen at h2
  have hfl : (l.flatMap enc25).length = n * 25 := by rw [flat_len en25_len, hl]
  obtain ⟨M, hM⟩ : ∃ M, M = InsPost w base n i l x (.slice (some ⟨g, 0, none⟩) n cap) := ⟨_, rfl⟩
  rw [← hM]
  have hC : (l.flatMap enc25).drop (i * 25) = (cur.toList.take (n * 25)).drop (i * 25) := by rw [htk]
  have hCl : ((l.flatMap enc25).drop (i * 25)).length = (n - i) * 25 := by rw [List.length_drop, hfl, Nat.sub_mul]
  have hic := ins_cells cur.toList (enc25 x) ((l.flatMap enc25).drop (i * 25)) (i * 25) 25 (n * 25) rfl hC (by omega) (by simp only [Array.length_toList]; omega)
  rw [htk] at hic
  have hsz : (Try.prog.info? 32).map (·.size) = some 25 := by kernel_rfl
  have hvs : w.shape? vb = some (32, 25) := by simp [World.shape?, hvb]; rfl
  have hgs : w.shape? g = some (32, cap * 25) := by simp [World.shape?, hg, hcs]
  have hov : ∀ lb cb, (callFunc 27 #[.slice (some ⟨vb, 0, none⟩) 1 1, .slice (some ⟨g, (i + 1) * 25, none⟩) lb cb]).run Try.prog w = .ok (.value (.bool false)) w := fun lb cb => by
    rw [run_callFunc_extern Try.func27 (by kernel_rfl) (by kernel_rfl) (by kernel_rfl) (e := Extern.SlicesOverlaps.overlaps #[22, 22] #[4]) (by kernel_rfl),
      Lib.run_overlaps_apart w 22 4 32 Try.underlying22 25 (fun w => by kernel_rfl) ⟨vb, 0, none⟩ ⟨g, (i + 1) * 25, none⟩ 1 1 lb cb hne 32 32 25 (cap * 25) hvs hgs (by omega) (by simp [World.frozen?, hvb]) (by simp [World.frozen?, hvb])]
    rfl
  have hmin1 : Nat.min (n + 1 - i) (n - i) = n - i := by simp only [Nat.min_def]; split <;> omega
  have hmin2 : Nat.min 1 (n + 1 - i) = 1 := by simp only [Nat.min_def]; split <;> omega
  generalize hCC : (l.flatMap enc25).drop (i * 25) = C at *
  have hgd : w.drew.heap[g]? = some (.cells cur 32 (0, 0)) := hg
  have hcp1 := fun ty dc sc => run_copy_k (P := Try.prog) w.drew 22 22 ty 32 25 g ((i + 1) * 25) (n - i) dc ⟨g, i * 25, none⟩ (n + 1 - i) sc cur 32 C Try.underlying22 hsz hgd (by rw [hCl, hmin1])
    (row_cells hgd (fun j v hj => by
      rw [← Array.getElem?_toList]
      rw [hC, List.getElem?_drop, List.getElem?_take] at hj
      split at hj
      · exact hj
      · cases hj)) (by rw [hCl, hcs]; have := Nat.sub_mul n i 25; omega) (fun u hu => by rw [← hCC] at hu; exact flat_one l u (List.mem_of_mem_drop hu))
  obtain ⟨L1, hL1⟩ : ∃ L1, L1 = cur.toList.take ((i + 1) * 25) ++ C ++ cur.toList.drop ((i + 1) * 25 + C.length) := ⟨_, rfl⟩
  rw [← hL1] at hcp1
  obtain ⟨W1, hW1⟩ : ∃ W1, W1 = w.drew.setRow g L1.toArray := ⟨_, rfl⟩
  rw [← hW1] at hcp1
  have hg1 : W1.heap[g]? = some (.cells L1.toArray 32 (0, 0)) := by rw [hW1]; exact setRow_heap w.drew g cur L1.toArray 32 (0, 0) hgd
  have hv1 : W1.heap[vb]? = some (.cells (enA x) 32 (0, 0)) := by rw [hW1, setRow_other hne]; exact hvb
  have hl1 : L1.length = cap * 25 := by rw [hL1]; simp only [List.length_append, List.length_take, List.length_drop, Array.length_toList]; rw [hCl, hcs]; have := Nat.sub_mul n i 25; omega
  have hcp2 := fun ty dc sc => run_copy_k (P := Try.prog) W1 22 22 ty 32 25 g (i * 25) (n + 1 - i) dc ⟨vb, 0, none⟩ 1 sc L1.toArray 32 (enc25 x) Try.underlying22 hsz hg1 (by rw [hmin2]; rfl)
    (row_cells hv1 (fun j v hj => by rw [Nat.zero_add, ← Array.getElem?_toList]; exact hj)) (by rw [en25_len]; simp only [List.size_toArray]; omega) (en25_one x)
  obtain ⟨L2, hL2⟩ : ∃ L2, L2 = L1.toArray.toList.take (i * 25) ++ enc25 x ++ L1.toArray.toList.drop (i * 25 + (enc25 x).length) := ⟨_, rfl⟩
  rw [← hL2] at hcp2
  have FIN : M (.returned (.slice (some ⟨g, 0, none⟩) (n + 1) cap)) (W1.setRow g L2.toArray) := by
    have hx := hic
    rw [show i * 25 + 25 = (i + 1) * 25 by omega, ← hL1] at hx
    simp only at hx
    have hx1 : L2 = L1.take (i * 25) ++ enc25 x ++ L1.drop (i * 25 + (enc25 x).length) := by rw [hL2]
    rw [← hx1] at hx
    rw [hM]
    refine ⟨_, rfl, ⟨?_, .inr ⟨g, cap, L2.toArray, rfl, hb, setRow_heap W1 g L1.toArray L2.toArray 32 (0, 0) hg1, by omega, by unfold maxLen; omega, ?_, ?_⟩⟩, ?_⟩
    · rw [flat_len en25_len]; simp; omega
    · simp only [List.size_toArray]
      rw [hx.2, Array.length_toList, hcs]
    · rw [ins_flat l x i (by omega), hCC]
      simp only
      rw [show (n + 1) * 25 = n * 25 + 25 by omega, hx.1]
    · rw [hW1]
      exact ⟨rfl, rfl, rfl, by simp, fun k _ hk => (setRow_other (fun e => hk (by simp [Value.ownBlock, e])) _).trans (setRow_other (fun e => hk (by simp [Value.ownBlock, e])) _)⟩
  have HF := Lib.hid FIN
  have HC1 := Lib.hid hcp1
  have HC2 := Lib.hid hcp2
  rw [hmin1] at HC1
  rw [hmin2] at HC2
  clear FIN hcp1 hcp2 hic hC hCl hCC hL1 hL2 hW1 hg1 hv1 hl1 hgd hvs hgs hvb hown hg htk hcs hM hfl
  have t1 : ((i : Int) == (n : Int)) = false := by simp; omega
  have t2 : decide ((cap : Int) < (n : Int) + 1) = false := by simp; omega
  have hw1 : IntKind.i64.wrap ((n : Int) + 1) = (n : Int) + 1 := by rw [IntKind.wrap_i64]; omega
  have hw2 : IntKind.i64.wrap ((i : Int) + 1) = (i : Int) + 1 := by rw [IntKind.wrap_i64]; omega
  have n1 : ((n : Int) + 1).toNat = n + 1 := by omega
  have n2 : ((i : Int) + 1).toNat = i + 1 := by omega
  have c1 : ¬ cap = i + 1 := by omega
  have c2 : ¬ cap = i := by omega
  have b1 : 0 ≤ (i : Int) + 1 := by omega
  have b2 : i ≤ n := by omega
  have b3 : (i : Int) ≤ (n : Int) + 1 := by omega
  have b4 : i ≤ n + 1 := by omega
  go_enter Try.func17, Try.ntmps17
  go_wp2_with (simp only [hov])
  go_still_tail 8, (by kernel_rfl)
  change wpList _ _ _ _ _ w.drew
  refine wpList_copy_run _ rfl _ _ _ _ rfl _ _ rfl rfl _ _ (HC1.out _ _ _) ?_
  refine wpList_nil ?_
  generalize W1.setRow g L2.toArray = W2 at *
  have hc82 := HC2.out
  have hfin := HF.out
  clear HC2 HC1 hov HF
  go_wp2_with fail
  first | exact hfin | (go_ret; exact hfin)

set_option maxRecDepth 100000 in
set_option maxHeartbeats 4000000 in
theorem ins_grow {w : World} {base n i g vb : Nat} {l : List EN} (x : EN) (hn : n ≤ 4096) (hl : l.length = n) (hi : i < n) (hown : w.ownsRow base 32 25 (.slice (some ⟨g, 0, none⟩) n n) n (l.flatMap enc25)) (hvb : w.heap[vb]? = some (.cells (enA x) 32 (0, 0))) (hbz : base ≤ w.heap.size) :
    Calls Try.prog 17 #[.slice (some ⟨g, 0, none⟩) n n, .int .i64 (i : Int), .slice (some ⟨vb, 0, none⟩) 1 1] w (InsPost w base n i l x (.slice (some ⟨g, 0, none⟩) n n)) := by
  obtain ⟨cur, hb, hg, hcs, htk⟩ : ∃ cur, base ≤ g ∧ w.heap[g]? = some (.cells cur 32 (0, 0)) ∧ cur.size = n * 25 ∧ cur.toList.take (n * 25) = l.flatMap enc25 := by
    rcases hown.2 with ⟨h, _⟩ | ⟨g', cap', cur, h, hb, hg, h1, h2, h3, h4⟩
    · cases h
    · simp only [Value.slice.injEq, Option.some.injEq, Addr.mk.injEq, and_true, true_and] at h
      obtain ⟨rfl, rfl⟩ := h
      exact ⟨cur, hb, hg, h3, h4⟩
  have hcl : cur.toList = l.flatMap enc25 := by rw [← htk, List.take_of_length_le (by rw [Array.length_toList, hcs]; exact Nat.le_refl _)]
  have hfl : (l.flatMap enc25).length = n * 25 := by rw [flat_len en25_len, hl]
  obtain ⟨M, hM⟩ : ∃ M, M = InsPost w base n i l x (.slice (some ⟨g, 0, none⟩) n n) := ⟨_, rfl⟩
  rw [← hM]
  obtain ⟨iu, hiu, hu0, hu1, hu2⟩ := info_parts en_info
  obtain ⟨Z, hZ⟩ : ∃ Z : Array Value, Z = #[.int .u64 0, .int .u64 0, .int .u64 0, .int .u64 0, .int .u64 0, .int .u64 0, .int .u64 0, .int .u64 0, .int .u64 0, .int .u64 0, .int .u64 0, .int .u64 0, .int .u64 0, .int .u64 0, .int .u64 0, .int .u64 0, .int .u64 0, .int .u64 0, .int .u64 0, .int .u64 0, .int .u64 0, .int .u64 0, .int .u64 0, .int .u64 0, .int .i64 0] := ⟨_, rfl⟩
  rw [← hZ] at hu0
  have hZs : ∀ k, (Builtin.zeroCells (Value.agg Z).cells k).size = k * 25 := fun k => by rw [size_zeroCells, hZ]; simp [Value.cells, Nat.mul_comm]
  clear hZ
  obtain ⟨C, hCC⟩ : ∃ C, (l.flatMap enc25).drop (i * 25) = C := ⟨_, rfl⟩
  have hCl : C.length = (n - i) * 25 := by rw [← hCC, List.length_drop, hfl, Nat.sub_mul]
  obtain ⟨O, hO⟩ : ∃ O, (l.flatMap enc25).take (i * 25) = O := ⟨_, rfl⟩
  have hOl : O.length = i * 25 := by rw [← hO, List.length_take, hfl]; omega
  have hsub := Nat.sub_mul n i 25
  have hsz : (Try.prog.info? 32).map (·.size) = some 25 := by kernel_rfl
  obtain ⟨G, hG⟩ : ∃ G, G = grownCap w (i + (n + 1 - i)) n 32 := ⟨_, rfl⟩
  have hGn : n + 1 ≤ G := by have := grownCap_ge w (i + (n + 1 - i)) n 32; omega
  have hGm : G ≤ maxLen := by rw [hG]; exact grownCap_le_maxLen w _ _ _ (by unfold maxLen; omega)
  obtain ⟨ROW, hROW⟩ : ∃ ROW : Array Value, ROW = O.toArray ++ Builtin.zeroCells (Value.agg Z).cells (n + 1 - i) ++ Builtin.zeroCells (Value.agg Z).cells (G - (i + (n + 1 - i))) := ⟨_, rfl⟩
  have hrz : ∀ ty, (Builtin.append_ #[22, 3] ty #[.slice (some ⟨g, 0, none⟩) i n, .int .i64 ((n + 1 - i : Nat) : Int)]).run Try.prog w = .ok (.slice (some ⟨w.heap.size, 0, none⟩) (i + (n + 1 - i)) G) (w.drew.alloc (.cells ROW 32)) := fun ty => by
    have h := run_append_zeros (P := Try.prog) w 22 3 ty 32 iu (.agg Z) .i64 Try.underlying22 Try.underlying3 hiu hu0 ⟨g, 0, none⟩ i n O (by rw [hOl, hu1])
      (row_cells hg (fun j v hj => by
        rw [Nat.zero_add, ← Array.getElem?_toList, hcl]
        rw [← hO, List.getElem?_take] at hj
        split at hj
        · exact hj
        · cases hj)) (n + 1 - i) (by omega) (by omega) (by omega) (by omega) (by rw [hu2]; omega) (by have := nextslicecap_le (need := i + (n + 1 - i)) (old := n) (by omega); have := Nat.mul_le_mul_right iu.bytes this; rw [hu2] at *; omega)
    rw [← hG, ← hROW] at h
    exact h
  have hin : i + (n + 1 - i) = n + 1 := by omega
  have hRl : ROW.size = G * 25 := by
    rw [hROW, Array.size_append, Array.size_append, hZs, hZs, List.size_toArray, hOl]
    have := Nat.sub_mul (n + 1) i 25
    have := Nat.sub_mul G (i + (n + 1 - i)) 25
    omega
  have hRL : ROW.toList = O ++ (Builtin.zeroCells (Value.agg Z).cells (n + 1 - i) ++ Builtin.zeroCells (Value.agg Z).cells (G - (i + (n + 1 - i)))).toList := by rw [hROW]; simp
  have hgc := grow_cells O (Builtin.zeroCells (Value.agg Z).cells (n + 1 - i) ++ Builtin.zeroCells (Value.agg Z).cells (G - (i + (n + 1 - i)))).toList (enc25 x) C (i * 25) 25 (n * 25) ((G - (n + 1)) * 25) hOl rfl (by rw [hCl]; omega) (by omega)
    (by rw [Array.length_toList, Array.size_append, hZs, hZs, hin]; have := Nat.sub_mul (n + 1) i 25; omega)
  rw [← hRL] at hgc
  simp only at hgc
  have hgs : g < w.heap.size := by
    cases hh : w.heap[g]? with
    | none => rw [hh] at hg; cases hg
    | some _ => exact (Array.getElem?_eq_some_iff.1 hh).1
  have hvs : vb < w.heap.size := by
    cases hh : w.heap[vb]? with
    | none => rw [hh] at hvb; cases hvb
    | some _ => exact (Array.getElem?_eq_some_iff.1 hh).1
  obtain ⟨W1, hW1⟩ : ∃ W1, W1 = w.drew.alloc (.cells ROW 32) := ⟨_, rfl⟩
  rw [← hW1] at hrz
  have hN1 : W1.heap[w.heap.size]? = some (.cells ROW 32 (0, 0)) := by rw [hW1]; exact heap_alloc_new w.drew _
  have hP1 : ∀ b o, b < w.heap.size → w.heap[b]? = some o → W1.heap[b]? = some o := fun b o hb h => by rw [hW1]; exact blk_al (w := w.drew) h _
  have hmin1 : Nat.min (n - i) (n - i) = n - i := by simp only [Nat.min_def]; split <;> omega
  have hmin2 : Nat.min 1 (n + 1 - i) = 1 := by simp only [Nat.min_def]; split <;> omega
  obtain ⟨H, hH⟩ : ∃ H, H = w.heap.size := ⟨_, rfl⟩
  rw [← hH] at hrz hN1
  rw [hin] at hrz
  have hHg : g ≠ H := by omega
  have hHv : vb ≠ H := by omega
  have hcp1 := fun ty dc sc => run_copy_k (P := Try.prog) W1 22 22 ty 32 25 H (i * 25) (n + 1 - i) dc ⟨vb, 0, none⟩ 1 sc ROW 32 (enc25 x) Try.underlying22 hsz hN1 (by rw [hmin2]; rfl)
    (row_cells (hP1 vb _ hvs hvb) (fun j v hj => by rw [Nat.zero_add, ← Array.getElem?_toList]; exact hj)) (by rw [en25_len, hRl]; omega) (en25_one x)
  obtain ⟨L1, hL1⟩ : ∃ L1, L1 = ROW.toList.take (i * 25) ++ enc25 x ++ ROW.toList.drop (i * 25 + (enc25 x).length) := ⟨_, rfl⟩
  rw [← hL1] at hcp1 hgc
  obtain ⟨W2, hW2⟩ : ∃ W2, W2 = W1.setRow H L1.toArray := ⟨_, rfl⟩
  rw [← hW2] at hcp1
  have hN2 : W2.drew.heap[H]? = some (.cells L1.toArray 32 (0, 0)) := by rw [hW2]; exact setRow_heap W1 H ROW L1.toArray 32 (0, 0) hN1
  have hg2 : W2.drew.heap[g]? = some (.cells cur 32 (0, 0)) := by
    have : (W1.setRow H L1.toArray).heap[g]? = some (.cells cur 32 (0, 0)) := by rw [setRow_other hHg]; exact hP1 g _ hgs hg
    rw [hW2]; exact this
  have hl1 : L1.length = G * 25 := by rw [hL1]; simp only [List.length_append, List.length_take, List.length_drop, Array.length_toList]; rw [en25_len, hRl]; omega
  have hcp2 := fun ty dc sc => run_copy_k (P := Try.prog) W2.drew 22 22 ty 32 25 H ((i + 1) * 25) (n - i) dc ⟨g, i * 25, none⟩ (n - i) sc L1.toArray 32 C Try.underlying22 hsz hN2 (by rw [hCl, hmin1])
    (row_cells hg2 (fun j v hj => by
      rw [← Array.getElem?_toList, hcl]
      rw [← hCC, List.getElem?_drop] at hj
      exact hj)) (by rw [hCl]; simp only [List.size_toArray]; rw [hl1]; omega) (fun u hu => by rw [← hCC] at hu; exact flat_one l u (List.mem_of_mem_drop hu))
  obtain ⟨L2, hL2⟩ : ∃ L2, L2 = L1.toArray.toList.take ((i + 1) * 25) ++ C ++ L1.toArray.toList.drop ((i + 1) * 25 + C.length) := ⟨_, rfl⟩
  rw [← hL2] at hcp2
  obtain ⟨W3, hW3⟩ : ∃ W3, W3 = W2.drew.setRow H L2.toArray := ⟨_, rfl⟩
  rw [← hW3] at hcp2
  have FIN : M (.returned (.slice (some ⟨H, 0, none⟩) (n + 1) G)) W3 := by
    have hx := hgc
    rw [show i * 25 + 25 = (i + 1) * 25 by omega] at hx
    have hx1 : L2 = L1.take ((i + 1) * 25) ++ C ++ L1.drop ((i + 1) * 25 + C.length) := by rw [hL2]
    rw [← hx1] at hx
    rw [hM]
    refine ⟨_, rfl, ⟨?_, .inr ⟨H, G, L2.toArray, rfl, by omega, by rw [hW3]; exact setRow_heap W2.drew H L1.toArray L2.toArray 32 (0, 0) hN2, hGn, hGm, ?_, ?_⟩⟩, ?_⟩
    · rw [flat_len en25_len]; simp; omega
    · simp only [List.size_toArray]
      rw [hx.2]; have := Nat.sub_mul G (n + 1) 25; omega
    · rw [ins_flat l x i (by omega), hCC, hO]
      simp only
      rw [show (n + 1) * 25 = n * 25 + 25 by omega, hx.1]
    · have h1 : W1.heap.size = w.heap.size + 1 := by rw [hW1]; exact al_size w.drew _
      have hk1 : ∀ k, k < w.heap.size → W3.heap[k]? = w.heap[k]? := fun k hk => by
        rw [hW3, setRow_other (by omega)]
        show W2.heap[k]? = _
        rw [hW2, setRow_other (by omega), hW1]
        exact al_old (w := w.drew) hk _
      have hos : W1.os = w.os ∧ W1.output = w.output ∧ W1.tape = w.tape := by rw [hW1]; exact ⟨rfl, rfl, rfl⟩
      have hw3 : W3.os = W1.os ∧ W3.output = W1.output ∧ W3.tape = W1.tape ∧ W3.heap.size = W1.heap.size := by
        rw [hW3]
        have e2 : W2.drew.os = W1.os ∧ W2.drew.output = W1.output ∧ W2.drew.tape = W1.tape ∧ W2.drew.heap.size = W1.heap.size := by rw [hW2]; exact ⟨rfl, rfl, rfl, by simp⟩
        exact ⟨e2.1, e2.2.1, e2.2.2.1, by rw [← e2.2.2.2]; simp⟩
      exact ⟨hw3.1.trans hos.1, hw3.2.2.1.trans hos.2.2, hw3.2.1.trans hos.2.1, by omega, fun k hk _ => hk1 k hk⟩
  have HR := Lib.hid hrz
  have HF := Lib.hid FIN
  have HC1 := Lib.hid hcp1
  have HC2 := Lib.hid hcp2
  rw [hmin2] at HC1
  rw [hmin1] at HC2
  clear FIN hrz hcp1 hcp2 hgc hL1 hL2 hW1 hW2 hW3 hN1 hN2 hg2 hl1 hcl htk hg hvb hown hH hHg hHv hP1 hROW hRL hRl hG hgs hvs hsub hO hOl hCC hCl hM hfl hcs hsz hZs hu0 hu1 hu2 hiu hin
  unfold maxLen at hGm
  have t1 : ((i : Int) == (n : Int)) = false := by simp; omega
  have t2 : decide ((n : Int) < (n : Int) + 1) = true := by simp; omega
  have hw1 : IntKind.i64.wrap ((n : Int) + 1) = (n : Int) + 1 := by rw [IntKind.wrap_i64]; omega
  have hw2 : IntKind.i64.wrap ((i : Int) + 1) = (i : Int) + 1 := by rw [IntKind.wrap_i64]; omega
  have hw3 : IntKind.i64.wrap ((n : Int) + 1 - (i : Int)) = ((n + 1 - i : Nat) : Int) := by rw [IntKind.wrap_i64]; omega
  have n1 : ((n : Int) + 1).toNat = n + 1 := by omega
  have n2 : ((i : Int) + 1).toNat = i + 1 := by omega
  have c1 : ¬ G = i + 1 := by omega
  have c2 : ¬ G = i := by omega
  have c3 : ¬ n = i := by omega
  have b1 : 0 ≤ (i : Int) + 1 := by omega
  have b2 : i ≤ n := by omega
  have b3 : (i : Int) ≤ (n : Int) + 1 := by omega
  have b4 : i ≤ n + 1 := by omega
  have hc1 := HC1.out
  clear HC1
  go_enter Try.func17, Try.ntmps17
  go_wp2_with (at_builtin; refine Lib.wpList_append_run _ rfl _ _ _ _ rfl _ _ rfl rfl _ _ (HR.out _) ?_)
  go_still_tail 8, (by kernel_rfl)
  change wpList _ _ _ _ _ W2.drew
  refine wpList_copy_run _ rfl _ _ _ _ rfl _ _ rfl rfl _ _ (HC2.out _ _ _) ?_
  refine wpList_nil ?_
  have hfin := HF.out
  clear HC2 HR HF hc1
  go_wp2_with fail
  first | exact hfin | (go_ret; exact hfin)

/-- Insert of one entry. -/
theorem ins_any {w : World} {base n i vb : Nat} {l : List EN} (x : EN) (v : Value) (hn : n ≤ 4096) (hl : l.length = n) (hi : i ≤ n) (hown : w.ownsRow base 32 25 v n (l.flatMap enc25)) (hvb : w.heap[vb]? = some (.cells (enA x) 32 (0, 0))) (hne : ∀ g, v.ownBlock = some g → vb ≠ g) (hbz : base ≤ w.heap.size) :
    Calls Try.prog 17 #[v, .int .i64 (i : Int), .slice (some ⟨vb, 0, none⟩) 1 1] w (InsPost w base n i l x v) := by
  by_cases h : i = n
  · subst h; exact ins_end x v hn hl hown hvb hbz
  · rcases hown.2 with ⟨_, rfl⟩ | ⟨g, cap, cur, rfl, hb, hg, h1, h2, h3, h4⟩
    · omega
    · by_cases hc : cap = n
      · subst hc; exact ins_grow x hn hl (by omega) hown hvb hbz
      · exact ins_in x hn hl (by omega) (by omega) hown hvb (hne g rfl) hbz
end Go.Proofs.Ytomennaekjklbaa

namespace Go.Proofs.Ytomennaekjklbaa
open Go.RowKit Go.Lib Go.Sort
set_option linter.unusedVariables false
set_option linter.unusedSimpArgs false

theorem del_cells (L C Z : List Value) (a k m : Nat) (hC : C = (L.take m).drop (a + k)) (ham : a + k ≤ m) (hm : m ≤ L.length) (hZ : Z.length = k) :
    let L1 := L.take a ++ C ++ L.drop (a + C.length)
    (L1.take (m - k) ++ Z ++ L1.drop (m - k + Z.length)).take (m - k) = (L.take m).take a ++ (L.take m).drop (a + k) ∧ (L1.take (m - k) ++ Z ++ L1.drop (m - k + Z.length)).length = L.length ∧ L1.length = L.length := by
  have hCl : C.length = m - (a + k) := by rw [hC, List.length_drop, List.length_take]; omega
  have h1 : (L.take a ++ C ++ L.drop (a + C.length)).length = L.length := by simp only [List.length_append, List.length_take, List.length_drop]; omega
  have e1 : (L.take a ++ C ++ L.drop (a + C.length)).take (m - k) = L.take a ++ C := by
    rw [List.take_append_of_le_length (by simp only [List.length_append, List.length_take]; omega), List.take_of_length_le (by simp only [List.length_append, List.length_take]; omega)]
  simp only
  rw [e1]
  refine ⟨?_, ?_, h1⟩
  · rw [List.append_assoc, List.take_append_of_le_length (by simp only [List.length_append, List.length_take]; omega), List.take_of_length_le (by simp only [List.length_append, List.length_take]; omega), List.take_take, hC]
    congr 2; omega
  · simp only [List.length_append, List.length_take, List.length_drop] at h1 ⊢
    omega

def DelPost (w : World) (base n i : Nat) (l : List EN) (v : Value) (e : Ending) (w' : World) : Prop := ∃ v', e = .returned v' ∧ w'.ownsRow base 32 25 v' (n - 1) ((l.take i ++ l.drop (i + 1)).flatMap enc25) ∧ w.grownBy w' v.ownBlock
def zEn : Array Value := #[.int .u64 0, .int .u64 0, .int .u64 0, .int .u64 0, .int .u64 0, .int .u64 0, .int .u64 0, .int .u64 0, .int .u64 0, .int .u64 0, .int .u64 0, .int .u64 0, .int .u64 0, .int .u64 0, .int .u64 0, .int .u64 0, .int .u64 0, .int .u64 0, .int .u64 0, .int .u64 0, .int .u64 0, .int .u64 0, .int .u64 0, .int .u64 0, .int .i64 0]
theorem zEn_size : (Builtin.zeroCells (Value.agg zEn).cells 1).size = 25 := by rw [size_zeroCells]; rfl
theorem zEn_one : ∀ v ∈ (Builtin.zeroCells (Value.agg zEn).cells 1).toList, v.oneCell' = true := fun v hv => List.all_eq_true.1 (by kernel_rfl) v hv

set_option maxRecDepth 100000 in
set_option maxHeartbeats 400000 in
theorem del_any {w : World} {base n i cap g : Nat} {l : List EN} (hn : n ≤ 4096) (hl : l.length = n) (hi : i < n) (hown : w.ownsRow base 32 25 (.slice (some ⟨g, 0, none⟩) n cap) n (l.flatMap enc25)) (hbz : base ≤ w.heap.size) :
    Calls Try.prog 18 #[.slice (some ⟨g, 0, none⟩) n cap, .int .i64 (i : Int), .int .i64 ((i : Int) + 1)] w (DelPost w base n i l (.slice (some ⟨g, 0, none⟩) n cap)) := by
  obtain ⟨cur, hb, hg, hnc, h2, hcs, htk⟩ : ∃ cur, base ≤ g ∧ w.heap[g]? = some (.cells cur 32 (0, 0)) ∧ n ≤ cap ∧ cap ≤ maxLen ∧ cur.size = cap * 25 ∧ cur.toList.take (n * 25) = l.flatMap enc25 := by
    rcases hown.2 with ⟨h, _⟩ | ⟨g', cap', cur, h, hb, hg, h1, h2, h3, h4⟩
    · cases h
    · simp only [Value.slice.injEq, Option.some.injEq, Addr.mk.injEq, and_true, true_and] at h
      obtain ⟨rfl, rfl⟩ := h
      exact ⟨cur, hb, hg, h1, h2, h3, h4⟩
  unfold maxLen at h2
  have hfl : (l.flatMap enc25).length = n * 25 := by rw [flat_len en25_len, hl]
  obtain ⟨M, hM⟩ : ∃ M, M = DelPost w base n i l (.slice (some ⟨g, 0, none⟩) n cap) := ⟨_, rfl⟩
  rw [← hM]
  obtain ⟨iu, hiu, hu0, hu1, hu2⟩ := info_parts en_info
  have hC : (l.flatMap enc25).drop ((i + 1) * 25) = (cur.toList.take (n * 25)).drop ((i + 1) * 25) := by rw [htk]
  have hCl : ((l.flatMap enc25).drop ((i + 1) * 25)).length = (n - (i + 1)) * 25 := by rw [List.length_drop, hfl, Nat.sub_mul]
  have hdc := del_cells cur.toList ((l.flatMap enc25).drop ((i + 1) * 25)) (Builtin.zeroCells (Value.agg zEn).cells 1).toList (i * 25) 25 (n * 25) (by rw [show i * 25 + 25 = (i + 1) * 25 by omega]; exact hC) (by omega) (by simp only [Array.length_toList]; omega) (by rw [Array.length_toList]; exact zEn_size)
  rw [htk] at hdc
  generalize hCC : (l.flatMap enc25).drop ((i + 1) * 25) = C at *
  have hgd : w.drew.heap[g]? = some (.cells cur 32 (0, 0)) := hg
  have hone : ∀ u ∈ C, u.oneCell' = true := fun u hu => by rw [← hCC] at hu; exact flat_one l u (List.mem_of_mem_drop hu)
  have hap := fun (ad : Addr) (ty : TypeId) (c : Nat) (had : 0 < n - (i + 1) → ad = ⟨g, (i + 1) * 25, none⟩) => run_append_room (P := Try.prog) w.drew 22 ty 32 iu Try.underlying22 hiu g i cap cur hgd ad (n - (i + 1)) c C (by rw [hCl, hu1])
    (fun j v hj => by
      have hlt : j < C.length := (List.getElem?_eq_some_iff.1 hj).1
      rw [had (by omega)]
      exact row_cells hgd (cs := C) (fun j v hj => by
        rw [← Array.getElem?_toList]
        rw [hC, List.getElem?_drop, List.getElem?_take] at hj
        split at hj
        · exact hj
        · cases hj) j v hj) hone (by omega) (by rw [hu1, hCl, hcs]; have := Nat.sub_mul n (i + 1) 25; omega)
  rw [hu1] at hap
  obtain ⟨L1, hL1⟩ : ∃ L1, L1 = cur.toList.take (i * 25) ++ C ++ cur.toList.drop (i * 25 + C.length) := ⟨_, rfl⟩
  rw [← hL1] at hap
  obtain ⟨W1, hW1⟩ : ∃ W1, W1 = w.drew.setRow g L1.toArray := ⟨_, rfl⟩
  rw [← hW1] at hap
  have hg1 : W1.heap[g]? = some (.cells L1.toArray 32 (0, 0)) := by rw [hW1]; exact setRow_heap w.drew g cur L1.toArray 32 (0, 0) hgd
  rw [← hL1] at hdc
  have hcl := fun ty c => run_clear_k (P := Try.prog) W1 22 ty 32 iu (.agg zEn) Try.underlying22 hiu hu0 g ((n - 1) * 25) 1 c L1.toArray 32 hg1 (by omega) (by rw [zEn_size]; simp only [List.size_toArray]; rw [hdc.2.2, Array.length_toList, hcs]; omega) zEn_one
  obtain ⟨L2, hL2⟩ : ∃ L2, L2 = L1.toArray.toList.take ((n - 1) * 25) ++ (Builtin.zeroCells (Value.agg zEn).cells 1).toList ++ L1.toArray.toList.drop ((n - 1) * 25 + (Builtin.zeroCells (Value.agg zEn).cells 1).size) := ⟨_, rfl⟩
  rw [← hL2] at hcl
  have FIN : M (.returned (.slice (some ⟨g, 0, none⟩) (n - 1) cap)) (W1.setRow g L2.toArray) := by
    have hx := hdc
    simp only at hx
    have hx1 : L2 = L1.take (n * 25 - 25) ++ (Builtin.zeroCells (Value.agg zEn).cells 1).toList ++ L1.drop (n * 25 - 25 + (Builtin.zeroCells (Value.agg zEn).cells 1).toList.length) := by rw [hL2, show (n - 1) * 25 = n * 25 - 25 by omega, Array.length_toList]
    rw [← hx1] at hx
    rw [hM]
    refine ⟨_, rfl, ⟨?_, .inr ⟨g, cap, L2.toArray, rfl, hb, setRow_heap W1 g L1.toArray L2.toArray 32 (0, 0) hg1, by omega, by unfold maxLen; omega, ?_, ?_⟩⟩, ?_⟩
    · rw [flat_len en25_len]; simp; omega
    · simp only [List.size_toArray]
      rw [hx.2.1, Array.length_toList, hcs]
    · simp only
      rw [show (n - 1) * 25 = n * 25 - 25 by omega, hx.1, List.flatMap_append, ← flat_take l i (by omega), ← flat_drop l (i + 1) (by omega), show i * 25 + 25 = (i + 1) * 25 by omega]
    · rw [hW1]
      exact ⟨rfl, rfl, rfl, by simp, fun k _ hk => (setRow_other (fun e => hk (by simp [Value.ownBlock, e])) _).trans (setRow_other (fun e => hk (by simp [Value.ownBlock, e])) _)⟩
  have HF := Lib.hid FIN
  have HA := Lib.hid hap
  have HC2 := Lib.hid hcl
  have hin : i + (n - (i + 1)) = n - 1 := by omega
  rw [hin] at HA
  clear FIN hap hcl hdc hC hCl hCC hL1 hL2 hW1 hg1 hgd hown hg htk hcs hM hfl hone hin hu0 hu1 hu2 hiu
  have t1 : ((i : Int) == (i : Int) + 1) = false := by simp; omega
  have hw2 : IntKind.i64.wrap ((i : Int) + 1) = (i : Int) + 1 := by rw [IntKind.wrap_i64]; omega
  have n2 : ((i : Int) + 1).toNat = i + 1 := by omega
  have n3 : ((n - 1 : Nat) : Int) = (n : Int) - 1 := by omega
  have c2 : ¬ cap = i := by omega
  have c3 : ¬ cap = n - 1 := by omega
  have b1 : 0 ≤ (i : Int) + 1 := by omega
  have b2 : i + 1 ≤ n := by omega
  have b3 : (i : Int) + 1 ≤ (n : Int) := by omega
  have b4 : i ≤ n := by omega
  have b5 : i ≤ cap := by omega
  by_cases hcap : cap = i + 1
  · subst hcap
    go_enter Try.func18, Try.ntmps18
    go_wp2_with fail
    have b6 : (i : Int) ≤ (i : Int) + 1 := by omega
    go_still_tail 6, (by kernel_rfl)
    change wpList _ _ _ _ _ w.drew
    have ha := HA.out ⟨g, 0, none⟩ 22 0 (fun h => absurd h (by omega))
    rw [show n - (i + 1) = 0 by omega] at ha
    refine Lib.wpList_append_run _ rfl _ _ _ _ rfl _ _ rfl rfl _ _ ha ?_
    have hfin := HF.out
    have hc := HC2.out
    clear HA HF HC2
    have n4 : n - (n - 1) = 1 := by omega
    go_wp2_with fail
    first | exact hfin | (go_ret; exact hfin) | (go_outline; trace_state)
  · go_enter Try.func18, Try.ntmps18
    go_wp2_with fail
    go_still_tail 6, (by kernel_rfl)
    change wpList _ _ _ _ _ w.drew
    refine Lib.wpList_append_run _ rfl _ _ _ _ rfl _ _ rfl rfl _ _ (HA.out _ _ _ (fun _ => rfl)) ?_
    have hfin := HF.out
    have hc := HC2.out
    clear HA HF HC2
    have n4 : n - (n - 1) = 1 := by omega
    go_wp2_with fail
    first | exact hfin | (go_ret; exact hfin) | (go_outline; trace_state)
end Go.Proofs.Ytomennaekjklbaa

namespace Go.Proofs.Ytomennaekjklbaa
open Go.RowKit Go.Lib Go.Sort
set_option linter.unusedVariables false
set_option linter.unusedSimpArgs false

/-- A row of its own with the same entries. -/
def ClonPost (w : World) (l : List EN) (e : Ending) (w' : World) : Prop := ∃ v, e = .returned v ∧ w'.ownsRow w.heap.size 32 25 v l.length (l.flatMap enc25) ∧ Below w.heap.size w w'
set_option maxRecDepth 100000 in
set_option maxHeartbeats 4000000 in
theorem clone_own (A : Option Addr) (n c : Nat) (l : List EN) (hn : n ≤ 4096) (w : World) (hS : Sl w 25 enc25 A n l) : Calls Try.prog 14 #[.slice A n c] w (ClonPost w l) := by
  obtain ⟨M, hM⟩ : ∃ M, M = ClonPost w l := ⟨_, rfl⟩
  rw [← hM]
  have HM := Lib.hid hM; clear hM
  obtain ⟨iu, hiu, hu0, hu1, hu2⟩ := info_parts en_info
  have qT : ∀ (w : World) (a : Option Addr) (n c n' c' : Nat), (binOp .eql 22 (.slice a n c) (.slice none n' c')).run Try.prog w = .ok (.bool a.isNone) w := fun w a n c n' c' => Lib.run_eql_slice_nil w _ _ a n c n' c' Try.underlying22
  have HLEN := Lib.hid hS.len
  cases A with
  | none =>
    have hn0 : n = 0 := by
      apply Classical.byContradiction; intro hh
      obtain ⟨b, off, hA, _⟩ := hS.row (by omega)
      cases hA
    subst hn0
    have e0 : l = [] := List.eq_nil_of_length_eq_zero HLEN.out
    subst e0
    have FIN : M (.returned (.slice none 0 0)) w := by
      rw [HM.out]
      exact ⟨_, rfl, ⟨rfl, .inl ⟨rfl, rfl⟩⟩, Below.refl _ _⟩
    have FIN := Lib.hid FIN
    clear HLEN hS
    go_enter Try.func14, Try.ntmps14
    go_wp2_with fail
    first | exact FIN.out | (simp [bodyPost, results, Try.results14, go_sem]; exact FIN.out) | (go_ret; exact FIN.out)
  | some ad =>
    have hown8 : (w.alloc (.cells #[] 32)).ownsRow w.heap.size 32 25 (.slice (some ⟨w.heap.size, 0, none⟩) 0 0) 0 ([] : List Value) := World.ownsRow_made w #[] 0 (Nat.le_refl _) (by unfold maxLen; omega) rfl
    have b0 := Below.al (Below.refl w.heap.size w) (.cells #[] 32)
    have hS8 := hS.keep b0
    have hb81 : (0 + n) * 200 ≤ 140737488355328 := by omega
    have h863 : 0 + n ≤ maxLen := by unfold maxLen; omega
    have hS8 := Lib.hid hS8
    have hbw8 : w.heap.size ≤ (w.alloc (.cells #[] 32)).heap.size := by rw [al_size]; omega
    have HB0 := Lib.hid b0
    clear hS b0
    go_enter Try.func14, Try.ntmps14
    go_upto_region 3 with fail
    go_wp2_with (first | (refine wpList_bs0 rfl rfl ?_) | (at_builtin; go_loud (refine app_sl rfl _ _ 22 rfl w.heap.size 32 iu (.agg #[.int .u64 0, .int .u64 0, .int .u64 0, .int .u64 0, .int .u64 0, .int .u64 0, .int .u64 0, .int .u64 0, .int .u64 0, .int .u64 0, .int .u64 0, .int .u64 0, .int .u64 0, .int .u64 0, .int .u64 0, .int .u64 0, .int .u64 0, .int .u64 0, .int .u64 0, .int .u64 0, .int .u64 0, .int .u64 0, .int .u64 0, .int .u64 0, .int .i64 0]) 25 200 Try.underlying22 hiu hu0 hu1 hu2 rfl (by decide) _ 0 [] rfl hown8 enc25 en25_len (some ad) n c l hS8.out (fun h => by cases h) rfl en25_one h863 hb81 hbw8 ?_)))
    intro v9 w9 hown9 hg9
    have FIN : M (.returned v9) w9 := by
      rw [HM.out]
      have hown : w9.ownsRow w.heap.size 32 25 v9 l.length (l.flatMap enc25) := by have h := hown9; rw [HLEN.out]; simpa using h
      exact ⟨_, rfl, hown, HB0.out.grown hg9 hbw8 (own_gt hown8)⟩
    have FIN := Lib.hid FIN
    clear hown9 hg9
    go_wp2_with fail
    first | exact FIN.out | (simp [bodyPost, results, Try.results14, go_sem]; exact FIN.out) | (go_ret; exact FIN.out)

theorem del_v {w : World} {base n i : Nat} {l : List EN} (v : Value) (hn : n ≤ 4096) (hl : l.length = n) (hi : i < n) (hown : w.ownsRow base 32 25 v n (l.flatMap enc25)) (hbz : base ≤ w.heap.size) :
    Calls Try.prog 18 #[v, .int .i64 (i : Int), .int .i64 ((i : Int) + 1)] w (DelPost w base n i l v) := by
  rcases hown.2 with ⟨_, rfl⟩ | ⟨g, cap, cur, rfl, hb, hg, h1, h2, h3, h4⟩
  · omega
  · exact del_any hn hl hi hown hbz

/-- What a change of the entries comes to. -/
def ChPost (w : World) (B : Nat) (l : List EN) (r : Option (TN × Nat)) (e : Ending) (w' : World) : Prop := match r with
  | none => e = .returned (.int .i64 90) ∧ Below w.heap.size w w'
  | some (t, m) => e = .returned (.int .i64 0) ∧ TreeAt w' B l t ∧ OffG B w w'
def remE (l : List EN) (i : Nat) : List EN := l.take i ++ l.drop (i + 1)
def insE (l : List EN) (i : Nat) (x : EN) : List EN := l.take i ++ x :: l.drop i
theorem remE_len {l : List EN} {i : Nat} (h : i < l.length) : (remE l i).length = l.length - 1 := by unfold remE; simp only [List.length_append, List.length_take, List.length_drop]; omega
theorem insE_len {l : List EN} {i : Nat} {x : EN} (h : i ≤ l.length) : (insE l i x).length = l.length + 1 := by unfold insE; simp only [List.length_append, List.length_take, List.length_drop, List.length_cons]; omega
theorem remE_mem {l : List EN} {i : Nat} {x : EN} (h : x ∈ remE l i) : x ∈ l := by
  rcases List.mem_append.1 h with h | h
  · exact List.mem_of_mem_take h
  · exact List.mem_of_mem_drop h
theorem insE_mem {l : List EN} {i : Nat} {x y : EN} (h : y ∈ insE l i x) : y ∈ l ∨ y = x := by
  rcases List.mem_append.1 h with h | h
  · exact .inl (List.mem_of_mem_take h)
  · rcases List.mem_cons.1 h with h | h
    · exact .inr h
    · exact .inl (List.mem_of_mem_drop h)
theorem remE_insE {l : List EN} {i : Nat} {x : EN} (h : i ≤ l.length) : remE (insE l i x) i = l := by
  unfold remE insE
  rw [List.take_append_of_le_length (by rw [List.length_take]; omega), List.take_take, Nat.min_self, show l.take i ++ x :: l.drop i = (l.take i ++ [x]) ++ l.drop i by simp, List.drop_append_of_le_length (by simp only [List.length_append, List.length_take, List.length_singleton]; omega), List.drop_eq_nil_of_le (by simp only [List.length_append, List.length_take, List.length_singleton]; omega)]
  simp

set_option maxRecDepth 100000 in
set_option maxHeartbeats 4000000 in
theorem take_any (B i : Nat) (l : List EN) (t : TN) (hn : l.length ≤ 4096) (hi : i < l.length) (hl5 : (leftP fullB (remE l i)).length ≤ 512) (hw : ∀ e ∈ l, WB e.bx) (w : World) (hT : TreeAt w B l t) :
    Calls Try.prog 9 #[.pointer (some ⟨B, 0, none⟩), .int .i64 (i : Int)] w (ChPost w B (remE l i) (treeP (remE l i))) := by
  obtain ⟨M, hM⟩ : ∃ M, M = ChPost w B (remE l i) (treeP (remE l i)) := ⟨_, rfl⟩
  rw [← hM]
  have HM := Lib.hid hM; clear hM
  obtain ⟨A, c, ty, x, G, hB, hc, hS, hN⟩ := hT
  have hBl := blk_lt hB
  obtain ⟨y0, y1, _, _⟩ := cells2 hB
  have ca := clone_own A l.length c l hn w hS
  have hrl := remE_len hi
  have da := fun (v : Value) (W : World) (h : W.ownsRow w.heap.size 32 25 v l.length (l.flatMap enc25)) hz => del_v (i := i) v hn rfl hi h hz
  have ba := fun (A' : Option Addr) (c' : Nat) (W : World) hc' hB hNB hs => become_any B (.slice A l.length c) (.iface ty x) A' (l.length - 1) c' (remE l i) (by omega) hl5 hc' (fun e he => hw e (remE_mem he)) W hB hNB hs
  obtain ⟨R, hR⟩ : ∃ R, R = treeP (remE l i) := ⟨_, rfl⟩
  rw [← hR] at HM
  simp only [← hR] at ba
  clear hR hl5 hw
  have FIN : ∀ A' c' e w2 w4, Below w.heap.size w w2 → BecPost w2 B A' c' (remE l i) R e w4 → ∃ z, e = .returned (.int .i64 z) ∧ M e w4 := fun A' c' e w2 w4 hb hp => by
    rw [HM.out]
    cases R with
    | none => exact ⟨_, hp.1, hp.1, bel_via hb hp.2⟩
    | some p => exact ⟨_, hp.1, hp.1, hp.2.1.at, (OffG.of hb (Nat.le_of_lt hBl)).trans hp.2.2⟩
  have BE := Lib.hid ba
  have DE := Lib.hid da
  have HF := Lib.hid FIN
  have hi0 : decide ((i : Int) < 0) = false := by simp
  have hi1 : decide ((l.length : Int) ≤ (i : Int)) = false := by simp; omega
  have hw2 : IntKind.i64.wrap ((i : Int) + 1) = (i : Int) + 1 := by rw [IntKind.wrap_i64]; omega
  have ARM : ∀ v2 w1 w2, Below w.heap.size w w1 → w1.ownsRow w.heap.size 32 25 v2 l.length (l.flatMap enc25) → ∀ v3, w2.ownsRow w.heap.size 32 25 v3 (l.length - 1) ((remE l i).flatMap enc25) → w1.grownBy w2 v2.ownBlock → ∃ A' c', v3 = .slice A' (l.length - 1) c' ∧ Below w.heap.size w w2 ∧ Calls Try.prog 13 #[.pointer (some ⟨B, 0, none⟩), .slice A' (l.length - 1) c'] w2 (BecPost w2 B A' c' (remE l i) R) := fun v2 w1 w2 hb h1 v3 h3 hg => by
    obtain ⟨A', c', rfl, hS3, hnew⟩ := sl_of_own (k := 25) (enc := enc25) en25_len h3 hrl
    have hb2 : Below w.heap.size w w2 := hb.grown hg hb.size (own_gt h1)
    exact ⟨A', c', rfl, hb2, BE.out A' c' w2 (own_cap h3) (blkB hb2 hB) (fun _ b off sp e => by have := hnew b off sp e; omega) hS3⟩
  have HA := Lib.hid ARM
  clear FIN ARM ba da hrl hS hN
  go_enter Try.func9, Try.ntmps9
  go_wp2_with (first
    | (go_at_call 14; go_loud (with_reducible refine ca.mono ?_); rintro e w1 ⟨v1, rfl, hown1, hb1⟩)
    | (go_at_call 18; go_loud (with_reducible refine (DE.out _ _ hown1 hb1.size).mono ?_); rintro e w2 ⟨v2, rfl, hown2, hg2⟩; obtain ⟨A3, c3, rfl, hb2, hbe⟩ := HA.out _ _ _ hb1 hown1 _ hown2 hg2)
    | (go_at_call 13; go_loud (with_reducible refine hbe.mono ?_); intro e w4 hp; obtain ⟨z, rfl, hm⟩ := HF.out _ _ _ _ _ hb2 hp; clear hp; have HE := Lib.hid hm; clear hm))
  first | exact HE.out | (go_ret; exact HE.out)

theorem blkBB {b : Nat} {w w' : World} (h : Below b w w') {B : Nat} {o : Obj} (hb : B < b) (hB : w.heap[B]? = some o) : w'.heap[B]? = some o := (h.block B hb).trans hB
theorem own_ne {w : World} {b size n : Nat} {e : TypeId} {v : Value} {xs : List Value} (h : w.ownsRow b e size v n xs) : v.ownBlock ≠ some w.heap.size := fun e => by have := h.lt _ e; omega
theorem grown_al (w : World) (o : Obj) : w.grownBy (w.alloc o) (some w.heap.size) := ⟨rfl, rfl, rfl, by rw [al_size]; omega, fun k hk _ => al_old hk o⟩

theorem op_bs1 {o : Oper} {a : Act} {w : World} {K : Act → World → Prop} {Q : Exit → Act → World → Prop} (x : Operand) (e : EN) (EA : Array Value) (hE : EA = enA e) (ho : o.op = .buildSlice 22 1 #[(0, x)]) (hx : a.eval x = .agg EA)
    (h : K (a.put o.dst (.slice (some ⟨w.heap.size, 0, none⟩) 1 1)) (w.alloc (.cells EA 32))) : o.wp Try.prog a w K Q := by
  subst hE
  unfold Oper.wp
  have e : (execOp a.eval o).run Try.prog w = .ok (.value (.slice (some ⟨w.heap.size, 0, none⟩) 1 1)) (w.alloc (.cells (enA e) 32)) := by
    unfold execOp
    simp only [ho, List.map_toArray, List.map_cons, List.map_nil, hx, Sem.run_bind, Sem.run_pure, Result.andThen_ok, run_bs1]
  rw [e]
  simp [go_sem]
  exact h
theorem yields_row {P : Program} {ops : Array Oper} {S : World → Prop} {o : Oper} {a : Act} (hw : Region.wanted o (yielded ops a.tmps) = true) (ty : TypeId) (x : Operand) (ho : o.op = .load ty x) (g : Nat) (hx : a.eval x = .pointer (some ⟨g, 0, none⟩)) (cs : Array Value) (t : TypeId) (d : TypeDesc)
    (hS : ∀ w, S w → w.heap[g]? = some (.cells cs t (0, 0))) (hu : P.underlying ty = some d) (hd : (match d with | .struct _ | .array _ _ => true | _ => false) = true) (hi : (P.info? ty).map (·.size) = some cs.size) : YieldsIf P ops S o (.agg cs) a :=
  .inl ⟨hw, fun w hs => exec_cells ty x ho ⟨g, 0, none⟩ hx cs d (row_cells (hS w hs) (fun j v hj => by rw [Nat.zero_add, ← Array.getElem?_toList]; exact hj)) hu hd hi⟩

set_option maxRecDepth 100000 in
set_option maxHeartbeats 4000000 in
theorem put_any (B i : Nat) (x : EN) (l : List EN) (t : TN) (hn : l.length ≤ 4000) (hi : i ≤ l.length) (hl5 : (leftP fullB (insE l i x)).length ≤ 512) (hw : ∀ e ∈ l, WB e.bx) (hwx : WB x.bx) (w : World) (hT : TreeAt w B l t) :
    Calls Try.prog 7 #[.pointer (some ⟨B, 0, none⟩), .int .i64 (i : Int), .agg (enA x)] w (ChPost w B (insE l i x) (treeP (insE l i x))) := by
  obtain ⟨M, hM⟩ : ∃ M, M = ChPost w B (insE l i x) (treeP (insE l i x)) := ⟨_, rfl⟩
  rw [← hM]
  have HM := Lib.hid hM; clear hM
  obtain ⟨A, c, ty, u, G, hB, hc, hS, hN⟩ := hT
  have hBl := blk_lt hB
  have ca := fun (W : World) (h : Below w.heap.size w W) => clone_own A l.length c l (by omega) W (hS.keep h)
  have hrl := insE_len (x := x) hi
  have ia := fun (base vb : Nat) (v : Value) (W : World) (h : W.ownsRow base 32 25 v l.length (l.flatMap enc25)) (hv : W.heap[vb]? = some (.cells (enA x) 32 (0, 0))) hne hz => ins_any x v (by omega) rfl hi h hv hne hz
  have ba := fun (A' : Option Addr) (c' : Nat) (W : World) hc' hB hNB hs => become_any B (.slice A l.length c) (.iface ty u) A' (l.length + 1) c' (insE l i x) (by omega) hl5 hc' (fun e he => (insE_mem he).elim (hw e) (fun h => by rw [h]; exact hwx)) W hB hNB hs
  obtain ⟨R, hR⟩ : ∃ R, R = treeP (insE l i x) := ⟨_, rfl⟩
  rw [← hR] at HM
  simp only [← hR] at ba
  clear hR hl5 hw
  have iE : (Try.prog.info? 32).map (·.size) = some (enA x).size := by kernel_rfl
  obtain ⟨EA, hEA⟩ : ∃ EA, EA = enA x := ⟨_, rfl⟩
  rw [← hEA] at ia iE ⊢
  have HE := Lib.hid hEA
  have FIN : ∀ A' c' e w2 w4, Below w.heap.size w w2 → BecPost w2 B A' c' (insE l i x) R e w4 → ∃ z, e = .returned (.int .i64 z) ∧ M e w4 ∧ OffG B w2 w4 := fun A' c' e w2 w4 hb hp => by
    rw [HM.out]
    have hl2 : B < w2.heap.size := Nat.lt_of_lt_of_le hBl hb.size
    cases R with
    | none => exact ⟨_, hp.1, ⟨hp.1, bel_via hb hp.2⟩, OffG.of hp.2 (Nat.le_of_lt hl2)⟩
    | some p => exact ⟨_, hp.1, ⟨hp.1, hp.2.1.at, (OffG.of hb (Nat.le_of_lt hBl)).trans hp.2.2⟩, hp.2.2⟩
  have BE := Lib.hid ba
  have HF := Lib.hid FIN
  have ARM : ∀ base vb v1 W, w.heap.size ≤ base → base ≤ W.heap.size → Below w.heap.size w W → W.ownsRow base 32 25 v1 l.length (l.flatMap enc25) → W.heap[vb]? = some (.cells EA 32 (0, 0)) → (∀ g, v1.ownBlock = some g → vb ≠ g) →
      Calls Try.prog 17 #[v1, .int .i64 (i : Int), .slice (some ⟨vb, 0, none⟩) 1 1] W fun e w2 => ∃ A' c', e = .returned (.slice A' (l.length + 1) c') ∧ Below base W w2 ∧ Calls Try.prog 13 #[.pointer (some ⟨B, 0, none⟩), .slice A' (l.length + 1) c'] w2 fun e w4 => ∃ z, e = .returned (.int .i64 z) ∧ M e w4 ∧ OffG B w2 w4 := fun base vb v1 W hbw hbW hb h1 hv hne =>
    (ia base vb v1 W h1 hv hne hbW).mono fun e w2 hp => by
      obtain ⟨v3, rfl, h3, hg⟩ := hp
      obtain ⟨A', c', rfl, hS3, hnew⟩ := sl_of_own (k := 25) (enc := enc25) en25_len h3 hrl
      have hbb : Below base W w2 := (Below.refl _ _).grown hg hbW (own_gt h1)
      have hb2 : Below w.heap.size w w2 := hb.trans (hbb.mono hbw)
      exact ⟨A', c', rfl, hbb, (BE.out A' c' w2 (own_cap h3) (blkB hb2 hB) (fun _ b off sp e => by have := hnew b off sp e; omega) hS3).mono fun e w4 hp => HF.out _ _ _ _ _ hb2 hp⟩
  have HA := Lib.hid ARM
  clear FIN ARM ba ia hrl hN hwx hEA HF BE HM
  have hi0 : decide ((i : Int) < 0) = false := by simp
  have hi1 : decide ((l.length : Int) < (i : Int)) = false := by simp; omega
  have q0 := heap_alloc_new w (.cells EA 32)
  have b0 := Below.al (Below.refl w.heap.size w) (.cells EA 32)
  obtain ⟨N0, hN0⟩ : ∃ N0, N0 = w.heap.size := ⟨_, rfl⟩
  rw [← hN0] at q0
  obtain ⟨y0, y1, _, _⟩ := cells2 (blkB b0 hB)
  go_enter Try.func7, Try.ntmps7
  go_upto_region 3 with fail
  have hs0 := al_size w (.cells EA 32)
  obtain ⟨w0, hw0⟩ : ∃ w0, w0 = w.alloc (.cells EA 32) := ⟨_, rfl⟩
  rw [← hw0] at q0 b0 y0 hs0 ⊢
  rw [← hN0]
  have b0d : Below w.heap.size w w0.drew := b0.trans ⟨rfl, rfl, rfl, Nat.le_refl _, fun _ _ => rfl⟩
  have q0d : w0.drew.heap[N0]? = some (.cells EA 32 (0, 0)) := q0
  have y0d : w0.drew.cell? ⟨B, 0, none⟩ = some (.slice A l.length c) := y0
  have hs0d : N0 < w0.drew.heap.size := by rw [hN0]; show w.heap.size < w0.heap.size; omega
  clear hw0 y1 y0 q0 b0 hs0
  refine wp_region_held_drew (S := fun W : World => W.heap[N0]? = some (.cells EA 32 (0, 0))) (by kernel_rfl) q0d (fun hH => ?_)
  obtain ⟨wd, hwd⟩ : ∃ wd, wd = w0.drew := ⟨_, rfl⟩
  rw [← hwd] at q0d y0d hs0d b0d hH ⊢
  clear hwd
  refine wpAnyH_take (i := 0) (v := .pointer (some ⟨B, 0, none⟩)) rfl (by kernel_rfl) (by kernel_rfl) (by kernel_rfl) (fun _ _ _ h => h) (.inl ⟨by rfl, fun W hW => by go_simp⟩) hH ?_
  simp only [Act.put, List.setIfInBounds_toArray, List.set_cons_zero, List.set_cons_succ]
  refine wpAnyH_take (i := 1) (v := .pointer (some ⟨B, 0, none⟩)) rfl (by kernel_rfl) (by kernel_rfl) (by kernel_rfl) (fun _ _ _ h => h) (.inl ⟨by rfl, fun W hW => by go_simp⟩) hH ?_
  simp only [Act.put, List.setIfInBounds_toArray, List.set_cons_zero, List.set_cons_succ]
  refine wpAnyH_take (i := 2) (v := .pointer (some ⟨B, 0, none⟩)) rfl (by kernel_rfl) (by kernel_rfl) (by kernel_rfl) (fun _ _ _ h => h) (.inl ⟨by rfl, fun W hW => by go_simp⟩) hH ?_
  simp only [Act.put, List.setIfInBounds_toArray, List.set_cons_zero, List.set_cons_succ]
  refine wpAnyH_take (i := 3) (v := .pointer (some ⟨B, 0, none⟩)) rfl (by kernel_rfl) (by kernel_rfl) (by kernel_rfl) (fun _ _ _ h => h) (.inl ⟨by rfl, fun W hW => by go_simp⟩) hH ?_
  simp only [Act.put, List.setIfInBounds_toArray, List.set_cons_zero, List.set_cons_succ]
  refine wpAnyH_take (i := 6) (v := .int .i64 (i : Int)) rfl (by kernel_rfl) (by kernel_rfl) (by kernel_rfl) (fun _ _ _ h => h) (.inl ⟨by rfl, fun W hW => by go_simp⟩) hH ?_
  simp only [Act.put, List.setIfInBounds_toArray, List.set_cons_zero, List.set_cons_succ]
  refine wpAnyH_take (i := 7) (v := .agg EA) rfl (by kernel_rfl) (by kernel_rfl) (by kernel_rfl) (fun _ _ _ h => h) (yields_row (by rfl) 32 _ rfl N0 rfl EA 32 _ (fun W hW => hW) Try.underlying32 rfl iE) hH ?_
  simp only [Act.put, List.setIfInBounds_toArray, List.set_cons_zero, List.set_cons_succ]
  refine wpAnyH_ready (rs := [4, 8]) (by kernel_rfl) (by simp) ?_
  refine AllReadyH.cons rfl (fun K hK => ?_) ?_
  · go_simp
    refine hK.out _ _ hH (fun hH => ?_)
    clear hK K
    try simp only [Act.put, List.setIfInBounds_toArray, List.set_cons_zero, List.set_cons_succ]
    refine wpAnyH_ready (rs := [5, 8]) (by kernel_rfl) (by simp) ?_
    refine AllReadyH.cons rfl (fun K hK => ?_) ?_
    · go_simp
      go_at_call 14
      refine (ca _ b0d).mono ?_
      rintro e w1 ⟨v1, rfl, hown1, hb1⟩
      have q1 := blkB hb1 q0d
      refine hK.out _ _ q1 (fun hH => ?_)
      clear hK K
      try simp only [Act.put, List.setIfInBounds_toArray, List.set_cons_zero, List.set_cons_succ]
      refine wpAnyH_ready (rs := [8]) (by kernel_rfl) (by simp) ?_
      refine AllReadyH.cons rfl (fun K hK => ?_) ?_
      · rw [if_pos (by rfl)]
        refine op_bs1 _ x EA HE.out rfl rfl ?_
        have hq2 := blkB (Below.al (Below.refl _ _) (.cells EA 32)) q1
        refine hK.out _ _ hq2 (fun hH => ?_)
        clear hK K
        try simp only [Act.put, List.setIfInBounds_toArray, List.set_cons_zero, List.set_cons_succ]
        have hbA := Below.al (Below.refl w1.heap.size w1) (.cells EA 32)
        have hz1 : wd.heap.size ≤ w1.heap.size := hb1.size
        refine wpAnyH_ready (rs := [9]) (by kernel_rfl) (by simp) ?_
        refine AllReadyH.cons rfl (fun K hK => ?_) ?_
        · go_simp
          go_at_call 17
          refine (HA.out wd.heap.size w1.heap.size v1 _ (by omega) (Nat.le_trans hz1 hbA.size) (bel_via b0d (bel_via hb1 hbA)) (hown1.kept (grown_al w1 _) (.inr (own_ne hown1))) (heap_alloc_new w1 _) (fun g hg => by have := hown1.lt g hg; omega)).mono ?_
          rintro e w2 ⟨A3, c3, rfl, hb2, hbe⟩
          have q2 := blkBB hb2 (by omega) hq2
          refine hK.out _ _ q2 (fun hH => ?_)
          clear hK K
          try simp only [Act.put, List.setIfInBounds_toArray, List.set_cons_zero, List.set_cons_succ]
          refine wpAnyH_ready (rs := [10]) (by kernel_rfl) (by simp) ?_
          refine AllReadyH.cons rfl (fun K hK => ?_) ?_
          · go_simp
            go_at_call 13
            refine hbe.mono ?_
            rintro e w4 ⟨z, rfl, hm, hof⟩
            have q4 := blkO hof (show N0 ≠ B by omega) q2
            refine hK.out _ _ q4 (fun hH => ?_)
            clear hK K
            try simp only [Act.put, List.setIfInBounds_toArray, List.set_cons_zero, List.set_cons_succ]
            refine wpAnyH_ready (rs := [11]) (by kernel_rfl) (by simp) ?_
            refine AllReadyH.cons rfl (fun K hK => ?_) ?_
            · go_simp
              refine hK.out _ _ q4 (fun hH => ?_)
              clear hK K
              try simp only [Act.put, List.setIfInBounds_toArray, List.set_cons_zero, List.set_cons_succ]
              refine wpAnyH_done (by kernel_rfl) ?_ _
              have HM := Lib.hid hm
              clear hm hbe hof
              go_wp2_with fail
              first | exact HM.out | (go_ret; exact HM.out)
            · exact AllReadyH.nil
          · exact AllReadyH.nil
        · exact AllReadyH.nil
      · exact AllReadyH.nil
    · refine AllReadyH.cons rfl (fun K hK => ?_) ?_
      · rw [if_pos (by rfl)]
        refine op_bs1 _ x EA HE.out rfl rfl ?_
        have hq2 := blkB (Below.al (Below.refl _ _) (.cells EA 32)) q0d
        refine hK.out _ _ hq2 (fun hH => ?_)
        clear hK K
        try simp only [Act.put, List.setIfInBounds_toArray, List.set_cons_zero, List.set_cons_succ]
        have hbA := Below.al (Below.refl wd.heap.size wd) (.cells EA 32)
        have hzA : wd.heap.size < (wd.alloc (.cells EA 32)).heap.size := by rw [al_size]; omega
        have hvA := heap_alloc_new wd (.cells EA 32)
        refine wpAnyH_ready (rs := [5]) (by kernel_rfl) (by simp) ?_
        refine AllReadyH.cons rfl (fun K hK => ?_) ?_
        · go_simp
          go_at_call 14
          refine (ca _ (bel_via b0d hbA)).mono ?_
          rintro e w1 ⟨v1, rfl, hown1, hb1⟩
          have q1 := blkB hb1 hq2
          refine hK.out _ _ q1 (fun hH => ?_)
          clear hK K
          try simp only [Act.put, List.setIfInBounds_toArray, List.set_cons_zero, List.set_cons_succ]
          have hz1 : (wd.alloc (.cells EA 32)).heap.size ≤ w1.heap.size := hb1.size
          refine wpAnyH_ready (rs := [9]) (by kernel_rfl) (by simp) ?_
          refine AllReadyH.cons rfl (fun K hK => ?_) ?_
          · go_simp
            go_at_call 17
            refine (HA.out (wd.alloc (.cells EA 32)).heap.size wd.heap.size v1 _ (by omega) hz1 (bel_via (bel_via b0d hbA) hb1) hown1 (blkB hb1 hvA) (fun g hg => by have := hown1.lt g hg; omega)).mono ?_
            rintro e w2 ⟨A3, c3, rfl, hb2, hbe⟩
            have q2 := blkBB hb2 (by omega) q1
            refine hK.out _ _ q2 (fun hH => ?_)
            clear hK K
            try simp only [Act.put, List.setIfInBounds_toArray, List.set_cons_zero, List.set_cons_succ]
            refine wpAnyH_ready (rs := [10]) (by kernel_rfl) (by simp) ?_
            refine AllReadyH.cons rfl (fun K hK => ?_) ?_
            · go_simp
              go_at_call 13
              refine hbe.mono ?_
              rintro e w4 ⟨z, rfl, hm, hof⟩
              have q4 := blkO hof (show N0 ≠ B by omega) q2
              refine hK.out _ _ q4 (fun hH => ?_)
              clear hK K
              try simp only [Act.put, List.setIfInBounds_toArray, List.set_cons_zero, List.set_cons_succ]
              refine wpAnyH_ready (rs := [11]) (by kernel_rfl) (by simp) ?_
              refine AllReadyH.cons rfl (fun K hK => ?_) ?_
              · go_simp
                refine hK.out _ _ q4 (fun hH => ?_)
                clear hK K
                try simp only [Act.put, List.setIfInBounds_toArray, List.set_cons_zero, List.set_cons_succ]
                refine wpAnyH_done (by kernel_rfl) ?_ _
                have HM := Lib.hid hm
                clear hm hbe hof
                go_wp2_with fail
                first | exact HM.out | (go_ret; exact HM.out)
              · exact AllReadyH.nil
            · exact AllReadyH.nil
          · exact AllReadyH.nil
        · exact AllReadyH.nil
      · exact AllReadyH.nil
  · refine AllReadyH.cons rfl (fun K hK => ?_) ?_
    · rw [if_pos (by rfl)]
      refine op_bs1 _ x EA HE.out rfl rfl ?_
      have hq2 := blkB (Below.al (Below.refl _ _) (.cells EA 32)) q0d
      refine hK.out _ _ hq2 (fun hH => ?_)
      clear hK K
      try simp only [Act.put, List.setIfInBounds_toArray, List.set_cons_zero, List.set_cons_succ]
      have hbA := Below.al (Below.refl wd.heap.size wd) (.cells EA 32)
      have hzA : wd.heap.size < (wd.alloc (.cells EA 32)).heap.size := by rw [al_size]; omega
      have hvA := heap_alloc_new wd (.cells EA 32)
      have hyA := keepc hbA y0d
      refine wpAnyH_ready (rs := [4]) (by kernel_rfl) (by simp) ?_
      refine AllReadyH.cons rfl (fun K hK => ?_) ?_
      · go_simp
        refine hK.out _ _ hH (fun hH => ?_)
        clear hK K
        try simp only [Act.put, List.setIfInBounds_toArray, List.set_cons_zero, List.set_cons_succ]
        refine wpAnyH_ready (rs := [5]) (by kernel_rfl) (by simp) ?_
        refine AllReadyH.cons rfl (fun K hK => ?_) ?_
        · go_simp
          go_at_call 14
          refine (ca _ (bel_via b0d hbA)).mono ?_
          rintro e w1 ⟨v1, rfl, hown1, hb1⟩
          have q1 := blkB hb1 hq2
          refine hK.out _ _ q1 (fun hH => ?_)
          clear hK K
          try simp only [Act.put, List.setIfInBounds_toArray, List.set_cons_zero, List.set_cons_succ]
          have hz1 : (wd.alloc (.cells EA 32)).heap.size ≤ w1.heap.size := hb1.size
          refine wpAnyH_ready (rs := [9]) (by kernel_rfl) (by simp) ?_
          refine AllReadyH.cons rfl (fun K hK => ?_) ?_
          · go_simp
            go_at_call 17
            refine (HA.out (wd.alloc (.cells EA 32)).heap.size wd.heap.size v1 _ (by omega) hz1 (bel_via (bel_via b0d hbA) hb1) hown1 (blkB hb1 hvA) (fun g hg => by have := hown1.lt g hg; omega)).mono ?_
            rintro e w2 ⟨A3, c3, rfl, hb2, hbe⟩
            have q2 := blkBB hb2 (by omega) q1
            refine hK.out _ _ q2 (fun hH => ?_)
            clear hK K
            try simp only [Act.put, List.setIfInBounds_toArray, List.set_cons_zero, List.set_cons_succ]
            refine wpAnyH_ready (rs := [10]) (by kernel_rfl) (by simp) ?_
            refine AllReadyH.cons rfl (fun K hK => ?_) ?_
            · go_simp
              go_at_call 13
              refine hbe.mono ?_
              rintro e w4 ⟨z, rfl, hm, hof⟩
              have q4 := blkO hof (show N0 ≠ B by omega) q2
              refine hK.out _ _ q4 (fun hH => ?_)
              clear hK K
              try simp only [Act.put, List.setIfInBounds_toArray, List.set_cons_zero, List.set_cons_succ]
              refine wpAnyH_ready (rs := [11]) (by kernel_rfl) (by simp) ?_
              refine AllReadyH.cons rfl (fun K hK => ?_) ?_
              · go_simp
                refine hK.out _ _ q4 (fun hH => ?_)
                clear hK K
                try simp only [Act.put, List.setIfInBounds_toArray, List.set_cons_zero, List.set_cons_succ]
                refine wpAnyH_done (by kernel_rfl) ?_ _
                have HM := Lib.hid hm
                clear hm hbe hof
                go_wp2_with fail
                first | exact HM.out | (go_ret; exact HM.out)
              · exact AllReadyH.nil
            · exact AllReadyH.nil
          · exact AllReadyH.nil
        · exact AllReadyH.nil
      · exact AllReadyH.nil
    · exact AllReadyH.nil
end Go.Proofs.Ytomennaekjklbaa
