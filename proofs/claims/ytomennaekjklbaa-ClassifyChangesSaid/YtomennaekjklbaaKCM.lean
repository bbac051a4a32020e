/- The document's change, Put and Take; by-name template. -/
import Derived.Test.YtomennaekjklbaaKMP
import Derived.Test.YtomennaekjklbaaKRBuild
namespace Go.Proofs.Ytomennaekjklbaa
open Go.RowKit Go.Lib Go.Sort
set_option linter.unusedVariables false
set_option linter.unusedSimpArgs false

def RChPost (w : World) (T : Nat) (l : List EN) (r : Option (TN × Nat)) (e : Ending) (w' : World) : Prop := match r with
  | none => e = .returned (.int .i64 90) ∧ Below w.heap.size w w'
  | some (t, m) => e = .returned (.int .i64 0) ∧ RTreeAt w' T l t ∧ OffG T w w'
theorem set3 {w : World} {B : Nat} {x0 x1 x2 : Value} {t : TypeId} (h : w.heap[B]? = some (.cells #[x0, x1, x2] t (0, 0))) (a b c : Value) : (((w.setCell ⟨B, 0, none⟩ a).setCell ⟨B, 1, none⟩ b).setCell ⟨B, 2, none⟩ c).heap[B]? = some (.cells #[a, b, c] t (0, 0)) := by simp [World.setCell, Array.getElem?_modify, h]
theorem cells3f {w : World} {B : Nat} {x0 x1 x2 : Value} {t : TypeId} (h : w.heap[B]? = some (.cells #[x0, x1, x2] t (0, 0))) :
    w.cell? ⟨B, 0, none⟩ = some x0 ∧ w.cell? ⟨B, 1, none⟩ = some x1 ∧ w.cell? ⟨B, 2, none⟩ = some x2 ∧ w.frozen? ⟨B, 0, none⟩ = false ∧ w.frozen? ⟨B, 1, none⟩ = false ∧ w.frozen? ⟨B, 2, none⟩ = false := by
  refine ⟨?_, ?_, ?_, ?_, ?_, ?_⟩ <;> simp [World.cell?, World.frozen?, h]

set_option maxRecDepth 100000 in
set_option maxHeartbeats 4000000 in
theorem change_any (T : Nat) (u0 u1 u2 : Value) (A : Option Addr) (n c : Nat) (l : List EN) (hn : n ≤ 4096) (hl5 : (leftP fullB l).length ≤ 512) (hc : A = none → c = 0) (hw : ∀ e ∈ l, WB e.bx) (w : World) (hT : w.heap[T]? = some (.cells #[u0, u1, u2] 61 (0, 0))) (hS : Sl w 25 enc25 A n l) :
    Calls Try.prog 22 #[.pointer (some ⟨T, 0, none⟩), .slice A n c] w (RChPost w T l (treeP l)) := by
  obtain ⟨M, hM⟩ : ∃ M, M = RChPost w T l (treeP l) := ⟨_, rfl⟩
  rw [← hM]
  have HM := Lib.hid hM; clear hM
  have rb := rbuild_any A n c l hn hl5 hc hw w hS
  obtain ⟨R, hR⟩ : ∃ R, R = treeP l := ⟨_, rfl⟩
  rw [← hR] at rb HM
  clear hR hS hw hl5
  have hTl := blk_lt hT
  cases R with
  | none =>
    go_enter Try.func22, Try.ntmps22
    go_wp2_with (go_at_call 6; go_loud (with_reducible refine rb.mono ?_); rintro e w1 ⟨rfl, hb⟩)
    have FIN : M (.returned (.int .i64 90)) w1 := by rw [HM.out]; exact ⟨rfl, hb⟩
    have FIN := Lib.hid FIN
    first | exact FIN.out | (go_ret; exact FIN.out)
  | some q =>
    obtain ⟨t, m⟩ := q
    go_enter Try.func22, Try.ntmps22
    go_upto_region 3 with (go_at_call 6; go_loud (with_reducible refine rb.mono ?_); rintro e w1 ⟨T2, rfl, ⟨hlo, hHi⟩, _, hb⟩)
    obtain ⟨B2, A2, c2, base, h1, h2, h3, h4, h5, h6, h7, h8⟩ := hHi
    have hT1 := blkB hb hT
    obtain ⟨y0, y1, y2, _⟩ := cells3 h1
    obtain ⟨z0, z1, z2, f0, f1, f2⟩ := cells3f hT1
    have hne : T2 ≠ T := by omega
    have ho : OffG T w1 (((w1.setCell ⟨T, 0, none⟩ (.pointer (some ⟨B2, 0, none⟩))).setCell ⟨T, 1, none⟩ (.int .i64 (t.count : Nat))).setCell ⟨T, 2, none⟩ (.slice A2 l.length c2)) := ((OffG.set _ _).trans (OffG.set _ _)).trans (OffG.set _ _)
    have FIN : M (.returned (.int .i64 0)) (((w1.setCell ⟨T, 0, none⟩ (.pointer (some ⟨B2, 0, none⟩))).setCell ⟨T, 1, none⟩ (.int .i64 (t.count : Nat))).setCell ⟨T, 2, none⟩ (.slice A2 l.length c2)) := by
      rw [HM.out]
      exact ⟨rfl, ⟨B2, A2, c2, base, set3 hT1 _ _ _, h2, h3.off (fun _ b off sp e => by have := h8 b off sp e; omega) ho, h4, h5.off (by omega) ho⟩, (OffG.of hb (Nat.le_of_lt hTl)).trans ho⟩
    have FIN := Lib.hid FIN
    clear h1 h2 h3 h4 h5 h8 hT hT1 hb rb ho HM
    generalize t.count = cn at *
    go_wp2_with fail
    first | exact FIN.out | (go_ret; exact FIN.out)

theorem Sl.dropE {w : World} {b off n i : Nat} {l : List EN} (h : Sl w 25 enc25 (some ⟨b, off, none⟩) n l) (hi : i ≤ n) : Sl w 25 enc25 (some ⟨b, off + i * 25, none⟩) (n - i) (l.drop i) :=
  ⟨by rw [List.length_drop, h.len], by have := h.big; omega, fun hn => by
    obtain ⟨b', off', hA, hlt, hc⟩ := h.row (by omega)
    cases hA
    refine ⟨b, off + i * 25, rfl, hlt, fun j x hj t v hv => ?_⟩
    rw [List.getElem?_drop] at hj
    rw [← hc (i + j) x hj t v hv, Nat.add_mul]
    congr 2; omega⟩
theorem sl_empty {w : World} (A : Option Addr) : Sl w 25 enc25 A 0 [] := ⟨rfl, by omega, fun h => absurd h (Nat.lt_irrefl _)⟩
theorem rf_out {w w1 w2 : World} {T : Nat} {l : List EN} {R : Option (TN × Nat)} {e : Ending} (hb : Below w.heap.size w w1) (hT : T < w.heap.size) (h : RChPost w1 T l R e w2) : RChPost w T l R e w2 := by
  cases R with
  | none => exact ⟨h.1, bel_via hb h.2⟩
  | some p => exact ⟨h.1, h.2.1, (OffG.of hb (Nat.le_of_lt hT)).trans h.2.2⟩
theorem rch_ret {w w2 : World} {T : Nat} {l : List EN} {R : Option (TN × Nat)} {e : Ending} (h : RChPost w T l R e w2) : ∃ z, e = .returned (.int .i64 z) := by
  cases R with
  | none => exact ⟨_, h.1⟩
  | some p => exact ⟨_, h.1⟩

set_option maxRecDepth 100000 in
set_option maxHeartbeats 4000000 in
theorem rtake_any (T i : Nat) (l : List EN) (t : TN) (hn : l.length ≤ 4000) (hi : i < l.length) (hl5 : (leftP fullB (remE l i)).length ≤ 512) (hw : ∀ e ∈ l, WB e.bx) (w : World) (hR : RTreeAt w T l t) :
    Calls Try.prog 12 #[.pointer (some ⟨T, 0, none⟩), .int .i64 (i : Int)] w (RChPost w T (remE l i) (treeP (remE l i))) := by
  obtain ⟨M, hM⟩ : ∃ M, M = RChPost w T (remE l i) (treeP (remE l i)) := ⟨_, rfl⟩
  rw [← hM]
  obtain ⟨B, A, c, base, hT, hcl, hS, hc, hN⟩ := hR
  have hTl := blk_lt hT
  obtain ⟨b, off, rfl, _, _⟩ := hS.row (by omega)
  obtain ⟨iu, hiu, hu0, hu1, hu2⟩ := info_parts en_info
  have hrl := remE_len hi
  have ch := fun (A' : Option Addr) (c' : Nat) (W : World) hc' hT' hs => change_any T (.pointer (some ⟨B, 0, none⟩)) (.int .i64 (t.count : Nat)) (.slice (some ⟨b, off, none⟩) l.length c) A' (l.length - 1) c' (remE l i) (by omega) hl5 hc' (fun e he => hw e (remE_mem he)) W hT' hs
  have FIN : ∀ W A' c', Below w.heap.size w W → (A' = none → c' = 0) → Sl W 25 enc25 A' (l.length - 1) (remE l i) → Calls Try.prog 22 #[.pointer (some ⟨T, 0, none⟩), .slice A' (l.length - 1) c'] W fun e w2 => ∃ z, e = .returned (.int .i64 z) ∧ M e w2 := fun W A' c' hb hc' hs => (ch A' c' W hc' (blkB hb hT) hs).mono fun e w2 h => by
    obtain ⟨z, hz⟩ := rch_ret h
    exact ⟨z, hz, by rw [hM]; exact rf_out hb hTl h⟩
  have HF := Lib.hid FIN
  clear FIN ch hM hl5 hw hN
  have hown8 : (w.alloc (.cells #[] 32)).ownsRow w.heap.size 32 25 (.slice (some ⟨w.heap.size, 0, none⟩) 0 0) 0 ([] : List Value) := World.ownsRow_made w #[] 0 (Nat.le_refl _) (by unfold maxLen; omega) rfl
  have hz := Below.al (Below.refl w.heap.size w) (.cells #[] 32)
  obtain ⟨w8, hw8⟩ : ∃ x, x = w.alloc (.cells #[] 32) := ⟨_, rfl⟩
  rw [← hw8] at hown8 hz
  have hbw8 : w.heap.size ≤ w8.heap.size := hz.size
  have hi0 : decide ((i : Int) < 0) = false := by simp
  have hi1 : decide ((l.length : Int) ≤ (i : Int)) = false := by simp; omega
  have hw2 : IntKind.i64.wrap ((i : Int) + 1) = (i : Int) + 1 := by rw [IntKind.wrap_i64]; omega
  have n2 : ((i : Int) + 1).toNat = i + 1 := by omega
  have b1 : 0 ≤ (i : Int) + 1 := by omega
  have b2 : i + 1 ≤ l.length := by omega
  have b3 : (i : Int) + 1 ≤ (l.length : Int) := by omega
  have b4 : i ≤ c := by omega
  have b5 : (i : Int) ≤ (c : Int) := by omega
  have hci : ¬ c = i := by omega
  obtain ⟨x0, x1, x2, _⟩ := cells3 hT
  have y2 := keepc hz x2
  have hS8 := Lib.hid ((hS.cut (m := i) (by omega)).keep hz)
  have hb81 : (0 + i) * 200 ≤ 140737488355328 := by omega
  have h863 : 0 + i ≤ maxLen := by unfold maxLen; omega
  generalize hnl : l.length = n at *
  go_enter Try.func12, Try.ntmps12
  go_upto_region 3 with fail
  go_upto_region 4 with (refine wpList_bs0 rfl rfl ?_)
  rw [← hw8]
  obtain ⟨G, hG⟩ : ∃ G, G = w.heap.size := ⟨_, rfl⟩
  have hGw : w.heap.size ≤ G := by omega
  rw [← hG] at hown8 hbw8 ⊢
  clear hw8 hG
  go_wp2_with (at_builtin; go_loud (refine app_sl rfl _ _ 22 rfl G 32 iu (.agg #[.int .u64 0, .int .u64 0, .int .u64 0, .int .u64 0, .int .u64 0, .int .u64 0, .int .u64 0, .int .u64 0, .int .u64 0, .int .u64 0, .int .u64 0, .int .u64 0, .int .u64 0, .int .u64 0, .int .u64 0, .int .u64 0, .int .u64 0, .int .u64 0, .int .u64 0, .int .u64 0, .int .u64 0, .int .u64 0, .int .u64 0, .int .u64 0, .int .i64 0]) 25 200 Try.underlying22 hiu hu0 hu1 hu2 rfl (by decide) _ (0) ([]) rfl hown8 enc25 en25_len (some ⟨b, off, none⟩) i c (l.take i) hS8.out (fun h => by cases h) rfl en25_one h863 hb81 hbw8 ?_))
  intro v9 w9 hown9 hg9
  replace hz : Below w.heap.size w w9 := hz.grown hg9 (by omega) (fun q hq => Nat.le_trans hGw (own_gt hown8 q hq))
  have hbw9 : G ≤ w9.heap.size := Nat.le_trans hbw8 hg9.size
  have z2 := keepc hz x2
  replace hown9 : w9.ownsRow G 32 25 v9 i ((l.take i).flatMap enc25) := by simpa using hown9
  clear hg9 hown8 hbw8 h863 hb81 hS8 y2
  go_upto_region 5 with fail
  have hz' := hz
  by_cases hcap : c = i + 1
  · have hni : n = i + 1 := by omega
    have hdr : l.drop (i + 1) = [] := List.drop_eq_nil_of_le (by omega)
    have hSd := Lib.hid (sl_empty (w := w9) (some ⟨b, off, none⟩))
    have hb91 : (i + 0) * 200 ≤ 140737488355328 := by omega
    have h963 : i + 0 ≤ maxLen := by unfold maxLen; omega
    subst hcap
    subst hni
    rw [show i + 1 - 1 = i by omega] at HF hrl
    go_wp2_with (first | (at_builtin; go_loud (refine app_sl rfl _ _ 22 rfl G 32 iu (.agg #[.int .u64 0, .int .u64 0, .int .u64 0, .int .u64 0, .int .u64 0, .int .u64 0, .int .u64 0, .int .u64 0, .int .u64 0, .int .u64 0, .int .u64 0, .int .u64 0, .int .u64 0, .int .u64 0, .int .u64 0, .int .u64 0, .int .u64 0, .int .u64 0, .int .u64 0, .int .u64 0, .int .u64 0, .int .u64 0, .int .u64 0, .int .u64 0, .int .i64 0]) 25 200 Try.underlying22 hiu hu0 hu1 hu2 rfl (by decide) _ (i) ((l.take i).flatMap enc25) rfl hown9 enc25 en25_len (some ⟨b, off, none⟩) 0 0 ([]) hSd.out (fun h => by cases h) rfl en25_one h963 hb91 hbw9 ?_); intro v2 w2 hown2 hg2; replace hown2 : w2.ownsRow G 32 25 v2 i ((remE l i).flatMap enc25) := (by unfold remE; rw [List.flatMap_append, hdr]; exact hown2); obtain ⟨A3, c3, rfl, hS3, _⟩ := sl_of_own (k := 25) (enc := enc25) en25_len hown2 hrl; have hc3 : A3 = none → c3 = 0 := (fun h => by subst h; exact own_nil hown2); have hz2 : Below w.heap.size w w2 := hz.grown hg2 (by omega) (fun q hq => Nat.le_trans hGw (own_gt hown9 q hq)); clear hown2 hg2) | (go_at_call 22; go_loud (with_reducible refine (HF.out _ _ _ hz2 hc3 hS3).mono ?_); rintro e w4 ⟨z, rfl, hm⟩; have HM := Lib.hid hm; clear hm))
    first | exact HM.out | (go_ret; exact HM.out)
  · have hSd := Lib.hid ((hS.keep hz).dropE (i := i + 1) (by omega))
    have hb91 : (i + (n - (i + 1))) * 200 ≤ 140737488355328 := by omega
    have h963 : i + (n - (i + 1)) ≤ maxLen := by unfold maxLen; omega
    go_wp2_with (first | (at_builtin; go_loud (refine app_sl rfl _ _ 22 rfl G 32 iu (.agg #[.int .u64 0, .int .u64 0, .int .u64 0, .int .u64 0, .int .u64 0, .int .u64 0, .int .u64 0, .int .u64 0, .int .u64 0, .int .u64 0, .int .u64 0, .int .u64 0, .int .u64 0, .int .u64 0, .int .u64 0, .int .u64 0, .int .u64 0, .int .u64 0, .int .u64 0, .int .u64 0, .int .u64 0, .int .u64 0, .int .u64 0, .int .u64 0, .int .i64 0]) 25 200 Try.underlying22 hiu hu0 hu1 hu2 rfl (by decide) _ (i) ((l.take i).flatMap enc25) rfl hown9 enc25 en25_len (some ⟨b, off + (i + 1) * 25, none⟩) (n - (i + 1)) (c - (i + 1)) (l.drop (i + 1)) hSd.out (fun h => by cases h) rfl en25_one h963 hb91 hbw9 ?_); intro v2 w2 hown2 hg2; replace hown2 : w2.ownsRow G 32 25 v2 (n - 1) ((remE l i).flatMap enc25) := (by unfold remE; rw [List.flatMap_append, show n - 1 = i + (n - (i + 1)) by omega]; exact hown2); obtain ⟨A3, c3, rfl, hS3, _⟩ := sl_of_own (k := 25) (enc := enc25) en25_len hown2 hrl; have hc3 : A3 = none → c3 = 0 := (fun h => by subst h; exact own_nil hown2); have hz2 : Below w.heap.size w w2 := hz.grown hg2 (by omega) (fun q hq => Nat.le_trans hGw (own_gt hown9 q hq)); clear hown2 hg2) | (go_at_call 22; go_loud (with_reducible refine (HF.out _ _ _ hz2 hc3 hS3).mono ?_); rintro e w4 ⟨z, rfl, hm⟩; have HM := Lib.hid hm; clear hm))
    first | exact HM.out | (go_ret; exact HM.out)
end Go.Proofs.Ytomennaekjklbaa

namespace Go.Proofs.Ytomennaekjklbaa
open Go.RowKit Go.Lib Go.Sort
set_option linter.unusedVariables false
set_option linter.unusedSimpArgs false

set_option maxRecDepth 100000 in
set_option maxHeartbeats 8000000 in
theorem rput_any (T i : Nat) (x : EN) (l : List EN) (t : TN) (hn : l.length ≤ 4000) (hi : i ≤ l.length) (hl5 : (leftP fullB (insE l i x)).length ≤ 512) (hw : ∀ e ∈ l, WB e.bx) (hwx : WB x.bx) (w : World) (hR : RTreeAt w T l t) :
    Calls Try.prog 11 #[.pointer (some ⟨T, 0, none⟩), .int .i64 (i : Int), .agg (enA x)] w (RChPost w T (insE l i x) (treeP (insE l i x))) := by
  obtain ⟨M, hM⟩ : ∃ M, M = RChPost w T (insE l i x) (treeP (insE l i x)) := ⟨_, rfl⟩
  rw [← hM]
  obtain ⟨B, A, c, base, hT, hcl, hS, hc, hN⟩ := hR
  have hTl := blk_lt hT
  obtain ⟨iu, hiu, hu0, hu1, hu2⟩ := info_parts en_info
  have hrl := insE_len (x := x) hi
  have ch := fun (A' : Option Addr) (c' : Nat) (W : World) hc' hT' hs => change_any T (.pointer (some ⟨B, 0, none⟩)) (.int .i64 (t.count : Nat)) (.slice A l.length c) A' (l.length + 1) c' (insE l i x) (by omega) hl5 hc' (fun e he => (insE_mem he).elim (hw e) (fun h => by rw [h]; exact hwx)) W hT' hs
  have FIN : ∀ W A' c', Below w.heap.size w W → (A' = none → c' = 0) → Sl W 25 enc25 A' (l.length + 1) (insE l i x) → Calls Try.prog 22 #[.pointer (some ⟨T, 0, none⟩), .slice A' (l.length + 1) c'] W fun e w2 => ∃ z, e = .returned (.int .i64 z) ∧ M e w2 := fun W A' c' hb hc' hs => (ch A' c' W hc' (blkB hb hT) hs).mono fun e w2 h => by
    obtain ⟨z, hz⟩ := rch_ret h
    exact ⟨z, hz, by rw [hM]; exact rf_out hb hTl h⟩
  have HF := Lib.hid FIN
  clear FIN ch hM hl5 hw hN hwx
  have iE : (Try.prog.info? 32).map (·.size) = some (enA x).size := by kernel_rfl
  have hnews := fun W : World => en_news W x 32
  have hone := en25_one x
  obtain ⟨EA, hEA⟩ : ∃ EA, EA = enA x := ⟨_, rfl⟩
  rw [← hEA] at iE hnews ⊢
  have HE := Lib.hid hEA
  clear hEA
  have q0 := heap_alloc_new w (.cells EA 32)
  have b0 := Below.al (Below.refl w.heap.size w) (.cells EA 32)
  obtain ⟨N0, hN0⟩ : ∃ N0, N0 = w.heap.size := ⟨_, rfl⟩
  rw [← hN0] at q0
  have hi0 : decide ((i : Int) < 0) = false := by simp
  have hi1 : decide ((l.length : Int) < (i : Int)) = false := by simp; omega
  have b1 : (0 : Int) ≤ (i : Int) := by omega
  have b3 : (i : Int) ≤ (l.length : Int) := by omega
  have b4 : i ≤ c := by omega
  have b5 : (i : Int) ≤ (c : Int) := by omega
  obtain ⟨x0, x1, x2, _⟩ := cells3 hT
  have hb81 : (0 + i) * 200 ≤ 140737488355328 := by omega
  have h863 : 0 + i ≤ maxLen := by unfold maxLen; omega
  have hb9a : (i + 1) * 200 ≤ 140737488355328 := by omega
  have h9a3 : i + 1 ≤ maxLen := by unfold maxLen; omega
  have hb91 : (i + 1 + (l.length - i)) * 200 ≤ 140737488355328 := by omega
  have h963 : i + 1 + (l.length - i) ≤ maxLen := by unfold maxLen; omega
  have y0 := keepc b0 x2
  generalize hnl : l.length = n at *
  clear x0 x1
  by_cases hp : 0 < n
  · obtain ⟨b, off, rfl, _, _⟩ := hS.row hp
    by_cases hcap : c = i
    · have hni : n = i := by omega
      subst hcap
      subst hni
      have hdr : l.drop n = [] := List.drop_eq_nil_of_le (by omega)
      rw [Nat.sub_self] at hb91 h963
      have hA1 : Sl w 25 enc25 (some ⟨b, off, none⟩) n (l.take n) := hS.cut (Nat.le_refl _)
      have hA2 : Sl w 25 enc25 (some ⟨b, off, none⟩) 0 ([]) := sl_empty _
      have HA1 := Lib.hid hA1
      have HA2 := Lib.hid hA2
      clear hA1 hA2 hS hT
      go_enter Try.func11, Try.ntmps11
      go_upto_region 3 with fail
      obtain ⟨w0, hw0⟩ : ∃ x, x = w.alloc (.cells EA 32) := ⟨_, rfl⟩
      rw [← hw0] at q0 b0 y0 ⊢
      rw [← hN0]
      clear hw0 hN0
      have hown8 : (w0.alloc (.cells #[] 32)).ownsRow w0.heap.size 32 25 (.slice (some ⟨w0.heap.size, 0, none⟩) 0 0) 0 ([] : List Value) := World.ownsRow_made w0 #[] 0 (Nat.le_refl _) (by unfold maxLen; omega) rfl
      have hz0 := Below.al (Below.refl w0.heap.size w0) (.cells #[] 32)
      go_upto_region 4 with (refine wpList_bs0 rfl rfl ?_)
      obtain ⟨w8, hw8⟩ : ∃ x, x = w0.alloc (.cells #[] 32) := ⟨_, rfl⟩
      rw [← hw8] at hown8 hz0 ⊢
      have hbw8 : w0.heap.size ≤ w8.heap.size := hz0.size
      have y8 := keepc hz0 y0
      have q8 := blkB hz0 q0
      have hz := bel_via b0 hz0
      have hGw : w.heap.size ≤ w0.heap.size := b0.size
      have hN8 : N0 < w0.heap.size := blk_lt q0
      obtain ⟨G, hG⟩ : ∃ G, G = w0.heap.size := ⟨_, rfl⟩
      rw [← hG] at hown8 hbw8 hGw hN8 ⊢
      clear hw8 hG hz0 b0 q0 y0
      have hS8 := Lib.hid (HA1.out.keep hz)
      go_wp2_with (at_builtin; go_loud (refine app_sl rfl _ _ 22 rfl G 32 iu (.agg #[.int .u64 0, .int .u64 0, .int .u64 0, .int .u64 0, .int .u64 0, .int .u64 0, .int .u64 0, .int .u64 0, .int .u64 0, .int .u64 0, .int .u64 0, .int .u64 0, .int .u64 0, .int .u64 0, .int .u64 0, .int .u64 0, .int .u64 0, .int .u64 0, .int .u64 0, .int .u64 0, .int .u64 0, .int .u64 0, .int .u64 0, .int .u64 0, .int .i64 0]) 25 200 Try.underlying22 hiu hu0 hu1 hu2 rfl (by decide) _ (0) ([]) rfl hown8 enc25 en25_len (some ⟨b, off, none⟩) n n (l.take n) hS8.out (fun h => by cases h) rfl en25_one h863 hb81 hbw8 ?_))
      intro v9 w9 hown9 hg9
      have hb89 : Below G w8 w9 := (Below.refl _ _).grown hg9 hbw8 (own_gt hown8)
      have q9 : w9.heap[N0]? = some (.cells EA 32 (0, 0)) := (hb89.block N0 hN8).trans q8
      replace hz : Below w.heap.size w w9 := hz.trans (hb89.mono hGw)
      have hbw9 : G ≤ w9.heap.size := Nat.le_trans hbw8 hg9.size
      replace hown9 : w9.ownsRow G 32 25 v9 n ((l.take n).flatMap enc25) := by simpa using hown9
      have z9 := keepc hz x2
      clear hg9 hown8 hbw8 h863 hb81 hS8 y8 q8 hb89
      go_upto_region 5 with fail
      have hal := Below.al (Below.refl _ w9) (.cells EA 32)
      have hownA := own_bel hown9 hal
      have hbsA : G ≤ (w9.alloc (.cells EA 32)).heap.size := Nat.le_trans hbw9 hal.size
      have hzA : Below w.heap.size w (w9.alloc (.cells EA 32)) := bel_via hz hal
      have h1 := Lib.hid (hnews w9)
      have h2 := Lib.hid hone
      go_wp2_with (first | (refine wpList_load_row rfl 32 (.tmp 5) rfl N0 rfl 32 EA (0, 0) _ q9 Try.underlying32 rfl iE ?_) | (refine wpList_bs1' rfl _ x EA HE.out rfl rfl ?_) | (at_builtin; go_loud (refine wpList_append_own _ rfl _ _ 22 rfl G 32 iu (.agg #[.int .u64 0, .int .u64 0, .int .u64 0, .int .u64 0, .int .u64 0, .int .u64 0, .int .u64 0, .int .u64 0, .int .u64 0, .int .u64 0, .int .u64 0, .int .u64 0, .int .u64 0, .int .u64 0, .int .u64 0, .int .u64 0, .int .u64 0, .int .u64 0, .int .u64 0, .int .u64 0, .int .u64 0, .int .u64 0, .int .u64 0, .int .u64 0, .int .i64 0]) 25 200 Try.underlying22 hiu hu0 hu1 hu2 rfl (by decide) _ _ _ rfl hownA ⟨w9.heap.size, 0, none⟩ 1 1 (enc25 x) rfl rfl h1.out h2.out h9a3 hb9a hbsA ?_)))
      intro v10 w10 hown10 hg10 _
      replace hz : Below w.heap.size w w10 := hzA.grown hg10 (by omega) (fun q hq => Nat.le_trans hGw (own_gt hownA q hq))
      have hbw10 : G ≤ w10.heap.size := Nat.le_trans hbsA hg10.size
      have z10 := keepc hz x2
      clear hg10 hownA hbsA hzA h1 h2 hb9a h9a3 hown9 hbw9 z9 q9 hal
      go_upto_region 6 with fail
      have hSd := Lib.hid (HA2.out.keep hz)
      go_wp2_with (first | (at_builtin; go_loud (refine app_sl rfl _ _ 22 rfl G 32 iu (.agg #[.int .u64 0, .int .u64 0, .int .u64 0, .int .u64 0, .int .u64 0, .int .u64 0, .int .u64 0, .int .u64 0, .int .u64 0, .int .u64 0, .int .u64 0, .int .u64 0, .int .u64 0, .int .u64 0, .int .u64 0, .int .u64 0, .int .u64 0, .int .u64 0, .int .u64 0, .int .u64 0, .int .u64 0, .int .u64 0, .int .u64 0, .int .u64 0, .int .i64 0]) 25 200 Try.underlying22 hiu hu0 hu1 hu2 rfl (by decide) _ (n + 1) ((l.take n).flatMap enc25 ++ enc25 x) rfl hown10 enc25 en25_len (some ⟨b, off, none⟩) 0 0 ([]) hSd.out (fun h => by cases h) rfl en25_one h963 hb91 hbw10 ?_); intro v2 w2 hown2 hg2; replace hown2 : w2.ownsRow G 32 25 v2 (n + 1) ((insE l n x).flatMap enc25) := (by unfold insE; rw [List.flatMap_append, List.flatMap_cons, hdr, ← List.append_assoc]; exact hown2); obtain ⟨A3, c3, rfl, hS3, _⟩ := sl_of_own (k := 25) (enc := enc25) en25_len hown2 hrl; have hc3 : A3 = none → c3 = 0 := (fun h => by subst h; exact own_nil hown2); have hz2 : Below w.heap.size w w2 := hz.grown hg2 (by omega) (fun q hq => Nat.le_trans hGw (own_gt hown10 q hq)); clear hown2 hg2) | (go_at_call 22; go_loud (with_reducible refine (HF.out _ _ _ hz2 hc3 hS3).mono ?_); rintro e w4 ⟨z, rfl, hm⟩; have HM := Lib.hid hm; clear hm))
      first | exact HM.out | (go_ret; exact HM.out)
    · have hA1 : Sl w 25 enc25 (some ⟨b, off, none⟩) i (l.take i) := hS.cut (by omega)
      have hA2 : Sl w 25 enc25 (some ⟨b, off + i * 25, none⟩) (n - i) (l.drop i) := hS.dropE (by omega)
      have HA1 := Lib.hid hA1
      have HA2 := Lib.hid hA2
      clear hA1 hA2 hS hT
      go_enter Try.func11, Try.ntmps11
      go_upto_region 3 with fail
      obtain ⟨w0, hw0⟩ : ∃ x, x = w.alloc (.cells EA 32) := ⟨_, rfl⟩
      rw [← hw0] at q0 b0 y0 ⊢
      rw [← hN0]
      clear hw0 hN0
      have hown8 : (w0.alloc (.cells #[] 32)).ownsRow w0.heap.size 32 25 (.slice (some ⟨w0.heap.size, 0, none⟩) 0 0) 0 ([] : List Value) := World.ownsRow_made w0 #[] 0 (Nat.le_refl _) (by unfold maxLen; omega) rfl
      have hz0 := Below.al (Below.refl w0.heap.size w0) (.cells #[] 32)
      go_upto_region 4 with (refine wpList_bs0 rfl rfl ?_)
      obtain ⟨w8, hw8⟩ : ∃ x, x = w0.alloc (.cells #[] 32) := ⟨_, rfl⟩
      rw [← hw8] at hown8 hz0 ⊢
      have hbw8 : w0.heap.size ≤ w8.heap.size := hz0.size
      have y8 := keepc hz0 y0
      have q8 := blkB hz0 q0
      have hz := bel_via b0 hz0
      have hGw : w.heap.size ≤ w0.heap.size := b0.size
      have hN8 : N0 < w0.heap.size := blk_lt q0
      obtain ⟨G, hG⟩ : ∃ G, G = w0.heap.size := ⟨_, rfl⟩
      rw [← hG] at hown8 hbw8 hGw hN8 ⊢
      clear hw8 hG hz0 b0 q0 y0
      have hS8 := Lib.hid (HA1.out.keep hz)
      go_wp2_with (at_builtin; go_loud (refine app_sl rfl _ _ 22 rfl G 32 iu (.agg #[.int .u64 0, .int .u64 0, .int .u64 0, .int .u64 0, .int .u64 0, .int .u64 0, .int .u64 0, .int .u64 0, .int .u64 0, .int .u64 0, .int .u64 0, .int .u64 0, .int .u64 0, .int .u64 0, .int .u64 0, .int .u64 0, .int .u64 0, .int .u64 0, .int .u64 0, .int .u64 0, .int .u64 0, .int .u64 0, .int .u64 0, .int .u64 0, .int .i64 0]) 25 200 Try.underlying22 hiu hu0 hu1 hu2 rfl (by decide) _ (0) ([]) rfl hown8 enc25 en25_len (some ⟨b, off, none⟩) i c (l.take i) hS8.out (fun h => by cases h) rfl en25_one h863 hb81 hbw8 ?_))
      intro v9 w9 hown9 hg9
      have hb89 : Below G w8 w9 := (Below.refl _ _).grown hg9 hbw8 (own_gt hown8)
      have q9 : w9.heap[N0]? = some (.cells EA 32 (0, 0)) := (hb89.block N0 hN8).trans q8
      replace hz : Below w.heap.size w w9 := hz.trans (hb89.mono hGw)
      have hbw9 : G ≤ w9.heap.size := Nat.le_trans hbw8 hg9.size
      replace hown9 : w9.ownsRow G 32 25 v9 i ((l.take i).flatMap enc25) := by simpa using hown9
      have z9 := keepc hz x2
      clear hg9 hown8 hbw8 h863 hb81 hS8 y8 q8 hb89
      go_upto_region 5 with fail
      have hal := Below.al (Below.refl _ w9) (.cells EA 32)
      have hownA := own_bel hown9 hal
      have hbsA : G ≤ (w9.alloc (.cells EA 32)).heap.size := Nat.le_trans hbw9 hal.size
      have hzA : Below w.heap.size w (w9.alloc (.cells EA 32)) := bel_via hz hal
      have h1 := Lib.hid (hnews w9)
      have h2 := Lib.hid hone
      go_wp2_with (first | (refine wpList_load_row rfl 32 (.tmp 5) rfl N0 rfl 32 EA (0, 0) _ q9 Try.underlying32 rfl iE ?_) | (refine wpList_bs1' rfl _ x EA HE.out rfl rfl ?_) | (at_builtin; go_loud (refine wpList_append_own _ rfl _ _ 22 rfl G 32 iu (.agg #[.int .u64 0, .int .u64 0, .int .u64 0, .int .u64 0, .int .u64 0, .int .u64 0, .int .u64 0, .int .u64 0, .int .u64 0, .int .u64 0, .int .u64 0, .int .u64 0, .int .u64 0, .int .u64 0, .int .u64 0, .int .u64 0, .int .u64 0, .int .u64 0, .int .u64 0, .int .u64 0, .int .u64 0, .int .u64 0, .int .u64 0, .int .u64 0, .int .i64 0]) 25 200 Try.underlying22 hiu hu0 hu1 hu2 rfl (by decide) _ _ _ rfl hownA ⟨w9.heap.size, 0, none⟩ 1 1 (enc25 x) rfl rfl h1.out h2.out h9a3 hb9a hbsA ?_)))
      intro v10 w10 hown10 hg10 _
      replace hz : Below w.heap.size w w10 := hzA.grown hg10 (by omega) (fun q hq => Nat.le_trans hGw (own_gt hownA q hq))
      have hbw10 : G ≤ w10.heap.size := Nat.le_trans hbsA hg10.size
      have z10 := keepc hz x2
      clear hg10 hownA hbsA hzA h1 h2 hb9a h9a3 hown9 hbw9 z9 q9 hal
      go_upto_region 6 with fail
      have hSd := Lib.hid (HA2.out.keep hz)
      go_wp2_with (first | (at_builtin; go_loud (refine app_sl rfl _ _ 22 rfl G 32 iu (.agg #[.int .u64 0, .int .u64 0, .int .u64 0, .int .u64 0, .int .u64 0, .int .u64 0, .int .u64 0, .int .u64 0, .int .u64 0, .int .u64 0, .int .u64 0, .int .u64 0, .int .u64 0, .int .u64 0, .int .u64 0, .int .u64 0, .int .u64 0, .int .u64 0, .int .u64 0, .int .u64 0, .int .u64 0, .int .u64 0, .int .u64 0, .int .u64 0, .int .i64 0]) 25 200 Try.underlying22 hiu hu0 hu1 hu2 rfl (by decide) _ (i + 1) ((l.take i).flatMap enc25 ++ enc25 x) rfl hown10 enc25 en25_len (some ⟨b, off + i * 25, none⟩) (n - i) (c - i) (l.drop i) hSd.out (fun h => by cases h) rfl en25_one h963 hb91 hbw10 ?_); intro v2 w2 hown2 hg2; replace hown2 : w2.ownsRow G 32 25 v2 (n + 1) ((insE l i x).flatMap enc25) := (by unfold insE; rw [List.flatMap_append, List.flatMap_cons, ← List.append_assoc, show n + 1 = i + 1 + (n - i) by omega]; exact hown2); obtain ⟨A3, c3, rfl, hS3, _⟩ := sl_of_own (k := 25) (enc := enc25) en25_len hown2 hrl; have hc3 : A3 = none → c3 = 0 := (fun h => by subst h; exact own_nil hown2); have hz2 : Below w.heap.size w w2 := hz.grown hg2 (by omega) (fun q hq => Nat.le_trans hGw (own_gt hown10 q hq)); clear hown2 hg2) | (go_at_call 22; go_loud (with_reducible refine (HF.out _ _ _ hz2 hc3 hS3).mono ?_); rintro e w4 ⟨z, rfl, hm⟩; have HM := Lib.hid hm; clear hm))
      first | exact HM.out | (go_ret; exact HM.out)
  · have hn0 : n = 0 := by omega
    have hi00 : i = 0 := by omega
    have hl0 : l = [] := List.eq_nil_of_length_eq_zero (by omega)
    subst hn0
    subst hi00
    subst hl0
    rw [Nat.sub_self] at hb91 h963
    cases A with
    | none =>
      have hc0 := hc rfl
      subst hc0
      have hA1 : Sl w 25 enc25 none 0 ([]) := sl_empty _
      have hA2 : Sl w 25 enc25 none 0 ([]) := sl_empty _
      have HA1 := Lib.hid hA1
      have HA2 := Lib.hid hA2
      clear hA1 hA2 hS hT
      go_enter Try.func11, Try.ntmps11
      go_upto_region 3 with fail
      obtain ⟨w0, hw0⟩ : ∃ x, x = w.alloc (.cells EA 32) := ⟨_, rfl⟩
      rw [← hw0] at q0 b0 y0 ⊢
      rw [← hN0]
      clear hw0 hN0
      have hown8 : (w0.alloc (.cells #[] 32)).ownsRow w0.heap.size 32 25 (.slice (some ⟨w0.heap.size, 0, none⟩) 0 0) 0 ([] : List Value) := World.ownsRow_made w0 #[] 0 (Nat.le_refl _) (by unfold maxLen; omega) rfl
      have hz0 := Below.al (Below.refl w0.heap.size w0) (.cells #[] 32)
      go_upto_region 4 with (refine wpList_bs0 rfl rfl ?_)
      obtain ⟨w8, hw8⟩ : ∃ x, x = w0.alloc (.cells #[] 32) := ⟨_, rfl⟩
      rw [← hw8] at hown8 hz0 ⊢
      have hbw8 : w0.heap.size ≤ w8.heap.size := hz0.size
      have y8 := keepc hz0 y0
      have q8 := blkB hz0 q0
      have hz := bel_via b0 hz0
      have hGw : w.heap.size ≤ w0.heap.size := b0.size
      have hN8 : N0 < w0.heap.size := blk_lt q0
      obtain ⟨G, hG⟩ : ∃ G, G = w0.heap.size := ⟨_, rfl⟩
      rw [← hG] at hown8 hbw8 hGw hN8 ⊢
      clear hw8 hG hz0 b0 q0 y0
      have hS8 := Lib.hid (HA1.out.keep hz)
      go_wp2_with (at_builtin; go_loud (refine app_sl rfl _ _ 22 rfl G 32 iu (.agg #[.int .u64 0, .int .u64 0, .int .u64 0, .int .u64 0, .int .u64 0, .int .u64 0, .int .u64 0, .int .u64 0, .int .u64 0, .int .u64 0, .int .u64 0, .int .u64 0, .int .u64 0, .int .u64 0, .int .u64 0, .int .u64 0, .int .u64 0, .int .u64 0, .int .u64 0, .int .u64 0, .int .u64 0, .int .u64 0, .int .u64 0, .int .u64 0, .int .i64 0]) 25 200 Try.underlying22 hiu hu0 hu1 hu2 rfl (by decide) _ (0) ([]) rfl hown8 enc25 en25_len none 0 0 ([]) hS8.out (fun _ => rfl) rfl en25_one h863 hb81 hbw8 ?_))
      intro v9 w9 hown9 hg9
      have hb89 : Below G w8 w9 := (Below.refl _ _).grown hg9 hbw8 (own_gt hown8)
      have q9 : w9.heap[N0]? = some (.cells EA 32 (0, 0)) := (hb89.block N0 hN8).trans q8
      replace hz : Below w.heap.size w w9 := hz.trans (hb89.mono hGw)
      have hbw9 : G ≤ w9.heap.size := Nat.le_trans hbw8 hg9.size
      replace hown9 : w9.ownsRow G 32 25 v9 0 (([]).flatMap enc25) := by simpa using hown9
      have z9 := keepc hz x2
      clear hg9 hown8 hbw8 h863 hb81 hS8 y8 q8 hb89
      go_upto_region 5 with fail
      have hal := Below.al (Below.refl _ w9) (.cells EA 32)
      have hownA := own_bel hown9 hal
      have hbsA : G ≤ (w9.alloc (.cells EA 32)).heap.size := Nat.le_trans hbw9 hal.size
      have hzA : Below w.heap.size w (w9.alloc (.cells EA 32)) := bel_via hz hal
      have h1 := Lib.hid (hnews w9)
      have h2 := Lib.hid hone
      go_wp2_with (first | (refine wpList_load_row rfl 32 (.tmp 5) rfl N0 rfl 32 EA (0, 0) _ q9 Try.underlying32 rfl iE ?_) | (refine wpList_bs1' rfl _ x EA HE.out rfl rfl ?_) | (at_builtin; go_loud (refine wpList_append_own _ rfl _ _ 22 rfl G 32 iu (.agg #[.int .u64 0, .int .u64 0, .int .u64 0, .int .u64 0, .int .u64 0, .int .u64 0, .int .u64 0, .int .u64 0, .int .u64 0, .int .u64 0, .int .u64 0, .int .u64 0, .int .u64 0, .int .u64 0, .int .u64 0, .int .u64 0, .int .u64 0, .int .u64 0, .int .u64 0, .int .u64 0, .int .u64 0, .int .u64 0, .int .u64 0, .int .u64 0, .int .i64 0]) 25 200 Try.underlying22 hiu hu0 hu1 hu2 rfl (by decide) _ _ _ rfl hownA ⟨w9.heap.size, 0, none⟩ 1 1 (enc25 x) rfl rfl h1.out h2.out h9a3 hb9a hbsA ?_)))
      intro v10 w10 hown10 hg10 _
      replace hz : Below w.heap.size w w10 := hzA.grown hg10 (by omega) (fun q hq => Nat.le_trans hGw (own_gt hownA q hq))
      have hbw10 : G ≤ w10.heap.size := Nat.le_trans hbsA hg10.size
      have z10 := keepc hz x2
      clear hg10 hownA hbsA hzA h1 h2 hb9a h9a3 hown9 hbw9 z9 q9 hal
      go_upto_region 6 with fail
      have hSd := Lib.hid (HA2.out.keep hz)
      go_wp2_with (first | (at_builtin; go_loud (refine app_sl rfl _ _ 22 rfl G 32 iu (.agg #[.int .u64 0, .int .u64 0, .int .u64 0, .int .u64 0, .int .u64 0, .int .u64 0, .int .u64 0, .int .u64 0, .int .u64 0, .int .u64 0, .int .u64 0, .int .u64 0, .int .u64 0, .int .u64 0, .int .u64 0, .int .u64 0, .int .u64 0, .int .u64 0, .int .u64 0, .int .u64 0, .int .u64 0, .int .u64 0, .int .u64 0, .int .u64 0, .int .i64 0]) 25 200 Try.underlying22 hiu hu0 hu1 hu2 rfl (by decide) _ (0 + 1) (([]).flatMap enc25 ++ enc25 x) rfl hown10 enc25 en25_len none 0 0 ([]) hSd.out (fun _ => rfl) rfl en25_one h963 hb91 hbw10 ?_); intro v2 w2 hown2 hg2; replace hown2 : w2.ownsRow G 32 25 v2 (0 + 1) ((insE [] 0 x).flatMap enc25) := (by simpa [insE] using hown2); obtain ⟨A3, c3, rfl, hS3, _⟩ := sl_of_own (k := 25) (enc := enc25) en25_len hown2 hrl; have hc3 : A3 = none → c3 = 0 := (fun h => by subst h; exact own_nil hown2); have hz2 : Below w.heap.size w w2 := hz.grown hg2 (by omega) (fun q hq => Nat.le_trans hGw (own_gt hown10 q hq)); clear hown2 hg2) | (go_at_call 22; go_loud (with_reducible refine (HF.out _ _ _ hz2 hc3 hS3).mono ?_); rintro e w4 ⟨z, rfl, hm⟩; have HM := Lib.hid hm; clear hm))
      first | exact HM.out | (go_ret; exact HM.out)
    | some ad =>
      obtain ⟨b, off, sp⟩ := ad
      have hA1 : Sl w 25 enc25 (some ⟨b, off, sp⟩) 0 ([]) := sl_empty _
      have hA2 : Sl w 25 enc25 (some ⟨b, off, sp⟩) 0 ([]) := sl_empty _
      have HA1 := Lib.hid hA1
      have HA2 := Lib.hid hA2
      clear hA1 hA2 hS hT
      go_enter Try.func11, Try.ntmps11
      go_upto_region 3 with fail
      obtain ⟨w0, hw0⟩ : ∃ x, x = w.alloc (.cells EA 32) := ⟨_, rfl⟩
      rw [← hw0] at q0 b0 y0 ⊢
      rw [← hN0]
      clear hw0 hN0
      have hown8 : (w0.alloc (.cells #[] 32)).ownsRow w0.heap.size 32 25 (.slice (some ⟨w0.heap.size, 0, none⟩) 0 0) 0 ([] : List Value) := World.ownsRow_made w0 #[] 0 (Nat.le_refl _) (by unfold maxLen; omega) rfl
      have hz0 := Below.al (Below.refl w0.heap.size w0) (.cells #[] 32)
      go_upto_region 4 with (refine wpList_bs0 rfl rfl ?_)
      obtain ⟨w8, hw8⟩ : ∃ x, x = w0.alloc (.cells #[] 32) := ⟨_, rfl⟩
      rw [← hw8] at hown8 hz0 ⊢
      have hbw8 : w0.heap.size ≤ w8.heap.size := hz0.size
      have y8 := keepc hz0 y0
      have q8 := blkB hz0 q0
      have hz := bel_via b0 hz0
      have hGw : w.heap.size ≤ w0.heap.size := b0.size
      have hN8 : N0 < w0.heap.size := blk_lt q0
      obtain ⟨G, hG⟩ : ∃ G, G = w0.heap.size := ⟨_, rfl⟩
      rw [← hG] at hown8 hbw8 hGw hN8 ⊢
      clear hw8 hG hz0 b0 q0 y0
      have hS8 := Lib.hid (HA1.out.keep hz)
      go_wp2_with (at_builtin; go_loud (refine app_sl rfl _ _ 22 rfl G 32 iu (.agg #[.int .u64 0, .int .u64 0, .int .u64 0, .int .u64 0, .int .u64 0, .int .u64 0, .int .u64 0, .int .u64 0, .int .u64 0, .int .u64 0, .int .u64 0, .int .u64 0, .int .u64 0, .int .u64 0, .int .u64 0, .int .u64 0, .int .u64 0, .int .u64 0, .int .u64 0, .int .u64 0, .int .u64 0, .int .u64 0, .int .u64 0, .int .u64 0, .int .i64 0]) 25 200 Try.underlying22 hiu hu0 hu1 hu2 rfl (by decide) _ (0) ([]) rfl hown8 enc25 en25_len (some ⟨b, off, sp⟩) 0 c ([]) hS8.out (fun h => by cases h) rfl en25_one h863 hb81 hbw8 ?_))
      intro v9 w9 hown9 hg9
      have hb89 : Below G w8 w9 := (Below.refl _ _).grown hg9 hbw8 (own_gt hown8)
      have q9 : w9.heap[N0]? = some (.cells EA 32 (0, 0)) := (hb89.block N0 hN8).trans q8
      replace hz : Below w.heap.size w w9 := hz.trans (hb89.mono hGw)
      have hbw9 : G ≤ w9.heap.size := Nat.le_trans hbw8 hg9.size
      replace hown9 : w9.ownsRow G 32 25 v9 0 (([]).flatMap enc25) := by simpa using hown9
      have z9 := keepc hz x2
      clear hg9 hown8 hbw8 h863 hb81 hS8 y8 q8 hb89
      go_upto_region 5 with fail
      have hal := Below.al (Below.refl _ w9) (.cells EA 32)
      have hownA := own_bel hown9 hal
      have hbsA : G ≤ (w9.alloc (.cells EA 32)).heap.size := Nat.le_trans hbw9 hal.size
      have hzA : Below w.heap.size w (w9.alloc (.cells EA 32)) := bel_via hz hal
      have h1 := Lib.hid (hnews w9)
      have h2 := Lib.hid hone
      go_wp2_with (first | (refine wpList_load_row rfl 32 (.tmp 5) rfl N0 rfl 32 EA (0, 0) _ q9 Try.underlying32 rfl iE ?_) | (refine wpList_bs1' rfl _ x EA HE.out rfl rfl ?_) | (at_builtin; go_loud (refine wpList_append_own _ rfl _ _ 22 rfl G 32 iu (.agg #[.int .u64 0, .int .u64 0, .int .u64 0, .int .u64 0, .int .u64 0, .int .u64 0, .int .u64 0, .int .u64 0, .int .u64 0, .int .u64 0, .int .u64 0, .int .u64 0, .int .u64 0, .int .u64 0, .int .u64 0, .int .u64 0, .int .u64 0, .int .u64 0, .int .u64 0, .int .u64 0, .int .u64 0, .int .u64 0, .int .u64 0, .int .u64 0, .int .i64 0]) 25 200 Try.underlying22 hiu hu0 hu1 hu2 rfl (by decide) _ _ _ rfl hownA ⟨w9.heap.size, 0, none⟩ 1 1 (enc25 x) rfl rfl h1.out h2.out h9a3 hb9a hbsA ?_)))
      intro v10 w10 hown10 hg10 _
      replace hz : Below w.heap.size w w10 := hzA.grown hg10 (by omega) (fun q hq => Nat.le_trans hGw (own_gt hownA q hq))
      have hbw10 : G ≤ w10.heap.size := Nat.le_trans hbsA hg10.size
      have z10 := keepc hz x2
      clear hg10 hownA hbsA hzA h1 h2 hb9a h9a3 hown9 hbw9 z9 q9 hal
      go_upto_region 6 with fail
      have hSd := Lib.hid (HA2.out.keep hz)
      go_wp2_with (first | (at_builtin; go_loud (refine app_sl rfl _ _ 22 rfl G 32 iu (.agg #[.int .u64 0, .int .u64 0, .int .u64 0, .int .u64 0, .int .u64 0, .int .u64 0, .int .u64 0, .int .u64 0, .int .u64 0, .int .u64 0, .int .u64 0, .int .u64 0, .int .u64 0, .int .u64 0, .int .u64 0, .int .u64 0, .int .u64 0, .int .u64 0, .int .u64 0, .int .u64 0, .int .u64 0, .int .u64 0, .int .u64 0, .int .u64 0, .int .i64 0]) 25 200 Try.underlying22 hiu hu0 hu1 hu2 rfl (by decide) _ (0 + 1) (([]).flatMap enc25 ++ enc25 x) rfl hown10 enc25 en25_len (some ⟨b, off, sp⟩) 0 c ([]) hSd.out (fun h => by cases h) rfl en25_one h963 hb91 hbw10 ?_); intro v2 w2 hown2 hg2; replace hown2 : w2.ownsRow G 32 25 v2 (0 + 1) ((insE [] 0 x).flatMap enc25) := (by simpa [insE] using hown2); obtain ⟨A3, c3, rfl, hS3, _⟩ := sl_of_own (k := 25) (enc := enc25) en25_len hown2 hrl; have hc3 : A3 = none → c3 = 0 := (fun h => by subst h; exact own_nil hown2); have hz2 : Below w.heap.size w w2 := hz.grown hg2 (by omega) (fun q hq => Nat.le_trans hGw (own_gt hown10 q hq)); clear hown2 hg2) | (go_at_call 22; go_loud (with_reducible refine (HF.out _ _ _ hz2 hc3 hS3).mono ?_); rintro e w4 ⟨z, rfl, hm⟩; have HM := Lib.hid hm; clear hm))
      first | exact HM.out | (go_ret; exact HM.out)
end Go.Proofs.Ytomennaekjklbaa

namespace Go.Proofs.Ytomennaekjklbaa
open Go.RowKit Go.Lib Go.Sort
set_option linter.unusedVariables false
set_option linter.unusedSimpArgs false

/-! ### rows of 25 cells don't lie in a small block -/
theorem Sl.small {w : World} {A : Option Addr} {n : Nat} {l : List EN} (h : Sl w 25 enc25 A n l) {G : Nat} {C : Array Value} {T : TypeId} (hG : w.heap[G]? = some (.cells C T (0, 0))) (hC : C.size ≤ 24) : 0 < n → NotAt G A := fun hn b off sp e => by
  obtain ⟨b', off', e', hlt, hc⟩ := h.row hn
  rw [e] at e'
  cases e'
  intro hb
  subst hb
  have hl : 0 < l.length := by rw [h.len]; exact hn
  have h0 := hc 0 l[0] (List.getElem?_eq_getElem hl) 24 ((enc25 l[0])[24]'(by rw [en25_len]; omega)) (List.getElem?_eq_getElem _)
  rw [cell_of_row w b _ C T (0, 0) hG, Array.getElem?_eq_none (by omega)] at h0
  cases h0
theorem NodeAt.small {G0 G : Nat} {w w' : World} {C : Array Value} {T : TypeId} (hG : w.heap[G]? = some (.cells C T (0, 0))) (hC : C.size ≤ 24) (ho : OffG G w w') : ∀ {t : TN} {v : Value}, NodeAt G0 w t v → NodeAt G0 w' t v
  | .leaf l, v, ⟨A, c, e, hc, hA, hS⟩ => ⟨A, c, e, hc, hA, hS.off (hS.small hG hC) ho⟩
  | .inner _ _ bx lo hi, v, ⟨v1, v2, e, h1, h2⟩ => ⟨v1, v2, e, h1.small hG hC ho, h2.small hG hC ho⟩
theorem tag_ne {w : World} {B G : Nat} {C D : Array Value} {S T : TypeId} (hB : w.heap[B]? = some (.cells C S (0, 0))) (hG : w.heap[G]? = some (.cells D T (0, 0))) (h : S ≠ T) : B ≠ G := fun e => by
  subst e; rw [hB] at hG; cases hG; exact h rfl
theorem TreeAt.small {w w' : World} {B G : Nat} {l : List EN} {t : TN} {C : Array Value} (h : TreeAt w B l t) (hG : w.heap[G]? = some (.cells C 61 (0, 0))) (hC : C.size ≤ 24) (ho : OffG G w w') : TreeAt w' B l t := by
  obtain ⟨A, c, ty, x, g, h1, h2, h3, h4⟩ := h
  exact ⟨A, c, ty, x, g, blkO ho (tag_ne h1 hG (by decide)) h1, h2, h3.off (h3.small hG hC) ho, h4.small hG hC ho⟩
theorem RNode.small {base G : Nat} {w w' : World} {C : Array Value} (hG : w.heap[G]? = some (.cells C 53 (0, 0))) (hC : C.size ≤ 24) (ho : OffG G w w') : ∀ {t : TN} {B : Nat}, RNode base w t B → RNode base w' t B
  | .leaf l, B, ⟨h0, A, c, h1, h2, h3, h4⟩ => ⟨h0, A, c, blkO ho (tag_ne h1 hG (by decide)) h1, h2, h3, h4.off (h4.small hG hC) ho⟩
  | .inner _ _ _ lo hi, B, ⟨h0, B1, B2, h1, h2, h3⟩ => ⟨h0, B1, B2, blkO ho (tag_ne h1 hG (by decide)) h1, h2.small hG hC ho, h3.small hG hC ho⟩
theorem RTreeAt.small {w w' : World} {T G : Nat} {l : List EN} {t : TN} {C : Array Value} (h : RTreeAt w T l t) (hG : w.heap[G]? = some (.cells C 53 (0, 0))) (hC : C.size ≤ 24) (ho : OffG G w w') : RTreeAt w' T l t := by
  obtain ⟨B, A, c, base, h1, h2, h3, h4, h5⟩ := h
  exact ⟨B, A, c, base, blkO ho (tag_ne h1 hG (by decide)) h1, h2, h3.off (h3.small hG hC) ho, h4, h5.small hG hC ho⟩
theorem TreeAt.blk {w : World} {B : Nat} {l : List EN} {t : TN} (h : TreeAt w B l t) : ∃ C : Array Value, w.heap[B]? = some (.cells C 53 (0, 0)) ∧ C.size ≤ 24 := by
  obtain ⟨A, c, ty, x, g, h1, _⟩ := h
  exact ⟨_, h1, by simp⟩
theorem RTreeAt.blk {w : World} {T : Nat} {l : List EN} {t : TN} (h : RTreeAt w T l t) : ∃ C : Array Value, w.heap[T]? = some (.cells C 61 (0, 0)) ∧ C.size ≤ 24 := by
  obtain ⟨B, A, c, base, h1, _⟩ := h
  exact ⟨_, h1, by simp⟩

/-! ### what a step comes to -/
def resS (l : List EN) (t : TN) (l' : List EN) : Int × List EN × TN := match treeP l' with
  | none => (90, l, t)
  | some (t', _) => (0, l', t')
def putS (l : List EN) (t : TN) (I : Int) (x : EN) : Int × List EN × TN := if 0 ≤ I ∧ I ≤ l.length then resS l t (insE l I.toNat x) else (1, l, t)
def takS (l : List EN) (t : TN) (I : Int) : Int × List EN × TN := if 0 ≤ I ∧ I < l.length then resS l t (remE l I.toNat) else (1, l, t)
def AtPost (w : World) (B : Nat) (r : Int × List EN × TN) (e : Ending) (w' : World) : Prop := e = .returned (.int .i64 r.1) ∧ TreeAt w' B r.2.1 r.2.2 ∧ OffG B w w'
def RAtPost (w : World) (B : Nat) (r : Int × List EN × TN) (e : Ending) (w' : World) : Prop := e = .returned (.int .i64 r.1) ∧ RTreeAt w' B r.2.1 r.2.2 ∧ OffG B w w'
theorem at_of {w w' : World} {B : Nat} {l l' : List EN} {t : TN} {e : Ending} (hT : TreeAt w B l t) (h : ChPost w B l' (treeP l') e w') : AtPost w B (resS l t l') e w' := by
  unfold AtPost resS
  obtain ⟨C, hB, _⟩ := hT.blk
  have hBl := blk_lt hB
  cases hR : treeP l' with
  | none => rw [hR] at h; exact ⟨h.1, hT.keep h.2, OffG.of h.2 (Nat.le_of_lt hBl)⟩
  | some p => rw [hR] at h; exact ⟨h.1, h.2.1, h.2.2⟩
theorem rat_of {w w' : World} {B : Nat} {l l' : List EN} {t : TN} {e : Ending} (hT : RTreeAt w B l t) (h : RChPost w B l' (treeP l') e w') : RAtPost w B (resS l t l') e w' := by
  unfold RAtPost resS
  obtain ⟨C, hB, _⟩ := hT.blk
  have hBl := blk_lt hB
  cases hR : treeP l' with
  | none => rw [hR] at h; exact ⟨h.1, hT.keep h.2, OffG.of h.2 (Nat.le_of_lt hBl)⟩
  | some p => rw [hR] at h; exact ⟨h.1, h.2.1, h.2.2⟩
theorem ins_left (l : List EN) (i : Nat) (x : EN) (hi : i ≤ l.length) (hn : l.length ≤ 500) : (leftP fullB (insE l i x)).length ≤ 512 := Nat.le_trans (left_len _ _) (by rw [insE_len hi]; omega)
theorem rem_left (l : List EN) (i : Nat) (hi : i < l.length) (hn : l.length ≤ 500) : (leftP fullB (remE l i)).length ≤ 512 := Nat.le_trans (left_len _ _) (by rw [remE_len hi]; omega)

set_option maxRecDepth 100000 in
set_option maxHeartbeats 4000000 in
theorem put_all (B : Nat) (I : Int) (x : EN) (l : List EN) (t : TN) (hn : l.length ≤ 500) (hw : ∀ e ∈ l, WB e.bx) (hwx : WB x.bx) (w : World) (hT : TreeAt w B l t) :
    Calls Try.prog 7 #[.pointer (some ⟨B, 0, none⟩), .int .i64 I, .agg (enA x)] w (AtPost w B (putS l t I x)) := by
  unfold putS
  by_cases h : 0 ≤ I ∧ I ≤ l.length
  · rw [if_pos h]
    obtain ⟨i, rfl⟩ := Int.eq_ofNat_of_zero_le h.1
    have hi : i ≤ l.length := by omega
    rw [Int.toNat_natCast]
    exact (put_any B i x l t (by omega) hi (ins_left l i x hi hn) hw hwx w hT).mono fun e w' hp => at_of hT hp
  · rw [if_neg h]
    obtain ⟨M, hM⟩ : ∃ M, M = AtPost w B (1, l, t) := ⟨_, rfl⟩
    rw [← hM]
    generalize enA x = EA
    have b0 := Below.al (Below.refl w.heap.size w) (.cells EA 32)
    have FIN : M (.returned (.int .i64 1)) (w.alloc (.cells EA 32)) := by
      rw [hM]
      obtain ⟨C, hB, _⟩ := hT.blk
      exact ⟨rfl, hT.keep b0, OffG.of b0 (Nat.le_of_lt (blk_lt hB))⟩
    have FIN := Lib.hid FIN
    obtain ⟨A, c, ty, u, G, hB, _⟩ := hT
    obtain ⟨y0, y1, _, _⟩ := cells2 (blkB b0 hB)
    clear hM b0 hB
    by_cases hI : I < 0
    · have h1 : decide (I < 0) = true := by simp; omega
      go_enter Try.func7, Try.ntmps7
      go_wp2_with fail
      first | exact FIN.out | (go_ret; exact FIN.out)
    · have h1 : decide (I < 0) = false := by simp; omega
      have h2 : decide ((l.length : Int) < I) = true := by simp; omega
      go_enter Try.func7, Try.ntmps7
      go_wp2_with fail
      first | exact FIN.out | (go_ret; exact FIN.out)
set_option maxRecDepth 100000 in
set_option maxHeartbeats 4000000 in
theorem take_all (B : Nat) (I : Int) (l : List EN) (t : TN) (hn : l.length ≤ 500) (hw : ∀ e ∈ l, WB e.bx) (w : World) (hT : TreeAt w B l t) :
    Calls Try.prog 9 #[.pointer (some ⟨B, 0, none⟩), .int .i64 I] w (AtPost w B (takS l t I)) := by
  unfold takS
  by_cases h : 0 ≤ I ∧ I < l.length
  · rw [if_pos h]
    obtain ⟨i, rfl⟩ := Int.eq_ofNat_of_zero_le h.1
    have hi : i < l.length := by omega
    rw [Int.toNat_natCast]
    exact (take_any B i l t (by omega) hi (rem_left l i hi hn) hw w hT).mono fun e w' hp => at_of hT hp
  · rw [if_neg h]
    obtain ⟨M, hM⟩ : ∃ M, M = AtPost w B (1, l, t) := ⟨_, rfl⟩
    rw [← hM]
    have FIN : M (.returned (.int .i64 1)) w := by
      rw [hM]
      exact ⟨rfl, hT, OffG.refl _ _⟩
    have FIN := Lib.hid FIN
    obtain ⟨A, c, ty, u, G, hB, _⟩ := hT
    obtain ⟨y0, y1, _, _⟩ := cells2 hB
    clear hM hB
    by_cases hI : I < 0
    · have h1 : decide (I < 0) = true := by simp; omega
      go_enter Try.func9, Try.ntmps9
      go_wp2_with fail
      first | exact FIN.out | (go_ret; exact FIN.out)
    · have h1 : decide (I < 0) = false := by simp; omega
      have h2 : decide ((l.length : Int) ≤ I) = true := by simp; omega
      go_enter Try.func9, Try.ntmps9
      go_wp2_with fail
      first | exact FIN.out | (go_ret; exact FIN.out)
set_option maxRecDepth 100000 in
set_option maxHeartbeats 4000000 in
theorem rput_all (B : Nat) (I : Int) (x : EN) (l : List EN) (t : TN) (hn : l.length ≤ 500) (hw : ∀ e ∈ l, WB e.bx) (hwx : WB x.bx) (w : World) (hT : RTreeAt w B l t) :
    Calls Try.prog 11 #[.pointer (some ⟨B, 0, none⟩), .int .i64 I, .agg (enA x)] w (RAtPost w B (putS l t I x)) := by
  unfold putS
  by_cases h : 0 ≤ I ∧ I ≤ l.length
  · rw [if_pos h]
    obtain ⟨i, rfl⟩ := Int.eq_ofNat_of_zero_le h.1
    have hi : i ≤ l.length := by omega
    rw [Int.toNat_natCast]
    exact (rput_any B i x l t (by omega) hi (ins_left l i x hi hn) hw hwx w hT).mono fun e w' hp => rat_of hT hp
  · rw [if_neg h]
    obtain ⟨M, hM⟩ : ∃ M, M = RAtPost w B (1, l, t) := ⟨_, rfl⟩
    rw [← hM]
    generalize enA x = EA
    have b0 := Below.al (Below.refl w.heap.size w) (.cells EA 32)
    have FIN : M (.returned (.int .i64 1)) (w.alloc (.cells EA 32)) := by
      rw [hM]
      obtain ⟨C, hB, _⟩ := hT.blk
      exact ⟨rfl, hT.keep b0, OffG.of b0 (Nat.le_of_lt (blk_lt hB))⟩
    have FIN := Lib.hid FIN
    obtain ⟨Q, A, c, base, hB, _⟩ := hT
    obtain ⟨y0, y1, y2, _⟩ := cells3 (blkB b0 hB)
    clear hM b0 hB
    by_cases hI : I < 0
    · have h1 : decide (I < 0) = true := by simp; omega
      go_enter Try.func11, Try.ntmps11
      go_wp2_with fail
      first | exact FIN.out | (go_ret; exact FIN.out)
    · have h1 : decide (I < 0) = false := by simp; omega
      have h2 : decide ((l.length : Int) < I) = true := by simp; omega
      go_enter Try.func11, Try.ntmps11
      go_wp2_with fail
      first | exact FIN.out | (go_ret; exact FIN.out)
set_option maxRecDepth 100000 in
set_option maxHeartbeats 4000000 in
theorem rtake_all (B : Nat) (I : Int) (l : List EN) (t : TN) (hn : l.length ≤ 500) (hw : ∀ e ∈ l, WB e.bx) (w : World) (hT : RTreeAt w B l t) :
    Calls Try.prog 12 #[.pointer (some ⟨B, 0, none⟩), .int .i64 I] w (RAtPost w B (takS l t I)) := by
  unfold takS
  by_cases h : 0 ≤ I ∧ I < l.length
  · rw [if_pos h]
    obtain ⟨i, rfl⟩ := Int.eq_ofNat_of_zero_le h.1
    have hi : i < l.length := by omega
    rw [Int.toNat_natCast]
    exact (rtake_any B i l t (by omega) hi (rem_left l i hi hn) hw w hT).mono fun e w' hp => rat_of hT hp
  · rw [if_neg h]
    obtain ⟨M, hM⟩ : ∃ M, M = RAtPost w B (1, l, t) := ⟨_, rfl⟩
    rw [← hM]
    have FIN : M (.returned (.int .i64 1)) w := by
      rw [hM]
      exact ⟨rfl, hT, OffG.refl _ _⟩
    have FIN := Lib.hid FIN
    obtain ⟨Q, A, c, base, hB, _⟩ := hT
    obtain ⟨y0, y1, y2, _⟩ := cells3 hB
    clear hM hB
    by_cases hI : I < 0
    · have h1 : decide (I < 0) = true := by simp; omega
      go_enter Try.func12, Try.ntmps12
      go_wp2_with fail
      first | exact FIN.out | (go_ret; exact FIN.out)
    · have h1 : decide (I < 0) = false := by simp; omega
      have h2 : decide ((l.length : Int) ≤ I) = true := by simp; omega
      go_enter Try.func12, Try.ntmps12
      go_wp2_with fail
      first | exact FIN.out | (go_ret; exact FIN.out)
end Go.Proofs.Ytomennaekjklbaa
