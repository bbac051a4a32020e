/- The document's Build; by-name template. -/
import Derived.Test.YtomennaekjklbaaKRGrow
import Derived.Test.YtomennaekjklbaaKBuild
namespace Go.Proofs.Ytomennaekjklbaa
open Go.RowKit Go.Lib Go.Sort
set_option linter.unusedVariables false
set_option linter.unusedSimpArgs false

/-- A tree of the document's in memory. -/
def RTreeAt (w : World) (T : Nat) (l : List EN) (t : TN) : Prop := ∃ B A c base, w.heap[T]? = some (.cells #[.pointer (some ⟨B, 0, none⟩), .int .i64 (t.count : Nat), .slice A l.length c] 61 (0, 0)) ∧ l.length ≤ c ∧ Sl w 25 enc25 A l.length l ∧ (A = none → c = 0) ∧ RNode base w t B
theorem RTreeAt.keep {w w' : World} {T : Nat} {l : List EN} {t : TN} (h : RTreeAt w T l t) (hb : Below w.heap.size w w') : RTreeAt w' T l t := by
  obtain ⟨B, A, c, base, h1, h2, h3, h4, h5⟩ := h
  exact ⟨B, A, c, base, blkB hb h1, h2, h3.keep hb, h4, h5.keep hb⟩
/-- A tree of the document's all of whose blocks are not below lo. -/
def RTreeHi (lo : Nat) (w : World) (T : Nat) (l : List EN) (t : TN) : Prop := ∃ B A c base, w.heap[T]? = some (.cells #[.pointer (some ⟨B, 0, none⟩), .int .i64 (t.count : Nat), .slice A l.length c] 61 (0, 0)) ∧ l.length ≤ c ∧ Sl w 25 enc25 A l.length l ∧ (A = none → c = 0) ∧ RNode base w t B ∧ lo ≤ T ∧ lo ≤ base ∧ ∀ b off sp, A = some ⟨b, off, sp⟩ → lo ≤ b
theorem RTreeHi.at {lo : Nat} {w : World} {T : Nat} {l : List EN} {t : TN} (h : RTreeHi lo w T l t) : RTreeAt w T l t := by
  obtain ⟨B, A, c, base, h1, h2, h3, h4, h5, _⟩ := h
  exact ⟨B, A, c, base, h1, h2, h3, h4, h5⟩
theorem RTreeHi.keep {lo : Nat} {w w' : World} {T : Nat} {l : List EN} {t : TN} (h : RTreeHi lo w T l t) (hb : Below w.heap.size w w') : RTreeHi lo w' T l t := by
  obtain ⟨B, A, c, base, h1, h2, h3, h4, h5, h6⟩ := h
  exact ⟨B, A, c, base, blkB hb h1, h2, h3.keep hb, h4, h5.keep hb, h6⟩
theorem RTreeHi.off {lo g : Nat} {w w' : World} {T : Nat} {l : List EN} {t : TN} (h : RTreeHi lo w T l t) (hg : g < lo) (ho : OffG g w w') : RTreeHi lo w' T l t := by
  obtain ⟨B, A, c, base, h1, h2, h3, h4, h5, h6, h7, h8⟩ := h
  exact ⟨B, A, c, base, blkO ho (by omega) h1, h2, h3.off (fun _ b off sp e => by have := h8 b off sp e; omega) ho, h4, h5.off (by omega) ho, h6, h7, h8⟩
def RBuildPost (w : World) (l : List EN) (r : Option (TN × Nat)) (e : Ending) (w' : World) : Prop := match r with
  | none => e = .returned (.tuple #[.pointer none, .int .i64 90]) ∧ Below w.heap.size w w'
  | some (t, m) => ∃ T, e = .returned (.tuple #[.pointer (some ⟨T, 0, none⟩), .int .i64 0]) ∧ (w.heap.size ≤ T ∧ RTreeHi w.heap.size w' T l t) ∧ RTreeAt w' T l t ∧ Below w.heap.size w w'
theorem cells3 {w : World} {B : Nat} {x0 x1 x2 : Value} {t : TypeId} (h : w.heap[B]? = some (.cells #[x0, x1, x2] t (0, 0))) :
    w.cell? ⟨B, 0, none⟩ = some x0 ∧ w.cell? ⟨B, 1, none⟩ = some x1 ∧ w.cell? ⟨B, 2, none⟩ = some x2 ∧ w.frozen? ⟨B, 2, none⟩ = false := by
  refine ⟨?_, ?_, ?_, ?_⟩ <;> simp [World.cell?, World.frozen?, h]
theorem set2' {w : World} {B : Nat} {x0 x1 x2 : Value} {t : TypeId} (h : w.heap[B]? = some (.cells #[x0, x1, x2] t (0, 0))) (a : Value) : (w.setCell ⟨B, 2, none⟩ a).heap[B]? = some (.cells #[x0, x1, a] t (0, 0)) := by simp [World.setCell, Array.getElem?_modify, h]
set_option maxRecDepth 100000 in
set_option maxHeartbeats 8000000 in
theorem rbuild_any (A : Option Addr) (n c : Nat) (l : List EN) (hn : n ≤ 4096) (hl5 : (leftP fullB l).length ≤ 512) (hc : A = none → c = 0) (hw : ∀ e ∈ l, WB e.bx) (w : World) (hS : Sl w 25 enc25 A n l) :
    Calls Try.prog 6 #[.slice A n c] w (RBuildPost w l (treeP l)) := by
  obtain ⟨M, hM⟩ : ∃ M, M = RBuildPost w l (treeP l) := ⟨_, rfl⟩
  rw [← hM]
  have HM := Lib.hid hM; clear hM
  obtain ⟨iu, hiu, hu0, hu1, hu2⟩ := info_parts en_info
  have HL := Lib.hid hS.len
  have cf := fun W : World => rfull_any W
  have gr : ∀ (W : World), Sl W 25 enc25 A n l → Calls Try.prog 15 #[.slice A n c, .agg (bxc fun _ => full4), .int .i64 1, .int .i64 512] W (RGrowPost W (treeP l)) := fun W hs => rgrow_any 23 1 rfl fullB wb_full l hw 512 (Nat.le_refl _) A n c hn hl5 W hs
  have hcnt := fun t m => grow_count 23 fullB l 512 t m
  rw [show growP 23 fullB l 512 = treeP l from rfl] at hcnt
  generalize (bxc fun _ => full4) = C at *
  obtain ⟨R, hR⟩ : ∃ R, R = treeP l := ⟨_, rfl⟩
  rw [← hR] at HM
  simp only [← hR] at gr hcnt
  clear hR
  have HCNT := Lib.hid hcnt; clear hcnt
  go_enter Try.func6, Try.ntmps6
  cases R with
  | none =>
    go_wp2_with (first | (go_at_call 16; with_reducible refine (cf _).mono ?_; rintro e w1 ⟨rfl, hb⟩; have hS1 := hS.keep hb) | (go_at_call 15; go_loud (with_reducible refine (gr _ hS1).mono ?_); rintro e w2 ⟨rfl, hb2⟩))
    have FIN : M (.returned (.tuple #[.pointer none, .int .i64 90])) w2 := by rw [HM.out]; exact ⟨rfl, bel_via hb hb2⟩
    have FIN := Lib.hid FIN
    first | exact FIN.out | (simp [bodyPost, results, Try.results6, go_sem]; exact FIN.out) | (go_ret2; exact FIN.out)
  | some p =>
    obtain ⟨t, m⟩ := p
    have hc512 := HCNT.out t m rfl
    go_upto_region 5 with (first | (go_at_call 16; with_reducible refine (cf _).mono ?_; rintro e w1 ⟨rfl, hb⟩; have hS1 := hS.keep hb) | (go_at_call 15; go_loud (with_reducible refine (gr _ hS1).mono ?_); rintro e w2 ⟨B, rfl, hn2, hb2⟩))
    have hS2 := hS1.keep hb2
    have b2 := bel_via hb hb2
    clear gr cf HCNT hS1
    have hms : (512 : Int) - (m : Int) = ((t.count : Nat) : Int) := by omega
    rw [hms]
    obtain ⟨w3, hw3⟩ : ∃ x, x = w2.alloc (.cells #[.pointer (some ⟨B, 0, none⟩), .int .i64 (t.count : Nat), .slice none 0 0] 61) := ⟨_, rfl⟩
    have hT := al_hd2 hw3
    have b3 : Below w2.heap.size w2 w3 := by rw [hw3]; exact Below.al (Below.refl _ _) _
    have hS3 := hS2.keep b3
    have b23 := b3
    have hTw := b2.size
    obtain ⟨T, hTT⟩ : ∃ T, T = w2.heap.size := ⟨_, rfl⟩
    rw [← hw3]
    have hT2 : w2.heap.size ≤ T := by omega
    rw [← hTT] at hT hTw ⊢
    replace b2 := bel_via b2 b3
    clear hw3 hms hS2 b3 hTT
    obtain ⟨c0, c1, c2, z2⟩ := cells3 hT
    have hown0 : w3.ownsRow w3.heap.size 32 25 (.slice none 0 0) 0 ([] : List Value) := ⟨rfl, .inl ⟨rfl, rfl⟩⟩
    have hb81 : (0 + n) * 200 ≤ 140737488355328 := by omega
    have h863 : 0 + n ≤ maxLen := by unfold maxLen; omega
    have hS3' := Lib.hid hS3
    have HB0 := Lib.hid (Below.refl w3.heap.size w3)
    go_wp2_with (at_builtin; go_loud (refine app_sl rfl _ _ 22 rfl w3.heap.size 32 iu (.agg #[.int .u64 0, .int .u64 0, .int .u64 0, .int .u64 0, .int .u64 0, .int .u64 0, .int .u64 0, .int .u64 0, .int .u64 0, .int .u64 0, .int .u64 0, .int .u64 0, .int .u64 0, .int .u64 0, .int .u64 0, .int .u64 0, .int .u64 0, .int .u64 0, .int .u64 0, .int .u64 0, .int .u64 0, .int .u64 0, .int .u64 0, .int .u64 0, .int .i64 0]) 25 200 Try.underlying22 hiu hu0 hu1 hu2 rfl (by decide) _ 0 [] rfl hown0 enc25 en25_len A n c l hS3'.out hc rfl en25_one h863 hb81 (Nat.le_refl _) ?_))
    intro v9 w9 hown9 hg9
    have hb9 : Below w3.heap.size w3 w9 := HB0.out.grown hg9 (Nat.le_refl _) (own_gt hown0)
    have hown : w9.ownsRow w3.heap.size 32 25 v9 l.length (l.flatMap enc25) := by have h := hown9; rw [HL.out]; simpa using h
    obtain ⟨A3, c3, rfl, hS9, hnew⟩ := sl_of_own (k := 25) (enc := enc25) en25_len hown rfl
    have hT9 := blkB hb9 hT
    have hTl := blk_lt hT
    obtain ⟨_, _, y2, x2⟩ := cells3 hT9
    have hnil : A3 = none → c3 = 0 := fun h => by subst h; exact own_nil hown
    have hc9 := own_cap hown
    have ho : OffG T w9 (w9.setCell ⟨T, 2, none⟩ (.slice A3 l.length c3)) := OffG.set _ _
    have hn9 := hn2.keep (below_set (bel_via b23 hb9) hT2 2 (.slice A3 l.length c3))
    have FIN : M (.returned (.tuple #[.pointer (some ⟨T, 0, none⟩), .int .i64 0])) (w9.setCell ⟨T, 2, none⟩ (.slice A3 l.length c3)) := by
      rw [HM.out]
      have hhi : RTreeHi w.heap.size (w9.setCell ⟨T, 2, none⟩ (.slice A3 l.length c3)) T l t := ⟨B, A3, c3, _, set2' hT9 _, hc9, hS9.off (fun _ b off sp e => by have := hnew b off sp e; omega) ho, hnil, hn9, hTw, hb.size, fun b off sp e => by have := hnew b off sp e; have := b2.size; omega⟩
      refine ⟨T, rfl, ⟨hTw, hhi⟩, hhi.at, below_set (bel_via b2 hb9) hTw _ _⟩
    have FIN := Lib.hid FIN
    clear hown9 hg9 hown hn9 hn2 hS9 hT9
    go_wp2_with fail
    first | exact FIN.out | (simp [bodyPost, results, Try.results6, go_sem]; exact FIN.out) | (go_ret2; exact FIN.out)
end Go.Proofs.Ytomennaekjklbaa
