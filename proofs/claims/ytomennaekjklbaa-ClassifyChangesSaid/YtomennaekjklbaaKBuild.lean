/- The program's Build: clone, grow, become; by-name template. -/
import Derived.Test.YtomennaekjklbaaKGrow
import Derived.Laws.EntriesVeiled
namespace Go.Proofs.Ytomennaekjklbaa
open Go.RowKit Go.Lib Go.Sort
set_option linter.unusedVariables false
set_option linter.unusedSimpArgs false

def fullB : Nat → R4 := fun _ => full4
theorem wb_full : WB fullB := fun k _ => by
  unfold fullB full4
  exact ⟨⟨by decide, by decide⟩, ⟨by decide, by decide⟩, ⟨by decide, by decide⟩, ⟨by decide, by decide⟩⟩
/-- What grows of entries, at the root. -/
def treeP (l : List EN) : Option (TN × Nat) := growP 23 fullB l 512
theorem Sl.notAt {w : World} {A : Option Addr} {n : Nat} {l : List EN} {G : Nat} (h : Sl w 25 enc25 A n l) (hG : w.heap.size ≤ G) : 0 < n → NotAt G A := fun hn b off sp e => by
  obtain ⟨b', off', e', hlt, _⟩ := h.row hn
  rw [e] at e'
  cases e'
  omega
theorem OffG.bel' {w w0 w' : World} (h0 : Below w.heap.size w w0) {G : Nat} (hG : w.heap.size ≤ G) (h : OffG G w0 w') : Below w.heap.size w w' := h0.trans (h.bel.mono hG)
def RootPost (w : World) (r : Option (TN × Nat)) (e : Ending) (w' : World) : Prop := match r with
  | none => e = .returned (.tuple #[.nilIface, .bool false]) ∧ Below w.heap.size w w'
  | some (t, m) => ∃ ty x, e = .returned (.tuple #[.iface ty x, .bool true]) ∧ NodeAt w.heap.size w' t (.iface ty x) ∧ Below w.heap.size w w'
set_option maxRecDepth 100000 in
set_option maxHeartbeats 4000000 in
theorem root_any (A : Option Addr) (n c : Nat) (l : List EN) (hn : n ≤ 4096) (hl5 : (leftP fullB l).length ≤ 512) (hnc : n ≤ c) (hw : ∀ e ∈ l, WB e.bx) (w : World) (hS : Sl w 25 enc25 A n l) :
    Calls Try.prog 23 #[.slice A n c] w (RootPost w (treeP l)) := by
  obtain ⟨M, hM⟩ : ∃ M, M = RootPost w (treeP l) := ⟨_, rfl⟩
  rw [← hM]
  have HM := Lib.hid hM; clear hM
  have cf := fun W : World => full_any W
  have gr := fun (G : Nat) (W : World) hG hA hs => grow_any 23 1 rfl fullB wb_full l hw 512 (Nat.le_refl _) A n c hn hl5 hnc G W hG hA hs
  rw [show (512 : Int) - ((512 : Nat) : Int) = 0 by decide] at gr
  have gr' : ∀ (G : Nat) (W : World), W.heap[G]? = some (.cells #[.int .i64 0] 85 (0, 0)) → (0 < n → NotAt G A) → Sl W 25 enc25 A n l → Calls Try.prog 31 #[.pointer (some ⟨G, 0, none⟩), .slice A n c, .agg (bxc fun _ => full4), .int .i64 1] W (GrowPost W G (treeP l)) := gr
  clear gr
  have hNA := hS.notAt (Nat.le_refl _)
  have hG0 := heap_alloc_new w (.cells #[.int .i64 0] 85)
  have b0 := Below.al (Below.refl w.heap.size w) (.cells #[.int .i64 0] 85)
  have hS0 := hS.keep b0
  generalize (bxc fun _ => full4) = C at *
  obtain ⟨R, hR⟩ : ∃ R, R = treeP l := ⟨_, rfl⟩
  rw [← hR] at HM gr'
  clear hR
  go_enter Try.func23, Try.ntmps23
  go_upto_region 2 with fail
  obtain ⟨w0, hw0⟩ : ∃ w0, w0 = w.alloc (.cells #[.int .i64 0] 85) := ⟨_, rfl⟩
  rw [← hw0] at hG0 b0 hS0 ⊢
  clear hw0
  cases R with
  | none =>
    go_wp2_with (first | (go_at_call 32; with_reducible refine (cf _).mono ?_; rintro e w1 ⟨rfl, hb⟩; replace hG0 := blkB hb hG0; replace hS0 := hS0.keep hb; replace b0 := bel_via b0 hb; clear hb) | (go_at_call 31; go_loud (with_reducible refine (gr' _ _ hG0 hNA hS0).mono ?_); rintro e w2 ⟨rfl, hof⟩))
    have FIN : M (.returned (.tuple #[.nilIface, .bool false])) w2 := by rw [HM.out]; exact ⟨rfl, hof.bel' b0 (Nat.le_refl _)⟩
    have FIN := Lib.hid FIN
    first | exact FIN.out | (simp [bodyPost, results, Try.results23, go_sem]; exact FIN.out) | (go_ret2; exact FIN.out)
  | some p =>
    obtain ⟨t, m⟩ := p
    go_wp2_with (first | (go_at_call 32; with_reducible refine (cf _).mono ?_; rintro e w1 ⟨rfl, hb⟩; replace hG0 := blkB hb hG0; replace hS0 := hS0.keep hb; replace b0 := bel_via b0 hb; clear hb) | (go_at_call 31; go_loud (with_reducible refine (gr' _ _ hG0 hNA hS0).mono ?_); rintro e w2 ⟨ty, x, rfl, hnode, -, hof⟩))
    have FIN : M (.returned (.tuple #[.iface ty x, .bool true])) w2 := by rw [HM.out]; exact ⟨_, _, rfl, hnode, hof.bel' b0 (Nat.le_refl _)⟩
    have FIN := Lib.hid FIN
    first | exact FIN.out | (simp [bodyPost, results, Try.results23, go_sem]; exact FIN.out) | (go_ret2; exact FIN.out)

/-- A tree in memory. -/
def TreeAt (w : World) (B : Nat) (l : List EN) (t : TN) : Prop := ∃ A c ty x G, w.heap[B]? = some (.cells #[.slice A l.length c, .iface ty x] 53 (0, 0)) ∧ l.length ≤ c ∧ Sl w 25 enc25 A l.length l ∧ NodeAt G w t (.iface ty x)
theorem TreeAt.keep {w w' : World} {B : Nat} {l : List EN} {t : TN} (h : TreeAt w B l t) (hb : Below w.heap.size w w') : TreeAt w' B l t := by
  obtain ⟨A, c, ty, x, G, h1, h2, h3, h4⟩ := h
  exact ⟨A, c, ty, x, G, blkB hb h1, h2, h3.keep hb, h4.keep hb⟩
/-- The same, by its row and what its nodes lie behind. -/
def TreeG (w : World) (B : Nat) (A : Option Addr) (c G : Nat) (l : List EN) (t : TN) : Prop := ∃ ty x, w.heap[B]? = some (.cells #[.slice A l.length c, .iface ty x] 53 (0, 0)) ∧ l.length ≤ c ∧ Sl w 25 enc25 A l.length l ∧ NodeAt G w t (.iface ty x)
theorem TreeG.at {w : World} {B : Nat} {A : Option Addr} {c G : Nat} {l : List EN} {t : TN} (h : TreeG w B A c G l t) : TreeAt w B l t := by
  obtain ⟨ty, x, h⟩ := h
  exact ⟨A, c, ty, x, G, h⟩
/-- A tree all of whose blocks are not below lo. -/
def TreeHi (lo : Nat) (w : World) (B : Nat) (l : List EN) (t : TN) : Prop := ∃ A c G, TreeG w B A c G l t ∧ lo ≤ B ∧ lo ≤ G ∧ ∀ b off sp, A = some ⟨b, off, sp⟩ → lo ≤ b
theorem TreeHi.at {lo : Nat} {w : World} {B : Nat} {l : List EN} {t : TN} (h : TreeHi lo w B l t) : TreeAt w B l t := by
  obtain ⟨_, _, _, h, _⟩ := h
  exact h.at
theorem TreeHi.keep {lo : Nat} {w w' : World} {B : Nat} {l : List EN} {t : TN} (h : TreeHi lo w B l t) (hb : Below w.heap.size w w') : TreeHi lo w' B l t := by
  obtain ⟨A, c, G, ⟨ty, x, h1, h2, h3, h4⟩, h5⟩ := h
  exact ⟨A, c, G, ⟨ty, x, blkB hb h1, h2, h3.keep hb, h4.keep hb⟩, h5⟩
theorem TreeHi.off {lo g : Nat} {w w' : World} {B : Nat} {l : List EN} {t : TN} (h : TreeHi lo w B l t) (hg : g < lo) (ho : OffG g w w') : TreeHi lo w' B l t := by
  obtain ⟨A, c, G, ⟨ty, x, h1, h2, h3, h4⟩, h5, h6, h7⟩ := h
  exact ⟨A, c, G, ⟨ty, x, blkO ho (by omega) h1, h2, h3.off (fun _ b off sp e => by have := h7 b off sp e; omega) ho, h4.off (by omega) ho⟩, h5, h6, h7⟩
def BecPost (w : World) (B : Nat) (A : Option Addr) (c : Nat) (l : List EN) (r : Option (TN × Nat)) (e : Ending) (w' : World) : Prop := match r with
  | none => e = .returned (.int .i64 90) ∧ Below w.heap.size w w'
  | some (t, m) => e = .returned (.int .i64 0) ∧ TreeG w' B A c w.heap.size l t ∧ OffG B w w'
set_option maxRecDepth 100000 in
set_option maxHeartbeats 4000000 in
theorem become_any (B : Nat) (u0 u1 : Value) (A : Option Addr) (n c : Nat) (l : List EN) (hn : n ≤ 4096) (hl5 : (leftP fullB l).length ≤ 512) (hnc : n ≤ c) (hw : ∀ e ∈ l, WB e.bx) (w : World) (hB : w.heap[B]? = some (.cells #[u0, u1] 53 (0, 0))) (hNB : 0 < n → NotAt B A) (hS : Sl w 25 enc25 A n l) :
    Calls Try.prog 13 #[.pointer (some ⟨B, 0, none⟩), .slice A n c] w (BecPost w B A c l (treeP l)) := by
  obtain ⟨M, hM⟩ : ∃ M, M = BecPost w B A c l (treeP l) := ⟨_, rfl⟩
  rw [← hM]
  have HM := Lib.hid hM; clear hM
  have ra := root_any A n c l hn hl5 hnc hw w hS
  obtain ⟨R, hR⟩ : ∃ R, R = treeP l := ⟨_, rfl⟩
  rw [← hR] at HM ra
  clear hR
  have HS := Lib.hid hS
  have hBl := blk_lt hB
  have HLEN := Lib.hid hS.len
  clear hS
  cases R with
  | none =>
    go_enter Try.func13, Try.ntmps13
    go_wp2_with (go_at_call 23; go_loud (with_reducible refine ra.mono ?_); rintro e w1 ⟨rfl, hb⟩)
    have FIN : M (.returned (.int .i64 90)) w1 := by rw [HM.out]; exact ⟨rfl, hb⟩
    have FIN := Lib.hid FIN
    first | exact FIN.out | (simp [bodyPost, results, Try.results13, go_sem]; exact FIN.out) | (go_ret; exact FIN.out)
  | some p =>
    obtain ⟨t, m⟩ := p
    go_enter Try.func13, Try.ntmps13
    go_upto_region 4 with (go_at_call 23; go_loud (with_reducible refine ra.mono ?_); rintro e w1 ⟨ty, x, rfl, hnode, hb⟩)
    have hB1 := blkB hb hB
    have hS1 := HS.out.keep hb
    obtain ⟨y0, y1, z0, z1⟩ := cells2 hB1
    clear ra hB
    go_wp2_with fail
    have FIN : M (.returned (.int .i64 0)) ((w1.setCell ⟨B, 0, none⟩ (.slice A n c)).setCell ⟨B, 1, none⟩ (.iface ty x)) := by
      rw [HM.out]
      have ho : OffG B w1 ((w1.setCell ⟨B, 0, none⟩ (.slice A n c)).setCell ⟨B, 1, none⟩ (.iface ty x)) := (OffG.set _ _).trans (OffG.set _ _)
      have e : n = l.length := HLEN.out.symm
      subst e
      exact ⟨rfl, ⟨ty, x, heap_set2 hB1 _ _, hnc, hS1.off hNB ho, hnode.off (Nat.le_of_lt hBl) ho⟩, (OffG.of hb (Nat.le_of_lt hBl)).trans ho⟩
    have FIN := Lib.hid FIN
    first | exact FIN.out | (simp [bodyPost, results, Try.results13, go_sem]; exact FIN.out) | (go_ret; exact FIN.out)

/-- A row of its own with the same entries. -/
def ClonePost (w : World) (l : List EN) (e : Ending) (w' : World) : Prop := ∃ A c, e = .returned (.slice A l.length c) ∧ l.length ≤ c ∧ Sl w' 25 enc25 A l.length l ∧ (A = none → c = 0) ∧ (∀ b off sp, A = some ⟨b, off, sp⟩ → w.heap.size ≤ b) ∧ Below w.heap.size w w'
set_option maxRecDepth 100000 in
set_option maxHeartbeats 4000000 in
theorem clone_any (A : Option Addr) (n c : Nat) (l : List EN) (hn : n ≤ 4096) (w : World) (hS : Sl w 25 enc25 A n l) : Calls Try.prog 14 #[.slice A n c] w (ClonePost w l) := by
  obtain ⟨M, hM⟩ : ∃ M, M = ClonePost w l := ⟨_, rfl⟩
  rw [← hM]
  have HM := Lib.hid hM; clear hM
  obtain ⟨iu, hiu, hu0, hu1, hu2⟩ := info_parts en_info
  have qT : ∀ (w : World) (a : Option Addr) (n c n' c' : Nat), (binOp .eql 22 (.slice a n c) (.slice none n' c')).run Try.prog w = .ok (.bool a.isNone) w := fun w a n c n' c' => Lib.run_eql_slice_nil w _ _ a n c n' c' Try.underlying22
  have HLEN := Lib.hid hS.len
  cases A with
  | none =>
    have hn0 : n = 0 := by
      apply Classical.byContradiction; intro hh
      obtain ⟨b, off, hA, _⟩ := hS.row (by omega)
      cases hA
    subst hn0
    have e0 : l = [] := List.eq_nil_of_length_eq_zero HLEN.out
    subst e0
    have FIN : M (.returned (.slice none 0 0)) w := by
      rw [HM.out]
      exact ⟨none, 0, rfl, Nat.le_refl _, hS, fun _ => rfl, fun b off sp h => (by cases h), Below.refl _ _⟩
    have FIN := Lib.hid FIN
    clear HLEN hS
    go_enter Try.func14, Try.ntmps14
    go_wp2_with fail
    first | exact FIN.out | (simp [bodyPost, results, Try.results14, go_sem]; exact FIN.out) | (go_ret; exact FIN.out)
  | some ad =>
    have hown8 : (w.alloc (.cells #[] 32)).ownsRow w.heap.size 32 25 (.slice (some ⟨w.heap.size, 0, none⟩) 0 0) 0 ([] : List Value) := World.ownsRow_made w #[] 0 (Nat.le_refl _) (by unfold maxLen; omega) rfl
    have b0 := Below.al (Below.refl w.heap.size w) (.cells #[] 32)
    have hS8 := hS.keep b0
    have hb81 : (0 + n) * 200 ≤ 140737488355328 := by omega
    have h863 : 0 + n ≤ maxLen := by unfold maxLen; omega
    have hS8 := Lib.hid hS8
    have hbw8 : w.heap.size ≤ (w.alloc (.cells #[] 32)).heap.size := by rw [al_size]; omega
    have HB0 := Lib.hid b0
    clear hS b0
    go_enter Try.func14, Try.ntmps14
    go_upto_region 3 with fail
    go_wp2_with (first | (refine wpList_bs0 rfl rfl ?_) | (at_builtin; go_loud (refine app_sl rfl _ _ 22 rfl w.heap.size 32 iu (.agg #[.int .u64 0, .int .u64 0, .int .u64 0, .int .u64 0, .int .u64 0, .int .u64 0, .int .u64 0, .int .u64 0, .int .u64 0, .int .u64 0, .int .u64 0, .int .u64 0, .int .u64 0, .int .u64 0, .int .u64 0, .int .u64 0, .int .u64 0, .int .u64 0, .int .u64 0, .int .u64 0, .int .u64 0, .int .u64 0, .int .u64 0, .int .u64 0, .int .i64 0]) 25 200 Try.underlying22 hiu hu0 hu1 hu2 rfl (by decide) _ 0 [] rfl hown8 enc25 en25_len (some ad) n c l hS8.out (fun h => by cases h) rfl en25_one h863 hb81 hbw8 ?_)))
    intro v9 w9 hown9 hg9
    have FIN : M (.returned v9) w9 := by
      rw [HM.out]
      have hown : w9.ownsRow w.heap.size 32 25 v9 l.length (l.flatMap enc25) := by have h := hown9; rw [HLEN.out]; simpa using h
      obtain ⟨A3, c3, rfl, hS3, hnew⟩ := sl_of_own (k := 25) (enc := enc25) en25_len hown rfl
      exact ⟨A3, c3, rfl, own_cap hown, hS3, fun h => by subst h; exact own_nil hown, hnew, HB0.out.grown hg9 hbw8 (own_gt hown8)⟩
    have FIN := Lib.hid FIN
    clear hown9 hg9
    go_wp2_with fail
    first | exact FIN.out | (simp [bodyPost, results, Try.results14, go_sem]; exact FIN.out) | (go_ret; exact FIN.out)
def BuildPost (w : World) (l : List EN) (r : Option (TN × Nat)) (e : Ending) (w' : World) : Prop := match r with
  | none => e = .returned (.tuple #[.pointer none, .int .i64 90]) ∧ Below w.heap.size w w'
  | some (t, m) => ∃ B, e = .returned (.tuple #[.pointer (some ⟨B, 0, none⟩), .int .i64 0]) ∧ (w.heap.size ≤ B ∧ TreeHi w.heap.size w' B l t) ∧ TreeAt w' B l t ∧ Below w.heap.size w w'
set_option maxRecDepth 100000 in
set_option maxHeartbeats 4000000 in
theorem build_any (A : Option Addr) (n c : Nat) (l : List EN) (hn : n ≤ 4096) (hl5 : (leftP fullB l).length ≤ 512) (hw : ∀ e ∈ l, WB e.bx) (w : World) (hS : Sl w 25 enc25 A n l) :
    Calls Try.prog 5 #[.slice A n c] w (BuildPost w l (treeP l)) := by
  obtain ⟨M, hM⟩ : ∃ M, M = BuildPost w l (treeP l) := ⟨_, rfl⟩
  rw [← hM]
  have HM := Lib.hid hM; clear hM
  have ca := fun (W : World) (h : Sl W 25 enc25 A n l) => clone_any A n c l hn W h
  have ba := fun (B : Nat) (A' : Option Addr) (c' : Nat) (W : World) hc' hB hNB hs => become_any B (.slice none 0 0) .nilIface A' l.length c' l (by rw [hS.len]; exact hn) hl5 hc' hw W hB hNB hs
  obtain ⟨R, hR⟩ : ∃ R, R = treeP l := ⟨_, rfl⟩
  rw [← hR] at HM
  simp only [← hR] at ba
  clear hR
  have hT := heap_alloc_new w (.cells #[.slice none 0 0, .nilIface] 53)
  have b0 := Below.al (Below.refl w.heap.size w) (.cells #[.slice none 0 0, .nilIface] 53)
  have hS0 := hS.keep b0
  clear hS
  go_enter Try.func5, Try.ntmps5
  go_upto_region 2 with fail
  obtain ⟨w0, hw0⟩ : ∃ w0, w0 = w.alloc (.cells #[.slice none 0 0, .nilIface] 53) := ⟨_, rfl⟩
  rw [← hw0] at hT b0 hS0 ⊢
  clear hw0
  cases R with
  | none =>
    go_wp2_with (first | (go_at_call 14; go_loud (with_reducible refine (ca _ hS0).mono ?_); rintro e w1 ⟨A3, c3, rfl, hc3, hS3, hnil3, hnew3, hb⟩; have hT1 := blkB hb hT; have hNB : 0 < l.length → NotAt w.heap.size A3 := (fun _ b off sp h => by have h1 := hnew3 b off sp h; have h2 := blk_lt hT; omega)) | (go_at_call 13; go_loud (with_reducible refine (ba _ _ _ _ hc3 hT1 hNB hS3).mono ?_); rintro e w2 ⟨rfl, hb2⟩))
    have FIN : M (.returned (.tuple #[.pointer none, .int .i64 90])) w2 := by rw [HM.out]; exact ⟨rfl, bel_via b0 (bel_via hb hb2)⟩
    have FIN := Lib.hid FIN
    first | exact FIN.out | (simp [bodyPost, results, Try.results5, go_sem]; exact FIN.out) | (go_ret2; exact FIN.out)
  | some p =>
    obtain ⟨t, m⟩ := p
    go_wp2_with (first | (go_at_call 14; go_loud (with_reducible refine (ca _ hS0).mono ?_); rintro e w1 ⟨A3, c3, rfl, hc3, hS3, hnil3, hnew3, hb⟩; have hT1 := blkB hb hT; have hNB : 0 < l.length → NotAt w.heap.size A3 := (fun _ b off sp h => by have h1 := hnew3 b off sp h; have h2 := blk_lt hT; omega)) | (go_at_call 13; go_loud (with_reducible refine (ba _ _ _ _ hc3 hT1 hNB hS3).mono ?_); rintro e w2 ⟨rfl, htree, hof⟩))
    have FIN : M (.returned (.tuple #[.pointer (some ⟨w.heap.size, 0, none⟩), .int .i64 0])) w2 := by rw [HM.out]; have hx : w.heap.size ≤ w0.heap.size := b0.size; have hx1 : w0.heap.size ≤ w1.heap.size := hb.size; exact ⟨_, rfl, ⟨Nat.le_refl _, ⟨_, _, _, htree, Nat.le_refl _, by omega, fun b off sp h => by have := hnew3 b off sp h; omega⟩⟩, htree.at, hof.bel' (bel_via b0 hb) (Nat.le_refl _)⟩
    have FIN := Lib.hid FIN
    first | exact FIN.out | (simp [bodyPost, results, Try.results5, go_sem]; exact FIN.out) | (go_ret2; exact FIN.out)
end Go.Proofs.Ytomennaekjklbaa
