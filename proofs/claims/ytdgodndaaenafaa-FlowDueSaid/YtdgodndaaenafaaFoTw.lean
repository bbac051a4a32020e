/- Two rows of numbers held against each other; both tables side by side; by-name template. -/
import Derived.Test.YtdgodndaaenafaaFoRu
import Derived.Test.YtdgodndaaenafaaFoSt
namespace Go.Proofs.Ytdgodndaaenafaa
open Go.RowKit Go.Lib Go.Maps
set_option linter.unusedVariables false
set_option linter.unusedSimpArgs false

def e1 (n : Int) : List Value := [vI n]
theorem e1_len (n : Int) : (e1 n).length = 1 := rfl
theorem map_flat (L : List Int) : L.map vI = L.flatMap e1 := by
  induction L with
  | nil => rfl
  | cons a t ih => rw [List.map_cons, List.flatMap_cons, ih]; rfl
theorem ints_sl {w : World} {base n : Nat} {v : Value} {L : List Int} (h : w.ownsRow base 3 1 v n (L.map vI)) (hl : L.length = n) : ∃ A c, v = .slice A n c ∧ Sl w 1 e1 A n L := by
  rw [map_flat] at h
  obtain ⟨A, c, hv, hs, _⟩ := sl_of_own (k := 1) (enc := e1) e1_len h hl
  exact ⟨A, c, hv, hs⟩

theorem same_ints {w : World} {A B : Option Addr} {n m c d : Nat} {L K : List Int} (hn : n ≤ 65536) (h : Sl w 1 e1 A n L) (h' : Sl w 1 e1 B m K) :
    Calls Try.prog 13 #[.slice A n c, .slice B m d] w fun e w' => e = .returned (.bool (decide (L = K))) ∧ Below w.heap.size w w' := by
  have hl := h.len
  have hk := h'.len
  by_cases hnm : n = m
  · subst hnm
    have HNO : ∀ i, i < n → L[i]? ≠ K[i]? → decide (L = K) = false := fun i hi hne => decide_eq_false (fun e => hne (by rw [e]))
    have HYES : (∀ i, i < n → L[i]? = K[i]?) → decide (L = K) = true := fun hh => decide_eq_true (List.ext_getElem? fun i => by
      by_cases hi : i < n
      · exact hh i hi
      · rw [List.getElem?_eq_none (by omega), List.getElem?_eq_none (by omega)])
    generalize decide (L = K) = Z at *
    have HN := Lib.hid HNO
    have HY := Lib.hid HYES
    clear HNO HYES
    go_enter Try.func13, Try.ntmps13
    go_wp2
    go_loopw [5] (fun v wr => ∃ i : Nat, v = .int .i64 (i : Int) ∧ i ≤ n ∧ Hid (∀ j, j < i → L[j]? = K[j]?) ∧ Below w.heap.size w wr) (fun v _ => n - (intOf v).toNat)
    case atStart => exact ⟨0, rfl, Nat.zero_le _, Lib.hid (fun j hj => absurd hj (Nat.not_lt_zero _)), Below.refl _ _⟩
    case round =>
      obtain ⟨i, rfl, hi, HF, hb⟩ := hrel
      by_cases hlt : i < n
      · obtain ⟨b, off, rfl, _, hr⟩ := h.row (by omega)
        obtain ⟨b', off', rfl, _, hr'⟩ := h'.row (by omega)
        have r0 := keepc hb (hr i _ (List.getElem?_eq_getElem (by omega)) 0 _ rfl)
        have r1 := keepc hb (hr' i _ (List.getElem?_eq_getElem (by omega)) 0 _ rfl)
        simp only [Nat.mul_one, Nat.add_zero] at r0 r1
        have hltI : (i : Int) < (n : Int) := by omega
        have hdd : decide (i < n) = true := by simp [hlt]
        have eL : L[i]? = some L[i] := List.getElem?_eq_getElem (by omega)
        have eK : K[i]? = some K[i] := List.getElem?_eq_getElem (by omega)
        by_cases he : L[i] = K[i]
        · have HF' : Hid (∀ j, j < i + 1 → L[j]? = K[j]?) := Lib.hid (fun j hj => by
            by_cases e : j = i
            · subst e; rw [eL, eK, he]
            · exact HF.out j (by omega))
          rw [he] at r0
          generalize K[i] = y at *
          clear HF HN HY eL eK he hr hr' h h'
          unfold vI at r0 r1
          go_wp2
          go_quiet (fail)
          go_wp2
          refine ⟨?_, by simp [intOf]; omega⟩
          first | exact ⟨i + 1, by simp, by omega, HF', bel_dn hb _⟩ | ((repeat apply Exists.intro); refine ⟨⟨i + 1, ?_, by omega, HF', bel_dn hb _⟩, rfl⟩; simp)
        · have hz := HN.out i hlt (by rw [eL, eK]; simpa using he)
          have heb : (L[i] == K[i]) = false := by simpa using he
          generalize L[i] = x at *
          generalize K[i] = y at *
          subst hz
          clear HF HN HY eL eK hr hr' h h'
          unfold vI at r0 r1
          go_wp2
          go_quiet (fail)
          go_wp2
          first | exact ⟨rfl, bel_dn hb _⟩ | (go_ret; exact ⟨rfl, bel_dn hb _⟩)
      · have hz := HY.out (fun j hj => HF.out j (by omega))
        subst hz
        have hltI : ¬ (i : Int) < (n : Int) := by omega
        clear HF HN HY h h'
        go_wp2
        first | exact ⟨rfl, hb⟩ | (go_ret; exact ⟨rfl, hb⟩)
  · have hz : decide (L = K) = false := decide_eq_false (fun e => hnm (by rw [← hl, ← hk, e]))
    rw [hz]
    have hnI : ¬ (n : Int) = (m : Int) := by omega
    have hb := Below.refl w.heap.size w
    clear hz h h' hl hk
    go_enter Try.func13, Try.ntmps13
    go_wp2
    go_ret
    exact ⟨rfl, hb⟩

/-- The program's table has L, the document's has M; neither lies in the other, nor in X; both are newer than w0. -/
structure Bf (X : Nat → Prop) (w0 w : World) (TB RB : Nat) (L M : List Fl) : Prop where
  ex : ∃ T R, TAt w T TB L ∧ RAt w R RB M ∧ (∀ k, T k → ¬ R k) ∧ (∀ k, X k → ¬ T k ∧ ¬ R k ∧ k < w.heap.size) ∧ (∀ k, T k ∨ R k → w0.heap.size ≤ k)
  bl : Below w0.heap.size w0 w
def KeptB (X : Nat → Prop) (w w' : World) : Prop := w.heap.size ≤ w'.heap.size ∧ ∀ k, X k → w'.heap[k]? = w.heap[k]?
section
variable {X : Nat → Prop} {w0 w : World} {TB RB : Nat} {L M : List Fl}
theorem KeptB.sl {α : Type} {k : Nat} {enc : α → List Value} {w' : World} {A : Option Addr} {n : Nat} {l : List α} (o : KeptB X w w') (h : Sl w k enc A n l) (hA : ∀ b off sp, A = some ⟨b, off, sp⟩ → X b) : Sl w' k enc A n l :=
  ⟨h.len, h.big, fun hn => by
    obtain ⟨b, off, hA', hlt, hc⟩ := h.row hn
    exact ⟨b, off, hA', Nat.lt_of_lt_of_le hlt o.1, fun j x hj i v hi => (World.cell?_of_block (o.2 b (hA b off _ hA'))).trans (hc j x hj i v hi)⟩⟩
theorem Bf.below {w' : World} (h : Bf X w0 w TB RB L M) (b : Below w.heap.size w w') : Bf X w0 w' TB RB L M := by
  obtain ⟨⟨T, R, h1, h2, h3, h4, h5⟩, bl⟩ := h
  exact ⟨⟨T, R, h1.below b, h2.below b, h3, fun k hk => ⟨(h4 k hk).1, (h4 k hk).2.1, Nat.lt_of_lt_of_le (h4 k hk).2.2 b.size⟩, h5⟩, bl.trans (b.mono bl.size)⟩
theorem Bf.kept {w' : World} (h : Bf X w0 w TB RB L M) (b : Below w.heap.size w w') : KeptB X w w' := by
  obtain ⟨⟨T, R, h1, h2, h3, h4, h5⟩, bl⟩ := h
  exact ⟨b.size, fun k hk => b.block k (h4 k hk).2.2⟩
theorem Bf.goodL (h : Bf X w0 w TB RB L M) : GoodF L := by obtain ⟨⟨T, R, h1, _⟩, _⟩ := h; exact h1.good
theorem Bf.stepP {w' : World} {T R : Nat → Prop} {L' : List Fl} (h1 : TAt w T TB L) (h2 : RAt w R RB M) (h3 : ∀ k, T k → ¬ R k) (h4 : ∀ k, X k → ¬ T k ∧ ¬ R k ∧ k < w.heap.size) (h5 : ∀ k, T k ∨ R k → w0.heap.size ≤ k) (bl : Below w0.heap.size w0 w) (p : FPost w T TB L' w') :
    Bf X w0 w' TB RB L' M ∧ KeptB X w w' := by
  obtain ⟨T', q1, q2, q3⟩ := p
  refine ⟨⟨⟨T', R, q1, h2.off q2 (fun k hR hT => h3 k hT hR), fun k hT' hR => ?_, fun k hk => ⟨fun hT' => ?_, (h4 k hk).2.1, Nat.lt_of_lt_of_le (h4 k hk).2.2 q2.size⟩, fun k hk => ?_⟩, bl.trans (q2.toBelow (fun k hk => h5 k (.inl hk)) bl.size)⟩, q2.size, fun k hk => q2.block k (h4 k hk).2.2 (h4 k hk).1⟩
  · rcases q3 k hT' with q | q
    · exact h3 k q hR
    · have := h2.lt k hR; omega
  · rcases q3 k hT' with q | q
    · exact (h4 k hk).1 q
    · have := (h4 k hk).2.2; omega
  · rcases hk with hk | hk
    · rcases q3 k hk with q | q
      · exact h5 k (.inl q)
      · have := bl.size; omega
    · exact h5 k (.inr hk)
theorem Bf.stepR {w' : World} {T R : Nat → Prop} {M' : List Fl} (h1 : TAt w T TB L) (h2 : RAt w R RB M) (h3 : ∀ k, T k → ¬ R k) (h4 : ∀ k, X k → ¬ T k ∧ ¬ R k ∧ k < w.heap.size) (h5 : ∀ k, T k ∨ R k → w0.heap.size ≤ k) (bl : Below w0.heap.size w0 w) (p : RPost w R RB M' w') :
    Bf X w0 w' TB RB L M' ∧ KeptB X w w' := by
  obtain ⟨R', q1, q2, q3⟩ := p
  have hRb : R RB := by obtain ⟨_, A, c, hi⟩ := h2; exact hi.rB
  refine ⟨⟨⟨T, R', h1.off q2 (fun k hT e => by subst e; exact h3 _ hT hRb), q1, fun k hT hR' => ?_, fun k hk => ⟨(h4 k hk).1, fun hR' => ?_, Nat.lt_of_lt_of_le (h4 k hk).2.2 q2.size⟩, fun k hk => ?_⟩, bl.trans (q2.toBelow (fun k hk => by subst hk; exact h5 _ (.inr hRb)) bl.size)⟩, q2.size, fun k hk => q2.block k (h4 k hk).2.2 (fun e => by subst e; exact (h4 _ hk).2.1 hRb)⟩
  · rcases q3 k hR' with q | q | q
    · subst q; exact h3 _ hT hRb
    · exact h3 k hT q
    · have := h1.lt k hT; omega
  · rcases q3 k hR' with q | q | q
    · subst q; exact (h4 _ hk).2.1 hRb
    · exact (h4 k hk).2.1 q
    · have := (h4 k hk).2.2; omega
  · rcases hk with hk | hk
    · exact h5 k (.inl hk)
    · rcases q3 k hk with q | q | q
      · subst q; exact h5 _ (.inr hRb)
      · exact h5 k (.inr q)
      · have := bl.size; omega
theorem bf_add_p (h : Bf X w0 w TB RB L M) {f : Fl} (hf : FlOk f) :
    Calls Try.prog 9 #[.pointer (some ⟨TB, 0, none⟩), .agg (FA f)] w fun e w' => e = .returned (.tuple #[.int .i64 (addF L f).id, .int .i64 (addF L f).gone, .int .i64 (addF L f).e]) ∧ Bf X w0 w' TB RB (addF L f).L M ∧ KeptB X w w' := by
  obtain ⟨⟨T, R, h1, h2, h3, h4, h5⟩, bl⟩ := h
  exact (add_any h1 hf).mono fun e w' ⟨he, p⟩ => ⟨he, Bf.stepP h1 h2 h3 h4 h5 bl p⟩
theorem bf_add_r (h : Bf X w0 w TB RB L M) {f : Fl} (hf : FlOk f) :
    Calls Try.prog 10 #[.pointer (some ⟨RB, 0, none⟩), .agg (FA f)] w fun e w' => e = .returned (.tuple #[.int .i64 (addF M f).id, .int .i64 (addF M f).gone, .int .i64 (addF M f).e]) ∧ Bf X w0 w' TB RB L (addF M f).L ∧ KeptB X w w' := by
  obtain ⟨⟨T, R, h1, h2, h3, h4, h5⟩, bl⟩ := h
  exact (radd_any h2 hf).mono fun e w' ⟨he, p⟩ => ⟨he, Bf.stepR h1 h2 h3 h4 h5 bl p⟩
/-- where a row lies. -/
def rowB (A : Option Addr) : Nat → Prop := fun k => ∃ off sp, A = some ⟨k, off, sp⟩
theorem bf_due_p (h : Bf X w0 w TB RB L M) {now : Int} :
    Calls Try.prog 12 #[.pointer (some ⟨TB, 0, none⟩), .int .i64 now] w fun e w' => ∃ A c, e = .returned (.slice A (dueL L now).length c) ∧ Sl w' 1 e1 A (dueL L now).length (dueL L now) ∧ Bf (fun k => X k ∨ rowB A k) w0 w' TB RB (lefF L now) M ∧ KeptB X w w' := by
  obtain ⟨⟨T, R, h1, h2, h3, h4, h5⟩, bl⟩ := h
  refine (fdue_any h1).mono fun e w' ⟨v, he, ho, p, o⟩ => ?_
  obtain ⟨A, c, rfl, hs⟩ := ints_sl ho rfl
  obtain ⟨q1, q2⟩ := Bf.stepP h1 h2 h3 h4 h5 bl ⟨T, p, o, fun k hk => .inl hk⟩
  refine ⟨A, c, he, hs, ⟨⟨T, R, p, h2.off o (fun k hR hT => h3 k hT hR), h3, fun k hk => ?_, h5⟩, q1.bl⟩, q2⟩
  rcases hk with hk | ⟨off, sp, hk⟩
  · exact ⟨(h4 k hk).1, (h4 k hk).2.1, Nat.lt_of_lt_of_le (h4 k hk).2.2 o.size⟩
  · have := ho.lt k (by rw [hk]; rfl)
    exact ⟨fun e => by have := h1.lt k e; omega, fun e => by have := h2.lt k e; omega, this.2⟩
theorem bf_due_r (h : Bf X w0 w TB RB L M) {now : Int} :
    Calls Try.prog 14 #[.pointer (some ⟨RB, 0, none⟩), .int .i64 now] w fun e w' => ∃ A c, e = .returned (.slice A (dueL M now).length c) ∧ Sl w' 1 e1 A (dueL M now).length (dueL M now) ∧ Bf X w0 w' TB RB L (lefF M now) ∧ KeptB X w w' := by
  obtain ⟨⟨T, R, h1, h2, h3, h4, h5⟩, bl⟩ := h
  refine (rdue_any h2).mono fun e w' ⟨v, he, ho, p⟩ => ?_
  obtain ⟨A, c, rfl, hs⟩ := ints_sl ho rfl
  exact ⟨A, c, he, hs, Bf.stepR h1 h2 h3 h4 h5 bl p⟩
theorem bf_list (h : Bf X w0 w TB RB L M) : Calls Try.prog 11 #[.pointer (some ⟨TB, 0, none⟩)] w fun e w' => ∃ A c, e = .returned (.slice A L.length c) ∧ Sl w' 20 fcells A L.length L ∧ Bf (fun k => X k ∨ rowB A k) w0 w' TB RB L M ∧ KeptB X w w' := by
  have h0 := h
  obtain ⟨⟨T, R, h1, h2, h3, h4, h5⟩, bl⟩ := h
  have hTl := h1.lt
  obtain ⟨g, W, hp, ht⟩ := id h1
  refine (list_any g ht).mono fun e w' ⟨v, he, hr, hb⟩ => ?_
  obtain ⟨A, c, rfl, hS, _⟩ := sl_of_own f20_len hr rfl
  refine ⟨A, c, he, hS, ⟨⟨T, R, h1.below hb, h2.below hb, h3, fun k hk => ?_, h5⟩, (h0.below hb).bl⟩, h0.kept hb⟩
  rcases hk with hk | ⟨off, sp, hk⟩
  · exact ⟨(h4 k hk).1, (h4 k hk).2.1, Nat.lt_of_lt_of_le (h4 k hk).2.2 hb.size⟩
  · have := hr.lt k (by rw [hk]; rfl)
    exact ⟨fun e => by have := hTl k e; omega, fun e => by have := h2.lt k e; omega, this.2⟩
theorem Bf.cr (h : Bf X w0 w TB RB L M) : ∃ A c, w.cell? ⟨RB, 0, none⟩ = some (.slice A M.length c) := by
  obtain ⟨⟨T, R, h1, ⟨_, A, c, hi⟩, h3, h4, h5⟩, bl⟩ := h
  exact ⟨A, c, hi.c0⟩
theorem bf_new {w1 : World} (h : St w w1 TB []) : Bf (fun _ => False) w (w1.alloc (.cells #[.slice none 0 0] 28)) TB w1.heap.size [] [] := by
  have b : Below w1.heap.size w1 (w1.alloc (.cells #[.slice none 0 0] 28)) := (Below.refl _ _).alloc (Nat.le_refl _) _
  obtain ⟨T, h1, h2, b1⟩ := h
  refine ⟨⟨T, _, h1.below b, RAt.new w1, fun k hT e => by have := h1.lt k hT; omega, fun k hk => hk.elim, fun k hk => ?_⟩, bel_via b1 b⟩
  rcases hk with hk | hk
  · exact h2 k hk
  · have := b1.size; omega
theorem Bf.len (h : Bf X w0 w TB RB L M) : M.length ≤ 48 := by obtain ⟨⟨T, R, h1, h2, _⟩, _⟩ := h; exact h2.1.ln
end
theorem due_count {L : List Fl} (g : GoodF L) (now : Int) : (dueL L now).length + (lefF L now).length = L.length := by
  have hr := wL_ris g.ris
  have hp := wL_perm L
  have h1 := (lef_me hr hp now).length_eq
  have h2 := hp.length_eq
  have h3 := congrArg List.length (List.takeWhile_append_dropWhile (p := fun x : K2 => decide (x.2 ≤ now)) (l := wL L))
  rw [List.length_append] at h3
  rw [List.length_map] at h1 h2
  unfold lefP at h1
  unfold dueL dueP
  rw [List.length_map]
  omega
theorem lef_gt {L : List Fl} {now : Int} {x : Fl} (h : x ∈ lefF L now) : ¬ x.en ≤ now := by
  have := (List.mem_filter.1 h).2
  simpa using this
theorem due_left (L : List Fl) (now : Int) : dueL (lefF L now) now = [] := by
  unfold dueL dueP
  cases hw : wL (lefF L now) with
  | nil => rfl
  | cons a t =>
    have ha : a ∈ wL (lefF L now) := by rw [hw]; simp
    obtain ⟨f, hf, he⟩ := List.mem_map.1 ((wL_perm _).subset ha)
    have : ¬ a.2 ≤ now := by rw [← he]; exact lef_gt hf
    rw [List.takeWhile_cons]
    simp [this]
end Go.Proofs.Ytdgodndaaenafaa
