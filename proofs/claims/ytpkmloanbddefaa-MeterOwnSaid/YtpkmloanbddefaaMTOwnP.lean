/- MeterOwn: buckets of one's own beside the meters; by-name template. -/
import Derived.Test.YtpkmloanbddefaaMTV
import Derived.Maps.AppendAt
namespace Go.Proofs.Ytpkmloanbddefaa
open Go.RowKit Go.Lib Go.Maps
set_option linter.unusedVariables false
set_option linter.unusedSimpArgs false

/-! ### plain -/
def getP (L : LL) (s : Src) : Option BK := (L.find? fun p => p.1 == s).map (·.2)
theorem getP_none {L : LL} {s : Src} (h : getP L s = none) : ¬ idxP L s < L.length := by
  unfold getP at h
  intro hlt
  obtain ⟨p, hp, he⟩ := List.findIdx_lt_length.1 hlt
  have := List.find?_eq_none.1 (Option.map_eq_none_iff.1 h) p hp
  exact this he
theorem getP_some {L : LL} {s : Src} {D : BK} (h : getP L s = some D) : idxP L s < L.length ∧ bkP L (idxP L s) = D ∧ (L[idxP L s]?.map (·.1)) = some s := by
  unfold getP at h
  obtain ⟨p, hp, rfl⟩ := Option.map_eq_some_iff.1 h
  have hk := List.find?_some hp
  have hlt : idxP L s < L.length := List.findIdx_lt_length.2 ⟨p, List.mem_of_find?_eq_some hp, hk⟩
  have he : L[idxP L s]? = some p := by
    have h1 := List.find?_eq_some_iff_getElem.1 hp
    obtain ⟨_, i, hi, hpi, hj⟩ := h1
    have e1 : idxP L s = i := by
      unfold idxP
      rcases Nat.lt_trichotomy (L.findIdx fun p => p.1 == s) i with h2 | h2 | h2
      · have h3 := List.findIdx_getElem (w := Nat.lt_trans h2 hi)
        have h4 := hj _ h2
        simp only [h3] at h4
        cases h4
      · exact h2
      · have h3 := List.not_of_lt_findIdx h2
        rw [hpi, hk] at h3
        simp at h3
    rw [e1, List.getElem?_eq_getElem hi, hpi]
  refine ⟨hlt, ?_, ?_⟩
  · unfold bkP
    rw [List.getD_eq_getElem?_getD, he]; rfl
  · rw [he]; simpa using hk
theorem find_out {α : Type} (p : α → Bool) (L : List α) (i : Nat) {x : α} (hi : L[i]? = some x) (hp : p x = false) : (L.eraseIdx i).find? p = L.find? p := by
  have hl := (List.getElem?_eq_some_iff.1 hi).1
  have hx := (List.getElem?_eq_some_iff.1 hi).2
  rw [List.eraseIdx_eq_take_drop_succ]
  conv => rhs; rw [← List.take_append_drop i L, List.drop_eq_getElem_cons hl, hx]
  rw [List.find?_append, List.find?_append, List.find?_cons, hp]
theorem find_add (L : LL) (s s' : Src) (D : BK) (h : s' ≠ s) : getP (L ++ [(s, D)]) s' = getP L s' := by
  unfold getP
  have hs : (s == s') = false := by simp; exact fun e => h e.symm
  rw [List.find?_append]
  rcases hf : L.find? (fun p => p.1 == s') with _ | p
  · simp [hs]
  · rw [hf]; rfl
theorem find_new {L : LL} {s : Src} {D : BK} (h : getP L s = none) : getP (L ++ [(s, D)]) s = some D := by
  unfold getP at h ⊢
  rw [List.find?_append, Option.map_eq_none_iff.1 h]
  simp
/-- what a Take leaves of whom it does not ask, and of whom it asks. -/
theorem take_look {r b : Int} {L : LL} (hu : L.Pairwise (fun x y => x.1 ≠ y.1)) {s : Src} {t : Int} (hl : getP L s = none → L.length < 32) (s' : Src) :
    getP (takeL r b L s t) s' = if s' = s then some (match getP L s with | some D => takeD D t 1 | none => newT r b t) else getP L s' := by
  rcases hg : getP L s with _ | D
  · have h1 := getP_none hg
    unfold takeL
    rw [if_neg h1, if_pos (hl hg)]
    by_cases he : s' = s
    · subst he
      rw [if_pos rfl, find_new hg]
    · rw [if_neg he, find_add _ _ _ _ he]
  · obtain ⟨h1, h2, h3⟩ := getP_some hg
    obtain ⟨p, hp, hps⟩ := Option.map_eq_some_iff.1 h3
    unfold takeL
    rw [if_pos h1, h2]
    by_cases he : s' = s
    · subst he
      rw [if_pos rfl]
      refine find_new ?_
      unfold getP
      rw [Option.map_eq_none_iff, List.find?_eq_none]
      intro q hq
      obtain ⟨j, hne, hj⟩ := List.mem_eraseIdx_iff_getElem?.1 hq
      have jl := (List.getElem?_eq_some_iff.1 hj).1
      have je := (List.getElem?_eq_some_iff.1 hj).2
      have pe := (List.getElem?_eq_some_iff.1 hp).2
      have hpw := List.pairwise_iff_getElem.1 hu
      rcases Nat.lt_or_gt_of_ne hne with h | h
      · have := hpw j _ jl h1 h
        rw [je, pe, hps] at this
        simpa using this
      · have := hpw _ j h1 jl h
        rw [je, pe, hps] at this
        simpa using fun e => this e.symm
    · rw [if_neg he, find_add _ _ _ _ he]
      unfold getP
      rw [find_out _ _ _ hp (by rw [hps]; simp; exact fun e => he e.symm)]
theorem take_len {r b : Int} {L : LL} {s : Src} {t : Int} (hl : getP L s = none → L.length < 32) : (takeL r b L s t).length = if getP L s = none then L.length + 1 else L.length := by
  rcases hg : getP L s with _ | D
  · have h1 := getP_none hg
    unfold takeL
    rw [if_neg h1, if_pos (hl hg), if_pos rfl]; simp
  · obtain ⟨h1, h2, h3⟩ := getP_some hg
    unfold takeL
    rw [if_pos h1, if_neg (by simp), List.length_append, List.length_eraseIdx, if_pos h1]; simp; omega
theorem take_ok {r b : Int} {L : LL} {s : Src} {t : Int} (hl : getP L s = none → L.length < 32) : takeR L s t = true ∧ takeO r b L s t = takeB (match getP L s with | some D => D | none => newP r b t) t 1 := by
  rcases hg : getP L s with _ | D
  · have h1 := getP_none hg
    unfold takeR takeO
    rw [if_neg h1, if_pos (hl hg), decide_eq_true (hl hg)]
    exact ⟨by simp, rfl⟩
  · obtain ⟨h1, h2, h3⟩ := getP_some hg
    unfold takeR takeO
    rw [if_pos h1, decide_eq_true h1, h2]
    exact ⟨by simp, rfl⟩

abbrev OF := Nat → Option (Nat × BK)
def cntF (f : OF) : Nat → Nat
  | 0 => 0
  | n + 1 => cntF f n + if (f n).isSome then 1 else 0
def upd (f : OF) (k : Nat) (x : Nat × BK) : OF := fun i => if i = k then some x else f i
theorem cnt_le (f : OF) : ∀ n, cntF f n ≤ n
  | 0 => Nat.le_refl _
  | n + 1 => by have := cnt_le f n; unfold cntF; split <;> omega
theorem cnt_far (f : OF) (k : Nat) (x : Nat × BK) : ∀ n, n ≤ k → cntF (upd f k x) n = cntF f n
  | 0, _ => rfl
  | n + 1, h => by
    unfold cntF
    have hu : upd f k x n = f n := by unfold upd; rw [if_neg (by omega)]
    rw [cnt_far f k x n (by omega), hu]
theorem cnt_new (f : OF) {k : Nat} (x : Nat × BK) (hk : f k = none) : ∀ n, k < n → cntF (upd f k x) n = cntF f n + 1
  | 0, h => by omega
  | n + 1, h => by
    unfold cntF
    by_cases e : k = n
    · subst e
      rw [cnt_far f k x k (Nat.le_refl _)]
      unfold upd
      rw [if_pos rfl, hk]
      simp
    · rw [cnt_new f x hk n (by omega)]
      have : upd f k x n = f n := by unfold upd; rw [if_neg (by omega)]
      rw [this]
      omega
theorem cnt_old (f : OF) {k : Nat} (x : Nat × BK) {y : Nat × BK} (hk : f k = some y) : ∀ n, cntF (upd f k x) n = cntF f n
  | 0 => rfl
  | n + 1 => by
    unfold cntF
    rw [cnt_old f x hk n]
    unfold upd
    split
    · rename_i e
      subst e
      rw [hk]; rfl
    · rfl
theorem cnt_lt (f : OF) {k : Nat} (hk : f k = none) {n : Nat} (h : k < n) : cntF f n < n := by
  have := cnt_new f (0, ⟨0, 0, 0, 0⟩) hk n h
  have := cnt_le (upd f k (0, ⟨0, 0, 0, 0⟩)) n
  omega

/-- What the list and the buckets of one's own have to do with one another. -/
structure Look (L : LL) (f : OF) : Prop where
  look : ∀ i : Nat, i < 16 → getP L (0, (i : Int)) = (f i).map (·.2)
  cnt : L.length = cntF f 16
theorem Look.start : Look [] (fun _ => none) := ⟨fun i _ => rfl, rfl⟩
theorem Look.room {L : LL} {f : OF} (h : Look L f) {k : Nat} (hk : k < 16) : getP L (0, (k : Int)) = none → L.length < 32 := fun he => by
  rw [h.look k hk] at he
  have := cnt_le f 16
  rw [h.cnt]; omega
theorem Look.take {L : LL} {f : OF} (h : Look L f) {k : Nat} (hk : k < 16) (hu : L.Pairwise (fun x y => x.1 ≠ y.1)) {r b t : Int} {B : Nat} {D : BK} (hD : (f k = none ∧ D = newT r b t) ∨ ∃ D0, f k = some (B, D0) ∧ D = takeD D0 t 1) :
    Look (takeL r b L (0, (k : Int)) t) (upd f k (B, D)) := by
  have hr := h.room hk
  refine ⟨fun i hi => ?_, ?_⟩
  · rw [take_look hu hr]
    unfold upd
    by_cases e : i = k
    · subst e
      rw [if_pos rfl, if_pos rfl, h.look i hi]
      rcases hD with ⟨h1, rfl⟩ | ⟨D0, h1, rfl⟩
      · rw [h1]; rfl
      · rw [h1]; rfl
    · rw [if_neg (fun h => e (by have := congrArg Prod.snd h; simp only at this; omega)), if_neg e, h.look i hi]
  · rw [take_len hr, h.look k hk]
    rcases hD with ⟨h1, rfl⟩ | ⟨D0, h1, rfl⟩
    · rw [h1, show Option.map (fun x : Nat × BK => x.2) none = none from rfl, if_pos rfl, cnt_new f _ h1 16 hk, h.cnt]
    · rw [h1, if_neg (by simp), cnt_old f _ h1, h.cnt]

/-! ### in memory -/
def ptrF (x : Option (Nat × BK)) : Value := .pointer (x.map fun y => ⟨y.1, 0, none⟩)
structure OwnW (w wr : World) (r b : Int) (Bm Mp g : Nat) (k : Nat) (f : OF) (L : LL) : Prop where
  ex : ∃ S tk E, PAt wr S r b tk Bm Mp E ∧ E.map PE.me = L ∧ tk ≤ k ∧ (∀ x, S x → w.heap.size ≤ x) ∧ ¬ S g ∧ ∀ i B D, i < 16 → f i = some (B, D) → ¬ S B
  row : ∃ cur, wr.heap[g]? = some (.cells cur 42 (0, 0)) ∧ 16 ≤ cur.size ∧ ∀ i, i < 16 → cur[i]? = some (ptrF (f i))
  bk : ∀ i B D, i < 16 → f i = some (B, D) → BkAt 41 wr B D ∧ Good D ∧ w.heap.size ≤ B
  inj : ∀ i j B D B' D', i < 16 → j < 16 → f i = some (B, D) → f j = some (B', D') → i ≠ j → B ≠ B'
  gl : w.heap.size ≤ g
  bel : Below w.heap.size w wr

theorem OwnW.below {w wr w' : World} {r b : Int} {Bm Mp g k : Nat} {f : OF} {L : LL} (h : OwnW w wr r b Bm Mp g k f L) (hb : Below wr.heap.size wr w') : OwnW w w' r b Bm Mp g k f L := by
  obtain ⟨S, tk, E, hp, h1⟩ := h.ex
  obtain ⟨cur, hc, h2⟩ := h.row
  exact ⟨⟨S, tk, E, hp.below hb, h1⟩, ⟨cur, (hb.block g (Array.getElem?_eq_some_iff.1 hc).1).trans hc, h2⟩, fun i B D hi hf => ⟨(h.bk i B D hi hf).1.below hb (h.bk i B D hi hf).1.lt, (h.bk i B D hi hf).2⟩, h.inj, h.gl, h.bel.trans (hb.mono h.bel.size)⟩
theorem OwnW.nod {w wr : World} {r b : Int} {Bm Mp g k : Nat} {f : OF} {L : LL} (h : OwnW w wr r b Bm Mp g k f L) : L.Pairwise (fun x y => x.1 ≠ y.1) := by
  obtain ⟨S, tk, E, hp, rfl, _⟩ := h.ex
  exact List.pairwise_map.2 (hp.uq.imp fun h => h.1)
theorem OwnW.cell {w wr : World} {r b : Int} {Bm Mp g k : Nat} {f : OF} {L : LL} (h : OwnW w wr r b Bm Mp g k f L) {i : Nat} (hi : i < 16) : wr.cell? ⟨g, i, none⟩ = some (ptrF (f i)) ∧ wr.frozen? ⟨g, i, none⟩ = false := by
  obtain ⟨cur, hc, _, h2⟩ := h.row
  exact ⟨(cell_of_row _ g i _ _ _ hc).trans (h2 i hi), free_of hc i⟩

theorem own_take_m {w wr : World} {r b : Int} {Bm Mp g k : Nat} {f : OF} {L : LL} (h : OwnW w wr r b Bm Mp g k f L) (hk : k < 9223372036854775807) {s : Src} (hs : SrcOk s) {t : Int} (ht : i64ok t) :
    Calls Try.prog 10 #[.pointer (some ⟨Bm, 0, none⟩), .agg #[.int .u64 s.1, .int .u64 s.2], .int .i64 t] wr fun e w' => e = .returned (.tuple #[.bool (takeO r b L s t), .bool (takeR L s t)]) ∧ OwnW w w' r b Bm Mp g (k + 1) f (takeL r b L s t) := by
  obtain ⟨S, tk, E, hp, rfl, htk, hS, hg, hB⟩ := h.ex
  refine (take_meters hp hs ht (by omega)).mono fun e w' ⟨S', E', tk', he, hp', hE', ho, hS', htk'⟩ => ⟨he, ⟨S', tk', E', hp', hE', by omega, fun x hx => ?_, fun hx => ?_, fun i B D hi hf hx => ?_⟩, ?_, fun i B D hi hf => ?_, h.inj, h.gl, h.bel.trans (ho.toBelow hS h.bel.size)⟩
  · rcases hS' x hx with h1 | h1
    · exact hS x h1
    · exact Nat.le_trans h.bel.size h1
  · rcases hS' g hx with h1 | h1
    · exact hg h1
    · obtain ⟨cur, hc, _⟩ := h.row
      have := (Array.getElem?_eq_some_iff.1 hc).1
      omega
  · rcases hS' B hx with h1 | h1
    · exact hB i B D hi hf h1
    · have := (h.bk i B D hi hf).1.lt
      omega
  · obtain ⟨cur, hc, h2⟩ := h.row
    exact ⟨cur, (ho.block g (Array.getElem?_eq_some_iff.1 hc).1 hg).trans hc, h2⟩
  · obtain ⟨h1, h2⟩ := h.bk i B D hi hf
    exact ⟨(ho.block B h1.lt (hB i B D hi hf)).trans h1, h2⟩

theorem own_take_r {w wr : World} {r b : Int} {Bm Mp g k : Nat} {f : OF} {L : LL} (h : OwnW w wr r b Bm Mp g k f L) {i B : Nat} {D : BK} (hi : i < 16) (hf : f i = some (B, D)) {t : Int} (ht : i64ok t) :
    Calls Try.prog 18 #[.pointer (some ⟨B, 0, none⟩), .int .i64 t, .int .i64 1] wr fun e w' => e = .returned (.bool (takeB D t 1)) ∧ OwnW w w' r b Bm Mp g k (upd f i (B, takeD D t 1)) L ∧ Off B wr w' := by
  obtain ⟨hbk, hgd, hBz⟩ := h.bk i B D hi hf
  obtain ⟨S, tk, E, hp, rfl, htk, hS, hg, hB⟩ := h.ex
  obtain ⟨cur, hc, h16, h2⟩ := h.row
  have hne : g ≠ B := ne_cells hc hbk (by decide)
  refine (rtake_any hbk hgd ht 1).mono fun e w' ⟨he, hb', ho⟩ => ⟨he, ⟨⟨S, tk, E, hp.off (ho.toS (S := fun x => x = B) (.inl rfl)) (fun x hx e => hB i B D hi hf (e ▸ hx)), rfl, htk, hS, hg, fun j B' D' hj hfj => ?_⟩, ⟨cur, (ho.block g (Array.getElem?_eq_some_iff.1 hc).1 hne).trans hc, h16, fun j hj => ?_⟩, fun j B' D' hj hfj => ?_, fun j j' B1 D1 B2 D2 hj hj' h3 h4 hjj => ?_, h.gl, h.bel.trans (ho.toBelow hBz h.bel.size)⟩, ho⟩
  · unfold upd at hfj
    split at hfj
    · cases hfj
      exact hB i B D hi hf
    · exact hB j B' D' hj hfj
  · rw [h2 j hj]
    unfold upd
    split
    · rename_i e
      subst e
      rw [hf]; rfl
    · rfl
  · unfold upd at hfj
    split at hfj
    · cases hfj
      exact ⟨hb', hgd.take ht 1, hBz⟩
    · rename_i hji
      obtain ⟨q1, q2⟩ := h.bk j B' D' hj hfj
      exact ⟨q1.off ho (h.inj j i B' D' B D hj hi hfj hf hji), q2⟩
  · have hx : ∀ j B1 D1, upd f i (B, takeD D t 1) j = some (B1, D1) → ∃ D2, f j = some (B1, D2) := fun j B1 D1 h5 => by
      unfold upd at h5
      split at h5
      · rename_i e
        subst e
        cases h5
        exact ⟨_, hf⟩
      · exact ⟨_, h5⟩
    obtain ⟨_, h5⟩ := hx j B1 D1 h3
    obtain ⟨_, h6⟩ := hx j' B2 D2 h4
    exact h.inj j j' _ _ _ _ hj hj' h5 h6 hjj

/-- A new bucket is laid into its place. -/
theorem OwnW.lay {w wr w1 : World} {r b : Int} {Bm Mp g k : Nat} {f : OF} {L : LL} (h : OwnW w wr r b Bm Mp g k f L) {i B : Nat} {D : BK} (hi : i < 16) (hB : wr.heap.size ≤ B) (hbk : BkAt 41 w1 B D) (hgd : Good D) (hb : Below wr.heap.size wr w1) :
    OwnW w (w1.setCell ⟨g, i, none⟩ (.pointer (some ⟨B, 0, none⟩))) r b Bm Mp g k (upd f i (B, D)) L := by
  have h' := h.below hb
  obtain ⟨S, tk, E, hp, rfl, htk, hS, hg, hSB⟩ := h.ex
  obtain ⟨cur, hc, h16, h2⟩ := h'.row
  have ho : Off g w1 (w1.setCell ⟨g, i, none⟩ (.pointer (some ⟨B, 0, none⟩))) := (Off.refl g w1).set i _
  have hgz : g < wr.heap.size := by obtain ⟨c, hc, _⟩ := h.row; exact (Array.getElem?_eq_some_iff.1 hc).1
  refine ⟨⟨S, tk, E, (hp.below hb).off (ho.toS (S := fun x => x = g) (.inl rfl)) (fun x hx e => hg (e ▸ hx)), rfl, htk, hS, hg, fun j B' D' hj hf => ?_⟩, ⟨_, heap_set hc i _, by simpa using h16, fun j hj => ?_⟩, fun j B' D' hj hf => ?_, fun j j' B1 D1 B2 D2 hj hj' h3 h4 hjj => ?_, h.gl, h'.bel.trans (ho.toBelow h.gl h'.bel.size)⟩
  · unfold upd at hf
    split at hf
    · cases hf
      intro hx
      have := hp.lt _ hx
      omega
    · exact hSB j B' D' hj hf
  · rw [Array.getElem?_setIfInBounds]
    unfold upd
    by_cases e : i = j
    · subst e
      rw [if_pos rfl, if_pos (by omega), if_pos rfl]; rfl
    · rw [if_neg e, if_neg (fun x => e x.symm)]
      exact h2 j hj
  · unfold upd at hf
    split at hf
    · cases hf
      exact ⟨hbk.off ho (by omega), hgd, Nat.le_trans h.bel.size hB⟩
    · obtain ⟨q1, q2⟩ := h'.bk j B' D' hj hf
      exact ⟨q1.off ho (ne_cells q1 hc (by decide)), q2⟩
  · have hlt : ∀ j B1 D1, j < 16 → f j = some (B1, D1) → B1 < wr.heap.size := fun j B1 D1 hj h5 => (h.bk j B1 D1 hj h5).1.lt
    unfold upd at h3 h4
    split at h3
    · rename_i e1
      cases h3
      split at h4
      · omega
      · have := hlt j' _ _ hj' h4; omega
    · rename_i e1
      have := hlt j _ _ hj h3
      split at h4
      · cases h4; omega
      · exact h.inj j j' _ _ _ _ hj hj' h3 h4 hjj
end Go.Proofs.Ytpkmloanbddefaa
