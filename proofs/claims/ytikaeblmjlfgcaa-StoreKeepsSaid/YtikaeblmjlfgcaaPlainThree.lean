/- What a Set comes to, in values; by-name template. -/
import Derived.Test.YtikaeblmjlfgcaaPlainTwo
namespace Go.Proofs.Ytikaeblmjlfgcaa

theorem nodup_inj : ∀ {L : List Pt}, (L.map Pt.slot).Nodup → ∀ {p q : Pt}, p ∈ L → q ∈ L → p.slot = q.slot → p = q
  | [], _, p, _, hp, _, _ => absurd hp List.not_mem_nil
  | a :: L, h, p, q, hp, hq, e => by
    rw [List.map_cons, List.nodup_cons] at h
    rcases List.mem_cons.1 hp with rfl | hp' <;> rcases List.mem_cons.1 hq with rfl | hq'
    · rfl
    · exact absurd (List.mem_map.2 ⟨q, hq', e.symm⟩) h.1
    · exact absurd (List.mem_map.2 ⟨p, hp', e⟩) h.1
    · exact nodup_inj h.2 hp' hq' e

theorem place_mem {R : RS} {s : Nat} {x : Int} (h : x ∈ place R s) (h0 : x ≠ 0) : x ∈ R.P := by
  simp only [place, List.mem_map, List.mem_range] at h
  obtain ⟨j, _, rfl⟩ := h
  rw [List.getD_eq_getElem?_getD] at h0 ⊢
  cases hg : R.P[s * 8 + j]? with
  | none => simp [hg] at h0
  | some v => exact List.mem_of_getElem? hg

theorem getv_same {D D' : DS} {s : Nat} (hp : place (root D') s = place (root D) s) (hs : ∀ x ∈ (root D).P, x ≠ 0 → sec D' x.toNat = sec D x.toNat) : getv D' s = getv D s := by
  unfold getv
  rw [hp]
  split
  · rfl
  · congr 2
    apply List.map_congr_left
    intro x hx
    have h1 := (List.takeWhile_sublist _).subset hx
    have h2 : x ≠ 0 := by
      have := List.all_takeWhile (p := fun x : Int => decide (x ≠ 0)) (l := place (root D) s)
      rw [List.all_eq_true] at this
      simpa using this x hx
    exact hs x (place_mem h1 h2) h2

structure Kept (D D' : DS) : Prop where
  len : D'.S.length = 160
  c : D'.c = D.c
  l0 : 0 ≤ D'.l
  l1 : D'.l ≤ D.l
  n0 : D.n ≤ D'.n
  n1 : D'.n ≤ D.n + 65

def newv (p : Pt) : Option ByteArray := if p.gone then none else some p.val

section
variable {D : DS} {L : List Pt} {e : Int} {D' : DS}

theorem out_ok (h : WOut D L e D') (hc : Chk L 0) (hl : D.S.length = 160) (hl0 : 0 ≤ D.l) (he : e = 0) :
    Kept D D' ∧ D'.d = false ∧ D.n < D'.n ∧ (root D').n = bump (root D).n ∧
      (∀ s : Nat, s < 8 → (∀ p ∈ L, p.slot ≠ (s : Int)) → getv D' s = getv D s) ∧ (∀ p ∈ L, getv D' p.slot.toNat = newv p) := by
  subst he
  obtain ⟨hk1, hk2, hk3⟩ := hc.ok rfl
  rcases h with ⟨pre, D1, R, ps, hps, hpf, hr, hw, rfl⟩ | ⟨_, _, _, _, _, _, _, _, hw, hn, _⟩
  · have hR0 : RSok (root D) := rootOf_ok (sec D 0)
    obtain ⟨hRn, hbn, hz, hkeep⟩ := next0_spec hR0 L
    have hnd := List.Nodup.sublist hpf.sublist (frees_nodup (root D))
    have hfr : ∀ x ∈ pre, x < 160 ∧ x ≠ 0 ∧ (x : Int) ∉ (root D).P := fun x hx => mem_frees.1 (hpf.subset hx)
    obtain ⟨done, f⟩ := hr.facts hl hl0 hRn (pieces_apart hc) (fun q hq => (pieces_pos hc hq).1) hnd (fun x hx => (hfr x hx).1)
    have hpl := pieces_len hc
    have hfl := frees_len (R := root D) hR0.len
    have hcl := congrArg List.length f.cut
    have hdl := f.len
    have hps0 : ps = [] := by
      rcases hps with h | h
      · exact h
      · rw [h] at hdl
        simp at hcl
        omega
    subst hps0
    have hdone : pieces L = done := by simpa using f.cut
    rw [hdone] at hpl
    obtain ⟨_, hws, hd, hcc⟩ := wres_zero hw.symm
    have hS : (wst D1 0 (textOf R)).S = D1.S.set 0 (textOf R) := by rw [hws]; rfl
    have hget : ∀ y, sec (wst D1 0 (textOf R)) y = if y = 0 then textOf R else sec D1 y := by
      intro y
      unfold sec
      rw [hS, List.getD_eq_getElem?_getD, List.getElem?_set]
      have := f.ds
      by_cases e : y = 0
      · subst e
        simp [show 0 < D1.S.length by omega]
      · simp [e, Ne.symm e]
    have hroot : root (wst D1 0 (textOf R)) = R := by
      unfold root
      rw [hget, if_pos rfl]
      exact rootOf_textOf f.rok
    have hsec : ∀ y, y ≠ 0 → sec (wst D1 0 (textOf R)) y = sec D1 y := fun y hy => by rw [hget, if_neg hy]
    refine ⟨⟨by rw [hS]; simp [f.ds], ?_, ?_, ?_, ?_, ?_⟩, ?_, ?_, by rw [hroot, f.rn, hbn], ?_, ?_⟩
    · rw [hws, ← f.c]; cases hDc : D1.c <;> simp [hDc]
    · rw [hws]
      have h1 := f.l
      have h2 := f.lk
      have h3 := f.c
      cases hDc : D1.c
      · rw [hDc] at h3; simp; rw [h1, ← h3]; simpa using hl0
      · rw [hDc] at h3
        have := hcc hDc
        rw [← h3] at h1 h2
        simp at h1 h2 ⊢
        omega
    · rw [hws]
      have h1 := f.l
      have h3 := f.c
      cases hDc : D1.c
      · rw [hDc] at h3; simp; rw [h1, ← h3]; simp
      · rw [hDc] at h3
        rw [← h3] at h1
        simp at h1 ⊢
        omega
    · rw [hws]; have := f.n; simp; omega
    · rw [hws]; have := f.n; simp; omega
    · rw [hws]; cases hDc : D1.c <;> simp [hd]
    · rw [hws]; have := f.n; simp; omega
    · intro s hs hns
      apply getv_same
      · rw [hroot]
        unfold place
        apply List.map_congr_left
        intro j hj
        simp at hj
        rw [f.other (s * 8 + j), hkeep (s * 8 + j) (by omega)]
        · intro p hp e
          have := hns p hp
          obtain ⟨a, b⟩ := hk1 p hp
          omega
        · intro q hq e
          rw [← hdone] at hq
          obtain ⟨_, hq2, hq3a, hq3b⟩ := pieces_pos hc hq
          obtain ⟨p, hp, hm⟩ := mem_pieces.1 hq
          obtain ⟨_, hqs, _, _⟩ := mem_pcs.1 hm
          have := hns p hp
          unfold pos at e
          omega
      · intro x hx hx0
        obtain ⟨a, b⟩ := hR0.b x hx
        rw [hsec _ (by omega)]
        apply f.keep
        intro hm
        have := (hfr _ hm).2.2
        rw [Int.toNat_of_nonneg a] at this
        exact this hx
    · intro p hp
      obtain ⟨s0, s1⟩ := hk1 p hp
      have hzero : ∀ j, j < 8 → (p.gone = true ∨ cnt p.val.size ≤ j) → R.P.getD (p.slot.toNat * 8 + j) 0 = 0 := by
        intro j hj hg
        rw [f.other (p.slot.toNat * 8 + j)]
        · exact hz _ (by omega) ⟨p, hp, by omega⟩
        · intro q hq e
          rw [← hdone] at hq
          obtain ⟨_, hq2, hq3a, hq3b⟩ := pieces_pos hc hq
          obtain ⟨p', hp', hm⟩ := mem_pieces.1 hq
          obtain ⟨hqg, hqs, hqn, _⟩ := mem_pcs.1 hm
          unfold pos at e
          have : p' = p := nodup_inj hk3 hp' hp (by omega)
          subst this
          rcases hg with hg | hg
          · rw [hg] at hqg
            exact absurd hqg (by simp)
          · omega
      unfold getv newv
      rw [hroot]
      cases hg : p.gone
      · have hb : p.val.size ≤ 4096 := by
          have := hk2 p hp
          unfold bigP at this
          simp [hg] at this
          exact this
        have hm8 := cnt_le hb
        have hm1 : 1 ≤ cnt p.val.size := by unfold cnt; omega
        have hlaid : ∀ j, j < cnt p.val.size → ∃ x ∈ pre, R.P.getD (p.slot.toNat * 8 + j) 0 = (x : Int) ∧ sec D1 x = chunk p.val j := by
          intro j hj
          have hq : (⟨p.slot, j, chunk p.val j⟩ : Pc) ∈ done := by
            rw [← hdone]
            exact mem_pieces.2 ⟨p, hp, mem_pcs.2 ⟨hg, rfl, hj, rfl⟩⟩
          exact f.laid _ hq
        have hnz : ∀ j, j < cnt p.val.size → R.P.getD (p.slot.toNat * 8 + j) 0 ≠ 0 := by
          intro j hj
          obtain ⟨x, hx, h1, _⟩ := hlaid j hj
          rw [h1]
          have := (hfr x hx).2.1
          omega
        rw [if_neg]
        · have htw := takeWhile_pre (fun j => R.P.getD (p.slot.toNat * 8 + j) 0) hm8 hnz (fun h => hzero _ h (.inr (Nat.le_refl _)))
          unfold place
          rw [htw, List.map_map]
          simp only [Bool.false_eq_true, if_false]
          congr 1
          have : (List.range (cnt p.val.size)).map ((fun x : Int => sec (wst D1 0 (textOf R)) x.toNat) ∘ fun j => R.P.getD (p.slot.toNat * 8 + j) 0) = (List.range (cnt p.val.size)).map (chunk p.val) := by
            apply List.map_congr_left
            intro j hj
            simp only [List.mem_range] at hj
            obtain ⟨x, hx, h1, h2⟩ := hlaid j hj
            simp only [Function.comp]
            rw [h1, hsec _ (by have := (hfr x hx).2.1; omega)]
            simpa using h2
          rw [this, cat_all]
        · intro heq
          have h0 := congrArg (fun l : List Int => l[0]?) heq
          have := hnz 0 (by omega)
          unfold place at h0
          simp at h0 this
          omega
      · rw [if_pos]
        · rfl
        · unfold place
          apply List.ext_getElem
          · simp
          · intro j h1 h2
            simp at h1
            have h3 := hzero j h1 (.inl hg)
            rw [List.getElem_replicate, List.getElem_map, List.getElem_range]
            exact h3
  · exact absurd rfl hn

theorem out_no (h : WOut D L e D') (hc : Chk L 0) (hl : D.S.length = 160) (hl0 : 0 ≤ D.l) (he : e ≠ 0) :
    Kept D D' ∧ e = 12 ∧ D'.d = true ∧ (root D') = root D ∧ (∀ s, getv D' s = getv D s) ∧ (D.d = true ∨ (D.c = true ∧ D.l < 65)) := by
  have main : ∀ (pre : List Nat) (D1 : DS) (R : RS) (ps : List Pc) (i : Int) (s : ByteArray), pre <+: frees (root D) → Runs D (next0 (root D) L) (pieces L) pre D1 R ps → e = wres D1 i s → D' = wst D1 i s → 0 ≤ i → i < 160 → s.size ≤ 512 →
      Kept D D' ∧ e = 12 ∧ D'.d = true ∧ (root D') = root D ∧ (∀ s, getv D' s = getv D s) ∧ (D.d = true ∨ (D.c = true ∧ D.l < 65)) := by
    rintro pre D1 R ps i s hpf hr rfl rfl hi0 hi1 hs
    have hR0 : RSok (root D) := rootOf_ok (sec D 0)
    obtain ⟨hRn, hbn, hz, hkeep⟩ := next0_spec hR0 L
    have hnd := List.Nodup.sublist hpf.sublist (frees_nodup (root D))
    have hfr : ∀ x ∈ pre, x < 160 ∧ x ≠ 0 ∧ (x : Int) ∉ (root D).P := fun x hx => mem_frees.1 (hpf.subset hx)
    obtain ⟨done, f⟩ := hr.facts hl hl0 hRn (pieces_apart hc) (fun q hq => (pieces_pos hc hq).1) hnd (fun x hx => (hfr x hx).1)
    have hpl := pieces_len hc
    have hcl := congrArg List.length f.cut
    have hdl := f.len
    simp at hcl
    obtain ⟨h12, hws, hst⟩ := wres_not he hi0 hi1 hs
    rw [h12, hws]
    have hsec : ∀ y, y ∉ pre → sec { D1 with d := true } y = sec D y := f.keep
    have hroot : root { D1 with d := true } = root D := by
      unfold root
      rw [hsec]
      intro h0
      exact (hfr 0 h0).2.1 rfl
    have h1 := f.l
    have h2 := f.lk
    have h3 := f.c
    have h4 := f.n
    refine ⟨⟨f.ds, h3, ?_, ?_, ?_, ?_⟩, rfl, rfl, hroot, ?_, ?_⟩
    · show 0 ≤ D1.l
      rw [h1]
      cases hDc : D.c
      · simpa using hl0
      · have := h2 hDc
        simp
        omega
    · show D1.l ≤ D.l
      rw [h1]
      cases hDc : D.c <;> simp
      omega
    · show D.n ≤ D1.n
      omega
    · show D1.n ≤ D.n + 65
      omega
    · intro s
      apply getv_same
      · rw [hroot]
      · intro x hx hx0
        obtain ⟨a, b⟩ := hR0.b x hx
        apply hsec
        intro hm
        have := (hfr _ hm).2.2
        rw [Int.toNat_of_nonneg a] at this
        exact this hx
    · rcases hst with hst | ⟨ha, hb⟩
      · exact .inl (f.d ▸ hst)
      · rw [h3] at ha
        rw [h1, if_pos ha] at hb
        exact .inr ⟨ha, by omega⟩
  rcases h with ⟨pre, D1, R, ps, hps, hpf, hr, hw, hD⟩ | ⟨pre, x, D1, R, q, ps, hpf, hr, hw, hn, hD⟩
  · have hR0 : RSok (root D) := rootOf_ok (sec D 0)
    obtain ⟨hRn, _⟩ := next0_spec hR0 L
    have hnd := List.Nodup.sublist hpf.sublist (frees_nodup (root D))
    obtain ⟨done, f⟩ := hr.facts hl hl0 hRn (pieces_apart hc) (fun q hq => (pieces_pos hc hq).1) hnd (fun x hx => (mem_frees.1 (hpf.subset hx)).1)
    exact main pre D1 R ps 0 _ hpf hr hw hD (by omega) (by omega) (by rw [textOf_size f.rok.len]; omega)
  · have hR0 : RSok (root D) := rootOf_ok (sec D 0)
    obtain ⟨hRn, _⟩ := next0_spec hR0 L
    have hpf' : pre <+: frees (root D) := (List.prefix_append pre [x]).trans hpf
    have hnd := List.Nodup.sublist hpf'.sublist (frees_nodup (root D))
    obtain ⟨done, f⟩ := hr.facts hl hl0 hRn (pieces_apart hc) (fun q hq => (pieces_pos hc hq).1) hnd (fun x hx => (mem_frees.1 (hpf'.subset hx)).1)
    have hx := mem_frees.1 (hpf.subset (show x ∈ pre ++ [x] by simp))
    exact main pre D1 R (q :: ps) x _ hpf' hr hw hD (by omega) (by omega) (pieces_text (L := L) (by rw [f.cut]; simp))
end
end Go.Proofs.Ytikaeblmjlfgcaa
