/- free, put and forget of a table of flows; by-name template (gen_fof.py). -/
import Derived.Test.YtdgodndaaenafaaFoG
namespace Go.Proofs.Ytdgodndaaenafaa
open Go.RowKit Go.Lib Go.Maps
set_option linter.unusedVariables false
set_option linter.unusedSimpArgs false

def intOf : Value → Int
  | .int _ n => n
  | _ => 0
section
variable {w w' : World} {T Tw : Nat → Prop} {TB Bw Mo Mk co ck : Nat} {go : Int → Option Fl} {gk : Ky → Option Int} {W : List K2} {L : List Fl}

set_option maxHeartbeats 2000000 in
theorem free_any (g : GoodF L) (h : MapO w Mo (goF L) co) :
    Calls Try.prog 29 #[.agg #[.pointer (some ⟨Bw, 0, none⟩), .map (some Mo)]] w fun e w' => e = .returned (.int .i64 ((preF 0 L : Int) + 1)) ∧ Below w.heap.size w w' := by
  have hH := fun (w1 : World) (hb : Below w.heap.size w w1) (k : Nat) (hk : k ≤ 48) => hasid_any (w := w1) (Bw := Bw) (h.keep (w' := w1) (hb.block _ h.lt)) (id := (k : Int) + 1) (by unfold i64ok; omega)
  have h48 : preF 0 L ≤ 48 := by have := pre_le L 0; have := g.ln; omega
  have p1 : ∀ k, k < preF 0 L → (goF L ((k : Int) + 1)).isSome = true := fun k hk => by rw [has_go]; exact pre_has g hk
  have p2 : (goF L ((preF 0 L : Int) + 1)).isSome = false := by rw [has_go]; exact pre_not g
  generalize preF 0 L = p at *
  have b0 : Below w.heap.size w (w.alloc (.cells #[.pointer (some ⟨Bw, 0, none⟩), .map (some Mo)] 65)) := (Below.refl _ _).alloc (Nat.le_refl _) _
  have A0 : (w.alloc (.cells #[.pointer (some ⟨Bw, 0, none⟩), .map (some Mo)] 65)).heap[w.heap.size]? = some (.cells #[.pointer (some ⟨Bw, 0, none⟩), .map (some Mo)] 65 (0, 0)) := heap_alloc_new w _
  clear h g
  go_enter Try.func29, Try.ntmps29
  go_upto_region 1 with fail
  obtain ⟨w1, hw1⟩ : ∃ x, x = w.alloc (.cells #[.pointer (some ⟨Bw, 0, none⟩), .map (some Mo)] 65) := ⟨_, rfl⟩
  rw [← hw1] at b0 A0 ⊢
  clear hw1
  have HP1 := Lib.hid p1
  clear p1
  go_wp2_with fail
  go_loopw [3] (fun v3 wr => ∃ k : Nat, v3 = .int .i64 ((k : Int) + 1) ∧ k ≤ p ∧ Below w.heap.size w wr ∧ Below w1.heap.size w1 wr) (fun v3 _ => p + 1 - (intOf v3).toNat)
  case atStart => exact ⟨0, rfl, Nat.zero_le _, b0, Below.refl _ _⟩
  case round =>
    obtain ⟨k, rfl, hk, bw, bw1⟩ := hrel
    have c := hH wr bw k (by omega)
    have a0 := blkB bw1 A0
    have hs := Lib.hid (show (#[Value.pointer (some ⟨Bw, 0, none⟩), .map (some Mo)] : Array Value).size = 2 from rfl)
    have c0 := cell_of_row _ _ 0 _ _ _ a0
    have c1 := cell_of_row _ _ 1 _ _ _ a0
    by_cases hkp : k < p
    · rw [HP1.out k hkp] at c
      go_wp2_with (first
        | (go_at_call 37; refine c.mono ?_; rintro e w2 ⟨rfl, h2⟩))
      exact ⟨⟨k + 1, by simp, by omega, bel_via bw h2, bel_via bw1 h2⟩, by simp [intOf]; omega⟩
    · obtain rfl : k = p := by omega
      rw [p2] at c
      go_wp2_with (first
        | (go_at_call 37; refine c.mono ?_; rintro e w2 ⟨rfl, h2⟩))
      go_ret
      exact ⟨rfl, bel_via bw h2⟩

def PutPost (w : World) (T : Nat → Prop) (TB Bw Mo Mk : Nat) (go : Int → Option Fl) (co : Nat) (gk : Ky → Option Int) (ck : Nat) (W : List K2) (f : Fl) (w' : World) : Prop :=
  ∃ T' Tw', TRaw w' T' Tw' TB Bw Mo Mk (upO go f) (if (go f.id).isSome then co else co + 1) gk ck (setP W f.id f.en) ∧ OffS T w w' ∧ ∀ k, T' k → T k ∨ w.heap.size ≤ k
theorem put_fin (h : TRaw w T Tw TB Bw Mo Mk go co gk ck W) {f : Fl} {w1 w2 w3 : World} (b1 : Below w.heap.size w w1) {c' : Nat} {g' : Int → Option Fl} (hm : MapO w2 Mo g' c') (o2 : OffS (fun j => j = Mo) w1 w2) {W' : List K2} (h3 : WPost w2 Tw Bw W' w3) :
    ∃ T' Tw', TRaw w3 T' Tw' TB Bw Mo Mk g' c' gk ck W' ∧ OffS T w w3 ∧ ∀ k, T' k → T k ∨ w.heap.size ≤ k := by
  obtain ⟨Tw', h4, o3, ht⟩ := h3
  have hT := h.lt _ h.tT
  have hO := h.lt _ h.tO
  have hK := h.lt _ h.tK
  have s1 := b1.size
  have s2 := o2.size
  have s3 := o3.size
  have oM : OffS T w w2 := (offS_below b1).trans (o2.mono (fun k _ e => by rw [e]; exact h.tO))
  have oT : OffS T w w3 := oM.trans (o3.mono (fun k _ hk => h.tW k hk))
  have hTO : TB ≠ Mo := fun e => h.mo.ne h.tb e.symm
  refine ⟨fun k => T k ∨ (w.heap.size ≤ k ∧ k < w3.heap.size), Tw', {
    tb := by rw [o3.block _ (by omega) h.nT, o2.block _ (by omega) hTO, b1.block _ hT]; exact h.tb
    mo := hm.keep (o3.block _ (by omega) h.nO)
    mK := h.mK.keep (by rw [o3.block _ (by omega) h.nK, o2.block _ (by omega) (fun e => h.ne e.symm), b1.block _ hK])
    wh := h4
    tT := .inl h.tT
    tO := .inl h.tO
    tK := .inl h.tK
    tW := fun k hk => by
      rcases ht k hk with q | q
      · exact .inl (h.tW k q)
      · exact .inr ⟨by omega, h4.tlt k hk⟩
    nT := fun q => by rcases ht _ q with q | q; exact h.nT q; omega
    nO := fun q => by rcases ht _ q with q | q; exact h.nO q; omega
    nK := fun q => by rcases ht _ q with q | q; exact h.nK q; omega
    ne := h.ne
    lt := fun k hk => by
      rcases hk with q | q
      · have := h.lt k q; omega
      · exact q.2 }, oT, fun k hk => hk.imp (fun q => q) fun q => q.1⟩

set_option maxRecDepth 100000 in
set_option maxHeartbeats 2000000 in
theorem put_any (h : TRaw w T Tw TB Bw Mo Mk go co gk ck W) (hc : co < 1000000) {f : Fl} (hf : i64ok f.id) :
    Calls Try.prog 30 #[.agg #[.pointer (some ⟨Bw, 0, none⟩), .map (some Mo)], .agg (FA f)] w fun e w' => e = .returned (.tuple #[]) ∧ PutPost w T TB Bw Mo Mk go co gk ck W f w' := by
  have b0 : Below w.heap.size w ((w.alloc (.cells #[.pointer (some ⟨Bw, 0, none⟩), .map (some Mo)] 65)).alloc (.cells (FA f) 38)) := Below.al (Below.al (Below.refl _ _) _) _
  have A0 : ((w.alloc (.cells #[.pointer (some ⟨Bw, 0, none⟩), .map (some Mo)] 65)).alloc (.cells (FA f) 38)).heap[w.heap.size]? = some (.cells #[.pointer (some ⟨Bw, 0, none⟩), .map (some Mo)] 65 (0, 0)) := blk_al (heap_alloc_new w _) _
  have A1 : ((w.alloc (.cells #[.pointer (some ⟨Bw, 0, none⟩), .map (some Mo)] 65)).alloc (.cells (FA f) 38)).heap[w.heap.size + 1]? = some (.cells (FA f) 38 (0, 0)) := al_new (al_size _ _).symm _
  obtain ⟨w1, hw1⟩ : ∃ x, x = (w.alloc (.cells #[.pointer (some ⟨Bw, 0, none⟩), .map (some Mo)] 65)).alloc (.cells (FA f) 38) := ⟨_, rfl⟩
  rw [← hw1] at b0 A0 A1
  have h1 := h.below b0
  obtain ⟨w2, hr, hm2, o2⟩ := h1.mo.put hc hf
  have hW2 : WAt w2 Tw Bw W := h1.wh.off o2 (fun k hk e => h.nO (by rw [← e]; exact hk))
  have hS := wset_any hW2 (t := f.en) hf
  have FIN := fun w3 (h3 : WPost w2 Tw Bw (setP W f.id f.en) w3) => put_fin (f := f) h b0 hm2 o2 h3
  obtain ⟨M, hM⟩ : ∃ M : World → Prop, M = PutPost w T TB Bw Mo Mk go co gk ck W f := ⟨_, rfl⟩
  have FIN' : ∀ w3, WPost w2 Tw Bw (setP W f.id f.en) w3 → M w3 := fun w3 h3 => by rw [hM]; exact FIN w3 h3
  rw [← hM]
  have HF := Lib.hid FIN'
  have hsz := h1.lt
  have l0 := blk_lt A0
  have l1 := blk_lt A1
  have n0 : w.heap.size ≠ Mo := fun e => by have := h.lt _ h.tO; omega
  have n1 : w.heap.size + 1 ≠ Mo := fun e => by have := h.lt _ h.tO; omega
  have A02 : w2.heap[w.heap.size]? = some (.cells #[.pointer (some ⟨Bw, 0, none⟩), .map (some Mo)] 65 (0, 0)) := by rw [o2.block _ l0 n0]; exact A0
  have A12 : w2.heap[w.heap.size + 1]? = some (.cells (FA f) 38 (0, 0)) := by rw [o2.block _ l1 n1]; exact A1
  have d0 := cell_of_row _ _ 0 _ _ _ A02
  have d1 := fa_id A12
  have d2 := fa_en A12
  have e1 := cell_of_row _ _ 1 _ _ _ A0
  have e2 := fa_id A1
  have e3 := fa_all A1
  have f_i := Lib.hid (f_inf f)
  generalize WPost w2 Tw Bw (setP W f.id f.en) = R at *
  clear FIN FIN' hM h1 hm2 o2 hW2 h A0 A1 A02 A12 l0 l1 n0 n1 hsz
  generalize FA f = F at *
  generalize f.id = id at *
  generalize f.en = en at *
  have HW := Lib.hid hw1
  clear hw1
  go_enter Try.func30, Try.ntmps30
  go_upto_region 1 with fail
  rw [← HW.out]
  generalize w.heap.size = g at *
  go_wp2_with (first
    | (refine wpList_load_cells rfl 38 (.tmp 3) rfl ⟨g + 1, 0, none⟩ rfl F _ e3 Try.underlying38 rfl f_i.out ?_)
    | (go_at_call 38; refine hS.mono ?_; rintro e w3 ⟨rfl, h3⟩))
  simp [bodyPost, results, Try.results30, go_sem]
  exact HF.out _ h3
end
end Go.Proofs.Ytdgodndaaenafaa
