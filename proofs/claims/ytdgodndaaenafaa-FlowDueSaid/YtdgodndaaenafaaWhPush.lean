/- Push and Pop of the queue; by-name template. -/
import Derived.Test.YtdgodndaaenafaaWDown
import Derived.Maps.AppendAt
import Derived.OwnWalk
namespace Go.Proofs.Ytdgodndaaenafaa
open Go.RowKit Go.Lib Go.Maps
set_option linter.unusedVariables false
set_option linter.unusedSimpArgs false

theorem infoP : (Try.prog.info? 87).map (fun i => (i.zero, i.size, i.bytes)) = some (some (.pointer none), 1, 8) := by kernel_rfl

theorem run_ta (w : World) (a : Option Addr) : (Instr.typeAssert (.iface 87 (.pointer a)) 20 87 false).run Try.prog w = .ok (.pointer a) w := by kernel_rfl

section
variable {w : World} {S : Nat → Prop} {Bw Mp : Nat} {A : Option Addr} {cap : Nat} {E : List DE}

/-- What a wheel may write to when a deadline in Bd comes. -/
def ext (w w' : World) (S : Nat → Prop) (Bd : Nat) : Nat → Prop := fun k => S k ∨ k = Bd ∨ (w.heap.size ≤ k ∧ k < w'.heap.size)

theorem push_fin {w1 w3 : World} {Bd : Nat} {id tm pl : Int} {v3 : Value} {V : Value} (h : HQ w S Bw Mp A cap E) (hb : E.length < 256) (hd : w.heap[Bd]? = some (.cells #[.int .i64 id, .int .i64 tm, .int .i64 pl] 86 (0, 0))) (hdS : ¬ S Bd) (hMp : Mp < w.heap.size) (hMd : Mp ≠ Bd)
    (e1 : w1 = w.setCell ⟨Bd, 2, none⟩ (.int .i64 (E.length : Int))) (hown : w3.ownsRow 0 87 1 v3 (E.length + 1) (E.map DE.pv ++ [.pointer (some ⟨Bd, 0, none⟩)])) (hg : (w1.alloc (.cells #[V] 87)).grownBy w3 (Value.slice A E.length cap).ownBlock)
    (hat : v3.ownBlock = (Value.slice A E.length cap).ownBlock ∨ v3.ownBlock = some (w1.alloc (.cells #[V] 87)).heap.size) :
    ∃ A' cap', HQ (w3.setCell ⟨Bw, 0, none⟩ v3) (ext w (w3.setCell ⟨Bw, 0, none⟩ v3) S Bd) Bw Mp A' cap' (E ++ [⟨Bd, id, tm⟩]) ∧ OffS (fun k => S k ∨ k = Bw ∨ k = Bd) w (w3.setCell ⟨Bw, 0, none⟩ v3) := by
  have hbd := blk_lt hd
  have hbw := h.blt
  have hne : Bd ≠ Bw := ne_cells hd h.hw (by decide)
  have hsz1 : w1.heap.size = w.heap.size := by subst e1; exact set_size _ _ _
  have hsz2 : (w1.alloc (.cells #[V] 87)).heap.size = w.heap.size + 1 := by rw [al_size, hsz1]
  have hsz3 := hg.size
  rw [hsz2] at hsz3
  have hrow : ∀ k, some k = (Value.slice A E.length cap).ownBlock → S k := fun k hk => by
    cases A with
    | none => cases hk
    | some a => cases hk; exact h.sA _ rfl
  have o1 : OffS (fun k => S k ∨ k = Bw ∨ k = Bd) w w1 := by subst e1; exact ((Off.refl Bd w).set 2 _).toS (.inl (.inr (.inr rfl)))
  have o2 : OffS (fun k => S k ∨ k = Bw ∨ k = Bd) w1 (w1.alloc (.cells #[V] 87)) := offS_below ((Below.refl _ _).alloc (Nat.le_refl _) _)
  have o3 : OffS (fun k => S k ∨ k = Bw ∨ k = Bd) (w1.alloc (.cells #[V] 87)) w3 := ⟨hg.os, hg.tape, hg.output, hg.size, fun k hk hn => hg.block k hk (fun e => hn (.inl (hrow k e)))⟩
  have o4 : OffS (fun k => S k ∨ k = Bw ∨ k = Bd) w3 (w3.setCell ⟨Bw, 0, none⟩ v3) := ((Off.refl Bw w3).set 0 v3).toS (.inl (.inr (.inl rfl)))
  have oA := ((o1.trans o2).trans o3).trans o4
  -- a block that is not the row's
  have keep3 : ∀ k (o : Obj), w1.heap[k]? = some o → (∀ g, some g = (Value.slice A E.length cap).ownBlock → k ≠ g) → k ≠ Bw → (w3.setCell ⟨Bw, 0, none⟩ v3).heap[k]? = some o := fun k o hk hn hb2 => by
    rw [set_other hb2, hg.block k (by rw [hsz2]; have := blk_lt hk; omega) (fun e => hn k e rfl)]
    rw [Below.heap_alloc _ _ _ (blk_lt hk)]; exact hk
  have hrt : ∀ g, some g = (Value.slice A E.length cap).ownBlock → ∃ cs, w.heap[g]? = some (.cells cs 87 (0, 0)) := fun g hg' => by
    obtain ⟨_, ⟨q1, _⟩ | ⟨g', c, cur, hv, _, hgg, _⟩⟩ := h.row
    · rw [q1] at hg'; cases hg'
    · rw [hv] at hg'; cases hg'; exact ⟨cur, hgg⟩
  have hBw1 : w1.heap[Bw]? = some (.cells #[.slice A E.length cap, .map (some Mp)] 81 (0, 0)) := by subst e1; rw [set_other hne.symm]; exact h.hw
  have hBw3 : w3.heap[Bw]? = some (.cells #[.slice A E.length cap, .map (some Mp)] 81 (0, 0)) := by
    rw [hg.block Bw (by rw [hsz2]; omega) (fun e => by
      obtain ⟨cs, hcs⟩ := hrt _ e
      exact ne_cells hcs h.hw (by decide) rfl), Below.heap_alloc _ _ _ (by omega)]
    exact hBw1
  have hd3 : (w3.setCell ⟨Bw, 0, none⟩ v3).heap[Bd]? = some (.cells (dc ⟨Bd, id, tm⟩ E.length) 86 (0, 0)) := by
    refine keep3 Bd _ ?_ (fun g hg' => ?_) hne
    · subst e1; exact heap_set hd 2 _
    · obtain ⟨cs, hcs⟩ := hrt g hg'
      exact fun e => ne_cells hd hcs (by decide) e
  obtain ⟨hl3, ⟨_, hz⟩ | ⟨g3, cap3, cur3, rfl, hb3, hg3, r1, r2, r3, r4⟩⟩ := hown
  · omega
  have hg3w : (w3.setCell ⟨Bw, 0, none⟩ (.slice (some ⟨g3, 0, none⟩) (E.length + 1) cap3)).heap[g3]? = some (.cells cur3 87 (0, 0)) := by
    rw [set_other (ne_cells hg3 hBw3 (by decide))]; exact hg3
  have hS3 : S g3 ∨ w.heap.size ≤ g3 := by
    rcases hat with e | e
    · exact .inl (hrow g3 e)
    · simp only [Value.ownBlock, Option.some.injEq] at e
      rw [hsz2] at e
      exact .inr (by omega)
  have hlt3 := blk_lt hg3w
  refine ⟨some ⟨g3, 0, none⟩, cap3, {
    hw := ?_
    row := ⟨by simp, .inr ⟨g3, cap3, cur3, by simp, Nat.zero_le _, hg3w, by simpa using r1, r2, r3, by simpa [DE.pv] using r4⟩⟩
    de := fun i e he => ?_
    sA := fun a ha => ?_
    sE := fun e he => ?_
    nB := ?_
    nM := ?_
    lt := fun k hk => ?_
    big := by simp; omega }, oA⟩
  · have := heap_set hBw3 0 (.slice (some ⟨g3, 0, none⟩) (E.length + 1) cap3)
    rw [this]; simp
  · by_cases hi : i < E.length
    · rw [List.getElem?_append_left hi] at he
      have hm := List.mem_of_getElem? he
      have hw0 := h.de i e he
      refine keep3 e.B _ ?_ (fun g hg' => ?_) (ne_cells hw0 h.hw (by decide))
      · subst e1; rw [set_other (fun q => hdS (by have := h.sE e hm; rw [q] at this; exact this))]; exact hw0
      · obtain ⟨cs, hcs⟩ := hrt g hg'
        exact ne_cells hw0 hcs (by decide)
    · rw [List.getElem?_append_right (by omega)] at he
      have hz : i - E.length = 0 := by
        have := (List.getElem?_eq_some_iff.1 he).1
        simp at this; omega
      rw [hz] at he
      simp only [List.getElem?_cons_zero, Option.some.injEq] at he
      subst he
      rw [show i = E.length by omega]
      exact hd3
  · cases ha
    rcases hS3 with q | q
    · exact .inl q
    · exact .inr (.inr ⟨q, hlt3⟩)
  · rcases List.mem_append.1 he with he | he
    · exact .inl (h.sE e he)
    · obtain rfl : e = ⟨Bd, id, tm⟩ := by simpa using he
      exact .inr (.inl rfl)
  · rintro (q | q | q)
    · exact h.nB q
    · exact hne q.symm
    · omega
  · rintro (q | q | q)
    · exact h.nM q
    · exact hMd q
    · omega
  · have := oA.size
    rcases hk with q | q | q
    · exact Nat.lt_of_lt_of_le (h.lt k q) this
    · omega
    · exact q.2

set_option maxHeartbeats 1000000 in
theorem qpush_any {Bd : Nat} {id tm pl : Int} (h : HQ w S Bw Mp A cap E) (hb : E.length < 256) (hd : w.heap[Bd]? = some (.cells #[.int .i64 id, .int .i64 tm, .int .i64 pl] 86 (0, 0))) (hdS : ¬ S Bd) (hMp : Mp < w.heap.size) (hMd : Mp ≠ Bd) :
    Calls Try.prog 65 #[qp Bw, .iface 87 (.pointer (some ⟨Bd, 0, none⟩))] w fun e w' => e = .returned (.tuple #[]) ∧ ∃ A' cap', HQ w' (ext w w' S Bd) Bw Mp A' cap' (E ++ [⟨Bd, id, tm⟩]) ∧ OffS (fun k => S k ∨ k = Bw ∨ k = Bd) w w' := by
  obtain ⟨M, hM⟩ : ∃ M : World → Prop, M = fun w' => ∃ A' cap', HQ w' (ext w w' S Bd) Bw Mp A' cap' (E ++ [⟨Bd, id, tm⟩]) ∧ OffS (fun k => S k ∨ k = Bw ∨ k = Bd) w w' := ⟨_, rfl⟩
  have hne : Bd ≠ Bw := ne_cells hd h.hw (by decide)
  have c0 := h.c0
  have f0 := h.free 0
  have d2 := cell_of_row _ _ 2 _ _ _ hd
  have df := free_of hd 2
  obtain ⟨i0, hi, hz0, hz1, hz2⟩ := info_parts infoP
  have hn := h.big
  obtain ⟨w1, hw1⟩ : ∃ w1, w1 = w.setCell ⟨Bd, 2, none⟩ (.int .i64 (E.length : Int)) := ⟨_, rfl⟩
  have o1 : OffS (fun k => k = Bd) w w1 := by subst hw1; exact ((Off.refl Bd w).set 2 _).toS (.inl rfl)
  have h1 : HQ w1 S Bw Mp A cap E := h.off o1 (fun k hk e => by subst e; rcases hk with e | e; exact hne e; exact hdS e)
  have hown := h1.row
  have FIN : ∀ v3 w3 V, w3.ownsRow 0 87 1 v3 (E.length + 1) (E.map DE.pv ++ [.pointer (some ⟨Bd, 0, none⟩)]) → (w1.alloc (.cells #[V] 87)).grownBy w3 (Value.slice A E.length cap).ownBlock →
      (v3.ownBlock = (Value.slice A E.length cap).ownBlock ∨ v3.ownBlock = some (w1.alloc (.cells #[V] 87)).heap.size) → M (w3.setCell ⟨Bw, 0, none⟩ v3) := fun v3 w3 V a b c => by
    rw [hM]; exact push_fin h hb hd hdS hMp hMd hw1 a b c
  have hM2 : (fun e w' => e = Ending.returned (.tuple #[]) ∧ ∃ A' cap', HQ w' (ext w w' S Bd) Bw Mp A' cap' (E ++ [⟨Bd, id, tm⟩]) ∧ OffS (fun k => S k ∨ k = Bw ∨ k = Bd) w w') = fun e w' => e = Ending.returned (.tuple #[]) ∧ M w' := by rw [hM]
  rw [hM2]
  have HF := Lib.hid FIN
  have c1 := h1.c0
  have f1 := h1.free 0
  have KB : ∀ v3 w3 V, w3.ownsRow 0 87 1 v3 (E.length + 1) (E.map DE.pv ++ [.pointer (some ⟨Bd, 0, none⟩)]) → (w1.alloc (.cells #[V] 87)).grownBy w3 (Value.slice A E.length cap).ownBlock → w3.cell? ⟨Bw, 0, none⟩ = some (.slice A E.length cap) ∧ w3.frozen? ⟨Bw, 0, none⟩ = false ∧ ∃ A3 c3, v3 = .slice A3 (E.length + 1) c3 := fun v3 w3 V a b => by
    have hrt : some Bw ≠ (Value.slice A E.length cap).ownBlock := fun e => by
      obtain ⟨_, ⟨q1, _⟩ | ⟨g', c, cur, hv, _, hgg, _⟩⟩ := h1.row
      · rw [q1] at e; cases e
      · rw [hv] at e; cases e; exact ne_cells hgg h1.hw (by decide) rfl
    have e1 := b.block Bw (by rw [al_size]; have := h1.blt; omega) hrt
    rw [Below.heap_alloc _ _ _ h1.blt] at e1
    refine ⟨(World.cell?_of_block (a := ⟨Bw, 0, none⟩) e1).trans c1, (World.frozen?_of_block (a := ⟨Bw, 0, none⟩) e1).trans f1, ?_⟩
    obtain ⟨_, ⟨q1, q2⟩ | ⟨g', c, cur, hv, _, hgg, _⟩⟩ := a
    · omega
    · exact ⟨_, _, hv⟩
  have HK := Lib.hid KB
  clear FIN KB hM hM2 h h1 hd hMp hMd hdS o1
  generalize E.map DE.pv = PV at *
  generalize E.length = n at *
  have ta := fun w => run_ta w (some ⟨Bd, 0, none⟩)
  unfold qp
  go_enter Try.func65, Try.ntmps65
  go_upto_region 2 with fail
  rw [← hw1]
  have HW1 := Lib.hid hw1
  clear hw1
  go_wp2_with (at_builtin; refine wpList_append_own_at _ rfl _ _ 78 rfl 0 87 i0 (.pointer none) 1 8 Try.underlying78 hi hz0 hz1 hz2 rfl (by decide) _ _ _ rfl (hown.alloc _) ⟨w1.heap.size, 0, none⟩ 1 1 [Value.pointer (some ⟨Bd, 0, none⟩)] rfl rfl (by intro j u' hj; match j, hj with | 0, hj => simp at hj; subst hj; simp [Addr.add]) (by intro u' hu'; simp at hu'; subst hu'; rfl) (by unfold maxLen; omega) (by omega) (by omega) ?_)
  intro v3 w3 hown3 hg3 _ hat3
  obtain ⟨k1, k2, A3, c3, rfl⟩ := HK.out _ _ _ hown3 hg3
  have FIN := Lib.hid (HF.out _ _ _ hown3 hg3 (by rw [al_size]; exact hat3))
  clear hown3 hg3 hat3
  go_wp2
  simp [bodyPost, results, Try.results65, go_sem]
  exact FIN.out

theorem pop_fin {w1 w2 : World} {g : Nat} {cur : Array Value} (h : HQ w S Bw Mp (some ⟨g, 0, none⟩) cap E) (hn : 0 < E.length) (hg : w.heap[g]? = some (.cells cur 87 (0, 0))) (hsz : cur.size = cap) (hcap : E.length ≤ cap) (hmax : cap ≤ maxLen)
    (e1 : w1 = w.setCell ⟨g, E.length - 1, none⟩ (.pointer none)) (e2 : w2 = w1.setCell ⟨Bw, 0, none⟩ (.slice (some ⟨g, 0, none⟩) (E.length - 1) cap)) :
    HQ w2 S Bw Mp (some ⟨g, 0, none⟩) cap (E.take (E.length - 1)) ∧ OffS (fun k => S k ∨ k = Bw) w w2 ∧ w2.heap[(ge E (E.length - 1)).B]? = some (.cells (dc (ge E (E.length - 1)) (E.length - 1)) 86 (0, 0)) := by
  have hgw : g ≠ Bw := ne_cells hg h.hw (by decide)
  have sg : S g := h.sA _ rfl
  have hlen : (E.take (E.length - 1)).length = E.length - 1 := by rw [List.length_take]; omega
  have hoff : OffS (fun k => S k ∨ k = Bw) w w2 := by
    subst e2; subst e1
    exact (((Off.refl g w).set _ _).toS (.inl (.inl sg))).trans (((Off.refl Bw _).set 0 _).toS (.inl (.inr rfl)))
  have hblk : ∀ k, k ≠ g → k ≠ Bw → w2.heap[k]? = w.heap[k]? := fun k k1 k2 => by subst e2; subst e1; rw [set_other k2, set_other k1]
  have hG : w2.heap[g]? = some (.cells (cur.setIfInBounds (E.length - 1) (.pointer none)) 87 (0, 0)) := by
    subst e2; subst e1; rw [set_other hgw]; exact heap_set hg _ _
  have hW : w2.heap[Bw]? = some (.cells #[.slice (some ⟨g, 0, none⟩) (E.length - 1) cap, .map (some Mp)] 81 (0, 0)) := by
    subst e2; subst e1
    refine heap_set (cs := #[.slice (some ⟨g, 0, none⟩) E.length cap, .map (some Mp)]) ?_ 0 _
    rw [set_other hgw.symm]; exact h.hw
  obtain ⟨_, ⟨q1, _⟩ | ⟨g', c, cur', hv, _, hgg, _, _, _, r4⟩⟩ := h.row
  · cases q1
  cases hv
  rw [hg] at hgg
  cases hgg
  refine ⟨{
    hw := by rw [hlen]; exact hW
    row := ⟨by simp, .inr ⟨g, cap, _, rfl, Nat.zero_le _, hG, by rw [hlen]; omega, hmax, by simpa using hsz, ?_⟩⟩
    de := fun i e he => ?_
    sA := h.sA
    sE := fun e he => h.sE e (List.mem_of_mem_take he)
    nB := h.nB
    nM := h.nM
    lt := fun k hk => Nat.lt_of_lt_of_le (h.lt k hk) hoff.size
    big := by rw [hlen]; have := h.big; omega }, hoff, by
      have hw0 := h.de _ _ (ge_get (E := E) (k := E.length - 1) (by omega))
      rw [hblk _ (ne_cells hw0 hg (by decide)) (ne_cells hw0 h.hw (by decide))]
      exact hw0⟩
  · rw [hlen, List.map_take, ← r4]
    refine List.ext_getElem? fun k => ?_
    simp only [List.getElem?_take, Nat.mul_one]
    by_cases hk : k < E.length - 1
    · rw [if_pos hk, if_pos hk, if_pos (by omega), Array.getElem?_toList, Array.getElem?_setIfInBounds, if_neg (by omega), Array.getElem?_toList]
    · rw [if_neg hk, if_neg hk]
  · have hi := (List.getElem?_eq_some_iff.1 he).1
    rw [hlen] at hi
    rw [List.getElem?_take, if_pos hi] at he
    have hw0 := h.de i e he
    rw [hblk _ (ne_cells hw0 hg (by decide)) (ne_cells hw0 h.hw (by decide))]
    exact hw0

set_option maxHeartbeats 1000000 in
theorem qpop_any (h : HQ w S Bw Mp A cap E) (hn : 0 < E.length) :
    Calls Try.prog 64 #[qp Bw] w fun e w' => e = .returned (.iface 87 (.pointer (some ⟨(ge E (E.length - 1)).B, 0, none⟩))) ∧ HQ w' S Bw Mp A cap (E.take (E.length - 1)) ∧ OffS (fun k => S k ∨ k = Bw) w w' ∧ w'.heap[(ge E (E.length - 1)).B]? = some (.cells (dc (ge E (E.length - 1)) (E.length - 1)) 86 (0, 0)) := by
  obtain ⟨g, cur, rfl, hSg, hg, hcap, hmax, hsz, hc⟩ := h.rowAt hn
  have FIN := fun w1 w2 => pop_fin (w1 := w1) (w2 := w2) h hn hg hsz hcap hmax
  have hgw : g ≠ Bw := ne_cells hg h.hw (by decide)
  have c0 := h.c0
  have f0 := h.free 0
  have rl := row_cell hg (hc (E.length - 1) (by omega))
  have fl := free_of hg (E.length - 1)
  have hbig := h.big
  have HF := Lib.hid FIN
  clear FIN h hc hg hmax hsz
  unfold qp DE.pv at *
  have e1 : (E.length : Int) - 1 = ((E.length - 1 : Nat) : Int) := by omega
  have hlt : E.length - 1 < E.length := by omega
  have hltI : ((E.length - 1 : Nat) : Int) < (E.length : Int) := by omega
  have hle : E.length - 1 ≤ cap := by omega
  have hleI : ((E.length - 1 : Nat) : Int) ≤ (cap : Int) := by omega
  generalize dc (ge E (E.length - 1)) (E.length - 1) = dd at *
  generalize (ge E (E.length - 1)).B = x at *
  generalize E.take (E.length - 1) = F at *
  generalize hl : E.length - 1 = l at *
  generalize E.length = n at *
  clear hl hn
  go_enter Try.func64, Try.ntmps64
  go_wp2
  go_ret
  exact ⟨rfl, HF.out _ _ rfl rfl⟩
end
end Go.Proofs.Ytdgodndaaenafaa
