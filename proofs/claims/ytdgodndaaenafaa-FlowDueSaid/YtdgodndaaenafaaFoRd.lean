/- The document's Drop; by-name template (gen_ford.py). -/
import Derived.Test.YtdgodndaaenafaaFoRt
namespace Go.Proofs.Ytdgodndaaenafaa
open Go.RowKit Go.Lib Go.Maps
set_option linter.unusedVariables false
set_option linter.unusedSimpArgs false

def RPost (w : World) (R : Nat → Prop) (RB : Nat) (L' : List Fl) (w' : World) : Prop :=
  ∃ R', RAt w' R' RB L' ∧ OffS (fun k => k = RB) w w' ∧ ∀ k, R' k → k = RB ∨ R k ∨ w.heap.size ≤ k
theorem run_rbs0 (w : World) : (Instr.buildSlice 26 0 #[]).run Try.prog w = .ok (.slice (some ⟨w.heap.size, 0, none⟩) 0 0) (w.alloc (.cells #[] 42)) := by kernel_rfl
section
variable {w : World} {R : Nat → Prop} {RB : Nat} {A : Option Addr} {c : Nat} {L : List Fl}
/-- Behind a store of a row of its own. -/
theorem RIn.store (h : RIn w R RB A c L) {L' : List Fl} (hg : GoodF L') {w3 : World} {v3 : Value} {base : Nat} (hb : w.heap.size ≤ base) (b3 : Below w.heap.size w w3) (hown : w3.ownsRow base 42 20 v3 L'.length (L'.flatMap fcells)) :
    ∃ A3 c3, v3 = .slice A3 L'.length c3 ∧ RPost w R RB L' (w3.setCell ⟨RB, 0, none⟩ (.slice A3 L'.length c3)) := by
  obtain ⟨A3, c3, rfl, hs, hbb⟩ := sl_of_own (k := 20) (enc := fcells) f20_len hown rfl
  have hB := h.lt _ h.rB
  have hm3 : w3.heap[RB]? = some (.cells #[.slice A L.length c] 28 (0, 0)) := (b3.block RB hB).trans h.hm
  have o3 : OffS (fun k => k = RB) w3 (w3.setCell ⟨RB, 0, none⟩ (.slice A3 L'.length c3)) := ((Off.refl RB w3).set 0 _).toS (.inl rfl)
  have hz : (w3.setCell ⟨RB, 0, none⟩ (.slice A3 L'.length c3)).heap.size = w3.heap.size := set_size _ _ _
  have hAsp : ∀ b off sp, A3 = some ⟨b, off, sp⟩ → sp = none ∧ b < w3.heap.size ∧ off = 0 := fun b off sp e => by
    obtain ⟨_, ⟨q1, q2⟩ | ⟨g, cap, cur, hv, _, hg, _⟩⟩ := hown
    · simp only [Value.slice.injEq] at q1; rw [q1.1] at e; cases e
    · cases hv; cases e; exact ⟨rfl, blk_lt hg, rfl⟩
  refine ⟨A3, c3, rfl, fun k => k = RB ∨ ∃ off sp, A3 = some ⟨k, off, sp⟩, ⟨hg, A3, c3, {
    hm := heap_set hm3 0 _
    sl := hs.off o3 (fun b off sp e q => by have := hbb b off sp e; omega)
    nil := fun e => by
      obtain ⟨_, ⟨q1, q2⟩ | ⟨g, cap, cur, hv, _, hg, _⟩⟩ := hown
      · simp only [Value.slice.injEq] at q1; exact q1.2.2
      · cases hv; cases e
    cap := own_cap hown
    rB := .inl rfl
    rA := fun b off sp e => ⟨.inr ⟨off, sp, e⟩, fun q => by have := hbb b off sp e; omega, (hAsp b off sp e).1⟩
    lt := fun k hk => ?_ }⟩, (offS_below b3).trans o3, fun k hk => ?_⟩
  · rw [hz]
    rcases hk with rfl | ⟨off, sp, e⟩
    · have := b3.size; omega
    · exact (hAsp k off sp e).2.1
  · rcases hk with rfl | ⟨off, sp, e⟩
    · exact .inl rfl
    · have := hbb k off sp e
      exact .inr (.inr (by omega))
theorem remF_cut {id : Int} {k : Nat} (g : GoodF L) (hk : k < L.length) (hid : (L[k]).id = id) : remF L id = L.take k ++ L.drop (k + 1) := by
  have e : L = L.take k ++ L[k] :: L.drop (k + 1) := by
    conv => lhs; rw [← List.take_append_drop k L]
    rw [← List.drop_eq_getElem_cons hk]
  have hu2 := g.ris
  rw [e] at hu2
  obtain ⟨u1, u2, u3⟩ := List.pairwise_append.1 hu2
  have u4 := (List.pairwise_cons.1 u2).1
  conv => lhs; rw [e]
  unfold remF
  rw [List.filter_append, List.filter_cons, if_neg (by simp [hid])]
  have f1 : (L.take k).filter (fun x => x.id != id) = L.take k := List.filter_eq_self.2 fun x hx => by
    have := u3 x hx L[k] List.mem_cons_self
    rw [hid] at this
    simp; omega
  have f2 : (L.drop (k + 1)).filter (fun x => x.id != id) = L.drop (k + 1) := List.filter_eq_self.2 fun x hx => by
    have := u4 x hx
    rw [hid] at this
    simp; omega
  rw [f1, f2]

set_option maxRecDepth 100000 in
set_option maxHeartbeats 4000000 in
theorem rdrop_any (h : RAt w R RB L) {id : Int} :
    Calls Try.prog 20 #[.pointer (some ⟨RB, 0, none⟩), .int .i64 id] w fun e w' => e = .returned (.bool (hasF L id)) ∧ RPost w R RB (remF L id) w' := by
  have h0 := h
  obtain ⟨gd, A, c, hi⟩ := h
  have cA := at_any hi gd.ln id
  obtain ⟨iu, hiu, hu0, hu1, hu2⟩ := info_parts rf_info
  rcases hb : hasF L id with _ | _
  · have e1 : atP L id = -1 := by unfold atP; rw [hb, if_neg (by simp)]
    rw [e1] at cA
    have FIN : Hid (∀ W, Below w.heap.size w W → RPost w R RB (remF L id) W) := Lib.hid (fun W b => by
      rw [rem_no hb]
      exact ⟨R, h0.below b, offS_below b, fun k hk => .inr (.inl hk)⟩)
    clear h0 gd hi hb e1
    go_enter Try.func20, Try.ntmps20
    go_wp2_with (go_at_call 34; refine cA.mono ?_; rintro e w1 ⟨rfl, b1⟩)
    go_ret
    exact ⟨rfl, FIN.out _ b1⟩
  · have hlt := idx_lt hb
    obtain ⟨k, hk⟩ : ∃ k : Nat, k = L.findIdx fun f => f.id == id := ⟨_, rfl⟩
    rw [← hk] at hlt
    have e1 : atP L id = (k : Int) := by unfold atP; rw [hb, if_pos rfl, hk]
    rw [e1] at cA
    have hid : (L[k]).id = id := by
      have := List.findIdx_getElem (xs := L) (p := fun f => f.id == id) (w := by rw [← hk]; exact hlt)
      subst hk
      simpa using this
    have er := remF_cut gd hlt hid
    have hcap := hi.cap
    have hln := gd.ln
    have hnil := Lib.hid hi.nil
    have YES : Hid (∀ w0 w3 v3, Below w.heap.size w w0 → Below w0.heap.size w0 w3 → w3.ownsRow w0.heap.size 42 20 v3 (k + (L.length - (k + 1))) ((L.take k).flatMap fcells ++ (L.drop (k + 1)).flatMap fcells) → RPost w R RB (remF L id) (w3.setCell ⟨RB, 0, none⟩ v3) ∧ w3.cell? ⟨RB, 0, none⟩ = some (.slice A L.length c) ∧ w3.frozen? ⟨RB, 0, none⟩ = false ∧ ∃ A3 n3 c3, v3 = .slice A3 n3 c3) := Lib.hid (fun w0 w3 v3 b0 b3 hown => by
      have hlen : (remF L id).length = k + (L.length - (k + 1)) := by rw [er, List.length_append, List.length_take, List.length_drop, Nat.min_eq_left (by omega)]
      rw [← List.flatMap_append, ← er, ← hlen] at hown
      have b03 := b0.trans (b3.mono b0.size)
      obtain ⟨A3, c3, rfl, hp⟩ := hi.store (L' := remF L id) (rem_good gd id) b0.size b03 hown
      exact ⟨hp, keepc b03 hi.c0, free_of ((b03.block RB (hi.lt _ hi.rB)).trans hi.hm) 0, _, _, _, rfl⟩)
    have HSL := Lib.hid hi.sl
    have HC0 := Lib.hid (fun (W : World) (b : Below w.heap.size w W) => keepc b hi.c0)
    obtain ⟨bb, off, hA, _, _⟩ := hi.sl.row (by omega)
    subst hA
    clear h0 gd hi hb e1 er hk hid
    generalize hnn : L.length = n at *
    have HN := Lib.hid hnn
    clear hnn
    generalize RPost w R RB (remF L id) = PP at *
    have kn : ¬ (k : Int) < 0 := by omega
    go_enter Try.func20, Try.ntmps20
    go_upto_region 4 with (go_at_call 34; refine cA.mono ?_; rintro e w1 ⟨rfl, b1⟩)
    have hown8 : (w1.alloc (.cells #[] 42)).ownsRow w1.heap.size 42 20 (.slice (some ⟨w1.heap.size, 0, none⟩) 0 0) 0 ([] : List Value) := World.ownsRow_made w1 #[] 0 (Nat.le_refl _) (by unfold maxLen; omega) rfl
    have hz := (Below.refl w1.heap.size w1).alloc (Nat.le_refl _) (.cells #[] 42)
    have bz := b1.trans (hz.mono b1.size)
    have hbw8 : w1.heap.size ≤ (w1.alloc (.cells #[] 42)).heap.size := hz.size
    have hs8 : Sl (w1.alloc (.cells #[] 42)) 20 fcells (some ⟨bb, off, none⟩) k (L.take k) := (HSL.out.cut (m := k) (by omega)).keep bz
    have hc8 := HC0.out _ bz
    have hb81 : (0 + k) * 160 ≤ 140737488355328 := by omega
    have h863 : 0 + k ≤ maxLen := by unfold maxLen; omega
    have b11 : (k : Int) + 1 ≤ (n : Int) := by omega
    have b2 : k + 1 ≤ n := by omega
    have b4 : k ≤ c := by omega
    have b5 : (k : Int) ≤ (c : Int) := by omega
    have n2 : ((k : Int) + 1).toNat = k + 1 := by omega
    have rb0 := run_rbs0 w1
    go_upto_region 5 with fail
    obtain ⟨w8, hw8⟩ : ∃ x, x = w1.alloc (.cells #[] 42) := ⟨_, rfl⟩
    rw [← hw8] at hown8 hz hbw8 hs8 hc8 bz ⊢
    obtain ⟨G, hG⟩ : ∃ G, G = w1.heap.size := ⟨_, rfl⟩
    rw [← hG] at hown8 hbw8 ⊢
    have HG := Lib.hid hG
    clear hw8 hG rb0
    have hs8 := Lib.hid hs8
    go_wp2_with (at_builtin; go_loud (refine app_sl rfl _ _ 26 rfl G 42 iu (.agg #[.int .i64 0, .int .i64 0, .int .u64 0, .int .u64 0, .int .u64 0, .int .u64 0, .int .i64 0, .int .i64 0, .int .i64 0, .int .u64 0, .int .u64 0, .int .u64 0, .int .u64 0, .int .i64 0, .int .i64 0, .int .i64 0, .int .i64 0, .int .i64 0, .int .i64 0, .int .i64 0]) 20 160 Try.underlying26 hiu hu0 hu1 hu2 rfl (by decide) _ 0 [] rfl hown8 fcells f20_len (some ⟨bb, off, none⟩) k c (L.take k) hs8.out (fun h => by cases h) rfl f20_one h863 hb81 hbw8 ?_))
    intro v9 w9 hown9 hg9
    have hz9 : Below w1.heap.size w1 w9 := hz.grown hg9 (by have := HG.out; omega) (fun q hq => by have := own_gt hown8 q hq; have := HG.out; omega)
    have bz9 := b1.trans (hz9.mono b1.size)
    have hbw9 : G ≤ w9.heap.size := Nat.le_trans hbw8 hg9.size
    replace hown9 : w9.ownsRow G 42 20 v9 k ((L.take k).flatMap fcells) := by simpa using hown9
    have hc9 := HC0.out _ bz9
    obtain ⟨A9, c9, hv9⟩ := own_slice hown9
    subst hv9
    have DONE : ∀ v3 w3, w3.ownsRow G 42 20 v3 (k + (n - (k + 1))) ((L.take k).flatMap fcells ++ (L.drop (k + 1)).flatMap fcells) → w9.grownBy w3 (Value.slice A9 k c9).ownBlock → PP (w3.setCell ⟨RB, 0, none⟩ v3) ∧ w3.cell? ⟨RB, 0, none⟩ = some (.slice (some ⟨bb, off, none⟩) n c) ∧ w3.frozen? ⟨RB, 0, none⟩ = false ∧ ∃ A3 n3 c3, v3 = .slice A3 n3 c3 := fun v3 w3 h3 g3 =>
      YES.out w1 w3 v3 b1 (hz9.grown g3 (by have := HG.out; omega) (fun q hq => by have := own_gt hown9 q hq; have := HG.out; omega)) (by rw [← HG.out]; exact h3)
    have HD := Lib.hid DONE
    have HS9 := Lib.hid ((HSL.out.keep bz9).dropG (i := k + 1) (by omega))
    clear DONE YES hown8 hg9 hs8 hc8 h863 hb81 hbw8 hz hz9 bz bz9 HC0
    have h963 : k + (n - (k + 1)) ≤ maxLen := by unfold maxLen; omega
    have hb91 : (k + (n - (k + 1))) * 160 ≤ 140737488355328 := by omega
    by_cases hce : c = k + 1
    · have hn1 : n = k + 1 := by omega
      have hs9 := Lib.hid (Sl.none (w := w9) (enc := fcells) (k := 20) (some ⟨bb, off, none⟩))
      have hdr : (L.drop (k + 1)) = [] := List.drop_eq_nil_of_le (by have := HN.out; omega)
      rw [hdr, hn1] at HD
      simp only [Nat.sub_self, Nat.add_zero, List.flatMap_nil, List.append_nil] at HD
      replace h963 : k + 0 ≤ maxLen := by unfold maxLen; omega
      replace hb91 : (k + 0) * 160 ≤ 140737488355328 := by omega
      subst hce
      subst hn1
      go_wp2_with (at_builtin; go_loud (refine app_sl rfl _ _ 26 rfl G 42 iu (.agg #[.int .i64 0, .int .i64 0, .int .u64 0, .int .u64 0, .int .u64 0, .int .u64 0, .int .i64 0, .int .i64 0, .int .i64 0, .int .u64 0, .int .u64 0, .int .u64 0, .int .u64 0, .int .i64 0, .int .i64 0, .int .i64 0, .int .i64 0, .int .i64 0, .int .i64 0, .int .i64 0]) 20 160 Try.underlying26 hiu hu0 hu1 hu2 rfl (by decide) _ k ((L.take k).flatMap fcells) rfl hown9 fcells f20_len (some ⟨bb, off, none⟩) 0 0 [] hs9.out (fun h => by cases h) rfl f20_one h963 hb91 hbw9 ?_))
      intro v3 w3 h3 g3
      obtain ⟨k1, k2, k3, A3, n3, c3, rfl⟩ := HD.out v3 w3 (by simpa using h3) g3
      have HK := Lib.hid k1
      clear k1 h3 g3 HD
      go_wp2
      go_ret
      exact ⟨rfl, HK.out⟩
    · have hs9 := Lib.hid (HS9.out)
      have hce' : ¬ c = k + 1 := hce
      go_wp2_with (at_builtin; go_loud (refine app_sl rfl _ _ 26 rfl G 42 iu (.agg #[.int .i64 0, .int .i64 0, .int .u64 0, .int .u64 0, .int .u64 0, .int .u64 0, .int .i64 0, .int .i64 0, .int .i64 0, .int .u64 0, .int .u64 0, .int .u64 0, .int .u64 0, .int .i64 0, .int .i64 0, .int .i64 0, .int .i64 0, .int .i64 0, .int .i64 0, .int .i64 0]) 20 160 Try.underlying26 hiu hu0 hu1 hu2 rfl (by decide) _ k ((L.take k).flatMap fcells) rfl hown9 fcells f20_len (some ⟨bb, off + (k + 1) * 20, none⟩) (n - (k + 1)) (c - (k + 1)) (L.drop (k + 1)) hs9.out (fun h => by cases h) rfl f20_one h963 hb91 hbw9 ?_))
      intro v3 w3 h3 g3
      obtain ⟨k1, k2, k3, A3, n3, c3, rfl⟩ := HD.out v3 w3 h3 g3
      have HK := Lib.hid k1
      clear k1 h3 g3 HD
      go_wp2
      go_ret
      exact ⟨rfl, HK.out⟩
end
end Go.Proofs.Ytdgodndaaenafaa
