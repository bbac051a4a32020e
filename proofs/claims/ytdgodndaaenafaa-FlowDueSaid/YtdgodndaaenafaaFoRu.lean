/- The document's Due, walked; by-name template. -/
import Derived.Test.YtdgodndaaenafaaFoRq
import Derived.Maps.AppendAt
namespace Go.Proofs.Ytdgodndaaenafaa
open Go.RowKit Go.Lib Go.Maps
set_option linter.unusedVariables false
set_option linter.unusedSimpArgs false

theorem dueS_take {now : Int} {L : List Fl} {i : Nat} {x : Fl} (hx : L[i]? = some x) : (L.take (i + 1)).foldl (dueS now) none = dueS now ((L.take i).foldl (dueS now) none) x := by
  rw [List.take_add_one, hx, List.foldl_append]
  rfl
theorem dueS_not {now : Int} {x : Fl} (h : ¬ x.en ≤ now) (b : Option Fl) : dueS now b x = b := by
  cases b with
  | none => simp only [dueS]; rw [if_neg h]
  | some y => simp only [dueS]; rw [if_neg (fun q => h q.1)]
theorem dueS_fst {now : Int} {x : Fl} (h : x.en ≤ now) : dueS now none x = some x := by simp only [dueS]; rw [if_pos h]
theorem dueS_lt {now : Int} {x y : Fl} (h : x.en ≤ now) (h2 : x.en < y.en) : dueS now (some y) x = some x := by simp only [dueS]; rw [if_pos ⟨h, h2⟩]
theorem dueS_ge {now : Int} {x y : Fl} (h2 : ¬ x.en < y.en) : dueS now (some y) x = some y := by simp only [dueS]; rw [if_neg (fun q => h2 q.2)]

section
variable {w : World} {R : Nat → Prop} {RB : Nat} {L : List Fl}
def RDuePost (w : World) (R : Nat → Prop) (RB : Nat) (L : List Fl) (now : Int) (e : Ending) (w' : World) : Prop :=
  ∃ v, e = .returned v ∧ w'.ownsRow w.heap.size 3 1 v (dueL L now).length ((dueL L now).map vI) ∧ RPost w R RB (lefF L now) w'

/-- What holds at the head of the outer loop. -/
def DueRel (w : World) (R : Nat → Prop) (RB : Nat) (L : List Fl) (now : Int) (v : Value) (wr : World) : Prop :=
  ∃ l M, wr.ownsRow w.heap.size 3 1 v l.length (l.map vI) ∧ l.length + M.length ≤ 48 ∧ dueL L now = l ++ dueL M now ∧ lefF M now = lefF L now ∧ OffS (fun k => k = RB) w wr ∧
    ∃ R', RAt wr R' RB M ∧ (∀ q, v.ownBlock = some q → ¬ R' q) ∧ ∀ k, R' k → k = RB ∨ R k ∨ w.heap.size ≤ k

theorem DueRel.none {now : Int} {v : Value} {wr wz : World} {M : List Fl} {l : List Int} {R' : Nat → Prop} (hown : wr.ownsRow w.heap.size 3 1 v l.length (l.map vI)) (hd : dueL L now = l ++ dueL M now) (hl : lefF M now = lefF L now) (ho : OffS (fun k => k = RB) w wr)
    (hr : RAt wr R' RB M) (hk : ∀ k, R' k → k = RB ∨ R k ∨ w.heap.size ≤ k) (bz : Below wr.heap.size wr wz) (hn : dueM M now = none) : RDuePost w R RB L now (.returned v) wz := by
  obtain ⟨e1, e2⟩ := due_none hr.1 hn
  rw [e1, List.append_nil] at hd
  refine ⟨v, rfl, ?_, R', ?_, ?_, hk⟩
  · rw [hd]; exact own_below hown bz
  · rw [← hl, e2]; exact hr.below bz
  · exact ho.trans (offS_below bz)

theorem DueRel.some {now : Int} {v v3 : Value} {wr wz w3 : World} {M : List Fl} {l : List Int} {R' : Nat → Prop} {x : Fl} {V : Value}
    (hown : wr.ownsRow w.heap.size 3 1 v l.length (l.map vI)) (h48 : l.length + M.length ≤ 48) (hd : dueL L now = l ++ dueL M now) (hl : lefF M now = lefF L now) (ho : OffS (fun k => k = RB) w wr)
    (hr : RAt wr R' RB M) (hk : ∀ k, R' k → k = RB ∨ R k ∨ w.heap.size ≤ k) (hv : ∀ q, v.ownBlock = some q → ¬ R' q) (hB : RB < w.heap.size) (bz : Below wr.heap.size wr wz) (hm : dueM M now = some x)
    (h3 : w3.ownsRow w.heap.size 3 1 v3 (l.length + 1) (l.map vI ++ [.int .i64 x.id])) (g3 : (wz.alloc (.cells #[V] 3)).grownBy w3 v.ownBlock) (hob : v3.ownBlock = v.ownBlock ∨ v3.ownBlock = some (wz.alloc (.cells #[V] 3)).heap.size) :
    RAt w3 R' RB M ∧ ∀ w4, RPost w3 R' RB (remF M x.id) w4 → DueRel w R RB L now v3 w4 ∧ sliceLen v3 = l.length + 1 ∧ l.length < 48 := by
  obtain ⟨hx, e1, e2⟩ := due_some hr.1 hm
  have ba : Below wr.heap.size wr (wz.alloc (.cells #[V] 3)) := Below.al bz _
  have o3 : OffS (fun i => v.ownBlock = .some i) wr w3 := (offS_below ba).trans ⟨g3.os, g3.tape, g3.output, g3.size, fun i hi hn => g3.block i hi (fun e => hn e.symm)⟩
  have hw := ho.size
  have r3 : RAt w3 R' RB M := hr.off o3 (fun k h1 h2 => hv k h2 h1)
  refine ⟨r3, fun w4 hp => ?_⟩
  obtain ⟨R4, q1, q2, q3⟩ := hp
  have hlt := hr.lt
  have h3s := o3.size
  have hql : ∀ q, v3.ownBlock = .some q → w.heap.size ≤ q := own_gt h3
  have hqb : ∀ q, v3.ownBlock = .some q → q < w3.heap.size := fun q hq => (h3.lt q hq).2
  have hM1 : M.length ≠ 0 := fun e => by rw [List.length_eq_zero_iff.1 e] at hx; simp at hx
  have hrl : (remF M x.id).length < M.length := by
    have := (remF_perm hr.1 hx).length_eq
    rw [List.length_cons] at this
    omega
  refine ⟨⟨l ++ [x.id], remF M x.id, ?_, ?_, ?_, ?_, ?_, R4, q1, ?_, ?_⟩, ?_, by omega⟩
  · have := own_off h3 q2 (fun i hi => by rw [hi]; exact hB)
    simpa [vI] using this
  · simp; omega
  · rw [hd, e1]; simp
  · rw [e2, hl]
  · exact (ho.andThen o3 (S := fun k => k = RB) (fun i hi hn => by have := own_gt hown i hn; omega)).trans q2
  · intro q hq hR
    rcases q3 q hR with e | e | e
    · have := hql q hq; omega
    · rcases hob with ob | ob
      · rw [ob] at hq; exact hv q hq e
      · rw [ob] at hq
        have := hlt q e
        have := ba.size
        cases hq
        omega
    · have := hqb q hq; omega
  · intro k hR
    rcases q3 k hR with e | e | e
    · exact .inl e
    · exact hk k e
    · exact .inr (.inr (by omega))
  · obtain ⟨A3, c3, rfl⟩ := own_slice h3
    rfl

set_option maxRecDepth 100000 in
set_option maxHeartbeats 4000000 in
theorem rdue_any (h : RAt w R RB L) {now : Int} : Calls Try.prog 14 #[.pointer (some ⟨RB, 0, none⟩), .int .i64 now] w (RDuePost w R RB L now) := by
  have hlt := h.lt
  obtain ⟨i0, hi, hz0, hz1, hz2⟩ := info_parts infoI
  have hB : RB < w.heap.size := by obtain ⟨_, A, c, hi⟩ := h; exact hi.lt _ hi.rB
  have H0 : Hid (DueRel w R RB L now (.slice (some ⟨w.heap.size, 0, none⟩) 0 0) (w.alloc (.cells #[] 3))) := Lib.hid (by
    have b0 := (Below.refl w.heap.size w).alloc (Nat.le_refl _) (.cells #[] 3)
    refine ⟨[], L, World.ownsRow_made w #[] 0 (Nat.le_refl _) (by unfold maxLen; omega) rfl, by simpa using h.1.ln, by simp, rfl, offS_below b0, R, h.below b0, fun q hq hR => ?_, fun k hk => .inr (.inl hk)⟩
    have := hlt q hR
    simp [Value.ownBlock] at hq
    omega)
  obtain ⟨MM, hMM⟩ : ∃ M, M = RDuePost w R RB L now := ⟨_, rfl⟩
  rw [← hMM]
  have HM := Lib.hid hMM
  have HBl := Lib.hid hB
  clear hMM h hlt hB
  go_enter Try.func14, Try.ntmps14
  go_wp2
  go_loopw [5] (fun v wr => DueRel w R RB L now v wr) (fun v _ => 49 - sliceLen v)
  case atStart => exact H0.out
  case round =>
    obtain ⟨wk, hwk⟩ : ∃ x, x = wr := ⟨_, rfl⟩
    subst hwk
    obtain ⟨l, M, hown, h48, hd, hl, ho, R', hr, hv, hk⟩ := hrel
    clear H0
    obtain ⟨gd, A, c, hin⟩ := id hr
    have hln := gd.ln
    obtain ⟨n, hn⟩ : ∃ n, n = M.length := ⟨_, rfl⟩
    have HC0 : Hid (∀ W1, Below wk.heap.size wk W1 → W1.cell? ⟨RB, 0, none⟩ = some (.slice A n c)) := Lib.hid (fun W1 b => by rw [hn]; exact (hin.below b).c0)
    have HROW : Hid (∀ W1, Below wk.heap.size wk W1 → ∀ (j : Nat) (y : Fl), M[j]? = some y → ∃ bb off, A = some ⟨bb, off, none⟩ ∧ (∀ t v, (FA y).toList[t]? = some v → W1.cell? ((⟨bb, off + j * 20, none⟩ : Addr).add t) = some v)) := Lib.hid (fun W1 b j y hy => by
      have hj : j < M.length := (List.getElem?_eq_some_iff.1 hy).1
      obtain ⟨bb, off, hA, _, hrow⟩ := (hin.below b).sl.row (by omega)
      exact ⟨bb, off, hA, f_row hrow hy⟩)
    have HNONE : Hid (∀ wz, Below wk.heap.size wk wz → dueM M now = none → MM (.returned u5) wz) := Lib.hid (fun wz b e => by rw [HM.out]; exact DueRel.none hown hd hl ho hr hk b e)
    have HSOME : Hid (∀ (x : Fl) (wz w3 : World) (V v3 : Value), dueM M now = some x → Below wk.heap.size wk wz → w3.ownsRow w.heap.size 3 1 v3 (l.length + 1) (l.map vI ++ [.int .i64 x.id]) → (wz.alloc (.cells #[V] 3)).grownBy w3 u5.ownBlock → (v3.ownBlock = u5.ownBlock ∨ v3.ownBlock = some (wz.alloc (.cells #[V] 3)).heap.size) →
        RAt w3 R' RB M ∧ ∀ w4, RPost w3 R' RB (remF M x.id) w4 → DueRel w R RB L now v3 w4 ∧ sliceLen v3 = l.length + 1 ∧ l.length < 48) := Lib.hid (fun x wz w3 V v3 e b h3 g3 ob => DueRel.some hown h48 hd hl ho hr hk hv HBl.out b e h3 g3 ob)
    have HOWN : Hid (∀ W1, Below wk.heap.size wk W1 → W1.ownsRow w.heap.size 3 1 u5 l.length (l.map vI)) := Lib.hid (fun W1 b => own_below hown b)
    obtain ⟨A0, c00, hu5⟩ := own_slice hown
    subst hu5
    have hn48 : n ≤ 48 := by omega
    have hl48 : l.length ≤ 48 := by omega
    have hw0 : w.heap.size ≤ wk.heap.size := ho.size
    have HN := Lib.hid hn
    clear hown h48 hd hl ho hr hv hk hin hln gd hn
    go_upto_region 4 with fail
    go_loopw [6, 7] (fun v6 v7 wr => ∃ i : Nat, v7 = .int .i64 i ∧ i ≤ n ∧ (∃ b, Hid (b = (M.take i).foldl (dueS now) none) ∧ ((b = none ∧ v6 = .int .i64 (-1)) ∨ ∃ (j : Nat) (y : Fl), b = some y ∧ M[j]? = some y ∧ j < n ∧ v6 = .int .i64 (j : Int))) ∧ Below wk.heap.size wk wr) (fun _ v7 _ => n - (intOf v7).toNat)
    case atStart => exact ⟨0, rfl, by omega, ⟨none, Lib.hid rfl, .inl ⟨rfl, rfl⟩⟩, Below.refl _ _⟩
    case round =>
      obtain ⟨i, rfl, hi', ⟨b, HB, hb6⟩, bw⟩ := hrel
      have c0 := HC0.out _ bw
      by_cases hlt : i < n
      · have hltI : (i : Int) < (n : Int) := by omega
        obtain ⟨x, hx⟩ : ∃ x, M[i]? = some x := ⟨_, List.getElem?_eq_getElem (by rw [← HN.out]; exact hlt)⟩
        obtain ⟨bb, off, rfl, e0⟩ := HROW.out _ bw i x hx
        have xe := e0 19 (.int .i64 x.en) rfl
        rw [addr_add] at xe
        have HST : Hid ((M.take (i + 1)).foldl (dueS now) none = dueS now b x) := Lib.hid (by rw [dueS_take hx, ← HB.out])
        have HSU : Hid (∀ (v : Value) (wy : World), Below wk.heap.size wk wy → (dueS now b x = none ∧ v = .int .i64 (-1) ∨ ∃ (j : Nat) (y : Fl), dueS now b x = some y ∧ M[j]? = some y ∧ j < n ∧ v = .int .i64 (j : Int)) → ∃ i' : Nat, Value.int .i64 ((i : Int) + 1) = .int .i64 i' ∧ i' ≤ n ∧ (∃ b, Hid (b = (M.take i').foldl (dueS now) none) ∧ ((b = none ∧ v = .int .i64 (-1)) ∨ ∃ (j : Nat) (y : Fl), b = some y ∧ M[j]? = some y ∧ j < n ∧ v = .int .i64 (j : Int))) ∧ Below wk.heap.size wk wy) :=
          Lib.hid (fun v wy hy hv => ⟨i + 1, by simp, by omega, ⟨_, HST.out.symm ▸ Lib.hid rfl, hv⟩, hy⟩)
        have HBW := Lib.hid bw
        have HROWz := Lib.hid (HROW.out _ bw)
        have HHX := Lib.hid hx
        have HLT := Lib.hid hlt
        clear HB HST bw hx e0
        by_cases hle : x.en ≤ now
        · rcases hb6 with ⟨rfl, rfl⟩ | ⟨j, y, rfl, hy, hj, rfl⟩
          · have HV : Hid (dueS now none x = none ∧ Value.int .i64 (i : Int) = .int .i64 (-1) ∨ ∃ (j : Nat) (y : Fl), dueS now none x = some y ∧ M[j]? = some y ∧ j < n ∧ Value.int .i64 (i : Int) = .int .i64 (j : Int)) := Lib.hid (.inr ⟨i, x, dueS_fst hle, HHX.out, HLT.out, rfl⟩)
            generalize x.en = xn at *
            clear HROWz HHX
            go_upto_region 6 with fail
            go_quiet (fail)
            go_wp2
            exact ⟨HSU.out _ _ (bel_dn HBW.out _) HV.out, by simp [intOf]; omega⟩
          · obtain ⟨bb', off', hee, ey⟩ := HROWz.out j y hy
            cases hee
            have ye := ey 19 (.int .i64 y.en) rfl
            rw [addr_add] at ye
            have hj0 : ¬ (j : Int) < 0 := by omega
            have hjI : (j : Int) < (n : Int) := by omega
            by_cases hlt2 : x.en < y.en
            · have HV : Hid (dueS now (some y) x = none ∧ Value.int .i64 (i : Int) = .int .i64 (-1) ∨ ∃ (j' : Nat) (y' : Fl), dueS now (some y) x = some y' ∧ M[j']? = some y' ∧ j' < n ∧ Value.int .i64 (i : Int) = .int .i64 (j' : Int)) := Lib.hid (.inr ⟨i, x, dueS_lt hle hlt2, HHX.out, HLT.out, rfl⟩)
              clear HROWz HHX ey hy
              generalize x.en = xn at *
              generalize y.en = yn at *
              go_upto_region 6 with fail
              go_quiet (fail)
              go_wp2
              exact ⟨HSU.out _ _ (bel_dn HBW.out _) HV.out, by simp [intOf]; omega⟩
            · have HV : Hid (dueS now (some y) x = none ∧ Value.int .i64 (j : Int) = .int .i64 (-1) ∨ ∃ (j' : Nat) (y' : Fl), dueS now (some y) x = some y' ∧ M[j']? = some y' ∧ j' < n ∧ Value.int .i64 (j : Int) = .int .i64 (j' : Int)) := Lib.hid (.inr ⟨j, y, dueS_ge hlt2, hy, hj, rfl⟩)
              clear HROWz HHX ey hy
              generalize x.en = xn at *
              generalize y.en = yn at *
              go_upto_region 6 with fail
              go_quiet (fail)
              go_wp2
              exact ⟨HSU.out _ _ (bel_dn HBW.out _) HV.out, by simp [intOf]; omega⟩
        · have HV : Hid (∀ v : Value, (b = none ∧ v = .int .i64 (-1) ∨ ∃ (j' : Nat) (y' : Fl), b = some y' ∧ M[j']? = some y' ∧ j' < n ∧ v = .int .i64 (j' : Int)) → (dueS now b x = none ∧ v = .int .i64 (-1) ∨ ∃ (j' : Nat) (y' : Fl), dueS now b x = some y' ∧ M[j']? = some y' ∧ j' < n ∧ v = .int .i64 (j' : Int))) := Lib.hid (fun v q => by rw [dueS_not hle]; exact q)
          have HV2 := Lib.hid (HV.out _ hb6)
          clear HV hb6 HROWz HHX
          generalize x.en = xn at *
          go_upto_region 6 with fail
          go_quiet (fail)
          go_wp2
          exact ⟨HSU.out _ _ (bel_dn HBW.out _) HV2.out, by simp [intOf]; omega⟩
      · obtain rfl : i = n := by omega
        have hbw : b = dueM M now := by rw [HB.out, HN.out, List.take_of_length_le (Nat.le_refl _)]; rfl
        subst hbw
        rcases hb6 with ⟨hb0, rfl⟩ | ⟨j, y, hb0, hy, hj, rfl⟩
        · have HG := Lib.hid (HNONE.out _ bw hb0)
          clear HNONE HSOME HOWN HROW HB hb0 bw
          go_wp2
          first | exact HG.out | (go_ret; exact HG.out)
        · obtain ⟨bb, off, rfl, ey⟩ := HROW.out _ bw j y hy
          have yi := ey 0 (.int .i64 y.id) rfl
          rw [addr_add, Nat.add_zero] at yi
          have hj0 : ¬ (j : Int) < 0 := by omega
          have hjI : (j : Int) < (i : Int) := by omega
          have hown1 := HOWN.out _ bw
          have hbx : w.heap.size ≤ (wr.alloc (.cells #[.int .i64 y.id] 3)).heap.size := by have := bw.size; rw [al_size]; omega
          have HS : Hid (∀ (w3 : World) (V v3 : Value), w3.ownsRow w.heap.size 3 1 v3 (l.length + 1) (l.map vI ++ [.int .i64 y.id]) → (wr.alloc (.cells #[V] 3)).grownBy w3 (Value.slice A0 l.length c00).ownBlock → (v3.ownBlock = (Value.slice A0 l.length c00).ownBlock ∨ v3.ownBlock = some (wr.alloc (.cells #[V] 3)).heap.size) →
            (∃ (bb3 off3 c3 : Nat), w3.cell? ⟨RB, 0, none⟩ = some (.slice (some ⟨bb3, off3, none⟩) i c3) ∧ w3.cell? ⟨bb3, off3 + j * 20, none⟩ = some (.int .i64 y.id)) ∧ RAt w3 R' RB M ∧ ∀ w4, RPost w3 R' RB (remF M y.id) w4 → DueRel w R RB L now v3 w4 ∧ 49 - sliceLen v3 < 49 - l.length) := Lib.hid (fun w3 V v3 h3 g3 ob => by
            obtain ⟨r3, hx⟩ := HSOME.out y _ w3 V v3 hb0 bw h3 g3 ob
            refine ⟨?_, r3, fun w4 hp => ?_⟩
            · obtain ⟨_, A3, c3, hi3⟩ := r3
              have hjl : j < M.length := (List.getElem?_eq_some_iff.1 hy).1
              obtain ⟨bb3, off3, rfl, _, hrow3⟩ := hi3.sl.row (by omega)
              have q := f_row hrow3 hy 0 (.int .i64 y.id) rfl
              rw [addr_add, Nat.add_zero] at q
              have q0 := hi3.c0
              rw [← HN.out] at q0
              exact ⟨bb3, off3, c3, q0, q⟩
            · obtain ⟨k1, k2, k3⟩ := hx w4 hp
              exact ⟨k1, by rw [k2]; omega⟩)
          clear HNONE HSOME HOWN HROW HB hb0 bw ey hy
          generalize l.map vI = XS at *
          generalize hyi : y.id = gid at *
          clear hyi
          go_upto_region 11 with (at_builtin; refine wpList_append_own_at _ rfl _ _ 45 rfl w.heap.size 3 i0 (.int .i64 0) 1 8 Try.underlying45 hi hz0 hz1 hz2 rfl (by decide) _ _ _ rfl (hown1.alloc _) ⟨wr.heap.size, 0, none⟩ 1 1 [Value.int .i64 gid] rfl rfl (by intro j u' hj; match j, hj with | 0, hj => simp at hj; subst hj; simp [Addr.add]) (by intro u' hu'; simp at hu'; subst hu'; rfl) (by unfold maxLen; omega) (by omega) hbx ?_; intro v3 w3 h3 g3 _ ob)
          obtain ⟨⟨bb3, off3, c3, q0, q1⟩, r3, hnx⟩ := HS.out w3 _ v3 h3 g3 ob
          have cD := rdrop_any r3 (id := gid)
          have HNX := Lib.hid hnx
          clear HS h3 g3 ob hown1 yi c0 r3 hnx hbx HC0
          go_wp2_with (first
            | (go_at_call 20; refine cD.mono ?_; rintro e w4 ⟨rfl, hp⟩)
            | fail)
          exact HNX.out _ hp
end
end Go.Proofs.Ytdgodndaaenafaa
