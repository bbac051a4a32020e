/- The program's find, from a node down; by-name template. -/
import Derived.Test.YtomennaekjklbaaKLoad
import Derived.Test.YtomennaekjklbaaKClo
namespace Go.Proofs.Ytomennaekjklbaa
open Go.RowKit Go.Lib Go.Sort
set_option linter.unusedVariables false
set_option linter.unusedSimpArgs false

/-- A leaf's answer: the rule, how many were compared. -/
def leafF (l : List EN) (p : Nat → P2) : Int × Nat := match l.findIdx? (fun x => hpB x.bx p) with
  | none => (-1, l.length)
  | some k => ((l.getD k default).ru, k + 1)
def findP (p : Nat → P2) : TN → Int × Nat × Nat
  | .leaf l => ((leafF l p).1, 1, (leafF l p).2)
  | .inner _ _ bx lo hi => if hpB bx p then ((findP p lo).1, (findP p lo).2.1 + 1, (findP p lo).2.2) else ((findP p hi).1, (findP p hi).2.1 + 1, (findP p hi).2.2)
theorem leaf_miss {l : List EN} {p : Nat → P2} (h : ∀ (j : Nat) (x : EN), l[j]? = some x → hpB x.bx p = false) : leafF l p = (-1, l.length) := by
  unfold leafF
  have : l.findIdx? (fun x => hpB x.bx p) = none := by
    rw [List.findIdx?_eq_none_iff]
    intro x hx
    obtain ⟨j, hj, hjx⟩ := List.getElem_of_mem hx
    exact h j x (by rw [List.getElem?_eq_getElem hj, hjx])
  rw [this]
theorem leaf_hit {l : List EN} {p : Nat → P2} {k : Nat} {x : EN} (h0 : l[k]? = some x) (h1 : hpB x.bx p = true) (h2 : ∀ (j : Nat) (y : EN), j < k → l[j]? = some y → hpB y.bx p = false) : leafF l p = (x.ru, k + 1) := by
  unfold leafF
  obtain ⟨hk, hkx⟩ := List.getElem?_eq_some_iff.1 h0
  have : l.findIdx? (fun x => hpB x.bx p) = some k := by
    rw [List.findIdx?_eq_some_iff_getElem]
    exact ⟨hk, by rw [hkx]; exact h1, fun j hj => by have := h2 j _ hj (List.getElem?_eq_getElem (by omega)); simpa using this⟩
  rw [this]
  simp only [List.getD_eq_getElem?_getD, h0, Option.getD_some]
def FindPost (w : World) (r : Int × Nat × Nat) (e : Ending) (w' : World) : Prop := e = .returned (.tuple #[.int .i64 r.1, .int .i64 (r.2.1 : Nat), .int .i64 (r.2.2 : Nat)]) ∧ Below w.heap.size w w'

set_option maxRecDepth 100000 in
set_option maxHeartbeats 4000000 in
theorem leaf_find (p : Nat → P2) (A : Option Addr) (n c : Nat) (l : List EN) (hn : n ≤ 4096) (w : World) (hS : Sl w 25 enc25 A n l) : Calls Try.prog 105 #[.agg #[.slice A n c], .agg (ptc p)] w (FindPost w ((leafF l p).1, 1, (leafF l p).2)) := by
  obtain ⟨M, hM⟩ : ∃ M, M = FindPost w ((leafF l p).1, 1, (leafF l p).2) := ⟨_, rfl⟩
  rw [← hM]
  have HM := Lib.hid hM; clear hM
  have HL := Lib.hid hS.len
  have cl := fun (W : World) (B : Nat) (x : EN) => find1_any p B x W
  obtain ⟨C, hC⟩ : ∃ C, C = ptc p := ⟨_, rfl⟩
  simp only [← hC] at cl
  rw [← hC]
  clear hC
  have b0 := Below.al (Below.al (Below.refl w.heap.size w) (.cells #[.slice A n c] 99)) (.cells C 68)
  obtain ⟨hL, hP, _⟩ := bx2 w (.cells #[.slice A n c] 99) (.cells C 68)
  obtain ⟨w0, hw0⟩ : ∃ w0, w0 = (w.alloc (.cells #[.slice A n c] 99)).alloc (.cells C 68) := ⟨_, rfl⟩
  rw [← hw0] at b0 hL hP
  have Hw0 := Lib.hid hw0; clear hw0
  have hS0 := hS.keep b0
  have li := li_any (fun x : EN => hpB x.bx p) 107 #[.pointer (some ⟨w.heap.size + 1, 0, none⟩)] enfind1 A n c l w0 (fun W x _ hb => cl W _ x (blkB hb hP)) hS0
  have hpl := pl_cases (fun x : EN => hpB x.bx p) l
  generalize pl (fun x : EN => hpB x.bx p) l = PLC at *
  have l0 : w0.cell? ⟨w.heap.size, 0, none⟩ = some (.slice A n c) := by simp [World.cell?, hL]
  clear cl hS
  go_enter Try.func105, Try.ntmps105
  go_upto_region 1 with fail
  rw [← Hw0.out]
  clear Hw0
  go_upto_region 2 with (go_at_call 49; go_loud (with_reducible refine li.mono ?_); rintro e wz ⟨rfl, hb⟩; replace hL := blkB hb hL; replace hS0 := hS0.keep hb; replace b0 := bel_via b0 hb; clear hb li l0)
  have l0 : wz.cell? ⟨w.heap.size, 0, none⟩ = some (.slice A n c) := by simp [World.cell?, hL]
  rcases hpl with ⟨rfl, hmiss⟩ | ⟨k, x, hk0, rfl, hk1, hk2⟩
  · have hlf := leaf_miss hmiss
    go_wp2_with fail
    have k_l0 := cell_regrown l0
    clear l0
    refine wp_region_quiet_below (by kernel_rfl) (by kernel_rfl) ?_
    repeat (first | go_big_quiet_skip | quiet_step (fail))
    refine wpQuiet_nil ?_
    intro _ hw'
    obtain ⟨⟨dq, osq⟩, hw''⟩ := hw'
    subst hw''
    have hbq := below_regrown wz dq osq
    have FIN : M (.returned (.tuple #[.int .i64 (-1), .int .i64 1, .int .i64 n])) (grow (redrawn wz dq) osq) := by
      rw [HM.out, hlf, HL.out]; exact ⟨rfl, bel_via b0 hbq⟩
    have FIN := Lib.hid FIN
    go_wp2_with fail
    first | exact FIN.out | (simp [bodyPost, results, Try.results105, go_sem]; exact FIN.out)
  · have hlf := leaf_hit hk0 hk1 hk2
    have hkl := (List.getElem?_eq_some_iff.1 hk0).1
    have hkn : k < n := by rw [← HL.out]; exact hkl
    obtain ⟨b', off, hA1, _, hrow⟩ := hS0.row (by omega)
    have hru := hrow k x hk0 24 _ rfl
    subst hA1
    have hlti : (k : Int) < (n : Int) := by omega
    have hdn : decide (k < n) = true := by simp [hkn]
    have FIN : M (.returned (.tuple #[.int .i64 x.ru, .int .i64 1, .int .i64 ((k : Int) + 1)])) wz := by
      rw [HM.out, hlf]; exact ⟨by simp, b0⟩
    have FIN := Lib.hid FIN
    clear hlf hk0 hk1 hk2 hrow
    go_wp2_with fail
    first | exact FIN.out | (simp [bodyPost, results, Try.results105, go_sem]; exact FIN.out)
theorem in_blk {w : World} {B : Nat} {bx : Nat → R4} {v1 v2 : Value} (h : w.heap[B]? = some (.cells (inA bx v1 v2) 103 (0, 0))) : ∀ j v, (bxc bx).toList[j]? = some v → w.cell? ((⟨B, 0, none⟩ : Addr).add j) = some v := by
  intro j v hj
  have e : (⟨B, 0, none⟩ : Addr).add j = ⟨B, j, none⟩ := by unfold Addr.add; split <;> simp_all
  have hl : j < (bxc bx).toList.length := (List.getElem?_eq_some_iff.1 hj).1
  have g : (inA bx v1 v2)[j]? = some v := by
    rw [← Array.getElem?_toList]
    show ((bxc bx).toList ++ [v1, v2])[j]? = some v
    rw [List.getElem?_append_left hl]; exact hj
  rw [e]
  simp [World.cell?, h, g]
def TN.leafs : TN → List (List EN)
  | .leaf l => [l]
  | .inner _ _ _ lo hi => lo.leafs ++ hi.leafs
/-- Which function finds from a node. -/
def isLeaf : TN → Bool
  | .leaf _ => true
  | .inner .. => false
def FindsAt (p : Nat → P2) (w : World) (t : TN) (ty : TypeId) (x : Value) : Prop := match t with
  | .leaf _ => ty = 99 ∧ ∀ W, Below w.heap.size w W → Calls Try.prog 105 #[x, .agg (ptc p)] W (FindPost W (findP p t))
  | .inner .. => ty = 103 ∧ ∀ W, Below w.heap.size w W → Calls Try.prog 109 #[x, .agg (ptc p)] W (FindPost W (findP p t))
theorem findP_bd (p : Nat → P2) : ∀ t : TN, (findP p t).2.1 ≤ t.count
  | .leaf l => by simp [findP, TN.count]
  | .inner _ _ bx lo hi => by
    have h1 := findP_bd p lo
    have h2 := findP_bd p hi
    simp only [findP, TN.count]
    split <;> simp only <;> omega
set_option maxRecDepth 100000 in
set_option maxHeartbeats 4000000 in
theorem inner_find (p : Nat → P2) (f : Nat) (at' : P2) (bx : Nat → R4) (lo hi : TN) (hbig : (TN.inner f at' bx lo hi).count ≤ 4096) (t1 t2 : TypeId) (x1 x2 : Value) (w : World) (h1 : FindsAt p w lo t1 x1) (h2 : FindsAt p w hi t2 x2) :
    Calls Try.prog 109 #[.agg (inA bx (.iface t1 x1) (.iface t2 x2)), .agg (ptc p)] w (FindPost w (findP p (.inner f at' bx lo hi))) := by
  obtain ⟨M, hM⟩ : ∃ M, M = FindPost w (findP p (.inner f at' bx lo hi)) := ⟨_, rfl⟩
  rw [← hM]
  have HM := Lib.hid hM; clear hM
  have ch := fun W : World => hasPoint_any bx p W
  obtain ⟨H, hH⟩ : ∃ H, H = hpB bx p := ⟨_, rfl⟩
  simp only [← hH] at ch
  have HH := Lib.hid hH; clear hH
  have c24 : (inA bx (.iface t1 x1) (.iface t2 x2))[24]? = some (.iface t1 x1) := rfl
  have c25 : (inA bx (.iface t1 x1) (.iface t2 x2))[25]? = some (.iface t2 x2) := rfl
  have ib := fun (W : World) (B : Nat) => in_blk (w := W) (B := B) (bx := bx) (v1 := .iface t1 x1) (v2 := .iface t2 x2)
  have iE := inf29 bx
  have iC := inf38 p
  have q1 := findP_bd p lo
  have q2 := findP_bd p hi
  have hbg : lo.count ≤ 4096 ∧ hi.count ≤ 4096 := by simp only [TN.count] at hbig; omega
  have hc1 : (findP p lo).2.1 ≤ 4096 := by omega
  have hc2 : (findP p hi).2.1 ≤ 4096 := by omega
  clear q1 q2 hbg hbig
  have HFIN : ∀ r : Int × Nat × Nat, findP p (.inner f at' bx lo hi) = (r.1, r.2.1 + 1, r.2.2) → ∀ W, Below w.heap.size w W → M (.returned (.tuple #[.int .i64 r.1, .int .i64 ((r.2.1 : Int) + 1), .int .i64 (r.2.2 : Nat)])) W := fun r hr W hW => by
    rw [HM.out, hr]; exact ⟨by simp, hW⟩
  have HP1 : hpB bx p = true → findP p (.inner f at' bx lo hi) = ((findP p lo).1, (findP p lo).2.1 + 1, (findP p lo).2.2) := fun h => by simp only [findP]; rw [if_pos h]
  have HP2 : hpB bx p = false → findP p (.inner f at' bx lo hi) = ((findP p hi).1, (findP p hi).2.1 + 1, (findP p hi).2.2) := fun h => by simp only [findP]; rw [if_neg (by rw [h]; simp)]
  unfold FindsAt FindPost at h1 h2
  generalize inA bx (.iface t1 x1) (.iface t2 x2) = I at *
  obtain ⟨C, hC⟩ : ∃ C, C = ptc p := ⟨_, rfl⟩
  simp only [← hC] at h1 h2 ch
  rw [← hC] at iC ⊢
  clear hC
  generalize bxc bx = E at *
  have IB := Lib.hid ib; clear ib
  have iE := Lib.hid iE
  have iC := Lib.hid iC
  have HFIN := Lib.hid HFIN
  have HP1 := Lib.hid HP1
  have HP2 := Lib.hid HP2
  obtain ⟨hL, hP, b0⟩ := bx2 w (.cells I 103) (.cells C 68)
  have l24 : ((w.alloc (.cells I 103)).alloc (.cells C 68)).cell? ⟨w.heap.size, 24, none⟩ = some (.iface t1 x1) := by simp only [World.cell?, hL]; exact c24
  have l25 : ((w.alloc (.cells I 103)).alloc (.cells C 68)).cell? ⟨w.heap.size, 25, none⟩ = some (.iface t2 x2) := by simp only [World.cell?, hL]; exact c25
  clear c24 c25
  have m1 := fun (w : World) (x : Value) (k : Nat) => hm_find1 k w x
  have m2 := fun (w : World) (x : Value) (k : Nat) => hm_find2 k w x
  go_enter Try.func109, Try.ntmps109
  go_upto_region 1 with fail
  obtain ⟨wz, hwz⟩ : ∃ w0, w0 = (w.alloc (.cells I 103)).alloc (.cells C 68) := ⟨_, rfl⟩
  rw [← hwz] at hL hP b0 l24 l25 ⊢
  clear hwz
  cases H with
  | true =>
    go_upto_region 4 with (first | (refine wpList_load_cells rfl 30 (.tmp 10) rfl ⟨w.heap.size, 0, none⟩ rfl E _ (IB.out _ _ hL) Try.underlying30 rfl iE.out ?_) | (refine wpList_load_row rfl 68 (.tmp 3) rfl (w.heap.size + 1) rfl 68 C (0, 0) _ hP Try.underlying68 rfl iC.out ?_) | (refine wpList_load_node rfl (.tmp 8) rfl ⟨w.heap.size, 25, none⟩ rfl _ l25 ?_) | (refine wpList_load_node rfl (.tmp 14) rfl ⟨w.heap.size, 24, none⟩ rfl _ l24 ?_) | (go_at_call 108; with_reducible refine (ch _).mono ?_; rintro e w2 ⟨rfl, hb⟩; replace hL := blkB hb hL; replace hP := blkB hb hP; replace l24 := keepc hb l24; replace l25 := keepc hb l25; replace b0 := bel_via b0 hb; clear hb; obtain ⟨wz, hwz⟩ : ∃ x, x = w2 := ⟨_, rfl⟩; subst hwz))
    try simp only [Act.put, List.setIfInBounds_toArray, List.set_cons_succ, List.set_cons_zero]
    have HR := HP1.out HH.out.symm
    have HF := Lib.hid (HFIN.out _ HR)
    clear HR HP1 HP2 HFIN h2
    cases lo with
    | leaf l =>
      obtain ⟨rfl, h1⟩ := h1
      have cc := fun (W : World) (h : Below w.heap.size w W) => h1 W h
      clear h1
      generalize findP p (.leaf l) = R at *
      go_wp2_with (first | (refine wpList_load_row rfl 68 (.tmp 3) rfl (w.heap.size + 1) rfl 68 C (0, 0) _ hP Try.underlying68 rfl iC.out ?_) | (go_at_call 105; go_loud (with_reducible refine (cc _ b0).mono ?_); rintro e w3 ⟨rfl, hb⟩))
      have FIN := HF.out _ (bel_via b0 hb)
      have FIN := Lib.hid FIN
      first | exact FIN.out | (simp [bodyPost, results, Try.results109, go_sem]; exact FIN.out)
    | inner f' a' bx' lo' hi' =>
      obtain ⟨rfl, h1⟩ := h1
      have cc := fun (W : World) (h : Below w.heap.size w W) => h1 W h
      clear h1
      generalize findP p (.inner f' a' bx' lo' hi') = R at *
      go_wp2_with (first | (refine wpList_load_row rfl 68 (.tmp 3) rfl (w.heap.size + 1) rfl 68 C (0, 0) _ hP Try.underlying68 rfl iC.out ?_) | (go_at_call 109; go_loud (with_reducible refine (cc _ b0).mono ?_); rintro e w3 ⟨rfl, hb⟩))
      have FIN := HF.out _ (bel_via b0 hb)
      have FIN := Lib.hid FIN
      first | exact FIN.out | (simp [bodyPost, results, Try.results109, go_sem]; exact FIN.out)
  | false =>
    go_upto_region 4 with (first | (refine wpList_load_cells rfl 30 (.tmp 10) rfl ⟨w.heap.size, 0, none⟩ rfl E _ (IB.out _ _ hL) Try.underlying30 rfl iE.out ?_) | (refine wpList_load_row rfl 68 (.tmp 3) rfl (w.heap.size + 1) rfl 68 C (0, 0) _ hP Try.underlying68 rfl iC.out ?_) | (refine wpList_load_node rfl (.tmp 8) rfl ⟨w.heap.size, 25, none⟩ rfl _ l25 ?_) | (refine wpList_load_node rfl (.tmp 14) rfl ⟨w.heap.size, 24, none⟩ rfl _ l24 ?_) | (go_at_call 108; with_reducible refine (ch _).mono ?_; rintro e w2 ⟨rfl, hb⟩; replace hL := blkB hb hL; replace hP := blkB hb hP; replace l24 := keepc hb l24; replace l25 := keepc hb l25; replace b0 := bel_via b0 hb; clear hb; obtain ⟨wz, hwz⟩ : ∃ x, x = w2 := ⟨_, rfl⟩; subst hwz))
    try simp only [Act.put, List.setIfInBounds_toArray, List.set_cons_succ, List.set_cons_zero]
    have HR := HP2.out HH.out.symm
    have HF := Lib.hid (HFIN.out _ HR)
    clear HR HP1 HP2 HFIN h1
    cases hi with
    | leaf l =>
      obtain ⟨rfl, h2⟩ := h2
      have cc := fun (W : World) (h : Below w.heap.size w W) => h2 W h
      clear h2
      generalize findP p (.leaf l) = R at *
      go_wp2_with (first | (refine wpList_load_row rfl 68 (.tmp 3) rfl (w.heap.size + 1) rfl 68 C (0, 0) _ hP Try.underlying68 rfl iC.out ?_) | (go_at_call 105; go_loud (with_reducible refine (cc _ b0).mono ?_); rintro e w3 ⟨rfl, hb⟩))
      have FIN := HF.out _ (bel_via b0 hb)
      have FIN := Lib.hid FIN
      first | exact FIN.out | (simp [bodyPost, results, Try.results109, go_sem]; exact FIN.out)
    | inner f' a' bx' lo' hi' =>
      obtain ⟨rfl, h2⟩ := h2
      have cc := fun (W : World) (h : Below w.heap.size w W) => h2 W h
      clear h2
      generalize findP p (.inner f' a' bx' lo' hi') = R at *
      go_wp2_with (first | (refine wpList_load_row rfl 68 (.tmp 3) rfl (w.heap.size + 1) rfl 68 C (0, 0) _ hP Try.underlying68 rfl iC.out ?_) | (go_at_call 109; go_loud (with_reducible refine (cc _ b0).mono ?_); rintro e w3 ⟨rfl, hb⟩))
      have FIN := HF.out _ (bel_via b0 hb)
      have FIN := Lib.hid FIN
      first | exact FIN.out | (simp [bodyPost, results, Try.results109, go_sem]; exact FIN.out)
/-- From whatever node down. -/
theorem node_find (p : Nat → P2) : ∀ (t : TN) (hbig : t.count ≤ 4096) (hl : ∀ l, l ∈ t.leafs → l.length ≤ 4096) (G : Nat) (w : World) (ty : TypeId) (x : Value), NodeAt G w t (.iface ty x) → FindsAt p w t ty x
  | .leaf l, hbig, hl, G, w, ty, x, ⟨A, c, e, hc, hA, hS⟩ => by
    cases e
    exact ⟨rfl, fun W hW => leaf_find p A l.length c l (hl l (by simp [TN.leafs])) W (hS.keep hW)⟩
  | .inner f at' bx lo hi, hbig, hl, G, w, ty, x, ⟨v1, v2, e, h1, h2⟩ => by
    obtain ⟨t1, x1, rfl⟩ := h1.form
    obtain ⟨t2, x2, rfl⟩ := h2.form
    cases e
    have hb : lo.count ≤ 4096 ∧ hi.count ≤ 4096 := by simp only [TN.count] at hbig; omega
    refine ⟨rfl, fun W hW => inner_find p f at' bx lo hi hbig t1 t2 x1 x2 W ?_ ?_⟩
    · exact node_find p lo hb.1 (fun l h => hl l (by simp [TN.leafs, h])) G W t1 x1 (h1.keep hW)
    · exact node_find p hi hb.2 (fun l h => hl l (by simp [TN.leafs, h])) G W t2 x2 (h2.keep hW)
end Go.Proofs.Ytomennaekjklbaa
