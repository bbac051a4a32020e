/- same: both trees answer alike; by-name template (gen_kbu.py). -/
import Derived.Test.YtomennaekjklbaaKRFm
import Derived.Test.YtomennaekjklbaaKMF
namespace Go.Proofs.Ytomennaekjklbaa
open Go.RowKit Go.Lib Go.Sort
set_option linter.unusedVariables false
set_option linter.unusedSimpArgs false

theorem len_at (B : Nat) (l : List EN) (t : TN) (W : World) (h : TreeAt W B l t) : Calls Try.prog 8 #[.pointer (some ⟨B, 0, none⟩)] W fun e w' => e = .returned (.int .i64 l.length) ∧ Below W.heap.size W w' := by
  obtain ⟨A, c, ty, x, G, h1, _⟩ := h
  exact (len_any B A l.length c (.iface ty x) W h1).mono fun e w' ⟨he, hw⟩ => ⟨he, by rw [← hw]; exact Below.refl _ _⟩
set_option maxRecDepth 100000 in
set_option maxHeartbeats 8000000 in
theorem same_any (B : Nat) (l : List EN) (t : TN) (T : Nat) (AP : Option Addr) (np cp : Nat) (pts : List (Nat → P2)) (hnp : np ≤ 4096) (hbig : t.count ≤ 4096) (hl : ∀ l, l ∈ t.leafs → l.length ≤ 4096) (hf : t.fOk) (hr : ∀ p ∈ pts, rfindP p t = findP p t) (w : World) (hT : TreeAt w B l t) (hR : RTreeAt w T l t) (hSP : Sl w 12 (fun p : Nat → P2 => (ptc p).toList) AP np pts) :
    Calls Try.prog 10 #[.pointer (some ⟨B, 0, none⟩), .pointer (some ⟨T, 0, none⟩), .slice AP np cp] w (LawPost w) := by
  obtain ⟨M, hM⟩ : ∃ M, M = LawPost w := ⟨_, rfl⟩
  rw [← hM]
  have FIN0 : ∀ W, Below w.heap.size w W → M (.returned (.bool true)) W := fun W h => by rw [hM]; exact ⟨rfl, h⟩
  have FIN := Lib.hid FIN0
  clear FIN0 hM
  have hno := fun (W : World) (h : TreeAt W B l t) => nodes_any B l t W h hbig
  have hfd := fun (p : Nat → P2) (W : World) (h : TreeAt W B l t) => find_any p B l t hbig hl W h
  have hrd := fun (p : Nat → P2) (W : World) (h : RTreeAt W T l t) => rfind_any p T l t hbig hl hf W h
  have HR := Lib.hid hr
  clear hl hf hr hbig
  have q1 := fun d os => Calls.regrown_of (hno (grow (redrawn w d) os) (hT.keep (below_regrown w d os)))
  have q2 := fun d os => Calls.regrown_of (len_at B l t (grow (redrawn w d) os) (hT.keep (below_regrown w d os)))
  have hnn : ((t.count : Int) != (t.count : Int)) = false := by simp
  have hll : ((l.length : Int) != (l.length : Int)) = false := by simp
  obtain ⟨y1, y2⟩ : w.cell? ⟨T, 1, none⟩ = some (.int .i64 (t.count : Nat)) ∧ ∃ A c, w.cell? ⟨T, 2, none⟩ = some (.slice A l.length c) := by
    obtain ⟨B', A, c, base, h1, _⟩ := hR
    obtain ⟨_, a1, a2, _⟩ := cells3 h1
    exact ⟨a1, A, c, a2⟩
  obtain ⟨A9, c9, y2⟩ := y2
  have k_y1 := cell_regrown y1
  have k_y2 := cell_regrown y2
  clear y1 y2 hno
  go_enter Try.func10, Try.ntmps10
  go_upto_region 1 with fail
  refine wp_region_quiet_below (by kernel_rfl) (by kernel_rfl) ?_
  repeat (first | go_big_quiet_skip | quiet_step (first | (go_at_call 19; with_reducible exact q1 _ _) | (go_at_call 8; with_reducible exact q2 _ _)))
  refine wpQuiet_nil ?_
  intro _ hw'
  obtain ⟨⟨dq, osq⟩, hw''⟩ := hw'
  subst hw''
  have hbq := below_regrown w dq osq
  obtain ⟨wq, hwy⟩ : ∃ x, x = grow (redrawn w dq) osq := ⟨_, rfl⟩
  rw [← hwy] at hbq ⊢
  clear hwy
  clear q1 q2 k_y1 k_y2
  replace hT := hT.keep hbq
  replace hR := hR.keep hbq
  replace hSP := hSP.keep hbq
  go_wp2_with fail
  go_loopw [7] (fun v7 wr => ∃ i : Nat, v7 = .int .i64 i ∧ i ≤ np ∧ Below wq.heap.size wq wr) (fun v7 _ => np - (intOf v7).toNat)
  case atStart => exact ⟨0, rfl, by omega, Below.refl _ _⟩
  case round =>
    obtain ⟨i, rfl, hi, bw⟩ := hrel
    by_cases hlt : i < np
    · have hml : i < pts.length := by rw [hSP.len]; exact hlt
      obtain ⟨p, hp⟩ : ∃ p, pts[i]? = some p := ⟨_, List.getElem?_eq_getElem hml⟩
      obtain ⟨b1, o1, hA1, _, hr1⟩ := hSP.row (by omega)
      have hcell := encP_row hr1 hp
      have iC := inf38 p
      have fd := fun (W : World) (h : TreeAt W B l t) => hfd p W h
      have rd := fun (W : World) (h : RTreeAt W T l t) => hrd p W h
      rw [HR.out p (List.mem_of_getElem? hp)] at rd
      unfold FindPost at fd rd
      obtain ⟨C, hC⟩ : ∃ C, C = ptc p := ⟨_, rfl⟩
      simp only [← hC] at fd rd
      rw [← hC] at hcell iC
      generalize (findP p t).1 = uu at *
      generalize (findP p t).2.1 = vv at *
      generalize (findP p t).2.2 = cc at *
      have iC := Lib.hid iC
      have q0 : ∀ j v, C.toList[j]? = some v → wr.cell? ((⟨b1, o1 + i * 12, none⟩ : Addr).add j) = some v := fun j v hj => keepc bw (hcell j v hj)
      have q0 := Lib.hid q0
      have hTw := hT.keep bw
      have hRw := hR.keep bw
      subst hA1
      have hlti : (i : Int) < (np : Int) := by omega
      have hdn : decide (i < np) = true := by simp [hlt]
      have hn1 : (uu != uu) = false := by simp
      have hn2 : ((vv : Int) != (vv : Int)) = false := by simp
      have hn3 : ((cc : Int) != (cc : Int)) = false := by simp
      clear hr1 hcell hp hC
      obtain ⟨w7, hw7⟩ : ∃ x, x = wr := ⟨_, rfl⟩
      subst hw7
      have hz := Below.refl w7.heap.size w7
      go_wp2_with (first
        | (refine wpList_load_cells rfl 68 (.tmp 41) rfl ⟨b1, o1 + i * 12, none⟩ rfl C _ q0.out Try.underlying68 rfl iC.out ?_)
        | (refine wpList_load_cells rfl 68 (.tmp 51) rfl ⟨b1, o1 + i * 12, none⟩ rfl C _ q0.out Try.underlying68 rfl iC.out ?_)
        | (go_at_call 20; go_loud (with_reducible refine (fd _ hTw).mono ?_); rintro e w8 ⟨rfl, hb⟩; replace hRw := hRw.keep hb; replace q0 := Lib.hid (fun j v hj => keepc hb (q0.out j v hj)); replace hz := bel_via hz hb; clear hb hTw)
        | (go_at_call 21; go_loud (with_reducible refine (rd _ hRw).mono ?_); rintro e w9 ⟨rfl, hb⟩; replace hz := bel_via hz hb; clear hb))
      refine ⟨?_, by simp [intOf]; omega⟩
      first | exact ⟨i + 1, by simp, by omega, bel_via bw hz⟩ | ((repeat apply Exists.intro); exact ⟨⟨i + 1, by simp, by omega, bel_via bw hz⟩, rfl⟩)
    · obtain rfl : i = np := by omega
      have hd0 : decide (i < i) = false := by simp
      have hdi : decide ((i : Int) < (i : Int)) = false := by simp
      have bz2 := bel_via hbq bw
      go_wp2_with fail
      first | exact FIN.out _ bz2 | (go_ret; exact FIN.out _ bz2)
end Go.Proofs.Ytomennaekjklbaa
