/- Parse; by-name template. -/
import Derived.Test.YtaafflmkfdicdaaDoorAReadP
import Derived.Lib.SlicesS
namespace Go.Proofs.YtaafflmkfdicdaaDoor
open Go.RowKit
set_option linter.unusedVariables false
set_option linter.unusedSimpArgs false

theorem bytes_of {s : ByteArray} {l : List UInt8} (h : l = s.data.toList) : (⟨l.toArray⟩ : ByteArray) = s := by
  obtain ⟨⟨d⟩⟩ := s
  subst h; rfl

theorem wpList_neq {P : Program} {ops : Array Oper} {rest : List Oper} {o : Oper} {a : Act} {w : World} {Q : Exit → Act → World → Prop} (hgd : Region.wanted o (yielded ops a.tmps) = true) (t rt : TypeId) (x y : Operand) (ho : o.op = .binOp .neq t x y rt)
    (p q : ByteArray) (hx : a.eval x = .string p) (hy : a.eval y = .string q) (hne : p ≠ q)
    (h : wpList P ops Q rest (a.put o.dst (.bool true)) w) : wpList P ops Q (o :: rest) a w :=
  wpList_step fun K hK => by
    rw [if_pos hgd]
    have e : (execOp a.eval o).run P w = .ok (.value (.bool true)) w := by
      have := (Lib.bytes_beq_false_iff p q).2 hne
      obtain ⟨dst, op, ty, ps, af, gd⟩ := o
      simp only at ho
      subst ho
      simp only [execOp, hx, hy]
      rw [binOp_string_neq, this]
      rfl
    unfold Oper.wp
    rw [e]
    exact hK _ _ h

set_option maxHeartbeats 1000000 in
set_option maxRecDepth 100000 in
theorem parse_any (s : ByteArray) (hs : s.size ≤ 281474976) {w : World} (hG : Glob w) : Calls Tryd.prog 21 #[.string s] w fun e w' => e = .returned (parseT (parseP s.data.toList)) ∧ Below w.heap.size w w' := by
  have hG1 := hG.on (Below.al (Below.refl _ w) (.cells #[.int .u64 0, .int .u64 0] 24))
  have cr := read_any s hs hG1
  unfold parseP
  cases hp : readP s.data.toList with
  | none =>
    rw [hp] at cr
    simp only [readT] at cr
    simp only [parseT]
    clear hp
    go_enter Tryd.func21, Tryd.ntmps21
    go_wp2_with (go_at_call 37; refine cr.mono ?_; rintro e w2 ⟨rfl, hb2⟩; refine Hid.out ?_)
    have hz2 : w.heap.size < w2.heap.size := by have := hb2.size; simp at this; omega
    have bw2 : Below w.heap.size w w2 := bel_via (Below.al (Below.refl _ w) _) hb2
    have hH2 : w2.heap[w.heap.size]? = some (.cells #[.int .u64 0, .int .u64 0] 24 (0, 0)) := by rw [hb2.block _ (by simp)]; exact al_new rfl _
    refine Lib.hid ?_
    go_wp2_with (with_reducible refine stop_op (o := ⟨none, .store 24 (.tmp 2) (.tmp 19), _, _, _, _⟩) ?_)
    obtain ⟨w3, hw3⟩ : ∃ v, v = w2.alloc (.cells #[.int .u64 0, .int .u64 0] 24) := ⟨_, rfl⟩
    rw [← hw3]
    have hH3 : w3.heap[w.heap.size]? = some (.cells #[.int .u64 0, .int .u64 0] 24 (0, 0)) := by rw [hw3, al_old hz2]; exact hH2
    have bw3 : Below w.heap.size w w3 := by rw [hw3]; exact bel_via bw2 (Below.al (Below.refl _ _) _)
    have c0 : w3.cell? ⟨w.heap.size, 0, none⟩ = some (.int .u64 0) := by simp [World.cell?, hH3]
    have c1 : w3.cell? ⟨w.heap.size, 1, none⟩ = some (.int .u64 0) := by simp [World.cell?, hH3]
    have f0 : w3.frozen? ⟨w.heap.size, 0, none⟩ = false := by simp [World.frozen?, hH3]
    have f1 : w3.frozen? ⟨w.heap.size, 1, none⟩ = false := by simp [World.frozen?, hH3]
    clear hw3
    refine Lib.hid ?_
    go_wp2
    refine bodyPost_ret_by (res_pair Tryd.results21 _ _ w.heap.size (.int .u64 0) (.int .u64 0) rfl (heap_set2 hH3 (.int .u64 0) (.int .u64 0))) rfl ⟨?_, ?_⟩
    · rfl
    · exact below_set (below_set bw3 (Nat.le_refl _) 0 _) (Nat.le_refl _) 1 _
  | some x =>
    rw [hp] at cr
    simp only [readT] at cr
    have hx := readP_lt hp
    clear hp
    obtain ⟨a, b⟩ := x
    simp only at hx cr
    obtain ⟨P, hP⟩ : ∃ P, P = printA a b := ⟨_, rfl⟩
    have cpr := fun (W : World) (hg : Glob W) => print_any a b hx.1 hx.2 hg
    rw [← hP] at cpr
    simp only
    rw [← hP]
    clear hP
    have hai : ((a : Nat) : Int) < 18446744073709551616 := by omega
    have hbi : ((b : Nat) : Int) < 18446744073709551616 := by omega
    by_cases he : P = s.data.toList
    · rw [if_pos he]
      have hes := bytes_of he
      rw [hes] at cpr
      simp only [parseT]
      clear he hes hx
      go_enter Tryd.func21, Tryd.ntmps21
      go_wp2_with (go_at_call 37; refine cr.mono ?_; rintro e w2 ⟨rfl, hb2⟩; refine Hid.out ?_)
      have bw2 : Below w.heap.size w w2 := bel_via (Below.al (Below.refl _ w) _) hb2
      have hz2 : w.heap.size < w2.heap.size := by have := hb2.size; simp at this; omega
      have hH2 : w2.heap[w.heap.size]? = some (.cells #[.int .u64 0, .int .u64 0] 24 (0, 0)) := by rw [hb2.block _ (by simp)]; exact al_new rfl _
      refine Lib.hid ?_
      go_wp2_with (go_at_call 11; refine (cpr _ (hG.on (bel_via bw2 (Below.al (Below.refl _ _) _)))).mono ?_; rintro e w3 ⟨rfl, hb3⟩; refine Hid.out ?_)
      have hz3 : w2.heap.size < w3.heap.size := by have := hb3.size; simp at this; omega
      have hA3 : w3.heap[w2.heap.size]? = some (.cells #[.int .u64 (a : Nat), .int .u64 (b : Nat)] 24 (0, 0)) := by rw [hb3.block _ (by simp)]; exact al_new rfl _
      have hH3 : w3.heap[w.heap.size]? = some (.cells #[.int .u64 0, .int .u64 0] 24 (0, 0)) := by rw [hb3.block _ (by simp; omega), al_old hz2]; exact hH2
      have a0 : w3.cell? ⟨w2.heap.size, 0, none⟩ = some (.int .u64 (a : Nat)) := by simp [World.cell?, hA3]
      have a1 : w3.cell? ⟨w2.heap.size, 1, none⟩ = some (.int .u64 (b : Nat)) := by simp [World.cell?, hA3]
      have c0 : w3.cell? ⟨w.heap.size, 0, none⟩ = some (.int .u64 0) := by simp [World.cell?, hH3]
      have c1 : w3.cell? ⟨w.heap.size, 1, none⟩ = some (.int .u64 0) := by simp [World.cell?, hH3]
      have f0 : w3.frozen? ⟨w.heap.size, 0, none⟩ = false := by simp [World.frozen?, hH3]
      have f1 : w3.frozen? ⟨w.heap.size, 1, none⟩ = false := by simp [World.frozen?, hH3]
      refine Lib.hid ?_
      go_wp2
      refine bodyPost_ret_by (res_pair Tryd.results21 _ _ w.heap.size (.int .u64 (a : Nat)) (.int .u64 (b : Nat)) rfl (heap_set2 hH3 (.int .u64 (a : Nat)) (.int .u64 (b : Nat)))) rfl ⟨?_, ?_⟩
      · rfl
      · exact below_set (below_set (bel_via (bel_via bw2 (Below.al (Below.refl _ w2) _)) hb3) (Nat.le_refl _) 0 _) (Nat.le_refl _) 1 _
    · rw [if_neg he]
      have hes : (⟨P.toArray⟩ : ByteArray) ≠ s := fun e => he (by rw [← e])
      have hbq := (Lib.bytes_beq_false_iff _ _).2 hes
      obtain ⟨Pb, hPb⟩ : ∃ Pb : ByteArray, Pb = ⟨P.toArray⟩ := ⟨_, rfl⟩
      rw [← hPb] at hbq hes cpr
      have hbn : (Pb.toList != s.toList) = true := by rw [bne, hbq]; rfl
      clear hPb
      simp only [parseT]
      clear he hx hbn hbq
      go_enter Tryd.func21, Tryd.ntmps21
      go_wp2_with (go_at_call 37; refine cr.mono ?_; rintro e w2 ⟨rfl, hb2⟩; refine Hid.out ?_)
      have bw2 : Below w.heap.size w w2 := bel_via (Below.al (Below.refl _ w) _) hb2
      have hz2 : w.heap.size < w2.heap.size := by have := hb2.size; simp at this; omega
      have hH2 : w2.heap[w.heap.size]? = some (.cells #[.int .u64 0, .int .u64 0] 24 (0, 0)) := by rw [hb2.block _ (by simp)]; exact al_new rfl _
      refine Lib.hid ?_
      go_wp2_with (go_at_call 11; refine (cpr _ (hG.on (bel_via bw2 (Below.al (Below.refl _ _) _)))).mono ?_; rintro e w3 ⟨rfl, hb3⟩; refine Hid.out ?_)
      have hz3 : w2.heap.size < w3.heap.size := by have := hb3.size; simp at this; omega
      have hH3 : w3.heap[w.heap.size]? = some (.cells #[.int .u64 0, .int .u64 0] 24 (0, 0)) := by rw [hb3.block _ (by simp; omega), al_old hz2]; exact hH2
      have c0 : w3.cell? ⟨w.heap.size, 0, none⟩ = some (.int .u64 0) := by simp [World.cell?, hH3]
      have c1 : w3.cell? ⟨w.heap.size, 1, none⟩ = some (.int .u64 0) := by simp [World.cell?, hH3]
      have f0 : w3.frozen? ⟨w.heap.size, 0, none⟩ = false := by simp [World.frozen?, hH3]
      have f1 : w3.frozen? ⟨w.heap.size, 1, none⟩ = false := by simp [World.frozen?, hH3]
      refine Lib.hid ?_
      go_wp2_with (with_reducible refine stop_op (o := ⟨some 17, _, _, _, _, _⟩) ?_)
      refine Lib.hid ?_
      refine wpList_neq rfl _ _ _ _ rfl _ _ rfl rfl hes ?_
      go_wp2
      refine bodyPost_ret_by (res_pair Tryd.results21 _ _ w.heap.size (.int .u64 0) (.int .u64 0) rfl (heap_set2 hH3 (.int .u64 0) (.int .u64 0))) rfl ⟨?_, ?_⟩
      · rfl
      · exact below_set (below_set (bel_via (bel_via bw2 (Below.al (Below.refl _ w2) _)) hb3) (Nat.le_refl _) 0 _) (Nat.le_refl _) 1 _
end Go.Proofs.YtaafflmkfdicdaaDoor
