/- Texts of groups are read; by-name template. -/
import Derived.Test.YtaafflmkfdicdaaDoorARg
import Derived.Laws.CopyOwn
namespace Go.Proofs.YtaafflmkfdicdaaDoor
open Go.RowKit
set_option linter.unusedVariables false
set_option linter.unusedSimpArgs false

theorem own_shape {w : World} {B : Nat} {e : TypeId} {size : Nat} {v : Value} {n : Nat} {xs : List Value} (h : w.ownsRow B e size v n xs) : ∃ a cap, v = .slice a n cap := by
  rcases h.2 with ⟨rfl, rfl⟩ | ⟨g, cap, cur, q1, q2, q3⟩
  · exact ⟨none, 0, rfl⟩
  · exact ⟨_, cap, q1⟩

theorem own_cells {w : World} {B : Nat} {a : Option Addr} {cap : Nat} {l : List Nat} (h : w.ownsRow B 55 1 (.slice a l.length cap) l.length (u16s l)) (hp : 0 < l.length) :
    ∃ ad, a = some ad ∧ ∀ w', Below w.heap.size w w' → ∀ j v, (u16s l)[j]? = some v → w'.cell? (ad.add j) = some v := by
  rcases h.2 with ⟨h1, h2⟩ | ⟨g, cap', cur, q1, q2, q3, q4, q5, q6, q7⟩
  · omega
  · simp only [Value.slice.injEq] at q1
    obtain ⟨rfl, -, rfl⟩ := q1
    exact ⟨⟨g, 0, none⟩, rfl, fun w' hb j v hj => (own_below h hb).cells (g := g) rfl j v hj⟩

theorem eight_of {F : List Nat} (h : F.length = 8) : ∃ g0 g1 g2 g3 g4 g5 g6 g7, F = [g0, g1, g2, g3, g4, g5, g6, g7] := by
  match F, h with
  | [g0, g1, g2, g3, g4, g5, g6, g7], _ => exact ⟨_, _, _, _, _, _, _, _, rfl⟩

theorem stop_op {P : Program} {w : World} {ops : Array Oper} {rest : List Oper} {o : Oper} {a : Act} {Q : Exit → Act → World → Prop} (h : Hid (wpList P ops Q (o :: rest) a w)) : wpList P ops Q (o :: rest) a w := h.out

theorem rgFrom_len : ∀ (l : List (List UInt8)) (acc r : List Nat), rgFrom l acc = some r → r.length = acc.length + l.length
  | [], acc, r, h => by
    unfold rgFrom at h
    cases h; simp
  | p :: l, acc, r, h => by
    unfold rgFrom at h
    split at h
    · rename_i n _
      have := rgFrom_len l (acc ++ [n]) r h
      rw [this]; simp; omega
    · cases h

theorem splitOn_cnt (c : UInt8) : ∀ s, (splitOn c s).length ≤ s.length + 1
  | [] => by simp [splitOn]
  | b :: s => by
    have := splitOn_cnt c s
    unfold splitOn
    split
    · simp; omega
    · split
      · simp
      · rename_i p l hh
        rw [hh] at this
        simp at this ⊢; omega

theorem rgP_len {s : List UInt8} {r : List Nat} (h : rgP s = some r) : r.length ≤ s.length + 1 := by
  unfold rgP at h
  split at h
  · cases h; simp
  · have := rgFrom_len _ _ _ h
    have h2 := splitOn_cnt 58 s
    simp only [List.length_nil] at this; omega

def zero16 : List Value := List.replicate 8 (.int .u16 0)

theorem splice_fill {h t : List Nat} (hl : h.length + t.length ≤ 8) : splice (splice zero16 0 (u16s h)) (8 - t.length) (u16s t) = u16s (fillG h t) := by
  have e1 : splice zero16 0 (u16s h) = u16s h ++ List.replicate (8 - h.length) (.int .u16 0) := by
    unfold splice zero16
    rw [List.take_zero, List.nil_append, Nat.zero_add, List.drop_replicate]
    simp [u16s]
  rw [e1]
  unfold splice fillG
  have e2 : u16s (h ++ List.replicate (8 - h.length - t.length) 0 ++ t) = u16s h ++ List.replicate (8 - h.length - t.length) (.int .u16 0) ++ u16s t := by simp [u16s]
  rw [e2, List.take_append, List.drop_append]
  have l1 : (u16s h).length = h.length := by simp [u16s]
  have l2 : (u16s t).length = t.length := by simp [u16s]
  rw [l1, l2, List.take_of_length_le (by omega), List.take_replicate, List.drop_eq_nil_of_le (by omega), List.drop_replicate]
  rw [show min (8 - t.length - h.length) (8 - h.length) = 8 - h.length - t.length by omega, show 8 - h.length - (8 - t.length + t.length - h.length) = 0 by omega]
  simp

theorem fill_len {h t : List Nat} (hl : h.length + t.length ≤ 8) : (fillG h t).length = 8 := by simp [fillG]; omega
theorem fill_le {h t : List Nat} (h1 : ∀ n ∈ h, n ≤ 65535) (h2 : ∀ n ∈ t, n ≤ 65535) : ∀ n ∈ fillG h t, n ≤ 65535 := by
  intro n hn
  simp only [fillG, List.mem_append, List.mem_replicate] at hn
  rcases hn with (hn | hn) | hn
  · exact h1 n hn
  · omega
  · exact h2 n hn

theorem cut_len (s sep : List UInt8) : (Lib.cut s sep).1.length ≤ s.length ∧ (Lib.cut s sep).2.1.length ≤ s.length := by
  unfold Lib.cut
  split
  · simp; omega
  · simp

set_option maxHeartbeats 1000000 in
set_option maxRecDepth 100000 in
theorem read6_any (s : ByteArray) (hs : s.size ≤ 281474976) {w : World} (hG : Glob w) : Calls Tryd.prog 46 #[.string s] w fun e w' => e = .returned (readT (read6P s.data.toList)) ∧ Below w.heap.size w w' := by
  obtain ⟨m, hm⟩ := hG.ml
  have hmb : (w.alloc (.cells #[.int .u64 0, .int .u64 0] 24)).cell? ⟨0, 0, none⟩ = some (.int .i64 m) := keepc (Below.al (Below.refl _ _) _) hm
  have hcut := Tryd.strings_Cut s ⟨#[58, 58]⟩ m _ (by omega) hmb
  have hcl := cut_len s.data.toList [58, 58]
  obtain ⟨R, hR⟩ : ∃ R, R = read6P s.data.toList := ⟨_, rfl⟩
  rw [← hR]
  unfold read6P at hR
  have hct : Lib.cut s.data.toList (ByteArray.mk #[58, 58]).data.toList = Lib.cut s.data.toList [58, 58] := rfl
  rw [hct] at hcut
  obtain ⟨C1, hC1⟩ : ∃ C, C = (Lib.cut s.data.toList [58, 58]).1 := ⟨_, rfl⟩
  obtain ⟨C2, hC2⟩ : ∃ C, C = (Lib.cut s.data.toList [58, 58]).2.1 := ⟨_, rfl⟩
  obtain ⟨C3, hC3⟩ : ∃ C, C = (Lib.cut s.data.toList [58, 58]).2.2 := ⟨_, rfl⟩
  rw [← hC1, ← hC2] at hcl hR
  rw [← hC1, ← hC2, ← hC3] at hcut
  have hsl : s.data.toList.length = s.size := by rw [Lib.size_eq]
  have HR := Lib.hid hR
  clear hR hC1 hC2 hC3 hct
  have z1 : (ByteArray.mk C1.toArray).size ≤ 281474976 := by simp [ByteArray.size]; omega
  have z2 : (ByteArray.mk C2.toArray).size ≤ 281474976 := by simp [ByteArray.size]; omega
  go_enter Tryd.func46, Tryd.ntmps46
  go_wp2_with (go_at_call 18; refine hcut.mono ?_; rintro e w1 ⟨rfl, n, rfl⟩; refine Hid.out ?_)
  obtain ⟨w1, hw1⟩ : ∃ v, v = (w.alloc (.cells #[.int .u64 0, .int .u64 0] 24)).drewN n := ⟨_, rfl⟩
  have bw1 : Below w.heap.size w w1 := by rw [hw1]; exact ⟨rfl, rfl, rfl, by simp, (Below.al (Below.refl _ w) _).block⟩
  have hRz : w1.heap[w.heap.size]? = some (.cells #[.int .u64 0, .int .u64 0] 24 (0, 0)) := by rw [hw1]; exact al_new rfl _
  try rw [← hw1]
  have hsz1 : w.heap.size < w1.heap.size := by rw [hw1]; simp
  clear hw1 hcut
  have c1 := rg_any ⟨C1.toArray⟩ z1 (hG.on bw1)
  unfold RgPost at c1
  refine Lib.hid ?_
  cases h1 : rgP C1 with
  | none =>
    have HH := HR.out
    rw [h1] at HH
    have e0 : rgP (ByteArray.mk C1.toArray).data.toList = none := by simpa using h1
    rw [e0] at c1
    simp only at c1 HH
    go_wp2_with (go_at_call 61; refine c1.mono ?_; rintro e w2 ⟨hb2, v, rfl⟩; refine Hid.out ?_)
    have hH2 : w2.heap[w.heap.size]? = some (.cells #[.int .u64 0, .int .u64 0] 24 (0, 0)) := by rw [hb2.block _ hsz1]; exact hRz
    have c0 : w2.cell? ⟨w.heap.size, 0, none⟩ = some (.int .u64 0) := by simp [World.cell?, hH2]
    have c1 : w2.cell? ⟨w.heap.size, 1, none⟩ = some (.int .u64 0) := by simp [World.cell?, hH2]
    have f0 : w2.frozen? ⟨w.heap.size, 0, none⟩ = false := by simp [World.frozen?, hH2]
    have f1 : w2.frozen? ⟨w.heap.size, 1, none⟩ = false := by simp [World.frozen?, hH2]
    refine Lib.hid ?_
    go_wp2
    refine bodyPost_ret_by (res_pair Tryd.results46 _ _ w.heap.size (.int .u64 0) (.int .u64 0) rfl (heap_set2 hH2 (.int .u64 0) (.int .u64 0))) rfl ⟨?_, ?_⟩
    · rw [HH]; rfl
    · exact below_set (below_set (bel_via bw1 hb2) (Nat.le_refl _) 0 _) (Nat.le_refl _) 1 _
  | some hL =>
    have e0 : rgP (ByteArray.mk C1.toArray).data.toList = some hL := by simpa using h1
    rw [e0] at c1
    simp only at c1
    go_wp2_with (go_at_call 61; refine c1.mono ?_; rintro e w2 ⟨hb2, v1, rfl, hown1, hle1⟩; refine Hid.out ?_)
    have bw2 : Below w.heap.size w w2 := bel_via bw1 hb2
    have hH2 : w2.heap[w.heap.size]? = some (.cells #[.int .u64 0, .int .u64 0] 24 (0, 0)) := by rw [hb2.block _ hsz1]; exact hRz
    have c2 := rg_any ⟨C2.toArray⟩ z2 (hG.on bw2)
    unfold RgPost at c2
    have hsz2 : w.heap.size < w2.heap.size := by have := hb2.size; omega
    refine Lib.hid ?_
    cases h2 : rgP C2 with
    | none =>
      have HH := HR.out
      rw [h1, h2] at HH
      have e0 : rgP (ByteArray.mk C2.toArray).data.toList = none := by simpa using h2
      rw [e0] at c2
      simp only at c2 HH
      clear h1 h2 e0
      go_wp2_with (go_at_call 61; refine c2.mono ?_; rintro e w3 ⟨hb3, v, rfl⟩; refine Hid.out ?_)
      have hH3 : w3.heap[w.heap.size]? = some (.cells #[.int .u64 0, .int .u64 0] 24 (0, 0)) := by rw [hb3.block _ hsz2]; exact hH2
      have c0 : w3.cell? ⟨w.heap.size, 0, none⟩ = some (.int .u64 0) := by simp [World.cell?, hH3]
      have c1 : w3.cell? ⟨w.heap.size, 1, none⟩ = some (.int .u64 0) := by simp [World.cell?, hH3]
      have f0 : w3.frozen? ⟨w.heap.size, 0, none⟩ = false := by simp [World.frozen?, hH3]
      have f1 : w3.frozen? ⟨w.heap.size, 1, none⟩ = false := by simp [World.frozen?, hH3]
      refine Lib.hid ?_
      go_wp2
      refine bodyPost_ret_by (res_pair Tryd.results46 _ _ w.heap.size (.int .u64 0) (.int .u64 0) rfl (heap_set2 hH3 (.int .u64 0) (.int .u64 0))) rfl ⟨?_, ?_⟩
      · rw [HH]; rfl
      · exact below_set (below_set (bel_via bw2 hb3) (Nat.le_refl _) 0 _) (Nat.le_refl _) 1 _
    | some t =>
      have HH := HR.out
      rw [h1, h2] at HH
      have e0 : rgP (ByteArray.mk C2.toArray).data.toList = some t := by simpa using h2
      rw [e0] at c2
      simp only at c2 HH
      have hz1 := rgP_len h1
      have hz2 := rgP_len h2
      clear h1 h2 e0
      go_wp2_with (go_at_call 61; refine c2.mono ?_; rintro e w3 ⟨hb3, v2, rfl, hown2, hle2⟩; refine Hid.out ?_)
      have bw3 : Below w.heap.size w w3 := bel_via bw2 hb3
      have hH3 : w3.heap[w.heap.size]? = some (.cells #[.int .u64 0, .int .u64 0] 24 (0, 0)) := by rw [hb3.block _ hsz2]; exact hH2
      have hzi1 : (hL.length : Int) ≤ 140737488355328 := by omega
      have hzi2 : (t.length : Int) ≤ 140737488355328 := by omega
      obtain ⟨a1, p1, rfl⟩ := own_shape hown1
      obtain ⟨a2, p2, rfl⟩ := own_shape hown2
      have oc1 : 0 < hL.length → ∃ ad, a1 = some ad ∧ ∀ w', Below w3.heap.size w3 w' → ∀ j v, (u16s hL)[j]? = some v → w'.cell? (ad.add j) = some v := fun hp => by
        obtain ⟨ad, e, hc⟩ := own_cells hown1 hp
        exact ⟨ad, e, fun w' hb => hc w' (bel_via hb3 hb)⟩
      have oc2 : 0 < t.length → ∃ ad, a2 = some ad ∧ ∀ w', Below w3.heap.size w3 w' → ∀ j v, (u16s t)[j]? = some v → w'.cell? (ad.add j) = some v := fun hp => own_cells hown2 hp
      have hsz3 : w.heap.size < w3.heap.size := by have := hb3.size; omega
      refine Lib.hid ?_
      by_cases h8 : 8 < hL.length + t.length
      · rw [if_pos h8] at HH
        have h8i : (8 : Int) < (hL.length : Int) + (t.length : Int) := by omega
        have c0 : w3.cell? ⟨w.heap.size, 0, none⟩ = some (.int .u64 0) := by simp [World.cell?, hH3]
        have c1 : w3.cell? ⟨w.heap.size, 1, none⟩ = some (.int .u64 0) := by simp [World.cell?, hH3]
        have f0 : w3.frozen? ⟨w.heap.size, 0, none⟩ = false := by simp [World.frozen?, hH3]
        have f1 : w3.frozen? ⟨w.heap.size, 1, none⟩ = false := by simp [World.frozen?, hH3]
        clear oc1 oc2 hown1 hown2
        go_wp2
        refine bodyPost_ret_by (res_pair Tryd.results46 _ _ w.heap.size (.int .u64 0) (.int .u64 0) rfl (heap_set2 hH3 (.int .u64 0) (.int .u64 0))) rfl ⟨?_, ?_⟩
        · rw [HH]; rfl
        · exact below_set (below_set bw3 (Nat.le_refl _) 0 _) (Nat.le_refl _) 1 _
      · rw [if_neg h8] at HH
        have h8i : decide ((8 : Int) < (hL.length : Int) + (t.length : Int)) = false := by simp; omega
        clear hzi1 hzi2 hz1 hz2
        have hl8 : hL.length + t.length ≤ 8 := by omega
        have F8 := fill_len hl8
        have Fle := fill_le hle1 hle2
        have Fsp := splice_fill hl8
        have h8n : (hL.length : Int) + (t.length : Int) ≤ 8 := by omega
        have hl1 : (hL.length : Int) ≤ 8 := by omega
        have tl1 : (t.length : Int) ≤ 8 := by omega
        have ua := Tryd.underlying57
        have us := Tryd.underlying62
        have h16 : (Tryd.prog.info? 55).map (·.size) = some 1 := by kernel_rfl
        obtain ⟨N, hN⟩ : ∃ N, N = w3.heap.size := ⟨_, rfl⟩
        obtain ⟨O, hO⟩ : ∃ O, O = if t.length = 0 then 0 else 8 - t.length := ⟨_, rfl⟩
        have hsl1 : ∀ W, (Instr.sliceAt 57 (.pointer (some ⟨w3.heap.size, 0, none⟩)) none none none).run Tryd.prog W = .ok (.slice (some ⟨w3.heap.size, 0, none⟩) 8 8) W := fun W => by
          rw [run_sliceAt_array_all W 57 ⟨w3.heap.size, 0, none⟩ ua]
          go_simp
        have hsl2 : ∀ W, (Instr.sliceAt 57 (.pointer (some ⟨w3.heap.size, 0, none⟩)) (some (.int .i64 (8 - (t.length : Int)))) none none).run Tryd.prog W = .ok (.slice (some ⟨w3.heap.size, O, none⟩) t.length t.length) W := fun W => by
          rw [run_sliceAt_array_l W 57 ⟨w3.heap.size, 0, none⟩ ua .i64 (8 - (t.length : Int)) (by omega) (by show (8 - (t.length : Int)) ≤ 8; omega)]
          rw [hO]
          have e8 : (8 - (t.length : Int)).toNat = 8 - t.length := by omega
          rw [e8]
          by_cases hT : t.length = 0
          · rw [hT]; go_simp
          · have n8 : ¬ (8 = 8 - t.length) := by omega
            have n9 : 8 - (8 - t.length) = t.length := by omega
            rw [if_neg hT]
            go_simp
        have l1 : (u16s hL).length = hL.length := by simp [u16s]
        have l2 : (u16s t).length = t.length := by simp [u16s]
        have one1 : ∀ v ∈ u16s hL, v.oneCell' = true := by intro v hv; obtain ⟨x, _, rfl⟩ := List.mem_map.1 hv; rfl
        have one2 : ∀ v ∈ u16s t, v.oneCell' = true := by intro v hv; obtain ⟨x, _, rfl⟩ := List.mem_map.1 hv; rfl
        obtain ⟨X1, hX1⟩ : ∃ X, X = u16s hL := ⟨_, rfl⟩
        obtain ⟨X2, hX2⟩ : ∃ X, X = u16s t := ⟨_, rfl⟩
        rw [← hX1] at Fsp oc1 l1 one1
        rw [← hX2] at Fsp oc2 l2 one2
        have z8 : zero16.length = 8 := by simp [zero16]
        have ls : (splice zero16 0 X1).length = 8 := by rw [length_splice _ _ _ (by omega), z8]
        clear hown1 hown2 hX1 hX2
        go_wp2_with (with_reducible refine stop_op (o := ⟨some 43, _, _, _, _, _⟩) ?_)
        refine Lib.hid ?_
        refine wpList_copy_splice (o := ⟨some 43, _, _, _, _, _⟩) rfl (.tmp 41) (.tmp 42) 62 62 rfl 55 us h16 (some ⟨w3.heap.size, 0, none⟩) a1 8 8 hL.length p1 rfl rfl w3.heap.size 0 zero16 57 (al_new (k := w3.heap.size) rfl (.cells zero16.toArray 57 (0, 0))) X1 (by rw [l1]; exact (Nat.min_eq_left (by omega)).symm) (fun hp => ⟨rfl, by obtain ⟨ad, e, hc⟩ := oc1 (by omega); exact ⟨ad, e, hc _ (Below.al (Below.refl _ _) _)⟩⟩) (by omega) one1 w3.heap.size w3 (Below.al (Below.refl _ _) _) (Nat.le_refl _) ?_
        intro w4 hg4 hb4
        go_wp2_with (with_reducible refine stop_op (o := ⟨some 49, _, _, _, _, _⟩) ?_)
        · have ht := h
          clear h
          refine Lib.hid ?_
          refine wpList_copy_splice (o := ⟨some 49, _, _, _, _, _⟩) rfl (.tmp 47) (.tmp 48) 62 62 rfl 55 us h16 (some ⟨w3.heap.size, 0, none⟩) a2 0 0 0 p2 rfl rfl w3.heap.size (8 - t.length) (splice zero16 0 X1) 57 hg4.out X2 (by rw [l2, ht]; rfl) (fun hp => absurd hp (by rw [l2, ht]; simp)) (by omega) one2 w3.heap.size w3 hb4 (Nat.le_refl _) ?_
          intro w5 hg5 hb5
          have hg5' := hg5.out
          rw [Fsp] at hg5'
          have bw5 : Below w.heap.size w w5 := bel_via bw3 hb5
          have hH5 : w5.heap[w.heap.size]? = some (.cells #[.int .u64 0, .int .u64 0] 24 (0, 0)) := by rw [hb5.block _ hsz3]; exact hH3
          have hsz5 : w.heap.size < w5.heap.size := by have := hb5.size; omega
          clear hg5 hg4 Fsp hsl1 hsl2 oc1 oc2
          obtain ⟨F, hF⟩ : ∃ F, F = fillG hL t := ⟨_, rfl⟩
          rw [← hF] at HH hg5' F8 Fle
          clear hF
          obtain ⟨g0, g1, g2, g3, g4, g5, g6, g7, rfl⟩ := eight_of F8
          · skip
            have cF : ∀ j v, ([g0, g1, g2, g3, g4, g5, g6, g7].map fun n => Value.int .u16 (n : Nat))[j]? = some v → w5.cell? ⟨w3.heap.size, j, none⟩ = some v := by
              intro j v hj
              simp only [World.cell?, hg5', u16s]
              simpa using hj
            have q0 := cF 0 (.int .u16 (g0 : Nat)) rfl
            have q1 := cF 1 (.int .u16 (g1 : Nat)) rfl
            have q2 := cF 2 (.int .u16 (g2 : Nat)) rfl
            have q3 := cF 3 (.int .u16 (g3 : Nat)) rfl
            have q4 := cF 4 (.int .u16 (g4 : Nat)) rfl
            have q5 := cF 5 (.int .u16 (g5 : Nat)) rfl
            have q6 := cF 6 (.int .u16 (g6 : Nat)) rfl
            have q7 := cF 7 (.int .u16 (g7 : Nat)) rfl
            have hga := gaddr_any g0 g1 g2 g3 g4 g5 g6 g7 Fle
            clear hg5' cF
            go_wp2_with (go_at_call 62; refine (hga _).mono ?_; rintro e w6 ⟨rfl, hb6⟩; refine Hid.out ?_)
            have hH6 : w6.heap[w.heap.size]? = some (.cells #[.int .u64 0, .int .u64 0] 24 (0, 0)) := by rw [hb6.block _ hsz5]; exact hH5
            have c0 : w6.cell? ⟨w.heap.size, 0, none⟩ = some (.int .u64 0) := by simp [World.cell?, hH6]
            have c1 : w6.cell? ⟨w.heap.size, 1, none⟩ = some (.int .u64 0) := by simp [World.cell?, hH6]
            have f0 : w6.frozen? ⟨w.heap.size, 0, none⟩ = false := by simp [World.frozen?, hH6]
            have f1 : w6.frozen? ⟨w.heap.size, 1, none⟩ = false := by simp [World.frozen?, hH6]
            obtain ⟨HI, hHI⟩ : ∃ HI, HI = hiOf [g0, g1, g2, g3, g4, g5, g6, g7] := ⟨_, rfl⟩
            obtain ⟨LO, hLO⟩ : ∃ LO, LO = loOf [g0, g1, g2, g3, g4, g5, g6, g7] := ⟨_, rfl⟩
            rw [← hHI, ← hLO] at HH
            rw [← hHI, ← hLO]
            clear hHI hLO
            refine Lib.hid ?_
            go_wp2
            refine bodyPost_ret_by (res_pair Tryd.results46 _ _ w.heap.size (.int .u64 (HI : Nat)) (.int .u64 (LO : Nat)) rfl (heap_set2 hH6 (.int .u64 (HI : Nat)) (.int .u64 (LO : Nat)))) rfl ⟨?_, ?_⟩
            · rw [HH]; rfl
            · exact below_set (below_set (bel_via bw5 hb6) (Nat.le_refl _) 0 _) (Nat.le_refl _) 1 _
        · have ht := h
          clear h
          refine Lib.hid ?_
          refine wpList_copy_splice (o := ⟨some 49, _, _, _, _, _⟩) rfl (.tmp 47) (.tmp 48) 62 62 rfl 55 us h16 (some ⟨w3.heap.size, 8 - t.length, none⟩) a2 t.length t.length t.length p2 rfl rfl w3.heap.size (8 - t.length) (splice zero16 0 X1) 57 hg4.out X2 (by rw [l2]; exact (Nat.min_self _).symm) (fun hp => ⟨rfl, by obtain ⟨ad, e, hc⟩ := oc2 (by omega); exact ⟨ad, e, hc _ hb4⟩⟩) (by omega) one2 w3.heap.size w3 hb4 (Nat.le_refl _) ?_
          intro w5 hg5 hb5
          have hg5' := hg5.out
          rw [Fsp] at hg5'
          have bw5 : Below w.heap.size w w5 := bel_via bw3 hb5
          have hH5 : w5.heap[w.heap.size]? = some (.cells #[.int .u64 0, .int .u64 0] 24 (0, 0)) := by rw [hb5.block _ hsz3]; exact hH3
          have hsz5 : w.heap.size < w5.heap.size := by have := hb5.size; omega
          clear hg5 hg4 Fsp hsl1 hsl2 oc1 oc2
          obtain ⟨F, hF⟩ : ∃ F, F = fillG hL t := ⟨_, rfl⟩
          rw [← hF] at HH hg5' F8 Fle
          clear hF
          obtain ⟨g0, g1, g2, g3, g4, g5, g6, g7, rfl⟩ := eight_of F8
          · skip
            have cF : ∀ j v, ([g0, g1, g2, g3, g4, g5, g6, g7].map fun n => Value.int .u16 (n : Nat))[j]? = some v → w5.cell? ⟨w3.heap.size, j, none⟩ = some v := by
              intro j v hj
              simp only [World.cell?, hg5', u16s]
              simpa using hj
            have q0 := cF 0 (.int .u16 (g0 : Nat)) rfl
            have q1 := cF 1 (.int .u16 (g1 : Nat)) rfl
            have q2 := cF 2 (.int .u16 (g2 : Nat)) rfl
            have q3 := cF 3 (.int .u16 (g3 : Nat)) rfl
            have q4 := cF 4 (.int .u16 (g4 : Nat)) rfl
            have q5 := cF 5 (.int .u16 (g5 : Nat)) rfl
            have q6 := cF 6 (.int .u16 (g6 : Nat)) rfl
            have q7 := cF 7 (.int .u16 (g7 : Nat)) rfl
            have hga := gaddr_any g0 g1 g2 g3 g4 g5 g6 g7 Fle
            clear hg5' cF
            go_wp2_with (go_at_call 62; refine (hga _).mono ?_; rintro e w6 ⟨rfl, hb6⟩; refine Hid.out ?_)
            have hH6 : w6.heap[w.heap.size]? = some (.cells #[.int .u64 0, .int .u64 0] 24 (0, 0)) := by rw [hb6.block _ hsz5]; exact hH5
            have c0 : w6.cell? ⟨w.heap.size, 0, none⟩ = some (.int .u64 0) := by simp [World.cell?, hH6]
            have c1 : w6.cell? ⟨w.heap.size, 1, none⟩ = some (.int .u64 0) := by simp [World.cell?, hH6]
            have f0 : w6.frozen? ⟨w.heap.size, 0, none⟩ = false := by simp [World.frozen?, hH6]
            have f1 : w6.frozen? ⟨w.heap.size, 1, none⟩ = false := by simp [World.frozen?, hH6]
            obtain ⟨HI, hHI⟩ : ∃ HI, HI = hiOf [g0, g1, g2, g3, g4, g5, g6, g7] := ⟨_, rfl⟩
            obtain ⟨LO, hLO⟩ : ∃ LO, LO = loOf [g0, g1, g2, g3, g4, g5, g6, g7] := ⟨_, rfl⟩
            rw [← hHI, ← hLO] at HH
            rw [← hHI, ← hLO]
            clear hHI hLO
            refine Lib.hid ?_
            go_wp2
            refine bodyPost_ret_by (res_pair Tryd.results46 _ _ w.heap.size (.int .u64 (HI : Nat)) (.int .u64 (LO : Nat)) rfl (heap_set2 hH6 (.int .u64 (HI : Nat)) (.int .u64 (LO : Nat)))) rfl ⟨?_, ?_⟩
            · rw [HH]; rfl
            · exact below_set (below_set (bel_via bw5 hb6) (Nat.le_refl _) 0 _) (Nat.le_refl _) 1 _
end Go.Proofs.YtaafflmkfdicdaaDoor
