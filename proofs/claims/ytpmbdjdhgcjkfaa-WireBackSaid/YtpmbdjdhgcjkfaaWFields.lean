/- What stands in a transport header: fields; by-name template (gen_wfields.py). -/
import Derived.Test.YtpmbdjdhgcjkfaaWRead
import Derived.BigRegion
import Derived.Deep.DeepCutAuto
namespace Go.Proofs.Ytpmbdjdhgcjkfaa
open Go.RowKit Go.Sort
set_option linter.unusedVariables false
set_option linter.unusedSimpArgs false

/-- What a transport header tells. -/
structure TW where
  sport : Int
  dport : Int
  seq : Int
  ack : Int
  flags : Int
  win : Int
  type : Int
  code : Int
  head : Int
  data : Int
def tcells (t : TW) : Array Value := #[.int .i64 t.sport, .int .i64 t.dport, .int .u32 t.seq, .int .u32 t.ack, .int .i64 t.flags, .int .i64 t.win, .int .i64 t.type, .int .i64 t.code, .int .i64 t.head, .int .i64 t.data]
def ztw : TW := ⟨0, 0, 0, 0, 0, 0, 0, 0, 0, 0⟩
/-- What stands in a whole header of a body; where it ends, and the data, are told elsewhere. -/
def fieldsP (l : List UInt8) (v6 : Bool) (p : Int) : TW :=
  if p = 6 then ⟨nbN l 0 2, nbN l 2 2, nbN l 4 4, nbN l 8 4, byN l 13, nbN l 14 2, 0, 0, 0, 0⟩
  else if p = 17 then ⟨nbN l 0 2, nbN l 2 2, 0, 0, 0, 0, 0, 0, 0, 0⟩
  else if p = 1 ∨ p = 58 then (if echoP v6 (byN l 0) then ⟨nbN l 4 2, nbN l 4 2, 0, 0, 0, 0, byN l 0, byN l 1, 0, 0⟩ else ⟨0, 0, 0, 0, 0, 0, byN l 0, byN l 1, 0, 0⟩)
  else ztw

theorem heap_set10w {w : World} {B : Nat} {x0 x1 x2 x3 x4 x5 x6 x7 x8 x9 : Value} {t : TypeId} {fz : Nat × Nat} (h : w.heap[B]? = some (.cells #[x0, x1, x2, x3, x4, x5, x6, x7, x8, x9] t fz)) (y0 y1 y2 y3 y4 y5 y6 y7 y8 y9 : Value) :
    ((((((((((w.setCell ⟨B, 0, none⟩ y0).setCell ⟨B, 1, none⟩ y1).setCell ⟨B, 2, none⟩ y2).setCell ⟨B, 3, none⟩ y3).setCell ⟨B, 4, none⟩ y4).setCell ⟨B, 5, none⟩ y5).setCell ⟨B, 6, none⟩ y6).setCell ⟨B, 7, none⟩ y7).setCell ⟨B, 8, none⟩ y8).setCell ⟨B, 9, none⟩ y9).heap[B]? = some (.cells #[y0, y1, y2, y3, y4, y5, y6, y7, y8, y9] t fz) := by
  rw [heap_setw (heap_setw (heap_setw (heap_setw (heap_setw (heap_setw (heap_setw (heap_setw (heap_setw (heap_setw h 0 _) 1 _) 2 _) 3 _) 4 _) 5 _) 6 _) 7 _) 8 _) 9 _]
  kernel_rfl
theorem below_set10 {N B : Nat} {w w1 : World} (h : Below N w w1) (hB : N ≤ B) (y0 y1 y2 y3 y4 y5 y6 y7 y8 y9 : Value) : Below N w ((((((((((w1.setCell ⟨B, 0, none⟩ y0).setCell ⟨B, 1, none⟩ y1).setCell ⟨B, 2, none⟩ y2).setCell ⟨B, 3, none⟩ y3).setCell ⟨B, 4, none⟩ y4).setCell ⟨B, 5, none⟩ y5).setCell ⟨B, 6, none⟩ y6).setCell ⟨B, 7, none⟩ y7).setCell ⟨B, 8, none⟩ y8).setCell ⟨B, 9, none⟩ y9) := by
  exact (below_set (below_set (below_set (below_set (below_set (below_set (below_set (below_set (below_set (below_set h hB 0 _) hB 1 _) hB 2 _) hB 3 _) hB 4 _) hB 5 _) hB 6 _) hB 7 _) hB 8 _) hB 9 _)
theorem cells10 {w : World} {B : Nat} {x0 x1 x2 x3 x4 x5 x6 x7 x8 x9 : Value} {t : TypeId} (h : w.heap[B]? = some (.cells #[x0, x1, x2, x3, x4, x5, x6, x7, x8, x9] t (0, 0))) : (w.cell? ⟨B, 0, none⟩ = some x0 ∧ w.cell? ⟨B, 1, none⟩ = some x1 ∧ w.cell? ⟨B, 2, none⟩ = some x2 ∧ w.cell? ⟨B, 3, none⟩ = some x3 ∧ w.cell? ⟨B, 4, none⟩ = some x4 ∧ w.cell? ⟨B, 5, none⟩ = some x5 ∧ w.cell? ⟨B, 6, none⟩ = some x6 ∧ w.cell? ⟨B, 7, none⟩ = some x7 ∧ w.cell? ⟨B, 8, none⟩ = some x8 ∧ w.cell? ⟨B, 9, none⟩ = some x9) ∧ (w.frozen? ⟨B, 0, none⟩ = false ∧ w.frozen? ⟨B, 1, none⟩ = false ∧ w.frozen? ⟨B, 2, none⟩ = false ∧ w.frozen? ⟨B, 3, none⟩ = false ∧ w.frozen? ⟨B, 4, none⟩ = false ∧ w.frozen? ⟨B, 5, none⟩ = false ∧ w.frozen? ⟨B, 6, none⟩ = false ∧ w.frozen? ⟨B, 7, none⟩ = false ∧ w.frozen? ⟨B, 8, none⟩ = false ∧ w.frozen? ⟨B, 9, none⟩ = false) := by
  refine ⟨⟨?_, ?_, ?_, ?_, ?_, ?_, ?_, ?_, ?_, ?_⟩, ?_, ?_, ?_, ?_, ?_, ?_, ?_, ?_, ?_, ?_⟩ <;> simp [World.cell?, World.frozen?, h]
theorem cut_l (g o n c l : Nat) (h1 : l ≤ n) (h3 : l < c) (hc : c ≤ 9223372036854775807) (hn : n ≤ c) : ∀ W, (Instr.slice 22 (.slice (some ⟨g, o, none⟩) n c) (some (.int .i64 (l : Nat))) none none).run Try.prog W = .ok (.slice (some ⟨g, o + l, none⟩) (n - l) (c - l)) W := by
  intro W
  have hs : (sizeOf (Try.prog.elem 22)).run Try.prog W = .ok 1 W := by kernel_rfl
  rw [run_slice_l W 22 (some ⟨g, o, none⟩) n c (by kernel_rfl) .i64 (l : Nat) (by omega) (by omega), hs]
  simp only [Result.andThen, sliced, Int.toNat_natCast, Nat.mul_one]
  rw [if_neg (by omega)]
  have e : (⟨g, o, none⟩ : Addr).add l = ⟨g, o + l, none⟩ := by unfold Addr.add; split <;> simp_all
  rw [Option.map_some, e]

theorem blkKeep2 {X w' : World} {B : Nat} {o : Obj} (hb : Below X.heap.size X w') (h : X.heap[B]? = some o) : w'.heap[B]? = some o :=
  (hb.block _ (Array.getElem?_eq_some_iff.1 h).1).trans h

set_option maxHeartbeats 2000000 in
set_option maxRecDepth 100000 in
theorem fields_no (A : Option Addr) (n c : Nat) (l : List UInt8) (vv : Bool) (vhd vtt vttl vp vsH vsL vdH vdL : Int) (vfr : Bool) (vid voff : Int) (vmo : Bool) {w : World} (h : BytArg w A n c l) (h6 : vp ≠ 6) (h17 : vp ≠ 17) (h1 : vp ≠ 1) (h58 : vp ≠ 58) :
    Calls Try.prog 55 #[.slice A n c, .agg #[.bool vv, .int .i64 vhd, .int .i64 vtt, .int .i64 vttl, .int .i64 vp, .int .u64 vsH, .int .u64 vsL, .int .u64 vdH, .int .u64 vdL, .bool vfr, .int .u32 vid, .int .i64 voff, .bool vmo]] w fun e w' => e = .returned (.agg (tcells ztw)) ∧ Below w.heap.size w w' := by
  have cp := fun (W : World) (hw : Below w.heap.size w W) => ports_any A n c l vv vp (h.below hw) (fun h => by omega)
  rw [show ppP l vv vp = (0, 0, false) by unfold ppP; rw [if_neg h6, if_neg h17, if_neg h1, if_neg h58]] at cp
  have b6 : (vp == 6) = false := by simp [h6]
  have b17 : (vp == 17) = false := by simp [h17]
  have b1 : (vp == 1) = false := by simp [h1]
  have b58 : (vp == 58) = false := by simp [h58]
  simp only [tcells, ztw]
  clear h h6 h17 h1 h58
  go_enter Try.func55, Try.ntmps55
  go_wp2_with (with_reducible refine stop_op (o := ⟨some 10, _, _, _, _, _⟩) ?_)
  obtain ⟨w3, hw3⟩ : ∃ x, x = ((w.alloc (.cells #[.bool vv, .int .i64 vhd, .int .i64 vtt, .int .i64 vttl, .int .i64 vp, .int .u64 vsH, .int .u64 vsL, .int .u64 vdH, .int .u64 vdL, .bool vfr, .int .u32 vid, .int .i64 voff, .bool vmo] 40)).alloc (.cells #[.int .i64 0, .int .i64 0, .int .u32 0, .int .u32 0, .int .i64 0, .int .i64 0, .int .i64 0, .int .i64 0, .int .i64 0, .int .i64 0] 50)).alloc (.cells #[.int .i64 0, .int .i64 0, .int .u32 0, .int .u32 0, .int .i64 0, .int .i64 0, .int .i64 0, .int .i64 0, .int .i64 0, .int .i64 0] 50) := ⟨_, rfl⟩
  have hV : w3.heap[w.heap.size]? = some (.cells #[.bool vv, .int .i64 vhd, .int .i64 vtt, .int .i64 vttl, .int .i64 vp, .int .u64 vsH, .int .u64 vsL, .int .u64 vdH, .int .u64 vdL, .bool vfr, .int .u32 vid, .int .i64 voff, .bool vmo] 40 (0, 0)) := by rw [hw3]; exact (al_oldw (by first | (simp; done) | (simp; omega)) _).trans ((al_oldw (by first | (simp; done) | (simp; omega)) _).trans (al_neww rfl _))
  have hR : w3.heap[w.heap.size + 1]? = some (.cells #[.int .i64 0, .int .i64 0, .int .u32 0, .int .u32 0, .int .i64 0, .int .i64 0, .int .i64 0, .int .i64 0, .int .i64 0, .int .i64 0] 50 (0, 0)) := by rw [hw3]; exact (al_oldw (by first | (simp; done) | (simp; omega)) _).trans (al_neww (by simp) _)
  have hT : w3.heap[w.heap.size + 1 + 1]? = some (.cells #[.int .i64 0, .int .i64 0, .int .u32 0, .int .u32 0, .int .i64 0, .int .i64 0, .int .i64 0, .int .i64 0, .int .i64 0, .int .i64 0] 50 (0, 0)) := by rw [hw3]; exact al_neww (by simp) _
  have bw : Below w.heap.size w w3 := by rw [hw3]; exact Below.al (Below.al (Below.al (Below.refl _ _) _) _) _
  rw [← hw3]
  clear hw3
  obtain ⟨⟨v0, v1, v2, v3, v4, v5, v6, v7, v8, v9, v10, v11, v12⟩, _⟩ := cells13 hV
  refine Lib.hid ?_
  go_wp2_with (go_at_call 34; refine (cp _ bw).mono ?_; rintro e w4 ⟨rfl, hbx⟩; refine Hid.out ?_)
  have hVn := blkKeep2 hbx hV
  have hRn := blkKeep2 hbx hR
  have hTn := blkKeep2 hbx hT
  have bwn : Below w.heap.size w w4 := bw.trans (hbx.mono bw.size)
  clear hbx hV hR hT bw
  have hV := hVn
  clear hVn
  have hR := hRn
  clear hRn
  have hT := hTn
  clear hTn
  have bw := bwn
  clear bwn
  refine Lib.hid ?_
  go_wp2_with (with_reducible refine stop_op (o := ⟨some 65, _, _, _, _, _⟩) ?_)
  obtain ⟨w5, hwn⟩ : ∃ x, x = w4.alloc (.cells #[.int .i64 0, .int .i64 0] 76) := ⟨_, rfl⟩
  have hN : w5.heap[w4.heap.size]? = some (.cells #[.int .i64 0, .int .i64 0] 76 (0, 0)) := by rw [hwn]; exact al_neww rfl _
  have hbx : Below w4.heap.size w4 w5 := by rw [hwn]; exact Below.al (Below.refl _ _) _
  rw [← hwn]
  clear hwn
  have hVn := blkKeep2 hbx hV
  have hRn := blkKeep2 hbx hR
  have hTn := blkKeep2 hbx hT
  have bwn : Below w.heap.size w w5 := bw.trans (hbx.mono bw.size)
  clear hbx hV hR hT bw
  have hV := hVn
  clear hVn
  have hR := hRn
  clear hRn
  have hT := hTn
  clear hTn
  have bw := bwn
  clear bwn
  obtain ⟨⟨t0, t1, t2, t3, t4, t5, t6, t7, t8, t9⟩, f0, f1, f2, f3, f4, f5, f6, f7, f8, f9⟩ := cells10 hT
  obtain ⟨⟨r0, r1, r2, r3, r4, r5, r6, r7, r8, r9⟩, q0, q1, q2, q3, q4, q5, q6, q7, q8, q9⟩ := cells10 hR
  refine Lib.hid ?_
  go_wp2
  refine bodyPost_ret_by (results_cell_row Try.results55 _ _ (w.heap.size + 1) 50 #[.int .i64 0, .int .i64 0, .int .u32 0, .int .u32 0, .int .i64 0, .int .i64 0, .int .i64 0, .int .i64 0, .int .i64 0, .int .i64 0] (0, 0) _ rfl (heap_set10w hR (.int .i64 0) (.int .i64 0) (.int .u32 0) (.int .u32 0) (.int .i64 0) (.int .i64 0) (.int .i64 0) (.int .i64 0) (.int .i64 0) (.int .i64 0)) Try.underlying50 rfl (by kernel_rfl)) rfl ⟨rfl, ?_⟩
  exact below_set10 bw (by omega) _ _ _ _ _ _ _ _ _ _

set_option maxHeartbeats 2000000 in
set_option maxRecDepth 100000 in
theorem fields_udp (g o n c : Nat) (l : List UInt8) (vv : Bool) (vhd vtt vttl vsH vsL vdH vdL : Int) (vfr : Bool) (vid voff : Int) (vmo : Bool) {w : World} (hn : l.length = n) (h8 : 8 ≤ n) (hc : n ≤ c) (hcm : c ≤ 9223372036854775807) (hb : Byt w g o l) :
    Calls Try.prog 55 #[.slice (some ⟨g, o, none⟩) n c, .agg #[.bool vv, .int .i64 vhd, .int .i64 vtt, .int .i64 vttl, .int .i64 17, .int .u64 vsH, .int .u64 vsL, .int .u64 vdH, .int .u64 vdL, .bool vfr, .int .u32 vid, .int .i64 voff, .bool vmo]] w fun e w' => e = .returned (.agg (tcells ⟨nbN l 0 2, nbN l 2 2, 0, 0, 0, 0, 0, 0, 0, 0⟩)) ∧ Below w.heap.size w w' := by
  have h : BytArg w (some ⟨g, o, none⟩) n c l := ⟨hn, hc, by unfold maxLen; omega, fun _ => ⟨g, o, rfl, hb⟩⟩
  have cp := fun (W : World) (hw : Below w.heap.size w W) => ports_any _ n c l vv 17 (h.below hw) (fun h => by omega)
  rw [show ppP l vv 17 = (0, 2, true) by simp [ppP]] at cp
  have cr : ∀ (W : World) (hw : Below w.heap.size w W), Calls Try.prog 78 #[.agg #[.int .i64 0, .int .i64 2], .slice (some ⟨g, o, none⟩) n c] W fun e w' => e = .returned (.tuple #[.int .i64 (nbN l 0 2 : Nat), .int .i64 (nbN l 2 2 : Nat)]) ∧ Below W.heap.size W w' := fun W hw => read_any g o c n 0 2 l hn (by omega) (by omega) (by omega) (by omega) hc hcm (hb.below hw)
  generalize nbN l 0 2 = S0 at *
  generalize nbN l 2 2 = S2 at *
  simp only [tcells]
  clear h hb hn
  go_enter Try.func55, Try.ntmps55
  go_wp2_with (with_reducible refine stop_op (o := ⟨some 10, _, _, _, _, _⟩) ?_)
  obtain ⟨w3, hw3⟩ : ∃ x, x = ((w.alloc (.cells #[.bool vv, .int .i64 vhd, .int .i64 vtt, .int .i64 vttl, .int .i64 17, .int .u64 vsH, .int .u64 vsL, .int .u64 vdH, .int .u64 vdL, .bool vfr, .int .u32 vid, .int .i64 voff, .bool vmo] 40)).alloc (.cells #[.int .i64 0, .int .i64 0, .int .u32 0, .int .u32 0, .int .i64 0, .int .i64 0, .int .i64 0, .int .i64 0, .int .i64 0, .int .i64 0] 50)).alloc (.cells #[.int .i64 0, .int .i64 0, .int .u32 0, .int .u32 0, .int .i64 0, .int .i64 0, .int .i64 0, .int .i64 0, .int .i64 0, .int .i64 0] 50) := ⟨_, rfl⟩
  have hV : w3.heap[w.heap.size]? = some (.cells #[.bool vv, .int .i64 vhd, .int .i64 vtt, .int .i64 vttl, .int .i64 17, .int .u64 vsH, .int .u64 vsL, .int .u64 vdH, .int .u64 vdL, .bool vfr, .int .u32 vid, .int .i64 voff, .bool vmo] 40 (0, 0)) := by rw [hw3]; exact (al_oldw (by first | (simp; done) | (simp; omega)) _).trans ((al_oldw (by first | (simp; done) | (simp; omega)) _).trans (al_neww rfl _))
  have hR : w3.heap[w.heap.size + 1]? = some (.cells #[.int .i64 0, .int .i64 0, .int .u32 0, .int .u32 0, .int .i64 0, .int .i64 0, .int .i64 0, .int .i64 0, .int .i64 0, .int .i64 0] 50 (0, 0)) := by rw [hw3]; exact (al_oldw (by first | (simp; done) | (simp; omega)) _).trans (al_neww (by simp) _)
  have hT : w3.heap[w.heap.size + 1 + 1]? = some (.cells #[.int .i64 0, .int .i64 0, .int .u32 0, .int .u32 0, .int .i64 0, .int .i64 0, .int .i64 0, .int .i64 0, .int .i64 0, .int .i64 0] 50 (0, 0)) := by rw [hw3]; exact al_neww (by simp) _
  have bw : Below w.heap.size w w3 := by rw [hw3]; exact Below.al (Below.al (Below.al (Below.refl _ _) _) _) _
  rw [← hw3]
  clear hw3
  obtain ⟨⟨v0, v1, v2, v3, v4, v5, v6, v7, v8, v9, v10, v11, v12⟩, _⟩ := cells13 hV
  refine Lib.hid ?_
  go_wp2_with (go_at_call 34; refine (cp _ bw).mono ?_; rintro e w4 ⟨rfl, hbx⟩; refine Hid.out ?_)
  have hVn := blkKeep2 hbx hV
  have hRn := blkKeep2 hbx hR
  have hTn := blkKeep2 hbx hT
  have bwn : Below w.heap.size w w4 := bw.trans (hbx.mono bw.size)
  clear hbx hV hR hT bw
  have hV := hVn
  clear hVn
  have hR := hRn
  clear hRn
  have hT := hTn
  clear hTn
  have bw := bwn
  clear bwn
  refine Lib.hid ?_
  go_wp2_with (with_reducible refine stop_op (o := ⟨some 58, _, _, _, _, _⟩) ?_)
  obtain ⟨w5, hwn⟩ : ∃ x, x = w4.alloc (.cells #[.int .i64 0, .int .i64 2] 76) := ⟨_, rfl⟩
  have hN : w5.heap[w4.heap.size]? = some (.cells #[.int .i64 0, .int .i64 2] 76 (0, 0)) := by rw [hwn]; exact al_neww rfl _
  have hbx : Below w4.heap.size w4 w5 := by rw [hwn]; exact Below.al (Below.refl _ _) _
  rw [← hwn]
  clear hwn
  have hVn := blkKeep2 hbx hV
  have hRn := blkKeep2 hbx hR
  have hTn := blkKeep2 hbx hT
  have bwn : Below w.heap.size w w5 := bw.trans (hbx.mono bw.size)
  clear hbx hV hR hT bw
  have hV := hVn
  clear hVn
  have hR := hRn
  clear hRn
  have hT := hTn
  clear hTn
  have bw := bwn
  clear bwn
  obtain ⟨n0, n1, _⟩ := cells2 hN
  refine Lib.hid ?_
  go_wp2_with (go_at_call 78; refine (cr _ bw).mono ?_; rintro e w6 ⟨rfl, hbx⟩; refine Hid.out ?_)
  have hVn := blkKeep2 hbx hV
  have hRn := blkKeep2 hbx hR
  have hTn := blkKeep2 hbx hT
  have bwn : Below w.heap.size w w6 := bw.trans (hbx.mono bw.size)
  clear hbx hV hR hT bw
  have hV := hVn
  clear hVn
  have hR := hRn
  clear hRn
  have hT := hTn
  clear hTn
  have bw := bwn
  clear bwn
  obtain ⟨⟨t0, t1, t2, t3, t4, t5, t6, t7, t8, t9⟩, f0, f1, f2, f3, f4, f5, f6, f7, f8, f9⟩ := cells10 hT
  refine Lib.hid ?_
  go_wp2_with (with_reducible refine stop_op (o := ⟨some 65, _, _, _, _, _⟩) ?_)
  obtain ⟨w7, hwn⟩ : ∃ x, x = (w6.setCell ⟨w.heap.size + 1 + 1, 0, none⟩ (.int .i64 (S0 : Int))).setCell ⟨w.heap.size + 1 + 1, 1, none⟩ (.int .i64 (S2 : Int)) := ⟨_, rfl⟩
  have hTn : w7.heap[w.heap.size + 1 + 1]? = some (.cells #[.int .i64 (S0 : Int), .int .i64 (S2 : Int), .int .u32 0, .int .u32 0, .int .i64 0, .int .i64 0, .int .i64 0, .int .i64 0, .int .i64 0, .int .i64 0] 50 (0, 0)) := by rw [hwn, heap_setw (heap_setw hT 0 _) 1 _]; kernel_rfl
  have hRn : w7.heap[w.heap.size + 1]? = some (.cells #[.int .i64 0, .int .i64 0, .int .u32 0, .int .u32 0, .int .i64 0, .int .i64 0, .int .i64 0, .int .i64 0, .int .i64 0, .int .i64 0] 50 (0, 0)) := by rw [hwn, set_other (by omega), set_other (by omega)]; exact hR
  have bwn : Below w.heap.size w w7 := by rw [hwn]; exact below_set (below_set bw (by omega) 0 _) (by omega) 1 _
  rw [← hwn]
  clear hwn hV hR hT bw
  have hR := hRn
  have hT := hTn
  have bw := bwn
  clear hRn hTn bwn
  obtain ⟨⟨t0, t1, t2, t3, t4, t5, t6, t7, t8, t9⟩, f0, f1, f2, f3, f4, f5, f6, f7, f8, f9⟩ := cells10 hT
  obtain ⟨⟨r0, r1, r2, r3, r4, r5, r6, r7, r8, r9⟩, q0, q1, q2, q3, q4, q5, q6, q7, q8, q9⟩ := cells10 hR
  refine Lib.hid ?_
  go_wp2
  refine bodyPost_ret_by (results_cell_row Try.results55 _ _ (w.heap.size + 1) 50 #[.int .i64 (S0 : Int), .int .i64 (S2 : Int), .int .u32 0, .int .u32 0, .int .i64 0, .int .i64 0, .int .i64 0, .int .i64 0, .int .i64 0, .int .i64 0] (0, 0) _ rfl (heap_set10w hR (.int .i64 (S0 : Int)) (.int .i64 (S2 : Int)) (.int .u32 0) (.int .u32 0) (.int .i64 0) (.int .i64 0) (.int .i64 0) (.int .i64 0) (.int .i64 0) (.int .i64 0)) Try.underlying50 rfl (by kernel_rfl)) rfl ⟨rfl, ?_⟩
  exact below_set10 bw (by omega) _ _ _ _ _ _ _ _ _ _

set_option maxHeartbeats 2000000 in
set_option maxRecDepth 100000 in
theorem fields_icmp (q : Int) (hq : q = 1 ∨ q = 58) (g o n c : Nat) (l : List UInt8) (vv : Bool) (vhd vtt vttl vsH vsL vdH vdL : Int) (vfr : Bool) (vid voff : Int) (vmo : Bool) {w : World} (hn : l.length = n) (h8 : 8 ≤ n) (hc : n ≤ c) (hcm : c ≤ 9223372036854775807) (hb : Byt w g o l) (he : echoP vv (byN l 0) = false) :
    Calls Try.prog 55 #[.slice (some ⟨g, o, none⟩) n c, .agg #[.bool vv, .int .i64 vhd, .int .i64 vtt, .int .i64 vttl, .int .i64 q, .int .u64 vsH, .int .u64 vsL, .int .u64 vdH, .int .u64 vdL, .bool vfr, .int .u32 vid, .int .i64 voff, .bool vmo]] w fun e w' => e = .returned (.agg (tcells ⟨0, 0, 0, 0, 0, 0, byN l 0, byN l 1, 0, 0⟩)) ∧ Below w.heap.size w w' := by
  have h : BytArg w (some ⟨g, o, none⟩) n c l := ⟨hn, hc, by unfold maxLen; omega, fun _ => ⟨g, o, rfl, hb⟩⟩
  have cp := fun (W : World) (hw : Below w.heap.size w W) => ports_any _ n c l vv q (h.below hw) (fun h => by omega)
  rw [show ppP l vv q = (0, 0, false) by rcases hq with rfl | rfl <;> simp [ppP, he]] at cp
  have c0 := by_cell hb hn 0 (by omega)
  have c1 := by_cell hb hn 1 (by omega)
  rw [Nat.add_zero] at c0
  have hgb := World.block_lt_of_cell? _ _ c0
  simp only at hgb
  have hX := byN_lt l 0
  have hY := byN_lt l 1
  generalize byN l 0 = X at *
  generalize byN l 1 = Y at *
  have wX : IntKind.i64.wrap (X : Int) = (X : Int) := by rw [IntKind.wrap_i64]; omega
  have wY : IntKind.i64.wrap (Y : Int) = (Y : Int) := by rw [IntKind.wrap_i64]; omega
  have j0 : (0 : Int) < (n : Int) := by omega
  have j1 : (1 : Int) < (n : Int) := by omega
  have k0 : 0 < n := by omega
  have k1 : 1 < n := by omega
  simp only [tcells]
  clear h hb hn he
  rcases hq with rfl | rfl
  · skip
    go_enter Try.func55, Try.ntmps55
    go_wp2_with (with_reducible refine stop_op (o := ⟨some 10, _, _, _, _, _⟩) ?_)
    obtain ⟨w3, hw3⟩ : ∃ x, x = ((w.alloc (.cells #[.bool vv, .int .i64 vhd, .int .i64 vtt, .int .i64 vttl, .int .i64 1, .int .u64 vsH, .int .u64 vsL, .int .u64 vdH, .int .u64 vdL, .bool vfr, .int .u32 vid, .int .i64 voff, .bool vmo] 40)).alloc (.cells #[.int .i64 0, .int .i64 0, .int .u32 0, .int .u32 0, .int .i64 0, .int .i64 0, .int .i64 0, .int .i64 0, .int .i64 0, .int .i64 0] 50)).alloc (.cells #[.int .i64 0, .int .i64 0, .int .u32 0, .int .u32 0, .int .i64 0, .int .i64 0, .int .i64 0, .int .i64 0, .int .i64 0, .int .i64 0] 50) := ⟨_, rfl⟩
    have hV : w3.heap[w.heap.size]? = some (.cells #[.bool vv, .int .i64 vhd, .int .i64 vtt, .int .i64 vttl, .int .i64 1, .int .u64 vsH, .int .u64 vsL, .int .u64 vdH, .int .u64 vdL, .bool vfr, .int .u32 vid, .int .i64 voff, .bool vmo] 40 (0, 0)) := by rw [hw3]; exact (al_oldw (by first | (simp; done) | (simp; omega)) _).trans ((al_oldw (by first | (simp; done) | (simp; omega)) _).trans (al_neww rfl _))
    have hR : w3.heap[w.heap.size + 1]? = some (.cells #[.int .i64 0, .int .i64 0, .int .u32 0, .int .u32 0, .int .i64 0, .int .i64 0, .int .i64 0, .int .i64 0, .int .i64 0, .int .i64 0] 50 (0, 0)) := by rw [hw3]; exact (al_oldw (by first | (simp; done) | (simp; omega)) _).trans (al_neww (by simp) _)
    have hT : w3.heap[w.heap.size + 1 + 1]? = some (.cells #[.int .i64 0, .int .i64 0, .int .u32 0, .int .u32 0, .int .i64 0, .int .i64 0, .int .i64 0, .int .i64 0, .int .i64 0, .int .i64 0] 50 (0, 0)) := by rw [hw3]; exact al_neww (by simp) _
    have bw : Below w.heap.size w w3 := by rw [hw3]; exact Below.al (Below.al (Below.al (Below.refl _ _) _) _) _
    rw [← hw3]
    clear hw3
    obtain ⟨⟨v0, v1, v2, v3, v4, v5, v6, v7, v8, v9, v10, v11, v12⟩, _⟩ := cells13 hV
    refine Lib.hid ?_
    obtain ⟨⟨t0, t1, t2, t3, t4, t5, t6, t7, t8, t9⟩, f0, f1, f2, f3, f4, f5, f6, f7, f8, f9⟩ := cells10 hT
    have d0 := keepc bw c0
    have d1 := keepc bw c1
    go_wp2_with fail
    go_region
    clear v0 v1 v2 v3 v4 v5 v6 v7 v8 v9 v10 v11 v12 t0 t1 t2 t3 t4 t5 t6 t7 t8 t9 f0 f1 f2 f3 f4 f5 f6 f7 f8 f9 d0 d1
    obtain ⟨w4, hwn⟩ : ∃ x, x = World.drew (((w3).setCell ⟨w.heap.size + 1 + 1, 6, none⟩ (.int .i64 (X : Int))).setCell ⟨w.heap.size + 1 + 1, 7, none⟩ (.int .i64 (Y : Int))) := ⟨_, rfl⟩
    have hTn : w4.heap[w.heap.size + 1 + 1]? = some (.cells #[.int .i64 0, .int .i64 0, .int .u32 0, .int .u32 0, .int .i64 0, .int .i64 0, .int .i64 (X : Int), .int .i64 (Y : Int), .int .i64 0, .int .i64 0] 50 (0, 0)) := by rw [hwn]; show (((w3).setCell ⟨w.heap.size + 1 + 1, 6, none⟩ (.int .i64 (X : Int))).setCell ⟨w.heap.size + 1 + 1, 7, none⟩ (.int .i64 (Y : Int))).heap[w.heap.size + 1 + 1]? = _; rw [heap_setw (heap_setw hT 6 _) 7 _]; kernel_rfl
    have hRn : w4.heap[w.heap.size + 1]? = some (.cells #[.int .i64 0, .int .i64 0, .int .u32 0, .int .u32 0, .int .i64 0, .int .i64 0, .int .i64 0, .int .i64 0, .int .i64 0, .int .i64 0] 50 (0, 0)) := by rw [hwn]; show (((w3).setCell ⟨w.heap.size + 1 + 1, 6, none⟩ (.int .i64 (X : Int))).setCell ⟨w.heap.size + 1 + 1, 7, none⟩ (.int .i64 (Y : Int))).heap[w.heap.size + 1]? = _; rw [set_other (by omega), set_other (by omega)]; exact hR
    have hVn : w4.heap[w.heap.size]? = some (.cells #[.bool vv, .int .i64 vhd, .int .i64 vtt, .int .i64 vttl, .int .i64 1, .int .u64 vsH, .int .u64 vsL, .int .u64 vdH, .int .u64 vdL, .bool vfr, .int .u32 vid, .int .i64 voff, .bool vmo] 40 (0, 0)) := by rw [hwn]; show (((w3).setCell ⟨w.heap.size + 1 + 1, 6, none⟩ (.int .i64 (X : Int))).setCell ⟨w.heap.size + 1 + 1, 7, none⟩ (.int .i64 (Y : Int))).heap[w.heap.size]? = _; rw [set_other (by omega), set_other (by omega)]; exact hV
    have bwn : Below w.heap.size w w4 := by rw [hwn]; exact Below.dr (below_set (below_set bw (by omega) 6 _) (by omega) 7 _)
    rw [← hwn]
    clear hwn hV hR hT bw
    have hV := hVn
    have hR := hRn
    have hT := hTn
    have bw := bwn
    clear hRn hTn bwn hVn
    obtain ⟨⟨v0, v1, v2, v3, v4, v5, v6, v7, v8, v9, v10, v11, v12⟩, _⟩ := cells13 hV
    go_wp2_with (go_at_call 34; refine (cp _ bw).mono ?_; rintro e w5 ⟨rfl, hbx⟩; refine Hid.out ?_)
    have hVn := blkKeep2 hbx hV
    have hRn := blkKeep2 hbx hR
    have hTn := blkKeep2 hbx hT
    have bwn : Below w.heap.size w w5 := bw.trans (hbx.mono bw.size)
    clear hbx hV hR hT bw
    have hV := hVn
    clear hVn
    have hR := hRn
    clear hRn
    have hT := hTn
    clear hTn
    have bw := bwn
    clear bwn
    refine Lib.hid ?_
    go_wp2_with (with_reducible refine stop_op (o := ⟨some 65, _, _, _, _, _⟩) ?_)
    obtain ⟨w6, hwn⟩ : ∃ x, x = w5.alloc (.cells #[.int .i64 0, .int .i64 0] 76) := ⟨_, rfl⟩
    have hN : w6.heap[w5.heap.size]? = some (.cells #[.int .i64 0, .int .i64 0] 76 (0, 0)) := by rw [hwn]; exact al_neww rfl _
    have hbx : Below w5.heap.size w5 w6 := by rw [hwn]; exact Below.al (Below.refl _ _) _
    rw [← hwn]
    clear hwn
    have hVn := blkKeep2 hbx hV
    have hRn := blkKeep2 hbx hR
    have hTn := blkKeep2 hbx hT
    have bwn : Below w.heap.size w w6 := bw.trans (hbx.mono bw.size)
    clear hbx hV hR hT bw
    have hV := hVn
    clear hVn
    have hR := hRn
    clear hRn
    have hT := hTn
    clear hTn
    have bw := bwn
    clear bwn
    obtain ⟨⟨t0, t1, t2, t3, t4, t5, t6, t7, t8, t9⟩, f0, f1, f2, f3, f4, f5, f6, f7, f8, f9⟩ := cells10 hT
    obtain ⟨⟨r0, r1, r2, r3, r4, r5, r6, r7, r8, r9⟩, q0, q1, q2, q3, q4, q5, q6, q7, q8, q9⟩ := cells10 hR
    refine Lib.hid ?_
    go_wp2
    refine bodyPost_ret_by (results_cell_row Try.results55 _ _ (w.heap.size + 1) 50 #[.int .i64 0, .int .i64 0, .int .u32 0, .int .u32 0, .int .i64 0, .int .i64 0, .int .i64 (X : Int), .int .i64 (Y : Int), .int .i64 0, .int .i64 0] (0, 0) _ rfl (heap_set10w hR (.int .i64 0) (.int .i64 0) (.int .u32 0) (.int .u32 0) (.int .i64 0) (.int .i64 0) (.int .i64 (X : Int)) (.int .i64 (Y : Int)) (.int .i64 0) (.int .i64 0)) Try.underlying50 rfl (by kernel_rfl)) rfl ⟨rfl, ?_⟩
    exact below_set10 bw (by omega) _ _ _ _ _ _ _ _ _ _
  · skip
    go_enter Try.func55, Try.ntmps55
    go_wp2_with (with_reducible refine stop_op (o := ⟨some 10, _, _, _, _, _⟩) ?_)
    obtain ⟨w3, hw3⟩ : ∃ x, x = ((w.alloc (.cells #[.bool vv, .int .i64 vhd, .int .i64 vtt, .int .i64 vttl, .int .i64 58, .int .u64 vsH, .int .u64 vsL, .int .u64 vdH, .int .u64 vdL, .bool vfr, .int .u32 vid, .int .i64 voff, .bool vmo] 40)).alloc (.cells #[.int .i64 0, .int .i64 0, .int .u32 0, .int .u32 0, .int .i64 0, .int .i64 0, .int .i64 0, .int .i64 0, .int .i64 0, .int .i64 0] 50)).alloc (.cells #[.int .i64 0, .int .i64 0, .int .u32 0, .int .u32 0, .int .i64 0, .int .i64 0, .int .i64 0, .int .i64 0, .int .i64 0, .int .i64 0] 50) := ⟨_, rfl⟩
    have hV : w3.heap[w.heap.size]? = some (.cells #[.bool vv, .int .i64 vhd, .int .i64 vtt, .int .i64 vttl, .int .i64 58, .int .u64 vsH, .int .u64 vsL, .int .u64 vdH, .int .u64 vdL, .bool vfr, .int .u32 vid, .int .i64 voff, .bool vmo] 40 (0, 0)) := by rw [hw3]; exact (al_oldw (by first | (simp; done) | (simp; omega)) _).trans ((al_oldw (by first | (simp; done) | (simp; omega)) _).trans (al_neww rfl _))
    have hR : w3.heap[w.heap.size + 1]? = some (.cells #[.int .i64 0, .int .i64 0, .int .u32 0, .int .u32 0, .int .i64 0, .int .i64 0, .int .i64 0, .int .i64 0, .int .i64 0, .int .i64 0] 50 (0, 0)) := by rw [hw3]; exact (al_oldw (by first | (simp; done) | (simp; omega)) _).trans (al_neww (by simp) _)
    have hT : w3.heap[w.heap.size + 1 + 1]? = some (.cells #[.int .i64 0, .int .i64 0, .int .u32 0, .int .u32 0, .int .i64 0, .int .i64 0, .int .i64 0, .int .i64 0, .int .i64 0, .int .i64 0] 50 (0, 0)) := by rw [hw3]; exact al_neww (by simp) _
    have bw : Below w.heap.size w w3 := by rw [hw3]; exact Below.al (Below.al (Below.al (Below.refl _ _) _) _) _
    rw [← hw3]
    clear hw3
    obtain ⟨⟨v0, v1, v2, v3, v4, v5, v6, v7, v8, v9, v10, v11, v12⟩, _⟩ := cells13 hV
    refine Lib.hid ?_
    obtain ⟨⟨t0, t1, t2, t3, t4, t5, t6, t7, t8, t9⟩, f0, f1, f2, f3, f4, f5, f6, f7, f8, f9⟩ := cells10 hT
    have d0 := keepc bw c0
    have d1 := keepc bw c1
    go_wp2_with fail
    go_region
    clear v0 v1 v2 v3 v4 v5 v6 v7 v8 v9 v10 v11 v12 t0 t1 t2 t3 t4 t5 t6 t7 t8 t9 f0 f1 f2 f3 f4 f5 f6 f7 f8 f9 d0 d1
    obtain ⟨w4, hwn⟩ : ∃ x, x = World.drew (((w3).setCell ⟨w.heap.size + 1 + 1, 6, none⟩ (.int .i64 (X : Int))).setCell ⟨w.heap.size + 1 + 1, 7, none⟩ (.int .i64 (Y : Int))) := ⟨_, rfl⟩
    have hTn : w4.heap[w.heap.size + 1 + 1]? = some (.cells #[.int .i64 0, .int .i64 0, .int .u32 0, .int .u32 0, .int .i64 0, .int .i64 0, .int .i64 (X : Int), .int .i64 (Y : Int), .int .i64 0, .int .i64 0] 50 (0, 0)) := by rw [hwn]; show (((w3).setCell ⟨w.heap.size + 1 + 1, 6, none⟩ (.int .i64 (X : Int))).setCell ⟨w.heap.size + 1 + 1, 7, none⟩ (.int .i64 (Y : Int))).heap[w.heap.size + 1 + 1]? = _; rw [heap_setw (heap_setw hT 6 _) 7 _]; kernel_rfl
    have hRn : w4.heap[w.heap.size + 1]? = some (.cells #[.int .i64 0, .int .i64 0, .int .u32 0, .int .u32 0, .int .i64 0, .int .i64 0, .int .i64 0, .int .i64 0, .int .i64 0, .int .i64 0] 50 (0, 0)) := by rw [hwn]; show (((w3).setCell ⟨w.heap.size + 1 + 1, 6, none⟩ (.int .i64 (X : Int))).setCell ⟨w.heap.size + 1 + 1, 7, none⟩ (.int .i64 (Y : Int))).heap[w.heap.size + 1]? = _; rw [set_other (by omega), set_other (by omega)]; exact hR
    have hVn : w4.heap[w.heap.size]? = some (.cells #[.bool vv, .int .i64 vhd, .int .i64 vtt, .int .i64 vttl, .int .i64 58, .int .u64 vsH, .int .u64 vsL, .int .u64 vdH, .int .u64 vdL, .bool vfr, .int .u32 vid, .int .i64 voff, .bool vmo] 40 (0, 0)) := by rw [hwn]; show (((w3).setCell ⟨w.heap.size + 1 + 1, 6, none⟩ (.int .i64 (X : Int))).setCell ⟨w.heap.size + 1 + 1, 7, none⟩ (.int .i64 (Y : Int))).heap[w.heap.size]? = _; rw [set_other (by omega), set_other (by omega)]; exact hV
    have bwn : Below w.heap.size w w4 := by rw [hwn]; exact Below.dr (below_set (below_set bw (by omega) 6 _) (by omega) 7 _)
    rw [← hwn]
    clear hwn hV hR hT bw
    have hV := hVn
    have hR := hRn
    have hT := hTn
    have bw := bwn
    clear hRn hTn bwn hVn
    obtain ⟨⟨v0, v1, v2, v3, v4, v5, v6, v7, v8, v9, v10, v11, v12⟩, _⟩ := cells13 hV
    go_wp2_with (go_at_call 34; refine (cp _ bw).mono ?_; rintro e w5 ⟨rfl, hbx⟩; refine Hid.out ?_)
    have hVn := blkKeep2 hbx hV
    have hRn := blkKeep2 hbx hR
    have hTn := blkKeep2 hbx hT
    have bwn : Below w.heap.size w w5 := bw.trans (hbx.mono bw.size)
    clear hbx hV hR hT bw
    have hV := hVn
    clear hVn
    have hR := hRn
    clear hRn
    have hT := hTn
    clear hTn
    have bw := bwn
    clear bwn
    refine Lib.hid ?_
    go_wp2_with (with_reducible refine stop_op (o := ⟨some 65, _, _, _, _, _⟩) ?_)
    obtain ⟨w6, hwn⟩ : ∃ x, x = w5.alloc (.cells #[.int .i64 0, .int .i64 0] 76) := ⟨_, rfl⟩
    have hN : w6.heap[w5.heap.size]? = some (.cells #[.int .i64 0, .int .i64 0] 76 (0, 0)) := by rw [hwn]; exact al_neww rfl _
    have hbx : Below w5.heap.size w5 w6 := by rw [hwn]; exact Below.al (Below.refl _ _) _
    rw [← hwn]
    clear hwn
    have hVn := blkKeep2 hbx hV
    have hRn := blkKeep2 hbx hR
    have hTn := blkKeep2 hbx hT
    have bwn : Below w.heap.size w w6 := bw.trans (hbx.mono bw.size)
    clear hbx hV hR hT bw
    have hV := hVn
    clear hVn
    have hR := hRn
    clear hRn
    have hT := hTn
    clear hTn
    have bw := bwn
    clear bwn
    obtain ⟨⟨t0, t1, t2, t3, t4, t5, t6, t7, t8, t9⟩, f0, f1, f2, f3, f4, f5, f6, f7, f8, f9⟩ := cells10 hT
    obtain ⟨⟨r0, r1, r2, r3, r4, r5, r6, r7, r8, r9⟩, q0, q1, q2, q3, q4, q5, q6, q7, q8, q9⟩ := cells10 hR
    refine Lib.hid ?_
    go_wp2
    refine bodyPost_ret_by (results_cell_row Try.results55 _ _ (w.heap.size + 1) 50 #[.int .i64 0, .int .i64 0, .int .u32 0, .int .u32 0, .int .i64 0, .int .i64 0, .int .i64 (X : Int), .int .i64 (Y : Int), .int .i64 0, .int .i64 0] (0, 0) _ rfl (heap_set10w hR (.int .i64 0) (.int .i64 0) (.int .u32 0) (.int .u32 0) (.int .i64 0) (.int .i64 0) (.int .i64 (X : Int)) (.int .i64 (Y : Int)) (.int .i64 0) (.int .i64 0)) Try.underlying50 rfl (by kernel_rfl)) rfl ⟨rfl, ?_⟩
    exact below_set10 bw (by omega) _ _ _ _ _ _ _ _ _ _

set_option maxHeartbeats 2000000 in
set_option maxRecDepth 100000 in
theorem fields_echo (q : Int) (hq : q = 1 ∨ q = 58) (g o n c : Nat) (l : List UInt8) (vv : Bool) (vhd vtt vttl vsH vsL vdH vdL : Int) (vfr : Bool) (vid voff : Int) (vmo : Bool) {w : World} (hn : l.length = n) (h8 : 8 ≤ n) (hc : n ≤ c) (hcm : c ≤ 9223372036854775807) (hb : Byt w g o l) (he : echoP vv (byN l 0) = true) :
    Calls Try.prog 55 #[.slice (some ⟨g, o, none⟩) n c, .agg #[.bool vv, .int .i64 vhd, .int .i64 vtt, .int .i64 vttl, .int .i64 q, .int .u64 vsH, .int .u64 vsL, .int .u64 vdH, .int .u64 vdL, .bool vfr, .int .u32 vid, .int .i64 voff, .bool vmo]] w fun e w' => e = .returned (.agg (tcells ⟨nbN l 4 2, nbN l 4 2, 0, 0, 0, 0, byN l 0, byN l 1, 0, 0⟩)) ∧ Below w.heap.size w w' := by
  have h : BytArg w (some ⟨g, o, none⟩) n c l := ⟨hn, hc, by unfold maxLen; omega, fun _ => ⟨g, o, rfl, hb⟩⟩
  have cp := fun (W : World) (hw : Below w.heap.size w W) => ports_any _ n c l vv q (h.below hw) (fun h => by omega)
  rw [show ppP l vv q = (4, 4, true) by rcases hq with rfl | rfl <;> simp [ppP, he]] at cp
  have c0 := by_cell hb hn 0 (by omega)
  have c1 := by_cell hb hn 1 (by omega)
  rw [Nat.add_zero] at c0
  have hgb := World.block_lt_of_cell? _ _ c0
  simp only at hgb
  have hX := byN_lt l 0
  have hY := byN_lt l 1
  have cr : ∀ (W : World) (hw : Below w.heap.size w W), Calls Try.prog 78 #[.agg #[.int .i64 4, .int .i64 4], .slice (some ⟨g, o, none⟩) n c] W fun e w' => e = .returned (.tuple #[.int .i64 (nbN l 4 2 : Nat), .int .i64 (nbN l 4 2 : Nat)]) ∧ Below W.heap.size W w' := fun W hw => read_any g o c n 4 4 l hn (by omega) (by omega) (by omega) (by omega) hc hcm (hb.below hw)
  generalize nbN l 4 2 = S0 at *
  generalize byN l 0 = X at *
  generalize byN l 1 = Y at *
  have wX : IntKind.i64.wrap (X : Int) = (X : Int) := by rw [IntKind.wrap_i64]; omega
  have wY : IntKind.i64.wrap (Y : Int) = (Y : Int) := by rw [IntKind.wrap_i64]; omega
  have j0 : (0 : Int) < (n : Int) := by omega
  have j1 : (1 : Int) < (n : Int) := by omega
  have k0 : 0 < n := by omega
  have k1 : 1 < n := by omega
  simp only [tcells]
  clear h hb hn he
  rcases hq with rfl | rfl
  · skip
    go_enter Try.func55, Try.ntmps55
    go_wp2_with (with_reducible refine stop_op (o := ⟨some 10, _, _, _, _, _⟩) ?_)
    obtain ⟨w3, hw3⟩ : ∃ x, x = ((w.alloc (.cells #[.bool vv, .int .i64 vhd, .int .i64 vtt, .int .i64 vttl, .int .i64 1, .int .u64 vsH, .int .u64 vsL, .int .u64 vdH, .int .u64 vdL, .bool vfr, .int .u32 vid, .int .i64 voff, .bool vmo] 40)).alloc (.cells #[.int .i64 0, .int .i64 0, .int .u32 0, .int .u32 0, .int .i64 0, .int .i64 0, .int .i64 0, .int .i64 0, .int .i64 0, .int .i64 0] 50)).alloc (.cells #[.int .i64 0, .int .i64 0, .int .u32 0, .int .u32 0, .int .i64 0, .int .i64 0, .int .i64 0, .int .i64 0, .int .i64 0, .int .i64 0] 50) := ⟨_, rfl⟩
    have hV : w3.heap[w.heap.size]? = some (.cells #[.bool vv, .int .i64 vhd, .int .i64 vtt, .int .i64 vttl, .int .i64 1, .int .u64 vsH, .int .u64 vsL, .int .u64 vdH, .int .u64 vdL, .bool vfr, .int .u32 vid, .int .i64 voff, .bool vmo] 40 (0, 0)) := by rw [hw3]; exact (al_oldw (by first | (simp; done) | (simp; omega)) _).trans ((al_oldw (by first | (simp; done) | (simp; omega)) _).trans (al_neww rfl _))
    have hR : w3.heap[w.heap.size + 1]? = some (.cells #[.int .i64 0, .int .i64 0, .int .u32 0, .int .u32 0, .int .i64 0, .int .i64 0, .int .i64 0, .int .i64 0, .int .i64 0, .int .i64 0] 50 (0, 0)) := by rw [hw3]; exact (al_oldw (by first | (simp; done) | (simp; omega)) _).trans (al_neww (by simp) _)
    have hT : w3.heap[w.heap.size + 1 + 1]? = some (.cells #[.int .i64 0, .int .i64 0, .int .u32 0, .int .u32 0, .int .i64 0, .int .i64 0, .int .i64 0, .int .i64 0, .int .i64 0, .int .i64 0] 50 (0, 0)) := by rw [hw3]; exact al_neww (by simp) _
    have bw : Below w.heap.size w w3 := by rw [hw3]; exact Below.al (Below.al (Below.al (Below.refl _ _) _) _) _
    rw [← hw3]
    clear hw3
    obtain ⟨⟨v0, v1, v2, v3, v4, v5, v6, v7, v8, v9, v10, v11, v12⟩, _⟩ := cells13 hV
    refine Lib.hid ?_
    obtain ⟨⟨t0, t1, t2, t3, t4, t5, t6, t7, t8, t9⟩, f0, f1, f2, f3, f4, f5, f6, f7, f8, f9⟩ := cells10 hT
    have d0 := keepc bw c0
    have d1 := keepc bw c1
    go_wp2_with fail
    go_region
    clear v0 v1 v2 v3 v4 v5 v6 v7 v8 v9 v10 v11 v12 t0 t1 t2 t3 t4 t5 t6 t7 t8 t9 f0 f1 f2 f3 f4 f5 f6 f7 f8 f9 d0 d1
    obtain ⟨w4, hwn⟩ : ∃ x, x = World.drew (((w3).setCell ⟨w.heap.size + 1 + 1, 6, none⟩ (.int .i64 (X : Int))).setCell ⟨w.heap.size + 1 + 1, 7, none⟩ (.int .i64 (Y : Int))) := ⟨_, rfl⟩
    have hTn : w4.heap[w.heap.size + 1 + 1]? = some (.cells #[.int .i64 0, .int .i64 0, .int .u32 0, .int .u32 0, .int .i64 0, .int .i64 0, .int .i64 (X : Int), .int .i64 (Y : Int), .int .i64 0, .int .i64 0] 50 (0, 0)) := by rw [hwn]; show (((w3).setCell ⟨w.heap.size + 1 + 1, 6, none⟩ (.int .i64 (X : Int))).setCell ⟨w.heap.size + 1 + 1, 7, none⟩ (.int .i64 (Y : Int))).heap[w.heap.size + 1 + 1]? = _; rw [heap_setw (heap_setw hT 6 _) 7 _]; kernel_rfl
    have hRn : w4.heap[w.heap.size + 1]? = some (.cells #[.int .i64 0, .int .i64 0, .int .u32 0, .int .u32 0, .int .i64 0, .int .i64 0, .int .i64 0, .int .i64 0, .int .i64 0, .int .i64 0] 50 (0, 0)) := by rw [hwn]; show (((w3).setCell ⟨w.heap.size + 1 + 1, 6, none⟩ (.int .i64 (X : Int))).setCell ⟨w.heap.size + 1 + 1, 7, none⟩ (.int .i64 (Y : Int))).heap[w.heap.size + 1]? = _; rw [set_other (by omega), set_other (by omega)]; exact hR
    have hVn : w4.heap[w.heap.size]? = some (.cells #[.bool vv, .int .i64 vhd, .int .i64 vtt, .int .i64 vttl, .int .i64 1, .int .u64 vsH, .int .u64 vsL, .int .u64 vdH, .int .u64 vdL, .bool vfr, .int .u32 vid, .int .i64 voff, .bool vmo] 40 (0, 0)) := by rw [hwn]; show (((w3).setCell ⟨w.heap.size + 1 + 1, 6, none⟩ (.int .i64 (X : Int))).setCell ⟨w.heap.size + 1 + 1, 7, none⟩ (.int .i64 (Y : Int))).heap[w.heap.size]? = _; rw [set_other (by omega), set_other (by omega)]; exact hV
    have bwn : Below w.heap.size w w4 := by rw [hwn]; exact Below.dr (below_set (below_set bw (by omega) 6 _) (by omega) 7 _)
    rw [← hwn]
    clear hwn hV hR hT bw
    have hV := hVn
    have hR := hRn
    have hT := hTn
    have bw := bwn
    clear hRn hTn bwn hVn
    obtain ⟨⟨v0, v1, v2, v3, v4, v5, v6, v7, v8, v9, v10, v11, v12⟩, _⟩ := cells13 hV
    go_wp2_with (go_at_call 34; refine (cp _ bw).mono ?_; rintro e w5 ⟨rfl, hbx⟩; refine Hid.out ?_)
    have hVn := blkKeep2 hbx hV
    have hRn := blkKeep2 hbx hR
    have hTn := blkKeep2 hbx hT
    have bwn : Below w.heap.size w w5 := bw.trans (hbx.mono bw.size)
    clear hbx hV hR hT bw
    have hV := hVn
    clear hVn
    have hR := hRn
    clear hRn
    have hT := hTn
    clear hTn
    have bw := bwn
    clear bwn
    refine Lib.hid ?_
    go_wp2_with (with_reducible refine stop_op (o := ⟨some 58, _, _, _, _, _⟩) ?_)
    obtain ⟨w6, hwn⟩ : ∃ x, x = w5.alloc (.cells #[.int .i64 4, .int .i64 4] 76) := ⟨_, rfl⟩
    have hN : w6.heap[w5.heap.size]? = some (.cells #[.int .i64 4, .int .i64 4] 76 (0, 0)) := by rw [hwn]; exact al_neww rfl _
    have hbx : Below w5.heap.size w5 w6 := by rw [hwn]; exact Below.al (Below.refl _ _) _
    rw [← hwn]
    clear hwn
    have hVn := blkKeep2 hbx hV
    have hRn := blkKeep2 hbx hR
    have hTn := blkKeep2 hbx hT
    have bwn : Below w.heap.size w w6 := bw.trans (hbx.mono bw.size)
    clear hbx hV hR hT bw
    have hV := hVn
    clear hVn
    have hR := hRn
    clear hRn
    have hT := hTn
    clear hTn
    have bw := bwn
    clear bwn
    obtain ⟨n0, n1, _⟩ := cells2 hN
    refine Lib.hid ?_
    go_wp2_with (go_at_call 78; refine (cr _ bw).mono ?_; rintro e w7 ⟨rfl, hbx⟩; refine Hid.out ?_)
    have hVn := blkKeep2 hbx hV
    have hRn := blkKeep2 hbx hR
    have hTn := blkKeep2 hbx hT
    have bwn : Below w.heap.size w w7 := bw.trans (hbx.mono bw.size)
    clear hbx hV hR hT bw
    have hV := hVn
    clear hVn
    have hR := hRn
    clear hRn
    have hT := hTn
    clear hTn
    have bw := bwn
    clear bwn
    obtain ⟨⟨t0, t1, t2, t3, t4, t5, t6, t7, t8, t9⟩, f0, f1, f2, f3, f4, f5, f6, f7, f8, f9⟩ := cells10 hT
    refine Lib.hid ?_
    go_wp2_with (with_reducible refine stop_op (o := ⟨some 65, _, _, _, _, _⟩) ?_)
    obtain ⟨w8, hwn⟩ : ∃ x, x = (w7.setCell ⟨w.heap.size + 1 + 1, 0, none⟩ (.int .i64 (S0 : Int))).setCell ⟨w.heap.size + 1 + 1, 1, none⟩ (.int .i64 (S0 : Int)) := ⟨_, rfl⟩
    have hTn : w8.heap[w.heap.size + 1 + 1]? = some (.cells #[.int .i64 (S0 : Int), .int .i64 (S0 : Int), .int .u32 0, .int .u32 0, .int .i64 0, .int .i64 0, .int .i64 (X : Int), .int .i64 (Y : Int), .int .i64 0, .int .i64 0] 50 (0, 0)) := by rw [hwn, heap_setw (heap_setw hT 0 _) 1 _]; kernel_rfl
    have hRn : w8.heap[w.heap.size + 1]? = some (.cells #[.int .i64 0, .int .i64 0, .int .u32 0, .int .u32 0, .int .i64 0, .int .i64 0, .int .i64 0, .int .i64 0, .int .i64 0, .int .i64 0] 50 (0, 0)) := by rw [hwn, set_other (by omega), set_other (by omega)]; exact hR
    have bwn : Below w.heap.size w w8 := by rw [hwn]; exact below_set (below_set bw (by omega) 0 _) (by omega) 1 _
    rw [← hwn]
    clear hwn hV hR hT bw
    have hR := hRn
    have hT := hTn
    have bw := bwn
    clear hRn hTn bwn
    obtain ⟨⟨t0, t1, t2, t3, t4, t5, t6, t7, t8, t9⟩, f0, f1, f2, f3, f4, f5, f6, f7, f8, f9⟩ := cells10 hT
    obtain ⟨⟨r0, r1, r2, r3, r4, r5, r6, r7, r8, r9⟩, q0, q1, q2, q3, q4, q5, q6, q7, q8, q9⟩ := cells10 hR
    refine Lib.hid ?_
    go_wp2
    refine bodyPost_ret_by (results_cell_row Try.results55 _ _ (w.heap.size + 1) 50 #[.int .i64 (S0 : Int), .int .i64 (S0 : Int), .int .u32 0, .int .u32 0, .int .i64 0, .int .i64 0, .int .i64 (X : Int), .int .i64 (Y : Int), .int .i64 0, .int .i64 0] (0, 0) _ rfl (heap_set10w hR (.int .i64 (S0 : Int)) (.int .i64 (S0 : Int)) (.int .u32 0) (.int .u32 0) (.int .i64 0) (.int .i64 0) (.int .i64 (X : Int)) (.int .i64 (Y : Int)) (.int .i64 0) (.int .i64 0)) Try.underlying50 rfl (by kernel_rfl)) rfl ⟨rfl, ?_⟩
    exact below_set10 bw (by omega) _ _ _ _ _ _ _ _ _ _
  · skip
    go_enter Try.func55, Try.ntmps55
    go_wp2_with (with_reducible refine stop_op (o := ⟨some 10, _, _, _, _, _⟩) ?_)
    obtain ⟨w3, hw3⟩ : ∃ x, x = ((w.alloc (.cells #[.bool vv, .int .i64 vhd, .int .i64 vtt, .int .i64 vttl, .int .i64 58, .int .u64 vsH, .int .u64 vsL, .int .u64 vdH, .int .u64 vdL, .bool vfr, .int .u32 vid, .int .i64 voff, .bool vmo] 40)).alloc (.cells #[.int .i64 0, .int .i64 0, .int .u32 0, .int .u32 0, .int .i64 0, .int .i64 0, .int .i64 0, .int .i64 0, .int .i64 0, .int .i64 0] 50)).alloc (.cells #[.int .i64 0, .int .i64 0, .int .u32 0, .int .u32 0, .int .i64 0, .int .i64 0, .int .i64 0, .int .i64 0, .int .i64 0, .int .i64 0] 50) := ⟨_, rfl⟩
    have hV : w3.heap[w.heap.size]? = some (.cells #[.bool vv, .int .i64 vhd, .int .i64 vtt, .int .i64 vttl, .int .i64 58, .int .u64 vsH, .int .u64 vsL, .int .u64 vdH, .int .u64 vdL, .bool vfr, .int .u32 vid, .int .i64 voff, .bool vmo] 40 (0, 0)) := by rw [hw3]; exact (al_oldw (by first | (simp; done) | (simp; omega)) _).trans ((al_oldw (by first | (simp; done) | (simp; omega)) _).trans (al_neww rfl _))
    have hR : w3.heap[w.heap.size + 1]? = some (.cells #[.int .i64 0, .int .i64 0, .int .u32 0, .int .u32 0, .int .i64 0, .int .i64 0, .int .i64 0, .int .i64 0, .int .i64 0, .int .i64 0] 50 (0, 0)) := by rw [hw3]; exact (al_oldw (by first | (simp; done) | (simp; omega)) _).trans (al_neww (by simp) _)
    have hT : w3.heap[w.heap.size + 1 + 1]? = some (.cells #[.int .i64 0, .int .i64 0, .int .u32 0, .int .u32 0, .int .i64 0, .int .i64 0, .int .i64 0, .int .i64 0, .int .i64 0, .int .i64 0] 50 (0, 0)) := by rw [hw3]; exact al_neww (by simp) _
    have bw : Below w.heap.size w w3 := by rw [hw3]; exact Below.al (Below.al (Below.al (Below.refl _ _) _) _) _
    rw [← hw3]
    clear hw3
    obtain ⟨⟨v0, v1, v2, v3, v4, v5, v6, v7, v8, v9, v10, v11, v12⟩, _⟩ := cells13 hV
    refine Lib.hid ?_
    obtain ⟨⟨t0, t1, t2, t3, t4, t5, t6, t7, t8, t9⟩, f0, f1, f2, f3, f4, f5, f6, f7, f8, f9⟩ := cells10 hT
    have d0 := keepc bw c0
    have d1 := keepc bw c1
    go_wp2_with fail
    go_region
    clear v0 v1 v2 v3 v4 v5 v6 v7 v8 v9 v10 v11 v12 t0 t1 t2 t3 t4 t5 t6 t7 t8 t9 f0 f1 f2 f3 f4 f5 f6 f7 f8 f9 d0 d1
    obtain ⟨w4, hwn⟩ : ∃ x, x = World.drew (((w3).setCell ⟨w.heap.size + 1 + 1, 6, none⟩ (.int .i64 (X : Int))).setCell ⟨w.heap.size + 1 + 1, 7, none⟩ (.int .i64 (Y : Int))) := ⟨_, rfl⟩
    have hTn : w4.heap[w.heap.size + 1 + 1]? = some (.cells #[.int .i64 0, .int .i64 0, .int .u32 0, .int .u32 0, .int .i64 0, .int .i64 0, .int .i64 (X : Int), .int .i64 (Y : Int), .int .i64 0, .int .i64 0] 50 (0, 0)) := by rw [hwn]; show (((w3).setCell ⟨w.heap.size + 1 + 1, 6, none⟩ (.int .i64 (X : Int))).setCell ⟨w.heap.size + 1 + 1, 7, none⟩ (.int .i64 (Y : Int))).heap[w.heap.size + 1 + 1]? = _; rw [heap_setw (heap_setw hT 6 _) 7 _]; kernel_rfl
    have hRn : w4.heap[w.heap.size + 1]? = some (.cells #[.int .i64 0, .int .i64 0, .int .u32 0, .int .u32 0, .int .i64 0, .int .i64 0, .int .i64 0, .int .i64 0, .int .i64 0, .int .i64 0] 50 (0, 0)) := by rw [hwn]; show (((w3).setCell ⟨w.heap.size + 1 + 1, 6, none⟩ (.int .i64 (X : Int))).setCell ⟨w.heap.size + 1 + 1, 7, none⟩ (.int .i64 (Y : Int))).heap[w.heap.size + 1]? = _; rw [set_other (by omega), set_other (by omega)]; exact hR
    have hVn : w4.heap[w.heap.size]? = some (.cells #[.bool vv, .int .i64 vhd, .int .i64 vtt, .int .i64 vttl, .int .i64 58, .int .u64 vsH, .int .u64 vsL, .int .u64 vdH, .int .u64 vdL, .bool vfr, .int .u32 vid, .int .i64 voff, .bool vmo] 40 (0, 0)) := by rw [hwn]; show (((w3).setCell ⟨w.heap.size + 1 + 1, 6, none⟩ (.int .i64 (X : Int))).setCell ⟨w.heap.size + 1 + 1, 7, none⟩ (.int .i64 (Y : Int))).heap[w.heap.size]? = _; rw [set_other (by omega), set_other (by omega)]; exact hV
    have bwn : Below w.heap.size w w4 := by rw [hwn]; exact Below.dr (below_set (below_set bw (by omega) 6 _) (by omega) 7 _)
    rw [← hwn]
    clear hwn hV hR hT bw
    have hV := hVn
    have hR := hRn
    have hT := hTn
    have bw := bwn
    clear hRn hTn bwn hVn
    obtain ⟨⟨v0, v1, v2, v3, v4, v5, v6, v7, v8, v9, v10, v11, v12⟩, _⟩ := cells13 hV
    go_wp2_with (go_at_call 34; refine (cp _ bw).mono ?_; rintro e w5 ⟨rfl, hbx⟩; refine Hid.out ?_)
    have hVn := blkKeep2 hbx hV
    have hRn := blkKeep2 hbx hR
    have hTn := blkKeep2 hbx hT
    have bwn : Below w.heap.size w w5 := bw.trans (hbx.mono bw.size)
    clear hbx hV hR hT bw
    have hV := hVn
    clear hVn
    have hR := hRn
    clear hRn
    have hT := hTn
    clear hTn
    have bw := bwn
    clear bwn
    refine Lib.hid ?_
    go_wp2_with (with_reducible refine stop_op (o := ⟨some 58, _, _, _, _, _⟩) ?_)
    obtain ⟨w6, hwn⟩ : ∃ x, x = w5.alloc (.cells #[.int .i64 4, .int .i64 4] 76) := ⟨_, rfl⟩
    have hN : w6.heap[w5.heap.size]? = some (.cells #[.int .i64 4, .int .i64 4] 76 (0, 0)) := by rw [hwn]; exact al_neww rfl _
    have hbx : Below w5.heap.size w5 w6 := by rw [hwn]; exact Below.al (Below.refl _ _) _
    rw [← hwn]
    clear hwn
    have hVn := blkKeep2 hbx hV
    have hRn := blkKeep2 hbx hR
    have hTn := blkKeep2 hbx hT
    have bwn : Below w.heap.size w w6 := bw.trans (hbx.mono bw.size)
    clear hbx hV hR hT bw
    have hV := hVn
    clear hVn
    have hR := hRn
    clear hRn
    have hT := hTn
    clear hTn
    have bw := bwn
    clear bwn
    obtain ⟨n0, n1, _⟩ := cells2 hN
    refine Lib.hid ?_
    go_wp2_with (go_at_call 78; refine (cr _ bw).mono ?_; rintro e w7 ⟨rfl, hbx⟩; refine Hid.out ?_)
    have hVn := blkKeep2 hbx hV
    have hRn := blkKeep2 hbx hR
    have hTn := blkKeep2 hbx hT
    have bwn : Below w.heap.size w w7 := bw.trans (hbx.mono bw.size)
    clear hbx hV hR hT bw
    have hV := hVn
    clear hVn
    have hR := hRn
    clear hRn
    have hT := hTn
    clear hTn
    have bw := bwn
    clear bwn
    obtain ⟨⟨t0, t1, t2, t3, t4, t5, t6, t7, t8, t9⟩, f0, f1, f2, f3, f4, f5, f6, f7, f8, f9⟩ := cells10 hT
    refine Lib.hid ?_
    go_wp2_with (with_reducible refine stop_op (o := ⟨some 65, _, _, _, _, _⟩) ?_)
    obtain ⟨w8, hwn⟩ : ∃ x, x = (w7.setCell ⟨w.heap.size + 1 + 1, 0, none⟩ (.int .i64 (S0 : Int))).setCell ⟨w.heap.size + 1 + 1, 1, none⟩ (.int .i64 (S0 : Int)) := ⟨_, rfl⟩
    have hTn : w8.heap[w.heap.size + 1 + 1]? = some (.cells #[.int .i64 (S0 : Int), .int .i64 (S0 : Int), .int .u32 0, .int .u32 0, .int .i64 0, .int .i64 0, .int .i64 (X : Int), .int .i64 (Y : Int), .int .i64 0, .int .i64 0] 50 (0, 0)) := by rw [hwn, heap_setw (heap_setw hT 0 _) 1 _]; kernel_rfl
    have hRn : w8.heap[w.heap.size + 1]? = some (.cells #[.int .i64 0, .int .i64 0, .int .u32 0, .int .u32 0, .int .i64 0, .int .i64 0, .int .i64 0, .int .i64 0, .int .i64 0, .int .i64 0] 50 (0, 0)) := by rw [hwn, set_other (by omega), set_other (by omega)]; exact hR
    have bwn : Below w.heap.size w w8 := by rw [hwn]; exact below_set (below_set bw (by omega) 0 _) (by omega) 1 _
    rw [← hwn]
    clear hwn hV hR hT bw
    have hR := hRn
    have hT := hTn
    have bw := bwn
    clear hRn hTn bwn
    obtain ⟨⟨t0, t1, t2, t3, t4, t5, t6, t7, t8, t9⟩, f0, f1, f2, f3, f4, f5, f6, f7, f8, f9⟩ := cells10 hT
    obtain ⟨⟨r0, r1, r2, r3, r4, r5, r6, r7, r8, r9⟩, q0, q1, q2, q3, q4, q5, q6, q7, q8, q9⟩ := cells10 hR
    refine Lib.hid ?_
    go_wp2
    refine bodyPost_ret_by (results_cell_row Try.results55 _ _ (w.heap.size + 1) 50 #[.int .i64 (S0 : Int), .int .i64 (S0 : Int), .int .u32 0, .int .u32 0, .int .i64 0, .int .i64 0, .int .i64 (X : Int), .int .i64 (Y : Int), .int .i64 0, .int .i64 0] (0, 0) _ rfl (heap_set10w hR (.int .i64 (S0 : Int)) (.int .i64 (S0 : Int)) (.int .u32 0) (.int .u32 0) (.int .i64 0) (.int .i64 0) (.int .i64 (X : Int)) (.int .i64 (Y : Int)) (.int .i64 0) (.int .i64 0)) Try.underlying50 rfl (by kernel_rfl)) rfl ⟨rfl, ?_⟩
    exact below_set10 bw (by omega) _ _ _ _ _ _ _ _ _ _

set_option maxHeartbeats 2000000 in
set_option maxRecDepth 100000 in
theorem fields_tcp (g o n c : Nat) (l : List UInt8) (vv : Bool) (vhd vtt vttl vsH vsL vdH vdL : Int) (vfr : Bool) (vid voff : Int) (vmo : Bool) {w : World} (hn : l.length = n) (h8 : 20 ≤ n) (hc : n ≤ c) (hcm : c ≤ 9223372036854775807) (hb : Byt w g o l) :
    Calls Try.prog 55 #[.slice (some ⟨g, o, none⟩) n c, .agg #[.bool vv, .int .i64 vhd, .int .i64 vtt, .int .i64 vttl, .int .i64 6, .int .u64 vsH, .int .u64 vsL, .int .u64 vdH, .int .u64 vdL, .bool vfr, .int .u32 vid, .int .i64 voff, .bool vmo]] w fun e w' => e = .returned (.agg (tcells ⟨nbN l 0 2, nbN l 2 2, nbN l 4 4, nbN l 8 4, byN l 13, nbN l 14 2, 0, 0, 0, 0⟩)) ∧ Below w.heap.size w w' := by
  have h : BytArg w (some ⟨g, o, none⟩) n c l := ⟨hn, hc, by unfold maxLen; omega, fun _ => ⟨g, o, rfl, hb⟩⟩
  have cp := fun (W : World) (hw : Below w.heap.size w W) => ports_any _ n c l vv 6 (h.below hw) (fun h => by omega)
  rw [show ppP l vv 6 = (0, 2, true) by simp [ppP]] at cp
  have cr : ∀ (W : World) (hw : Below w.heap.size w W), Calls Try.prog 78 #[.agg #[.int .i64 0, .int .i64 2], .slice (some ⟨g, o, none⟩) n c] W fun e w' => e = .returned (.tuple #[.int .i64 (nbN l 0 2 : Nat), .int .i64 (nbN l 2 2 : Nat)]) ∧ Below W.heap.size W w' := fun W hw => read_any g o c n 0 2 l hn (by omega) (by omega) (by omega) (by omega) hc hcm (hb.below hw)
  have cq : ∀ (W : World) (hw : Below w.heap.size w W), Calls Try.prog 77 #[.slice (some ⟨g, o + 4, none⟩) (n - 4) (c - 4), .int .i64 4] W fun e w' => e = .returned (.agg #[.int .u64 (nbN l 4 4 : Nat), .int .u64 (nbN l 8 4 : Nat)]) ∧ Below W.heap.size W w' := fun W hw => by
    have hs := (hb.below hw).sub 4 (n - 4)
    have := rpair4 g (o + 4) (c - 4) (n - 4) ((l.drop 4).take (n - 4)) (by rw [List.length_take, List.length_drop]; omega) (by omega) (by omega) (by omega) hs
    rw [List.take_take, Nat.min_eq_left (by omega), List.drop_take, List.take_take, Nat.min_eq_left (by omega), List.drop_drop] at this
    exact this
  have cw := nb_eq g o n c 14 2 l hn (by omega) (by omega) hb
  have c13 := by_cell hb hn 13 (by omega)
  have s4 := cut_l g o n c 4 (by omega) (by omega) hcm hc
  have s14 : ∀ W, (Instr.slice 22 (.slice (some ⟨g, o, none⟩) n c) (some (.int .i64 14)) (some (.int .i64 16)) none).run Try.prog W = .ok (.slice (some ⟨g, o + 14, none⟩) 2 (c - 14)) W := cut_lh g o n c 14 16 (by omega) (by omega) (by omega) hcm
  have h1 := nb4_lt l 4
  have h2 := nb4_lt l 8
  have h3 := byN_lt l 13
  have h4 := nb2_lt l 14
  generalize nbN l 0 2 = S0 at *
  generalize nbN l 2 2 = S2 at *
  generalize nbN l 4 4 = SQ at *
  generalize nbN l 8 4 = AK at *
  generalize byN l 13 = FL at *
  generalize nbN l 14 2 = WI at *
  have wq : IntKind.u32.wrap (SQ : Int) = (SQ : Int) := by rw [IntKind.wrap_u32]; omega
  have wa : IntKind.u32.wrap (AK : Int) = (AK : Int) := by rw [IntKind.wrap_u32]; omega
  have wf : IntKind.i64.wrap (FL : Int) = (FL : Int) := by rw [IntKind.wrap_i64]; omega
  have ww : IntKind.i64.wrap (WI : Int) = (WI : Int) := by rw [IntKind.wrap_i64]; omega
  have j13 : (13 : Int) < (n : Int) := by omega
  have k13 : 13 < n := by omega
  have j4 : (4 : Int) ≤ (n : Int) := by omega
  have k4 : 4 ≤ n := by omega
  have i1 : (SQ : Int) < 4294967296 := by omega
  have i2 : (AK : Int) < 4294967296 := by omega
  have i3 : (FL : Int) < 256 := by omega
  have i4 : (WI : Int) < 65536 := by omega
  simp only [tcells]
  clear h hb hn
  go_enter Try.func55, Try.ntmps55
  go_wp2_with (with_reducible refine stop_op (o := ⟨some 10, _, _, _, _, _⟩) ?_)
  obtain ⟨w3, hw3⟩ : ∃ x, x = ((w.alloc (.cells #[.bool vv, .int .i64 vhd, .int .i64 vtt, .int .i64 vttl, .int .i64 6, .int .u64 vsH, .int .u64 vsL, .int .u64 vdH, .int .u64 vdL, .bool vfr, .int .u32 vid, .int .i64 voff, .bool vmo] 40)).alloc (.cells #[.int .i64 0, .int .i64 0, .int .u32 0, .int .u32 0, .int .i64 0, .int .i64 0, .int .i64 0, .int .i64 0, .int .i64 0, .int .i64 0] 50)).alloc (.cells #[.int .i64 0, .int .i64 0, .int .u32 0, .int .u32 0, .int .i64 0, .int .i64 0, .int .i64 0, .int .i64 0, .int .i64 0, .int .i64 0] 50) := ⟨_, rfl⟩
  have hV : w3.heap[w.heap.size]? = some (.cells #[.bool vv, .int .i64 vhd, .int .i64 vtt, .int .i64 vttl, .int .i64 6, .int .u64 vsH, .int .u64 vsL, .int .u64 vdH, .int .u64 vdL, .bool vfr, .int .u32 vid, .int .i64 voff, .bool vmo] 40 (0, 0)) := by rw [hw3]; exact (al_oldw (by first | (simp; done) | (simp; omega)) _).trans ((al_oldw (by first | (simp; done) | (simp; omega)) _).trans (al_neww rfl _))
  have hR : w3.heap[w.heap.size + 1]? = some (.cells #[.int .i64 0, .int .i64 0, .int .u32 0, .int .u32 0, .int .i64 0, .int .i64 0, .int .i64 0, .int .i64 0, .int .i64 0, .int .i64 0] 50 (0, 0)) := by rw [hw3]; exact (al_oldw (by first | (simp; done) | (simp; omega)) _).trans (al_neww (by simp) _)
  have hT : w3.heap[w.heap.size + 1 + 1]? = some (.cells #[.int .i64 0, .int .i64 0, .int .u32 0, .int .u32 0, .int .i64 0, .int .i64 0, .int .i64 0, .int .i64 0, .int .i64 0, .int .i64 0] 50 (0, 0)) := by rw [hw3]; exact al_neww (by simp) _
  have bw : Below w.heap.size w w3 := by rw [hw3]; exact Below.al (Below.al (Below.al (Below.refl _ _) _) _) _
  rw [← hw3]
  clear hw3
  obtain ⟨⟨v0, v1, v2, v3, v4, v5, v6, v7, v8, v9, v10, v11, v12⟩, _⟩ := cells13 hV
  refine Lib.hid ?_
  go_wp2_with (go_at_call 77; refine (cq _ bw).mono ?_; rintro e w4 ⟨rfl, hbx⟩; refine Hid.out ?_)
  have hVn := blkKeep2 hbx hV
  have hRn := blkKeep2 hbx hR
  have hTn := blkKeep2 hbx hT
  have bwn : Below w.heap.size w w4 := bw.trans (hbx.mono bw.size)
  clear hbx hV hR hT bw
  have hV := hVn
  clear hVn
  have hR := hRn
  clear hRn
  have hT := hTn
  clear hTn
  have bw := bwn
  clear bwn
  refine Lib.hid ?_
  go_wp2_with fail
  obtain ⟨w5, hwn⟩ : ∃ x, x = w4.alloc (.cells #[.int .u64 (SQ : Int), .int .u64 (AK : Int)] 102) := ⟨_, rfl⟩
  have hN : w5.heap[w4.heap.size]? = some (.cells #[.int .u64 (SQ : Int), .int .u64 (AK : Int)] 102 (0, 0)) := by rw [hwn]; exact al_neww rfl _
  have hbx : Below w4.heap.size w4 w5 := by rw [hwn]; exact Below.al (Below.refl _ _) _
  rw [← hwn]
  clear hwn
  have hVn := blkKeep2 hbx hV
  have hRn := blkKeep2 hbx hR
  have hTn := blkKeep2 hbx hT
  have bwn : Below w.heap.size w w5 := bw.trans (hbx.mono bw.size)
  clear hbx hV hR hT bw
  have hV := hVn
  clear hVn
  have hR := hRn
  clear hRn
  have hT := hTn
  clear hTn
  have bw := bwn
  clear bwn
  obtain ⟨n0, n1, _⟩ := cells2 hN
  obtain ⟨⟨t0, t1, t2, t3, t4, t5, t6, t7, t8, t9⟩, f0, f1, f2, f3, f4, f5, f6, f7, f8, f9⟩ := cells10 hT
  go_region
  clear n0 n1 t0 t1 t2 t3 t4 t5 t6 t7 t8 t9 f0 f1 f2 f3 f4 f5 f6 f7 f8 f9
  obtain ⟨w6, hwn⟩ : ∃ x, x = World.drew (((w5).setCell ⟨w.heap.size + 1 + 1, 2, none⟩ (.int .u32 (SQ : Int))).setCell ⟨w.heap.size + 1 + 1, 3, none⟩ (.int .u32 (AK : Int))) := ⟨_, rfl⟩
  have hTn : w6.heap[w.heap.size + 1 + 1]? = some (.cells #[.int .i64 0, .int .i64 0, .int .u32 (SQ : Int), .int .u32 (AK : Int), .int .i64 0, .int .i64 0, .int .i64 0, .int .i64 0, .int .i64 0, .int .i64 0] 50 (0, 0)) := by rw [hwn]; show (((w5).setCell ⟨w.heap.size + 1 + 1, 2, none⟩ (.int .u32 (SQ : Int))).setCell ⟨w.heap.size + 1 + 1, 3, none⟩ (.int .u32 (AK : Int))).heap[w.heap.size + 1 + 1]? = _; rw [heap_setw (heap_setw hT 2 _) 3 _]; kernel_rfl
  have hRn : w6.heap[w.heap.size + 1]? = some (.cells #[.int .i64 0, .int .i64 0, .int .u32 0, .int .u32 0, .int .i64 0, .int .i64 0, .int .i64 0, .int .i64 0, .int .i64 0, .int .i64 0] 50 (0, 0)) := by rw [hwn]; show (((w5).setCell ⟨w.heap.size + 1 + 1, 2, none⟩ (.int .u32 (SQ : Int))).setCell ⟨w.heap.size + 1 + 1, 3, none⟩ (.int .u32 (AK : Int))).heap[w.heap.size + 1]? = _; rw [set_other (by omega), set_other (by omega)]; exact hR
  have hVn : w6.heap[w.heap.size]? = some (.cells #[.bool vv, .int .i64 vhd, .int .i64 vtt, .int .i64 vttl, .int .i64 6, .int .u64 vsH, .int .u64 vsL, .int .u64 vdH, .int .u64 vdL, .bool vfr, .int .u32 vid, .int .i64 voff, .bool vmo] 40 (0, 0)) := by rw [hwn]; show (((w5).setCell ⟨w.heap.size + 1 + 1, 2, none⟩ (.int .u32 (SQ : Int))).setCell ⟨w.heap.size + 1 + 1, 3, none⟩ (.int .u32 (AK : Int))).heap[w.heap.size]? = _; rw [set_other (by omega), set_other (by omega)]; exact hV
  have bwn : Below w.heap.size w w6 := by rw [hwn]; exact Below.dr (below_set (below_set bw (by omega) 2 _) (by omega) 3 _)
  rw [← hwn]
  clear hwn hV hR hT bw
  have hV := hVn
  have hR := hRn
  have hT := hTn
  have bw := bwn
  clear hRn hTn bwn hVn
  obtain ⟨⟨t0, t1, t2, t3, t4, t5, t6, t7, t8, t9⟩, f0, f1, f2, f3, f4, f5, f6, f7, f8, f9⟩ := cells10 hT
  have d13 := keepc bw c13
  go_wp2_with (with_reducible refine stop_op (o := ⟨some 31, _, _, _, _, _⟩) ?_)
  clear d13 t0 t1 t2 t3 t4 t5 t6 t7 t8 t9 f0 f1 f2 f3 f4 f5 f6 f7 f8 f9
  obtain ⟨w7, hwn⟩ : ∃ x, x = (w6).setCell ⟨w.heap.size + 1 + 1, 4, none⟩ (.int .i64 (FL : Int)) := ⟨_, rfl⟩
  have hTn : w7.heap[w.heap.size + 1 + 1]? = some (.cells #[.int .i64 0, .int .i64 0, .int .u32 (SQ : Int), .int .u32 (AK : Int), .int .i64 (FL : Int), .int .i64 0, .int .i64 0, .int .i64 0, .int .i64 0, .int .i64 0] 50 (0, 0)) := by rw [hwn]; show ((w6).setCell ⟨w.heap.size + 1 + 1, 4, none⟩ (.int .i64 (FL : Int))).heap[w.heap.size + 1 + 1]? = _; rw [heap_setw hT 4 _]; kernel_rfl
  have hRn : w7.heap[w.heap.size + 1]? = some (.cells #[.int .i64 0, .int .i64 0, .int .u32 0, .int .u32 0, .int .i64 0, .int .i64 0, .int .i64 0, .int .i64 0, .int .i64 0, .int .i64 0] 50 (0, 0)) := by rw [hwn]; show ((w6).setCell ⟨w.heap.size + 1 + 1, 4, none⟩ (.int .i64 (FL : Int))).heap[w.heap.size + 1]? = _; rw [set_other (by omega)]; exact hR
  have hVn : w7.heap[w.heap.size]? = some (.cells #[.bool vv, .int .i64 vhd, .int .i64 vtt, .int .i64 vttl, .int .i64 6, .int .u64 vsH, .int .u64 vsL, .int .u64 vdH, .int .u64 vdL, .bool vfr, .int .u32 vid, .int .i64 voff, .bool vmo] 40 (0, 0)) := by rw [hwn]; show ((w6).setCell ⟨w.heap.size + 1 + 1, 4, none⟩ (.int .i64 (FL : Int))).heap[w.heap.size]? = _; rw [set_other (by omega)]; exact hV
  have bwn : Below w.heap.size w w7 := by rw [hwn]; exact below_set bw (by omega) 4 _
  rw [← hwn]
  clear hwn hV hR hT bw
  have hV := hVn
  have hR := hRn
  have hT := hTn
  have bw := bwn
  clear hRn hTn bwn hVn
  obtain ⟨⟨t0, t1, t2, t3, t4, t5, t6, t7, t8, t9⟩, f0, f1, f2, f3, f4, f5, f6, f7, f8, f9⟩ := cells10 hT
  obtain ⟨⟨v0, v1, v2, v3, v4, v5, v6, v7, v8, v9, v10, v11, v12⟩, _⟩ := cells13 hV
  have m14 := cw _ bw
  refine Lib.hid ?_
  go_wp2_with (first | (go_at_call 69; (with_reducible refine m14.mono ?_); rintro e w' ⟨rfl, rfl⟩) | (with_reducible refine stop_op (o := ⟨some 50, _, _, _, _, _⟩) ?_))
  clear m14 t0 t1 t2 t3 t4 t5 t6 t7 t8 t9 f0 f1 f2 f3 f4 f5 f6 f7 f8 f9 v0 v1 v2 v3 v4 v5 v6 v7 v8 v9 v10 v11 v12
  obtain ⟨w8, hwn⟩ : ∃ x, x = (w7).setCell ⟨w.heap.size + 1 + 1, 5, none⟩ (.int .i64 (WI : Int)) := ⟨_, rfl⟩
  have hTn : w8.heap[w.heap.size + 1 + 1]? = some (.cells #[.int .i64 0, .int .i64 0, .int .u32 (SQ : Int), .int .u32 (AK : Int), .int .i64 (FL : Int), .int .i64 (WI : Int), .int .i64 0, .int .i64 0, .int .i64 0, .int .i64 0] 50 (0, 0)) := by rw [hwn]; show ((w7).setCell ⟨w.heap.size + 1 + 1, 5, none⟩ (.int .i64 (WI : Int))).heap[w.heap.size + 1 + 1]? = _; rw [heap_setw hT 5 _]; kernel_rfl
  have hRn : w8.heap[w.heap.size + 1]? = some (.cells #[.int .i64 0, .int .i64 0, .int .u32 0, .int .u32 0, .int .i64 0, .int .i64 0, .int .i64 0, .int .i64 0, .int .i64 0, .int .i64 0] 50 (0, 0)) := by rw [hwn]; show ((w7).setCell ⟨w.heap.size + 1 + 1, 5, none⟩ (.int .i64 (WI : Int))).heap[w.heap.size + 1]? = _; rw [set_other (by omega)]; exact hR
  have hVn : w8.heap[w.heap.size]? = some (.cells #[.bool vv, .int .i64 vhd, .int .i64 vtt, .int .i64 vttl, .int .i64 6, .int .u64 vsH, .int .u64 vsL, .int .u64 vdH, .int .u64 vdL, .bool vfr, .int .u32 vid, .int .i64 voff, .bool vmo] 40 (0, 0)) := by rw [hwn]; show ((w7).setCell ⟨w.heap.size + 1 + 1, 5, none⟩ (.int .i64 (WI : Int))).heap[w.heap.size]? = _; rw [set_other (by omega)]; exact hV
  have bwn : Below w.heap.size w w8 := by rw [hwn]; exact below_set bw (by omega) 5 _
  rw [← hwn]
  clear hwn hV hR hT bw
  have hV := hVn
  have hR := hRn
  have hT := hTn
  have bw := bwn
  clear hRn hTn bwn hVn
  obtain ⟨⟨v0, v1, v2, v3, v4, v5, v6, v7, v8, v9, v10, v11, v12⟩, _⟩ := cells13 hV
  refine Lib.hid ?_
  go_wp2_with (go_at_call 34; refine (cp _ bw).mono ?_; rintro e w9 ⟨rfl, hbx⟩; refine Hid.out ?_)
  have hVn := blkKeep2 hbx hV
  have hRn := blkKeep2 hbx hR
  have hTn := blkKeep2 hbx hT
  have bwn : Below w.heap.size w w9 := bw.trans (hbx.mono bw.size)
  clear hbx hV hR hT bw
  have hV := hVn
  clear hVn
  have hR := hRn
  clear hRn
  have hT := hTn
  clear hTn
  have bw := bwn
  clear bwn
  refine Lib.hid ?_
  go_wp2_with (with_reducible refine stop_op (o := ⟨some 58, _, _, _, _, _⟩) ?_)
  obtain ⟨w10, hwn⟩ : ∃ x, x = w9.alloc (.cells #[.int .i64 0, .int .i64 2] 76) := ⟨_, rfl⟩
  have hN : w10.heap[w9.heap.size]? = some (.cells #[.int .i64 0, .int .i64 2] 76 (0, 0)) := by rw [hwn]; exact al_neww rfl _
  have hbx : Below w9.heap.size w9 w10 := by rw [hwn]; exact Below.al (Below.refl _ _) _
  rw [← hwn]
  clear hwn
  have hVn := blkKeep2 hbx hV
  have hRn := blkKeep2 hbx hR
  have hTn := blkKeep2 hbx hT
  have bwn : Below w.heap.size w w10 := bw.trans (hbx.mono bw.size)
  clear hbx hV hR hT bw
  have hV := hVn
  clear hVn
  have hR := hRn
  clear hRn
  have hT := hTn
  clear hTn
  have bw := bwn
  clear bwn
  obtain ⟨n0, n1, _⟩ := cells2 hN
  refine Lib.hid ?_
  go_wp2_with (go_at_call 78; refine (cr _ bw).mono ?_; rintro e w11 ⟨rfl, hbx⟩; refine Hid.out ?_)
  have hVn := blkKeep2 hbx hV
  have hRn := blkKeep2 hbx hR
  have hTn := blkKeep2 hbx hT
  have bwn : Below w.heap.size w w11 := bw.trans (hbx.mono bw.size)
  clear hbx hV hR hT bw
  have hV := hVn
  clear hVn
  have hR := hRn
  clear hRn
  have hT := hTn
  clear hTn
  have bw := bwn
  clear bwn
  obtain ⟨⟨t0, t1, t2, t3, t4, t5, t6, t7, t8, t9⟩, f0, f1, f2, f3, f4, f5, f6, f7, f8, f9⟩ := cells10 hT
  refine Lib.hid ?_
  go_wp2_with (with_reducible refine stop_op (o := ⟨some 65, _, _, _, _, _⟩) ?_)
  obtain ⟨w12, hwn⟩ : ∃ x, x = (w11.setCell ⟨w.heap.size + 1 + 1, 0, none⟩ (.int .i64 (S0 : Int))).setCell ⟨w.heap.size + 1 + 1, 1, none⟩ (.int .i64 (S2 : Int)) := ⟨_, rfl⟩
  have hTn : w12.heap[w.heap.size + 1 + 1]? = some (.cells #[.int .i64 (S0 : Int), .int .i64 (S2 : Int), .int .u32 (SQ : Int), .int .u32 (AK : Int), .int .i64 (FL : Int), .int .i64 (WI : Int), .int .i64 0, .int .i64 0, .int .i64 0, .int .i64 0] 50 (0, 0)) := by rw [hwn, heap_setw (heap_setw hT 0 _) 1 _]; kernel_rfl
  have hRn : w12.heap[w.heap.size + 1]? = some (.cells #[.int .i64 0, .int .i64 0, .int .u32 0, .int .u32 0, .int .i64 0, .int .i64 0, .int .i64 0, .int .i64 0, .int .i64 0, .int .i64 0] 50 (0, 0)) := by rw [hwn, set_other (by omega), set_other (by omega)]; exact hR
  have bwn : Below w.heap.size w w12 := by rw [hwn]; exact below_set (below_set bw (by omega) 0 _) (by omega) 1 _
  rw [← hwn]
  clear hwn hV hR hT bw
  have hR := hRn
  have hT := hTn
  have bw := bwn
  clear hRn hTn bwn
  obtain ⟨⟨t0, t1, t2, t3, t4, t5, t6, t7, t8, t9⟩, f0, f1, f2, f3, f4, f5, f6, f7, f8, f9⟩ := cells10 hT
  obtain ⟨⟨r0, r1, r2, r3, r4, r5, r6, r7, r8, r9⟩, q0, q1, q2, q3, q4, q5, q6, q7, q8, q9⟩ := cells10 hR
  refine Lib.hid ?_
  go_wp2
  refine bodyPost_ret_by (results_cell_row Try.results55 _ _ (w.heap.size + 1) 50 #[.int .i64 (S0 : Int), .int .i64 (S2 : Int), .int .u32 (SQ : Int), .int .u32 (AK : Int), .int .i64 (FL : Int), .int .i64 (WI : Int), .int .i64 0, .int .i64 0, .int .i64 0, .int .i64 0] (0, 0) _ rfl (heap_set10w hR (.int .i64 (S0 : Int)) (.int .i64 (S2 : Int)) (.int .u32 (SQ : Int)) (.int .u32 (AK : Int)) (.int .i64 (FL : Int)) (.int .i64 (WI : Int)) (.int .i64 0) (.int .i64 0) (.int .i64 0) (.int .i64 0)) Try.underlying50 rfl (by kernel_rfl)) rfl ⟨rfl, ?_⟩
  exact below_set10 bw (by omega) _ _ _ _ _ _ _ _ _ _

/-- What stands in a transport header that is whole. -/
theorem fields_any (A : Option Addr) (n c : Nat) (l : List UInt8) (v : VW) {w : World} (h : BytArg w A n c l) (hl : (layP v.proto).1 ≤ (n : Int)) :
    Calls Try.prog 55 #[.slice A n c, .agg (vcells v)] w fun e w' => e = .returned (.agg (tcells (fieldsP l v.v6 v.proto))) ∧ Below w.heap.size w w' := by
  obtain ⟨vv, vhd, vtt, vttl, vp, vsH, vsL, vdH, vdL, vfr, vid, voff, vmo⟩ := v
  simp only [vcells] at *
  obtain ⟨hn, hc, hcm, hs⟩ := id h
  unfold maxLen at hcm
  unfold fieldsP
  by_cases h6 : vp = 6
  · subst h6
    have h20 : 20 ≤ n := by simp only [layP, if_true] at hl; omega
    obtain ⟨g, o, rfl, hb⟩ := hs (by omega)
    rw [if_pos rfl]
    exact fields_tcp g o n c l vv vhd vtt vttl vsH vsL vdH vdL vfr vid voff vmo hn h20 hc hcm hb
  rw [if_neg h6]
  by_cases h17 : vp = 17
  · subst h17
    have h20 : 8 ≤ n := by simp [layP] at hl; omega
    obtain ⟨g, o, rfl, hb⟩ := hs (by omega)
    rw [if_pos rfl]
    exact fields_udp g o n c l vv vhd vtt vttl vsH vsL vdH vdL vfr vid voff vmo hn h20 hc hcm hb
  rw [if_neg h17]
  by_cases hi : vp = 1 ∨ vp = 58
  · rw [if_pos hi]
    have h20 : 8 ≤ n := by rcases hi with rfl | rfl <;> (simp [layP] at hl; omega)
    obtain ⟨g, o, rfl, hb⟩ := hs (by omega)
    by_cases he : echoP vv (byN l 0) = true
    · rw [if_pos he]
      exact fields_echo vp hi g o n c l vv vhd vtt vttl vsH vsL vdH vdL vfr vid voff vmo hn h20 hc hcm hb he
    · rw [if_neg he]
      exact fields_icmp vp hi g o n c l vv vhd vtt vttl vsH vsL vdH vdL vfr vid voff vmo hn h20 hc hcm hb (eq_false_of_ne_true he)
  rw [if_neg hi]
  exact fields_no A n c l vv vhd vtt vttl vp vsH vsL vdH vdL vfr vid voff vmo h h6 h17 (fun e => hi (Or.inl e)) (fun e => hi (Or.inr e))
end Go.Proofs.Ytpmbdjdhgcjkfaa
