/- Translations: what is checked of one, the program's; by-name template (gen_lnat.py). -/
import Derived.Test.YtmnnjkdmnfadhaaGreatDoorLRte
import Derived.Test.YtmnnjkdmnfadhaaGreatDoorLChk
namespace Go.Proofs.YtmnnjkdmnfadhaaGreatDoor
open Go.Shelf Go.RowKit Go.Lib Go.Sort
set_option linter.unusedVariables false
set_option linter.unusedSimpArgs false

structure NrB (W : World) (B : Nat) (x : NR) : Prop where
  n0 : W.cell? ⟨B, 0, none⟩ = some (.int .i64 x.kind)
  n1 : W.cell? ⟨B, 1, none⟩ = some (.string x.zn)
  n2 : W.cell? ⟨B, 2, none⟩ = some (.string x.ob)
  n3 : W.cell? ⟨B, 3, none⟩ = some (.string x.sv)
  n4 : W.cell? ⟨B, 4, none⟩ = some (.int .u64 x.oh)
  n5 : W.cell? ⟨B, 5, none⟩ = some (.int .u64 x.ol)
  n6 : W.cell? ⟨B, 6, none⟩ = some (.int .u64 x.ih)
  n7 : W.cell? ⟨B, 7, none⟩ = some (.int .u64 x.il)
  n8 : W.cell? ⟨B, 8, none⟩ = some (.int .i64 x.frm)
  n9 : W.cell? ⟨B, 9, none⟩ = some (.int .i64 x.til)
theorem NrB.keep {W W' : World} {B : Nat} {x : NR} (h : NrB W B x) (hb : Below W.heap.size W W') : NrB W' B x :=
  ⟨keepc hb h.n0, keepc hb h.n1, keepc hb h.n2, keepc hb h.n3, keepc hb h.n4, keepc hb h.n5, keepc hb h.n6, keepc hb h.n7, keepc hb h.n8, keepc hb h.n9⟩
theorem NrB.made (w : World) (x : NR) : NrB (w.alloc (.cells (nrc x).toArray 68)) w.heap.size x := by
  constructor <;> simp [nrc, go_sem]
def zeB (c : CF) (nm : ByteArray) : Bool := c.zs.any fun z => eqs z.nm nm
def NW (x : NR) : Prop := Word x.oh ∧ Word x.ol ∧ Word x.ih ∧ Word x.il
def srcChk (c : CF) (x : NR) : Int := if zeB c x.zn = true then (if obB c x.ob = true then (if wiB x.frm 1 65535 = true then (if wiB x.til x.frm 65535 = true then (if x.sv.toList = [] then (if (x.ih == 0 && x.il == 0) = true then 0 else 1) else 1) else 61) else 61) else 62) else 62
def dstChk (c : CF) (x : NR) : Int := if svB c x.sv = true then (if (is4I x.oh x.ol == is4I x.ih x.il) = true then (if wiB x.frm 0 65535 = true then (if x.zn.toList = [] then (if x.ob.toList = [] then (if x.til = 0 then 0 else 1) else 1) else 1) else 61) else 30) else 62
def clB (x y : NR) : Bool := (y.kind == 3) && ((y.oh == x.oh && y.ol == x.ol) || (y.ih == x.ih && y.il == x.il))
def staChk (c : CF) (x : NR) (l : List NR) : Int := if zeB c x.zn = true then (if (is4I x.oh x.ol == is4I x.ih x.il) = true then (if (l.any (clB x)) = true then 63 else (if x.ob.toList = [] then (if x.sv.toList = [] then (if x.frm = 0 then (if x.til = 0 then 0 else 1) else 1) else 1) else 1)) else 30) else 62
def natChk (c : CF) (x : NR) (l : List NR) : Int := if x.kind = 1 then srcChk c x else if x.kind = 2 then dstChk c x else if x.kind = 3 then staChk c x l else 1

set_option maxHeartbeats 8000000 in
set_option maxRecDepth 100000 in
theorem src_any (c : CF) (x : NR) {w : World} (hc : c.Ok w) :
    Calls Tryz.prog 67 #[.agg (cfc c), .agg (nrc x).toArray] w fun e w' => e = .returned (.int .i64 (srcChk c x)) ∧ Below w.heap.size w w' := by
  obtain ⟨w0, hw0⟩ : ∃ w0, w0 = (w.alloc (.cells (cfc c) 30)).alloc (.cells (nrc x).toArray 68) := ⟨_, rfl⟩
  have hb0 : Below w.heap.size w w0 := by rw [hw0]; exact Below.al (Below.al (Below.refl _ _) _) _
  have hC : CfB w0 w.heap.size c := by rw [hw0]; exact (CfB.made w c).keep (Below.al (Below.refl _ _) _)
  have hN : NrB w0 (w.heap.size + 1) x := by rw [hw0]; have := NrB.made (w.alloc (.cells (cfc c) 30)) x; simpa using this
  have hok := fun (W : World) (hW : Below w0.heap.size w0 W) => (hc.keep hb0).keep hW
  have q1 := fun W hW => has_zon x.zn c.zA c.zn c.zc c.zs (hok W hW).z
  rw [show (c.zs.any fun z => eqs z.nm x.zn) = zeB c x.zn from rfl] at q1
  have q2 := fun W hW => oa_obj x.ob c.oA c.on c.oc c.os (hok W hW).o
  rw [show (isAny x.ob || c.os.any fun y => eqs y.nm x.ob) = obB c x.ob from rfl] at q2
  have q3 := within_any x.frm 1 65535
  have q4 := within_any x.til x.frm 65535
  have q5 := fun W => neq_adr x.ih x.il 0 0 W
  obtain ⟨Q, hQ⟩ : ∃ Q, Q = srcChk c x := ⟨_, rfl⟩
  rw [← hQ]
  unfold srcChk at hQ
  generalize zeB c x.zn = K1 at *
  generalize obB c x.ob = K2 at *
  generalize wiB x.frm 1 65535 = K3 at *
  generalize wiB x.til x.frm 65535 = K4 at *
  generalize (x.ih == 0 && x.il == 0) = K5 at *
  have HQ := Lib.hid hQ
  clear hQ hok hc
  obtain ⟨c0, c1, c2, c3, c4, c5, c6, c7⟩ := hC
  obtain ⟨n0, n1, n2, n3, n4, n5, n6, n7, n8, n9⟩ := hN
  obtain ⟨kind, zn, ob, sv, oh, ol, ih, il, frm, til⟩ := x
  simp only [cfc, nrc] at *
  have hbc : Below w0.heap.size w0 w0 := Below.refl _ _
  cases K1 with
  | false =>
    go_enter Tryz.func67, Tryz.ntmps67
    go_upto_region 1 with fail
    rw [← hw0]
    clear hw0
    go_wp2_with (first | (go_at_call 96; go_loud (with_reducible refine (q1 _ hbc).mono ?_); rintro e wn ⟨rfl, hbn⟩; replace hbc := bel_via hbc hbn; replace c0 := keepc hbn c0; replace c1 := keepc hbn c1; replace c2 := keepc hbn c2; replace c3 := keepc hbn c3; replace c4 := keepc hbn c4; replace c5 := keepc hbn c5; replace c6 := keepc hbn c6; replace c7 := keepc hbn c7; replace n0 := keepc hbn n0; replace n1 := keepc hbn n1; replace n2 := keepc hbn n2; replace n3 := keepc hbn n3; replace n4 := keepc hbn n4; replace n5 := keepc hbn n5; replace n6 := keepc hbn n6; replace n7 := keepc hbn n7; replace n8 := keepc hbn n8; replace n9 := keepc hbn n9; clear hbn) | (go_at_call 117; go_loud (with_reducible refine (q2 _ hbc).mono ?_); rintro e wn ⟨rfl, hbn⟩; replace hbc := bel_via hbc hbn; replace c0 := keepc hbn c0; replace c1 := keepc hbn c1; replace c2 := keepc hbn c2; replace c3 := keepc hbn c3; replace c4 := keepc hbn c4; replace c5 := keepc hbn c5; replace c6 := keepc hbn c6; replace c7 := keepc hbn c7; replace n0 := keepc hbn n0; replace n1 := keepc hbn n1; replace n2 := keepc hbn n2; replace n3 := keepc hbn n3; replace n4 := keepc hbn n4; replace n5 := keepc hbn n5; replace n6 := keepc hbn n6; replace n7 := keepc hbn n7; replace n8 := keepc hbn n8; replace n9 := keepc hbn n9; clear hbn) | (go_at_call 42; with_reducible refine (q3 _).mono ?_; rintro e wi ⟨rfl, rfl⟩) | (go_at_call 42; with_reducible refine (q4 _).mono ?_; rintro e wi ⟨rfl, rfl⟩))
    go_ret
    exact ⟨ret_int (by rw [HQ.out]; simp), bel_via hb0 hbc⟩
  | true =>
    cases K2 with
    | false =>
      go_enter Tryz.func67, Tryz.ntmps67
      go_upto_region 1 with fail
      rw [← hw0]
      clear hw0
      go_wp2_with (first | (go_at_call 96; go_loud (with_reducible refine (q1 _ hbc).mono ?_); rintro e wn ⟨rfl, hbn⟩; replace hbc := bel_via hbc hbn; replace c0 := keepc hbn c0; replace c1 := keepc hbn c1; replace c2 := keepc hbn c2; replace c3 := keepc hbn c3; replace c4 := keepc hbn c4; replace c5 := keepc hbn c5; replace c6 := keepc hbn c6; replace c7 := keepc hbn c7; replace n0 := keepc hbn n0; replace n1 := keepc hbn n1; replace n2 := keepc hbn n2; replace n3 := keepc hbn n3; replace n4 := keepc hbn n4; replace n5 := keepc hbn n5; replace n6 := keepc hbn n6; replace n7 := keepc hbn n7; replace n8 := keepc hbn n8; replace n9 := keepc hbn n9; clear hbn) | (go_at_call 117; go_loud (with_reducible refine (q2 _ hbc).mono ?_); rintro e wn ⟨rfl, hbn⟩; replace hbc := bel_via hbc hbn; replace c0 := keepc hbn c0; replace c1 := keepc hbn c1; replace c2 := keepc hbn c2; replace c3 := keepc hbn c3; replace c4 := keepc hbn c4; replace c5 := keepc hbn c5; replace c6 := keepc hbn c6; replace c7 := keepc hbn c7; replace n0 := keepc hbn n0; replace n1 := keepc hbn n1; replace n2 := keepc hbn n2; replace n3 := keepc hbn n3; replace n4 := keepc hbn n4; replace n5 := keepc hbn n5; replace n6 := keepc hbn n6; replace n7 := keepc hbn n7; replace n8 := keepc hbn n8; replace n9 := keepc hbn n9; clear hbn) | (go_at_call 42; with_reducible refine (q3 _).mono ?_; rintro e wi ⟨rfl, rfl⟩) | (go_at_call 42; with_reducible refine (q4 _).mono ?_; rintro e wi ⟨rfl, rfl⟩))
      go_ret
      exact ⟨ret_int (by rw [HQ.out]; simp), bel_via hb0 hbc⟩
    | true =>
      cases K3 with
      | false =>
        go_enter Tryz.func67, Tryz.ntmps67
        go_upto_region 1 with fail
        rw [← hw0]
        clear hw0
        go_wp2_with (first | (go_at_call 96; go_loud (with_reducible refine (q1 _ hbc).mono ?_); rintro e wn ⟨rfl, hbn⟩; replace hbc := bel_via hbc hbn; replace c0 := keepc hbn c0; replace c1 := keepc hbn c1; replace c2 := keepc hbn c2; replace c3 := keepc hbn c3; replace c4 := keepc hbn c4; replace c5 := keepc hbn c5; replace c6 := keepc hbn c6; replace c7 := keepc hbn c7; replace n0 := keepc hbn n0; replace n1 := keepc hbn n1; replace n2 := keepc hbn n2; replace n3 := keepc hbn n3; replace n4 := keepc hbn n4; replace n5 := keepc hbn n5; replace n6 := keepc hbn n6; replace n7 := keepc hbn n7; replace n8 := keepc hbn n8; replace n9 := keepc hbn n9; clear hbn) | (go_at_call 117; go_loud (with_reducible refine (q2 _ hbc).mono ?_); rintro e wn ⟨rfl, hbn⟩; replace hbc := bel_via hbc hbn; replace c0 := keepc hbn c0; replace c1 := keepc hbn c1; replace c2 := keepc hbn c2; replace c3 := keepc hbn c3; replace c4 := keepc hbn c4; replace c5 := keepc hbn c5; replace c6 := keepc hbn c6; replace c7 := keepc hbn c7; replace n0 := keepc hbn n0; replace n1 := keepc hbn n1; replace n2 := keepc hbn n2; replace n3 := keepc hbn n3; replace n4 := keepc hbn n4; replace n5 := keepc hbn n5; replace n6 := keepc hbn n6; replace n7 := keepc hbn n7; replace n8 := keepc hbn n8; replace n9 := keepc hbn n9; clear hbn) | (go_at_call 42; with_reducible refine (q3 _).mono ?_; rintro e wi ⟨rfl, rfl⟩) | (go_at_call 42; with_reducible refine (q4 _).mono ?_; rintro e wi ⟨rfl, rfl⟩))
        go_ret
        exact ⟨ret_int (by rw [HQ.out]; simp), bel_via hb0 hbc⟩
      | true =>
        cases K4 with
        | false =>
          go_enter Tryz.func67, Tryz.ntmps67
          go_upto_region 1 with fail
          rw [← hw0]
          clear hw0
          go_wp2_with (first | (go_at_call 96; go_loud (with_reducible refine (q1 _ hbc).mono ?_); rintro e wn ⟨rfl, hbn⟩; replace hbc := bel_via hbc hbn; replace c0 := keepc hbn c0; replace c1 := keepc hbn c1; replace c2 := keepc hbn c2; replace c3 := keepc hbn c3; replace c4 := keepc hbn c4; replace c5 := keepc hbn c5; replace c6 := keepc hbn c6; replace c7 := keepc hbn c7; replace n0 := keepc hbn n0; replace n1 := keepc hbn n1; replace n2 := keepc hbn n2; replace n3 := keepc hbn n3; replace n4 := keepc hbn n4; replace n5 := keepc hbn n5; replace n6 := keepc hbn n6; replace n7 := keepc hbn n7; replace n8 := keepc hbn n8; replace n9 := keepc hbn n9; clear hbn) | (go_at_call 117; go_loud (with_reducible refine (q2 _ hbc).mono ?_); rintro e wn ⟨rfl, hbn⟩; replace hbc := bel_via hbc hbn; replace c0 := keepc hbn c0; replace c1 := keepc hbn c1; replace c2 := keepc hbn c2; replace c3 := keepc hbn c3; replace c4 := keepc hbn c4; replace c5 := keepc hbn c5; replace c6 := keepc hbn c6; replace c7 := keepc hbn c7; replace n0 := keepc hbn n0; replace n1 := keepc hbn n1; replace n2 := keepc hbn n2; replace n3 := keepc hbn n3; replace n4 := keepc hbn n4; replace n5 := keepc hbn n5; replace n6 := keepc hbn n6; replace n7 := keepc hbn n7; replace n8 := keepc hbn n8; replace n9 := keepc hbn n9; clear hbn) | (go_at_call 42; with_reducible refine (q3 _).mono ?_; rintro e wi ⟨rfl, rfl⟩) | (go_at_call 42; with_reducible refine (q4 _).mono ?_; rintro e wi ⟨rfl, rfl⟩))
          go_ret
          exact ⟨ret_int (by rw [HQ.out]; simp), bel_via hb0 hbc⟩
        | true =>
          by_cases hsv : sv.toList = []
          · have hsvb : (sv.toList == []) = true := by simp [hsv]
            cases K5 with
            | false =>
              go_enter Tryz.func67, Tryz.ntmps67
              go_upto_region 1 with fail
              rw [← hw0]
              clear hw0
              go_wp2_with (first | (go_at_call 96; go_loud (with_reducible refine (q1 _ hbc).mono ?_); rintro e wn ⟨rfl, hbn⟩; replace hbc := bel_via hbc hbn; replace c0 := keepc hbn c0; replace c1 := keepc hbn c1; replace c2 := keepc hbn c2; replace c3 := keepc hbn c3; replace c4 := keepc hbn c4; replace c5 := keepc hbn c5; replace c6 := keepc hbn c6; replace c7 := keepc hbn c7; replace n0 := keepc hbn n0; replace n1 := keepc hbn n1; replace n2 := keepc hbn n2; replace n3 := keepc hbn n3; replace n4 := keepc hbn n4; replace n5 := keepc hbn n5; replace n6 := keepc hbn n6; replace n7 := keepc hbn n7; replace n8 := keepc hbn n8; replace n9 := keepc hbn n9; clear hbn) | (go_at_call 117; go_loud (with_reducible refine (q2 _ hbc).mono ?_); rintro e wn ⟨rfl, hbn⟩; replace hbc := bel_via hbc hbn; replace c0 := keepc hbn c0; replace c1 := keepc hbn c1; replace c2 := keepc hbn c2; replace c3 := keepc hbn c3; replace c4 := keepc hbn c4; replace c5 := keepc hbn c5; replace c6 := keepc hbn c6; replace c7 := keepc hbn c7; replace n0 := keepc hbn n0; replace n1 := keepc hbn n1; replace n2 := keepc hbn n2; replace n3 := keepc hbn n3; replace n4 := keepc hbn n4; replace n5 := keepc hbn n5; replace n6 := keepc hbn n6; replace n7 := keepc hbn n7; replace n8 := keepc hbn n8; replace n9 := keepc hbn n9; clear hbn) | (go_at_call 42; with_reducible refine (q3 _).mono ?_; rintro e wi ⟨rfl, rfl⟩) | (go_at_call 42; with_reducible refine (q4 _).mono ?_; rintro e wi ⟨rfl, rfl⟩))
              go_ret
              exact ⟨ret_int (by rw [HQ.out]; simp [hsv]), bel_via hb0 hbc⟩
            | true =>
              go_enter Tryz.func67, Tryz.ntmps67
              go_upto_region 1 with fail
              rw [← hw0]
              clear hw0
              go_wp2_with (first | (go_at_call 96; go_loud (with_reducible refine (q1 _ hbc).mono ?_); rintro e wn ⟨rfl, hbn⟩; replace hbc := bel_via hbc hbn; replace c0 := keepc hbn c0; replace c1 := keepc hbn c1; replace c2 := keepc hbn c2; replace c3 := keepc hbn c3; replace c4 := keepc hbn c4; replace c5 := keepc hbn c5; replace c6 := keepc hbn c6; replace c7 := keepc hbn c7; replace n0 := keepc hbn n0; replace n1 := keepc hbn n1; replace n2 := keepc hbn n2; replace n3 := keepc hbn n3; replace n4 := keepc hbn n4; replace n5 := keepc hbn n5; replace n6 := keepc hbn n6; replace n7 := keepc hbn n7; replace n8 := keepc hbn n8; replace n9 := keepc hbn n9; clear hbn) | (go_at_call 117; go_loud (with_reducible refine (q2 _ hbc).mono ?_); rintro e wn ⟨rfl, hbn⟩; replace hbc := bel_via hbc hbn; replace c0 := keepc hbn c0; replace c1 := keepc hbn c1; replace c2 := keepc hbn c2; replace c3 := keepc hbn c3; replace c4 := keepc hbn c4; replace c5 := keepc hbn c5; replace c6 := keepc hbn c6; replace c7 := keepc hbn c7; replace n0 := keepc hbn n0; replace n1 := keepc hbn n1; replace n2 := keepc hbn n2; replace n3 := keepc hbn n3; replace n4 := keepc hbn n4; replace n5 := keepc hbn n5; replace n6 := keepc hbn n6; replace n7 := keepc hbn n7; replace n8 := keepc hbn n8; replace n9 := keepc hbn n9; clear hbn) | (go_at_call 42; with_reducible refine (q3 _).mono ?_; rintro e wi ⟨rfl, rfl⟩) | (go_at_call 42; with_reducible refine (q4 _).mono ?_; rintro e wi ⟨rfl, rfl⟩))
              go_ret
              exact ⟨ret_int (by rw [HQ.out]; simp [hsv]), bel_via hb0 hbc⟩
          · have hsvb : (sv.toList == []) = false := by simp [hsv]
            go_enter Tryz.func67, Tryz.ntmps67
            go_upto_region 1 with fail
            rw [← hw0]
            clear hw0
            go_wp2_with (first | (go_at_call 96; go_loud (with_reducible refine (q1 _ hbc).mono ?_); rintro e wn ⟨rfl, hbn⟩; replace hbc := bel_via hbc hbn; replace c0 := keepc hbn c0; replace c1 := keepc hbn c1; replace c2 := keepc hbn c2; replace c3 := keepc hbn c3; replace c4 := keepc hbn c4; replace c5 := keepc hbn c5; replace c6 := keepc hbn c6; replace c7 := keepc hbn c7; replace n0 := keepc hbn n0; replace n1 := keepc hbn n1; replace n2 := keepc hbn n2; replace n3 := keepc hbn n3; replace n4 := keepc hbn n4; replace n5 := keepc hbn n5; replace n6 := keepc hbn n6; replace n7 := keepc hbn n7; replace n8 := keepc hbn n8; replace n9 := keepc hbn n9; clear hbn) | (go_at_call 117; go_loud (with_reducible refine (q2 _ hbc).mono ?_); rintro e wn ⟨rfl, hbn⟩; replace hbc := bel_via hbc hbn; replace c0 := keepc hbn c0; replace c1 := keepc hbn c1; replace c2 := keepc hbn c2; replace c3 := keepc hbn c3; replace c4 := keepc hbn c4; replace c5 := keepc hbn c5; replace c6 := keepc hbn c6; replace c7 := keepc hbn c7; replace n0 := keepc hbn n0; replace n1 := keepc hbn n1; replace n2 := keepc hbn n2; replace n3 := keepc hbn n3; replace n4 := keepc hbn n4; replace n5 := keepc hbn n5; replace n6 := keepc hbn n6; replace n7 := keepc hbn n7; replace n8 := keepc hbn n8; replace n9 := keepc hbn n9; clear hbn) | (go_at_call 42; with_reducible refine (q3 _).mono ?_; rintro e wi ⟨rfl, rfl⟩) | (go_at_call 42; with_reducible refine (q4 _).mono ?_; rintro e wi ⟨rfl, rfl⟩))
            go_ret
            exact ⟨ret_int (by rw [HQ.out]; simp [hsv]), bel_via hb0 hbc⟩
set_option maxHeartbeats 16000000 in
set_option maxRecDepth 100000 in
theorem dst_any (c : CF) (x : NR) {w : World} (hc : c.Ok w) (hx : NW x) :
    Calls Tryz.prog 68 #[.agg (cfc c), .agg (nrc x).toArray] w fun e w' => e = .returned (.int .i64 (dstChk c x)) ∧ Below w.heap.size w w' := by
  obtain ⟨w0, hw0⟩ : ∃ w0, w0 = (w.alloc (.cells (cfc c) 30)).alloc (.cells (nrc x).toArray 68) := ⟨_, rfl⟩
  have hb0 : Below w.heap.size w w0 := by rw [hw0]; exact Below.al (Below.al (Below.refl _ _) _) _
  have hC : CfB w0 w.heap.size c := by rw [hw0]; exact (CfB.made w c).keep (Below.al (Below.refl _ _) _)
  have hN : NrB w0 (w.heap.size + 1) x := by rw [hw0]; have := NrB.made (w.alloc (.cells (cfc c) 30)) x; simpa using this
  have hok := fun (W : World) (hW : Below w0.heap.size w0 W) => (hc.keep hb0).keep hW
  have i1 := fun W => is4_any x.oh x.ol hx.1 hx.2.1 W
  have i2 := fun W => is4_any x.ih x.il hx.2.2.1 hx.2.2.2 W
  have q1 := fun W hW => oa_srv x.sv c.sA c.sn c.sc c.ss (hok W hW).s
  rw [show (isAny x.sv || c.ss.any fun y => eqs y.nm x.sv) = svB c x.sv from rfl] at q1
  have q3 := within_any x.frm 0 65535
  obtain ⟨Q, hQ⟩ : ∃ Q, Q = dstChk c x := ⟨_, rfl⟩
  rw [← hQ]
  unfold dstChk at hQ
  generalize svB c x.sv = K1 at *
  generalize is4I x.oh x.ol = I1 at *
  generalize is4I x.ih x.il = I2 at *
  generalize wiB x.frm 0 65535 = K3 at *
  have HQ := Lib.hid hQ
  clear hQ hok hc hx
  obtain ⟨c0, c1, c2, c3, c4, c5, c6, c7⟩ := hC
  obtain ⟨n0, n1, n2, n3, n4, n5, n6, n7, n8, n9⟩ := hN
  obtain ⟨kind, zn, ob, sv, oh, ol, ih, il, frm, til⟩ := x
  simp only [cfc, nrc] at *
  have hbc : Below w0.heap.size w0 w0 := Below.refl _ _
  cases K1 with
  | false =>
    go_enter Tryz.func68, Tryz.ntmps68
    go_upto_region 1 with fail
    rw [← hw0]
    clear hw0
    go_wp2_with (first | (go_at_call 118; go_loud (with_reducible refine (q1 _ hbc).mono ?_); rintro e wn ⟨rfl, hbn⟩; replace hbc := bel_via hbc hbn; replace c0 := keepc hbn c0; replace c1 := keepc hbn c1; replace c2 := keepc hbn c2; replace c3 := keepc hbn c3; replace c4 := keepc hbn c4; replace c5 := keepc hbn c5; replace c6 := keepc hbn c6; replace c7 := keepc hbn c7; replace n0 := keepc hbn n0; replace n1 := keepc hbn n1; replace n2 := keepc hbn n2; replace n3 := keepc hbn n3; replace n4 := keepc hbn n4; replace n5 := keepc hbn n5; replace n6 := keepc hbn n6; replace n7 := keepc hbn n7; replace n8 := keepc hbn n8; replace n9 := keepc hbn n9; clear hbn))
    go_ret
    exact ⟨ret_int (by rw [HQ.out]; simp), bel_via hb0 hbc⟩
  | true =>
    cases I1 with
    | false =>
      cases I2 with
      | true =>
        go_enter Tryz.func68, Tryz.ntmps68
        go_upto_region 1 with fail
        rw [← hw0]
        clear hw0
        go_upto_region 3 with (first | (go_at_call 118; go_loud (with_reducible refine (q1 _ hbc).mono ?_); rintro e wn ⟨rfl, hbn⟩; replace hbc := bel_via hbc hbn; replace c0 := keepc hbn c0; replace c1 := keepc hbn c1; replace c2 := keepc hbn c2; replace c3 := keepc hbn c3; replace c4 := keepc hbn c4; replace c5 := keepc hbn c5; replace c6 := keepc hbn c6; replace c7 := keepc hbn c7; replace n0 := keepc hbn n0; replace n1 := keepc hbn n1; replace n2 := keepc hbn n2; replace n3 := keepc hbn n3; replace n4 := keepc hbn n4; replace n5 := keepc hbn n5; replace n6 := keepc hbn n6; replace n7 := keepc hbn n7; replace n8 := keepc hbn n8; replace n9 := keepc hbn n9; clear hbn))
        have k4 := cell_regrown n4
        have k5 := cell_regrown n5
        have k6 := cell_regrown n6
        have k7 := cell_regrown n7
        have qa := fun d os => Calls.regrown_of (i1 (grow (redrawn wn d) os))
        have qb := fun d os => Calls.regrown_of (i2 (grow (redrawn wn d) os))
        refine wp_region_quiet_below (by kernel_rfl) (by kernel_rfl) ?_
        repeat (first | go_big_quiet_skip | quiet_step (first | (go_at_call 105; with_reducible exact qa _ _) | (go_at_call 105; with_reducible exact qb _ _)))
        refine wpQuiet_nil ?_
        intro _ hw'
        obtain ⟨⟨dq, osq⟩, hw''⟩ := hw'
        subst hw''
        have hbq := below_regrown wn dq osq
        obtain ⟨wq, hwy⟩ : ∃ x, x = grow (redrawn wn dq) osq := ⟨_, rfl⟩
        rw [← hwy] at hbq ⊢
        clear hwy qa qb k4 k5 k6 k7
        replace c0 := keepc hbq c0; replace c1 := keepc hbq c1; replace c2 := keepc hbq c2; replace c3 := keepc hbq c3; replace c4 := keepc hbq c4; replace c5 := keepc hbq c5; replace c6 := keepc hbq c6; replace c7 := keepc hbq c7; replace n0 := keepc hbq n0; replace n1 := keepc hbq n1; replace n2 := keepc hbq n2; replace n3 := keepc hbq n3; replace n4 := keepc hbq n4; replace n5 := keepc hbq n5; replace n6 := keepc hbq n6; replace n7 := keepc hbq n7; replace n8 := keepc hbq n8; replace n9 := keepc hbq n9
        replace hbc := bel_via hbc hbq
        go_wp2_with (first | (go_at_call 42; with_reducible refine (q3 _).mono ?_; rintro e wi ⟨rfl, rfl⟩))
        go_ret
        exact ⟨ret_int (by rw [HQ.out]; simp), bel_via hb0 hbc⟩
      | false =>
        cases K3 with
        | false =>
          go_enter Tryz.func68, Tryz.ntmps68
          go_upto_region 1 with fail
          rw [← hw0]
          clear hw0
          go_upto_region 3 with (first | (go_at_call 118; go_loud (with_reducible refine (q1 _ hbc).mono ?_); rintro e wn ⟨rfl, hbn⟩; replace hbc := bel_via hbc hbn; replace c0 := keepc hbn c0; replace c1 := keepc hbn c1; replace c2 := keepc hbn c2; replace c3 := keepc hbn c3; replace c4 := keepc hbn c4; replace c5 := keepc hbn c5; replace c6 := keepc hbn c6; replace c7 := keepc hbn c7; replace n0 := keepc hbn n0; replace n1 := keepc hbn n1; replace n2 := keepc hbn n2; replace n3 := keepc hbn n3; replace n4 := keepc hbn n4; replace n5 := keepc hbn n5; replace n6 := keepc hbn n6; replace n7 := keepc hbn n7; replace n8 := keepc hbn n8; replace n9 := keepc hbn n9; clear hbn))
          have k4 := cell_regrown n4
          have k5 := cell_regrown n5
          have k6 := cell_regrown n6
          have k7 := cell_regrown n7
          have qa := fun d os => Calls.regrown_of (i1 (grow (redrawn wn d) os))
          have qb := fun d os => Calls.regrown_of (i2 (grow (redrawn wn d) os))
          refine wp_region_quiet_below (by kernel_rfl) (by kernel_rfl) ?_
          repeat (first | go_big_quiet_skip | quiet_step (first | (go_at_call 105; with_reducible exact qa _ _) | (go_at_call 105; with_reducible exact qb _ _)))
          refine wpQuiet_nil ?_
          intro _ hw'
          obtain ⟨⟨dq, osq⟩, hw''⟩ := hw'
          subst hw''
          have hbq := below_regrown wn dq osq
          obtain ⟨wq, hwy⟩ : ∃ x, x = grow (redrawn wn dq) osq := ⟨_, rfl⟩
          rw [← hwy] at hbq ⊢
          clear hwy qa qb k4 k5 k6 k7
          replace c0 := keepc hbq c0; replace c1 := keepc hbq c1; replace c2 := keepc hbq c2; replace c3 := keepc hbq c3; replace c4 := keepc hbq c4; replace c5 := keepc hbq c5; replace c6 := keepc hbq c6; replace c7 := keepc hbq c7; replace n0 := keepc hbq n0; replace n1 := keepc hbq n1; replace n2 := keepc hbq n2; replace n3 := keepc hbq n3; replace n4 := keepc hbq n4; replace n5 := keepc hbq n5; replace n6 := keepc hbq n6; replace n7 := keepc hbq n7; replace n8 := keepc hbq n8; replace n9 := keepc hbq n9
          replace hbc := bel_via hbc hbq
          go_wp2_with (first | (go_at_call 42; with_reducible refine (q3 _).mono ?_; rintro e wi ⟨rfl, rfl⟩))
          go_ret
          exact ⟨ret_int (by rw [HQ.out]; simp), bel_via hb0 hbc⟩
        | true =>
          by_cases hzn : zn.toList = []
          · have hznb : (zn.toList == []) = true := by simp [hzn]
            by_cases hob : ob.toList = []
            · have hobb : (ob.toList == []) = true := by simp [hob]
              by_cases hti : til = 0
              · subst hti
                go_enter Tryz.func68, Tryz.ntmps68
                go_upto_region 1 with fail
                rw [← hw0]
                clear hw0
                go_upto_region 3 with (first | (go_at_call 118; go_loud (with_reducible refine (q1 _ hbc).mono ?_); rintro e wn ⟨rfl, hbn⟩; replace hbc := bel_via hbc hbn; replace c0 := keepc hbn c0; replace c1 := keepc hbn c1; replace c2 := keepc hbn c2; replace c3 := keepc hbn c3; replace c4 := keepc hbn c4; replace c5 := keepc hbn c5; replace c6 := keepc hbn c6; replace c7 := keepc hbn c7; replace n0 := keepc hbn n0; replace n1 := keepc hbn n1; replace n2 := keepc hbn n2; replace n3 := keepc hbn n3; replace n4 := keepc hbn n4; replace n5 := keepc hbn n5; replace n6 := keepc hbn n6; replace n7 := keepc hbn n7; replace n8 := keepc hbn n8; replace n9 := keepc hbn n9; clear hbn))
                have k4 := cell_regrown n4
                have k5 := cell_regrown n5
                have k6 := cell_regrown n6
                have k7 := cell_regrown n7
                have qa := fun d os => Calls.regrown_of (i1 (grow (redrawn wn d) os))
                have qb := fun d os => Calls.regrown_of (i2 (grow (redrawn wn d) os))
                refine wp_region_quiet_below (by kernel_rfl) (by kernel_rfl) ?_
                repeat (first | go_big_quiet_skip | quiet_step (first | (go_at_call 105; with_reducible exact qa _ _) | (go_at_call 105; with_reducible exact qb _ _)))
                refine wpQuiet_nil ?_
                intro _ hw'
                obtain ⟨⟨dq, osq⟩, hw''⟩ := hw'
                subst hw''
                have hbq := below_regrown wn dq osq
                obtain ⟨wq, hwy⟩ : ∃ x, x = grow (redrawn wn dq) osq := ⟨_, rfl⟩
                rw [← hwy] at hbq ⊢
                clear hwy qa qb k4 k5 k6 k7
                replace c0 := keepc hbq c0; replace c1 := keepc hbq c1; replace c2 := keepc hbq c2; replace c3 := keepc hbq c3; replace c4 := keepc hbq c4; replace c5 := keepc hbq c5; replace c6 := keepc hbq c6; replace c7 := keepc hbq c7; replace n0 := keepc hbq n0; replace n1 := keepc hbq n1; replace n2 := keepc hbq n2; replace n3 := keepc hbq n3; replace n4 := keepc hbq n4; replace n5 := keepc hbq n5; replace n6 := keepc hbq n6; replace n7 := keepc hbq n7; replace n8 := keepc hbq n8; replace n9 := keepc hbq n9
                replace hbc := bel_via hbc hbq
                go_wp2_with (first | (go_at_call 42; with_reducible refine (q3 _).mono ?_; rintro e wi ⟨rfl, rfl⟩))
                go_ret
                exact ⟨ret_int (by rw [HQ.out]; simp [hzn, hob]), bel_via hb0 hbc⟩
              · have htib : (til != 0) = true := by simp [hti]
                go_enter Tryz.func68, Tryz.ntmps68
                go_upto_region 1 with fail
                rw [← hw0]
                clear hw0
                go_upto_region 3 with (first | (go_at_call 118; go_loud (with_reducible refine (q1 _ hbc).mono ?_); rintro e wn ⟨rfl, hbn⟩; replace hbc := bel_via hbc hbn; replace c0 := keepc hbn c0; replace c1 := keepc hbn c1; replace c2 := keepc hbn c2; replace c3 := keepc hbn c3; replace c4 := keepc hbn c4; replace c5 := keepc hbn c5; replace c6 := keepc hbn c6; replace c7 := keepc hbn c7; replace n0 := keepc hbn n0; replace n1 := keepc hbn n1; replace n2 := keepc hbn n2; replace n3 := keepc hbn n3; replace n4 := keepc hbn n4; replace n5 := keepc hbn n5; replace n6 := keepc hbn n6; replace n7 := keepc hbn n7; replace n8 := keepc hbn n8; replace n9 := keepc hbn n9; clear hbn))
                have k4 := cell_regrown n4
                have k5 := cell_regrown n5
                have k6 := cell_regrown n6
                have k7 := cell_regrown n7
                have qa := fun d os => Calls.regrown_of (i1 (grow (redrawn wn d) os))
                have qb := fun d os => Calls.regrown_of (i2 (grow (redrawn wn d) os))
                refine wp_region_quiet_below (by kernel_rfl) (by kernel_rfl) ?_
                repeat (first | go_big_quiet_skip | quiet_step (first | (go_at_call 105; with_reducible exact qa _ _) | (go_at_call 105; with_reducible exact qb _ _)))
                refine wpQuiet_nil ?_
                intro _ hw'
                obtain ⟨⟨dq, osq⟩, hw''⟩ := hw'
                subst hw''
                have hbq := below_regrown wn dq osq
                obtain ⟨wq, hwy⟩ : ∃ x, x = grow (redrawn wn dq) osq := ⟨_, rfl⟩
                rw [← hwy] at hbq ⊢
                clear hwy qa qb k4 k5 k6 k7
                replace c0 := keepc hbq c0; replace c1 := keepc hbq c1; replace c2 := keepc hbq c2; replace c3 := keepc hbq c3; replace c4 := keepc hbq c4; replace c5 := keepc hbq c5; replace c6 := keepc hbq c6; replace c7 := keepc hbq c7; replace n0 := keepc hbq n0; replace n1 := keepc hbq n1; replace n2 := keepc hbq n2; replace n3 := keepc hbq n3; replace n4 := keepc hbq n4; replace n5 := keepc hbq n5; replace n6 := keepc hbq n6; replace n7 := keepc hbq n7; replace n8 := keepc hbq n8; replace n9 := keepc hbq n9
                replace hbc := bel_via hbc hbq
                go_wp2_with (first | (go_at_call 42; with_reducible refine (q3 _).mono ?_; rintro e wi ⟨rfl, rfl⟩))
                go_ret
                exact ⟨ret_int (by rw [HQ.out]; simp [hzn, hob, hti]), bel_via hb0 hbc⟩
            · have hobb : (ob.toList == []) = false := by simp [hob]
              go_enter Tryz.func68, Tryz.ntmps68
              go_upto_region 1 with fail
              rw [← hw0]
              clear hw0
              go_upto_region 3 with (first | (go_at_call 118; go_loud (with_reducible refine (q1 _ hbc).mono ?_); rintro e wn ⟨rfl, hbn⟩; replace hbc := bel_via hbc hbn; replace c0 := keepc hbn c0; replace c1 := keepc hbn c1; replace c2 := keepc hbn c2; replace c3 := keepc hbn c3; replace c4 := keepc hbn c4; replace c5 := keepc hbn c5; replace c6 := keepc hbn c6; replace c7 := keepc hbn c7; replace n0 := keepc hbn n0; replace n1 := keepc hbn n1; replace n2 := keepc hbn n2; replace n3 := keepc hbn n3; replace n4 := keepc hbn n4; replace n5 := keepc hbn n5; replace n6 := keepc hbn n6; replace n7 := keepc hbn n7; replace n8 := keepc hbn n8; replace n9 := keepc hbn n9; clear hbn))
              have k4 := cell_regrown n4
              have k5 := cell_regrown n5
              have k6 := cell_regrown n6
              have k7 := cell_regrown n7
              have qa := fun d os => Calls.regrown_of (i1 (grow (redrawn wn d) os))
              have qb := fun d os => Calls.regrown_of (i2 (grow (redrawn wn d) os))
              refine wp_region_quiet_below (by kernel_rfl) (by kernel_rfl) ?_
              repeat (first | go_big_quiet_skip | quiet_step (first | (go_at_call 105; with_reducible exact qa _ _) | (go_at_call 105; with_reducible exact qb _ _)))
              refine wpQuiet_nil ?_
              intro _ hw'
              obtain ⟨⟨dq, osq⟩, hw''⟩ := hw'
              subst hw''
              have hbq := below_regrown wn dq osq
              obtain ⟨wq, hwy⟩ : ∃ x, x = grow (redrawn wn dq) osq := ⟨_, rfl⟩
              rw [← hwy] at hbq ⊢
              clear hwy qa qb k4 k5 k6 k7
              replace c0 := keepc hbq c0; replace c1 := keepc hbq c1; replace c2 := keepc hbq c2; replace c3 := keepc hbq c3; replace c4 := keepc hbq c4; replace c5 := keepc hbq c5; replace c6 := keepc hbq c6; replace c7 := keepc hbq c7; replace n0 := keepc hbq n0; replace n1 := keepc hbq n1; replace n2 := keepc hbq n2; replace n3 := keepc hbq n3; replace n4 := keepc hbq n4; replace n5 := keepc hbq n5; replace n6 := keepc hbq n6; replace n7 := keepc hbq n7; replace n8 := keepc hbq n8; replace n9 := keepc hbq n9
              replace hbc := bel_via hbc hbq
              go_wp2_with (first | (go_at_call 42; with_reducible refine (q3 _).mono ?_; rintro e wi ⟨rfl, rfl⟩))
              go_ret
              exact ⟨ret_int (by rw [HQ.out]; simp [hzn, hob]), bel_via hb0 hbc⟩
          · have hznb : (zn.toList == []) = false := by simp [hzn]
            go_enter Tryz.func68, Tryz.ntmps68
            go_upto_region 1 with fail
            rw [← hw0]
            clear hw0
            go_upto_region 3 with (first | (go_at_call 118; go_loud (with_reducible refine (q1 _ hbc).mono ?_); rintro e wn ⟨rfl, hbn⟩; replace hbc := bel_via hbc hbn; replace c0 := keepc hbn c0; replace c1 := keepc hbn c1; replace c2 := keepc hbn c2; replace c3 := keepc hbn c3; replace c4 := keepc hbn c4; replace c5 := keepc hbn c5; replace c6 := keepc hbn c6; replace c7 := keepc hbn c7; replace n0 := keepc hbn n0; replace n1 := keepc hbn n1; replace n2 := keepc hbn n2; replace n3 := keepc hbn n3; replace n4 := keepc hbn n4; replace n5 := keepc hbn n5; replace n6 := keepc hbn n6; replace n7 := keepc hbn n7; replace n8 := keepc hbn n8; replace n9 := keepc hbn n9; clear hbn))
            have k4 := cell_regrown n4
            have k5 := cell_regrown n5
            have k6 := cell_regrown n6
            have k7 := cell_regrown n7
            have qa := fun d os => Calls.regrown_of (i1 (grow (redrawn wn d) os))
            have qb := fun d os => Calls.regrown_of (i2 (grow (redrawn wn d) os))
            refine wp_region_quiet_below (by kernel_rfl) (by kernel_rfl) ?_
            repeat (first | go_big_quiet_skip | quiet_step (first | (go_at_call 105; with_reducible exact qa _ _) | (go_at_call 105; with_reducible exact qb _ _)))
            refine wpQuiet_nil ?_
            intro _ hw'
            obtain ⟨⟨dq, osq⟩, hw''⟩ := hw'
            subst hw''
            have hbq := below_regrown wn dq osq
            obtain ⟨wq, hwy⟩ : ∃ x, x = grow (redrawn wn dq) osq := ⟨_, rfl⟩
            rw [← hwy] at hbq ⊢
            clear hwy qa qb k4 k5 k6 k7
            replace c0 := keepc hbq c0; replace c1 := keepc hbq c1; replace c2 := keepc hbq c2; replace c3 := keepc hbq c3; replace c4 := keepc hbq c4; replace c5 := keepc hbq c5; replace c6 := keepc hbq c6; replace c7 := keepc hbq c7; replace n0 := keepc hbq n0; replace n1 := keepc hbq n1; replace n2 := keepc hbq n2; replace n3 := keepc hbq n3; replace n4 := keepc hbq n4; replace n5 := keepc hbq n5; replace n6 := keepc hbq n6; replace n7 := keepc hbq n7; replace n8 := keepc hbq n8; replace n9 := keepc hbq n9
            replace hbc := bel_via hbc hbq
            go_wp2_with (first | (go_at_call 42; with_reducible refine (q3 _).mono ?_; rintro e wi ⟨rfl, rfl⟩))
            go_ret
            exact ⟨ret_int (by rw [HQ.out]; simp [hzn]), bel_via hb0 hbc⟩
    | true =>
      cases I2 with
      | false =>
        go_enter Tryz.func68, Tryz.ntmps68
        go_upto_region 1 with fail
        rw [← hw0]
        clear hw0
        go_upto_region 3 with (first | (go_at_call 118; go_loud (with_reducible refine (q1 _ hbc).mono ?_); rintro e wn ⟨rfl, hbn⟩; replace hbc := bel_via hbc hbn; replace c0 := keepc hbn c0; replace c1 := keepc hbn c1; replace c2 := keepc hbn c2; replace c3 := keepc hbn c3; replace c4 := keepc hbn c4; replace c5 := keepc hbn c5; replace c6 := keepc hbn c6; replace c7 := keepc hbn c7; replace n0 := keepc hbn n0; replace n1 := keepc hbn n1; replace n2 := keepc hbn n2; replace n3 := keepc hbn n3; replace n4 := keepc hbn n4; replace n5 := keepc hbn n5; replace n6 := keepc hbn n6; replace n7 := keepc hbn n7; replace n8 := keepc hbn n8; replace n9 := keepc hbn n9; clear hbn))
        have k4 := cell_regrown n4
        have k5 := cell_regrown n5
        have k6 := cell_regrown n6
        have k7 := cell_regrown n7
        have qa := fun d os => Calls.regrown_of (i1 (grow (redrawn wn d) os))
        have qb := fun d os => Calls.regrown_of (i2 (grow (redrawn wn d) os))
        refine wp_region_quiet_below (by kernel_rfl) (by kernel_rfl) ?_
        repeat (first | go_big_quiet_skip | quiet_step (first | (go_at_call 105; with_reducible exact qa _ _) | (go_at_call 105; with_reducible exact qb _ _)))
        refine wpQuiet_nil ?_
        intro _ hw'
        obtain ⟨⟨dq, osq⟩, hw''⟩ := hw'
        subst hw''
        have hbq := below_regrown wn dq osq
        obtain ⟨wq, hwy⟩ : ∃ x, x = grow (redrawn wn dq) osq := ⟨_, rfl⟩
        rw [← hwy] at hbq ⊢
        clear hwy qa qb k4 k5 k6 k7
        replace c0 := keepc hbq c0; replace c1 := keepc hbq c1; replace c2 := keepc hbq c2; replace c3 := keepc hbq c3; replace c4 := keepc hbq c4; replace c5 := keepc hbq c5; replace c6 := keepc hbq c6; replace c7 := keepc hbq c7; replace n0 := keepc hbq n0; replace n1 := keepc hbq n1; replace n2 := keepc hbq n2; replace n3 := keepc hbq n3; replace n4 := keepc hbq n4; replace n5 := keepc hbq n5; replace n6 := keepc hbq n6; replace n7 := keepc hbq n7; replace n8 := keepc hbq n8; replace n9 := keepc hbq n9
        replace hbc := bel_via hbc hbq
        go_wp2_with (first | (go_at_call 42; with_reducible refine (q3 _).mono ?_; rintro e wi ⟨rfl, rfl⟩))
        go_ret
        exact ⟨ret_int (by rw [HQ.out]; simp), bel_via hb0 hbc⟩
      | true =>
        cases K3 with
        | false =>
          go_enter Tryz.func68, Tryz.ntmps68
          go_upto_region 1 with fail
          rw [← hw0]
          clear hw0
          go_upto_region 3 with (first | (go_at_call 118; go_loud (with_reducible refine (q1 _ hbc).mono ?_); rintro e wn ⟨rfl, hbn⟩; replace hbc := bel_via hbc hbn; replace c0 := keepc hbn c0; replace c1 := keepc hbn c1; replace c2 := keepc hbn c2; replace c3 := keepc hbn c3; replace c4 := keepc hbn c4; replace c5 := keepc hbn c5; replace c6 := keepc hbn c6; replace c7 := keepc hbn c7; replace n0 := keepc hbn n0; replace n1 := keepc hbn n1; replace n2 := keepc hbn n2; replace n3 := keepc hbn n3; replace n4 := keepc hbn n4; replace n5 := keepc hbn n5; replace n6 := keepc hbn n6; replace n7 := keepc hbn n7; replace n8 := keepc hbn n8; replace n9 := keepc hbn n9; clear hbn))
          have k4 := cell_regrown n4
          have k5 := cell_regrown n5
          have k6 := cell_regrown n6
          have k7 := cell_regrown n7
          have qa := fun d os => Calls.regrown_of (i1 (grow (redrawn wn d) os))
          have qb := fun d os => Calls.regrown_of (i2 (grow (redrawn wn d) os))
          refine wp_region_quiet_below (by kernel_rfl) (by kernel_rfl) ?_
          repeat (first | go_big_quiet_skip | quiet_step (first | (go_at_call 105; with_reducible exact qa _ _) | (go_at_call 105; with_reducible exact qb _ _)))
          refine wpQuiet_nil ?_
          intro _ hw'
          obtain ⟨⟨dq, osq⟩, hw''⟩ := hw'
          subst hw''
          have hbq := below_regrown wn dq osq
          obtain ⟨wq, hwy⟩ : ∃ x, x = grow (redrawn wn dq) osq := ⟨_, rfl⟩
          rw [← hwy] at hbq ⊢
          clear hwy qa qb k4 k5 k6 k7
          replace c0 := keepc hbq c0; replace c1 := keepc hbq c1; replace c2 := keepc hbq c2; replace c3 := keepc hbq c3; replace c4 := keepc hbq c4; replace c5 := keepc hbq c5; replace c6 := keepc hbq c6; replace c7 := keepc hbq c7; replace n0 := keepc hbq n0; replace n1 := keepc hbq n1; replace n2 := keepc hbq n2; replace n3 := keepc hbq n3; replace n4 := keepc hbq n4; replace n5 := keepc hbq n5; replace n6 := keepc hbq n6; replace n7 := keepc hbq n7; replace n8 := keepc hbq n8; replace n9 := keepc hbq n9
          replace hbc := bel_via hbc hbq
          go_wp2_with (first | (go_at_call 42; with_reducible refine (q3 _).mono ?_; rintro e wi ⟨rfl, rfl⟩))
          go_ret
          exact ⟨ret_int (by rw [HQ.out]; simp), bel_via hb0 hbc⟩
        | true =>
          by_cases hzn : zn.toList = []
          · have hznb : (zn.toList == []) = true := by simp [hzn]
            by_cases hob : ob.toList = []
            · have hobb : (ob.toList == []) = true := by simp [hob]
              by_cases hti : til = 0
              · subst hti
                go_enter Tryz.func68, Tryz.ntmps68
                go_upto_region 1 with fail
                rw [← hw0]
                clear hw0
                go_upto_region 3 with (first | (go_at_call 118; go_loud (with_reducible refine (q1 _ hbc).mono ?_); rintro e wn ⟨rfl, hbn⟩; replace hbc := bel_via hbc hbn; replace c0 := keepc hbn c0; replace c1 := keepc hbn c1; replace c2 := keepc hbn c2; replace c3 := keepc hbn c3; replace c4 := keepc hbn c4; replace c5 := keepc hbn c5; replace c6 := keepc hbn c6; replace c7 := keepc hbn c7; replace n0 := keepc hbn n0; replace n1 := keepc hbn n1; replace n2 := keepc hbn n2; replace n3 := keepc hbn n3; replace n4 := keepc hbn n4; replace n5 := keepc hbn n5; replace n6 := keepc hbn n6; replace n7 := keepc hbn n7; replace n8 := keepc hbn n8; replace n9 := keepc hbn n9; clear hbn))
                have k4 := cell_regrown n4
                have k5 := cell_regrown n5
                have k6 := cell_regrown n6
                have k7 := cell_regrown n7
                have qa := fun d os => Calls.regrown_of (i1 (grow (redrawn wn d) os))
                have qb := fun d os => Calls.regrown_of (i2 (grow (redrawn wn d) os))
                refine wp_region_quiet_below (by kernel_rfl) (by kernel_rfl) ?_
                repeat (first | go_big_quiet_skip | quiet_step (first | (go_at_call 105; with_reducible exact qa _ _) | (go_at_call 105; with_reducible exact qb _ _)))
                refine wpQuiet_nil ?_
                intro _ hw'
                obtain ⟨⟨dq, osq⟩, hw''⟩ := hw'
                subst hw''
                have hbq := below_regrown wn dq osq
                obtain ⟨wq, hwy⟩ : ∃ x, x = grow (redrawn wn dq) osq := ⟨_, rfl⟩
                rw [← hwy] at hbq ⊢
                clear hwy qa qb k4 k5 k6 k7
                replace c0 := keepc hbq c0; replace c1 := keepc hbq c1; replace c2 := keepc hbq c2; replace c3 := keepc hbq c3; replace c4 := keepc hbq c4; replace c5 := keepc hbq c5; replace c6 := keepc hbq c6; replace c7 := keepc hbq c7; replace n0 := keepc hbq n0; replace n1 := keepc hbq n1; replace n2 := keepc hbq n2; replace n3 := keepc hbq n3; replace n4 := keepc hbq n4; replace n5 := keepc hbq n5; replace n6 := keepc hbq n6; replace n7 := keepc hbq n7; replace n8 := keepc hbq n8; replace n9 := keepc hbq n9
                replace hbc := bel_via hbc hbq
                go_wp2_with (first | (go_at_call 42; with_reducible refine (q3 _).mono ?_; rintro e wi ⟨rfl, rfl⟩))
                go_ret
                exact ⟨ret_int (by rw [HQ.out]; simp [hzn, hob]), bel_via hb0 hbc⟩
              · have htib : (til != 0) = true := by simp [hti]
                go_enter Tryz.func68, Tryz.ntmps68
                go_upto_region 1 with fail
                rw [← hw0]
                clear hw0
                go_upto_region 3 with (first | (go_at_call 118; go_loud (with_reducible refine (q1 _ hbc).mono ?_); rintro e wn ⟨rfl, hbn⟩; replace hbc := bel_via hbc hbn; replace c0 := keepc hbn c0; replace c1 := keepc hbn c1; replace c2 := keepc hbn c2; replace c3 := keepc hbn c3; replace c4 := keepc hbn c4; replace c5 := keepc hbn c5; replace c6 := keepc hbn c6; replace c7 := keepc hbn c7; replace n0 := keepc hbn n0; replace n1 := keepc hbn n1; replace n2 := keepc hbn n2; replace n3 := keepc hbn n3; replace n4 := keepc hbn n4; replace n5 := keepc hbn n5; replace n6 := keepc hbn n6; replace n7 := keepc hbn n7; replace n8 := keepc hbn n8; replace n9 := keepc hbn n9; clear hbn))
                have k4 := cell_regrown n4
                have k5 := cell_regrown n5
                have k6 := cell_regrown n6
                have k7 := cell_regrown n7
                have qa := fun d os => Calls.regrown_of (i1 (grow (redrawn wn d) os))
                have qb := fun d os => Calls.regrown_of (i2 (grow (redrawn wn d) os))
                refine wp_region_quiet_below (by kernel_rfl) (by kernel_rfl) ?_
                repeat (first | go_big_quiet_skip | quiet_step (first | (go_at_call 105; with_reducible exact qa _ _) | (go_at_call 105; with_reducible exact qb _ _)))
                refine wpQuiet_nil ?_
                intro _ hw'
                obtain ⟨⟨dq, osq⟩, hw''⟩ := hw'
                subst hw''
                have hbq := below_regrown wn dq osq
                obtain ⟨wq, hwy⟩ : ∃ x, x = grow (redrawn wn dq) osq := ⟨_, rfl⟩
                rw [← hwy] at hbq ⊢
                clear hwy qa qb k4 k5 k6 k7
                replace c0 := keepc hbq c0; replace c1 := keepc hbq c1; replace c2 := keepc hbq c2; replace c3 := keepc hbq c3; replace c4 := keepc hbq c4; replace c5 := keepc hbq c5; replace c6 := keepc hbq c6; replace c7 := keepc hbq c7; replace n0 := keepc hbq n0; replace n1 := keepc hbq n1; replace n2 := keepc hbq n2; replace n3 := keepc hbq n3; replace n4 := keepc hbq n4; replace n5 := keepc hbq n5; replace n6 := keepc hbq n6; replace n7 := keepc hbq n7; replace n8 := keepc hbq n8; replace n9 := keepc hbq n9
                replace hbc := bel_via hbc hbq
                go_wp2_with (first | (go_at_call 42; with_reducible refine (q3 _).mono ?_; rintro e wi ⟨rfl, rfl⟩))
                go_ret
                exact ⟨ret_int (by rw [HQ.out]; simp [hzn, hob, hti]), bel_via hb0 hbc⟩
            · have hobb : (ob.toList == []) = false := by simp [hob]
              go_enter Tryz.func68, Tryz.ntmps68
              go_upto_region 1 with fail
              rw [← hw0]
              clear hw0
              go_upto_region 3 with (first | (go_at_call 118; go_loud (with_reducible refine (q1 _ hbc).mono ?_); rintro e wn ⟨rfl, hbn⟩; replace hbc := bel_via hbc hbn; replace c0 := keepc hbn c0; replace c1 := keepc hbn c1; replace c2 := keepc hbn c2; replace c3 := keepc hbn c3; replace c4 := keepc hbn c4; replace c5 := keepc hbn c5; replace c6 := keepc hbn c6; replace c7 := keepc hbn c7; replace n0 := keepc hbn n0; replace n1 := keepc hbn n1; replace n2 := keepc hbn n2; replace n3 := keepc hbn n3; replace n4 := keepc hbn n4; replace n5 := keepc hbn n5; replace n6 := keepc hbn n6; replace n7 := keepc hbn n7; replace n8 := keepc hbn n8; replace n9 := keepc hbn n9; clear hbn))
              have k4 := cell_regrown n4
              have k5 := cell_regrown n5
              have k6 := cell_regrown n6
              have k7 := cell_regrown n7
              have qa := fun d os => Calls.regrown_of (i1 (grow (redrawn wn d) os))
              have qb := fun d os => Calls.regrown_of (i2 (grow (redrawn wn d) os))
              refine wp_region_quiet_below (by kernel_rfl) (by kernel_rfl) ?_
              repeat (first | go_big_quiet_skip | quiet_step (first | (go_at_call 105; with_reducible exact qa _ _) | (go_at_call 105; with_reducible exact qb _ _)))
              refine wpQuiet_nil ?_
              intro _ hw'
              obtain ⟨⟨dq, osq⟩, hw''⟩ := hw'
              subst hw''
              have hbq := below_regrown wn dq osq
              obtain ⟨wq, hwy⟩ : ∃ x, x = grow (redrawn wn dq) osq := ⟨_, rfl⟩
              rw [← hwy] at hbq ⊢
              clear hwy qa qb k4 k5 k6 k7
              replace c0 := keepc hbq c0; replace c1 := keepc hbq c1; replace c2 := keepc hbq c2; replace c3 := keepc hbq c3; replace c4 := keepc hbq c4; replace c5 := keepc hbq c5; replace c6 := keepc hbq c6; replace c7 := keepc hbq c7; replace n0 := keepc hbq n0; replace n1 := keepc hbq n1; replace n2 := keepc hbq n2; replace n3 := keepc hbq n3; replace n4 := keepc hbq n4; replace n5 := keepc hbq n5; replace n6 := keepc hbq n6; replace n7 := keepc hbq n7; replace n8 := keepc hbq n8; replace n9 := keepc hbq n9
              replace hbc := bel_via hbc hbq
              go_wp2_with (first | (go_at_call 42; with_reducible refine (q3 _).mono ?_; rintro e wi ⟨rfl, rfl⟩))
              go_ret
              exact ⟨ret_int (by rw [HQ.out]; simp [hzn, hob]), bel_via hb0 hbc⟩
          · have hznb : (zn.toList == []) = false := by simp [hzn]
            go_enter Tryz.func68, Tryz.ntmps68
            go_upto_region 1 with fail
            rw [← hw0]
            clear hw0
            go_upto_region 3 with (first | (go_at_call 118; go_loud (with_reducible refine (q1 _ hbc).mono ?_); rintro e wn ⟨rfl, hbn⟩; replace hbc := bel_via hbc hbn; replace c0 := keepc hbn c0; replace c1 := keepc hbn c1; replace c2 := keepc hbn c2; replace c3 := keepc hbn c3; replace c4 := keepc hbn c4; replace c5 := keepc hbn c5; replace c6 := keepc hbn c6; replace c7 := keepc hbn c7; replace n0 := keepc hbn n0; replace n1 := keepc hbn n1; replace n2 := keepc hbn n2; replace n3 := keepc hbn n3; replace n4 := keepc hbn n4; replace n5 := keepc hbn n5; replace n6 := keepc hbn n6; replace n7 := keepc hbn n7; replace n8 := keepc hbn n8; replace n9 := keepc hbn n9; clear hbn))
            have k4 := cell_regrown n4
            have k5 := cell_regrown n5
            have k6 := cell_regrown n6
            have k7 := cell_regrown n7
            have qa := fun d os => Calls.regrown_of (i1 (grow (redrawn wn d) os))
            have qb := fun d os => Calls.regrown_of (i2 (grow (redrawn wn d) os))
            refine wp_region_quiet_below (by kernel_rfl) (by kernel_rfl) ?_
            repeat (first | go_big_quiet_skip | quiet_step (first | (go_at_call 105; with_reducible exact qa _ _) | (go_at_call 105; with_reducible exact qb _ _)))
            refine wpQuiet_nil ?_
            intro _ hw'
            obtain ⟨⟨dq, osq⟩, hw''⟩ := hw'
            subst hw''
            have hbq := below_regrown wn dq osq
            obtain ⟨wq, hwy⟩ : ∃ x, x = grow (redrawn wn dq) osq := ⟨_, rfl⟩
            rw [← hwy] at hbq ⊢
            clear hwy qa qb k4 k5 k6 k7
            replace c0 := keepc hbq c0; replace c1 := keepc hbq c1; replace c2 := keepc hbq c2; replace c3 := keepc hbq c3; replace c4 := keepc hbq c4; replace c5 := keepc hbq c5; replace c6 := keepc hbq c6; replace c7 := keepc hbq c7; replace n0 := keepc hbq n0; replace n1 := keepc hbq n1; replace n2 := keepc hbq n2; replace n3 := keepc hbq n3; replace n4 := keepc hbq n4; replace n5 := keepc hbq n5; replace n6 := keepc hbq n6; replace n7 := keepc hbq n7; replace n8 := keepc hbq n8; replace n9 := keepc hbq n9
            replace hbc := bel_via hbc hbq
            go_wp2_with (first | (go_at_call 42; with_reducible refine (q3 _).mono ?_; rintro e wi ⟨rfl, rfl⟩))
            go_ret
            exact ⟨ret_int (by rw [HQ.out]; simp [hzn]), bel_via hb0 hbc⟩
set_option maxHeartbeats 4000000 in
theorem stat1_any (x y : NR) (B : Nat) {W : World} (hB : NrB W B x) :
    Calls Tryz.prog 119 #[.agg (nrc y).toArray, .pointer (some ⟨B, 0, none⟩)] W fun e w' => e = .returned (.bool (clB x y)) ∧ Below W.heap.size W w' := by
  have b1 : Below W.heap.size W (W.alloc (.cells (nrc y).toArray 68)) := Below.al (Below.refl _ _) _
  obtain ⟨n0, n1, n2, n3, n4, n5, n6, n7, n8, n9⟩ := hB.keep b1
  have e1 := fun w => eql_adr y.oh y.ol x.oh x.ol w
  have e2 := fun w => eql_adr y.ih y.il x.ih x.il w
  unfold clB
  generalize (y.oh == x.oh && y.ol == x.ol) = A1 at *
  generalize (y.ih == x.ih && y.il == x.il) = A2 at *
  obtain ⟨kind, zn, ob, sv, oh, ol, ih, il, frm, til⟩ := y
  simp only [nrc] at *
  clear hB
  generalize hK : (kind == 3) = K
  cases K <;> cases A1 <;> cases A2 <;>
  ( go_enter Tryz.func119, Tryz.ntmps119
    go_wp2
    go_ret
    exact ⟨by simp, b1⟩)
theorem eStat1 : ∀ args w, (callFunc 119 args).run Tryz.prog w = .ok (.enter 119 args) w := enters_of Tryz.func119 (by kernel_rfl) rfl
set_option maxHeartbeats 16000000 in
set_option maxRecDepth 100000 in
theorem sta_any (c : CF) (x : NR) (A : Option Addr) (j cp : Nat) (l : List NR) {w : World} (hc : c.Ok w) (hx : NW x) (hl : Sl w 10 nrc A j l) :
    Calls Tryz.prog 69 #[.agg (cfc c), .agg (nrc x).toArray, .slice A j cp] w fun e w' => e = .returned (.int .i64 (staChk c x l)) ∧ Below w.heap.size w w' := by
  obtain ⟨w0, hw0⟩ : ∃ w0, w0 = (w.alloc (.cells (cfc c) 30)).alloc (.cells (nrc x).toArray 68) := ⟨_, rfl⟩
  have hb0 : Below w.heap.size w w0 := by rw [hw0]; exact Below.al (Below.al (Below.refl _ _) _) _
  have hC : CfB w0 w.heap.size c := by rw [hw0]; exact (CfB.made w c).keep (Below.al (Below.refl _ _) _)
  have hN : NrB w0 (w.heap.size + 1) x := by rw [hw0]; have := NrB.made (w.alloc (.cells (cfc c) 30)) x; simpa using this
  have hok := fun (W : World) (hW : Below w0.heap.size w0 W) => (hc.keep hb0).keep hW
  have i1 := fun W => is4_any x.oh x.ol hx.1 hx.2.1 W
  have i2 := fun W => is4_any x.ih x.il hx.2.2.1 hx.2.2.2 W
  have q1 := fun W hW => has_zon x.zn c.zA c.zn c.zc c.zs (hok W hW).z
  rw [show (c.zs.any fun z => eqs z.nm x.zn) = zeB c x.zn from rfl] at q1
  have q3 : ∀ W, Below w0.heap.size w0 W → Calls Tryz.prog 120 #[.slice A j cp, .func (.func 119) #[] #[.pointer (some ⟨w.heap.size + 1, 0, none⟩)]] W fun e w' => e = .returned (.bool (l.any (clB x))) ∧ Below W.heap.size W w' := fun W hW => has_rows Tryz.lc_nat Tryz.isAgg68 Tryz.sizeOf68 nrc (fun _ => rfl) (clB x) 119 #[.pointer (some ⟨w.heap.size + 1, 0, none⟩)] eStat1 A j cp l W (fun W' y hy hW' => stat1_any x y _ ((hN.keep hW).keep hW')) (hl.keep (bel_via hb0 hW))
  obtain ⟨Q, hQ⟩ : ∃ Q, Q = staChk c x l := ⟨_, rfl⟩
  rw [← hQ]
  unfold staChk at hQ
  generalize zeB c x.zn = K1 at *
  generalize is4I x.oh x.ol = I1 at *
  generalize is4I x.ih x.il = I2 at *
  generalize l.any (clB x) = K3 at *
  have HQ := Lib.hid hQ
  clear hQ hok hc hx hl
  obtain ⟨c0, c1, c2, c3, c4, c5, c6, c7⟩ := hC
  obtain ⟨n0, n1, n2, n3, n4, n5, n6, n7, n8, n9⟩ := hN
  obtain ⟨kind, zn, ob, sv, oh, ol, ih, il, frm, til⟩ := x
  simp only [cfc, nrc] at *
  have hbc : Below w0.heap.size w0 w0 := Below.refl _ _
  cases K1 with
  | false =>
    go_enter Tryz.func69, Tryz.ntmps69
    go_upto_region 1 with fail
    rw [← hw0]
    clear hw0
    go_wp2_with (first | (go_at_call 96; go_loud (with_reducible refine (q1 _ hbc).mono ?_); rintro e wn ⟨rfl, hbn⟩; replace hbc := bel_via hbc hbn; replace c0 := keepc hbn c0; replace c1 := keepc hbn c1; replace c2 := keepc hbn c2; replace c3 := keepc hbn c3; replace c4 := keepc hbn c4; replace c5 := keepc hbn c5; replace c6 := keepc hbn c6; replace c7 := keepc hbn c7; replace n0 := keepc hbn n0; replace n1 := keepc hbn n1; replace n2 := keepc hbn n2; replace n3 := keepc hbn n3; replace n4 := keepc hbn n4; replace n5 := keepc hbn n5; replace n6 := keepc hbn n6; replace n7 := keepc hbn n7; replace n8 := keepc hbn n8; replace n9 := keepc hbn n9; clear hbn))
    go_ret
    exact ⟨ret_int (by rw [HQ.out]; simp), bel_via hb0 hbc⟩
  | true =>
    cases I1 with
    | false =>
      cases I2 with
      | true =>
        go_enter Tryz.func69, Tryz.ntmps69
        go_upto_region 1 with fail
        rw [← hw0]
        clear hw0
        go_upto_region 4 with (first | (go_at_call 96; go_loud (with_reducible refine (q1 _ hbc).mono ?_); rintro e wn ⟨rfl, hbn⟩; replace hbc := bel_via hbc hbn; replace c0 := keepc hbn c0; replace c1 := keepc hbn c1; replace c2 := keepc hbn c2; replace c3 := keepc hbn c3; replace c4 := keepc hbn c4; replace c5 := keepc hbn c5; replace c6 := keepc hbn c6; replace c7 := keepc hbn c7; replace n0 := keepc hbn n0; replace n1 := keepc hbn n1; replace n2 := keepc hbn n2; replace n3 := keepc hbn n3; replace n4 := keepc hbn n4; replace n5 := keepc hbn n5; replace n6 := keepc hbn n6; replace n7 := keepc hbn n7; replace n8 := keepc hbn n8; replace n9 := keepc hbn n9; clear hbn))
        have k4 := cell_regrown n4
        have k5 := cell_regrown n5
        have k6 := cell_regrown n6
        have k7 := cell_regrown n7
        have qa := fun d os => Calls.regrown_of (i1 (grow (redrawn wn d) os))
        have qb := fun d os => Calls.regrown_of (i2 (grow (redrawn wn d) os))
        refine wp_region_quiet_below (by kernel_rfl) (by kernel_rfl) ?_
        repeat (first | go_big_quiet_skip | quiet_step (first | (go_at_call 105; with_reducible exact qa _ _) | (go_at_call 105; with_reducible exact qb _ _)))
        refine wpQuiet_nil ?_
        intro _ hw'
        obtain ⟨⟨dq, osq⟩, hw''⟩ := hw'
        subst hw''
        have hbq := below_regrown wn dq osq
        obtain ⟨wq, hwy⟩ : ∃ x, x = grow (redrawn wn dq) osq := ⟨_, rfl⟩
        rw [← hwy] at hbq ⊢
        clear hwy qa qb k4 k5 k6 k7
        replace c0 := keepc hbq c0; replace c1 := keepc hbq c1; replace c2 := keepc hbq c2; replace c3 := keepc hbq c3; replace c4 := keepc hbq c4; replace c5 := keepc hbq c5; replace c6 := keepc hbq c6; replace c7 := keepc hbq c7; replace n0 := keepc hbq n0; replace n1 := keepc hbq n1; replace n2 := keepc hbq n2; replace n3 := keepc hbq n3; replace n4 := keepc hbq n4; replace n5 := keepc hbq n5; replace n6 := keepc hbq n6; replace n7 := keepc hbq n7; replace n8 := keepc hbq n8; replace n9 := keepc hbq n9
        replace hbc := bel_via hbc hbq
        go_wp2_with (first | (go_at_call 120; go_loud (with_reducible refine (q3 _ hbc).mono ?_); rintro e wn ⟨rfl, hbm⟩; replace hbc := bel_via hbc hbm; replace c0 := keepc hbm c0; replace c1 := keepc hbm c1; replace c2 := keepc hbm c2; replace c3 := keepc hbm c3; replace c4 := keepc hbm c4; replace c5 := keepc hbm c5; replace c6 := keepc hbm c6; replace c7 := keepc hbm c7; replace n0 := keepc hbm n0; replace n1 := keepc hbm n1; replace n2 := keepc hbm n2; replace n3 := keepc hbm n3; replace n4 := keepc hbm n4; replace n5 := keepc hbm n5; replace n6 := keepc hbm n6; replace n7 := keepc hbm n7; replace n8 := keepc hbm n8; replace n9 := keepc hbm n9; clear hbm))
        go_ret
        exact ⟨ret_int (by rw [HQ.out]; simp), bel_via hb0 hbc⟩
      | false =>
        cases K3 with
        | true =>
          go_enter Tryz.func69, Tryz.ntmps69
          go_upto_region 1 with fail
          rw [← hw0]
          clear hw0
          go_upto_region 4 with (first | (go_at_call 96; go_loud (with_reducible refine (q1 _ hbc).mono ?_); rintro e wn ⟨rfl, hbn⟩; replace hbc := bel_via hbc hbn; replace c0 := keepc hbn c0; replace c1 := keepc hbn c1; replace c2 := keepc hbn c2; replace c3 := keepc hbn c3; replace c4 := keepc hbn c4; replace c5 := keepc hbn c5; replace c6 := keepc hbn c6; replace c7 := keepc hbn c7; replace n0 := keepc hbn n0; replace n1 := keepc hbn n1; replace n2 := keepc hbn n2; replace n3 := keepc hbn n3; replace n4 := keepc hbn n4; replace n5 := keepc hbn n5; replace n6 := keepc hbn n6; replace n7 := keepc hbn n7; replace n8 := keepc hbn n8; replace n9 := keepc hbn n9; clear hbn))
          have k4 := cell_regrown n4
          have k5 := cell_regrown n5
          have k6 := cell_regrown n6
          have k7 := cell_regrown n7
          have qa := fun d os => Calls.regrown_of (i1 (grow (redrawn wn d) os))
          have qb := fun d os => Calls.regrown_of (i2 (grow (redrawn wn d) os))
          refine wp_region_quiet_below (by kernel_rfl) (by kernel_rfl) ?_
          repeat (first | go_big_quiet_skip | quiet_step (first | (go_at_call 105; with_reducible exact qa _ _) | (go_at_call 105; with_reducible exact qb _ _)))
          refine wpQuiet_nil ?_
          intro _ hw'
          obtain ⟨⟨dq, osq⟩, hw''⟩ := hw'
          subst hw''
          have hbq := below_regrown wn dq osq
          obtain ⟨wq, hwy⟩ : ∃ x, x = grow (redrawn wn dq) osq := ⟨_, rfl⟩
          rw [← hwy] at hbq ⊢
          clear hwy qa qb k4 k5 k6 k7
          replace c0 := keepc hbq c0; replace c1 := keepc hbq c1; replace c2 := keepc hbq c2; replace c3 := keepc hbq c3; replace c4 := keepc hbq c4; replace c5 := keepc hbq c5; replace c6 := keepc hbq c6; replace c7 := keepc hbq c7; replace n0 := keepc hbq n0; replace n1 := keepc hbq n1; replace n2 := keepc hbq n2; replace n3 := keepc hbq n3; replace n4 := keepc hbq n4; replace n5 := keepc hbq n5; replace n6 := keepc hbq n6; replace n7 := keepc hbq n7; replace n8 := keepc hbq n8; replace n9 := keepc hbq n9
          replace hbc := bel_via hbc hbq
          go_wp2_with (first | (go_at_call 120; go_loud (with_reducible refine (q3 _ hbc).mono ?_); rintro e wn ⟨rfl, hbm⟩; replace hbc := bel_via hbc hbm; replace c0 := keepc hbm c0; replace c1 := keepc hbm c1; replace c2 := keepc hbm c2; replace c3 := keepc hbm c3; replace c4 := keepc hbm c4; replace c5 := keepc hbm c5; replace c6 := keepc hbm c6; replace c7 := keepc hbm c7; replace n0 := keepc hbm n0; replace n1 := keepc hbm n1; replace n2 := keepc hbm n2; replace n3 := keepc hbm n3; replace n4 := keepc hbm n4; replace n5 := keepc hbm n5; replace n6 := keepc hbm n6; replace n7 := keepc hbm n7; replace n8 := keepc hbm n8; replace n9 := keepc hbm n9; clear hbm))
          go_ret
          exact ⟨ret_int (by rw [HQ.out]; simp), bel_via hb0 hbc⟩
        | false =>
          by_cases hob : ob.toList = []
          · have hobb : (ob.toList == []) = true := by simp [hob]
            by_cases hsv : sv.toList = []
            · have hsvb : (sv.toList == []) = true := by simp [hsv]
              by_cases hfr : frm = 0
              · subst hfr
                by_cases hti : til = 0
                · subst hti
                  go_enter Tryz.func69, Tryz.ntmps69
                  go_upto_region 1 with fail
                  rw [← hw0]
                  clear hw0
                  go_upto_region 4 with (first | (go_at_call 96; go_loud (with_reducible refine (q1 _ hbc).mono ?_); rintro e wn ⟨rfl, hbn⟩; replace hbc := bel_via hbc hbn; replace c0 := keepc hbn c0; replace c1 := keepc hbn c1; replace c2 := keepc hbn c2; replace c3 := keepc hbn c3; replace c4 := keepc hbn c4; replace c5 := keepc hbn c5; replace c6 := keepc hbn c6; replace c7 := keepc hbn c7; replace n0 := keepc hbn n0; replace n1 := keepc hbn n1; replace n2 := keepc hbn n2; replace n3 := keepc hbn n3; replace n4 := keepc hbn n4; replace n5 := keepc hbn n5; replace n6 := keepc hbn n6; replace n7 := keepc hbn n7; replace n8 := keepc hbn n8; replace n9 := keepc hbn n9; clear hbn))
                  have k4 := cell_regrown n4
                  have k5 := cell_regrown n5
                  have k6 := cell_regrown n6
                  have k7 := cell_regrown n7
                  have qa := fun d os => Calls.regrown_of (i1 (grow (redrawn wn d) os))
                  have qb := fun d os => Calls.regrown_of (i2 (grow (redrawn wn d) os))
                  refine wp_region_quiet_below (by kernel_rfl) (by kernel_rfl) ?_
                  repeat (first | go_big_quiet_skip | quiet_step (first | (go_at_call 105; with_reducible exact qa _ _) | (go_at_call 105; with_reducible exact qb _ _)))
                  refine wpQuiet_nil ?_
                  intro _ hw'
                  obtain ⟨⟨dq, osq⟩, hw''⟩ := hw'
                  subst hw''
                  have hbq := below_regrown wn dq osq
                  obtain ⟨wq, hwy⟩ : ∃ x, x = grow (redrawn wn dq) osq := ⟨_, rfl⟩
                  rw [← hwy] at hbq ⊢
                  clear hwy qa qb k4 k5 k6 k7
                  replace c0 := keepc hbq c0; replace c1 := keepc hbq c1; replace c2 := keepc hbq c2; replace c3 := keepc hbq c3; replace c4 := keepc hbq c4; replace c5 := keepc hbq c5; replace c6 := keepc hbq c6; replace c7 := keepc hbq c7; replace n0 := keepc hbq n0; replace n1 := keepc hbq n1; replace n2 := keepc hbq n2; replace n3 := keepc hbq n3; replace n4 := keepc hbq n4; replace n5 := keepc hbq n5; replace n6 := keepc hbq n6; replace n7 := keepc hbq n7; replace n8 := keepc hbq n8; replace n9 := keepc hbq n9
                  replace hbc := bel_via hbc hbq
                  go_wp2_with (first | (go_at_call 120; go_loud (with_reducible refine (q3 _ hbc).mono ?_); rintro e wn ⟨rfl, hbm⟩; replace hbc := bel_via hbc hbm; replace c0 := keepc hbm c0; replace c1 := keepc hbm c1; replace c2 := keepc hbm c2; replace c3 := keepc hbm c3; replace c4 := keepc hbm c4; replace c5 := keepc hbm c5; replace c6 := keepc hbm c6; replace c7 := keepc hbm c7; replace n0 := keepc hbm n0; replace n1 := keepc hbm n1; replace n2 := keepc hbm n2; replace n3 := keepc hbm n3; replace n4 := keepc hbm n4; replace n5 := keepc hbm n5; replace n6 := keepc hbm n6; replace n7 := keepc hbm n7; replace n8 := keepc hbm n8; replace n9 := keepc hbm n9; clear hbm))
                  go_ret
                  exact ⟨ret_int (by rw [HQ.out]; simp [hob, hsv]), bel_via hb0 hbc⟩
                · have htib : (til != 0) = true := by simp [hti]
                  go_enter Tryz.func69, Tryz.ntmps69
                  go_upto_region 1 with fail
                  rw [← hw0]
                  clear hw0
                  go_upto_region 4 with (first | (go_at_call 96; go_loud (with_reducible refine (q1 _ hbc).mono ?_); rintro e wn ⟨rfl, hbn⟩; replace hbc := bel_via hbc hbn; replace c0 := keepc hbn c0; replace c1 := keepc hbn c1; replace c2 := keepc hbn c2; replace c3 := keepc hbn c3; replace c4 := keepc hbn c4; replace c5 := keepc hbn c5; replace c6 := keepc hbn c6; replace c7 := keepc hbn c7; replace n0 := keepc hbn n0; replace n1 := keepc hbn n1; replace n2 := keepc hbn n2; replace n3 := keepc hbn n3; replace n4 := keepc hbn n4; replace n5 := keepc hbn n5; replace n6 := keepc hbn n6; replace n7 := keepc hbn n7; replace n8 := keepc hbn n8; replace n9 := keepc hbn n9; clear hbn))
                  have k4 := cell_regrown n4
                  have k5 := cell_regrown n5
                  have k6 := cell_regrown n6
                  have k7 := cell_regrown n7
                  have qa := fun d os => Calls.regrown_of (i1 (grow (redrawn wn d) os))
                  have qb := fun d os => Calls.regrown_of (i2 (grow (redrawn wn d) os))
                  refine wp_region_quiet_below (by kernel_rfl) (by kernel_rfl) ?_
                  repeat (first | go_big_quiet_skip | quiet_step (first | (go_at_call 105; with_reducible exact qa _ _) | (go_at_call 105; with_reducible exact qb _ _)))
                  refine wpQuiet_nil ?_
                  intro _ hw'
                  obtain ⟨⟨dq, osq⟩, hw''⟩ := hw'
                  subst hw''
                  have hbq := below_regrown wn dq osq
                  obtain ⟨wq, hwy⟩ : ∃ x, x = grow (redrawn wn dq) osq := ⟨_, rfl⟩
                  rw [← hwy] at hbq ⊢
                  clear hwy qa qb k4 k5 k6 k7
                  replace c0 := keepc hbq c0; replace c1 := keepc hbq c1; replace c2 := keepc hbq c2; replace c3 := keepc hbq c3; replace c4 := keepc hbq c4; replace c5 := keepc hbq c5; replace c6 := keepc hbq c6; replace c7 := keepc hbq c7; replace n0 := keepc hbq n0; replace n1 := keepc hbq n1; replace n2 := keepc hbq n2; replace n3 := keepc hbq n3; replace n4 := keepc hbq n4; replace n5 := keepc hbq n5; replace n6 := keepc hbq n6; replace n7 := keepc hbq n7; replace n8 := keepc hbq n8; replace n9 := keepc hbq n9
                  replace hbc := bel_via hbc hbq
                  go_wp2_with (first | (go_at_call 120; go_loud (with_reducible refine (q3 _ hbc).mono ?_); rintro e wn ⟨rfl, hbm⟩; replace hbc := bel_via hbc hbm; replace c0 := keepc hbm c0; replace c1 := keepc hbm c1; replace c2 := keepc hbm c2; replace c3 := keepc hbm c3; replace c4 := keepc hbm c4; replace c5 := keepc hbm c5; replace c6 := keepc hbm c6; replace c7 := keepc hbm c7; replace n0 := keepc hbm n0; replace n1 := keepc hbm n1; replace n2 := keepc hbm n2; replace n3 := keepc hbm n3; replace n4 := keepc hbm n4; replace n5 := keepc hbm n5; replace n6 := keepc hbm n6; replace n7 := keepc hbm n7; replace n8 := keepc hbm n8; replace n9 := keepc hbm n9; clear hbm))
                  go_ret
                  exact ⟨ret_int (by rw [HQ.out]; simp [hob, hsv, hti]), bel_via hb0 hbc⟩
              · have hfrb : (frm != 0) = true := by simp [hfr]
                go_enter Tryz.func69, Tryz.ntmps69
                go_upto_region 1 with fail
                rw [← hw0]
                clear hw0
                go_upto_region 4 with (first | (go_at_call 96; go_loud (with_reducible refine (q1 _ hbc).mono ?_); rintro e wn ⟨rfl, hbn⟩; replace hbc := bel_via hbc hbn; replace c0 := keepc hbn c0; replace c1 := keepc hbn c1; replace c2 := keepc hbn c2; replace c3 := keepc hbn c3; replace c4 := keepc hbn c4; replace c5 := keepc hbn c5; replace c6 := keepc hbn c6; replace c7 := keepc hbn c7; replace n0 := keepc hbn n0; replace n1 := keepc hbn n1; replace n2 := keepc hbn n2; replace n3 := keepc hbn n3; replace n4 := keepc hbn n4; replace n5 := keepc hbn n5; replace n6 := keepc hbn n6; replace n7 := keepc hbn n7; replace n8 := keepc hbn n8; replace n9 := keepc hbn n9; clear hbn))
                have k4 := cell_regrown n4
                have k5 := cell_regrown n5
                have k6 := cell_regrown n6
                have k7 := cell_regrown n7
                have qa := fun d os => Calls.regrown_of (i1 (grow (redrawn wn d) os))
                have qb := fun d os => Calls.regrown_of (i2 (grow (redrawn wn d) os))
                refine wp_region_quiet_below (by kernel_rfl) (by kernel_rfl) ?_
                repeat (first | go_big_quiet_skip | quiet_step (first | (go_at_call 105; with_reducible exact qa _ _) | (go_at_call 105; with_reducible exact qb _ _)))
                refine wpQuiet_nil ?_
                intro _ hw'
                obtain ⟨⟨dq, osq⟩, hw''⟩ := hw'
                subst hw''
                have hbq := below_regrown wn dq osq
                obtain ⟨wq, hwy⟩ : ∃ x, x = grow (redrawn wn dq) osq := ⟨_, rfl⟩
                rw [← hwy] at hbq ⊢
                clear hwy qa qb k4 k5 k6 k7
                replace c0 := keepc hbq c0; replace c1 := keepc hbq c1; replace c2 := keepc hbq c2; replace c3 := keepc hbq c3; replace c4 := keepc hbq c4; replace c5 := keepc hbq c5; replace c6 := keepc hbq c6; replace c7 := keepc hbq c7; replace n0 := keepc hbq n0; replace n1 := keepc hbq n1; replace n2 := keepc hbq n2; replace n3 := keepc hbq n3; replace n4 := keepc hbq n4; replace n5 := keepc hbq n5; replace n6 := keepc hbq n6; replace n7 := keepc hbq n7; replace n8 := keepc hbq n8; replace n9 := keepc hbq n9
                replace hbc := bel_via hbc hbq
                go_wp2_with (first | (go_at_call 120; go_loud (with_reducible refine (q3 _ hbc).mono ?_); rintro e wn ⟨rfl, hbm⟩; replace hbc := bel_via hbc hbm; replace c0 := keepc hbm c0; replace c1 := keepc hbm c1; replace c2 := keepc hbm c2; replace c3 := keepc hbm c3; replace c4 := keepc hbm c4; replace c5 := keepc hbm c5; replace c6 := keepc hbm c6; replace c7 := keepc hbm c7; replace n0 := keepc hbm n0; replace n1 := keepc hbm n1; replace n2 := keepc hbm n2; replace n3 := keepc hbm n3; replace n4 := keepc hbm n4; replace n5 := keepc hbm n5; replace n6 := keepc hbm n6; replace n7 := keepc hbm n7; replace n8 := keepc hbm n8; replace n9 := keepc hbm n9; clear hbm))
                go_ret
                exact ⟨ret_int (by rw [HQ.out]; simp [hob, hsv, hfr]), bel_via hb0 hbc⟩
            · have hsvb : (sv.toList == []) = false := by simp [hsv]
              go_enter Tryz.func69, Tryz.ntmps69
              go_upto_region 1 with fail
              rw [← hw0]
              clear hw0
              go_upto_region 4 with (first | (go_at_call 96; go_loud (with_reducible refine (q1 _ hbc).mono ?_); rintro e wn ⟨rfl, hbn⟩; replace hbc := bel_via hbc hbn; replace c0 := keepc hbn c0; replace c1 := keepc hbn c1; replace c2 := keepc hbn c2; replace c3 := keepc hbn c3; replace c4 := keepc hbn c4; replace c5 := keepc hbn c5; replace c6 := keepc hbn c6; replace c7 := keepc hbn c7; replace n0 := keepc hbn n0; replace n1 := keepc hbn n1; replace n2 := keepc hbn n2; replace n3 := keepc hbn n3; replace n4 := keepc hbn n4; replace n5 := keepc hbn n5; replace n6 := keepc hbn n6; replace n7 := keepc hbn n7; replace n8 := keepc hbn n8; replace n9 := keepc hbn n9; clear hbn))
              have k4 := cell_regrown n4
              have k5 := cell_regrown n5
              have k6 := cell_regrown n6
              have k7 := cell_regrown n7
              have qa := fun d os => Calls.regrown_of (i1 (grow (redrawn wn d) os))
              have qb := fun d os => Calls.regrown_of (i2 (grow (redrawn wn d) os))
              refine wp_region_quiet_below (by kernel_rfl) (by kernel_rfl) ?_
              repeat (first | go_big_quiet_skip | quiet_step (first | (go_at_call 105; with_reducible exact qa _ _) | (go_at_call 105; with_reducible exact qb _ _)))
              refine wpQuiet_nil ?_
              intro _ hw'
              obtain ⟨⟨dq, osq⟩, hw''⟩ := hw'
              subst hw''
              have hbq := below_regrown wn dq osq
              obtain ⟨wq, hwy⟩ : ∃ x, x = grow (redrawn wn dq) osq := ⟨_, rfl⟩
              rw [← hwy] at hbq ⊢
              clear hwy qa qb k4 k5 k6 k7
              replace c0 := keepc hbq c0; replace c1 := keepc hbq c1; replace c2 := keepc hbq c2; replace c3 := keepc hbq c3; replace c4 := keepc hbq c4; replace c5 := keepc hbq c5; replace c6 := keepc hbq c6; replace c7 := keepc hbq c7; replace n0 := keepc hbq n0; replace n1 := keepc hbq n1; replace n2 := keepc hbq n2; replace n3 := keepc hbq n3; replace n4 := keepc hbq n4; replace n5 := keepc hbq n5; replace n6 := keepc hbq n6; replace n7 := keepc hbq n7; replace n8 := keepc hbq n8; replace n9 := keepc hbq n9
              replace hbc := bel_via hbc hbq
              go_wp2_with (first | (go_at_call 120; go_loud (with_reducible refine (q3 _ hbc).mono ?_); rintro e wn ⟨rfl, hbm⟩; replace hbc := bel_via hbc hbm; replace c0 := keepc hbm c0; replace c1 := keepc hbm c1; replace c2 := keepc hbm c2; replace c3 := keepc hbm c3; replace c4 := keepc hbm c4; replace c5 := keepc hbm c5; replace c6 := keepc hbm c6; replace c7 := keepc hbm c7; replace n0 := keepc hbm n0; replace n1 := keepc hbm n1; replace n2 := keepc hbm n2; replace n3 := keepc hbm n3; replace n4 := keepc hbm n4; replace n5 := keepc hbm n5; replace n6 := keepc hbm n6; replace n7 := keepc hbm n7; replace n8 := keepc hbm n8; replace n9 := keepc hbm n9; clear hbm))
              go_ret
              exact ⟨ret_int (by rw [HQ.out]; simp [hob, hsv]), bel_via hb0 hbc⟩
          · have hobb : (ob.toList == []) = false := by simp [hob]
            go_enter Tryz.func69, Tryz.ntmps69
            go_upto_region 1 with fail
            rw [← hw0]
            clear hw0
            go_upto_region 4 with (first | (go_at_call 96; go_loud (with_reducible refine (q1 _ hbc).mono ?_); rintro e wn ⟨rfl, hbn⟩; replace hbc := bel_via hbc hbn; replace c0 := keepc hbn c0; replace c1 := keepc hbn c1; replace c2 := keepc hbn c2; replace c3 := keepc hbn c3; replace c4 := keepc hbn c4; replace c5 := keepc hbn c5; replace c6 := keepc hbn c6; replace c7 := keepc hbn c7; replace n0 := keepc hbn n0; replace n1 := keepc hbn n1; replace n2 := keepc hbn n2; replace n3 := keepc hbn n3; replace n4 := keepc hbn n4; replace n5 := keepc hbn n5; replace n6 := keepc hbn n6; replace n7 := keepc hbn n7; replace n8 := keepc hbn n8; replace n9 := keepc hbn n9; clear hbn))
            have k4 := cell_regrown n4
            have k5 := cell_regrown n5
            have k6 := cell_regrown n6
            have k7 := cell_regrown n7
            have qa := fun d os => Calls.regrown_of (i1 (grow (redrawn wn d) os))
            have qb := fun d os => Calls.regrown_of (i2 (grow (redrawn wn d) os))
            refine wp_region_quiet_below (by kernel_rfl) (by kernel_rfl) ?_
            repeat (first | go_big_quiet_skip | quiet_step (first | (go_at_call 105; with_reducible exact qa _ _) | (go_at_call 105; with_reducible exact qb _ _)))
            refine wpQuiet_nil ?_
            intro _ hw'
            obtain ⟨⟨dq, osq⟩, hw''⟩ := hw'
            subst hw''
            have hbq := below_regrown wn dq osq
            obtain ⟨wq, hwy⟩ : ∃ x, x = grow (redrawn wn dq) osq := ⟨_, rfl⟩
            rw [← hwy] at hbq ⊢
            clear hwy qa qb k4 k5 k6 k7
            replace c0 := keepc hbq c0; replace c1 := keepc hbq c1; replace c2 := keepc hbq c2; replace c3 := keepc hbq c3; replace c4 := keepc hbq c4; replace c5 := keepc hbq c5; replace c6 := keepc hbq c6; replace c7 := keepc hbq c7; replace n0 := keepc hbq n0; replace n1 := keepc hbq n1; replace n2 := keepc hbq n2; replace n3 := keepc hbq n3; replace n4 := keepc hbq n4; replace n5 := keepc hbq n5; replace n6 := keepc hbq n6; replace n7 := keepc hbq n7; replace n8 := keepc hbq n8; replace n9 := keepc hbq n9
            replace hbc := bel_via hbc hbq
            go_wp2_with (first | (go_at_call 120; go_loud (with_reducible refine (q3 _ hbc).mono ?_); rintro e wn ⟨rfl, hbm⟩; replace hbc := bel_via hbc hbm; replace c0 := keepc hbm c0; replace c1 := keepc hbm c1; replace c2 := keepc hbm c2; replace c3 := keepc hbm c3; replace c4 := keepc hbm c4; replace c5 := keepc hbm c5; replace c6 := keepc hbm c6; replace c7 := keepc hbm c7; replace n0 := keepc hbm n0; replace n1 := keepc hbm n1; replace n2 := keepc hbm n2; replace n3 := keepc hbm n3; replace n4 := keepc hbm n4; replace n5 := keepc hbm n5; replace n6 := keepc hbm n6; replace n7 := keepc hbm n7; replace n8 := keepc hbm n8; replace n9 := keepc hbm n9; clear hbm))
            go_ret
            exact ⟨ret_int (by rw [HQ.out]; simp [hob]), bel_via hb0 hbc⟩
    | true =>
      cases I2 with
      | false =>
        go_enter Tryz.func69, Tryz.ntmps69
        go_upto_region 1 with fail
        rw [← hw0]
        clear hw0
        go_upto_region 4 with (first | (go_at_call 96; go_loud (with_reducible refine (q1 _ hbc).mono ?_); rintro e wn ⟨rfl, hbn⟩; replace hbc := bel_via hbc hbn; replace c0 := keepc hbn c0; replace c1 := keepc hbn c1; replace c2 := keepc hbn c2; replace c3 := keepc hbn c3; replace c4 := keepc hbn c4; replace c5 := keepc hbn c5; replace c6 := keepc hbn c6; replace c7 := keepc hbn c7; replace n0 := keepc hbn n0; replace n1 := keepc hbn n1; replace n2 := keepc hbn n2; replace n3 := keepc hbn n3; replace n4 := keepc hbn n4; replace n5 := keepc hbn n5; replace n6 := keepc hbn n6; replace n7 := keepc hbn n7; replace n8 := keepc hbn n8; replace n9 := keepc hbn n9; clear hbn))
        have k4 := cell_regrown n4
        have k5 := cell_regrown n5
        have k6 := cell_regrown n6
        have k7 := cell_regrown n7
        have qa := fun d os => Calls.regrown_of (i1 (grow (redrawn wn d) os))
        have qb := fun d os => Calls.regrown_of (i2 (grow (redrawn wn d) os))
        refine wp_region_quiet_below (by kernel_rfl) (by kernel_rfl) ?_
        repeat (first | go_big_quiet_skip | quiet_step (first | (go_at_call 105; with_reducible exact qa _ _) | (go_at_call 105; with_reducible exact qb _ _)))
        refine wpQuiet_nil ?_
        intro _ hw'
        obtain ⟨⟨dq, osq⟩, hw''⟩ := hw'
        subst hw''
        have hbq := below_regrown wn dq osq
        obtain ⟨wq, hwy⟩ : ∃ x, x = grow (redrawn wn dq) osq := ⟨_, rfl⟩
        rw [← hwy] at hbq ⊢
        clear hwy qa qb k4 k5 k6 k7
        replace c0 := keepc hbq c0; replace c1 := keepc hbq c1; replace c2 := keepc hbq c2; replace c3 := keepc hbq c3; replace c4 := keepc hbq c4; replace c5 := keepc hbq c5; replace c6 := keepc hbq c6; replace c7 := keepc hbq c7; replace n0 := keepc hbq n0; replace n1 := keepc hbq n1; replace n2 := keepc hbq n2; replace n3 := keepc hbq n3; replace n4 := keepc hbq n4; replace n5 := keepc hbq n5; replace n6 := keepc hbq n6; replace n7 := keepc hbq n7; replace n8 := keepc hbq n8; replace n9 := keepc hbq n9
        replace hbc := bel_via hbc hbq
        go_wp2_with (first | (go_at_call 120; go_loud (with_reducible refine (q3 _ hbc).mono ?_); rintro e wn ⟨rfl, hbm⟩; replace hbc := bel_via hbc hbm; replace c0 := keepc hbm c0; replace c1 := keepc hbm c1; replace c2 := keepc hbm c2; replace c3 := keepc hbm c3; replace c4 := keepc hbm c4; replace c5 := keepc hbm c5; replace c6 := keepc hbm c6; replace c7 := keepc hbm c7; replace n0 := keepc hbm n0; replace n1 := keepc hbm n1; replace n2 := keepc hbm n2; replace n3 := keepc hbm n3; replace n4 := keepc hbm n4; replace n5 := keepc hbm n5; replace n6 := keepc hbm n6; replace n7 := keepc hbm n7; replace n8 := keepc hbm n8; replace n9 := keepc hbm n9; clear hbm))
        go_ret
        exact ⟨ret_int (by rw [HQ.out]; simp), bel_via hb0 hbc⟩
      | true =>
        cases K3 with
        | true =>
          go_enter Tryz.func69, Tryz.ntmps69
          go_upto_region 1 with fail
          rw [← hw0]
          clear hw0
          go_upto_region 4 with (first | (go_at_call 96; go_loud (with_reducible refine (q1 _ hbc).mono ?_); rintro e wn ⟨rfl, hbn⟩; replace hbc := bel_via hbc hbn; replace c0 := keepc hbn c0; replace c1 := keepc hbn c1; replace c2 := keepc hbn c2; replace c3 := keepc hbn c3; replace c4 := keepc hbn c4; replace c5 := keepc hbn c5; replace c6 := keepc hbn c6; replace c7 := keepc hbn c7; replace n0 := keepc hbn n0; replace n1 := keepc hbn n1; replace n2 := keepc hbn n2; replace n3 := keepc hbn n3; replace n4 := keepc hbn n4; replace n5 := keepc hbn n5; replace n6 := keepc hbn n6; replace n7 := keepc hbn n7; replace n8 := keepc hbn n8; replace n9 := keepc hbn n9; clear hbn))
          have k4 := cell_regrown n4
          have k5 := cell_regrown n5
          have k6 := cell_regrown n6
          have k7 := cell_regrown n7
          have qa := fun d os => Calls.regrown_of (i1 (grow (redrawn wn d) os))
          have qb := fun d os => Calls.regrown_of (i2 (grow (redrawn wn d) os))
          refine wp_region_quiet_below (by kernel_rfl) (by kernel_rfl) ?_
          repeat (first | go_big_quiet_skip | quiet_step (first | (go_at_call 105; with_reducible exact qa _ _) | (go_at_call 105; with_reducible exact qb _ _)))
          refine wpQuiet_nil ?_
          intro _ hw'
          obtain ⟨⟨dq, osq⟩, hw''⟩ := hw'
          subst hw''
          have hbq := below_regrown wn dq osq
          obtain ⟨wq, hwy⟩ : ∃ x, x = grow (redrawn wn dq) osq := ⟨_, rfl⟩
          rw [← hwy] at hbq ⊢
          clear hwy qa qb k4 k5 k6 k7
          replace c0 := keepc hbq c0; replace c1 := keepc hbq c1; replace c2 := keepc hbq c2; replace c3 := keepc hbq c3; replace c4 := keepc hbq c4; replace c5 := keepc hbq c5; replace c6 := keepc hbq c6; replace c7 := keepc hbq c7; replace n0 := keepc hbq n0; replace n1 := keepc hbq n1; replace n2 := keepc hbq n2; replace n3 := keepc hbq n3; replace n4 := keepc hbq n4; replace n5 := keepc hbq n5; replace n6 := keepc hbq n6; replace n7 := keepc hbq n7; replace n8 := keepc hbq n8; replace n9 := keepc hbq n9
          replace hbc := bel_via hbc hbq
          go_wp2_with (first | (go_at_call 120; go_loud (with_reducible refine (q3 _ hbc).mono ?_); rintro e wn ⟨rfl, hbm⟩; replace hbc := bel_via hbc hbm; replace c0 := keepc hbm c0; replace c1 := keepc hbm c1; replace c2 := keepc hbm c2; replace c3 := keepc hbm c3; replace c4 := keepc hbm c4; replace c5 := keepc hbm c5; replace c6 := keepc hbm c6; replace c7 := keepc hbm c7; replace n0 := keepc hbm n0; replace n1 := keepc hbm n1; replace n2 := keepc hbm n2; replace n3 := keepc hbm n3; replace n4 := keepc hbm n4; replace n5 := keepc hbm n5; replace n6 := keepc hbm n6; replace n7 := keepc hbm n7; replace n8 := keepc hbm n8; replace n9 := keepc hbm n9; clear hbm))
          go_ret
          exact ⟨ret_int (by rw [HQ.out]; simp), bel_via hb0 hbc⟩
        | false =>
          by_cases hob : ob.toList = []
          · have hobb : (ob.toList == []) = true := by simp [hob]
            by_cases hsv : sv.toList = []
            · have hsvb : (sv.toList == []) = true := by simp [hsv]
              by_cases hfr : frm = 0
              · subst hfr
                by_cases hti : til = 0
                · subst hti
                  go_enter Tryz.func69, Tryz.ntmps69
                  go_upto_region 1 with fail
                  rw [← hw0]
                  clear hw0
                  go_upto_region 4 with (first | (go_at_call 96; go_loud (with_reducible refine (q1 _ hbc).mono ?_); rintro e wn ⟨rfl, hbn⟩; replace hbc := bel_via hbc hbn; replace c0 := keepc hbn c0; replace c1 := keepc hbn c1; replace c2 := keepc hbn c2; replace c3 := keepc hbn c3; replace c4 := keepc hbn c4; replace c5 := keepc hbn c5; replace c6 := keepc hbn c6; replace c7 := keepc hbn c7; replace n0 := keepc hbn n0; replace n1 := keepc hbn n1; replace n2 := keepc hbn n2; replace n3 := keepc hbn n3; replace n4 := keepc hbn n4; replace n5 := keepc hbn n5; replace n6 := keepc hbn n6; replace n7 := keepc hbn n7; replace n8 := keepc hbn n8; replace n9 := keepc hbn n9; clear hbn))
                  have k4 := cell_regrown n4
                  have k5 := cell_regrown n5
                  have k6 := cell_regrown n6
                  have k7 := cell_regrown n7
                  have qa := fun d os => Calls.regrown_of (i1 (grow (redrawn wn d) os))
                  have qb := fun d os => Calls.regrown_of (i2 (grow (redrawn wn d) os))
                  refine wp_region_quiet_below (by kernel_rfl) (by kernel_rfl) ?_
                  repeat (first | go_big_quiet_skip | quiet_step (first | (go_at_call 105; with_reducible exact qa _ _) | (go_at_call 105; with_reducible exact qb _ _)))
                  refine wpQuiet_nil ?_
                  intro _ hw'
                  obtain ⟨⟨dq, osq⟩, hw''⟩ := hw'
                  subst hw''
                  have hbq := below_regrown wn dq osq
                  obtain ⟨wq, hwy⟩ : ∃ x, x = grow (redrawn wn dq) osq := ⟨_, rfl⟩
                  rw [← hwy] at hbq ⊢
                  clear hwy qa qb k4 k5 k6 k7
                  replace c0 := keepc hbq c0; replace c1 := keepc hbq c1; replace c2 := keepc hbq c2; replace c3 := keepc hbq c3; replace c4 := keepc hbq c4; replace c5 := keepc hbq c5; replace c6 := keepc hbq c6; replace c7 := keepc hbq c7; replace n0 := keepc hbq n0; replace n1 := keepc hbq n1; replace n2 := keepc hbq n2; replace n3 := keepc hbq n3; replace n4 := keepc hbq n4; replace n5 := keepc hbq n5; replace n6 := keepc hbq n6; replace n7 := keepc hbq n7; replace n8 := keepc hbq n8; replace n9 := keepc hbq n9
                  replace hbc := bel_via hbc hbq
                  go_wp2_with (first | (go_at_call 120; go_loud (with_reducible refine (q3 _ hbc).mono ?_); rintro e wn ⟨rfl, hbm⟩; replace hbc := bel_via hbc hbm; replace c0 := keepc hbm c0; replace c1 := keepc hbm c1; replace c2 := keepc hbm c2; replace c3 := keepc hbm c3; replace c4 := keepc hbm c4; replace c5 := keepc hbm c5; replace c6 := keepc hbm c6; replace c7 := keepc hbm c7; replace n0 := keepc hbm n0; replace n1 := keepc hbm n1; replace n2 := keepc hbm n2; replace n3 := keepc hbm n3; replace n4 := keepc hbm n4; replace n5 := keepc hbm n5; replace n6 := keepc hbm n6; replace n7 := keepc hbm n7; replace n8 := keepc hbm n8; replace n9 := keepc hbm n9; clear hbm))
                  go_ret
                  exact ⟨ret_int (by rw [HQ.out]; simp [hob, hsv]), bel_via hb0 hbc⟩
                · have htib : (til != 0) = true := by simp [hti]
                  go_enter Tryz.func69, Tryz.ntmps69
                  go_upto_region 1 with fail
                  rw [← hw0]
                  clear hw0
                  go_upto_region 4 with (first | (go_at_call 96; go_loud (with_reducible refine (q1 _ hbc).mono ?_); rintro e wn ⟨rfl, hbn⟩; replace hbc := bel_via hbc hbn; replace c0 := keepc hbn c0; replace c1 := keepc hbn c1; replace c2 := keepc hbn c2; replace c3 := keepc hbn c3; replace c4 := keepc hbn c4; replace c5 := keepc hbn c5; replace c6 := keepc hbn c6; replace c7 := keepc hbn c7; replace n0 := keepc hbn n0; replace n1 := keepc hbn n1; replace n2 := keepc hbn n2; replace n3 := keepc hbn n3; replace n4 := keepc hbn n4; replace n5 := keepc hbn n5; replace n6 := keepc hbn n6; replace n7 := keepc hbn n7; replace n8 := keepc hbn n8; replace n9 := keepc hbn n9; clear hbn))
                  have k4 := cell_regrown n4
                  have k5 := cell_regrown n5
                  have k6 := cell_regrown n6
                  have k7 := cell_regrown n7
                  have qa := fun d os => Calls.regrown_of (i1 (grow (redrawn wn d) os))
                  have qb := fun d os => Calls.regrown_of (i2 (grow (redrawn wn d) os))
                  refine wp_region_quiet_below (by kernel_rfl) (by kernel_rfl) ?_
                  repeat (first | go_big_quiet_skip | quiet_step (first | (go_at_call 105; with_reducible exact qa _ _) | (go_at_call 105; with_reducible exact qb _ _)))
                  refine wpQuiet_nil ?_
                  intro _ hw'
                  obtain ⟨⟨dq, osq⟩, hw''⟩ := hw'
                  subst hw''
                  have hbq := below_regrown wn dq osq
                  obtain ⟨wq, hwy⟩ : ∃ x, x = grow (redrawn wn dq) osq := ⟨_, rfl⟩
                  rw [← hwy] at hbq ⊢
                  clear hwy qa qb k4 k5 k6 k7
                  replace c0 := keepc hbq c0; replace c1 := keepc hbq c1; replace c2 := keepc hbq c2; replace c3 := keepc hbq c3; replace c4 := keepc hbq c4; replace c5 := keepc hbq c5; replace c6 := keepc hbq c6; replace c7 := keepc hbq c7; replace n0 := keepc hbq n0; replace n1 := keepc hbq n1; replace n2 := keepc hbq n2; replace n3 := keepc hbq n3; replace n4 := keepc hbq n4; replace n5 := keepc hbq n5; replace n6 := keepc hbq n6; replace n7 := keepc hbq n7; replace n8 := keepc hbq n8; replace n9 := keepc hbq n9
                  replace hbc := bel_via hbc hbq
                  go_wp2_with (first | (go_at_call 120; go_loud (with_reducible refine (q3 _ hbc).mono ?_); rintro e wn ⟨rfl, hbm⟩; replace hbc := bel_via hbc hbm; replace c0 := keepc hbm c0; replace c1 := keepc hbm c1; replace c2 := keepc hbm c2; replace c3 := keepc hbm c3; replace c4 := keepc hbm c4; replace c5 := keepc hbm c5; replace c6 := keepc hbm c6; replace c7 := keepc hbm c7; replace n0 := keepc hbm n0; replace n1 := keepc hbm n1; replace n2 := keepc hbm n2; replace n3 := keepc hbm n3; replace n4 := keepc hbm n4; replace n5 := keepc hbm n5; replace n6 := keepc hbm n6; replace n7 := keepc hbm n7; replace n8 := keepc hbm n8; replace n9 := keepc hbm n9; clear hbm))
                  go_ret
                  exact ⟨ret_int (by rw [HQ.out]; simp [hob, hsv, hti]), bel_via hb0 hbc⟩
              · have hfrb : (frm != 0) = true := by simp [hfr]
                go_enter Tryz.func69, Tryz.ntmps69
                go_upto_region 1 with fail
                rw [← hw0]
                clear hw0
                go_upto_region 4 with (first | (go_at_call 96; go_loud (with_reducible refine (q1 _ hbc).mono ?_); rintro e wn ⟨rfl, hbn⟩; replace hbc := bel_via hbc hbn; replace c0 := keepc hbn c0; replace c1 := keepc hbn c1; replace c2 := keepc hbn c2; replace c3 := keepc hbn c3; replace c4 := keepc hbn c4; replace c5 := keepc hbn c5; replace c6 := keepc hbn c6; replace c7 := keepc hbn c7; replace n0 := keepc hbn n0; replace n1 := keepc hbn n1; replace n2 := keepc hbn n2; replace n3 := keepc hbn n3; replace n4 := keepc hbn n4; replace n5 := keepc hbn n5; replace n6 := keepc hbn n6; replace n7 := keepc hbn n7; replace n8 := keepc hbn n8; replace n9 := keepc hbn n9; clear hbn))
                have k4 := cell_regrown n4
                have k5 := cell_regrown n5
                have k6 := cell_regrown n6
                have k7 := cell_regrown n7
                have qa := fun d os => Calls.regrown_of (i1 (grow (redrawn wn d) os))
                have qb := fun d os => Calls.regrown_of (i2 (grow (redrawn wn d) os))
                refine wp_region_quiet_below (by kernel_rfl) (by kernel_rfl) ?_
                repeat (first | go_big_quiet_skip | quiet_step (first | (go_at_call 105; with_reducible exact qa _ _) | (go_at_call 105; with_reducible exact qb _ _)))
                refine wpQuiet_nil ?_
                intro _ hw'
                obtain ⟨⟨dq, osq⟩, hw''⟩ := hw'
                subst hw''
                have hbq := below_regrown wn dq osq
                obtain ⟨wq, hwy⟩ : ∃ x, x = grow (redrawn wn dq) osq := ⟨_, rfl⟩
                rw [← hwy] at hbq ⊢
                clear hwy qa qb k4 k5 k6 k7
                replace c0 := keepc hbq c0; replace c1 := keepc hbq c1; replace c2 := keepc hbq c2; replace c3 := keepc hbq c3; replace c4 := keepc hbq c4; replace c5 := keepc hbq c5; replace c6 := keepc hbq c6; replace c7 := keepc hbq c7; replace n0 := keepc hbq n0; replace n1 := keepc hbq n1; replace n2 := keepc hbq n2; replace n3 := keepc hbq n3; replace n4 := keepc hbq n4; replace n5 := keepc hbq n5; replace n6 := keepc hbq n6; replace n7 := keepc hbq n7; replace n8 := keepc hbq n8; replace n9 := keepc hbq n9
                replace hbc := bel_via hbc hbq
                go_wp2_with (first | (go_at_call 120; go_loud (with_reducible refine (q3 _ hbc).mono ?_); rintro e wn ⟨rfl, hbm⟩; replace hbc := bel_via hbc hbm; replace c0 := keepc hbm c0; replace c1 := keepc hbm c1; replace c2 := keepc hbm c2; replace c3 := keepc hbm c3; replace c4 := keepc hbm c4; replace c5 := keepc hbm c5; replace c6 := keepc hbm c6; replace c7 := keepc hbm c7; replace n0 := keepc hbm n0; replace n1 := keepc hbm n1; replace n2 := keepc hbm n2; replace n3 := keepc hbm n3; replace n4 := keepc hbm n4; replace n5 := keepc hbm n5; replace n6 := keepc hbm n6; replace n7 := keepc hbm n7; replace n8 := keepc hbm n8; replace n9 := keepc hbm n9; clear hbm))
                go_ret
                exact ⟨ret_int (by rw [HQ.out]; simp [hob, hsv, hfr]), bel_via hb0 hbc⟩
            · have hsvb : (sv.toList == []) = false := by simp [hsv]
              go_enter Tryz.func69, Tryz.ntmps69
              go_upto_region 1 with fail
              rw [← hw0]
              clear hw0
              go_upto_region 4 with (first | (go_at_call 96; go_loud (with_reducible refine (q1 _ hbc).mono ?_); rintro e wn ⟨rfl, hbn⟩; replace hbc := bel_via hbc hbn; replace c0 := keepc hbn c0; replace c1 := keepc hbn c1; replace c2 := keepc hbn c2; replace c3 := keepc hbn c3; replace c4 := keepc hbn c4; replace c5 := keepc hbn c5; replace c6 := keepc hbn c6; replace c7 := keepc hbn c7; replace n0 := keepc hbn n0; replace n1 := keepc hbn n1; replace n2 := keepc hbn n2; replace n3 := keepc hbn n3; replace n4 := keepc hbn n4; replace n5 := keepc hbn n5; replace n6 := keepc hbn n6; replace n7 := keepc hbn n7; replace n8 := keepc hbn n8; replace n9 := keepc hbn n9; clear hbn))
              have k4 := cell_regrown n4
              have k5 := cell_regrown n5
              have k6 := cell_regrown n6
              have k7 := cell_regrown n7
              have qa := fun d os => Calls.regrown_of (i1 (grow (redrawn wn d) os))
              have qb := fun d os => Calls.regrown_of (i2 (grow (redrawn wn d) os))
              refine wp_region_quiet_below (by kernel_rfl) (by kernel_rfl) ?_
              repeat (first | go_big_quiet_skip | quiet_step (first | (go_at_call 105; with_reducible exact qa _ _) | (go_at_call 105; with_reducible exact qb _ _)))
              refine wpQuiet_nil ?_
              intro _ hw'
              obtain ⟨⟨dq, osq⟩, hw''⟩ := hw'
              subst hw''
              have hbq := below_regrown wn dq osq
              obtain ⟨wq, hwy⟩ : ∃ x, x = grow (redrawn wn dq) osq := ⟨_, rfl⟩
              rw [← hwy] at hbq ⊢
              clear hwy qa qb k4 k5 k6 k7
              replace c0 := keepc hbq c0; replace c1 := keepc hbq c1; replace c2 := keepc hbq c2; replace c3 := keepc hbq c3; replace c4 := keepc hbq c4; replace c5 := keepc hbq c5; replace c6 := keepc hbq c6; replace c7 := keepc hbq c7; replace n0 := keepc hbq n0; replace n1 := keepc hbq n1; replace n2 := keepc hbq n2; replace n3 := keepc hbq n3; replace n4 := keepc hbq n4; replace n5 := keepc hbq n5; replace n6 := keepc hbq n6; replace n7 := keepc hbq n7; replace n8 := keepc hbq n8; replace n9 := keepc hbq n9
              replace hbc := bel_via hbc hbq
              go_wp2_with (first | (go_at_call 120; go_loud (with_reducible refine (q3 _ hbc).mono ?_); rintro e wn ⟨rfl, hbm⟩; replace hbc := bel_via hbc hbm; replace c0 := keepc hbm c0; replace c1 := keepc hbm c1; replace c2 := keepc hbm c2; replace c3 := keepc hbm c3; replace c4 := keepc hbm c4; replace c5 := keepc hbm c5; replace c6 := keepc hbm c6; replace c7 := keepc hbm c7; replace n0 := keepc hbm n0; replace n1 := keepc hbm n1; replace n2 := keepc hbm n2; replace n3 := keepc hbm n3; replace n4 := keepc hbm n4; replace n5 := keepc hbm n5; replace n6 := keepc hbm n6; replace n7 := keepc hbm n7; replace n8 := keepc hbm n8; replace n9 := keepc hbm n9; clear hbm))
              go_ret
              exact ⟨ret_int (by rw [HQ.out]; simp [hob, hsv]), bel_via hb0 hbc⟩
          · have hobb : (ob.toList == []) = false := by simp [hob]
            go_enter Tryz.func69, Tryz.ntmps69
            go_upto_region 1 with fail
            rw [← hw0]
            clear hw0
            go_upto_region 4 with (first | (go_at_call 96; go_loud (with_reducible refine (q1 _ hbc).mono ?_); rintro e wn ⟨rfl, hbn⟩; replace hbc := bel_via hbc hbn; replace c0 := keepc hbn c0; replace c1 := keepc hbn c1; replace c2 := keepc hbn c2; replace c3 := keepc hbn c3; replace c4 := keepc hbn c4; replace c5 := keepc hbn c5; replace c6 := keepc hbn c6; replace c7 := keepc hbn c7; replace n0 := keepc hbn n0; replace n1 := keepc hbn n1; replace n2 := keepc hbn n2; replace n3 := keepc hbn n3; replace n4 := keepc hbn n4; replace n5 := keepc hbn n5; replace n6 := keepc hbn n6; replace n7 := keepc hbn n7; replace n8 := keepc hbn n8; replace n9 := keepc hbn n9; clear hbn))
            have k4 := cell_regrown n4
            have k5 := cell_regrown n5
            have k6 := cell_regrown n6
            have k7 := cell_regrown n7
            have qa := fun d os => Calls.regrown_of (i1 (grow (redrawn wn d) os))
            have qb := fun d os => Calls.regrown_of (i2 (grow (redrawn wn d) os))
            refine wp_region_quiet_below (by kernel_rfl) (by kernel_rfl) ?_
            repeat (first | go_big_quiet_skip | quiet_step (first | (go_at_call 105; with_reducible exact qa _ _) | (go_at_call 105; with_reducible exact qb _ _)))
            refine wpQuiet_nil ?_
            intro _ hw'
            obtain ⟨⟨dq, osq⟩, hw''⟩ := hw'
            subst hw''
            have hbq := below_regrown wn dq osq
            obtain ⟨wq, hwy⟩ : ∃ x, x = grow (redrawn wn dq) osq := ⟨_, rfl⟩
            rw [← hwy] at hbq ⊢
            clear hwy qa qb k4 k5 k6 k7
            replace c0 := keepc hbq c0; replace c1 := keepc hbq c1; replace c2 := keepc hbq c2; replace c3 := keepc hbq c3; replace c4 := keepc hbq c4; replace c5 := keepc hbq c5; replace c6 := keepc hbq c6; replace c7 := keepc hbq c7; replace n0 := keepc hbq n0; replace n1 := keepc hbq n1; replace n2 := keepc hbq n2; replace n3 := keepc hbq n3; replace n4 := keepc hbq n4; replace n5 := keepc hbq n5; replace n6 := keepc hbq n6; replace n7 := keepc hbq n7; replace n8 := keepc hbq n8; replace n9 := keepc hbq n9
            replace hbc := bel_via hbc hbq
            go_wp2_with (first | (go_at_call 120; go_loud (with_reducible refine (q3 _ hbc).mono ?_); rintro e wn ⟨rfl, hbm⟩; replace hbc := bel_via hbc hbm; replace c0 := keepc hbm c0; replace c1 := keepc hbm c1; replace c2 := keepc hbm c2; replace c3 := keepc hbm c3; replace c4 := keepc hbm c4; replace c5 := keepc hbm c5; replace c6 := keepc hbm c6; replace c7 := keepc hbm c7; replace n0 := keepc hbm n0; replace n1 := keepc hbm n1; replace n2 := keepc hbm n2; replace n3 := keepc hbm n3; replace n4 := keepc hbm n4; replace n5 := keepc hbm n5; replace n6 := keepc hbm n6; replace n7 := keepc hbm n7; replace n8 := keepc hbm n8; replace n9 := keepc hbm n9; clear hbm))
            go_ret
            exact ⟨ret_int (by rw [HQ.out]; simp [hob]), bel_via hb0 hbc⟩
set_option maxHeartbeats 4000000 in
set_option maxRecDepth 100000 in
theorem nat1_any (c : CF) (B : Nat) (x : NR) (A : Option Addr) (j cp : Nat) (l : List NR) {W : World} (hc : c.Ok W) (hB : CfB W B c) (hx : NW x) (hl : Sl W 10 nrc A j l) :
    Calls Tryz.prog 66 #[.agg (nrc x).toArray, .slice A j cp, .pointer (some ⟨B, 0, none⟩)] W fun e w' => e = .returned (.int .i64 (natChk c x l)) ∧ Below W.heap.size W w' := by
  obtain ⟨w0, hw0⟩ : ∃ w0, w0 = W.alloc (.cells (nrc x).toArray 68) := ⟨_, rfl⟩
  have b0 : Below W.heap.size W w0 := by rw [hw0]; exact Below.al (Below.refl _ _) _
  have q1 := src_any c x (hc.keep b0)
  have q2 := dst_any c x (hc.keep b0) hx
  have q3 := sta_any c x A j cp l (hc.keep b0) hx (hl.keep b0)
  obtain ⟨c0, c1, c2, c3, c4, c5, c6, c7⟩ := hB.keep b0
  obtain ⟨n0, n1, n2, n3, n4, n5, n6, n7, n8, n9⟩ : NrB w0 W.heap.size x := by rw [hw0]; exact NrB.made W x
  unfold natChk
  generalize srcChk c x = R1 at *
  generalize dstChk c x = R2 at *
  generalize staChk c x l = R3 at *
  obtain ⟨kind, zn, ob, sv, oh, ol, ih, il, frm, til⟩ := x
  simp only [cfc, nrc] at *
  clear hc hB hx hl
  by_cases h1 : kind = 1
  · subst h1
    rw [if_pos rfl]
    go_enter Tryz.func66, Tryz.ntmps66
    go_upto_region 1 with fail
    rw [← hw0]
    clear hw0
    go_wp2_with (first | (go_at_call 67; go_loud (with_reducible refine q1.mono ?_); rintro e w1 ⟨rfl, hb⟩) | (go_at_call 68; go_loud (with_reducible refine q2.mono ?_); rintro e w1 ⟨rfl, hb⟩) | (go_at_call 69; go_loud (with_reducible refine q3.mono ?_); rintro e w1 ⟨rfl, hb⟩))
    go_ret
    first | exact ⟨rfl, bel_via b0 hb⟩ | exact ⟨rfl, b0⟩
  · have h1b : (kind == 1) = false := by simp [h1]
    rw [if_neg h1]
    by_cases h2 : kind = 2
    · subst h2
      rw [if_pos rfl]
      go_enter Tryz.func66, Tryz.ntmps66
      go_upto_region 1 with fail
      rw [← hw0]
      clear hw0
      go_wp2_with (first | (go_at_call 67; go_loud (with_reducible refine q1.mono ?_); rintro e w1 ⟨rfl, hb⟩) | (go_at_call 68; go_loud (with_reducible refine q2.mono ?_); rintro e w1 ⟨rfl, hb⟩) | (go_at_call 69; go_loud (with_reducible refine q3.mono ?_); rintro e w1 ⟨rfl, hb⟩))
      go_ret
      first | exact ⟨rfl, bel_via b0 hb⟩ | exact ⟨rfl, b0⟩
    · have h2b : (kind == 2) = false := by simp [h2]
      rw [if_neg h2]
      by_cases h3 : kind = 3
      · subst h3
        rw [if_pos rfl]
        go_enter Tryz.func66, Tryz.ntmps66
        go_upto_region 1 with fail
        rw [← hw0]
        clear hw0
        go_wp2_with (first | (go_at_call 67; go_loud (with_reducible refine q1.mono ?_); rintro e w1 ⟨rfl, hb⟩) | (go_at_call 68; go_loud (with_reducible refine q2.mono ?_); rintro e w1 ⟨rfl, hb⟩) | (go_at_call 69; go_loud (with_reducible refine q3.mono ?_); rintro e w1 ⟨rfl, hb⟩))
        go_ret
        first | exact ⟨rfl, bel_via b0 hb⟩ | exact ⟨rfl, b0⟩
      · have h3b : (kind == 3) = false := by simp [h3]
        rw [if_neg h3]
        go_enter Tryz.func66, Tryz.ntmps66
        go_upto_region 1 with fail
        rw [← hw0]
        clear hw0
        go_wp2_with (first | (go_at_call 67; go_loud (with_reducible refine q1.mono ?_); rintro e w1 ⟨rfl, hb⟩) | (go_at_call 68; go_loud (with_reducible refine q2.mono ?_); rintro e w1 ⟨rfl, hb⟩) | (go_at_call 69; go_loud (with_reducible refine q3.mono ?_); rintro e w1 ⟨rfl, hb⟩))
        go_ret
        first | exact ⟨rfl, bel_via b0 hb⟩ | exact ⟨rfl, b0⟩
end Go.Proofs.YtmnnjkdmnfadhaaGreatDoor
