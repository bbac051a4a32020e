/- The document's nat; by-name template (gen_lrn.py). -/
import Derived.Test.YtmnnjkdmnfadhaaGreatDoorZB
import Derived.Test.YtmnnjkdmnfadhaaGreatDoorZP
namespace Go.Proofs.YtmnnjkdmnfadhaaGreatDoor
open Go.Shelf Go.RowKit Go.Lib Go.Sort
set_option linter.unusedVariables false
set_option linter.unusedSimpArgs false

set_option maxHeartbeats 32000000 in
set_option maxRecDepth 100000 in
theorem rnat_any (c : CF) (i : Nat) (x : NR) {w : World} (hc : c.Ok w) (hi : c.ns[i]? = some x) (hx : NW x) :
    Calls Tryz.prog 27 #[.agg (cfc c), .int .i64 i] w fun e w' => e = .returned (.int .i64 (natChk c x (c.ns.take i))) ∧ Below w.heap.size w w' := by
  obtain ⟨w0, hw0⟩ : ∃ w0, w0 = w.alloc (.cells (cfc c) 30) := ⟨_, rfl⟩
  have b0 : Below w.heap.size w w0 := by rw [hw0]; exact Below.al (Below.refl _ _) _
  have hC : CfB w0 w.heap.size c := by rw [hw0]; exact CfB.made w c
  have hok := fun (W : World) (hW : Below w0.heap.size w0 W) => (hc.keep b0).keep hW
  have hS0 := hc.n.keep b0
  have hbig := hS0.big
  have hin : i < c.nn := by have := getE hi; rw [hc.n.len] at this; exact this
  have HL := Lib.hid hc.n.len
  have i1 := fun W => ris4_any x.oh x.ol hx.1 hx.2.1 W
  have i2 := fun W => ris4_any x.ih x.il hx.2.2.1 hx.2.2.2 W
  have q1 := fun W hW => rq_zon c x.zn (hok W hW).z
  rw [show ((c.zs.any fun z => eqs z.nm x.zn) || false) = zeB c x.zn from Bool.or_false _] at q1
  have q2 := fun W hW => rq_obj c x.ob (hok W hW).o
  rw [show ((c.os.any fun y => eqs y.nm x.ob) || isAny x.ob) = obB c x.ob from Bool.or_comm _ _] at q2
  have q3 := fun W hW => rq_srv c x.sv (hok W hW).s
  rw [show ((c.ss.any fun y => eqs y.nm x.sv) || isAny x.sv) = svB c x.sv from Bool.or_comm _ _] at q3
  have w1 := rwi_any x.frm 1 65535
  have w2 := rwi_any x.til x.frm 65535
  have w3 := rwi_any x.frm 0 65535
  have q5 := fun W => neq_adr x.ih x.il 0 0 W
  obtain ⟨X, hX⟩ : ∃ X, X = x := ⟨_, rfl⟩
  have HXX := Lib.hid hX
  clear hX
  obtain ⟨Q, hQ⟩ : ∃ Q, Q = natChk c x (c.ns.take i) := ⟨_, rfl⟩
  rw [← hQ]
  unfold natChk srcChk dstChk staChk at hQ
  generalize zeB c x.zn = KZ at *
  generalize obB c x.ob = KO at *
  generalize svB c x.sv = KS at *
  generalize wiB x.frm 1 65535 = W1 at *
  generalize wiB x.til x.frm 65535 = W2 at *
  generalize wiB x.frm 0 65535 = W3 at *
  generalize (x.ih == 0 && x.il == 0) = K5 at *
  generalize is4I x.oh x.ol = I1 at *
  generalize is4I x.ih x.il = I2 at *
  obtain ⟨LA, hLA⟩ : ∃ LA, LA = (c.ns.take i).any (clB x) := ⟨_, rfl⟩
  rw [← hLA] at hQ
  have HLA := Lib.hid hLA
  clear hLA
  have HQ := Lib.hid hQ
  clear hQ hok hc hx
  obtain ⟨b, off, hA, hlb, hrow⟩ := hS0.row (by omega)
  have HROW := Lib.hid hrow
  have hcell := fun j v hv => hrow i x hi j v hv
  clear hrow hS0
  obtain ⟨c0, c1, c2, c3, c4, c5, c6, c7⟩ := hC
  simp only [cfc] at *
  rw [hA] at c5 hw0 q1 q2 q3 ⊢
  clear hA
  obtain ⟨kind, zn, ob, sv, oh, ol, ih, il, frm, til⟩ := x
  have r0 : w0.cell? ⟨b, off + i * 10, none⟩ = some (.int .i64 kind) := hcell 0 _ rfl
  have r1 := hcell 1 _ rfl
  have r2 := hcell 2 _ rfl
  have r3 := hcell 3 _ rfl
  have r4 := hcell 4 _ rfl
  have r5 := hcell 5 _ rfl
  have r6 := hcell 6 _ rfl
  have r7 := hcell 7 _ rfl
  have r8 := hcell 8 _ rfl
  have r9 := hcell 9 _ rfl
  clear hcell
  simp only at *
  have hini : (i : Int) < (c.nn : Int) := by omega
  have hdn : decide (i < c.nn) = true := by simp [hin]
  go_enter Tryz.func27, Tryz.ntmps27
  go_upto_region 1 with fail
  rw [← hw0]
  clear hw0
  go_upto_region 2 with fail
  have hbc : Below w0.heap.size w0 (w0.alloc (.cells #[.int .i64 kind, .string zn, .string ob, .string sv, .int .u64 oh, .int .u64 ol, .int .u64 ih, .int .u64 il, .int .i64 frm, .int .i64 til] 68)) := Below.al (Below.refl _ _) _
  have hB : NrB (w0.alloc (.cells #[.int .i64 kind, .string zn, .string ob, .string sv, .int .u64 oh, .int .u64 ol, .int .u64 ih, .int .u64 il, .int .i64 frm, .int .i64 til] 68)) w0.heap.size ⟨kind, zn, ob, sv, oh, ol, ih, il, frm, til⟩ := NrB.made w0 ⟨kind, zn, ob, sv, oh, ol, ih, il, frm, til⟩
  obtain ⟨wn, hwn⟩ : ∃ x, x = w0.alloc (.cells #[.int .i64 kind, .string zn, .string ob, .string sv, .int .u64 oh, .int .u64 ol, .int .u64 ih, .int .u64 il, .int .i64 frm, .int .i64 til] 68) := ⟨_, rfl⟩
  rw [← hwn] at hbc hB ⊢
  clear hwn r0 r1 r2 r3 r4 r5 r6 r7 r8 r9
  obtain ⟨P, hP⟩ : ∃ P, P = w0.heap.size := ⟨_, rfl⟩
  rw [← hP] at hB ⊢
  clear hP
  obtain ⟨n0, n1, n2, n3, n4, n5, n6, n7, n8, n9⟩ := hB
  simp only at n0 n1 n2 n3 n4 n5 n6 n7 n8 n9
  replace c0 := keepc hbc c0; replace c1 := keepc hbc c1; replace c2 := keepc hbc c2; replace c3 := keepc hbc c3; replace c4 := keepc hbc c4; replace c5 := keepc hbc c5; replace c6 := keepc hbc c6; replace c7 := keepc hbc c7
  have g4 := cell_regrown n4
  have g5 := cell_regrown n5
  have g6 := cell_regrown n6
  have g7 := cell_regrown n7
  have qa := fun d os => Calls.regrown_of (i1 (grow (redrawn wn d) os))
  have qb := fun d os => Calls.regrown_of (i2 (grow (redrawn wn d) os))
  refine wp_region_quiet_below (by kernel_rfl) (by kernel_rfl) ?_
  repeat (first | go_big_quiet_skip | quiet_step (first | (go_at_call 88; with_reducible exact qa _ _) | (go_at_call 88; with_reducible exact qb _ _)))
  refine wpQuiet_nil ?_
  intro _ hw'
  obtain ⟨⟨dq, osq⟩, hw''⟩ := hw'
  subst hw''
  have hbq := below_regrown wn dq osq
  obtain ⟨wq, hwy⟩ : ∃ x, x = grow (redrawn wn dq) osq := ⟨_, rfl⟩
  rw [← hwy] at hbq ⊢
  clear hwy
  clear qa qb g4 g5 g6 g7 i1 i2
  replace c0 := keepc hbq c0; replace c1 := keepc hbq c1; replace c2 := keepc hbq c2; replace c3 := keepc hbq c3; replace c4 := keepc hbq c4; replace c5 := keepc hbq c5; replace c6 := keepc hbq c6; replace c7 := keepc hbq c7; replace n0 := keepc hbq n0; replace n1 := keepc hbq n1; replace n2 := keepc hbq n2; replace n3 := keepc hbq n3; replace n4 := keepc hbq n4; replace n5 := keepc hbq n5; replace n6 := keepc hbq n6; replace n7 := keepc hbq n7; replace n8 := keepc hbq n8; replace n9 := keepc hbq n9
  replace hbc := bel_via hbc hbq
  clear hbq
  generalize (I1 == I2) = J at HQ ⊢
  by_cases hk1 : kind = 1
  · subst hk1
    clear q3 w3
    cases KZ with
    | false =>
      go_wp2_with (first | (go_at_call 79; go_loud (with_reducible refine (q1 _ hbc).mono ?_); rintro e wc ⟨rfl, hbn⟩; replace hbc := bel_via hbc hbn; replace c0 := keepc hbn c0; replace c1 := keepc hbn c1; replace c2 := keepc hbn c2; replace c3 := keepc hbn c3; replace c4 := keepc hbn c4; replace c5 := keepc hbn c5; replace c6 := keepc hbn c6; replace c7 := keepc hbn c7; replace n0 := keepc hbn n0; replace n1 := keepc hbn n1; replace n2 := keepc hbn n2; replace n3 := keepc hbn n3; replace n4 := keepc hbn n4; replace n5 := keepc hbn n5; replace n6 := keepc hbn n6; replace n7 := keepc hbn n7; replace n8 := keepc hbn n8; replace n9 := keepc hbn n9; clear hbn) | (go_at_call 82; go_loud (with_reducible refine (q2 _ hbc).mono ?_); rintro e wc ⟨rfl, hbn⟩; replace hbc := bel_via hbc hbn; replace c0 := keepc hbn c0; replace c1 := keepc hbn c1; replace c2 := keepc hbn c2; replace c3 := keepc hbn c3; replace c4 := keepc hbn c4; replace c5 := keepc hbn c5; replace c6 := keepc hbn c6; replace c7 := keepc hbn c7; replace n0 := keepc hbn n0; replace n1 := keepc hbn n1; replace n2 := keepc hbn n2; replace n3 := keepc hbn n3; replace n4 := keepc hbn n4; replace n5 := keepc hbn n5; replace n6 := keepc hbn n6; replace n7 := keepc hbn n7; replace n8 := keepc hbn n8; replace n9 := keepc hbn n9; clear hbn) | (go_at_call 80; with_reducible refine (w1 _).mono ?_; rintro e wi ⟨rfl, rfl⟩) | (go_at_call 80; with_reducible refine (w2 _).mono ?_; rintro e wi ⟨rfl, rfl⟩))
      go_ret
      exact ⟨ret_int (by rw [HQ.out]; simp), bel_via b0 hbc⟩
    | true =>
      cases KO with
      | false =>
        go_wp2_with (first | (go_at_call 79; go_loud (with_reducible refine (q1 _ hbc).mono ?_); rintro e wc ⟨rfl, hbn⟩; replace hbc := bel_via hbc hbn; replace c0 := keepc hbn c0; replace c1 := keepc hbn c1; replace c2 := keepc hbn c2; replace c3 := keepc hbn c3; replace c4 := keepc hbn c4; replace c5 := keepc hbn c5; replace c6 := keepc hbn c6; replace c7 := keepc hbn c7; replace n0 := keepc hbn n0; replace n1 := keepc hbn n1; replace n2 := keepc hbn n2; replace n3 := keepc hbn n3; replace n4 := keepc hbn n4; replace n5 := keepc hbn n5; replace n6 := keepc hbn n6; replace n7 := keepc hbn n7; replace n8 := keepc hbn n8; replace n9 := keepc hbn n9; clear hbn) | (go_at_call 82; go_loud (with_reducible refine (q2 _ hbc).mono ?_); rintro e wc ⟨rfl, hbn⟩; replace hbc := bel_via hbc hbn; replace c0 := keepc hbn c0; replace c1 := keepc hbn c1; replace c2 := keepc hbn c2; replace c3 := keepc hbn c3; replace c4 := keepc hbn c4; replace c5 := keepc hbn c5; replace c6 := keepc hbn c6; replace c7 := keepc hbn c7; replace n0 := keepc hbn n0; replace n1 := keepc hbn n1; replace n2 := keepc hbn n2; replace n3 := keepc hbn n3; replace n4 := keepc hbn n4; replace n5 := keepc hbn n5; replace n6 := keepc hbn n6; replace n7 := keepc hbn n7; replace n8 := keepc hbn n8; replace n9 := keepc hbn n9; clear hbn) | (go_at_call 80; with_reducible refine (w1 _).mono ?_; rintro e wi ⟨rfl, rfl⟩) | (go_at_call 80; with_reducible refine (w2 _).mono ?_; rintro e wi ⟨rfl, rfl⟩))
        go_ret
        exact ⟨ret_int (by rw [HQ.out]; simp), bel_via b0 hbc⟩
      | true =>
        cases W1 with
        | false =>
          go_wp2_with (first | (go_at_call 79; go_loud (with_reducible refine (q1 _ hbc).mono ?_); rintro e wc ⟨rfl, hbn⟩; replace hbc := bel_via hbc hbn; replace c0 := keepc hbn c0; replace c1 := keepc hbn c1; replace c2 := keepc hbn c2; replace c3 := keepc hbn c3; replace c4 := keepc hbn c4; replace c5 := keepc hbn c5; replace c6 := keepc hbn c6; replace c7 := keepc hbn c7; replace n0 := keepc hbn n0; replace n1 := keepc hbn n1; replace n2 := keepc hbn n2; replace n3 := keepc hbn n3; replace n4 := keepc hbn n4; replace n5 := keepc hbn n5; replace n6 := keepc hbn n6; replace n7 := keepc hbn n7; replace n8 := keepc hbn n8; replace n9 := keepc hbn n9; clear hbn) | (go_at_call 82; go_loud (with_reducible refine (q2 _ hbc).mono ?_); rintro e wc ⟨rfl, hbn⟩; replace hbc := bel_via hbc hbn; replace c0 := keepc hbn c0; replace c1 := keepc hbn c1; replace c2 := keepc hbn c2; replace c3 := keepc hbn c3; replace c4 := keepc hbn c4; replace c5 := keepc hbn c5; replace c6 := keepc hbn c6; replace c7 := keepc hbn c7; replace n0 := keepc hbn n0; replace n1 := keepc hbn n1; replace n2 := keepc hbn n2; replace n3 := keepc hbn n3; replace n4 := keepc hbn n4; replace n5 := keepc hbn n5; replace n6 := keepc hbn n6; replace n7 := keepc hbn n7; replace n8 := keepc hbn n8; replace n9 := keepc hbn n9; clear hbn) | (go_at_call 80; with_reducible refine (w1 _).mono ?_; rintro e wi ⟨rfl, rfl⟩) | (go_at_call 80; with_reducible refine (w2 _).mono ?_; rintro e wi ⟨rfl, rfl⟩))
          go_ret
          exact ⟨ret_int (by rw [HQ.out]; simp), bel_via b0 hbc⟩
        | true =>
          cases W2 with
          | false =>
            go_wp2_with (first | (go_at_call 79; go_loud (with_reducible refine (q1 _ hbc).mono ?_); rintro e wc ⟨rfl, hbn⟩; replace hbc := bel_via hbc hbn; replace c0 := keepc hbn c0; replace c1 := keepc hbn c1; replace c2 := keepc hbn c2; replace c3 := keepc hbn c3; replace c4 := keepc hbn c4; replace c5 := keepc hbn c5; replace c6 := keepc hbn c6; replace c7 := keepc hbn c7; replace n0 := keepc hbn n0; replace n1 := keepc hbn n1; replace n2 := keepc hbn n2; replace n3 := keepc hbn n3; replace n4 := keepc hbn n4; replace n5 := keepc hbn n5; replace n6 := keepc hbn n6; replace n7 := keepc hbn n7; replace n8 := keepc hbn n8; replace n9 := keepc hbn n9; clear hbn) | (go_at_call 82; go_loud (with_reducible refine (q2 _ hbc).mono ?_); rintro e wc ⟨rfl, hbn⟩; replace hbc := bel_via hbc hbn; replace c0 := keepc hbn c0; replace c1 := keepc hbn c1; replace c2 := keepc hbn c2; replace c3 := keepc hbn c3; replace c4 := keepc hbn c4; replace c5 := keepc hbn c5; replace c6 := keepc hbn c6; replace c7 := keepc hbn c7; replace n0 := keepc hbn n0; replace n1 := keepc hbn n1; replace n2 := keepc hbn n2; replace n3 := keepc hbn n3; replace n4 := keepc hbn n4; replace n5 := keepc hbn n5; replace n6 := keepc hbn n6; replace n7 := keepc hbn n7; replace n8 := keepc hbn n8; replace n9 := keepc hbn n9; clear hbn) | (go_at_call 80; with_reducible refine (w1 _).mono ?_; rintro e wi ⟨rfl, rfl⟩) | (go_at_call 80; with_reducible refine (w2 _).mono ?_; rintro e wi ⟨rfl, rfl⟩))
            go_ret
            exact ⟨ret_int (by rw [HQ.out]; simp), bel_via b0 hbc⟩
          | true =>
            by_cases hsv : sv.toList = []
            · have hsvb : (sv.toList == []) = true := by simp [hsv]
              cases K5 with
              | false =>
                go_wp2_with (first | (go_at_call 79; go_loud (with_reducible refine (q1 _ hbc).mono ?_); rintro e wc ⟨rfl, hbn⟩; replace hbc := bel_via hbc hbn; replace c0 := keepc hbn c0; replace c1 := keepc hbn c1; replace c2 := keepc hbn c2; replace c3 := keepc hbn c3; replace c4 := keepc hbn c4; replace c5 := keepc hbn c5; replace c6 := keepc hbn c6; replace c7 := keepc hbn c7; replace n0 := keepc hbn n0; replace n1 := keepc hbn n1; replace n2 := keepc hbn n2; replace n3 := keepc hbn n3; replace n4 := keepc hbn n4; replace n5 := keepc hbn n5; replace n6 := keepc hbn n6; replace n7 := keepc hbn n7; replace n8 := keepc hbn n8; replace n9 := keepc hbn n9; clear hbn) | (go_at_call 82; go_loud (with_reducible refine (q2 _ hbc).mono ?_); rintro e wc ⟨rfl, hbn⟩; replace hbc := bel_via hbc hbn; replace c0 := keepc hbn c0; replace c1 := keepc hbn c1; replace c2 := keepc hbn c2; replace c3 := keepc hbn c3; replace c4 := keepc hbn c4; replace c5 := keepc hbn c5; replace c6 := keepc hbn c6; replace c7 := keepc hbn c7; replace n0 := keepc hbn n0; replace n1 := keepc hbn n1; replace n2 := keepc hbn n2; replace n3 := keepc hbn n3; replace n4 := keepc hbn n4; replace n5 := keepc hbn n5; replace n6 := keepc hbn n6; replace n7 := keepc hbn n7; replace n8 := keepc hbn n8; replace n9 := keepc hbn n9; clear hbn) | (go_at_call 80; with_reducible refine (w1 _).mono ?_; rintro e wi ⟨rfl, rfl⟩) | (go_at_call 80; with_reducible refine (w2 _).mono ?_; rintro e wi ⟨rfl, rfl⟩))
                go_ret
                exact ⟨ret_int (by rw [HQ.out]; simp [hsv]), bel_via b0 hbc⟩
              | true =>
                go_wp2_with (first | (go_at_call 79; go_loud (with_reducible refine (q1 _ hbc).mono ?_); rintro e wc ⟨rfl, hbn⟩; replace hbc := bel_via hbc hbn; replace c0 := keepc hbn c0; replace c1 := keepc hbn c1; replace c2 := keepc hbn c2; replace c3 := keepc hbn c3; replace c4 := keepc hbn c4; replace c5 := keepc hbn c5; replace c6 := keepc hbn c6; replace c7 := keepc hbn c7; replace n0 := keepc hbn n0; replace n1 := keepc hbn n1; replace n2 := keepc hbn n2; replace n3 := keepc hbn n3; replace n4 := keepc hbn n4; replace n5 := keepc hbn n5; replace n6 := keepc hbn n6; replace n7 := keepc hbn n7; replace n8 := keepc hbn n8; replace n9 := keepc hbn n9; clear hbn) | (go_at_call 82; go_loud (with_reducible refine (q2 _ hbc).mono ?_); rintro e wc ⟨rfl, hbn⟩; replace hbc := bel_via hbc hbn; replace c0 := keepc hbn c0; replace c1 := keepc hbn c1; replace c2 := keepc hbn c2; replace c3 := keepc hbn c3; replace c4 := keepc hbn c4; replace c5 := keepc hbn c5; replace c6 := keepc hbn c6; replace c7 := keepc hbn c7; replace n0 := keepc hbn n0; replace n1 := keepc hbn n1; replace n2 := keepc hbn n2; replace n3 := keepc hbn n3; replace n4 := keepc hbn n4; replace n5 := keepc hbn n5; replace n6 := keepc hbn n6; replace n7 := keepc hbn n7; replace n8 := keepc hbn n8; replace n9 := keepc hbn n9; clear hbn) | (go_at_call 80; with_reducible refine (w1 _).mono ?_; rintro e wi ⟨rfl, rfl⟩) | (go_at_call 80; with_reducible refine (w2 _).mono ?_; rintro e wi ⟨rfl, rfl⟩))
                go_ret
                exact ⟨ret_int (by rw [HQ.out]; simp [hsv]), bel_via b0 hbc⟩
            · have hsvb : (sv.toList == []) = false := by simp [hsv]
              go_wp2_with (first | (go_at_call 79; go_loud (with_reducible refine (q1 _ hbc).mono ?_); rintro e wc ⟨rfl, hbn⟩; replace hbc := bel_via hbc hbn; replace c0 := keepc hbn c0; replace c1 := keepc hbn c1; replace c2 := keepc hbn c2; replace c3 := keepc hbn c3; replace c4 := keepc hbn c4; replace c5 := keepc hbn c5; replace c6 := keepc hbn c6; replace c7 := keepc hbn c7; replace n0 := keepc hbn n0; replace n1 := keepc hbn n1; replace n2 := keepc hbn n2; replace n3 := keepc hbn n3; replace n4 := keepc hbn n4; replace n5 := keepc hbn n5; replace n6 := keepc hbn n6; replace n7 := keepc hbn n7; replace n8 := keepc hbn n8; replace n9 := keepc hbn n9; clear hbn) | (go_at_call 82; go_loud (with_reducible refine (q2 _ hbc).mono ?_); rintro e wc ⟨rfl, hbn⟩; replace hbc := bel_via hbc hbn; replace c0 := keepc hbn c0; replace c1 := keepc hbn c1; replace c2 := keepc hbn c2; replace c3 := keepc hbn c3; replace c4 := keepc hbn c4; replace c5 := keepc hbn c5; replace c6 := keepc hbn c6; replace c7 := keepc hbn c7; replace n0 := keepc hbn n0; replace n1 := keepc hbn n1; replace n2 := keepc hbn n2; replace n3 := keepc hbn n3; replace n4 := keepc hbn n4; replace n5 := keepc hbn n5; replace n6 := keepc hbn n6; replace n7 := keepc hbn n7; replace n8 := keepc hbn n8; replace n9 := keepc hbn n9; clear hbn) | (go_at_call 80; with_reducible refine (w1 _).mono ?_; rintro e wi ⟨rfl, rfl⟩) | (go_at_call 80; with_reducible refine (w2 _).mono ?_; rintro e wi ⟨rfl, rfl⟩))
              go_ret
              exact ⟨ret_int (by rw [HQ.out]; simp [hsv]), bel_via b0 hbc⟩
  · have hk1b : (kind == 1) = false := by simp [hk1]
    by_cases hk2 : kind = 2
    · subst hk2
      clear q1 q2 w1 w2 q5
      cases KS with
      | false =>
        go_wp2_with (first | (go_at_call 84; go_loud (with_reducible refine (q3 _ hbc).mono ?_); rintro e wc ⟨rfl, hbn⟩; replace hbc := bel_via hbc hbn; replace c0 := keepc hbn c0; replace c1 := keepc hbn c1; replace c2 := keepc hbn c2; replace c3 := keepc hbn c3; replace c4 := keepc hbn c4; replace c5 := keepc hbn c5; replace c6 := keepc hbn c6; replace c7 := keepc hbn c7; replace n0 := keepc hbn n0; replace n1 := keepc hbn n1; replace n2 := keepc hbn n2; replace n3 := keepc hbn n3; replace n4 := keepc hbn n4; replace n5 := keepc hbn n5; replace n6 := keepc hbn n6; replace n7 := keepc hbn n7; replace n8 := keepc hbn n8; replace n9 := keepc hbn n9; clear hbn) | (go_at_call 80; with_reducible refine (w3 _).mono ?_; rintro e wi ⟨rfl, rfl⟩))
        go_ret
        exact ⟨ret_int (by rw [HQ.out]; simp), bel_via b0 hbc⟩
      | true =>
        cases J with
        | false =>
          go_wp2_with (first | (go_at_call 84; go_loud (with_reducible refine (q3 _ hbc).mono ?_); rintro e wc ⟨rfl, hbn⟩; replace hbc := bel_via hbc hbn; replace c0 := keepc hbn c0; replace c1 := keepc hbn c1; replace c2 := keepc hbn c2; replace c3 := keepc hbn c3; replace c4 := keepc hbn c4; replace c5 := keepc hbn c5; replace c6 := keepc hbn c6; replace c7 := keepc hbn c7; replace n0 := keepc hbn n0; replace n1 := keepc hbn n1; replace n2 := keepc hbn n2; replace n3 := keepc hbn n3; replace n4 := keepc hbn n4; replace n5 := keepc hbn n5; replace n6 := keepc hbn n6; replace n7 := keepc hbn n7; replace n8 := keepc hbn n8; replace n9 := keepc hbn n9; clear hbn) | (go_at_call 80; with_reducible refine (w3 _).mono ?_; rintro e wi ⟨rfl, rfl⟩))
          go_ret
          exact ⟨ret_int (by rw [HQ.out]; simp), bel_via b0 hbc⟩
        | true =>
          cases W3 with
          | false =>
            go_wp2_with (first | (go_at_call 84; go_loud (with_reducible refine (q3 _ hbc).mono ?_); rintro e wc ⟨rfl, hbn⟩; replace hbc := bel_via hbc hbn; replace c0 := keepc hbn c0; replace c1 := keepc hbn c1; replace c2 := keepc hbn c2; replace c3 := keepc hbn c3; replace c4 := keepc hbn c4; replace c5 := keepc hbn c5; replace c6 := keepc hbn c6; replace c7 := keepc hbn c7; replace n0 := keepc hbn n0; replace n1 := keepc hbn n1; replace n2 := keepc hbn n2; replace n3 := keepc hbn n3; replace n4 := keepc hbn n4; replace n5 := keepc hbn n5; replace n6 := keepc hbn n6; replace n7 := keepc hbn n7; replace n8 := keepc hbn n8; replace n9 := keepc hbn n9; clear hbn) | (go_at_call 80; with_reducible refine (w3 _).mono ?_; rintro e wi ⟨rfl, rfl⟩))
            go_ret
            exact ⟨ret_int (by rw [HQ.out]; simp), bel_via b0 hbc⟩
          | true =>
            by_cases hzn : zn.toList = []
            · have hznb : (zn.toList == []) = true := by simp [hzn]
              by_cases hob : ob.toList = []
              · have hobb : (ob.toList == []) = true := by simp [hob]
                by_cases hti : til = 0
                · subst hti
                  go_wp2_with (first | (go_at_call 84; go_loud (with_reducible refine (q3 _ hbc).mono ?_); rintro e wc ⟨rfl, hbn⟩; replace hbc := bel_via hbc hbn; replace c0 := keepc hbn c0; replace c1 := keepc hbn c1; replace c2 := keepc hbn c2; replace c3 := keepc hbn c3; replace c4 := keepc hbn c4; replace c5 := keepc hbn c5; replace c6 := keepc hbn c6; replace c7 := keepc hbn c7; replace n0 := keepc hbn n0; replace n1 := keepc hbn n1; replace n2 := keepc hbn n2; replace n3 := keepc hbn n3; replace n4 := keepc hbn n4; replace n5 := keepc hbn n5; replace n6 := keepc hbn n6; replace n7 := keepc hbn n7; replace n8 := keepc hbn n8; replace n9 := keepc hbn n9; clear hbn) | (go_at_call 80; with_reducible refine (w3 _).mono ?_; rintro e wi ⟨rfl, rfl⟩))
                  go_ret
                  exact ⟨ret_int (by rw [HQ.out]; simp [hzn, hob]), bel_via b0 hbc⟩
                · have htib : (til != 0) = true := by simp [hti]
                  go_wp2_with (first | (go_at_call 84; go_loud (with_reducible refine (q3 _ hbc).mono ?_); rintro e wc ⟨rfl, hbn⟩; replace hbc := bel_via hbc hbn; replace c0 := keepc hbn c0; replace c1 := keepc hbn c1; replace c2 := keepc hbn c2; replace c3 := keepc hbn c3; replace c4 := keepc hbn c4; replace c5 := keepc hbn c5; replace c6 := keepc hbn c6; replace c7 := keepc hbn c7; replace n0 := keepc hbn n0; replace n1 := keepc hbn n1; replace n2 := keepc hbn n2; replace n3 := keepc hbn n3; replace n4 := keepc hbn n4; replace n5 := keepc hbn n5; replace n6 := keepc hbn n6; replace n7 := keepc hbn n7; replace n8 := keepc hbn n8; replace n9 := keepc hbn n9; clear hbn) | (go_at_call 80; with_reducible refine (w3 _).mono ?_; rintro e wi ⟨rfl, rfl⟩))
                  go_ret
                  exact ⟨ret_int (by rw [HQ.out]; simp [hzn, hob, hti]), bel_via b0 hbc⟩
              · have hobb : (ob.toList == []) = false := by simp [hob]
                go_wp2_with (first | (go_at_call 84; go_loud (with_reducible refine (q3 _ hbc).mono ?_); rintro e wc ⟨rfl, hbn⟩; replace hbc := bel_via hbc hbn; replace c0 := keepc hbn c0; replace c1 := keepc hbn c1; replace c2 := keepc hbn c2; replace c3 := keepc hbn c3; replace c4 := keepc hbn c4; replace c5 := keepc hbn c5; replace c6 := keepc hbn c6; replace c7 := keepc hbn c7; replace n0 := keepc hbn n0; replace n1 := keepc hbn n1; replace n2 := keepc hbn n2; replace n3 := keepc hbn n3; replace n4 := keepc hbn n4; replace n5 := keepc hbn n5; replace n6 := keepc hbn n6; replace n7 := keepc hbn n7; replace n8 := keepc hbn n8; replace n9 := keepc hbn n9; clear hbn) | (go_at_call 80; with_reducible refine (w3 _).mono ?_; rintro e wi ⟨rfl, rfl⟩))
                go_ret
                exact ⟨ret_int (by rw [HQ.out]; simp [hzn, hob]), bel_via b0 hbc⟩
            · have hznb : (zn.toList == []) = false := by simp [hzn]
              go_wp2_with (first | (go_at_call 84; go_loud (with_reducible refine (q3 _ hbc).mono ?_); rintro e wc ⟨rfl, hbn⟩; replace hbc := bel_via hbc hbn; replace c0 := keepc hbn c0; replace c1 := keepc hbn c1; replace c2 := keepc hbn c2; replace c3 := keepc hbn c3; replace c4 := keepc hbn c4; replace c5 := keepc hbn c5; replace c6 := keepc hbn c6; replace c7 := keepc hbn c7; replace n0 := keepc hbn n0; replace n1 := keepc hbn n1; replace n2 := keepc hbn n2; replace n3 := keepc hbn n3; replace n4 := keepc hbn n4; replace n5 := keepc hbn n5; replace n6 := keepc hbn n6; replace n7 := keepc hbn n7; replace n8 := keepc hbn n8; replace n9 := keepc hbn n9; clear hbn) | (go_at_call 80; with_reducible refine (w3 _).mono ?_; rintro e wi ⟨rfl, rfl⟩))
              go_ret
              exact ⟨ret_int (by rw [HQ.out]; simp [hzn]), bel_via b0 hbc⟩
    · have hk2b : (kind == 2) = false := by simp [hk2]
      by_cases hk3 : kind = 3
      · subst hk3
        clear q2 q3 w1 w2 w3 q5
        cases KZ with
        | false =>
          go_wp2_with (first | (go_at_call 79; go_loud (with_reducible refine (q1 _ hbc).mono ?_); rintro e wc ⟨rfl, hbn⟩; replace hbc := bel_via hbc hbn; replace c0 := keepc hbn c0; replace c1 := keepc hbn c1; replace c2 := keepc hbn c2; replace c3 := keepc hbn c3; replace c4 := keepc hbn c4; replace c5 := keepc hbn c5; replace c6 := keepc hbn c6; replace c7 := keepc hbn c7; replace n0 := keepc hbn n0; replace n1 := keepc hbn n1; replace n2 := keepc hbn n2; replace n3 := keepc hbn n3; replace n4 := keepc hbn n4; replace n5 := keepc hbn n5; replace n6 := keepc hbn n6; replace n7 := keepc hbn n7; replace n8 := keepc hbn n8; replace n9 := keepc hbn n9; clear hbn))
          go_ret
          exact ⟨ret_int (by rw [HQ.out]; simp), bel_via b0 hbc⟩
        | true =>
          cases J with
          | false =>
            go_wp2_with (first | (go_at_call 79; go_loud (with_reducible refine (q1 _ hbc).mono ?_); rintro e wc ⟨rfl, hbn⟩; replace hbc := bel_via hbc hbn; replace c0 := keepc hbn c0; replace c1 := keepc hbn c1; replace c2 := keepc hbn c2; replace c3 := keepc hbn c3; replace c4 := keepc hbn c4; replace c5 := keepc hbn c5; replace c6 := keepc hbn c6; replace c7 := keepc hbn c7; replace n0 := keepc hbn n0; replace n1 := keepc hbn n1; replace n2 := keepc hbn n2; replace n3 := keepc hbn n3; replace n4 := keepc hbn n4; replace n5 := keepc hbn n5; replace n6 := keepc hbn n6; replace n7 := keepc hbn n7; replace n8 := keepc hbn n8; replace n9 := keepc hbn n9; clear hbn))
            go_ret
            exact ⟨ret_int (by rw [HQ.out]; simp), bel_via b0 hbc⟩
          | true =>
            go_upto_region 26 with (first | (go_at_call 79; go_loud (with_reducible refine (q1 _ hbc).mono ?_); rintro e wc ⟨rfl, hbn⟩; replace hbc := bel_via hbc hbn; replace c0 := keepc hbn c0; replace c1 := keepc hbn c1; replace c2 := keepc hbn c2; replace c3 := keepc hbn c3; replace c4 := keepc hbn c4; replace c5 := keepc hbn c5; replace c6 := keepc hbn c6; replace c7 := keepc hbn c7; replace n0 := keepc hbn n0; replace n1 := keepc hbn n1; replace n2 := keepc hbn n2; replace n3 := keepc hbn n3; replace n4 := keepc hbn n4; replace n5 := keepc hbn n5; replace n6 := keepc hbn n6; replace n7 := keepc hbn n7; replace n8 := keepc hbn n8; replace n9 := keepc hbn n9; clear hbn))
            clear q1
            obtain ⟨w4, hw4⟩ : ∃ x, x = wc := ⟨_, rfl⟩
            go_wp2_with fail
            rw [← hw4] at hbc c0 c1 c2 c3 c4 c5 c6 c7 n0 n1 n2 n3 n4 n5 n6 n7 n8 n9 ⊢
            clear hw4
            have HBC := Lib.hid hbc
            go_loopw [7] (fun v7 wr => ∃ k : Nat, v7 = .int .i64 k ∧ k ≤ i ∧ Aside (∀ (j : Nat) (y : NR), j < k → c.ns[j]? = some y → clB X y = false) ∧ Below w4.heap.size w4 wr) (fun v7 _ => i - (intOf v7).toNat)
            case atStart => exact ⟨0, rfl, by omega, fun j x hj => absurd hj (Nat.not_lt_zero _), Below.refl _ _⟩
            case round =>
              obtain ⟨k, rfl, hk, N2, bk⟩ := hrel
              by_cases hlk : k < i
              · have hmk : k < c.ns.length := by rw [HL.out]; omega
                obtain ⟨y, hy⟩ : ∃ y, c.ns[k]? = some y := ⟨_, List.getElem?_eq_getElem hmk⟩
                have HY := Lib.hid hy
                have bk2 := bel_via HBC.out bk
                have s0 := keepc bk2 (HROW.out k y hy 0 _ rfl)
                have s4 := keepc bk2 (HROW.out k y hy 4 _ rfl)
                have s5 := keepc bk2 (HROW.out k y hy 5 _ rfl)
                have s6 := keepc bk2 (HROW.out k y hy 6 _ rfl)
                have s7 := keepc bk2 (HROW.out k y hy 7 _ rfl)
                simp only [Nat.add_zero] at s0
                have e1 := fun W : World => eql_adr y.oh y.ol oh ol W
                have e2 := fun W : World => eql_adr y.ih y.il ih il W
                have HCL : Hid (clB X y = ((y.kind == 3) && ((y.oh == oh && y.ol == ol) || (y.ih == ih && y.il == il)))) := Lib.hid (by rw [HXX.out]; rfl)
                generalize (y.oh == oh && y.ol == ol) = A1 at *
                generalize (y.ih == ih && y.il == il) = A2 at *
                obtain ⟨ykind, yzn, yob, ysv, yoh, yol, yih, yil, yfrm, ytil⟩ := y
                simp only at e1 e2 s0 s4 s5 s6 s7 HCL
                have g0 := cell_regrown s0
                have g1 := cell_regrown s4
                have g2 := cell_regrown s5
                have g3 := cell_regrown s6
                have g4 := cell_regrown s7
                have g5 := cell_regrown (keepc bk n4)
                have g6 := cell_regrown (keepc bk n5)
                have g7 := cell_regrown (keepc bk n6)
                have g8 := cell_regrown (keepc bk n7)
                have g9 := cell_regrown (keepc bk c5)
                have hlki : (k : Int) < (i : Int) := by omega
                have hdk : decide (k < i) = true := by simp [hlk]
                have hkn : decide (k < c.nn) = true := by simp; omega
                have hkni : (k : Int) < (c.nn : Int) := by omega
                clear hy s0 s4 s5 s6 s7 bk2
                generalize hyk : (ykind == 3) = KK at *
                cases KK with
                | false =>
                  ( go_wp2_with fail
                    refine wp_region_quiet_below (by kernel_rfl) (by kernel_rfl) ?_
                    repeat (first | go_big_quiet_skip | quiet_step (fail))
                    refine wpQuiet_nil ?_
                    intro _ hw'
                    obtain ⟨⟨dq, osq⟩, hw''⟩ := hw'
                    subst hw''
                    have hbq := below_regrown wr dq osq
                    obtain ⟨wv, hwy⟩ : ∃ x, x = grow (redrawn wr dq) osq := ⟨_, rfl⟩
                    rw [← hwy] at hbq ⊢
                    clear hwy
                    clear g0 g1 g2 g3 g4 g5 g6 g7 g8 g9 e1 e2
                    first
                    | (have hcl : clB X ⟨ykind, yzn, yob, ysv, yoh, yol, yih, yil, yfrm, ytil⟩ = false := by rw [HCL.out]; rfl
                       go_wp2_with fail
                       refine ⟨?_, by simp [intOf]; omega⟩
                       have hn1 : Aside (∀ (j : Nat) (y : NR), j < k + 1 → c.ns[j]? = some y → clB X y = false) := fun j u hj hu => by
                         by_cases e : j = k
                         · subst e; rw [HY.out] at hu; cases hu; exact hcl
                         · exact N2.out j u (by omega) hu
                       first | exact ⟨k + 1, by simp, by omega, hn1, bel_via bk hbq⟩ | ((repeat apply Exists.intro); exact ⟨⟨k + 1, by simp, by omega, hn1, bel_via bk hbq⟩, rfl⟩))
                    | (have hcl : clB X ⟨ykind, yzn, yob, ysv, yoh, yol, yih, yil, yfrm, ytil⟩ = true := by rw [HCL.out]; rfl
                       have hla : LA = true := by
                         rw [HLA.out, List.any_eq_true]
                         exact ⟨_, List.mem_of_getElem? (by rw [List.getElem?_take_of_lt hlk]; exact HY.out), by rw [← HXX.out]; exact hcl⟩
                       have HLT := Lib.hid hla
                       clear hla hcl
                       go_wp2_with fail
                       go_ret
                       exact ⟨ret_int (by rw [HQ.out, HLT.out]; simp), bel_via b0 (bel_via HBC.out (bel_via bk hbq))⟩))
                | true =>
                  cases A1 with
                  | true =>
                    ( go_wp2_with fail
                      refine wp_region_quiet_below (by kernel_rfl) (by kernel_rfl) ?_
                      repeat (first | go_big_quiet_skip | quiet_step (fail))
                      refine wpQuiet_nil ?_
                      intro _ hw'
                      obtain ⟨⟨dq, osq⟩, hw''⟩ := hw'
                      subst hw''
                      have hbq := below_regrown wr dq osq
                      obtain ⟨wv, hwy⟩ : ∃ x, x = grow (redrawn wr dq) osq := ⟨_, rfl⟩
                      rw [← hwy] at hbq ⊢
                      clear hwy
                      clear g0 g1 g2 g3 g4 g5 g6 g7 g8 g9 e1 e2
                      first
                      | (have hcl : clB X ⟨ykind, yzn, yob, ysv, yoh, yol, yih, yil, yfrm, ytil⟩ = false := by rw [HCL.out]; rfl
                         go_wp2_with fail
                         refine ⟨?_, by simp [intOf]; omega⟩
                         have hn1 : Aside (∀ (j : Nat) (y : NR), j < k + 1 → c.ns[j]? = some y → clB X y = false) := fun j u hj hu => by
                           by_cases e : j = k
                           · subst e; rw [HY.out] at hu; cases hu; exact hcl
                           · exact N2.out j u (by omega) hu
                         first | exact ⟨k + 1, by simp, by omega, hn1, bel_via bk hbq⟩ | ((repeat apply Exists.intro); exact ⟨⟨k + 1, by simp, by omega, hn1, bel_via bk hbq⟩, rfl⟩))
                      | (have hcl : clB X ⟨ykind, yzn, yob, ysv, yoh, yol, yih, yil, yfrm, ytil⟩ = true := by rw [HCL.out]; rfl
                         have hla : LA = true := by
                           rw [HLA.out, List.any_eq_true]
                           exact ⟨_, List.mem_of_getElem? (by rw [List.getElem?_take_of_lt hlk]; exact HY.out), by rw [← HXX.out]; exact hcl⟩
                         have HLT := Lib.hid hla
                         clear hla hcl
                         go_wp2_with fail
                         go_ret
                         exact ⟨ret_int (by rw [HQ.out, HLT.out]; simp), bel_via b0 (bel_via HBC.out (bel_via bk hbq))⟩))
                  | false =>
                    cases A2 <;>
                    ( go_wp2_with fail
                      refine wp_region_quiet_below (by kernel_rfl) (by kernel_rfl) ?_
                      repeat (first | go_big_quiet_skip | quiet_step (fail))
                      refine wpQuiet_nil ?_
                      intro _ hw'
                      obtain ⟨⟨dq, osq⟩, hw''⟩ := hw'
                      subst hw''
                      have hbq := below_regrown wr dq osq
                      obtain ⟨wv, hwy⟩ : ∃ x, x = grow (redrawn wr dq) osq := ⟨_, rfl⟩
                      rw [← hwy] at hbq ⊢
                      clear hwy
                      clear g0 g1 g2 g3 g4 g5 g6 g7 g8 g9 e1 e2
                      first
                      | (have hcl : clB X ⟨ykind, yzn, yob, ysv, yoh, yol, yih, yil, yfrm, ytil⟩ = false := by rw [HCL.out]; rfl
                         go_wp2_with fail
                         refine ⟨?_, by simp [intOf]; omega⟩
                         have hn1 : Aside (∀ (j : Nat) (y : NR), j < k + 1 → c.ns[j]? = some y → clB X y = false) := fun j u hj hu => by
                           by_cases e : j = k
                           · subst e; rw [HY.out] at hu; cases hu; exact hcl
                           · exact N2.out j u (by omega) hu
                         first | exact ⟨k + 1, by simp, by omega, hn1, bel_via bk hbq⟩ | ((repeat apply Exists.intro); exact ⟨⟨k + 1, by simp, by omega, hn1, bel_via bk hbq⟩, rfl⟩))
                      | (have hcl : clB X ⟨ykind, yzn, yob, ysv, yoh, yol, yih, yil, yfrm, ytil⟩ = true := by rw [HCL.out]; rfl
                         have hla : LA = true := by
                           rw [HLA.out, List.any_eq_true]
                           exact ⟨_, List.mem_of_getElem? (by rw [List.getElem?_take_of_lt hlk]; exact HY.out), by rw [← HXX.out]; exact hcl⟩
                         have HLT := Lib.hid hla
                         clear hla hcl
                         go_wp2_with fail
                         go_ret
                         exact ⟨ret_int (by rw [HQ.out, HLT.out]; simp), bel_via b0 (bel_via HBC.out (bel_via bk hbq))⟩))
              · obtain rfl : k = i := by omega
                have hd0k : decide (k < k) = false := by simp
                have hdik : decide ((k : Int) < (k : Int)) = false := by simp
                have hla : LA = false := by
                  rw [HLA.out]
                  exact any_none (find_miss fun j y hj => by
                    have hjk : j < k := by have := getE hj; simp at this; omega
                    rw [List.getElem?_take_of_lt hjk] at hj
                    have := N2.out j y hjk hj
                    rw [HXX.out] at this; exact this)
                subst hla
                replace hbc := bel_via HBC.out bk
                replace c0 := keepc bk c0; replace c1 := keepc bk c1; replace c2 := keepc bk c2; replace c3 := keepc bk c3; replace c4 := keepc bk c4; replace c5 := keepc bk c5; replace c6 := keepc bk c6; replace c7 := keepc bk c7; replace n0 := keepc bk n0; replace n1 := keepc bk n1; replace n2 := keepc bk n2; replace n3 := keepc bk n3; replace n4 := keepc bk n4; replace n5 := keepc bk n5; replace n6 := keepc bk n6; replace n7 := keepc bk n7; replace n8 := keepc bk n8; replace n9 := keepc bk n9
                by_cases hob : ob.toList = []
                · have hobb : (ob.toList == []) = true := by simp [hob]
                  by_cases hsv : sv.toList = []
                  · have hsvb : (sv.toList == []) = true := by simp [hsv]
                    by_cases hfr : frm = 0
                    · subst hfr
                      by_cases hti : til = 0
                      · subst hti
                        go_wp2_with (first | fail)
                        go_ret
                        exact ⟨ret_int (by rw [HQ.out]; simp [hob, hsv]), bel_via b0 hbc⟩
                      · have htib : (til != 0) = true := by simp [hti]
                        go_wp2_with (first | fail)
                        go_ret
                        exact ⟨ret_int (by rw [HQ.out]; simp [hob, hsv, hti]), bel_via b0 hbc⟩
                    · have hfrb : (frm != 0) = true := by simp [hfr]
                      go_wp2_with (first | fail)
                      go_ret
                      exact ⟨ret_int (by rw [HQ.out]; simp [hob, hsv, hfr]), bel_via b0 hbc⟩
                  · have hsvb : (sv.toList == []) = false := by simp [hsv]
                    go_wp2_with (first | fail)
                    go_ret
                    exact ⟨ret_int (by rw [HQ.out]; simp [hob, hsv]), bel_via b0 hbc⟩
                · have hobb : (ob.toList == []) = false := by simp [hob]
                  go_wp2_with (first | fail)
                  go_ret
                  exact ⟨ret_int (by rw [HQ.out]; simp [hob]), bel_via b0 hbc⟩
      · have hk3b : (kind == 3) = false := by simp [hk3]
        go_wp2_with fail
        go_ret
        exact ⟨ret_int (by rw [HQ.out]; simp [hk1, hk2, hk3]), bel_via b0 hbc⟩
end Go.Proofs.YtmnnjkdmnfadhaaGreatDoor
