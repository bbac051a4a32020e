/- The document's translations; by-name template (gen_rdoc3.py). -/
import Derived.Test.YtokbmahnjmmcaaaRDoc2
import Derived.Test.YtokbmahnjmmcaaaRDest
namespace Go.Proofs.Ytokbmahnjmmcaaa
open Go.Shelf Go.RowKit Go.Lib Go.Sort
set_option linter.unusedVariables false
set_option linter.unusedSimpArgs false

set_option maxHeartbeats 8000000 in
set_option maxRecDepth 100000 in
theorem rdest_any (c : CF) (k : KR) {w : World} (hc : c.Ok w) :
    Calls Try.prog 24 #[.agg (cfc c), .agg (krc k).toArray] w fun e w' => e = .returned (destT c k) ∧ Below w.heap.size w w' := by
  obtain ⟨w0, hw0⟩ : ∃ w0, w0 = ((w.alloc (.cells (cfc c) 30)).alloc (.cells (krc k).toArray 35)).alloc (.cells #[.int .u64 0, .int .u64 0] 33) := ⟨_, rfl⟩
  have hb : Below w.heap.size w w0 := by rw [hw0]; exact Below.al (Below.al (Below.al (Below.refl _ _) _) _) _
  have hC : ∀ w', Below w0.heap.size w0 w' → CfB w' w.heap.size c ∧ KeB w' (w.heap.size + 1) 0 k := by
    intro w' h
    refine ⟨CfB.keep ?_ h, KeB.keep ?_ h⟩
    · rw [hw0]; exact ((CfB.made w c).keep (Below.al (Below.refl _ _) _)).keep (Below.al (Below.refl _ _) _)
    · rw [hw0]; have := (KeB.made (w.alloc (.cells (cfc c) 30)) k).keep (Below.al (Below.refl _ _) (.cells #[.int .u64 0, .int .u64 0] 33)); simpa using this
  have hR : ∀ w', Below w0.heap.size w0 w' → w'.heap[w.heap.size + 1 + 1]? = some (.cells #[.int .u64 0, .int .u64 0] 33 (0, 0)) := fun w' h => by
    rw [h.block _ (by rw [hw0]; simp), hw0]; exact al_new (by simp) _
  have hS := hc.n.keep hb
  have hbig := hS.big
  have hlen := hS.len
  have Hlen := Lib.hid hlen
  have hok := fun (W : World) (hW : Below w0.heap.size w0 W) => (hc.keep hb).keep hW
  obtain ⟨V, hV⟩ : ∃ V, V = destT c k := ⟨_, rfl⟩
  rw [← hV]
  have HV := Lib.hid hV
  clear hV hc hlen
  obtain ⟨kp, ksh, ksl, kdh, kdl, ksp, kdp⟩ := k
  simp only [cfc, krc, Nat.zero_add] at *
  go_enter Try.func24, Try.ntmps24
  go_wp2
  rw [← hw0]
  clear hw0
  go_loopw [7] (fun vi wr => ∃ i : Nat, i ≤ c.nn ∧ vi = .int .i64 i ∧ Below w0.heap.size w0 wr ∧ Aside (∀ (j : Nat) (n : NR), j < i → c.ns[j]? = some n → calledP c ⟨kp, ksh, ksl, kdh, kdl, ksp, kdp⟩ n = false)) (fun vi _ => c.nn - (intOf vi).toNat)
  case atStart => exact ⟨0, by omega, rfl, Below.refl _ _, fun j z hj => absurd hj (Nat.not_lt_zero _)⟩
  case round =>
    obtain ⟨i, hi, rfl, hbr, N⟩ := hrel
    obtain ⟨⟨c0, c1, c2, c3, c4, c5, c6, c7⟩, k0, k1, k2, k3, k4, k5, k6⟩ := hC wr hbr
    simp only [Nat.zero_add] at k0 k1 k2 k3 k4 k5 k6
    have hm0 : w.heap.size < wr.heap.size := World.block_lt_of_cell? _ _ c0
    have hm1 : w.heap.size + 1 < wr.heap.size := World.block_lt_of_cell? _ _ k0
    have hb1 := bel_via hb hbr
    by_cases hlt : i < c.nn
    · have hlti : (i : Int) < (c.nn : Int) := by omega
      obtain ⟨b, off, hA, hblt, hrow⟩ := hS.row (by omega)
      have hml : i < c.ns.length := by rw [Hlen.out]; omega
      obtain ⟨n, hn⟩ : ∃ s, c.ns[i]? = some s := ⟨_, List.getElem?_eq_getElem hml⟩
      have r0 : wr.cell? ⟨b, off + i * 10, none⟩ = some (.int .i64 n.kind) := keepc hbr (hrow i n hn 0 _ rfl)
      have r1 := keepc hbr (hrow i n hn 1 _ rfl)
      have r2 := keepc hbr (hrow i n hn 2 _ rfl)
      have r3 := keepc hbr (hrow i n hn 3 _ rfl)
      have r4 := keepc hbr (hrow i n hn 4 _ rfl)
      have r5 := keepc hbr (hrow i n hn 5 _ rfl)
      have r6 := keepc hbr (hrow i n hn 6 _ rfl)
      have r7 := keepc hbr (hrow i n hn 7 _ rfl)
      have r8 := keepc hbr (hrow i n hn 8 _ rfl)
      have r9 := keepc hbr (hrow i n hn 9 _ rfl)
      have hlt1 : b < wr.heap.size := Nat.lt_of_lt_of_le hblt hbr.size
      have HN := Lib.hid hn
      have hb2 : Below wr.heap.size wr (wr.alloc (Obj.cells #[Value.int IntKind.i64 n.kind, Value.string n.zn, Value.string n.ob, Value.string n.sv, Value.int IntKind.u64 n.oh, Value.int IntKind.u64 n.ol, Value.int IntKind.u64 n.ih, Value.int IntKind.u64 n.il, Value.int IntKind.i64 n.frm, Value.int IntKind.i64 n.til] 49)) := Below.al (Below.refl _ _) _
      have n0 : (wr.alloc (Obj.cells #[Value.int IntKind.i64 n.kind, Value.string n.zn, Value.string n.ob, Value.string n.sv, Value.int IntKind.u64 n.oh, Value.int IntKind.u64 n.ol, Value.int IntKind.u64 n.ih, Value.int IntKind.u64 n.il, Value.int IntKind.i64 n.frm, Value.int IntKind.i64 n.til] 49)).cell? ⟨wr.heap.size, 0, none⟩ = some (.int .i64 n.kind) := by simp [go_sem]
      have n1 : (wr.alloc (Obj.cells #[Value.int IntKind.i64 n.kind, Value.string n.zn, Value.string n.ob, Value.string n.sv, Value.int IntKind.u64 n.oh, Value.int IntKind.u64 n.ol, Value.int IntKind.u64 n.ih, Value.int IntKind.u64 n.il, Value.int IntKind.i64 n.frm, Value.int IntKind.i64 n.til] 49)).cell? ⟨wr.heap.size, 1, none⟩ = some (.string n.zn) := by simp [go_sem]
      have n2 : (wr.alloc (Obj.cells #[Value.int IntKind.i64 n.kind, Value.string n.zn, Value.string n.ob, Value.string n.sv, Value.int IntKind.u64 n.oh, Value.int IntKind.u64 n.ol, Value.int IntKind.u64 n.ih, Value.int IntKind.u64 n.il, Value.int IntKind.i64 n.frm, Value.int IntKind.i64 n.til] 49)).cell? ⟨wr.heap.size, 2, none⟩ = some (.string n.ob) := by simp [go_sem]
      have n3 : (wr.alloc (Obj.cells #[Value.int IntKind.i64 n.kind, Value.string n.zn, Value.string n.ob, Value.string n.sv, Value.int IntKind.u64 n.oh, Value.int IntKind.u64 n.ol, Value.int IntKind.u64 n.ih, Value.int IntKind.u64 n.il, Value.int IntKind.i64 n.frm, Value.int IntKind.i64 n.til] 49)).cell? ⟨wr.heap.size, 3, none⟩ = some (.string n.sv) := by simp [go_sem]
      have n4 : (wr.alloc (Obj.cells #[Value.int IntKind.i64 n.kind, Value.string n.zn, Value.string n.ob, Value.string n.sv, Value.int IntKind.u64 n.oh, Value.int IntKind.u64 n.ol, Value.int IntKind.u64 n.ih, Value.int IntKind.u64 n.il, Value.int IntKind.i64 n.frm, Value.int IntKind.i64 n.til] 49)).cell? ⟨wr.heap.size, 4, none⟩ = some (.int .u64 n.oh) := by simp [go_sem]
      have n5 : (wr.alloc (Obj.cells #[Value.int IntKind.i64 n.kind, Value.string n.zn, Value.string n.ob, Value.string n.sv, Value.int IntKind.u64 n.oh, Value.int IntKind.u64 n.ol, Value.int IntKind.u64 n.ih, Value.int IntKind.u64 n.il, Value.int IntKind.i64 n.frm, Value.int IntKind.i64 n.til] 49)).cell? ⟨wr.heap.size, 5, none⟩ = some (.int .u64 n.ol) := by simp [go_sem]
      have n6 : (wr.alloc (Obj.cells #[Value.int IntKind.i64 n.kind, Value.string n.zn, Value.string n.ob, Value.string n.sv, Value.int IntKind.u64 n.oh, Value.int IntKind.u64 n.ol, Value.int IntKind.u64 n.ih, Value.int IntKind.u64 n.il, Value.int IntKind.i64 n.frm, Value.int IntKind.i64 n.til] 49)).cell? ⟨wr.heap.size, 6, none⟩ = some (.int .u64 n.ih) := by simp [go_sem]
      have n7 : (wr.alloc (Obj.cells #[Value.int IntKind.i64 n.kind, Value.string n.zn, Value.string n.ob, Value.string n.sv, Value.int IntKind.u64 n.oh, Value.int IntKind.u64 n.ol, Value.int IntKind.u64 n.ih, Value.int IntKind.u64 n.il, Value.int IntKind.i64 n.frm, Value.int IntKind.i64 n.til] 49)).cell? ⟨wr.heap.size, 7, none⟩ = some (.int .u64 n.il) := by simp [go_sem]
      have n8 : (wr.alloc (Obj.cells #[Value.int IntKind.i64 n.kind, Value.string n.zn, Value.string n.ob, Value.string n.sv, Value.int IntKind.u64 n.oh, Value.int IntKind.u64 n.ol, Value.int IntKind.u64 n.ih, Value.int IntKind.u64 n.il, Value.int IntKind.i64 n.frm, Value.int IntKind.i64 n.til] 49)).cell? ⟨wr.heap.size, 8, none⟩ = some (.int .i64 n.frm) := by simp [go_sem]
      have n9 : (wr.alloc (Obj.cells #[Value.int IntKind.i64 n.kind, Value.string n.zn, Value.string n.ob, Value.string n.sv, Value.int IntKind.u64 n.oh, Value.int IntKind.u64 n.ol, Value.int IntKind.u64 n.ih, Value.int IntKind.u64 n.il, Value.int IntKind.i64 n.frm, Value.int IntKind.i64 n.til] 49)).cell? ⟨wr.heap.size, 9, none⟩ = some (.int .i64 n.til) := by simp [go_sem]
      obtain ⟨wq, hwq⟩ : ∃ wq, wq = wr.alloc (Obj.cells #[Value.int IntKind.i64 n.kind, Value.string n.zn, Value.string n.ob, Value.string n.sv, Value.int IntKind.u64 n.oh, Value.int IntKind.u64 n.ol, Value.int IntKind.u64 n.ih, Value.int IntKind.u64 n.il, Value.int IntKind.i64 n.frm, Value.int IntKind.i64 n.til] 49) := ⟨_, rfl⟩
      rw [← hwq] at hb2 n0 n1 n2 n3 n4 n5 n6 n7 n8 n9
      have hbrq := bel_via hbr hb2
      have cs := rserves_any c n.sv ⟨kp, ksh, ksl, kdh, kdl, ksp, kdp⟩ (hok wq hbrq)
      have hsp : calledP c ⟨kp, ksh, ksl, kdh, kdl, ksp, kdp⟩ n = ((n.oh == kdh && n.ol == kdl) && if n.kind = 2 then servesP c n.sv ⟨kp, ksh, ksl, kdh, kdl, ksp, kdp⟩ else n.kind == 3) := rfl
      obtain ⟨S, hSv⟩ : ∃ S, S = servesP c n.sv ⟨kp, ksh, ksl, kdh, kdl, ksp, kdp⟩ := ⟨_, rfl⟩
      rw [← hSv] at cs hsp
      have HSP := Lib.hid hsp
      have hAi := hA
      rw [hA] at c5
      clear hSv hsp hn hrow hS hml hok hblt hA
      have hhit : ∀ (P : Int), calledP c ⟨kp, ksh, ksl, kdh, kdl, ksp, kdp⟩ n = true → P = (if n.kind = 2 ∧ ¬ n.frm = 0 ∧ portedP kp = true then n.frm else kdp) → V = .tuple #[.agg #[.int .u64 n.ih, .int .u64 n.il], .int .i64 P, .int .i64 (i : Nat)] := by
        intro P h1 h2
        rw [HV.out, destT, find_hit HN.out h1 N.out, pl_hit HN.out h1 N.out, h2]
      have HH := Lib.hid hhit
      clear hhit
      obtain ⟨kind, zn, ob, sv, oh, ol, ih, il, frm, til⟩ := n
      simp only [cfc, krc] at cs
      simp only at *
      rw [hAi] at cs
      clear hAi
      by_cases t1 : oh = kdh ∧ ol = kdl
      · obtain ⟨rfl, rfl⟩ := t1
        by_cases t2 : kind = 2
        · subst t2
          cases S with
          | false =>
            have hF : calledP c ⟨kp, ksh, ksl, oh, ol, ksp, kdp⟩ ⟨2, zn, ob, sv, oh, ol, ih, il, frm, til⟩ = false := by rw [HSP.out]; simp
            have HF := Lib.hid hF
            clear hF HSP HH hC hR
            go_wp2_with (go_at_call 39; rw [← hwq]; with_reducible refine cs.mono ?_; rintro e w3 ⟨rfl, hb3⟩)
            have hbr3 := bel_via hbrq hb3
            go_roundw
            case rel =>
              refine ⟨i + 1, by omega, by go_num, hbr3, fun j z2 hj hz2 => ?_⟩
              by_cases e : j = i
              · subst e
                rw [HN.out] at hz2; cases hz2
                exact HF.out
              · exact N.out j z2 (by omega) hz2
            case measure => simp [intOf]; omega
          | true =>
            have hF : calledP c ⟨kp, ksh, ksl, oh, ol, ksp, kdp⟩ ⟨2, zn, ob, sv, oh, ol, ih, il, frm, til⟩ = true := by rw [HSP.out]; simp
            have HF := Lib.hid hF
            clear hF HSP
            go_wp2_with (go_at_call 39; rw [← hwq]; with_reducible refine cs.mono ?_; rintro e w3 ⟨rfl, hb3⟩; refine Hid.out ?_)
            have hbr3 := bel_via hbrq hb3
            have hb23 := bel_via hb2 hb3
            have hltq := World.block_lt_of_cell? _ _ n0
            have e0 := keepc hb23 k0
            have e1 := keepc hb23 k1
            have e2 := keepc hb23 k2
            have e3 := keepc hb23 k3
            have e4 := keepc hb23 k4
            have e5 := keepc hb23 k5
            have e6 := keepc hb23 k6
            have m0 := keepc hb3 n0
            have m1 := keepc hb3 n1
            have m2 := keepc hb3 n2
            have m3 := keepc hb3 n3
            have m4 := keepc hb3 n4
            have m5 := keepc hb3 n5
            have m6 := keepc hb3 n6
            have m7 := keepc hb3 n7
            have m8 := keepc hb3 n8
            have m9 := keepc hb3 n9
            clear hwq r0 r1 r2 r3 r4 r5 r6 r7 r8 r9 n0 n1 n2 n3 n4 n5 n6 n7 n8 n9 c0 c1 c2 c3 c4 c5 c6 c7 k0 k1 k2 k3 k4 k5 k6 cs
            have hltn : wr.heap.size < w3.heap.size := World.block_lt_of_cell? _ _ m0
            have hR1 := hR w3 hbr3
            obtain ⟨s0, s1, z0, z1⟩ := cells2 hR1
            have hltR : w.heap.size + 1 + 1 < w3.heap.size := World.block_lt_of_cell? _ _ s0
            have hltK : w.heap.size + 1 < w3.heap.size := by omega
            have cp := rported_any kp
            clear hC hR N
            by_cases t3 : frm = 0
            · have t3b : (frm == 0) = true := by simp [t3]
              have hv := HH.out kdp HF.out (by rw [if_neg (fun h => h.2.1 t3)])
              have HV2 := Lib.hid hv
              clear hv HH HF t3
              refine Lib.hid ?_
              go_wp2
              go_region
              go_wp2
              have hR2 := heap_set2 hR1 (.int .u64 ih) (.int .u64 il)
              have hb5 := below_set (below_set (bel_via hb hbr3) (B := w.heap.size + 1 + 1) (by omega) 0 (.int .u64 ih)) (B := w.heap.size + 1 + 1) (by omega) 1 (.int .u64 il)
              generalize (w3.setCell ⟨w.heap.size + 1 + 1, 0, none⟩ (.int .u64 ih)).setCell ⟨w.heap.size + 1 + 1, 1, none⟩ (.int .u64 il) = wf at *
              have hlf : w.heap.size + 1 + 1 < wf.heap.size := (Array.getElem?_eq_some_iff.1 hR2).1
              obtain ⟨f0, f1, _, _⟩ := cells2 hR2
              have p0 := keepc (Below.dr (Below.refl _ wf)) f0
              have p1 := keepc (Below.dr (Below.refl _ wf)) f1
              refine bodyPost_ret (v := .tuple #[.agg #[.int .u64 ih, .int .u64 il], .int .i64 kdp, .int .i64 (i : Nat)]) (by simp [results, Try.results24, go_sem, f0, f1]) rfl ⟨?_, Below.dr hb5⟩
              rw [HV2.out]
            · have t3b : (frm == 0) = false := by simp [t3]
              cases hp : portedP kp with
              | true =>
                rw [hp] at cp
                have hv := HH.out frm HF.out (by rw [if_pos ⟨trivial, t3, hp⟩])
                have HV2 := Lib.hid hv
                clear hv HH HF t3 hp
                refine Lib.hid ?_
                go_wp2_with (go_at_call 40; refine (cp _).mono ?_; rintro e w' ⟨rfl, rfl⟩)
                go_region
                go_wp2
                have hR2 := heap_set2 hR1 (.int .u64 ih) (.int .u64 il)
                have hb5 := below_set (below_set (bel_via hb hbr3) (B := w.heap.size + 1 + 1) (by omega) 0 (.int .u64 ih)) (B := w.heap.size + 1 + 1) (by omega) 1 (.int .u64 il)
                generalize (w3.setCell ⟨w.heap.size + 1 + 1, 0, none⟩ (.int .u64 ih)).setCell ⟨w.heap.size + 1 + 1, 1, none⟩ (.int .u64 il) = wf at *
                have hlf : w.heap.size + 1 + 1 < wf.heap.size := (Array.getElem?_eq_some_iff.1 hR2).1
                obtain ⟨f0, f1, _, _⟩ := cells2 hR2
                have p0 := keepc (Below.dr (Below.refl _ wf)) f0
                have p1 := keepc (Below.dr (Below.refl _ wf)) f1
                refine bodyPost_ret (v := .tuple #[.agg #[.int .u64 ih, .int .u64 il], .int .i64 frm, .int .i64 (i : Nat)]) (by simp [results, Try.results24, go_sem, f0, f1]) rfl ⟨?_, Below.dr hb5⟩
                rw [HV2.out]
              | false =>
                rw [hp] at cp
                have hv := HH.out kdp HF.out (by rw [if_neg (fun h => by rw [hp] at h; exact absurd h.2.2 (by simp))])
                have HV2 := Lib.hid hv
                clear hv HH HF t3 hp
                refine Lib.hid ?_
                go_wp2_with (go_at_call 40; refine (cp _).mono ?_; rintro e w' ⟨rfl, rfl⟩)
                go_region
                go_wp2
                have hR2 := heap_set2 hR1 (.int .u64 ih) (.int .u64 il)
                have hb5 := below_set (below_set (bel_via hb hbr3) (B := w.heap.size + 1 + 1) (by omega) 0 (.int .u64 ih)) (B := w.heap.size + 1 + 1) (by omega) 1 (.int .u64 il)
                generalize (w3.setCell ⟨w.heap.size + 1 + 1, 0, none⟩ (.int .u64 ih)).setCell ⟨w.heap.size + 1 + 1, 1, none⟩ (.int .u64 il) = wf at *
                have hlf : w.heap.size + 1 + 1 < wf.heap.size := (Array.getElem?_eq_some_iff.1 hR2).1
                obtain ⟨f0, f1, _, _⟩ := cells2 hR2
                have p0 := keepc (Below.dr (Below.refl _ wf)) f0
                have p1 := keepc (Below.dr (Below.refl _ wf)) f1
                refine bodyPost_ret (v := .tuple #[.agg #[.int .u64 ih, .int .u64 il], .int .i64 kdp, .int .i64 (i : Nat)]) (by simp [results, Try.results24, go_sem, f0, f1]) rfl ⟨?_, Below.dr hb5⟩
                rw [HV2.out]
        · by_cases t3 : kind = 3
          · subst t3
            have hF : calledP c ⟨kp, ksh, ksl, oh, ol, ksp, kdp⟩ ⟨3, zn, ob, sv, oh, ol, ih, il, frm, til⟩ = true := by rw [HSP.out]; simp
            have hv := HH.out kdp hF (by rw [if_neg (fun h => t2 h.1)])
            have HV2 := Lib.hid hv
            have hR1 := hR wr hbr
            obtain ⟨s0, s1, z0, z1⟩ := cells2 hR1
            have hltR : w.heap.size + 1 + 1 < wr.heap.size := World.block_lt_of_cell? _ _ s0
            clear hF HSP HH hC hR hv t2 cs
            subst hwq
            go_wp2
            go_region
            go_wp2
            have hR2 := heap_set2 hR1 (.int .u64 ih) (.int .u64 il)
            have hb5 := below_set (below_set hb1 (B := w.heap.size + 1 + 1) (by omega) 0 (.int .u64 ih)) (B := w.heap.size + 1 + 1) (by omega) 1 (.int .u64 il)
            generalize (wr.setCell ⟨w.heap.size + 1 + 1, 0, none⟩ (.int .u64 ih)).setCell ⟨w.heap.size + 1 + 1, 1, none⟩ (.int .u64 il) = wf at *
            have hlf : w.heap.size + 1 + 1 < wf.heap.size := (Array.getElem?_eq_some_iff.1 hR2).1
            obtain ⟨f0, f1, _, _⟩ := cells2 hR2
            have g0 := fun o => keepc (Below.al (Below.refl _ wf) o) f0
            have g1 := fun o => keepc (Below.al (Below.refl _ wf) o) f1
            refine bodyPost_ret (v := .tuple #[.agg #[.int .u64 ih, .int .u64 il], .int .i64 kdp, .int .i64 (i : Nat)]) (by simp [results, Try.results24, go_sem, g0, g1]) rfl ⟨?_, Below.dr (Below.al hb5 _)⟩
            rw [HV2.out]
          · have t2b : (kind == 2) = false := by simp [t2]
            have t3b : (kind == 3) = false := by simp [t3]
            have hF : calledP c ⟨kp, ksh, ksl, oh, ol, ksp, kdp⟩ ⟨kind, zn, ob, sv, oh, ol, ih, il, frm, til⟩ = false := by rw [HSP.out]; simp [t2, t3]
            have HF := Lib.hid hF
            clear hF HSP HH hC hR t2 t3 cs
            subst hwq
            go_wp2
            go_roundw
            case rel =>
              refine ⟨i + 1, by omega, by go_num, Below.al hbr _, fun j z2 hj hz2 => ?_⟩
              by_cases e : j = i
              · subst e
                rw [HN.out] at hz2; cases hz2
                exact HF.out
              · exact N.out j z2 (by omega) hz2
            case measure => simp [intOf]; omega
      · have hF : calledP c ⟨kp, ksh, ksl, kdh, kdl, ksp, kdp⟩ ⟨kind, zn, ob, sv, oh, ol, ih, il, frm, til⟩ = false := by
          rw [HSP.out]
          by_cases h1 : oh = kdh
          · have h2 : ¬ ol = kdl := fun h => t1 ⟨h1, h⟩
            simp [h2]
          · simp [h1]
        have HF := Lib.hid hF
        clear hF HSP HH hC hR cs
        subst hwq
        by_cases h1 : oh = kdh
        · subst h1
          have h2 : ¬ ol = kdl := fun h => t1 ⟨rfl, h⟩
          clear t1
          go_wp2
          all_goals
            go_roundw
            case rel =>
              refine ⟨i + 1, by omega, by go_num, Below.al hbr _, fun j z2 hj hz2 => ?_⟩
              by_cases e : j = i
              · subst e
                rw [HN.out] at hz2; cases hz2
                exact HF.out
              · exact N.out j z2 (by omega) hz2
            case measure => simp [intOf]; omega
        · clear t1
          go_wp2
          all_goals
            go_roundw
            case rel =>
              refine ⟨i + 1, by omega, by go_num, Below.al hbr _, fun j z2 hj hz2 => ?_⟩
              by_cases e : j = i
              · subst e
                rw [HN.out] at hz2; cases hz2
                exact HF.out
              · exact N.out j z2 (by omega) hz2
            case measure => simp [intOf]; omega
    · obtain rfl : i = c.nn := by omega
      have hv : V = .tuple #[.agg #[.int .u64 kdh, .int .u64 kdl], .int .i64 kdp, .int .i64 (-1)] := by
        rw [HV.out, destT, find_miss fun j z hz => N.out j z (by rw [← Hlen.out]; exact getE hz) hz]
      have HV2 := Lib.hid hv
      have hR1 := hR wr hbr
      obtain ⟨s0, s1, z0, z1⟩ := cells2 hR1
      have hltR : w.heap.size + 1 + 1 < wr.heap.size := World.block_lt_of_cell? _ _ s0
      clear hlt hv HV hC hR N hok hS
      go_wp2
      go_region
      go_wp2
      have hR2 := heap_set2 hR1 (.int .u64 kdh) (.int .u64 kdl)
      have hb5 := below_set (below_set hb1 (B := w.heap.size + 1 + 1) (by omega) 0 (.int .u64 kdh)) (B := w.heap.size + 1 + 1) (by omega) 1 (.int .u64 kdl)
      generalize (wr.setCell ⟨w.heap.size + 1 + 1, 0, none⟩ (.int .u64 kdh)).setCell ⟨w.heap.size + 1 + 1, 1, none⟩ (.int .u64 kdl) = wf at *
      have hlf : w.heap.size + 1 + 1 < wf.heap.size := (Array.getElem?_eq_some_iff.1 hR2).1
      obtain ⟨f0, f1, _, _⟩ := cells2 hR2
      have p0 := keepc (Below.dr (Below.refl _ wf)) f0
      have p1 := keepc (Below.dr (Below.refl _ wf)) f1
      refine bodyPost_ret (v := .tuple #[.agg #[.int .u64 kdh, .int .u64 kdl], .int .i64 kdp, .int .i64 (-1)]) (by simp [results, Try.results24, go_sem, f0, f1]) rfl ⟨?_, Below.dr hb5⟩
      rw [HV2.out]
end Go.Proofs.Ytokbmahnjmmcaaa
