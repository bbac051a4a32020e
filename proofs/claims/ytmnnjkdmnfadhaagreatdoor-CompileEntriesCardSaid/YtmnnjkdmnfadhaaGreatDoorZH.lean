/- The ranges of an object: the document's; by-name template (gen_madr2.py). -/
import Derived.Test.YtmnnjkdmnfadhaaGreatDoorZA
import Derived.Lib.QuietBelow
import Derived.Deep.QuietTactic
import Derived.Test.YtmnnjkdmnfadhaaGreatDoorZC
namespace Go.Proofs.YtmnnjkdmnfadhaaGreatDoor
open Go.Shelf Go.RowKit Go.Lib Go.Sort
set_option linter.unusedVariables false
set_option linter.unusedSimpArgs false

set_option maxHeartbeats 4000000 in
set_option maxRecDepth 100000 in
theorem radr_any (c : CF) (key : ByteArray) {w : World} (hc : c.Ok w) (hf : c.Fine) (hk : obB c key = true) {S : Nat} (hS : OldR c S) :
    Calls Tryz.prog 31 #[.agg (cfc c), .string key] w (RsPost S w (adR c key)) := by
  obtain ⟨L, hL⟩ : ∃ L, adR c key = L := ⟨_, rfl⟩
  rw [hL]
  have hcase : (isAny key = true ∧ L = [full4] ∧ ∀ (j : Nat) (y : OR), c.os[j]? = some y → eqs y.nm key = false) ∨ (isAny key = false ∧ ∃ (k : Nat) (x : OR), c.os[k]? = some x ∧ L = x.rs ∧ eqs x.nm key = true ∧ ∀ (j : Nat) (y : OR), j < k → c.os[j]? = some y → eqs y.nm key = false) := by
    by_cases ha : isAny key = true
    · refine .inl ⟨ha, by rw [← hL]; unfold adR; rw [(any_ix hf.oa ha).2], fun j y hj => ?_⟩
      rw [Bool.eq_false_iff]
      intro he
      have := hf.oa y (List.mem_of_getElem? hj)
      unfold isAny at this ha
      rw [(eqs_eq _ _).1 he] at this
      rw [ha] at this; exact absurd this (by decide)
    · have ha' : isAny key = false := by simpa using ha
      obtain ⟨k, x, hx, _, hfi, he, hb⟩ := some_ix (l := c.os) (nm := fun x : OR => x.nm) (key := key) hk ha'
      exact .inr ⟨ha', k, x, hx, by rw [← hL]; unfold adR; rw [hfi], he, hb⟩
  have hbig := hc.o.big
  have HL := Lib.hid hc.o.len
  have HOI := Lib.hid hc.oi
  have HOl := Lib.hid hS
  have HC := fun W (h : Below w.heap.size w W) => hc.o.keep h
  obtain ⟨w0, hw0⟩ : ∃ w0, w0 = w.alloc (.cells (cfc c) 30) := ⟨_, rfl⟩
  have hb0 : Below w.heap.size w w0 := by rw [hw0]; exact Below.al (Below.refl _ _) _
  have hB := Lib.hid (show CfB w0 w.heap.size c by rw [hw0]; exact CfB.made w c)
  have HS := Lib.hid (HC w0 hb0)
  clear hL hk hf hc hS
  simp only [cfc] at hw0 ⊢
  go_enter Tryz.func31, Tryz.ntmps31
  go_upto_region 1 with fail
  rw [← hw0]
  clear hw0 HC
  have HCs := Lib.hid hcase
  clear hcase
  have y0 := hB.out.c1
  go_wp2_with fail
  go_loop [5] (fun vi => ∃ k : Nat, k ≤ c.on ∧ vi = .int .i64 (k : Int) ∧ Aside (∀ (j : Nat) (y : OR), j < k → c.os[j]? = some y → eqs y.nm key = false)) (fun vi => c.on - (intOf vi).toNat)
  case atStart => exact ⟨0, by omega, rfl, fun j y hj => absurd hj (Nat.not_lt_zero _)⟩
  case round =>
    obtain ⟨k, hk, rfl, N⟩ := hrel
    by_cases hlt : k < c.on
    · have hlti : (k : Int) < (c.on : Int) := by omega
      obtain ⟨b, off, hA, hblt, hrow⟩ := HS.out.row (by omega)
      obtain ⟨z, hz⟩ : ∃ z, c.os[k]? = some z := ⟨_, List.getElem?_eq_getElem (by rw [HL.out]; omega)⟩
      have r0 := hrow k z hz 0 _ rfl
      rw [Nat.add_zero] at r0
      have r1 := hrow k z hz 1 _ rfl
      rw [hA] at y0
      have HZ := Lib.hid hz
      clear hrow hA hz
      cases hq : eqs z.nm key with
      | true =>
        have hq1 : (z.nm.toList == key.toList) = true := hq
        have hq2 : z.nm.toList = key.toList := (eqs_eq _ _).1 hq
        have hna : (key.toList == [97, 110, 121]) = false ∧ L = z.rs := by
          rcases HCs.out with ⟨_, _, h3⟩ | ⟨h1, k', x, hx, hLx, hex, hbx⟩
          · have := h3 k z HZ.out; rw [hq] at this; exact absurd this (by decide)
          · have hkk : k' = k := by
              rcases Nat.lt_trichotomy k' k with h | h | h
              · have := N.out k' x h hx; rw [hex] at this; exact absurd this (by decide)
              · exact h
              · have := hbx k z h HZ.out; rw [hq] at this; exact absurd this (by decide)
            subst hkk
            rw [HZ.out] at hx; cases hx
            exact ⟨by simpa [isAny] using h1, hLx⟩
        obtain ⟨hna1, hna2⟩ := hna
        have HL2 := Lib.hid hna2
        have HSx := Lib.hid ((HOI.out z (List.mem_of_getElem? HZ.out)).keep hb0)
        have HQ := Lib.hid hq
        clear hq hna2 hq2
        go_wp2
        go_ret
        exact ⟨_, _, _, rfl, by rw [HL2.out]; exact HSx.out, hb0, fun h0 b off sp h => .inl (HOl.out z (List.mem_of_getElem? HZ.out) h0 b off sp h)⟩
      | false =>
        have hq1 : (z.nm.toList == key.toList) = false := hq
        have HQ := Lib.hid hq
        clear hq
        go_wp2
        go_round
        case rel => exact ⟨k + 1, by omega, by go_num, fun j y hj hy => by
          by_cases e : j = k
          · subst e; rw [HZ.out] at hy; cases hy; exact HQ.out
          · exact N.out j y (by omega) hy⟩
        case measure => simp [intOf]; omega
    · have hlti : ¬ (k : Int) < (c.on : Int) := by omega
      have hLf : L = [full4] := by
        rcases HCs.out with ⟨_, h2, _⟩ | ⟨_, k', x, hx, _, hex, _⟩
        · exact h2
        · have := N.out k' x (by have := getE hx; rw [HL.out] at this; omega) hx
          rw [hex] at this; exact absurd this (by decide)
      have HLf := Lib.hid hLf
      clear hLf
      go_upto_region 7 with fail
      have hbe : Below w0.heap.size w0 (w0.alloc (.cells #[] 45)) := Below.al (Below.refl _ w0) _
      have hoe := own_empty (enc := r4c) (k := 4) (T := 45) w0
      have hse : w0.heap.size ≤ (w0.alloc (.cells #[] 45)).heap.size := by simp
      generalize w0.alloc (.cells #[] 45) = we at *
      go_wp2_with (at_builtin; go_loud (refine app_row rng_ty rfl _ _ rfl w0.heap.size _ 0 [] rfl hoe full4 rfl (by decide) (by decide) hse ?_))
      intro v' w' hown' hbel' hsz'
      have b1 := hbel' _ _ hbe (Nat.le_refl _)
      have b2 := bel_via hb0 b1
      clear hbel'
      go_wp2
      go_ret
      rw [HLf.out]
      exact rs_of_own hown' rfl b2 hb0.size
end Go.Proofs.YtmnnjkdmnfadhaaGreatDoor

namespace Go.Proofs.YtmnnjkdmnfadhaaGreatDoor
open Go.Shelf Go.RowKit Go.Lib Go.Sort
set_option linter.unusedVariables false
set_option linter.unusedSimpArgs false


theorem rnum_c {a b : Int} (ha : a ≤ 9223372036854775807) (hb : b ≤ 9223372036854775807) (x y : Int) (hx : x = a) (hy : y = b) (W : World) : Calls Tryz.prog 33 #[.int .i64 x, .int .i64 y] W fun e w' => e = .returned (.agg #[.int .u64 (numR a b).fh, .int .u64 (numR a b).fl, .int .u64 (numR a b).th, .int .u64 (numR a b).tl]) ∧ Below W.heap.size W w' := by
  subst hx; subst hy; exact num_any ha hb W

set_option maxHeartbeats 8000000 in
set_option maxRecDepth 100000 in
theorem rzn_any (c : CF) (u : UR) {w : World} (hc : c.Ok w) (hf : c.Fine) (h1 : zoB c u.inz = true) (h2 : zoB c u.out = true) (S : Nat) :
    Calls Tryz.prog 30 #[.agg (cfc c), .agg (urc u).toArray] w (RsPost S w (znR (zIx c u.inz) (zIx c u.out))) := by
  obtain ⟨hx1, li, gi, hx2⟩ := zIx_iff hf h1
  obtain ⟨hx3, lj, gj, hx4⟩ := zIx_iff hf h2
  have HX1 := Lib.hid hx1
  have HX3 := Lib.hid hx3
  clear hx1 hx2 hx3 hx4
  have kz1 : ∀ W, Below w.heap.size w W → Calls Tryz.prog 92 #[.agg (cfc c), .string u.inz] W fun e w' => e = .returned (.int .i64 (zIx c u.inz)) ∧ Below W.heap.size W w' := fun W h => rzno_any c u.inz (hc.z.keep h)
  have kz2 : ∀ W, Below w.heap.size w W → Calls Tryz.prog 92 #[.agg (cfc c), .string u.out] W fun e w' => e = .returned (.int .i64 (zIx c u.out)) ∧ Below W.heap.size W w' := fun W h => rzno_any c u.out (hc.z.keep h)
  generalize zIx c u.inz = i at *
  generalize zIx c u.out = j at *
  obtain ⟨L, hLz⟩ : ∃ L, znR i j = L := ⟨_, rfl⟩
  rw [hLz]
  have HLz := Lib.hid hLz
  clear hLz
  have iC : Hid ((Tryz.prog.info? 30).map (·.size) = some (cfc c).size) := Lib.hid (by rw [show (cfc c).size = 8 from rfl]; kernel_rfl)
  generalize cfc c = C at *
  clear hc hf h1 h2
  obtain ⟨inz, out, src, dst, svc, act, lim, proxy⟩ := u
  simp only [urc] at *
  go_enter Tryz.func30, Tryz.ntmps30
  go_upto_region 1 with fail
  refine wp_genz fun W hW => ?_
  have b0 : Below w.heap.size w W := by rw [hW]; repeat (first | exact Below.refl _ _ | apply Below.dr | apply Below.al)
  have hB : W.heap[w.heap.size]? = some (.cells C 30 (0, 0)) := by rw [hW]; exact blk_al (heap_alloc_new w _) _
  have c0 : W.cell? ⟨w.heap.size + 1, 0, none⟩ = some (.string inz) := by rw [hW]; simp [go_sem]
  have c1 : W.cell? ⟨w.heap.size + 1, 1, none⟩ = some (.string out) := by rw [hW]; simp [go_sem]
  clear hW
  go_upto_region 2 with (first
    | (refine wpList_load_row rfl 30 (.tmp 2) rfl w.heap.size rfl 30 C (0, 0) _ hB Tryz.underlying30 rfl iC.out ?_)
    | (go_at_call 92; go_loud (with_reducible refine (kz1 _ b0).mono ?_; rintro e w1 ⟨rfl, b1⟩; have b1' := bel_via b0 b1; have hB1 := blkB b1 hB; have d1 := keepc b1 c1)))
  go_upto_region 3 with (first
    | (refine wpList_load_row rfl 30 (.tmp 2) rfl w.heap.size rfl 30 C (0, 0) _ hB1 Tryz.underlying30 rfl iC.out ?_)
    | (go_at_call 92; go_loud (with_reducible refine (kz2 _ b1').mono ?_; rintro e w2 ⟨rfl, b2⟩; have b2' := bel_via b1' b2; have e0 := keepc b2 (keepc b1 c0); have e1 := keepc b2 d1)))
  go_upto_region 4 with fail
  have hbe : Below w2.heap.size w2 (w2.alloc (.cells #[] 45)) := Below.al (Below.refl _ w2) _
  have hoe := own_empty (enc := r4c) (k := 4) (T := 45) w2
  have hse : w2.heap.size ≤ (w2.alloc (.cells #[] 45)).heap.size := by simp
  have f0 := keepc hbe e0
  have f1 := keepc hbe e1
  generalize w2.alloc (.cells #[] 45) = we at *
  clear kz1 kz2 c0 c1 hB hB1 d1 e0 e1 b1 b2 b0 b1'
  have hany : ∀ s : ByteArray, isAny s = true → s.toList = [97, 110, 121] := fun s h => isAny_iff.1 h
  have hnot : ∀ s : ByteArray, ¬ isAny s = true → (s.toList == [97, 110, 121]) = false := fun s h => by simpa [isAny] using h
  by_cases hi : i = -1
  · subst hi
    have s1 := hany inz (HX1.out.1 rfl)
    have s1b : (inz.toList == [97, 110, 121]) = true := by simp [s1]
    by_cases hj : j = -1
    · subst hj
      have s2 := hany out (HX3.out.1 rfl)
      have s2b : (out.toList == [97, 110, 121]) = true := by simp [s2]
      have HL1 : Hid (L = [numR 0 255]) := Lib.hid (by rw [← HLz.out]; simp [znR])
      have kn := fun W : World => rnum_c (a := 0) (b := 255) (by omega) (by omega) 0 255 rfl rfl W
      generalize numR 0 255 = r at *
      clear hany hnot
      go_wp2_with (go_at_call 33; go_loud (refine (kn _).mono ?_; rintro e w3 ⟨rfl, b3⟩; have b3' := bel_via hbe b3; have ho3 := own_keep hoe b3; have hs3 := b3'.size; refine Hid.out ?_))
      refine Lib.hid ?_
      rename_i hKK
      refine hKK _ _ ?_
      refine wpList_b1 rfl 45 60 (.tmp 28) _ (r4c r).toArray rfl rfl (run_b4 r) ?_
      go_wp2_with (at_builtin; go_loud (refine app_row rng_ty rfl _ _ rfl w2.heap.size _ 0 [] rfl ho3 r rfl (by decide) (by omega) hs3 ?_))
      intro v' w' hown' hbel' hsz'
      have b4 := hbel' _ _ b3' (Nat.le_refl _)
      clear hbel' ho3
      go_wp2_with fail
      go_ret
      rw [HL1.out]
      exact rs_of_own (l := [r]) (by simpa using hown') rfl (bel_via b2' b4) b2'.size
    · have s2b := hnot out (fun h => hj (HX3.out.2 h))
      have HL := HLz
      have HJ := Lib.hid hj
      clear hj hany hnot
      go_upto_region 7 with fail
      go_wp2_with fail
      go_loopw [7, 8] (fun vl vk wr => ∃ k : Nat, k ≤ 16 ∧ vk = .int .i64 (k : Int) ∧ Hid (wr.ownsRow w2.heap.size 45 4 vl k (((List.range k).map fun k : Nat => numR ((k : Int) * 16 + j) ((k : Int) * 16 + j)).flatMap r4c)) ∧ Below w2.heap.size w2 wr) (fun _ vk _ => 16 - (intOf vk).toNat)
      case atStart => exact ⟨0, by omega, rfl, Lib.hid (by simpa using hoe), hbe⟩
      case round =>
        clear hoe hbe hse f0 f1
        obtain ⟨k, hk, rfl, HO, br⟩ := hrel
        by_cases hlt : k < 16
        · have hlti : (k : Int) < 16 := by omega
          have k2 := fun (x y : Int) (hx : x = (k : Int) * 16 + j) (hy : y = (k : Int) * 16 + j) (W : World) => rnum_c (a := (k : Int) * 16 + j) (b := (k : Int) * 16 + j) (by omega) (by omega) x y hx hy W
          obtain ⟨r, hr⟩ : ∃ r, r = numR ((k : Int) * 16 + j) ((k : Int) * 16 + j) := ⟨_, rfl⟩
          rw [← hr] at k2
          have HR := Lib.hid hr
          clear hr
          have hsz := br.size
          go_wp2_with (go_at_call 33; go_loud (refine (k2 _ _ (by omega) (by omega) _).mono ?_; rintro e w3 ⟨rfl, b3⟩; have b3' := bel_via br b3; have ho3 := own_keep HO.out b3; have hs3 := b3'.size; refine Hid.out ?_))
          refine Lib.hid ?_
          rename_i hKK
          refine hKK _ _ ?_
          refine wpList_b1 rfl 45 60 (.tmp 48) _ (r4c r).toArray rfl rfl (run_b4 r) ?_
          go_wp2_with (at_builtin; go_loud (refine app_row rng_ty rfl _ _ rfl w2.heap.size _ k _ rfl ho3 r rfl (by omega) (by omega) hs3 ?_))
          intro v' w' hown' hbel' hsz'
          have b4 := hbel' _ _ b3' (Nat.le_refl _)
          have HO4 : Hid (w'.ownsRow w2.heap.size 45 4 v' (k + 1) (((List.range (k + 1)).map fun k : Nat => numR ((k : Int) * 16 + j) ((k : Int) * 16 + j)).flatMap r4c)) := Lib.hid (by rw [List.range_succ, List.map_append, List.map_cons, List.map_nil, ← HR.out]; simpa using hown')
          clear hown' hbel' ho3 k2
          go_wp2_with fail
          go_roundw
          case rel => exact ⟨k + 1, by omega, by go_num, HO4, b4⟩
          case measure => simp [intOf]; omega
        · obtain rfl : k = 16 := by omega
          go_wp2_with fail
          go_ret
          have hLe : L = (List.range 16).map fun k : Nat => numR ((k : Int) * 16 + j) ((k : Int) * 16 + j) := by
            rw [← HL.out]; unfold znR; rw [if_pos rfl, if_neg HJ.out]
          rw [hLe]
          exact rs_of_own HO.out (by simp) (bel_via b2' br) b2'.size
  · have s1b := hnot inz (fun h => hi (HX1.out.2 h))
    by_cases hj : j = -1
    · subst hj
      have s2 := hany out (HX3.out.1 rfl)
      have s2b : (out.toList == [97, 110, 121]) = true := by simp [s2]
      have HL1 : Hid (L = [numR (i * 16) (i * 16 + 15)]) := Lib.hid (by rw [← HLz.out]; unfold znR; rw [if_neg hi, if_pos rfl])
      have HI := Lib.hid hi
      clear hi hany hnot
      have kn := fun (x y : Int) (hx : x = i * 16) (hy : y = i * 16 + 15) (W : World) => rnum_c (a := i * 16) (b := i * 16 + 15) (by omega) (by omega) x y hx hy W
      generalize numR (i * 16) (i * 16 + 15) = r at *
      go_wp2_with (go_at_call 33; go_loud (refine (kn _ _ (by omega) (by omega) _).mono ?_; rintro e w3 ⟨rfl, b3⟩; have b3' := bel_via hbe b3; have ho3 := own_keep hoe b3; have hs3 := b3'.size; refine Hid.out ?_))
      refine Lib.hid ?_
      rename_i hKK
      refine hKK _ _ ?_
      refine wpList_b1 rfl 45 60 (.tmp 62) _ (r4c r).toArray rfl rfl (run_b4 r) ?_
      go_wp2_with (at_builtin; go_loud (refine app_row rng_ty rfl _ _ rfl w2.heap.size _ 0 [] rfl ho3 r rfl (by decide) (by omega) hs3 ?_))
      intro v' w' hown' hbel' hsz'
      have b4 := hbel' _ _ b3' (Nat.le_refl _)
      clear hbel' ho3
      go_wp2_with fail
      go_ret
      rw [HL1.out]
      exact rs_of_own (l := [r]) (by simpa using hown') rfl (bel_via b2' b4) b2'.size
    · have s2b := hnot out (fun h => hj (HX3.out.2 h))
      have HL1 : Hid (L = [numR (i * 16 + j) (i * 16 + j)]) := Lib.hid (by rw [← HLz.out]; unfold znR; rw [if_neg hi, if_neg hj])
      have HI := Lib.hid hi
      have HJ := Lib.hid hj
      clear hi hj hany hnot
      have kn := fun (x y : Int) (hx : x = i * 16 + j) (hy : y = i * 16 + j) (W : World) => rnum_c (a := i * 16 + j) (b := i * 16 + j) (by omega) (by omega) x y hx hy W
      generalize numR (i * 16 + j) (i * 16 + j) = r at *
      go_wp2_with (go_at_call 33; go_loud (refine (kn _ _ (by omega) (by omega) _).mono ?_; rintro e w3 ⟨rfl, b3⟩; have b3' := bel_via hbe b3; have ho3 := own_keep hoe b3; have hs3 := b3'.size; refine Hid.out ?_))
      refine Lib.hid ?_
      rename_i hKK
      refine hKK _ _ ?_
      refine wpList_b1 rfl 45 60 (.tmp 74) _ (r4c r).toArray rfl rfl (run_b4 r) ?_
      go_wp2_with (at_builtin; go_loud (refine app_row rng_ty rfl _ _ rfl w2.heap.size _ 0 [] rfl ho3 r rfl (by decide) (by omega) hs3 ?_))
      intro v' w' hown' hbel' hsz'
      have b4 := hbel' _ _ b3' (Nat.le_refl _)
      clear hbel' ho3
      go_wp2_with fail
      go_ret
      rw [HL1.out]
      exact rs_of_own (l := [r]) (by simpa using hown') rfl (bel_via b2' b4) b2'.size
end Go.Proofs.YtmnnjkdmnfadhaaGreatDoor

namespace Go.Proofs.YtmnnjkdmnfadhaaGreatDoor
open Go.Shelf Go.RowKit Go.Lib Go.Sort
set_option linter.unusedVariables false
set_option linter.unusedSimpArgs false

theorem find_take {α : Type} {p : α → Bool} {l : List α} {k : Nat} {x : α} (hx : l[k]? = some x) (hn : ∀ (j : Nat) (y : α), j < k → l[j]? = some y → p y = false) : (l.take k).find? p = none ∧ (l.take (k + 1)).find? p = if p x = true then some x else none := by
  have h1 : (l.take k).find? p = none := find_miss (fun j y hj => by
    have hlt : j < k := by have := getE hj; simp at this; omega
    rw [List.getElem?_take_of_lt hlt] at hj
    exact hn j y hlt hj)
  refine ⟨h1, ?_⟩
  rw [take_snocL hx, List.find?_append, h1]
  simp [List.find?_cons]
  cases h : p x <;> simp
theorem find_step {α : Type} {p : α → Bool} {l : List α} {k : Nat} {x : α} (hx : l[k]? = some x) (hp : p x = false) : (l.take (k + 1)).find? p = (l.take k).find? p := by
  rw [take_snocL hx, List.find?_append]
  simp [List.find?_cons, hp]
theorem r4_at {w : World} {B : Nat} {r : R4} {t : TypeId} (h : w.heap[B]? = some (.cells #[.int .u64 r.fh, .int .u64 r.fl, .int .u64 r.th, .int .u64 r.tl] t (0, 0))) : w.heap[B]? = some (.cells #[.int .u64 r.fh, .int .u64 r.fl, .int .u64 r.th, .int .u64 r.tl] t (0, 0)) := h

set_option maxHeartbeats 8000000 in
set_option maxRecDepth 100000 in
theorem rsv_any (c : CF) (key : ByteArray) {w : World} (hc : c.Ok w) (hf : c.Fine) :
    Calls Tryz.prog 32 #[.agg (cfc c), .string key] w fun e w' => e = .returned (.tuple #[.agg (r4c (svR (svF c key)).1).toArray, .agg (r4c (svR (svF c key)).2).toArray]) ∧ Below w.heap.size w w' := by
  obtain ⟨A1, A2, hA⟩ : ∃ A1 A2, svR (svF c key) = (A1, A2) := ⟨_, _, rfl⟩
  rw [hA]
  have HA := Lib.hid hA
  clear hA
  have hbig := hc.s.big
  have HL := Lib.hid hc.s.len
  have HSs := Lib.hid (fun (W : World) (h : Below w.heap.size w W) => hc.s.keep h)
  have HF := Lib.hid hf
  clear hc hf
  obtain ⟨zA, zn, zc, zs, oA, on, oc, os, sA, sn, sc, ss, lA, ln, lc, ls, tA, tn, tc, ts, nA, nn, nc, ns, uA, un, uc, us, df⟩ := c
  simp only [cfc, svF, r4c] at *
  go_enter Tryz.func32, Tryz.ntmps32
  go_upto_region 1 with fail
  refine wp_genz fun W hW => ?_
  have b0 : Below w.heap.size w W := by rw [hW]; repeat (first | exact Below.refl _ _ | apply Below.dr | apply Below.al)
  have hC : W.cell? ⟨w.heap.size, 2, none⟩ = some (.slice sA sn sc) := by rw [hW]; simp [go_sem, World.cell?_alloc_past]
  have hR1 : W.heap[w.heap.size + 1]? = some (.cells #[.int .u64 0, .int .u64 0, .int .u64 0, .int .u64 0] 45 (0, 0)) := by rw [hW]; exact blk_al (al_new (by simp) _) _
  have hR2 : W.heap[w.heap.size + 1 + 1]? = some (.cells #[.int .u64 0, .int .u64 0, .int .u64 0, .int .u64 0] 45 (0, 0)) := by rw [hW]; exact al_new (by simp) _
  clear hW
  have kq := fun (a b : Int) (ha : a ≤ 9223372036854775807) (hb : b ≤ 9223372036854775807) (W : World) => rnum_c ha hb a b rfl rfl W
  have n1 := fun W => kq 0 255 (by omega) (by omega) W
  have n2 := fun W => kq 0 65535 (by omega) (by omega) W
  obtain ⟨q1, hq1⟩ : ∃ r, r = numR 0 255 := ⟨_, rfl⟩
  obtain ⟨q2, hq2⟩ : ∃ r, r = numR 0 65535 := ⟨_, rfl⟩
  rw [← hq1] at n1
  rw [← hq2] at n2
  have HQ := Lib.hid (And.intro hq1 hq2)
  clear hq1 hq2
  go_upto_region 2 with (go_at_call 33; go_loud (refine (n1 _).mono ?_; rintro e w1 ⟨rfl, b1⟩))
  have hP0 := heap_alloc_new w1 (.cells #[.int .u64 q1.fh, .int .u64 q1.fl, .int .u64 q1.th, .int .u64 q1.tl] 45)
  have hb1 := Below.al b1 (.cells #[.int .u64 q1.fh, .int .u64 q1.fl, .int .u64 q1.th, .int .u64 q1.tl] 45)
  have hPs := b1.size
  have hPl : w1.heap.size < (w1.alloc (.cells #[.int .u64 q1.fh, .int .u64 q1.fl, .int .u64 q1.th, .int .u64 q1.tl] 45)).heap.size := by simp
  generalize w1.alloc (.cells #[.int .u64 q1.fh, .int .u64 q1.fl, .int .u64 q1.th, .int .u64 q1.tl] 45) = x1 at *
  generalize w1.heap.size = P at *
  go_upto_region 3 with (go_at_call 33; go_loud (refine (n2 _).mono ?_; rintro e w2 ⟨rfl, b2⟩))
  have hQ0 := heap_alloc_new w2 (.cells #[.int .u64 q2.fh, .int .u64 q2.fl, .int .u64 q2.th, .int .u64 q2.tl] 45)
  have hP1 := blkB (Below.al b2 (.cells #[.int .u64 q2.fh, .int .u64 q2.fl, .int .u64 q2.th, .int .u64 q2.tl] 45)) hP0
  have hb2 := bel_via hb1 (Below.al b2 (.cells #[.int .u64 q2.fh, .int .u64 q2.fl, .int .u64 q2.th, .int .u64 q2.tl] 45))
  have hQs := b2.size
  generalize w2.alloc (.cells #[.int .u64 q2.fh, .int .u64 q2.fl, .int .u64 q2.th, .int .u64 q2.tl] 45) = x2 at *
  generalize w2.heap.size = Q at *
  have hPQ : P ≠ Q := by omega
  have hWP : W.heap.size ≤ P := by omega
  have hWQ : W.heap.size ≤ Q := by have := hb1.size; omega
  clear b1 b2 n1 n2 hP0 hb1 hPs hPl hQs
  have hCx := keepc hb2 hC
  go_wp2_with fail
  clear hCx
  go_loopw [8] (fun vi wr => ∃ (k : Nat) (a b : R4), k ≤ sn ∧ vi = .int .i64 (k : Int) ∧ Hid (svR ((ss.take k).find? fun s => eqs s.nm key) = (a, b)) ∧ wr.heap[P]? = some (.cells #[.int .u64 a.fh, .int .u64 a.fl, .int .u64 a.th, .int .u64 a.tl] 45 (0, 0)) ∧ wr.heap[Q]? = some (.cells #[.int .u64 b.fh, .int .u64 b.fl, .int .u64 b.th, .int .u64 b.tl] 45 (0, 0)) ∧ Below W.heap.size W wr) (fun vi _ => sn - (intOf vi).toNat)
  case atStart => exact ⟨0, q1, q2, by omega, rfl, Lib.hid (by simp [svR, HQ.out.1, HQ.out.2]), hP1, hQ0, hb2⟩
  case round =>
    clear hP1 hQ0 hb2
    obtain ⟨k, a, b, hk, rfl, HV, hP, hQ, br⟩ := hrel
    have cC := keepc br hC
    by_cases hlt : k < sn
    · have hlti : (k : Int) < (sn : Int) := by omega
      obtain ⟨bb, off, hAd, hblt, hrow⟩ := (HSs.out wr (bel_via b0 br)).row (by omega)
      obtain ⟨x, hx⟩ : ∃ x, ss[k]? = some x := ⟨_, List.getElem?_eq_getElem (by rw [HL.out]; omega)⟩
      have r0 := hrow k x hx 0 _ rfl
      rw [Nat.add_zero] at r0
      have r1 := hrow k x hx 1 _ rfl
      have r2 := hrow k x hx 2 _ rfl
      have r3 := hrow k x hx 3 _ rfl
      subst hAd
      have HX := Lib.hid hx
      obtain ⟨p0, p1, f0, f1, t1⟩ := HF.out.sp x (List.mem_of_getElem? hx)
      clear hrow hx
      have hal := fun o => Below.al (Below.refl _ wr) o
      have hPk := fun o => blkB (hal o) hP
      have hQk := fun o => blkB (hal o) hQ
      cases he : eqs x.nm key with
      | false =>
        have HV2 : Hid (svR ((ss.take (k + 1)).find? fun s => eqs s.nm key) = (a, b)) := Lib.hid (by rw [find_step HX.out he]; exact HV.out)
        have he1 : (x.nm.toList == key.toList) = false := he
        obtain ⟨nm, pr, fr, ti⟩ := x
        simp only at *
        clear he HV
        have hP2 := hPk (.cells #[.string nm, .int .i64 pr, .int .i64 fr, .int .i64 ti] 64)
        have hQ2 := hQk (.cells #[.string nm, .int .i64 pr, .int .i64 fr, .int .i64 ti] 64)
        have br2 := Below.al br (.cells #[.string nm, .int .i64 pr, .int .i64 fr, .int .i64 ti] 64)
        clear hPk hQk hal
        go_wp2_with fail
        go_roundw
        case rel => exact ⟨k + 1, a, b, by omega, by go_num, HV2, hP2, hQ2, br2⟩
        case measure => simp [intOf]; omega
      | true =>
        have hft := find_take (p := fun s : SR => eqs s.nm key) HX.out (fun j y hj hy => by
          rw [Bool.eq_false_iff]
          intro hy2
          have := HF.out.sq j k y x hj hy HX.out
          rw [Bool.eq_false_iff] at this
          refine this ((eqs_eq _ _).2 ?_)
          rw [(eqs_eq _ _).1 hy2, (eqs_eq _ _).1 he])
        rw [if_pos he] at hft
        have hab : a = q1 ∧ b = q2 := by
          have := HV.out
          rw [hft.1] at this
          simp only [svR, Prod.mk.injEq] at this
          exact ⟨by rw [← this.1, HQ.out.1], by rw [← this.2, HQ.out.2]⟩
        obtain ⟨rfl, rfl⟩ := hab
        have HN : Hid (svR ((ss.take (k + 1)).find? fun s => eqs s.nm key) = svR (some x)) := Lib.hid (by rw [hft.2])
        have he1 : (x.nm.toList == key.toList) = true := he
        have he2 : x.nm.toList = key.toList := (eqs_eq _ _).1 he
        obtain ⟨nm, pr, fr, ti⟩ := x
        simp only at *
        clear he HV hft he2
        have m2 := fun W => kq fr ti (by omega) (by omega) W
        obtain ⟨y2, hy2⟩ : ∃ r, r = numR fr ti := ⟨_, rfl⟩
        rw [← hy2] at m2
        obtain ⟨S, hSv⟩ : ∃ S, S = wr.heap.size := ⟨_, rfl⟩
        have hS0 := heap_alloc_new wr (.cells #[.string nm, .int .i64 pr, .int .i64 fr, .int .i64 ti] 64)
        have hP2 := hPk (.cells #[.string nm, .int .i64 pr, .int .i64 fr, .int .i64 ti] 64)
        have hQ2 := hQk (.cells #[.string nm, .int .i64 pr, .int .i64 fr, .int .i64 ti] 64)
        have br2 := Below.al br (.cells #[.string nm, .int .i64 pr, .int .i64 fr, .int .i64 ti] 64)
        have hSP : S ≠ P := by have := (Array.getElem?_eq_some_iff.1 hP).1; omega
        have hSQ : S ≠ Q := by have := (Array.getElem?_eq_some_iff.1 hQ).1; omega
        clear hPk hQk hal
        by_cases hp : pr = 0
        · subst hp
          have HY : Hid (svR ((ss.take (k + 1)).find? fun s => eqs s.nm key) = (a, y2)) := Lib.hid (by rw [HN.out, hy2]; simp [svR, HQ.out.1])
          clear hy2 HN
          go_upto_region 7 with fail
          generalize wr.alloc (.cells #[.string nm, .int .i64 0, .int .i64 fr, .int .i64 ti] 64) = x3 at *
          rw [← hSv] at hS0 ⊢
          clear hSv hP hQ
          obtain ⟨s0, s1, s2, s3, _, _, _, _⟩ := cells4 hS0
          go_upto_region 5 with (go_at_call 33; go_loud (refine (m2 _).mono ?_; rintro e w5 ⟨rfl, b5⟩; have hP5 := blkB b5 hP2; have hQ5 := blkB b5 hQ2; have br5 := bel_via br2 b5; obtain ⟨z0, z1, z2, z3, v0, v1, v2, v3⟩ := cells4 hQ5))
          have hQ6 := heap_set4 hQ5 (.int .u64 y2.fh) (.int .u64 y2.fl) (.int .u64 y2.th) (.int .u64 y2.tl)
          have hP6 := (bset_oth hPQ 0 1 2 3 (.int .u64 y2.fh) (.int .u64 y2.fl) (.int .u64 y2.th) (.int .u64 y2.tl)).trans hP5
          have br6 := bset_bel br5 hWQ 0 1 2 3 (.int .u64 y2.fh) (.int .u64 y2.fl) (.int .u64 y2.th) (.int .u64 y2.tl)
          clear z0 z1 z2 z3 v0 v1 v2 v3
          generalize (((w5.setCell ⟨Q, 0, none⟩ (.int .u64 y2.fh)).setCell ⟨Q, 1, none⟩ (.int .u64 y2.fl)).setCell ⟨Q, 2, none⟩ (.int .u64 y2.th)).setCell ⟨Q, 3, none⟩ (.int .u64 y2.tl) = x6 at *
          go_wp2_with fail
          go_roundw
          case rel => exact ⟨k + 1, a, y2, by omega, by go_num, HY, hP6, hQ6, br6⟩
          case measure => simp [intOf]; omega
        · have hpb : (pr == 0) = false := by simpa using hp
          have m1 := fun W => kq pr pr (by omega) (by omega) W
          obtain ⟨y1, hy1⟩ : ∃ r, r = numR pr pr := ⟨_, rfl⟩
          rw [← hy1] at m1
          have HY : Hid (svR ((ss.take (k + 1)).find? fun s => eqs s.nm key) = (y1, y2)) := Lib.hid (by rw [HN.out, hy2, hy1]; simp [svR, hp])
          clear hy2 HN hy1 hp
          go_upto_region 7 with fail
          generalize wr.alloc (.cells #[.string nm, .int .i64 pr, .int .i64 fr, .int .i64 ti] 64) = x3 at *
          rw [← hSv] at hS0 ⊢
          clear hSv hP hQ
          obtain ⟨s0, s1, s2, s3, _, _, _, _⟩ := cells4 hS0
          go_upto_region 10 with (go_at_call 33; go_loud (refine (m1 _).mono ?_; rintro e w4 ⟨rfl, b4⟩; have hP4 := blkB b4 hP2; have hQ4 := blkB b4 hQ2; have hS4 := blkB b4 hS0; have br4 := bel_via br2 b4; obtain ⟨z0, z1, z2, z3, v0, v1, v2, v3⟩ := cells4 hP4))
          have hP5 := heap_set4 hP4 (.int .u64 y1.fh) (.int .u64 y1.fl) (.int .u64 y1.th) (.int .u64 y1.tl)
          have hQ5 := (bset_oth hPQ.symm 0 1 2 3 (.int .u64 y1.fh) (.int .u64 y1.fl) (.int .u64 y1.th) (.int .u64 y1.tl)).trans hQ4
          have hS5 := (bset_oth hSP 0 1 2 3 (.int .u64 y1.fh) (.int .u64 y1.fl) (.int .u64 y1.th) (.int .u64 y1.tl)).trans hS4
          have br5 := bset_bel br4 hWP 0 1 2 3 (.int .u64 y1.fh) (.int .u64 y1.fl) (.int .u64 y1.th) (.int .u64 y1.tl)
          clear z0 z1 z2 z3 v0 v1 v2 v3 s0 s1 s2 s3
          generalize (((w4.setCell ⟨P, 0, none⟩ (.int .u64 y1.fh)).setCell ⟨P, 1, none⟩ (.int .u64 y1.fl)).setCell ⟨P, 2, none⟩ (.int .u64 y1.th)).setCell ⟨P, 3, none⟩ (.int .u64 y1.tl) = x5 at *
          obtain ⟨s0, s1, s2, s3, _, _, _, _⟩ := cells4 hS5
          go_upto_region 5 with (go_at_call 33; go_loud (refine (m2 _).mono ?_; rintro e w6 ⟨rfl, b6⟩; have hP6 := blkB b6 hP5; have hQ6 := blkB b6 hQ5; have br6 := bel_via br5 b6; obtain ⟨z0, z1, z2, z3, v0, v1, v2, v3⟩ := cells4 hQ6))
          have hQ7 := heap_set4 hQ6 (.int .u64 y2.fh) (.int .u64 y2.fl) (.int .u64 y2.th) (.int .u64 y2.tl)
          have hP7 := (bset_oth hPQ 0 1 2 3 (.int .u64 y2.fh) (.int .u64 y2.fl) (.int .u64 y2.th) (.int .u64 y2.tl)).trans hP6
          have br7 := bset_bel br6 hWQ 0 1 2 3 (.int .u64 y2.fh) (.int .u64 y2.fl) (.int .u64 y2.th) (.int .u64 y2.tl)
          clear z0 z1 z2 z3 v0 v1 v2 v3
          generalize (((w6.setCell ⟨Q, 0, none⟩ (.int .u64 y2.fh)).setCell ⟨Q, 1, none⟩ (.int .u64 y2.fl)).setCell ⟨Q, 2, none⟩ (.int .u64 y2.th)).setCell ⟨Q, 3, none⟩ (.int .u64 y2.tl) = x7 at *
          go_wp2_with fail
          go_roundw
          case rel => exact ⟨k + 1, y1, y2, by omega, by go_num, HY, hP7, hQ7, br7⟩
          case measure => simp [intOf]; omega
    · obtain rfl : k = sn := by omega
      have hfin : (a, b) = (A1, A2) := by rw [← HV.out, ← HA.out, List.take_of_length_le (by rw [HL.out]; omega)]
      simp only [Prod.mk.injEq] at hfin
      obtain ⟨rfl, rfl⟩ := hfin
      have hR1' := blkB br hR1
      have hR2' := blkB br hR2
      obtain ⟨z0, z1, z2, z3, _, _, _, _⟩ := cells4 hP
      obtain ⟨z4, z5, z6, z7, _, _, _, _⟩ := cells4 hQ
      obtain ⟨t0, t1, t2, t3, g0, g1, g2, g3⟩ := cells4 hR1'
      obtain ⟨t4, t5, t6, t7, g4, g5, g6, g7⟩ := cells4 hR2'
      have hRl := (Array.getElem?_eq_some_iff.1 hR2).1
      have n1 : Q ≠ w.heap.size + 1 := by omega
      have n2 : Q ≠ w.heap.size + 1 + 1 := by omega
      have n3 : P ≠ w.heap.size + 1 := by omega
      have n4 : P ≠ w.heap.size + 1 + 1 := by omega
      have n5 : w.heap.size + 1 ≠ Q := by omega
      have n6 : w.heap.size + 1 + 1 ≠ Q := by omega
      have n7 : w.heap.size + 1 ≠ P := by omega
      have n8 : w.heap.size + 1 + 1 ≠ P := by omega
      go_wp2_with fail
      go_region
      go_wp2_with fail
      have ne12 : w.heap.size + 1 ≠ w.heap.size + 1 + 1 := by omega
      have x1 := heap_set4 hR1' (.int .u64 a.fh) (.int .u64 a.fl) (.int .u64 a.th) (.int .u64 a.tl)
      have x2 := (bset_oth ne12.symm 0 1 2 3 (.int .u64 a.fh) (.int .u64 a.fl) (.int .u64 a.th) (.int .u64 a.tl)).trans hR2'
      have xb := bset_bel (bel_via b0 br) (B := w.heap.size + 1) (by omega) 0 1 2 3 (.int .u64 a.fh) (.int .u64 a.fl) (.int .u64 a.th) (.int .u64 a.tl)
      clear t0 t1 t2 t3 g0 g1 g2 g3 t4 t5 t6 t7 g4 g5 g6 g7 z0 z1 z2 z3 z4 z5 z6 z7
      generalize (((wr.setCell ⟨w.heap.size + 1, 0, none⟩ (.int .u64 a.fh)).setCell ⟨w.heap.size + 1, 1, none⟩ (.int .u64 a.fl)).setCell ⟨w.heap.size + 1, 2, none⟩ (.int .u64 a.th)).setCell ⟨w.heap.size + 1, 3, none⟩ (.int .u64 a.tl) = y1 at *
      have x3 := (bset_oth ne12 0 1 2 3 (.int .u64 b.fh) (.int .u64 b.fl) (.int .u64 b.th) (.int .u64 b.tl)).trans x1
      have x4 := heap_set4 x2 (.int .u64 b.fh) (.int .u64 b.fl) (.int .u64 b.th) (.int .u64 b.tl)
      have xc := bset_bel xb (B := w.heap.size + 1 + 1) (by omega) 0 1 2 3 (.int .u64 b.fh) (.int .u64 b.fl) (.int .u64 b.th) (.int .u64 b.tl)
      generalize (((y1.setCell ⟨w.heap.size + 1 + 1, 0, none⟩ (.int .u64 b.fh)).setCell ⟨w.heap.size + 1 + 1, 1, none⟩ (.int .u64 b.fl)).setCell ⟨w.heap.size + 1 + 1, 2, none⟩ (.int .u64 b.th)).setCell ⟨w.heap.size + 1 + 1, 3, none⟩ (.int .u64 b.tl) = y2 at *
      obtain ⟨f0, f1, f2, f3, _, _, _, _⟩ := cells4 x3
      obtain ⟨f4, f5, f6, f7, _, _, _, _⟩ := cells4 x4
      exact bodyPost_ret (v := .tuple #[.agg #[.int .u64 a.fh, .int .u64 a.fl, .int .u64 a.th, .int .u64 a.tl], .agg #[.int .u64 b.fh, .int .u64 b.fl, .int .u64 b.th, .int .u64 b.tl]]) (by simp [results, Tryz.results32, go_sem, f0, f1, f2, f3, f4, f5, f6, f7]) rfl ⟨rfl, Below.dr xc⟩
end Go.Proofs.YtmnnjkdmnfadhaaGreatDoor

namespace Go.Proofs.YtmnnjkdmnfadhaaGreatDoor
open Go.Shelf Go.RowKit Go.Lib Go.Sort
set_option linter.unusedVariables false
set_option linter.unusedSimpArgs false

theorem run_loadVar_cells {P : Program} (w : World) (ad : Addr) (ty : TypeId) (cs : Array Value) (d : TypeDesc) (hg : ∀ j v, cs.toList[j]? = some v → w.cell? (ad.add j) = some v)
    (hu : P.underlying ty = some d) (hd : (match d with | .struct _ | .array _ _ => true | _ => false) = true) (hi : (P.info? ty).map (·.size) = some cs.size) :
    (loadVar ty ad).run P w = .ok (.agg cs) w := by
  have hl : (loadCells ad cs.toList.length).run P w = .ok cs.toList.toArray w := run_loadCells_list (P := P) w ad cs.toList hg
  cases hq : P.info? ty with
  | none => simp [hq] at hi
  | some i =>
    have hs : i.size = cs.size := by simpa [hq] using hi
    have hagg : (isAgg ty).run P w = .ok true w := by
      unfold isAgg
      rw [Sem.run_bind, run_underlying hu w]
      cases d <;> simp_all
    simp only [Array.length_toList, Array.toArray_toList] at hl
    simp [loadVar, Sem.run_bind, hagg, sizeOf, typeInfo, hq, hs, hl]

theorem exec_cells {P : Program} {o : Oper} {a : Act} {W : World} (ty : TypeId) (x : Operand) (ho : o.op = .load ty x) (ad : Addr) (hx : a.eval x = .pointer (some ad)) (cs : Array Value) (d : TypeDesc) (hg : ∀ j v, cs.toList[j]? = some v → W.cell? (ad.add j) = some v)
    (hu : P.underlying ty = some d) (hd : (match d with | .struct _ | .array _ _ => true | _ => false) = true) (hi : (P.info? ty).map (·.size) = some cs.size) : (execOp a.eval o).run P W = .ok (.value (.agg cs)) W := by
  unfold execOp
  simp only [ho, hx, Instr.loadAt, Instr.sureAddr, Sem.run_bind, Sem.run_pure, Result.andThen_ok, run_loadVar_cells W ad ty cs d hg hu hd hi]

theorem wpList_load_cells {P : Program} {ops : Array Oper} {rest : List Oper} {o : Oper} {a : Act} {w : World} {Q : Exit → Act → World → Prop} (hgd : o.guard = none) (ty : TypeId) (x : Operand) (ho : o.op = .load ty x)
    (ad : Addr) (hx : a.eval x = .pointer (some ad)) (cs : Array Value) (d : TypeDesc) (hg : ∀ j v, cs.toList[j]? = some v → w.cell? (ad.add j) = some v)
    (hu : P.underlying ty = some d) (hd : (match d with | .struct _ | .array _ _ => true | _ => false) = true) (hi : (P.info? ty).map (·.size) = some cs.size)
    (h : wpList P ops Q rest (a.put o.dst (.agg cs)) w) : wpList P ops Q (o :: rest) a w :=
  wpList_plain hgd fun _ hK => by
    unfold Oper.wp
    rw [exec_cells ty x ho ad hx cs d hg hu hd hi]
    simp [go_sem]
    exact hK _ _ h

theorem run_en2 (b : Nat → R4) (i : Int) (w : World) : (Instr.build 50 #[(0, .agg (bxc b)), (1, .int .i64 i)]).run Tryz.prog w = .ok (.agg (enc25 ⟨b, i⟩).toArray) w := by kernel_rfl
/-- A step that only tells a value. -/
theorem wpList_pure {P : Program} {ops : Array Oper} {rest : List Oper} {o : Oper} {a : Act} {w : World} {Q : Exit → Act → World → Prop} (hgd : o.guard = none) (v : Value) (hrun : ∀ y : World, (execOp a.eval o).run P y = .ok (.value v) y)
    (h : wpList P ops Q rest (a.put o.dst v) w) : wpList P ops Q (o :: rest) a w :=
  wpList_plain hgd fun _ hK => by
    unfold Oper.wp
    rw [hrun]
    simp [go_sem]
    exact hK _ _ h
theorem exec_build2 {P : Program} {o : Oper} {a : Act} {y : World} (T : TypeId) (x1 x2 : Operand) (ho : o.op = .build T #[(0, x1), (1, x2)]) (v1 v2 : Value) (h1 : a.eval x1 = v1) (h2 : a.eval x2 = v2) {v : Value} (hr : (Instr.build T #[(0, v1), (1, v2)]).run P y = .ok v y) : (execOp a.eval o).run P y = .ok (.value v) y := by
  unfold execOp
  simp only [ho, List.map_toArray, List.map_cons, List.map_nil, h1, h2, Sem.run_bind, Sem.run_pure, Result.andThen_ok, hr]
def entsR (c : CF) : List EN × Int := if checkD c ≠ 0 then ([], checkD c) else if 1024 < (entsP c).length then ([], 90) else (entsP c, 0)
def EnPost (c : CF) (w : World) (e : Ending) (w' : World) : Prop := ∃ (A : Option Addr) (n cp : Nat), e = .returned (.tuple #[.slice A n cp, .int .i64 (entsR c).2]) ∧ Sl w' 25 enc25 A n (entsR c).1 ∧ Below w.heap.size w w'
def OwnE (w : World) (M : Nat) (v : Value) (n : Nat) (l : List EN) : Prop := w.ownsRow M 50 25 v n (l.flatMap enc25)
theorem ents_app (c : CF) : ∀ (l r : List UR) (i : Int), entsFrom c i (l ++ r) = entsFrom c i l ++ entsFrom c (i + l.length) r
  | [], r, i => by simp [entsFrom]
  | u :: l, r, i => by
    show (boxesP c u).map (fun b => (⟨b, i⟩ : EN)) ++ entsFrom c (i + 1) (l ++ r) = ((boxesP c u).map (fun b => (⟨b, i⟩ : EN)) ++ entsFrom c (i + 1) l) ++ entsFrom c (i + ((l.length + 1 : Nat) : Int)) r
    rw [ents_app c l r (i + 1), List.append_assoc, show i + 1 + (l.length : Int) = i + ((l.length + 1 : Nat) : Int) by push_cast; omega]
def Q1 (c : CF) (k : Nat) : List EN := entsFrom c 0 (c.us.take k)
def Q2 (c : CF) (k : Nat) (u : UR) (i : Nat) : List EN := Q1 c k ++ ((boxesP c u).take i).map fun b => ⟨b, (k : Int)⟩
theorem Q2_zero (c : CF) (k : Nat) (u : UR) : Q2 c k u 0 = Q1 c k := by simp [Q2]
theorem Q2_step {c : CF} {k : Nat} {u : UR} {i : Nat} {b : Nat → R4} (h : (boxesP c u)[i]? = some b) : Q2 c k u (i + 1) = Q2 c k u i ++ [⟨b, (k : Int)⟩] := by
  unfold Q2
  rw [take_snocL h, List.map_append, List.map_cons, List.map_nil, List.append_assoc]
theorem Q1_step {c : CF} {k : Nat} {u : UR} (h : c.us[k]? = some u) {i : Nat} (hi : (boxesP c u).length ≤ i) : Q2 c k u i = Q1 c (k + 1) := by
  unfold Q2 Q1
  have hk : (c.us.take k).length = k := by have := getE h; simp; omega
  rw [take_snocL h, ents_app, List.take_of_length_le hi, hk]
  simp [entsFrom]
theorem Q1_all {c : CF} {k : Nat} (hk : c.us.length ≤ k) : Q1 c k = entsP c := by unfold Q1 entsP; rw [List.take_of_length_le hk]
theorem Q1_le (c : CF) (k : Nat) : (Q1 c k).length ≤ (entsP c).length := by
  have h := ents_app c (c.us.take k) (c.us.drop k) 0
  rw [List.take_append_drop] at h
  unfold Q1 entsP
  rw [h, List.length_append]; omega
theorem boxesP_len {c : CF} (hf : c.Fine) (u : UR) : (boxesP c u).length ≤ 1024 := by
  have l1 := adR_len hf u.src
  have l2 := adR_len hf u.dst
  have l3 := znR_len (zIx c u.inz) (zIx c u.out)
  unfold boxesP
  have flen : ∀ {β : Type} (l : List R4) (g : R4 → List β) (m : Nat), (∀ z, (g z).length ≤ m) → (l.flatMap g).length ≤ l.length * m := by
    intro β l g m hg
    induction l with
    | nil => simp
    | cons a r ih =>
      rw [List.flatMap_cons, List.length_append, List.length_cons, Nat.add_mul, Nat.one_mul]
      have := hg a
      omega
  refine Nat.le_trans (flen _ _ 64 (fun z => ?_)) (by omega)
  refine Nat.le_trans (flen _ _ 8 (fun a => ?_)) (by omega)
  rw [List.length_map]; exact l2
theorem en_len {w : World} {M n : Nat} {v : Value} {l : List EN} (h : OwnE w M v n l) : l.length = n := by
  have h1 : (l.flatMap enc25).length = n * 25 := h.1
  have h2 : ∀ l : List EN, (l.flatMap enc25).length = l.length * 25 := by
    intro l
    induction l with
    | nil => rfl
    | cons a r ih => rw [List.flatMap_cons, List.length_append, ih]; show 25 + r.length * 25 = (r.length + 1) * 25; omega
  rw [h2] at h1
  omega
theorem en_at {w : World} {base n : Nat} {v : Value} {l : List EN} (h : OwnE w base v n l) : ∃ A cap, v = .slice A n cap ∧ Sl w 25 enc25 A n l := by
  obtain ⟨A, cap, rfl, hS, _⟩ := sl_of_own (enc := enc25) (fun _ => rfl) h (en_len h)
  exact ⟨A, cap, rfl, hS⟩
theorem bx_cells {w : World} {b off i : Nat} {l : List (Nat → R4)} {x : Nat → R4} (h : ∀ j y, l[j]? = some y → ∀ t v, (ebx y)[t]? = some v → w.cell? ⟨b, off + j * 24 + t, none⟩ = some v) (hx : l[i]? = some x) :
    ∀ j v, (bxc x).toList[j]? = some v → w.cell? ((⟨b, off + i * 24, none⟩ : Addr).add j) = some v := by
  intro j v hj
  have := h i x hx j v hj
  have e : (⟨b, off + i * 24, none⟩ : Addr).add j = ⟨b, off + i * 24 + j, none⟩ := by unfold Addr.add; split <;> simp_all
  rw [e]; exact this
theorem sl_nil25 (w : World) : Sl w 25 enc25 none 0 [] := ⟨rfl, by omega, fun h => absurd h (Nat.lt_irrefl _)⟩

set_option maxHeartbeats 16000000 in
set_option maxRecDepth 100000 in
theorem pents_any (c : CF) {w : World} (hc : c.Ok w) (hg : c.Good) (hG : Glob w) :
    Calls Tryz.prog 9 #[.agg (cfc c)] w (EnPost c w) := by
  have kc : ∀ W, Below w.heap.size w W → Calls Tryz.prog 6 #[.agg (cfc c)] W fun e w' => e = .returned (.int .i64 (checkD c)) ∧ Below W.heap.size W w' := fun W h => pchk_any c (hc.keep h) hg (hG.on h)
  have iC : Hid ((Tryz.prog.info? 30).map (·.size) = some (cfc c).size) := Lib.hid (by rw [show (cfc c).size = 8 from rfl]; kernel_rfl)
  obtain ⟨C, hC⟩ : ∃ C, cfc c = C := ⟨_, rfl⟩
  rw [hC] at kc iC ⊢
  have HC := Lib.hid hC
  clear hC
  have HOk := Lib.hid hc
  go_enter Tryz.func9, Tryz.ntmps9
  go_wp2_with (refine wpList_load_row rfl 30 (.tmp 1) rfl w.heap.size rfl 30 C (0, 0) _ (heap_alloc_new w _) Tryz.underlying30 rfl iC.out ?_)
  have b0 : Below w.heap.size w (w.alloc (.cells C 30)) := Below.al (Below.refl _ _) _
  have hB := heap_alloc_new w (.cells C 30)
  generalize w.alloc (.cells C 30) = w0 at *
  refine (kc _ b0).mono ?_
  rintro e w1 ⟨rfl, hb1⟩
  have b1 := bel_via b0 hb1
  have hB1 := blkB hb1 hB
  clear kc hb1 hB b0
  by_cases h0 : checkD c = 0
  · have hf := fine_of hc h0
    have hent : Hid (entsR c = if 1024 < (entsP c).length then ([], 90) else (entsP c, 0)) := Lib.hid (by unfold entsR; rw [if_neg (by simpa using h0)])
    rw [h0]
    have kb : ∀ (u : UR), u ∈ c.us → ∀ W, Below w.heap.size w W → Calls Tryz.prog 29 #[.agg C, .agg (urc u).toArray] W (BxPost W (boxesP c u)) := fun u hu W h => by rw [← HC.out]; exact boxes_any c u (hc.keep h) hf (hf.ru u hu)
    have hul := hf.ul
    have HF := Lib.hid hf
    have HUl := Lib.hid hc.u.len
    have hub := hc.u.big
    have hcell : ∀ W, Below w.heap.size w W → W.heap[w.heap.size]? = some (.cells C 30 (0, 0)) → W.cell? ⟨w.heap.size, 6, none⟩ = some (.slice c.uA c.un c.uc) := fun W h hh => by simp [World.cell?, hh, ← HC.out, cfc]
    have y6 := hcell w1 b1 hB1
    have hun : c.un ≤ 48 := hf.un
    clear h0 hf hcell
    go_wp2_with fail
    go_loopw [5, 18] (fun v5 v18 wr => ∃ (k n : Nat), k ≤ c.un ∧ v18 = .int .i64 (k : Int) ∧ OwnE wr w1.heap.size v5 n (Q1 c k) ∧ n ≤ 1024 ∧ Below w1.heap.size w1 wr) (fun _ v18 _ => c.un - (intOf v18).toNat)
    case atStart => exact ⟨0, 0, by omega, rfl, by show World.ownsRow _ _ _ _ _ _ _; simp [Q1, entsFrom]; exact own_nil (α := EN) (enc := enc25) _ _, by omega, Below.refl _ _⟩
    case round =>
      obtain ⟨k, n, hk, rfl, HO, hn, br⟩ := hrel
      by_cases hlt : k < c.un
      · have hlti : (k : Int) < (c.un : Int) := by omega
        obtain ⟨bb, off, hA, hblt, hrow⟩ := (HOk.out.u.keep (bel_via b1 br)).row (by omega)
        obtain ⟨u, hu⟩ : ∃ u, c.us[k]? = some u := ⟨_, List.getElem?_eq_getElem (by rw [HUl.out]; omega)⟩
        have r0 := hrow k u hu 0 _ rfl
        rw [Nat.add_zero] at r0
        have r1 := hrow k u hu 1 _ rfl
        have r2 := hrow k u hu 2 _ rfl
        have r3 := hrow k u hu 3 _ rfl
        have r4 := hrow k u hu 4 _ rfl
        have r5 := hrow k u hu 5 _ rfl
        have r6 := hrow k u hu 6 _ rfl
        have r7 := hrow k u hu 7 _ rfl
        have HUx := Lib.hid hu
        have hBr := blkB br hB1
        have kbu := kb u (List.mem_of_getElem? hu)
        have hbl := boxesP_len HF.out u
        rw [hA]
        have hal := Below.al (Below.refl _ wr) (.cells (urc u).toArray 70)
        have hUn := heap_alloc_new wr (.cells (urc u).toArray 70)
        have hBn := blkB hal hBr
        have HOn : OwnE (wr.alloc (.cells (urc u).toArray 70)) w1.heap.size u5 n (Q1 c k) := own_keep HO hal
        have bn := bel_via br hal
        clear hrow hu HO hBr hal
        obtain ⟨inz, out, src, dst, svc, act, lim, proxy⟩ := u
        simp only [urc] at r0 r1 r2 r3 r4 r5 r6 r7 hUn hBn HOn bn kbu ⊢
        go_upto_region 8 with fail
        generalize World.alloc wr (.cells #[.string inz, .string out, .string src, .string dst, .string svc, .int .i64 act, .string lim, .bool proxy] 70) = y2 at *
        generalize hRb : wr.heap.size = Rb at *
        clear hRb
        have iU : Hid ((Tryz.prog.info? 70).map (·.size) = some (#[.string inz, .string out, .string src, .string dst, .string svc, .int .i64 act, .string lim, .bool proxy] : Array Value).size) := Lib.hid (by rw [show (#[.string inz, .string out, .string src, .string dst, .string svc, .int .i64 act, .string lim, .bool proxy] : Array Value).size = 8 from rfl]; kernel_rfl)
        obtain ⟨L, hL⟩ : ∃ L, boxesP c ⟨inz, out, src, dst, svc, act, lim, proxy⟩ = L := ⟨_, rfl⟩
        rw [hL] at kbu hbl
        have HLL := Lib.hid hL
        clear hL
        go_wp2_with (first
          | (refine wpList_load_row rfl 30 (.tmp 1) rfl w.heap.size rfl 30 C (0, 0) _ hBn Tryz.underlying30 rfl iC.out ?_)
          | (refine wpList_load_row rfl 70 (.tmp 7) rfl Rb rfl 70 #[.string inz, .string out, .string src, .string dst, .string svc, .int .i64 act, .string lim, .bool proxy] (0, 0) _ hUn Tryz.underlying70 rfl iU.out ?_)
          | (go_at_call 29; go_loud ((refine (kbu _ (bel_via b1 bn)).mono ?_); rintro e w3 ⟨A3, n3, e3, rfl, S3, b3, p3⟩)))
        try simp only [Act.put, List.setIfInBounds_toArray, List.set_cons_succ, List.set_cons_zero]
        have HO3 : OwnE w3 w1.heap.size u5 n (Q1 c k) := own_keep HOn b3
        have bw3 := bel_via bn b3
        have hn3 := S3.len
        have hn3' : n3 ≤ 1024 := by omega
        have hM3 : w1.heap.size ≤ w3.heap.size := bw3.size
        have hne : Hid (0 < n3 → ∀ (b off : Nat) (sp : Option Nat), A3 = some ⟨b, off, sp⟩ → ¬ u5.ownBlock = some b) := Lib.hid (fun h b off sp e he => by
          have h1 := p3 h b off sp e
          have h2 := (World.ownsRow.lt HOn b he).2
          omega)
        have HN3 := Lib.hid hn3
        have HS3 := Lib.hid S3
        clear hn3 S3 p3 b3 bn hUn hBn HOn kbu hbl r0 r1 r2 r3 r4 r5 r6 r7
        obtain ⟨vA, hvA⟩ : ∃ vA, vA = u5 := ⟨_, rfl⟩
        subst hvA
        go_loopw [5, 27] (fun v5 v27 wr => ∃ (i m : Nat), i ≤ n3 ∧ v27 = .int .i64 (i : Int) ∧ OwnE wr w1.heap.size v5 m (Q2 c k ⟨inz, out, src, dst, svc, act, lim, proxy⟩ i) ∧ m ≤ n + i ∧ Hid (OffE (fun q => vA.ownBlock = some q) w3.heap.size w3 wr ∧ OwnOk (fun q => vA.ownBlock = some q) w3.heap.size v5) ∧ Below w1.heap.size w1 wr) (fun _ v27 _ => n3 - (intOf v27).toNat)
        case atStart => exact ⟨0, n, by omega, rfl, by rw [Q2_zero]; exact HO3, by omega, Lib.hid ⟨OffE.refl _ _, fun q hq => .inl hq⟩, bw3⟩
        case round =>
          clear HO3 bw3
          obtain ⟨i, m, hi, rfl, HO5, hm, HFK, br5⟩ := hrel
          by_cases hlt2 : i < n3
          · have hlti2 : (i : Int) < (n3 : Int) := by omega
            obtain ⟨b4, off4, hA4, hblt4, hrow4⟩ := (HS3.out.offE HFK.out.1 hne.out).row (by omega)
            obtain ⟨x, hx⟩ : ∃ x, L[i]? = some x := ⟨_, List.getElem?_eq_getElem (by rw [HN3.out]; omega)⟩
            have hcs := Lib.hid (bx_cells hrow4 hx)
            subst hA4
            have HX := Lib.hid hx
            clear hrow4 hx
            obtain ⟨V, hV⟩ : ∃ V, bxc x = V := ⟨_, rfl⟩
            obtain ⟨D, hD⟩ : ∃ D, (enc25 ⟨x, (k : Int)⟩).toArray = D := ⟨_, rfl⟩
            rw [hV] at hcs
            have iV : Hid ((Tryz.prog.info? 48).map (·.size) = some V.size) := Lib.hid (by rw [← hV]; exact inf29 _)
            have zV : Hid ((#[.int .u64 0, .int .u64 0, .int .u64 0, .int .u64 0, .int .u64 0, .int .u64 0, .int .u64 0, .int .u64 0, .int .u64 0, .int .u64 0, .int .u64 0, .int .u64 0, .int .u64 0, .int .u64 0, .int .u64 0, .int .u64 0, .int .u64 0, .int .u64 0, .int .u64 0, .int .u64 0, .int .u64 0, .int .u64 0, .int .u64 0, .int .u64 0] : Array Value).size = V.size) := Lib.hid (by rw [← hV]; rfl)
            have oV : Hid (V.all (·.oneCell') = true) := Lib.hid (by rw [← hV]; exact bx_one _)
            have hbd : Hid (∀ y : World, (Instr.build 50 #[(0, .agg V), (1, .int .i64 (k : Int))]).run Tryz.prog y = .ok (.agg D) y) := Lib.hid (by rw [← hV, ← hD]; exact fun y => run_en2 x _ y)
            have hbs : Hid (∀ y : World, (Instr.buildSlice 41 1 #[(0, .agg D)]).run Tryz.prog y = .ok (.slice (some ⟨y.heap.size, 0, none⟩) 1 1) (y.alloc (.cells (enc25 ⟨x, (k : Int)⟩).toArray 50))) := Lib.hid (by rw [← hD]; exact fun y => run_be _ y)
            have bal := Below.al (Below.refl _ wr) (.cells V 48)
            have hVn := heap_alloc_new wr (.cells V 48)
            have HO6 : Hid ((wr.alloc (.cells V 48)).ownsRow w1.heap.size 50 25 u5 m ((Q2 c k ⟨inz, out, src, dst, svc, act, lim, proxy⟩ i).flatMap enc25)) := Lib.hid (own_keep HO5 bal)
            have HF6 := Lib.hid (HFK.out.1.al (.cells V 48))
            have HK6 := Lib.hid HFK.out.2
            have br6 := bel_via br5 bal
            have hsz6 := br6.size
            clear HO5 HFK br5 bal hV hD
            go_upto_region 11 with (first
              | (refine wpList_store_row rfl 48 (.tmp 9) (.tmp 30) rfl wr.heap.size V rfl rfl 48 #[.int .u64 0, .int .u64 0, .int .u64 0, .int .u64 0, .int .u64 0, .int .u64 0, .int .u64 0, .int .u64 0, .int .u64 0, .int .u64 0, .int .u64 0, .int .u64 0, .int .u64 0, .int .u64 0, .int .u64 0, .int .u64 0, .int .u64 0, .int .u64 0, .int .u64 0, .int .u64 0, .int .u64 0, .int .u64 0, .int .u64 0, .int .u64 0] (heap_alloc_new wr _) iV.out zV.out oV.out ?_; rw [World.setRow_alloc_new])
              | (refine wpList_load_cells rfl 48 (.tmp 29) rfl ⟨b4, off4 + i * 24, none⟩ rfl V _ hcs.out Tryz.underlying48 rfl iV.out ?_))
            generalize wr.alloc (.cells V 48) = y6 at *
            generalize hBv : wr.heap.size = Bv at *
            clear hBv
            go_wp2_with (refine wpList_load_row rfl 48 (.tmp 9) rfl Bv rfl 48 V (0, 0) _ hVn Tryz.underlying48 rfl iV.out ?_; refine Hid.out ?_)
            refine Lib.hid ?_
            refine wpList_pure rfl (.int .i64 (k : Int)) (fun _ => rfl) ?_
            refine wpList_pure rfl (.agg D) (fun y => exec_build2 50 (.tmp 32) (.tmp 33) rfl (.agg V) (.int .i64 (k : Int)) rfl rfl (hbd.out y)) ?_
            refine wpList_b1 rfl 50 41 (.tmp 34) _ (enc25 ⟨x, (k : Int)⟩).toArray rfl rfl hbs.out ?_
            go_wp2_with (at_builtin; go_loud (refine app_off ent_ty rfl _ _ rfl w1.heap.size u5 m (Q2 c k ⟨inz, out, src, dst, svc, act, lim, proxy⟩ i) rfl HO6.out ⟨x, (k : Int)⟩ rfl (by omega) (by omega) hsz6 ?_))
            intro v' w' hown' hoff' hbel' hsz'
            have hk2 := Lib.hid (hoff' _ _ _ HF6.out HK6.out)
            have b7 := hbel' _ _ br6 (Nat.le_refl _)
            have HO7 : OwnE w' w1.heap.size v' (m + 1) (Q2 c k ⟨inz, out, src, dst, svc, act, lim, proxy⟩ (i + 1)) := by
              unfold OwnE
              rw [Q2_step (by rw [HLL.out]; exact HX.out), List.flatMap_append, List.flatMap_cons, List.flatMap_nil, List.append_nil]
              simpa using hown'
            clear hown' hoff' hbel' hVn
            go_wp2_with fail
            go_roundw
            case rel => exact ⟨i + 1, m + 1, by omega, by go_num, HO7, by omega, hk2, b7⟩
            case measure => simp [intOf]; omega
          · obtain rfl : i = n3 := by omega
            have HP := Q1_step (c := c) (u := ⟨inz, out, src, dst, svc, act, lim, proxy⟩) HUx.out (i := i) (by rw [HLL.out, HN3.out]; omega)
            rw [HP] at HO5
            have hl := en_len HO5
            have hle := Q1_le c (k + 1)
            obtain ⟨A, cap, hv5, hS5⟩ := en_at HO5
            subst hv5
            have HO5 := Lib.hid HO5
            clear HP HFK
            by_cases hbig : 1024 < m
            · have hbigi : (1024 : Int) < (m : Int) := by omega
              have hres : Hid (entsR c = ([], 90)) := Lib.hid (by rw [hent.out, if_pos (by omega)])
              clear hl hle
              go_wp2_with fail
              go_ret2
              exact ⟨none, 0, 0, by rw [hres.out]; rfl, by rw [hres.out]; exact sl_nil25 _, bel_via b1 br5⟩
            · have hbigi : ¬ (1024 : Int) < (m : Int) := by omega
              clear hl hle hS5
              go_wp2_with fail
              go_roundw
              case rel => exact ⟨k + 1, m, by omega, by go_num, HO5.out, by omega, br5⟩
              case measure => simp [intOf]; omega
      · obtain rfl : k = c.un := by omega
        have hq : Q1 c c.un = entsP c := Q1_all (by rw [HUl.out]; omega)
        rw [hq] at HO
        have hl := en_len HO
        obtain ⟨A, cap, rfl, hS⟩ := en_at HO
        have hres : Hid (entsR c = (entsP c, 0)) := Lib.hid (by rw [hent.out, if_neg (by omega)])
        clear HO hq
        go_wp2_with fail
        go_ret2
        exact ⟨A, n, cap, by rw [hres.out]; rfl, by rw [hres.out]; exact hS, bel_via b1 br⟩
  · have h0b : (checkD c == 0) = false := by simpa using h0
    have hent : Hid (entsR c = ([], checkD c)) := Lib.hid (by unfold entsR; rw [if_pos h0])
    clear h0
    go_wp2_with fail
    go_ret2
    exact ⟨none, 0, 0, by rw [hent.out]; rfl, by rw [hent.out]; exact sl_nil25 _, b1⟩
end Go.Proofs.YtmnnjkdmnfadhaaGreatDoor

namespace Go.Proofs.YtmnnjkdmnfadhaaGreatDoor
open Go.Shelf Go.RowKit Go.Lib Go.Sort
set_option linter.unusedVariables false
set_option linter.unusedSimpArgs false

theorem exk0 {w : World} {B : Nat} {b : Nat → R4} {r : Int} {t : TypeId} (h : w.heap[B]? = some (.cells (enc25 ⟨b, r⟩).toArray t (0, 0))) : w.cell? ⟨B, 0, none⟩ = some (.int .u64 (b 0).fh) ∧ w.cell? ⟨B, 1, none⟩ = some (.int .u64 (b 0).fl) ∧ w.cell? ⟨B, 2, none⟩ = some (.int .u64 (b 0).th) ∧ w.cell? ⟨B, 3, none⟩ = some (.int .u64 (b 0).tl) ∧ w.frozen? ⟨B, 0, none⟩ = false ∧ w.frozen? ⟨B, 1, none⟩ = false ∧ w.frozen? ⟨B, 2, none⟩ = false ∧ w.frozen? ⟨B, 3, none⟩ = false := by
  have f := fun o => show w.frozen? ⟨B, o, none⟩ = false by simp [World.frozen?, h]
  unfold enc25 bxc at h
  exact ⟨by simp [World.cell?, h], by simp [World.cell?, h], by simp [World.cell?, h], by simp [World.cell?, h], f _, f _, f _, f _⟩
theorem exs0 (b : Nat → R4) (q : Int) (r : R4) : (((((enc25 ⟨b, q⟩).toArray.setIfInBounds 0 (.int .u64 r.fh)).setIfInBounds 1 (.int .u64 r.fl)).setIfInBounds 2 (.int .u64 r.th)).setIfInBounds 3 (.int .u64 r.tl)) = (enc25 ⟨upd b 0 r, q⟩).toArray := by kernel_rfl
theorem esk0 {w : World} {B : Nat} {b : Nat → R4} {q : Int} {t : TypeId} (h : w.heap[B]? = some (.cells (enc25 ⟨b, q⟩).toArray t (0, 0))) (r : R4) : ((((w.setCell ⟨B, 0, none⟩ (.int .u64 r.fh)).setCell ⟨B, 1, none⟩ (.int .u64 r.fl)).setCell ⟨B, 2, none⟩ (.int .u64 r.th)).setCell ⟨B, 3, none⟩ (.int .u64 r.tl)).heap[B]? = some (.cells (enc25 ⟨upd b 0 r, q⟩).toArray t (0, 0)) := by
  rw [← exs0 b q r]
  simp [World.setCell, Array.getElem?_modify, h]
theorem exk1 {w : World} {B : Nat} {b : Nat → R4} {r : Int} {t : TypeId} (h : w.heap[B]? = some (.cells (enc25 ⟨b, r⟩).toArray t (0, 0))) : w.cell? ⟨B, 4, none⟩ = some (.int .u64 (b 1).fh) ∧ w.cell? ⟨B, 5, none⟩ = some (.int .u64 (b 1).fl) ∧ w.cell? ⟨B, 6, none⟩ = some (.int .u64 (b 1).th) ∧ w.cell? ⟨B, 7, none⟩ = some (.int .u64 (b 1).tl) ∧ w.frozen? ⟨B, 4, none⟩ = false ∧ w.frozen? ⟨B, 5, none⟩ = false ∧ w.frozen? ⟨B, 6, none⟩ = false ∧ w.frozen? ⟨B, 7, none⟩ = false := by
  have f := fun o => show w.frozen? ⟨B, o, none⟩ = false by simp [World.frozen?, h]
  unfold enc25 bxc at h
  exact ⟨by simp [World.cell?, h], by simp [World.cell?, h], by simp [World.cell?, h], by simp [World.cell?, h], f _, f _, f _, f _⟩
theorem exs1 (b : Nat → R4) (q : Int) (r : R4) : (((((enc25 ⟨b, q⟩).toArray.setIfInBounds 4 (.int .u64 r.fh)).setIfInBounds 5 (.int .u64 r.fl)).setIfInBounds 6 (.int .u64 r.th)).setIfInBounds 7 (.int .u64 r.tl)) = (enc25 ⟨upd b 1 r, q⟩).toArray := by kernel_rfl
theorem esk1 {w : World} {B : Nat} {b : Nat → R4} {q : Int} {t : TypeId} (h : w.heap[B]? = some (.cells (enc25 ⟨b, q⟩).toArray t (0, 0))) (r : R4) : ((((w.setCell ⟨B, 4, none⟩ (.int .u64 r.fh)).setCell ⟨B, 5, none⟩ (.int .u64 r.fl)).setCell ⟨B, 6, none⟩ (.int .u64 r.th)).setCell ⟨B, 7, none⟩ (.int .u64 r.tl)).heap[B]? = some (.cells (enc25 ⟨upd b 1 r, q⟩).toArray t (0, 0)) := by
  rw [← exs1 b q r]
  simp [World.setCell, Array.getElem?_modify, h]
theorem exk2 {w : World} {B : Nat} {b : Nat → R4} {r : Int} {t : TypeId} (h : w.heap[B]? = some (.cells (enc25 ⟨b, r⟩).toArray t (0, 0))) : w.cell? ⟨B, 8, none⟩ = some (.int .u64 (b 2).fh) ∧ w.cell? ⟨B, 9, none⟩ = some (.int .u64 (b 2).fl) ∧ w.cell? ⟨B, 10, none⟩ = some (.int .u64 (b 2).th) ∧ w.cell? ⟨B, 11, none⟩ = some (.int .u64 (b 2).tl) ∧ w.frozen? ⟨B, 8, none⟩ = false ∧ w.frozen? ⟨B, 9, none⟩ = false ∧ w.frozen? ⟨B, 10, none⟩ = false ∧ w.frozen? ⟨B, 11, none⟩ = false := by
  have f := fun o => show w.frozen? ⟨B, o, none⟩ = false by simp [World.frozen?, h]
  unfold enc25 bxc at h
  exact ⟨by simp [World.cell?, h], by simp [World.cell?, h], by simp [World.cell?, h], by simp [World.cell?, h], f _, f _, f _, f _⟩
theorem exs2 (b : Nat → R4) (q : Int) (r : R4) : (((((enc25 ⟨b, q⟩).toArray.setIfInBounds 8 (.int .u64 r.fh)).setIfInBounds 9 (.int .u64 r.fl)).setIfInBounds 10 (.int .u64 r.th)).setIfInBounds 11 (.int .u64 r.tl)) = (enc25 ⟨upd b 2 r, q⟩).toArray := by kernel_rfl
theorem esk2 {w : World} {B : Nat} {b : Nat → R4} {q : Int} {t : TypeId} (h : w.heap[B]? = some (.cells (enc25 ⟨b, q⟩).toArray t (0, 0))) (r : R4) : ((((w.setCell ⟨B, 8, none⟩ (.int .u64 r.fh)).setCell ⟨B, 9, none⟩ (.int .u64 r.fl)).setCell ⟨B, 10, none⟩ (.int .u64 r.th)).setCell ⟨B, 11, none⟩ (.int .u64 r.tl)).heap[B]? = some (.cells (enc25 ⟨upd b 2 r, q⟩).toArray t (0, 0)) := by
  rw [← exs2 b q r]
  simp [World.setCell, Array.getElem?_modify, h]
theorem exk3 {w : World} {B : Nat} {b : Nat → R4} {r : Int} {t : TypeId} (h : w.heap[B]? = some (.cells (enc25 ⟨b, r⟩).toArray t (0, 0))) : w.cell? ⟨B, 12, none⟩ = some (.int .u64 (b 3).fh) ∧ w.cell? ⟨B, 13, none⟩ = some (.int .u64 (b 3).fl) ∧ w.cell? ⟨B, 14, none⟩ = some (.int .u64 (b 3).th) ∧ w.cell? ⟨B, 15, none⟩ = some (.int .u64 (b 3).tl) ∧ w.frozen? ⟨B, 12, none⟩ = false ∧ w.frozen? ⟨B, 13, none⟩ = false ∧ w.frozen? ⟨B, 14, none⟩ = false ∧ w.frozen? ⟨B, 15, none⟩ = false := by
  have f := fun o => show w.frozen? ⟨B, o, none⟩ = false by simp [World.frozen?, h]
  unfold enc25 bxc at h
  exact ⟨by simp [World.cell?, h], by simp [World.cell?, h], by simp [World.cell?, h], by simp [World.cell?, h], f _, f _, f _, f _⟩
theorem exs3 (b : Nat → R4) (q : Int) (r : R4) : (((((enc25 ⟨b, q⟩).toArray.setIfInBounds 12 (.int .u64 r.fh)).setIfInBounds 13 (.int .u64 r.fl)).setIfInBounds 14 (.int .u64 r.th)).setIfInBounds 15 (.int .u64 r.tl)) = (enc25 ⟨upd b 3 r, q⟩).toArray := by kernel_rfl
theorem esk3 {w : World} {B : Nat} {b : Nat → R4} {q : Int} {t : TypeId} (h : w.heap[B]? = some (.cells (enc25 ⟨b, q⟩).toArray t (0, 0))) (r : R4) : ((((w.setCell ⟨B, 12, none⟩ (.int .u64 r.fh)).setCell ⟨B, 13, none⟩ (.int .u64 r.fl)).setCell ⟨B, 14, none⟩ (.int .u64 r.th)).setCell ⟨B, 15, none⟩ (.int .u64 r.tl)).heap[B]? = some (.cells (enc25 ⟨upd b 3 r, q⟩).toArray t (0, 0)) := by
  rw [← exs3 b q r]
  simp [World.setCell, Array.getElem?_modify, h]
theorem exk4 {w : World} {B : Nat} {b : Nat → R4} {r : Int} {t : TypeId} (h : w.heap[B]? = some (.cells (enc25 ⟨b, r⟩).toArray t (0, 0))) : w.cell? ⟨B, 16, none⟩ = some (.int .u64 (b 4).fh) ∧ w.cell? ⟨B, 17, none⟩ = some (.int .u64 (b 4).fl) ∧ w.cell? ⟨B, 18, none⟩ = some (.int .u64 (b 4).th) ∧ w.cell? ⟨B, 19, none⟩ = some (.int .u64 (b 4).tl) ∧ w.frozen? ⟨B, 16, none⟩ = false ∧ w.frozen? ⟨B, 17, none⟩ = false ∧ w.frozen? ⟨B, 18, none⟩ = false ∧ w.frozen? ⟨B, 19, none⟩ = false := by
  have f := fun o => show w.frozen? ⟨B, o, none⟩ = false by simp [World.frozen?, h]
  unfold enc25 bxc at h
  exact ⟨by simp [World.cell?, h], by simp [World.cell?, h], by simp [World.cell?, h], by simp [World.cell?, h], f _, f _, f _, f _⟩
theorem exs4 (b : Nat → R4) (q : Int) (r : R4) : (((((enc25 ⟨b, q⟩).toArray.setIfInBounds 16 (.int .u64 r.fh)).setIfInBounds 17 (.int .u64 r.fl)).setIfInBounds 18 (.int .u64 r.th)).setIfInBounds 19 (.int .u64 r.tl)) = (enc25 ⟨upd b 4 r, q⟩).toArray := by kernel_rfl
theorem esk4 {w : World} {B : Nat} {b : Nat → R4} {q : Int} {t : TypeId} (h : w.heap[B]? = some (.cells (enc25 ⟨b, q⟩).toArray t (0, 0))) (r : R4) : ((((w.setCell ⟨B, 16, none⟩ (.int .u64 r.fh)).setCell ⟨B, 17, none⟩ (.int .u64 r.fl)).setCell ⟨B, 18, none⟩ (.int .u64 r.th)).setCell ⟨B, 19, none⟩ (.int .u64 r.tl)).heap[B]? = some (.cells (enc25 ⟨upd b 4 r, q⟩).toArray t (0, 0)) := by
  rw [← exs4 b q r]
  simp [World.setCell, Array.getElem?_modify, h]
theorem exk5 {w : World} {B : Nat} {b : Nat → R4} {r : Int} {t : TypeId} (h : w.heap[B]? = some (.cells (enc25 ⟨b, r⟩).toArray t (0, 0))) : w.cell? ⟨B, 20, none⟩ = some (.int .u64 (b 5).fh) ∧ w.cell? ⟨B, 21, none⟩ = some (.int .u64 (b 5).fl) ∧ w.cell? ⟨B, 22, none⟩ = some (.int .u64 (b 5).th) ∧ w.cell? ⟨B, 23, none⟩ = some (.int .u64 (b 5).tl) ∧ w.frozen? ⟨B, 20, none⟩ = false ∧ w.frozen? ⟨B, 21, none⟩ = false ∧ w.frozen? ⟨B, 22, none⟩ = false ∧ w.frozen? ⟨B, 23, none⟩ = false := by
  have f := fun o => show w.frozen? ⟨B, o, none⟩ = false by simp [World.frozen?, h]
  unfold enc25 bxc at h
  exact ⟨by simp [World.cell?, h], by simp [World.cell?, h], by simp [World.cell?, h], by simp [World.cell?, h], f _, f _, f _, f _⟩
theorem exs5 (b : Nat → R4) (q : Int) (r : R4) : (((((enc25 ⟨b, q⟩).toArray.setIfInBounds 20 (.int .u64 r.fh)).setIfInBounds 21 (.int .u64 r.fl)).setIfInBounds 22 (.int .u64 r.th)).setIfInBounds 23 (.int .u64 r.tl)) = (enc25 ⟨upd b 5 r, q⟩).toArray := by kernel_rfl
theorem esk5 {w : World} {B : Nat} {b : Nat → R4} {q : Int} {t : TypeId} (h : w.heap[B]? = some (.cells (enc25 ⟨b, q⟩).toArray t (0, 0))) (r : R4) : ((((w.setCell ⟨B, 20, none⟩ (.int .u64 r.fh)).setCell ⟨B, 21, none⟩ (.int .u64 r.fl)).setCell ⟨B, 22, none⟩ (.int .u64 r.th)).setCell ⟨B, 23, none⟩ (.int .u64 r.tl)).heap[B]? = some (.cells (enc25 ⟨upd b 5 r, q⟩).toArray t (0, 0)) := by
  rw [← exs5 b q r]
  simp [World.setCell, Array.getElem?_modify, h]

def RQ (c : CF) (k : Nat) (l : List (Nat → R4)) : List EN := Q1 c k ++ l.map fun b => ⟨b, (k : Int)⟩
theorem RQ_nil (c : CF) (k : Nat) : RQ c k [] = Q1 c k := by simp [RQ]
theorem RQ_all {c : CF} {k : Nat} {u : UR} (h : c.us[k]? = some u) {l : List (Nat → R4)} (hl : l = boxesP c u) : RQ c k l = Q1 c (k + 1) := by
  rw [← Q1_step h (i := (boxesP c u).length) (Nat.le_refl _)]
  unfold RQ Q2
  rw [List.take_of_length_le (Nat.le_refl _), hl]
theorem RQ_snoc {c : CF} {k : Nat} {l : List (Nat → R4)} {b : Nat → R4} : (RQ c k (l ++ [b])).flatMap enc25 = (RQ c k l).flatMap enc25 ++ enc25 ⟨b, (k : Int)⟩ := by
  unfold RQ
  rw [List.map_append, ← List.append_assoc, List.flatMap_append]
  simp
theorem enc_congr {a b : Nat → R4} {k : Int} (h : ∀ i, i < 6 → a i = b i) : enc25 ⟨a, k⟩ = enc25 ⟨b, k⟩ := by
  unfold enc25
  simp only
  rw [bxc_congr h]
def zEn (k : Int) : EN := ⟨fun _ => zr4, k⟩
theorem upd_all {z p s d a b : R4} {b0 : Nat → R4} {k : Int} : enc25 ⟨upd (upd (upd (upd (upd (upd b0 0 z) 1 p) 2 s) 3 d) 4 a) 5 b, k⟩ = enc25 ⟨bxOf z p s d a b, k⟩ := by
  refine enc_congr fun i hi => ?_
  match i, hi with
  | 0, _ => simp [upd, bxOf]
  | 1, _ => simp [upd, bxOf]
  | 2, _ => simp [upd, bxOf]
  | 3, _ => simp [upd, bxOf]
  | 4, _ => simp [upd, bxOf]
  | 5, _ => simp [upd, bxOf]
theorem inf50 (e : EN) : (Tryz.prog.info? 50).map (·.size) = some (enc25 e).toArray.size := by rw [show (enc25 e).toArray.size = 25 from rfl]; kernel_rfl
theorem run_en1 (i : Int) (w : World) : (Instr.build 50 #[(1, .int .i64 i)]).run Tryz.prog w = .ok (.agg (enc25 (zEn i)).toArray) w := by kernel_rfl
theorem exec_build1 {P : Program} {o : Oper} {a : Act} {y : World} (T : TypeId) (x1 : Operand) (ho : o.op = .build T #[(1, x1)]) (v1 : Value) (h1 : a.eval x1 = v1) {v : Value} (hr : (Instr.build T #[(1, v1)]).run P y = .ok v y) : (execOp a.eval o).run P y = .ok (.value v) y := by
  unfold execOp
  simp only [ho, List.map_toArray, List.map_cons, List.map_nil, h1, Sem.run_bind, Sem.run_pure, Result.andThen_ok, hr]
theorem en_one (e : EN) : (enc25 e).toArray.all (·.oneCell') = true := by
  rw [Array.all_eq_true_iff_forall_mem]
  exact fun u hu => ent_ty.one e u (by simpa using hu)
theorem row4 {X : Nat} {w y : World} (bal : Below w.heap.size w y) (hX : w.heap.size = X) (hXy : X < y.heap.size) {b o : Nat} (hb : b < w.heap.size) {r : R4} (hr : ∀ i v, (r4c r)[i]? = some v → w.cell? ⟨b, o + i, none⟩ = some v) :
    ∀ W, OffE (fun q => q = X) y.heap.size y W → W.cell? ⟨b, o, none⟩ = some (.int .u64 r.fh) ∧ W.cell? ⟨b, o + 1, none⟩ = some (.int .u64 r.fl) ∧ W.cell? ⟨b, o + 2, none⟩ = some (.int .u64 r.th) ∧ W.cell? ⟨b, o + 3, none⟩ = some (.int .u64 r.tl) := by
  intro W hW
  have e : W.heap[b]? = w.heap[b]? := (hW.block b (by omega) (by omega)).trans (bal.block b hb)
  exact ⟨(World.cell?_of_block (a := ⟨b, o, none⟩) e).trans (hr 0 _ rfl), (World.cell?_of_block (a := ⟨b, o + 1, none⟩) e).trans (hr 1 _ rfl), (World.cell?_of_block (a := ⟨b, o + 2, none⟩) e).trans (hr 2 _ rfl), (World.cell?_of_block (a := ⟨b, o + 3, none⟩) e).trans (hr 3 _ rfl)⟩
theorem blk4 {X : Nat} {w y : World} (bal : Below w.heap.size w y) (hX : w.heap.size = X) (hXy : X < y.heap.size) {b : Nat} {o : Obj} (h : w.heap[b]? = some o) :
    ∀ W, OffE (fun q => q = X) y.heap.size y W → W.heap[b]? = some o := by
  intro W hW
  have hb := (Array.getElem?_eq_some_iff.1 h).1
  exact ((hW.block b (by omega) (by omega)).trans (bal.block b hb)).trans h
theorem own_offX {w w' : World} {M n X : Nat} {v : Value} {l : List EN} (h : OwnE w M v n l) (hB : ∀ q, v.ownBlock = some q → q < X) (ho : OffE (fun q => q = X) w.heap.size w w') : OwnE w' M v n l := by
  obtain ⟨h1, h2⟩ := h
  refine ⟨h1, ?_⟩
  rcases h2 with h2 | ⟨g, cap, cur, e1, e2, e3, e4, e5, e6, e7⟩
  · exact .inl h2
  · have := hB g (by rw [e1]; rfl)
    exact .inr ⟨g, cap, cur, e1, e2, by rw [ho.block g (Array.getElem?_eq_some_iff.1 e3).1 (by omega)]; exact e3, e4, e5, e6, e7⟩

set_option maxHeartbeats 16000000 in
set_option maxRecDepth 100000 in
theorem rents_any (c : CF) {w : World} (hc : c.Ok w) (hg : c.Good) :
    Calls Tryz.prog 10 #[.agg (cfc c)] w (EnPost c w) := by
  have kc : ∀ W, Below w.heap.size w W → Calls Tryz.prog 7 #[.agg (cfc c)] W fun e w' => e = .returned (.int .i64 (checkD c)) ∧ Below W.heap.size W w' := fun W h => rchk_any c (hc.keep h) hg
  have iC : Hid ((Tryz.prog.info? 30).map (·.size) = some (cfc c).size) := Lib.hid (by rw [show (cfc c).size = 8 from rfl]; kernel_rfl)
  obtain ⟨C, hC⟩ : ∃ C, cfc c = C := ⟨_, rfl⟩
  rw [hC] at kc iC ⊢
  have HC := Lib.hid hC
  clear hC
  have HOk := Lib.hid hc
  go_enter Tryz.func10, Tryz.ntmps10
  go_wp2_with (refine wpList_load_row rfl 30 (.tmp 1) rfl w.heap.size rfl 30 C (0, 0) _ (heap_alloc_new w _) Tryz.underlying30 rfl iC.out ?_)
  have b0 : Below w.heap.size w (w.alloc (.cells C 30)) := Below.al (Below.refl _ _) _
  have hB := heap_alloc_new w (.cells C 30)
  generalize w.alloc (.cells C 30) = w0 at *
  refine (kc _ b0).mono ?_
  rintro e w1 ⟨rfl, hb1⟩
  have b1 := bel_via b0 hb1
  have hB1 := blkB hb1 hB
  clear kc hb1 hB b0
  by_cases h0 : checkD c = 0
  · have hf := fine_of hc h0
    have hent : Hid (entsR c = if 1024 < (entsP c).length then ([], 90) else (entsP c, 0)) := Lib.hid (by unfold entsR; rw [if_neg (by simpa using h0)])
    rw [h0]
    have hOld := old_of hc
    have kz : ∀ (u : UR), u ∈ c.us → ∀ W, Below w.heap.size w W → Calls Tryz.prog 30 #[.agg C, .agg (urc u).toArray] W (RsPost w.heap.size W (znR (zIx c u.inz) (zIx c u.out))) := fun u hu W h => by rw [← HC.out]; exact rzn_any c u (hc.keep h) hf (hf.ru u hu).1 (hf.ru u hu).2.1 _
    have ka1 : ∀ (u : UR), u ∈ c.us → ∀ W, Below w.heap.size w W → Calls Tryz.prog 31 #[.agg C, .string u.src] W (RsPost w.heap.size W (adR c u.src)) := fun u hu W h => by rw [← HC.out]; exact radr_any c u.src (hc.keep h) hf (hf.ru u hu).2.2.1 hOld
    have ka2 : ∀ (u : UR), u ∈ c.us → ∀ W, Below w.heap.size w W → Calls Tryz.prog 31 #[.agg C, .string u.dst] W (RsPost w.heap.size W (adR c u.dst)) := fun u hu W h => by rw [← HC.out]; exact radr_any c u.dst (hc.keep h) hf (hf.ru u hu).2.2.2.1 hOld
    have ks : ∀ (u : UR) W, Below w.heap.size w W → Calls Tryz.prog 32 #[.agg C, .string u.svc] W fun e w' => e = .returned (.tuple #[.agg (r4c (svR (svF c u.svc)).1).toArray, .agg (r4c (svR (svF c u.svc)).2).toArray]) ∧ Below W.heap.size W w' := fun u W h => by rw [← HC.out]; exact rsv_any c u.svc (hc.keep h) hf
    have hul := hf.ul
    have HF := Lib.hid hf
    have HUl := Lib.hid hc.u.len
    have hub := hc.u.big
    have hcell : ∀ W : World, W.heap[w.heap.size]? = some (.cells C 30 (0, 0)) → W.cell? ⟨w.heap.size, 6, none⟩ = some (.slice c.uA c.un c.uc) := fun W hh => by simp [World.cell?, hh, ← HC.out, cfc]
    have HCell := Lib.hid hcell
    have hun : c.un ≤ 48 := hf.un
    clear h0 hf hOld hcell
    go_upto_region 5 with fail
    have hbe : Below w1.heap.size w1 (w1.alloc (.cells #[] 50)) := Below.al (Below.refl _ w1) _
    have hoe : OwnE (w1.alloc (.cells #[] 50)) w1.heap.size (.slice (some ⟨w1.heap.size, 0, none⟩) 0 0) 0 (Q1 c 0) := by
      show World.ownsRow _ _ _ _ _ _ _
      rw [show Q1 c 0 = [] by simp [Q1, entsFrom]]
      exact own_empty (enc := enc25) w1
    have y6 := HCell.out _ (blkB hbe hB1)
    generalize w1.alloc (.cells #[] 50) = we at *
    go_wp2_with fail
    clear y6
    go_loopw [5, 6] (fun v5 v6 wr => ∃ (k n : Nat), k ≤ c.un ∧ v6 = .int .i64 (k : Int) ∧ OwnE wr w1.heap.size v5 n (Q1 c k) ∧ n ≤ k * 1024 ∧ Below w1.heap.size w1 wr) (fun _ v6 _ => c.un - (intOf v6).toNat)
    case atStart => exact ⟨0, 0, by omega, rfl, hoe, by omega, hbe⟩
    case round =>
      clear hoe hbe
      obtain ⟨k, n, hk, rfl, HO, hn, br⟩ := hrel
      have hBr := blkB br hB1
      have y6 := HCell.out _ hBr
      by_cases hlt : k < c.un
      · have hlti : (k : Int) < (c.un : Int) := by omega
        obtain ⟨bb, off, hA, hblt, hrow⟩ := (HOk.out.u.keep (bel_via b1 br)).row (by omega)
        obtain ⟨u, hu⟩ : ∃ u, c.us[k]? = some u := ⟨_, List.getElem?_eq_getElem (by rw [HUl.out]; omega)⟩
        have r0 := hrow k u hu 0 _ rfl
        rw [Nat.add_zero] at r0
        have r1 := hrow k u hu 1 _ rfl
        have r2 := hrow k u hu 2 _ rfl
        have r3 := hrow k u hu 3 _ rfl
        have r4 := hrow k u hu 4 _ rfl
        have r5 := hrow k u hu 5 _ rfl
        have r6 := hrow k u hu 6 _ rfl
        have r7 := hrow k u hu 7 _ rfl
        have HUx := Lib.hid hu
        have kzu := kz u (List.mem_of_getElem? hu)
        have kau := ka1 u (List.mem_of_getElem? hu)
        have kbu := ka2 u (List.mem_of_getElem? hu)
        have ksu := ks u
        have hR : Hid (boxesP c u = (znR (zIx c u.inz) (zIx c u.out)).flatMap fun z => (adR c u.src).flatMap fun a => (adR c u.dst).map fun b => bxOf z (svR (svF c u.svc)).1 (numR 0 65535) (svR (svF c u.svc)).2 a b) := Lib.hid rfl
        have l1 : (adR c u.src).length ≤ 8 := adR_len HF.out u.src
        have l2 : (adR c u.dst).length ≤ 8 := adR_len HF.out u.dst
        have l3 : (znR (zIx c u.inz) (zIx c u.out)).length ≤ 16 := znR_len _ _
        rw [hA] at y6
        have hal := Below.al (Below.refl _ wr) (.cells (urc u).toArray 70)
        have hUn := heap_alloc_new wr (.cells (urc u).toArray 70)
        have hBn := blkB hal hBr
        have HOn : OwnE (wr.alloc (.cells (urc u).toArray 70)) w1.heap.size u5 n (Q1 c k) := own_keep HO hal
        have bn := bel_via br hal
        obtain ⟨BP, hBP⟩ : ∃ BP, boxesP c u = BP := ⟨_, rfl⟩
        rw [hBP] at hR
        have HBP := Lib.hid hBP
        clear hrow hu HO hBr hal hBP
        generalize (svR (svF c u.svc)).1 = p at *
        generalize (svR (svF c u.svc)).2 = d at *
        generalize adR c u.src = l1s at *
        generalize adR c u.dst = l2s at *
        generalize znR (zIx c u.inz) (zIx c u.out) = l3s at *
        obtain ⟨inz, out, src, dst, svc, act, lim, proxy⟩ := u
        simp only [urc, r4c] at r0 r1 r2 r3 r4 r5 r6 r7 hUn hBn HOn bn kzu kau kbu ksu ⊢
        go_upto_region 9 with fail
        generalize World.alloc wr (.cells #[.string inz, .string out, .string src, .string dst, .string svc, .int .i64 act, .string lim, .bool proxy] 70) = y2 at *
        generalize hRb : wr.heap.size = Rb at *
        clear hRb r0 r1 r2 r3 r4 r5 r6 r7 y6
        have iU : Hid ((Tryz.prog.info? 70).map (·.size) = some (#[.string inz, .string out, .string src, .string dst, .string svc, .int .i64 act, .string lim, .bool proxy] : Array Value).size) := Lib.hid (by rw [show (#[.string inz, .string out, .string src, .string dst, .string svc, .int .i64 act, .string lim, .bool proxy] : Array Value).size = 8 from rfl]; kernel_rfl)
        have bw2 := bel_via b1 bn
        have hown2 : ∀ q, u5.ownBlock = some q → w.heap.size ≤ q ∧ q < y2.heap.size := fun q hq => by
          have h2 := World.ownsRow.lt HOn q hq
          have h3 := b1.size
          exact ⟨by omega, h2.2⟩
        have HOwn2 := Lib.hid hown2
        clear hown2
        go_upto_region 10 with (first
          | (refine wpList_load_row rfl 30 (.tmp 1) rfl w.heap.size rfl 30 C (0, 0) _ hBn Tryz.underlying30 rfl iC.out ?_)
          | (refine wpList_load_row rfl 70 (.tmp 7) rfl Rb rfl 70 #[.string inz, .string out, .string src, .string dst, .string svc, .int .i64 act, .string lim, .bool proxy] (0, 0) _ hUn Tryz.underlying70 rfl iU.out ?_)
          | (go_at_call 30; go_loud ((refine (kzu _ bw2).mono ?_); rintro e w3 ⟨A3, n3, e3, rfl, S3, b3, p3⟩)))
        have bw3 := bel_via bw2 b3
        have hB3 := blkB b3 hBn
        have hU3 := blkB b3 hUn
        have c2 : w3.cell? ⟨Rb, 2, none⟩ = some (.string src) := by simp [World.cell?, hU3]
        have c3 : w3.cell? ⟨Rb, 3, none⟩ = some (.string dst) := by simp [World.cell?, hU3]
        have c4 : w3.cell? ⟨Rb, 4, none⟩ = some (.string svc) := by simp [World.cell?, hU3]
        go_upto_region 11 with (first
          | (refine wpList_load_row rfl 30 (.tmp 1) rfl w.heap.size rfl 30 C (0, 0) _ hB3 Tryz.underlying30 rfl iC.out ?_)
          | (go_at_call 31; go_loud ((refine (kau _ bw3).mono ?_); rintro e w4 ⟨A1, n1, e1, rfl, S1, b4, p1⟩)))
        have bw4 := bel_via bw3 b4
        have hB4 := blkB b4 hB3
        have d3 := keepc b4 c3
        have d4 := keepc b4 c4
        go_upto_region 12 with (first
          | (refine wpList_load_row rfl 30 (.tmp 1) rfl w.heap.size rfl 30 C (0, 0) _ hB4 Tryz.underlying30 rfl iC.out ?_)
          | (go_at_call 31; go_loud ((refine (kbu _ bw4).mono ?_); rintro e w5 ⟨A2, n2, e2, rfl, S2, b5, p2⟩)))
        have bw5 := bel_via bw4 b5
        have hB5 := blkB b5 hB4
        have f4 := keepc b5 d4
        try simp only [Act.put, List.setIfInBounds_toArray, List.set_cons_succ, List.set_cons_zero]
        clear hB3 hU3 c2 c3 c4 hB4 d3 d4 hUn hBn kzu kau kbu
        have HS3 := Lib.hid ((S3.keep b4).keep b5)
        have HS1 := Lib.hid (S1.keep b5)
        have HS2 := Lib.hid S2
        have g3 := b3.size
        have g4 := b4.size
        have g5 := b5.size
        have hne3 : Hid (0 < n3 → ∀ (b off : Nat) (sp : Option Nat), A3 = some ⟨b, off, sp⟩ → ¬ u5.ownBlock = some b) := Lib.hid (fun h b off sp e he => by
          have h1 := p3 h b off sp e
          have h2 := HOwn2.out b he
          omega)
        have hne1 : Hid (0 < n1 → ∀ (b off : Nat) (sp : Option Nat), A1 = some ⟨b, off, sp⟩ → ¬ u5.ownBlock = some b) := Lib.hid (fun h b off sp e he => by
          have h1 := p1 h b off sp e
          have h2 := HOwn2.out b he
          omega)
        have hne2 : Hid (0 < n2 → ∀ (b off : Nat) (sp : Option Nat), A2 = some ⟨b, off, sp⟩ → ¬ u5.ownBlock = some b) := Lib.hid (fun h b off sp e he => by
          have h1 := p2 h b off sp e
          have h2 := HOwn2.out b he
          omega)
        have HO5 : OwnE w5 w1.heap.size u5 n (Q1 c k) := own_keep (own_keep (own_keep HOn b3) b4) b5
        have bn5 := bel_via (bel_via (bel_via bn b3) b4) b5
        have hO5s : y2.heap.size ≤ w5.heap.size := by omega
        have HLen := Lib.hid (And.intro S3.len (And.intro S1.len S2.len))
        have hl3 := S3.len
        have hl1 := S1.len
        have hl2 := S2.len
        have k3 : n3 ≤ 16 := by omega
        have k1 : n1 ≤ 8 := by omega
        have k2 : n2 ≤ 8 := by omega
        clear hl1 hl2 hl3 l1 l2 l3 S1 S2 S3 p1 p2 p3 HOn bn b3 b4 b5 g3 g4 g5 bw2 bw3 bw4
        go_cut [11, 12] from 46 to 53 (fun v11 v12 wx => ∃ P Q : Nat, v11 = .pointer (some ⟨P, 0, none⟩) ∧ v12 = .pointer (some ⟨Q, 0, none⟩) ∧ wx.heap[P]? = some (.cells #[.int .u64 p.fh, .int .u64 p.fl, .int .u64 p.th, .int .u64 p.tl] 45 (0, 0)) ∧ wx.heap[Q]? = some (.cells #[.int .u64 d.fh, .int .u64 d.fl, .int .u64 d.th, .int .u64 d.tl] 45 (0, 0)) ∧ w5.heap.size ≤ P ∧ w5.heap.size ≤ Q ∧ Below w5.heap.size w5 wx)
        case first =>
          go_wp2_with (first
            | (refine wpList_load_row rfl 30 (.tmp 1) rfl w.heap.size rfl 30 C (0, 0) _ hB5 Tryz.underlying30 rfl iC.out ?_)
            | (go_at_call 32; go_loud ((refine (ksu _ bw5).mono ?_); rintro e w6 ⟨rfl, b6⟩)))
          go_meet
          exact ⟨w6.heap.size, w6.heap.size + 1, rfl, rfl, blk_al (heap_alloc_new w6 _) _, al_new (by simp) _, b6.size, by have := b6.size; omega, Below.al (Below.al b6 _) _⟩
        case rest =>
        obtain ⟨P, Q, rfl, rfl, hP, hQ, hPs, hQs, b6⟩ := hcut
        have HOc : OwnE wc w1.heap.size u5 n (Q1 c k) := own_keep HO5 b6
        have bnc := bel_via bn5 b6
        have HT3 := Lib.hid (HS3.out.keep b6)
        have HT1 := Lib.hid (HS1.out.keep b6)
        have HT2 := Lib.hid (HS2.out.keep b6)
        have knu := fun W : World => rnum_c (a := 0) (b := 65535) (by omega) (by omega) 0 65535 rfl rfl W
        obtain ⟨vA, hvA⟩ : ∃ vA, vA = u5 := ⟨_, rfl⟩
        subst hvA
        have HPl := Lib.hid (And.intro (Array.getElem?_eq_some_iff.1 hP).1 (And.intro (show ¬ vA.ownBlock = some P from fun h => by have := HOwn2.out P h; omega) (And.intro (Array.getElem?_eq_some_iff.1 hQ).1 (show ¬ vA.ownBlock = some Q from fun h => by have := HOwn2.out Q h; omega))))
        have HPQ := Lib.hid (And.intro hP hQ)
        have HBnc := Lib.hid bnc
        have HEl : Hid (∀ q, vA.ownBlock = some q → w1.heap.size ≤ q) := Lib.hid (fun q hq => (World.ownsRow.lt HOc q hq).1)
        clear HO5 bn5 hB5 f4 bw5 ksu b6 hP hQ hPs hQs bnc HS3 HS1 HS2
        go_wp2_with fail
        go_loopw [5, 13] (fun v5 v13 wr => ∃ (a m : Nat), a ≤ n3 ∧ v13 = .int .i64 (a : Int) ∧ OwnE wr w1.heap.size v5 m (RQ c k (P1 p (numR 0 65535) d l3s l1s l2s a)) ∧ m ≤ n + a * 64 ∧ Hid (OffE (fun q => vA.ownBlock = some q) wc.heap.size wc wr ∧ OwnOk (fun q => vA.ownBlock = some q) wc.heap.size v5)) (fun _ v13 _ => n3 - (intOf v13).toNat)
        case atStart => exact ⟨0, n, by omega, rfl, by rw [show RQ c k (P1 p (numR 0 65535) d l3s l1s l2s 0) = Q1 c k from by simp [RQ, P1]]; exact HOc, by omega, Lib.hid ⟨OffE.refl _ _, fun q hq => .inl hq⟩⟩
        case round =>
          clear HOc
          obtain ⟨a, m, ha, rfl, HOa, hm, HFa⟩ := hrel
          by_cases hla : a < n3
          · have hlai : (a : Int) < (n3 : Int) := by omega
            obtain ⟨z, hz⟩ : ∃ z, l3s[a]? = some z := ⟨_, List.getElem?_eq_getElem (by rw [HLen.out.1]; omega)⟩
            have HZ := Lib.hid hz
            clear hz
            go_wp2_with fail
            go_loopw [5, 14] (fun v5 v14 wr => ∃ (j r : Nat), j ≤ n1 ∧ v14 = .int .i64 (j : Int) ∧ OwnE wr w1.heap.size v5 r (RQ c k (P2 p (numR 0 65535) d l3s l1s l2s a z j)) ∧ r ≤ n + a * 64 + j * 8 ∧ Hid (OffE (fun q => vA.ownBlock = some q) wc.heap.size wc wr ∧ OwnOk (fun q => vA.ownBlock = some q) wc.heap.size v5)) (fun _ v14 _ => n1 - (intOf v14).toNat)
            case atStart => exact ⟨0, m, by omega, rfl, by rw [P2_zero]; exact HOa, by omega, HFa⟩
            case round =>
              clear HOa HFa
              obtain ⟨j, r, hj, rfl, HOb, hr, HFb⟩ := hrel
              by_cases hlb : j < n1
              · have hlbi : (j : Int) < (n1 : Int) := by omega
                obtain ⟨x, hx⟩ : ∃ x, l1s[j]? = some x := ⟨_, List.getElem?_eq_getElem (by rw [HLen.out.2.1]; omega)⟩
                have HX := Lib.hid hx
                clear hx
                go_wp2_with fail
                go_loopw [5, 15] (fun v5 v15 wr => ∃ (i t : Nat), i ≤ n2 ∧ v15 = .int .i64 (i : Int) ∧ OwnE wr w1.heap.size v5 t (RQ c k (P3 p (numR 0 65535) d l3s l1s l2s a z j x i)) ∧ t ≤ n + a * 64 + j * 8 + i ∧ Hid (OffE (fun q => vA.ownBlock = some q) wc.heap.size wc wr ∧ OwnOk (fun q => vA.ownBlock = some q) wc.heap.size v5)) (fun _ v15 _ => n2 - (intOf v15).toNat)
                case atStart => exact ⟨0, r, by omega, rfl, by rw [P3_zero]; exact HOb, by omega, HFb⟩
                case round =>
                  clear HOb HFb
                  obtain ⟨i, t, hi, rfl, HOd, ht, HFd⟩ := hrel
                  by_cases hld : i < n2
                  · have HXc : Hid (wc.heap.size ≤ wr.heap.size) := Lib.hid HFd.out.1.size
                    have hldi : (i : Int) < (n2 : Int) := by omega
                    obtain ⟨bz, oz, hAz, hbz, hrz⟩ := (HT3.out.offE HFd.out.1 hne3.out).row (by omega)
                    obtain ⟨bs, os, hAs, hbs, hrs⟩ := (HT1.out.offE HFd.out.1 hne1.out).row (by omega)
                    obtain ⟨bd, od, hAd, hbd, hrd⟩ := (HT2.out.offE HFd.out.1 hne2.out).row (by omega)
                    obtain ⟨y, hy⟩ : ∃ y, l2s[i]? = some y := ⟨_, List.getElem?_eq_getElem (by rw [HLen.out.2.2]; omega)⟩
                    have hrz' := hrz a z HZ.out
                    have hrs' := hrs j x HX.out
                    have hrd' := hrd i y hy
                    have HY := Lib.hid hy
                    have hPw := (HFd.out.1.block P HPl.out.1 HPl.out.2.1).trans HPQ.out.1
                    have hQw := (HFd.out.1.block Q HPl.out.2.2.1 HPl.out.2.2.2).trans HPQ.out.2
                    subst hAz hAs hAd
                    obtain ⟨D, hD⟩ : ∃ D, (enc25 (zEn (k : Int))).toArray = D := ⟨_, rfl⟩
                    have iD : Hid ((Tryz.prog.info? 50).map (·.size) = some D.size) := Lib.hid (by rw [← hD]; exact inf50 _)
                    have zD : Hid ((#[.int .u64 0, .int .u64 0, .int .u64 0, .int .u64 0, .int .u64 0, .int .u64 0, .int .u64 0, .int .u64 0, .int .u64 0, .int .u64 0, .int .u64 0, .int .u64 0, .int .u64 0, .int .u64 0, .int .u64 0, .int .u64 0, .int .u64 0, .int .u64 0, .int .u64 0, .int .u64 0, .int .u64 0, .int .u64 0, .int .u64 0, .int .u64 0, .int .i64 0] : Array Value).size = D.size) := Lib.hid (by rw [← hD]; rfl)
                    have oD : Hid (D.all (·.oneCell') = true) := Lib.hid (by rw [← hD]; exact en_one _)
                    have hbd1 : Hid (∀ y : World, (Instr.build 50 #[(1, .int .i64 (k : Int))]).run Tryz.prog y = .ok (.agg D) y) := Lib.hid (by rw [← hD]; exact fun y => run_en1 _ y)
                    have bal := Below.al (Below.refl _ wr) (.cells D 50)
                    have hX0 := heap_alloc_new wr (.cells D 50)
                    have hXl : wr.heap.size < (wr.alloc (.cells D 50)).heap.size := by simp
                    have HZr := Lib.hid (row4 bal rfl hXl hbz hrz')
                    have HSr := Lib.hid (row4 bal rfl hXl hbs hrs')
                    have HDr := Lib.hid (row4 bal rfl hXl hbd hrd')
                    have HPr := Lib.hid (blk4 bal rfl hXl hPw)
                    have HQr := Lib.hid (blk4 bal rfl hXl hQw)
                    have HOl := Lib.hid (fun q hq => (World.ownsRow.lt HOd q hq).2)
                    have HO0 : Hid (OwnE (wr.alloc (.cells D 50)) w1.heap.size u5 t (RQ c k (P3 p (numR 0 65535) d l3s l1s l2s a z j x i))) := Lib.hid (own_keep HOd bal)
                    have HF0 := Lib.hid (HFd.out.1.al (.cells D 50))
                    have HK0 := Lib.hid HFd.out.2
                    clear HOd HFd hrz hrs hrd hrz' hrs' hrd' hPw hQw bal hbz hbs hbd hy
                    go_upto_region 23 with (first
                      | (refine wpList_pure rfl (.agg D) (fun y => exec_build1 50 (.tmp 71) rfl (.int .i64 (k : Int)) rfl (hbd1.out y)) ?_)
                      | (refine wpList_store_row rfl 50 (.tmp 16) (.tmp 72) rfl wr.heap.size D rfl rfl 50 #[.int .u64 0, .int .u64 0, .int .u64 0, .int .u64 0, .int .u64 0, .int .u64 0, .int .u64 0, .int .u64 0, .int .u64 0, .int .u64 0, .int .u64 0, .int .u64 0, .int .u64 0, .int .u64 0, .int .u64 0, .int .u64 0, .int .u64 0, .int .u64 0, .int .u64 0, .int .u64 0, .int .u64 0, .int .u64 0, .int .u64 0, .int .u64 0, .int .i64 0] (heap_alloc_new wr _) iD.out zD.out oD.out ?_; rw [World.setRow_alloc_new]))
                    generalize wr.alloc (.cells D 50) = x0 at *
                    rw [← hD] at hX0
                    clear hD
                    generalize wr.heap.size = X at *
                    unfold zEn at hX0
                    have HW0 : OffE (fun q => q = X) x0.heap.size x0 x0 := OffE.refl _ _
                    obtain ⟨c0, c1, c2, c3, f0, f1, f2, f3⟩ := exk0 hX0
                    obtain ⟨q0, q1, q2, q3⟩ := HZr.out _ HW0
                    go_upto_region 24 with fail
                    have hX1 := esk0 hX0 z
                    have HW1 : OffE (fun q => q = X) x0.heap.size x0 ((((x0.setCell ⟨X, 0, none⟩ (.int .u64 z.fh)).setCell ⟨X, 1, none⟩ (.int .u64 z.fl)).setCell ⟨X, 2, none⟩ (.int .u64 z.th)).setCell ⟨X, 3, none⟩ (.int .u64 z.tl)) := OffE.set (OffE.set (OffE.set (OffE.set HW0 rfl _ _) rfl _ _) rfl _ _) rfl _ _
                    clear c0 c1 c2 c3 f0 f1 f2 f3 q0 q1 q2 q3 hX0
                    generalize (((x0.setCell ⟨X, 0, none⟩ (.int .u64 z.fh)).setCell ⟨X, 1, none⟩ (.int .u64 z.fl)).setCell ⟨X, 2, none⟩ (.int .u64 z.th)).setCell ⟨X, 3, none⟩ (.int .u64 z.tl) = x1 at HW1 hX1 ⊢
                    obtain ⟨c0, c1, c2, c3, f0, f1, f2, f3⟩ := exk1 hX1
                    obtain ⟨q0, q1, q2, q3, _, _, _, _⟩ := cells4 (HPr.out _ HW1)
                    go_upto_region 25 with fail
                    have hX2 := esk1 hX1 p
                    have HW2 : OffE (fun q => q = X) x0.heap.size x0 ((((x1.setCell ⟨X, 4, none⟩ (.int .u64 p.fh)).setCell ⟨X, 5, none⟩ (.int .u64 p.fl)).setCell ⟨X, 6, none⟩ (.int .u64 p.th)).setCell ⟨X, 7, none⟩ (.int .u64 p.tl)) := OffE.set (OffE.set (OffE.set (OffE.set HW1 rfl _ _) rfl _ _) rfl _ _) rfl _ _
                    clear c0 c1 c2 c3 f0 f1 f2 f3 q0 q1 q2 q3 hX1 HW1
                    generalize (((x1.setCell ⟨X, 4, none⟩ (.int .u64 p.fh)).setCell ⟨X, 5, none⟩ (.int .u64 p.fl)).setCell ⟨X, 6, none⟩ (.int .u64 p.th)).setCell ⟨X, 7, none⟩ (.int .u64 p.tl) = x2 at HW2 hX2 ⊢
                    obtain ⟨c0, c1, c2, c3, f0, f1, f2, f3⟩ := exk2 hX2
                    go_upto_region 26 with (go_at_call 33; go_loud ((refine (knu _).mono ?_); rintro e wq ⟨rfl, bq⟩; have hXq := blkB bq hX2; have HWq := HW2.below bq; obtain ⟨y0, y1, y2, y3, g0, g1, g2, g3⟩ := exk2 hXq))
                    have hX3 := esk2 hXq (numR 0 65535)
                    have HW3 : OffE (fun q => q = X) x0.heap.size x0 ((((wq.setCell ⟨X, 8, none⟩ (.int .u64 (numR 0 65535).fh)).setCell ⟨X, 9, none⟩ (.int .u64 (numR 0 65535).fl)).setCell ⟨X, 10, none⟩ (.int .u64 (numR 0 65535).th)).setCell ⟨X, 11, none⟩ (.int .u64 (numR 0 65535).tl)) := OffE.set (OffE.set (OffE.set (OffE.set HWq rfl _ _) rfl _ _) rfl _ _) rfl _ _
                    clear c0 c1 c2 c3 f0 f1 f2 f3 y0 y1 y2 y3 g0 g1 g2 g3 hX2 HW2 hXq HWq bq
                    generalize (((wq.setCell ⟨X, 8, none⟩ (.int .u64 (numR 0 65535).fh)).setCell ⟨X, 9, none⟩ (.int .u64 (numR 0 65535).fl)).setCell ⟨X, 10, none⟩ (.int .u64 (numR 0 65535).th)).setCell ⟨X, 11, none⟩ (.int .u64 (numR 0 65535).tl) = x3 at HW3 hX3 ⊢
                    obtain ⟨c0, c1, c2, c3, f0, f1, f2, f3⟩ := exk3 hX3
                    obtain ⟨q0, q1, q2, q3, _, _, _, _⟩ := cells4 (HQr.out _ HW3)
                    go_upto_region 27 with fail
                    have hX4 := esk3 hX3 d
                    have HW4 : OffE (fun q => q = X) x0.heap.size x0 ((((x3.setCell ⟨X, 12, none⟩ (.int .u64 d.fh)).setCell ⟨X, 13, none⟩ (.int .u64 d.fl)).setCell ⟨X, 14, none⟩ (.int .u64 d.th)).setCell ⟨X, 15, none⟩ (.int .u64 d.tl)) := OffE.set (OffE.set (OffE.set (OffE.set HW3 rfl _ _) rfl _ _) rfl _ _) rfl _ _
                    clear c0 c1 c2 c3 f0 f1 f2 f3 q0 q1 q2 q3 hX3 HW3
                    generalize (((x3.setCell ⟨X, 12, none⟩ (.int .u64 d.fh)).setCell ⟨X, 13, none⟩ (.int .u64 d.fl)).setCell ⟨X, 14, none⟩ (.int .u64 d.th)).setCell ⟨X, 15, none⟩ (.int .u64 d.tl) = x4 at HW4 hX4 ⊢
                    obtain ⟨c0, c1, c2, c3, f0, f1, f2, f3⟩ := exk4 hX4
                    obtain ⟨q0, q1, q2, q3⟩ := HSr.out _ HW4
                    go_upto_region 28 with fail
                    have hX5 := esk4 hX4 x
                    have HW5 : OffE (fun q => q = X) x0.heap.size x0 ((((x4.setCell ⟨X, 16, none⟩ (.int .u64 x.fh)).setCell ⟨X, 17, none⟩ (.int .u64 x.fl)).setCell ⟨X, 18, none⟩ (.int .u64 x.th)).setCell ⟨X, 19, none⟩ (.int .u64 x.tl)) := OffE.set (OffE.set (OffE.set (OffE.set HW4 rfl _ _) rfl _ _) rfl _ _) rfl _ _
                    clear c0 c1 c2 c3 f0 f1 f2 f3 q0 q1 q2 q3 hX4 HW4
                    generalize (((x4.setCell ⟨X, 16, none⟩ (.int .u64 x.fh)).setCell ⟨X, 17, none⟩ (.int .u64 x.fl)).setCell ⟨X, 18, none⟩ (.int .u64 x.th)).setCell ⟨X, 19, none⟩ (.int .u64 x.tl) = x5 at HW5 hX5 ⊢
                    obtain ⟨c0, c1, c2, c3, f0, f1, f2, f3⟩ := exk5 hX5
                    obtain ⟨q0, q1, q2, q3⟩ := HDr.out _ HW5
                    go_upto_region 29 with fail
                    have hX6 := esk5 hX5 y
                    have HW6 : OffE (fun q => q = X) x0.heap.size x0 ((((x5.setCell ⟨X, 20, none⟩ (.int .u64 y.fh)).setCell ⟨X, 21, none⟩ (.int .u64 y.fl)).setCell ⟨X, 22, none⟩ (.int .u64 y.th)).setCell ⟨X, 23, none⟩ (.int .u64 y.tl)) := OffE.set (OffE.set (OffE.set (OffE.set HW5 rfl _ _) rfl _ _) rfl _ _) rfl _ _
                    clear c0 c1 c2 c3 f0 f1 f2 f3 q0 q1 q2 q3 hX5 HW5
                    generalize (((x5.setCell ⟨X, 20, none⟩ (.int .u64 y.fh)).setCell ⟨X, 21, none⟩ (.int .u64 y.fl)).setCell ⟨X, 22, none⟩ (.int .u64 y.th)).setCell ⟨X, 23, none⟩ (.int .u64 y.tl) = x6 at HW6 hX6 ⊢
                    obtain ⟨bf, hbf⟩ : ∃ bf : Nat → R4, bf = upd (upd (upd (upd (upd (upd (fun _ => zr4) 0 z) 1 p) 2 (numR 0 65535)) 3 d) 4 x) 5 y := ⟨_, rfl⟩
                    rw [← hbf] at hX6
                    have HBf := Lib.hid hbf
                    clear hbf
                    obtain ⟨D2, hD2⟩ : ∃ D, (enc25 ⟨bf, (k : Int)⟩).toArray = D := ⟨_, rfl⟩
                    rw [hD2] at hX6
                    have iD2 : Hid ((Tryz.prog.info? 50).map (·.size) = some D2.size) := Lib.hid (by rw [← hD2]; exact inf50 _)
                    have hbs : Hid (∀ y : World, (Instr.buildSlice 41 1 #[(0, .agg D2)]).run Tryz.prog y = .ok (.slice (some ⟨y.heap.size, 0, none⟩) 1 1) (y.alloc (.cells (enc25 ⟨bf, (k : Int)⟩).toArray 50))) := Lib.hid (by rw [← hD2]; exact fun y => run_be _ y)
                    have HO6 : Hid (x6.ownsRow w1.heap.size 50 25 u5 t ((RQ c k (P3 p (numR 0 65535) d l3s l1s l2s a z j x i)).flatMap enc25)) := Lib.hid (own_offX HO0.out HOl.out HW6)
                    have HF6 : Hid (OffE (fun q => vA.ownBlock = some q) wc.heap.size wc x6) := Lib.hid (HF0.out.trans HW6 HF0.out.size (fun q hq he h => by have := HXc.out; omega))
                    have hsz6 : w1.heap.size ≤ x6.heap.size := by have h1 := HF6.out.size; have h2 := HBnc.out.size; omega
                    clear hD2 HW6
                    go_wp2_with (refine wpList_load_row rfl 50 (.tmp 16) rfl X rfl 50 D2 (0, 0) _ hX6 Tryz.underlying50 rfl iD2.out ?_; refine Hid.out ?_)
                    refine Lib.hid ?_
                    refine wpList_b1 rfl 50 41 (.tmp 107) _ (enc25 ⟨bf, (k : Int)⟩).toArray rfl rfl hbs.out ?_
                    go_wp2_with (at_builtin; go_loud (refine app_off ent_ty rfl _ _ rfl w1.heap.size u5 t (RQ c k (P3 p (numR 0 65535) d l3s l1s l2s a z j x i)) rfl HO6.out ⟨bf, (k : Int)⟩ rfl (by omega) (by omega) hsz6 ?_))
                    intro v' w' hown' hoff' hbel' hsz'
                    have hk2 := Lib.hid (hoff' _ _ _ HF6.out HK0.out)
                    have HO7 : OwnE w' w1.heap.size v' (t + 1) (RQ c k (P3 p (numR 0 65535) d l3s l1s l2s a z j x (i + 1))) := by
                      unfold OwnE
                      rw [P3_step HY.out, RQ_snoc, ← upd_all (b0 := fun _ => zr4), ← HBf.out]
                      exact hown'
                    clear hown' hoff' hbel' hX6
                    go_wp2_with fail
                    go_roundw
                    case rel => exact ⟨i + 1, t + 1, by omega, by go_num, HO7, by omega, hk2⟩
                    case measure => simp [intOf]; omega
                  · obtain rfl : i = n2 := by omega
                    have HP := P2_step (p := p) (s := numR 0 65535) (d := d) (l3 := l3s) (k := a) (z := z) HX.out (l2 := l2s) (i := i) (by rw [HLen.out.2.2]; omega)
                    rw [HP] at HOd
                    clear HP
                    go_wp2_with fail
                    go_roundw
                    case rel => exact ⟨j + 1, t, by omega, by go_num, HOd, by omega, HFd⟩
                    case measure => simp [intOf]; omega
              · obtain rfl : j = n1 := by omega
                have HP := P1_step (p := p) (s := numR 0 65535) (d := d) (l1 := l1s) (l2 := l2s) HZ.out (j := j) (by rw [HLen.out.2.1]; omega)
                rw [HP] at HOb
                clear HP
                go_wp2_with fail
                go_roundw
                case rel => exact ⟨a + 1, r, by omega, by go_num, HOb, by omega, HFb⟩
                case measure => simp [intOf]; omega
          · obtain rfl : a = n3 := by omega
            have hfin : RQ c k (P1 p (numR 0 65535) d l3s l1s l2s a) = Q1 c (k + 1) := RQ_all HUx.out (by rw [P1_all (by rw [HLen.out.1]; omega), ← hR.out, HBP.out])
            rw [hfin] at HOa
            have hb9 : Below w1.heap.size w1 wr := HBnc.out.trans (HFa.out.1.toBelow HBnc.out.size HEl.out)
            clear hfin HFa
            go_wp2_with fail
            go_roundw
            case rel => exact ⟨k + 1, m, by omega, by go_num, HOa, by omega, hb9⟩
            case measure => simp [intOf]; omega
      · obtain rfl : k = c.un := by omega
        have hq : Q1 c c.un = entsP c := Q1_all (by rw [HUl.out]; omega)
        rw [hq] at HO
        have hl := en_len HO
        obtain ⟨A, cap, rfl, hS⟩ := en_at HO
        by_cases hbig : 1024 < n
        · have hbigi : (1024 : Int) < (n : Int) := by omega
          have hres : Hid (entsR c = ([], 90)) := Lib.hid (by rw [hent.out, if_pos (by omega)])
          clear HO hq hl
          go_wp2_with fail
          go_ret2
          exact ⟨none, 0, 0, by rw [hres.out]; rfl, by rw [hres.out]; exact sl_nil25 _, bel_via b1 br⟩
        · have hbigi : ¬ (1024 : Int) < (n : Int) := by omega
          have hres : Hid (entsR c = (entsP c, 0)) := Lib.hid (by rw [hent.out, if_neg (by omega)])
          clear HO hq hl
          go_wp2_with fail
          go_ret2
          exact ⟨A, n, cap, by rw [hres.out]; rfl, by rw [hres.out]; exact hS, bel_via b1 br⟩
  · have h0b : (checkD c == 0) = false := by simpa using h0
    have hent : Hid (entsR c = ([], checkD c)) := Lib.hid (by unfold entsR; rw [if_pos h0])
    clear h0
    go_wp2_with fail
    go_ret2
    exact ⟨none, 0, 0, by rw [hent.out]; rfl, by rw [hent.out]; exact sl_nil25 _, b1⟩
end Go.Proofs.YtmnnjkdmnfadhaaGreatDoor
