/- Names looked for; the first thing wrong of what has names; by-name template (gen_lnames.py). -/
import Derived.Test.YtmnnjkdmnfadhaaGreatDoorLFirst
import Derived.Test.YtmnnjkdmnfadhaaGreatDoorLName2
namespace Go.Proofs.YtmnnjkdmnfadhaaGreatDoor
open Go.Shelf Go.RowKit Go.Lib Go.Sort
set_option linter.unusedVariables false
set_option linter.unusedSimpArgs false

theorem calls_gen {P : Program} {f : FuncId} {args : Array Value} {W : World} {K : Ending → World → Prop} (h : ∀ W', W' = W → Calls P f args W' K) : Calls P f args W K := h W rfl
theorem cells4 {w : World} {B : Nat} {x y z u : Value} {t : TypeId} (h : w.heap[B]? = some (.cells #[x, y, z, u] t (0, 0))) : w.cell? ⟨B, 0, none⟩ = some x ∧ w.cell? ⟨B, 1, none⟩ = some y ∧ w.cell? ⟨B, 2, none⟩ = some z ∧ w.cell? ⟨B, 3, none⟩ = some u ∧ w.frozen? ⟨B, 0, none⟩ = false ∧ w.frozen? ⟨B, 1, none⟩ = false ∧ w.frozen? ⟨B, 2, none⟩ = false ∧ w.frozen? ⟨B, 3, none⟩ = false := by
  refine ⟨?_, ?_, ?_, ?_, ?_, ?_, ?_, ?_⟩ <;> simp [World.cell?, World.frozen?, h]
theorem heap_set4 {w : World} {B : Nat} {x y z u : Value} {t : TypeId} {fz : Nat × Nat} (h : w.heap[B]? = some (.cells #[x, y, z, u] t fz)) (a b c d : Value) :
    ((((w.setCell ⟨B, 0, none⟩ a).setCell ⟨B, 1, none⟩ b).setCell ⟨B, 2, none⟩ c).setCell ⟨B, 3, none⟩ d).heap[B]? = some (.cells #[a, b, c, d] t fz) := by
  simp [World.setCell, Array.getElem?_modify, h]
def chkN {α : Type} (nm : α → ByteArray) (chk : α → List α → Int) (x : α) (l : List α) : Int := if nmB (nm x) = true then (if (l.any fun y => eqs (nm y) (nm x)) = true then 63 else chk x l) else 62

theorem nm_zon (x : ZR) {W : World} : Calls Tryz.prog 40 #[.agg (zrc x).toArray] W fun e w' => e = .returned (.string x.nm) ∧ Below W.heap.size W w' := by
  obtain ⟨nm, ah, al, ia, il, ic, ifs⟩ := x
  simp only [zrc]
  go_enter Tryz.func40, Tryz.ntmps40
  go_wp2
  go_ret
  exact ⟨rfl, Below.al (Below.refl _ _) _⟩

theorem find1_zon (key : ByteArray) (B1 B2 : Nat) (x : ZR) {W : World} (h1 : W.cell? ⟨B1, 0, none⟩ = some (.func (.func 40) #[] #[])) (h2 : W.cell? ⟨B2, 0, none⟩ = some (.string key)) :
    Calls Tryz.prog 158 #[.agg (zrc x).toArray, .pointer (some ⟨B1, 0, none⟩), .pointer (some ⟨B2, 0, none⟩)] W fun e w' => e = .returned (.bool (eqs x.nm key)) ∧ Below W.heap.size W w' := by
  obtain ⟨nm, ah, al, ia, il, ic, ifs⟩ := x
  have cn := fun (W : World) => nm_zon ⟨nm, ah, al, ia, il, ic, ifs⟩ (W := W)
  simp only [zrc, eqs] at *
  go_enter Tryz.func158, Tryz.ntmps158
  go_wp2
  generalize hW1 : W.alloc (.cells #[.string nm, .int .u64 ah, .int .u64 al, .slice ia il ic] 59) = W1
  have b1 : Below W.heap.size W W1 := by rw [← hW1]; exact Below.al (Below.refl _ _) _
  have g1 := cell_regrown (keepc b1 h1)
  have g2 := cell_regrown (keepc b1 h2)
  have q0 := cell_regrown (show W1.cell? ⟨W.heap.size, 0, none⟩ = some (.string nm) by rw [← hW1]; simp [go_sem])
  have q1 := cell_regrown (show W1.cell? ⟨W.heap.size, 1, none⟩ = some (.int .u64 ah) by rw [← hW1]; simp [go_sem])
  have q2 := cell_regrown (show W1.cell? ⟨W.heap.size, 2, none⟩ = some (.int .u64 al) by rw [← hW1]; simp [go_sem])
  have q3 := cell_regrown (show W1.cell? ⟨W.heap.size, 3, none⟩ = some (.slice ia il ic) by rw [← hW1]; simp [go_sem])
  have qc := fun d os => Calls.regrown_of (cn (grow (redrawn W1 d) os))
  clear hW1 cn h1 h2
  refine wp_region_quiet_below (by kernel_rfl) (by kernel_rfl) ?_
  repeat (first | go_big_quiet_skip | quiet_step (first | (go_at_call 40; with_reducible exact qc _ _)))
  refine wpQuiet_nil ?_
  intro _ hw'
  obtain ⟨⟨dq, osq⟩, hw''⟩ := hw'
  subst hw''
  have hbz := bel_via b1 (below_regrown W1 dq osq)
  go_wp2
  go_ret
  exact ⟨rfl, hbz⟩
theorem eFind1_zon : ∀ args w, (callFunc 158 args).run Tryz.prog w = .ok (.enter 158 args) w := enters_of Tryz.func158 (by kernel_rfl) rfl

def Z_zon : ZR := default
def fnd_zon (key : ByteArray) (l : List ZR) : ZR := (l.find? fun x => eqs x.nm key).getD default
set_option maxHeartbeats 4000000 in
theorem find_zon (key : ByteArray) (A : Option Addr) (n c : Nat) (l : List ZR) {w : World} (hS : Sl w 4 zrc A n l) :
    Calls Tryz.prog 138 #[.slice A n c, .func (.func 40) #[] #[], .string key] w fun e w' => e = .returned (.tuple #[.agg (zrc (fnd_zon key l)).toArray, .bool (l.any fun x => eqs x.nm key)]) ∧ Below w.heap.size w w' := by
  have HS := Lib.hid hS
  clear hS
  obtain ⟨V, hV⟩ : ∃ V, V = Value.tuple #[.agg (zrc (fnd_zon key l)).toArray, .bool (l.any fun x => eqs x.nm key)] := ⟨_, rfl⟩
  rw [← hV]
  have HV := Lib.hid hV
  clear hV
  go_enter Tryz.func138, Tryz.ntmps138
  go_wp2_with fail
  refine calls_gen fun W hW => ?_
  have hb : Below w.heap.size w W := by rw [hW]; repeat (first | exact Below.refl _ _ | apply Below.dr | apply Below.al)
  have hF : W.cell? ⟨w.heap.size, 0, none⟩ = some (.func (.func 40) #[] #[]) := by rw [hW]; simp [go_sem, World.cell?_alloc_past]
  have hK : W.cell? ⟨w.heap.size + 1, 0, none⟩ = some (.string key) := by rw [hW]; simp [go_sem, World.cell?_alloc_past]
  have hR : W.heap[w.heap.size + 1 + 1]? = some (.cells #[.string { data := #[] }, .int .u64 0, .int .u64 0, .slice none 0 0] 59 (0, 0)) := by rw [hW]; exact al_new (by simp) _
  have hS := HS.out.keep hb
  have cc := idx_rows Tryz.li_zon Tryz.isAgg59 Tryz.sizeOf59 zrc (fun _ => rfl) (fun x => eqs x.nm key) 158 #[.pointer (some ⟨w.heap.size, 0, none⟩), .pointer (some ⟨w.heap.size + 1, 0, none⟩)] eFind1_zon A n c l W
    (fun W' x hx hW' => find1_zon key _ _ x (keepc hW' hF) (keepc hW' hK)) hS
  change Calls Tryz.prog 139 _ _ _ at cc
  clear hW HS
  rcases pl_cases (fun x : ZR => eqs x.nm key) l with ⟨hm, hf⟩ | ⟨j, x, hj, hp, hs, hf⟩
  · have hfi := find_miss hf
    have hv : fnd_zon key l = default := by unfold fnd_zon; rw [hfi]; rfl
    have ha := any_none hfi
    have HZ : Hid (V = Value.tuple #[.agg #[.string { data := #[] }, .int .u64 0, .int .u64 0, .slice none 0 0], .bool false]) := Lib.hid (by rw [HV.out, hv, ha]; rfl)
    rw [hm] at cc
    clear hf hm hfi hv ha hS HV
    refine cc.mono ?_
    rintro e w1 ⟨rfl, hb'⟩
    have hR1 : w1.heap[w.heap.size + 1 + 1]? = _ := (hb'.block _ (Array.getElem?_eq_some_iff.1 hR).1).trans hR
    have hb1 := bel_via hb hb'
    obtain ⟨r0, r1, r2, r3, z0, z1, z2, z3⟩ := cells4 hR1
    have hlt : w.heap.size + 1 + 1 < w1.heap.size := World.block_lt_of_cell? _ _ r0
    clear cc hF hK hR hb hb'
    go_wp2
    have hR2 := heap_set4 hR1 (.string { data := #[] }) (.int .u64 0) (.int .u64 0) (.slice none 0 0) 
    have hb2 := below_set (below_set (below_set (below_set (hb1) (B := w.heap.size + 1 + 1) (by omega) 0 (.string { data := #[] })) (B := w.heap.size + 1 + 1) (by omega) 1 (.int .u64 0)) (B := w.heap.size + 1 + 1) (by omega) 2 (.int .u64 0)) (B := w.heap.size + 1 + 1) (by omega) 3 (.slice none 0 0)
    generalize ((((w1).setCell ⟨w.heap.size + 1 + 1, 0, none⟩ (.string { data := #[] })).setCell ⟨w.heap.size + 1 + 1, 1, none⟩ (.int .u64 0)).setCell ⟨w.heap.size + 1 + 1, 2, none⟩ (.int .u64 0)).setCell ⟨w.heap.size + 1 + 1, 3, none⟩ (.slice none 0 0) = wf at *
    obtain ⟨f0, f1, f2, f3, _, _, _, _⟩ := cells4 hR2
    have hlf : w.heap.size + 1 + 1 < wf.heap.size := (Array.getElem?_eq_some_iff.1 hR2).1
    have g0 := fun o => keepc (Below.al (Below.refl _ wf) o) f0
    have g1 := fun o => keepc (Below.al (Below.refl _ wf) o) f1
    have g2 := fun o => keepc (Below.al (Below.refl _ wf) o) f2
    have g3 := fun o => keepc (Below.al (Below.refl _ wf) o) f3
    exact bodyPost_ret (v := .tuple #[.agg #[.string { data := #[] }, .int .u64 0, .int .u64 0, .slice none 0 0], .bool false]) (by simp [results, Tryz.results138, go_sem, g0, g1, g2, g3]) rfl ⟨by rw [HZ.out], Below.al hb2 _⟩
  · have hfi := find_hit hj hs hf
    have hv : fnd_zon key l = x := by unfold fnd_zon; rw [hfi]; rfl
    have ha := any_some hfi
    have HZ0 : Hid (V = Value.tuple #[.agg (zrc x).toArray, .bool true]) := Lib.hid (by rw [HV.out, hv, ha])
    rw [hp] at cc
    have hjn : j < n := by have := getE hj; have := hS.len; omega
    obtain ⟨b, off, hA, hlt0, hrow⟩ := hS.row (by omega)
    have hbig := hS.big
    subst hA
    refine cc.mono ?_
    rintro e w1 ⟨rfl, hb3⟩
    have hR1 : w1.heap[w.heap.size + 1 + 1]? = _ := (hb3.block _ (Array.getElem?_eq_some_iff.1 hR).1).trans hR
    have hb1 := bel_via hb hb3
    have r0 : w1.cell? ⟨b, off + j * 4, none⟩ = some (.string x.nm) := keepc hb3 (hrow j x hj 0 _ rfl)
    have r1 := keepc hb3 (hrow j x hj 1 _ rfl)
    have r2 := keepc hb3 (hrow j x hj 2 _ rfl)
    have r3 := keepc hb3 (hrow j x hj 3 _ rfl)
    obtain ⟨nm, ah, al, ia, il, ic, ifs⟩ := x
    have HZ : Hid (V = Value.tuple #[.agg #[.string nm, .int .u64 ah, .int .u64 al, .slice ia il ic], .bool true]) := HZ0
    clear HZ0 HV
    obtain ⟨s0, s1, s2, s3, z0, z1, z2, z3⟩ := cells4 hR1
    have hlt : w.heap.size + 1 + 1 < w1.heap.size := World.block_lt_of_cell? _ _ s0
    have hltb : b < w1.heap.size := Nat.lt_of_lt_of_le hlt0 hb3.size
    clear cc hF hK hR hb hb3 hrow hS hf hs hp hj hfi hv ha hlt0
    go_wp2
    have hR2 := heap_set4 hR1 (.string nm) (.int .u64 ah) (.int .u64 al) (.slice ia il ic) 
    have hb2 := below_set (below_set (below_set (below_set (hb1) (B := w.heap.size + 1 + 1) (by omega) 0 (.string nm)) (B := w.heap.size + 1 + 1) (by omega) 1 (.int .u64 ah)) (B := w.heap.size + 1 + 1) (by omega) 2 (.int .u64 al)) (B := w.heap.size + 1 + 1) (by omega) 3 (.slice ia il ic)
    generalize ((((w1).setCell ⟨w.heap.size + 1 + 1, 0, none⟩ (.string nm)).setCell ⟨w.heap.size + 1 + 1, 1, none⟩ (.int .u64 ah)).setCell ⟨w.heap.size + 1 + 1, 2, none⟩ (.int .u64 al)).setCell ⟨w.heap.size + 1 + 1, 3, none⟩ (.slice ia il ic) = wf at *
    obtain ⟨f0, f1, f2, f3, _, _, _, _⟩ := cells4 hR2
    exact bodyPost_ret (v := .tuple #[.agg #[.string nm, .int .u64 ah, .int .u64 al, .slice ia il ic], .bool true]) (by simp [results, Tryz.results138, go_sem, f0, f1, f2, f3]) rfl ⟨by rw [HZ.out], hb2⟩

set_option maxHeartbeats 1000000 in
theorem has_zon (key : ByteArray) (A : Option Addr) (n c : Nat) (l : List ZR) {w : World} (hS : Sl w 4 zrc A n l) :
    Calls Tryz.prog 96 #[.slice A n c, .func (.func 40) #[] #[], .string key] w fun e w' => e = .returned (.bool (l.any fun x => eqs x.nm key)) ∧ Below w.heap.size w w' := by
  have cc := find_zon key A n c l hS
  generalize fnd_zon key l = x at cc
  generalize (l.any fun x => eqs x.nm key) = r at *
  obtain ⟨nm, ah, al, ia, il, ic, ifs⟩ := x
  simp only [zrc] at cc
  clear hS
  go_enter Tryz.func96, Tryz.ntmps96
  go_wp2_with (go_at_call 138; with_reducible refine cc.mono ?_; rintro e w' ⟨rfl, hb'⟩)
  go_ret
  exact ⟨rfl, Below.al hb' _⟩

set_option maxHeartbeats 4000000 in
theorem fn1_zon (chk : ZR → List ZR → Int) (B1 B2 : Nat) (x : ZR) (hx : x.nm.size ≤ 9223372036854775807) (A : Option Addr) (i c : Nat) (l : List ZR) {W : World} (hS : Sl W 4 zrc A i l) (h1 : W.cell? ⟨B1, 0, none⟩ = some (.func (.func 40) #[] #[])) (h2 : W.cell? ⟨B2, 0, none⟩ = some (.func (.func 41) #[] #[]))
    (hc : ∀ W', Below W.heap.size W W' → Calls Tryz.prog 41 #[.agg (zrc x).toArray, .slice A i c] W' fun e w' => e = .returned (.int .i64 (chk x l)) ∧ Below W'.heap.size W' w') :
    Calls Tryz.prog 94 #[.agg (zrc x).toArray, .slice A i c, .pointer (some ⟨B1, 0, none⟩), .pointer (some ⟨B2, 0, none⟩)] W fun e w' => e = .returned (.int .i64 (chkN (·.nm) chk x l)) ∧ Below W.heap.size W w' := by
  have cn := fun (W : World) => nm_zon x (W := W)
  have ch := fun W' (h : Below W.heap.size W W') => has_zon x.nm A i c l (hS.keep h)
  have cv := nameB_any x.nm hx
  have hr : chkN (·.nm) chk x l = if nmB x.nm = true then (if (l.any fun y => eqs y.nm x.nm) = true then 63 else chk x l) else 62 := rfl
  generalize nmB x.nm = NB at *
  generalize (l.any fun y => eqs y.nm x.nm) = AB at *
  generalize chk x l = R at *
  generalize chkN (·.nm) chk x l = Q at *
  clear hS hx
  obtain ⟨w1, hw1⟩ : ∃ w1, w1 = W.alloc (.cells (zrc x).toArray 59) := ⟨_, rfl⟩
  have b1 : Below W.heap.size W w1 := by rw [hw1]; exact Below.al (Below.refl _ _) _
  have hC : ∀ w', Below w1.heap.size w1 w' → w'.cell? ⟨B1, 0, none⟩ = some (.func (.func 40) #[] #[]) ∧ w'.cell? ⟨B2, 0, none⟩ = some (.func (.func 41) #[] #[]) ∧ ∀ (j : Nat) v, (zrc x)[j]? = some v → w'.cell? ⟨W.heap.size, j, none⟩ = some v := by
    intro w' h
    refine ⟨keepc h (keepc b1 h1), keepc h (keepc b1 h2), fun j v hj => keepc h ?_⟩
    have hh : w1.heap[W.heap.size]? = some (.cells (zrc x).toArray 59 (0, 0)) := by rw [hw1]; exact al_new rfl _
    simpa [World.cell?, hh] using hj
  obtain ⟨nm, ah, al, ia, il, ic, ifs⟩ := x
  simp only [zrc] at *
  obtain ⟨a1, a2, ax⟩ := hC w1 (Below.refl _ _)
  have a_0 := ax 0 _ rfl
  have a_1 := ax 1 _ rfl
  have a_2 := ax 2 _ rfl
  have a_3 := ax 3 _ rfl
  clear ax h1 h2
  have HW := Lib.hid hw1
  subst hw1
  have HQ := Lib.hid hr
  clear hr
  cases NB with
  | false =>
    go_enter Tryz.func94, Tryz.ntmps94
    go_wp2_with (go_at_call 40; with_reducible refine (cn _).mono ?_; rintro e w2 ⟨rfl, hb2⟩)
    go_wp2_with (go_at_call 95; with_reducible refine (cv _).mono ?_; rintro e w3 ⟨rfl, rfl⟩)
    go_ret
    exact ⟨by rw [HQ.out]; rfl, bel_via b1 hb2⟩
  | true =>
    go_enter Tryz.func94, Tryz.ntmps94
    go_wp2_with (first | (go_at_call 40; with_reducible refine (cn _).mono ?_; rintro e w2 ⟨rfl, hb2⟩; refine Hid.out ?_))
    have b2 := bel_via b1 hb2
    obtain ⟨d1, d2, dx⟩ := hC w2 hb2
    have ch2 := ch w2 b2
    have d_0 := dx 0 _ rfl
    have d_1 := dx 1 _ rfl
    have d_2 := dx 2 _ rfl
    have d_3 := dx 3 _ rfl
    clear dx a1 a2 a_0 a_1 a_2 a_3
    refine Lib.hid ?_
    go_wp2_with (first | (go_at_call 95; with_reducible refine (cv _).mono ?_; rintro e w3 ⟨rfl, rfl⟩) | (go_at_call 96; with_reducible refine ch2.mono ?_; rintro e w3 ⟨rfl, hb3⟩; refine Hid.out ?_))
    have b3 := bel_via b2 hb3
    obtain ⟨e1, e2, ex⟩ := hC w3 (bel_via hb2 hb3)
    have cc := hc w3 b3
    have e_0 := ex 0 _ rfl
    have e_1 := ex 1 _ rfl
    have e_2 := ex 2 _ rfl
    have e_3 := ex 3 _ rfl
    clear ex d1 d2 d_0 d_1 d_2 d_3 ch ch2 hC
    cases AB with
    | true =>
      refine Lib.hid ?_
      go_wp2
      go_ret
      exact ⟨by rw [HQ.out]; rfl, b3⟩
    | false =>
      refine Lib.hid ?_
      go_wp2_with (first | (go_at_call 41; with_reducible refine cc.mono ?_; rintro e w4 ⟨rfl, hb4⟩))
      go_ret
      exact ⟨by rw [HQ.out]; rfl, bel_via b3 hb4⟩
theorem eFn1_zon : ∀ args w, (callFunc 94 args).run Tryz.prog w = .ok (.enter 94 args) w := enters_of Tryz.func94 (by kernel_rfl) rfl

set_option maxHeartbeats 1000000 in
theorem named_zon (chk : ZR → List ZR → Int) (A : Option Addr) (n c : Nat) (l : List ZR) (hx : ∀ x ∈ l, x.nm.size ≤ 9223372036854775807) {w : World} (hS : Sl w 4 zrc A n l) (hnc : n ≤ c)
    (hc : ∀ W j x, l[j]? = some x → Below w.heap.size w W → Calls Tryz.prog 41 #[.agg (zrc x).toArray, .slice A j c] W fun e w' => e = .returned (.int .i64 (chk x (l.take j))) ∧ Below W.heap.size W w') :
    Calls Tryz.prog 39 #[.slice A n c, .func (.func 40) #[] #[], .func (.func 41) #[] #[]] w fun e w' => e = .returned (.int .i64 (firstP (chkN (·.nm) chk) l)) ∧ Below w.heap.size w w' := by
  have HS := Lib.hid hS
  have HC := Lib.hid hc
  have HX := Lib.hid hx
  clear hS hc hx
  go_enter Tryz.func39, Tryz.ntmps39
  go_wp2_with fail
  refine calls_gen fun W hW => ?_
  have hb : Below w.heap.size w W := by rw [hW]; repeat (first | exact Below.refl _ _ | apply Below.dr | apply Below.al)
  have hF : W.cell? ⟨w.heap.size, 0, none⟩ = some (.func (.func 40) #[] #[]) := by rw [hW]; simp [go_sem, World.cell?_alloc_past]
  have hK : W.cell? ⟨w.heap.size + 1, 0, none⟩ = some (.func (.func 41) #[] #[]) := by rw [hW]; simp [go_sem, World.cell?_alloc_past]
  clear hW
  have hS := HS.out.keep hb
  have cc := first_zon (chkN (·.nm) chk) 94 #[.pointer (some ⟨w.heap.size, 0, none⟩), .pointer (some ⟨w.heap.size + 1, 0, none⟩)] eFn1_zon A n c l hS hnc
    (fun W' j x hj hW' => fn1_zon chk _ _ x (HX.out x (List.mem_of_getElem? hj)) A j c (l.take j) ((hS.keep hW').front (by have := getE hj; have := hS.len; omega)) (keepc hW' hF) (keepc hW' hK) fun W2 h2 => HC.out W2 j x hj (bel_via (bel_via hb hW') h2))
  refine cc.mono ?_
  rintro e w' ⟨rfl, hb'⟩
  have hb2 := bel_via hb hb'
  clear cc
  go_wp2
  go_ret
  exact ⟨rfl, hb2⟩

theorem nm_obj (x : OR) {W : World} : Calls Tryz.prog 48 #[.agg (orc x).toArray] W fun e w' => e = .returned (.string x.nm) ∧ Below W.heap.size W w' := by
  obtain ⟨nm, ra, rl, rc, rs⟩ := x
  simp only [orc]
  go_enter Tryz.func48, Tryz.ntmps48
  go_wp2
  go_ret
  exact ⟨rfl, Below.al (Below.refl _ _) _⟩

theorem find1_obj (key : ByteArray) (B1 B2 : Nat) (x : OR) {W : World} (h1 : W.cell? ⟨B1, 0, none⟩ = some (.func (.func 48) #[] #[])) (h2 : W.cell? ⟨B2, 0, none⟩ = some (.string key)) :
    Calls Tryz.prog 159 #[.agg (orc x).toArray, .pointer (some ⟨B1, 0, none⟩), .pointer (some ⟨B2, 0, none⟩)] W fun e w' => e = .returned (.bool (eqs x.nm key)) ∧ Below W.heap.size W w' := by
  obtain ⟨nm, ra, rl, rc, rs⟩ := x
  have cn := fun (W : World) => nm_obj ⟨nm, ra, rl, rc, rs⟩ (W := W)
  simp only [orc, eqs] at *
  go_enter Tryz.func159, Tryz.ntmps159
  go_wp2
  generalize hW1 : W.alloc (.cells #[.string nm, .slice ra rl rc] 62) = W1
  have b1 : Below W.heap.size W W1 := by rw [← hW1]; exact Below.al (Below.refl _ _) _
  have g1 := cell_regrown (keepc b1 h1)
  have g2 := cell_regrown (keepc b1 h2)
  have q0 := cell_regrown (show W1.cell? ⟨W.heap.size, 0, none⟩ = some (.string nm) by rw [← hW1]; simp [go_sem])
  have q1 := cell_regrown (show W1.cell? ⟨W.heap.size, 1, none⟩ = some (.slice ra rl rc) by rw [← hW1]; simp [go_sem])
  have qc := fun d os => Calls.regrown_of (cn (grow (redrawn W1 d) os))
  clear hW1 cn h1 h2
  refine wp_region_quiet_below (by kernel_rfl) (by kernel_rfl) ?_
  repeat (first | go_big_quiet_skip | quiet_step (first | (go_at_call 48; with_reducible exact qc _ _)))
  refine wpQuiet_nil ?_
  intro _ hw'
  obtain ⟨⟨dq, osq⟩, hw''⟩ := hw'
  subst hw''
  have hbz := bel_via b1 (below_regrown W1 dq osq)
  go_wp2
  go_ret
  exact ⟨rfl, hbz⟩
theorem eFind1_obj : ∀ args w, (callFunc 159 args).run Tryz.prog w = .ok (.enter 159 args) w := enters_of Tryz.func159 (by kernel_rfl) rfl

def Z_obj : OR := default
def fnd_obj (key : ByteArray) (l : List OR) : OR := (l.find? fun x => eqs x.nm key).getD default
set_option maxHeartbeats 4000000 in
theorem find_obj (key : ByteArray) (A : Option Addr) (n c : Nat) (l : List OR) {w : World} (hS : Sl w 2 orc A n l) :
    Calls Tryz.prog 140 #[.slice A n c, .func (.func 48) #[] #[], .string key] w fun e w' => e = .returned (.tuple #[.agg (orc (fnd_obj key l)).toArray, .bool (l.any fun x => eqs x.nm key)]) ∧ Below w.heap.size w w' := by
  have HS := Lib.hid hS
  clear hS
  obtain ⟨V, hV⟩ : ∃ V, V = Value.tuple #[.agg (orc (fnd_obj key l)).toArray, .bool (l.any fun x => eqs x.nm key)] := ⟨_, rfl⟩
  rw [← hV]
  have HV := Lib.hid hV
  clear hV
  go_enter Tryz.func140, Tryz.ntmps140
  go_wp2_with fail
  refine calls_gen fun W hW => ?_
  have hb : Below w.heap.size w W := by rw [hW]; repeat (first | exact Below.refl _ _ | apply Below.dr | apply Below.al)
  have hF : W.cell? ⟨w.heap.size, 0, none⟩ = some (.func (.func 48) #[] #[]) := by rw [hW]; simp [go_sem, World.cell?_alloc_past]
  have hK : W.cell? ⟨w.heap.size + 1, 0, none⟩ = some (.string key) := by rw [hW]; simp [go_sem, World.cell?_alloc_past]
  have hR : W.heap[w.heap.size + 1 + 1]? = some (.cells #[.string { data := #[] }, .slice none 0 0] 62 (0, 0)) := by rw [hW]; exact al_new (by simp) _
  have hS := HS.out.keep hb
  have cc := idx_rows Tryz.li_obj Tryz.isAgg62 Tryz.sizeOf62 orc (fun _ => rfl) (fun x => eqs x.nm key) 159 #[.pointer (some ⟨w.heap.size, 0, none⟩), .pointer (some ⟨w.heap.size + 1, 0, none⟩)] eFind1_obj A n c l W
    (fun W' x hx hW' => find1_obj key _ _ x (keepc hW' hF) (keepc hW' hK)) hS
  change Calls Tryz.prog 133 _ _ _ at cc
  clear hW HS
  rcases pl_cases (fun x : OR => eqs x.nm key) l with ⟨hm, hf⟩ | ⟨j, x, hj, hp, hs, hf⟩
  · have hfi := find_miss hf
    have hv : fnd_obj key l = default := by unfold fnd_obj; rw [hfi]; rfl
    have ha := any_none hfi
    have HZ : Hid (V = Value.tuple #[.agg #[.string { data := #[] }, .slice none 0 0], .bool false]) := Lib.hid (by rw [HV.out, hv, ha]; rfl)
    rw [hm] at cc
    clear hf hm hfi hv ha hS HV
    refine cc.mono ?_
    rintro e w1 ⟨rfl, hb'⟩
    have hR1 : w1.heap[w.heap.size + 1 + 1]? = _ := (hb'.block _ (Array.getElem?_eq_some_iff.1 hR).1).trans hR
    have hb1 := bel_via hb hb'
    obtain ⟨r0, r1, z0, z1⟩ := cells2 hR1
    have hlt : w.heap.size + 1 + 1 < w1.heap.size := World.block_lt_of_cell? _ _ r0
    clear cc hF hK hR hb hb'
    go_wp2
    have hR2 := heap_set2 hR1 (.string { data := #[] }) (.slice none 0 0) 
    have hb2 := below_set (below_set (hb1) (B := w.heap.size + 1 + 1) (by omega) 0 (.string { data := #[] })) (B := w.heap.size + 1 + 1) (by omega) 1 (.slice none 0 0)
    generalize ((w1).setCell ⟨w.heap.size + 1 + 1, 0, none⟩ (.string { data := #[] })).setCell ⟨w.heap.size + 1 + 1, 1, none⟩ (.slice none 0 0) = wf at *
    obtain ⟨f0, f1, _, _⟩ := cells2 hR2
    have hlf : w.heap.size + 1 + 1 < wf.heap.size := (Array.getElem?_eq_some_iff.1 hR2).1
    have g0 := fun o => keepc (Below.al (Below.refl _ wf) o) f0
    have g1 := fun o => keepc (Below.al (Below.refl _ wf) o) f1
    exact bodyPost_ret (v := .tuple #[.agg #[.string { data := #[] }, .slice none 0 0], .bool false]) (by simp [results, Tryz.results140, go_sem, g0, g1]) rfl ⟨by rw [HZ.out], Below.al hb2 _⟩
  · have hfi := find_hit hj hs hf
    have hv : fnd_obj key l = x := by unfold fnd_obj; rw [hfi]; rfl
    have ha := any_some hfi
    have HZ0 : Hid (V = Value.tuple #[.agg (orc x).toArray, .bool true]) := Lib.hid (by rw [HV.out, hv, ha])
    rw [hp] at cc
    have hjn : j < n := by have := getE hj; have := hS.len; omega
    obtain ⟨b, off, hA, hlt0, hrow⟩ := hS.row (by omega)
    have hbig := hS.big
    subst hA
    refine cc.mono ?_
    rintro e w1 ⟨rfl, hb3⟩
    have hR1 : w1.heap[w.heap.size + 1 + 1]? = _ := (hb3.block _ (Array.getElem?_eq_some_iff.1 hR).1).trans hR
    have hb1 := bel_via hb hb3
    have r0 : w1.cell? ⟨b, off + j * 2, none⟩ = some (.string x.nm) := keepc hb3 (hrow j x hj 0 _ rfl)
    have r1 := keepc hb3 (hrow j x hj 1 _ rfl)
    obtain ⟨nm, ra, rl, rc, rs⟩ := x
    have HZ : Hid (V = Value.tuple #[.agg #[.string nm, .slice ra rl rc], .bool true]) := HZ0
    clear HZ0 HV
    obtain ⟨s0, s1, z0, z1⟩ := cells2 hR1
    have hlt : w.heap.size + 1 + 1 < w1.heap.size := World.block_lt_of_cell? _ _ s0
    have hltb : b < w1.heap.size := Nat.lt_of_lt_of_le hlt0 hb3.size
    clear cc hF hK hR hb hb3 hrow hS hf hs hp hj hfi hv ha hlt0
    go_wp2
    have hR2 := heap_set2 hR1 (.string nm) (.slice ra rl rc) 
    have hb2 := below_set (below_set (hb1) (B := w.heap.size + 1 + 1) (by omega) 0 (.string nm)) (B := w.heap.size + 1 + 1) (by omega) 1 (.slice ra rl rc)
    generalize ((w1).setCell ⟨w.heap.size + 1 + 1, 0, none⟩ (.string nm)).setCell ⟨w.heap.size + 1 + 1, 1, none⟩ (.slice ra rl rc) = wf at *
    obtain ⟨f0, f1, _, _⟩ := cells2 hR2
    exact bodyPost_ret (v := .tuple #[.agg #[.string nm, .slice ra rl rc], .bool true]) (by simp [results, Tryz.results140, go_sem, f0, f1]) rfl ⟨by rw [HZ.out], hb2⟩

set_option maxHeartbeats 1000000 in
theorem has_obj (key : ByteArray) (A : Option Addr) (n c : Nat) (l : List OR) {w : World} (hS : Sl w 2 orc A n l) :
    Calls Tryz.prog 102 #[.slice A n c, .func (.func 48) #[] #[], .string key] w fun e w' => e = .returned (.bool (l.any fun x => eqs x.nm key)) ∧ Below w.heap.size w w' := by
  have cc := find_obj key A n c l hS
  generalize fnd_obj key l = x at cc
  generalize (l.any fun x => eqs x.nm key) = r at *
  obtain ⟨nm, ra, rl, rc, rs⟩ := x
  simp only [orc] at cc
  clear hS
  go_enter Tryz.func102, Tryz.ntmps102
  go_wp2_with (go_at_call 140; with_reducible refine cc.mono ?_; rintro e w' ⟨rfl, hb'⟩)
  go_ret
  exact ⟨rfl, Below.al hb' _⟩

set_option maxHeartbeats 4000000 in
theorem fn1_obj (chk : OR → List OR → Int) (B1 B2 : Nat) (x : OR) (hx : x.nm.size ≤ 9223372036854775807) (A : Option Addr) (i c : Nat) (l : List OR) {W : World} (hS : Sl W 2 orc A i l) (h1 : W.cell? ⟨B1, 0, none⟩ = some (.func (.func 48) #[] #[])) (h2 : W.cell? ⟨B2, 0, none⟩ = some (.func (.func 49) #[] #[]))
    (hc : ∀ W', Below W.heap.size W W' → Calls Tryz.prog 49 #[.agg (orc x).toArray, .slice A i c] W' fun e w' => e = .returned (.int .i64 (chk x l)) ∧ Below W'.heap.size W' w') :
    Calls Tryz.prog 101 #[.agg (orc x).toArray, .slice A i c, .pointer (some ⟨B1, 0, none⟩), .pointer (some ⟨B2, 0, none⟩)] W fun e w' => e = .returned (.int .i64 (chkN (·.nm) chk x l)) ∧ Below W.heap.size W w' := by
  have cn := fun (W : World) => nm_obj x (W := W)
  have ch := fun W' (h : Below W.heap.size W W') => has_obj x.nm A i c l (hS.keep h)
  have cv := nameB_any x.nm hx
  have hr : chkN (·.nm) chk x l = if nmB x.nm = true then (if (l.any fun y => eqs y.nm x.nm) = true then 63 else chk x l) else 62 := rfl
  generalize nmB x.nm = NB at *
  generalize (l.any fun y => eqs y.nm x.nm) = AB at *
  generalize chk x l = R at *
  generalize chkN (·.nm) chk x l = Q at *
  clear hS hx
  obtain ⟨w1, hw1⟩ : ∃ w1, w1 = W.alloc (.cells (orc x).toArray 62) := ⟨_, rfl⟩
  have b1 : Below W.heap.size W w1 := by rw [hw1]; exact Below.al (Below.refl _ _) _
  have hC : ∀ w', Below w1.heap.size w1 w' → w'.cell? ⟨B1, 0, none⟩ = some (.func (.func 48) #[] #[]) ∧ w'.cell? ⟨B2, 0, none⟩ = some (.func (.func 49) #[] #[]) ∧ ∀ (j : Nat) v, (orc x)[j]? = some v → w'.cell? ⟨W.heap.size, j, none⟩ = some v := by
    intro w' h
    refine ⟨keepc h (keepc b1 h1), keepc h (keepc b1 h2), fun j v hj => keepc h ?_⟩
    have hh : w1.heap[W.heap.size]? = some (.cells (orc x).toArray 62 (0, 0)) := by rw [hw1]; exact al_new rfl _
    simpa [World.cell?, hh] using hj
  obtain ⟨nm, ra, rl, rc, rs⟩ := x
  simp only [orc] at *
  obtain ⟨a1, a2, ax⟩ := hC w1 (Below.refl _ _)
  have a_0 := ax 0 _ rfl
  have a_1 := ax 1 _ rfl
  clear ax h1 h2
  have HW := Lib.hid hw1
  subst hw1
  have HQ := Lib.hid hr
  clear hr
  cases NB with
  | false =>
    go_enter Tryz.func101, Tryz.ntmps101
    go_wp2_with (go_at_call 48; with_reducible refine (cn _).mono ?_; rintro e w2 ⟨rfl, hb2⟩)
    go_wp2_with (go_at_call 95; with_reducible refine (cv _).mono ?_; rintro e w3 ⟨rfl, rfl⟩)
    go_ret
    exact ⟨by rw [HQ.out]; rfl, bel_via b1 hb2⟩
  | true =>
    go_enter Tryz.func101, Tryz.ntmps101
    go_wp2_with (first | (go_at_call 48; with_reducible refine (cn _).mono ?_; rintro e w2 ⟨rfl, hb2⟩; refine Hid.out ?_))
    have b2 := bel_via b1 hb2
    obtain ⟨d1, d2, dx⟩ := hC w2 hb2
    have ch2 := ch w2 b2
    have d_0 := dx 0 _ rfl
    have d_1 := dx 1 _ rfl
    clear dx a1 a2 a_0 a_1
    refine Lib.hid ?_
    go_wp2_with (first | (go_at_call 95; with_reducible refine (cv _).mono ?_; rintro e w3 ⟨rfl, rfl⟩) | (go_at_call 102; with_reducible refine ch2.mono ?_; rintro e w3 ⟨rfl, hb3⟩; refine Hid.out ?_))
    have b3 := bel_via b2 hb3
    obtain ⟨e1, e2, ex⟩ := hC w3 (bel_via hb2 hb3)
    have cc := hc w3 b3
    have e_0 := ex 0 _ rfl
    have e_1 := ex 1 _ rfl
    clear ex d1 d2 d_0 d_1 ch ch2 hC
    cases AB with
    | true =>
      refine Lib.hid ?_
      go_wp2
      go_ret
      exact ⟨by rw [HQ.out]; rfl, b3⟩
    | false =>
      refine Lib.hid ?_
      go_wp2_with (first | (go_at_call 49; with_reducible refine cc.mono ?_; rintro e w4 ⟨rfl, hb4⟩))
      go_ret
      exact ⟨by rw [HQ.out]; rfl, bel_via b3 hb4⟩
theorem eFn1_obj : ∀ args w, (callFunc 101 args).run Tryz.prog w = .ok (.enter 101 args) w := enters_of Tryz.func101 (by kernel_rfl) rfl

set_option maxHeartbeats 1000000 in
theorem named_obj (chk : OR → List OR → Int) (A : Option Addr) (n c : Nat) (l : List OR) (hx : ∀ x ∈ l, x.nm.size ≤ 9223372036854775807) {w : World} (hS : Sl w 2 orc A n l) (hnc : n ≤ c)
    (hc : ∀ W j x, l[j]? = some x → Below w.heap.size w W → Calls Tryz.prog 49 #[.agg (orc x).toArray, .slice A j c] W fun e w' => e = .returned (.int .i64 (chk x (l.take j))) ∧ Below W.heap.size W w') :
    Calls Tryz.prog 47 #[.slice A n c, .func (.func 48) #[] #[], .func (.func 49) #[] #[]] w fun e w' => e = .returned (.int .i64 (firstP (chkN (·.nm) chk) l)) ∧ Below w.heap.size w w' := by
  have HS := Lib.hid hS
  have HC := Lib.hid hc
  have HX := Lib.hid hx
  clear hS hc hx
  go_enter Tryz.func47, Tryz.ntmps47
  go_wp2_with fail
  refine calls_gen fun W hW => ?_
  have hb : Below w.heap.size w W := by rw [hW]; repeat (first | exact Below.refl _ _ | apply Below.dr | apply Below.al)
  have hF : W.cell? ⟨w.heap.size, 0, none⟩ = some (.func (.func 48) #[] #[]) := by rw [hW]; simp [go_sem, World.cell?_alloc_past]
  have hK : W.cell? ⟨w.heap.size + 1, 0, none⟩ = some (.func (.func 49) #[] #[]) := by rw [hW]; simp [go_sem, World.cell?_alloc_past]
  clear hW
  have hS := HS.out.keep hb
  have cc := first_obj (chkN (·.nm) chk) 101 #[.pointer (some ⟨w.heap.size, 0, none⟩), .pointer (some ⟨w.heap.size + 1, 0, none⟩)] eFn1_obj A n c l hS hnc
    (fun W' j x hj hW' => fn1_obj chk _ _ x (HX.out x (List.mem_of_getElem? hj)) A j c (l.take j) ((hS.keep hW').front (by have := getE hj; have := hS.len; omega)) (keepc hW' hF) (keepc hW' hK) fun W2 h2 => HC.out W2 j x hj (bel_via (bel_via hb hW') h2))
  refine cc.mono ?_
  rintro e w' ⟨rfl, hb'⟩
  have hb2 := bel_via hb hb'
  clear cc
  go_wp2
  go_ret
  exact ⟨rfl, hb2⟩

theorem nm_srv (x : SR) {W : World} : Calls Tryz.prog 54 #[.agg (src x).toArray] W fun e w' => e = .returned (.string x.nm) ∧ Below W.heap.size W w' := by
  obtain ⟨nm, pr, fr, ti⟩ := x
  simp only [src]
  go_enter Tryz.func54, Tryz.ntmps54
  go_wp2
  go_ret
  exact ⟨rfl, Below.al (Below.refl _ _) _⟩

theorem find1_srv (key : ByteArray) (B1 B2 : Nat) (x : SR) {W : World} (h1 : W.cell? ⟨B1, 0, none⟩ = some (.func (.func 54) #[] #[])) (h2 : W.cell? ⟨B2, 0, none⟩ = some (.string key)) :
    Calls Tryz.prog 123 #[.agg (src x).toArray, .pointer (some ⟨B1, 0, none⟩), .pointer (some ⟨B2, 0, none⟩)] W fun e w' => e = .returned (.bool (eqs x.nm key)) ∧ Below W.heap.size W w' := by
  obtain ⟨nm, pr, fr, ti⟩ := x
  have cn := fun (W : World) => nm_srv ⟨nm, pr, fr, ti⟩ (W := W)
  simp only [src, eqs] at *
  go_enter Tryz.func123, Tryz.ntmps123
  go_wp2
  generalize hW1 : W.alloc (.cells #[.string nm, .int .i64 pr, .int .i64 fr, .int .i64 ti] 64) = W1
  have b1 : Below W.heap.size W W1 := by rw [← hW1]; exact Below.al (Below.refl _ _) _
  have g1 := cell_regrown (keepc b1 h1)
  have g2 := cell_regrown (keepc b1 h2)
  have q0 := cell_regrown (show W1.cell? ⟨W.heap.size, 0, none⟩ = some (.string nm) by rw [← hW1]; simp [go_sem])
  have q1 := cell_regrown (show W1.cell? ⟨W.heap.size, 1, none⟩ = some (.int .i64 pr) by rw [← hW1]; simp [go_sem])
  have q2 := cell_regrown (show W1.cell? ⟨W.heap.size, 2, none⟩ = some (.int .i64 fr) by rw [← hW1]; simp [go_sem])
  have q3 := cell_regrown (show W1.cell? ⟨W.heap.size, 3, none⟩ = some (.int .i64 ti) by rw [← hW1]; simp [go_sem])
  have qc := fun d os => Calls.regrown_of (cn (grow (redrawn W1 d) os))
  clear hW1 cn h1 h2
  refine wp_region_quiet_below (by kernel_rfl) (by kernel_rfl) ?_
  repeat (first | go_big_quiet_skip | quiet_step (first | (go_at_call 54; with_reducible exact qc _ _)))
  refine wpQuiet_nil ?_
  intro _ hw'
  obtain ⟨⟨dq, osq⟩, hw''⟩ := hw'
  subst hw''
  have hbz := bel_via b1 (below_regrown W1 dq osq)
  go_wp2
  go_ret
  exact ⟨rfl, hbz⟩
theorem eFind1_srv : ∀ args w, (callFunc 123 args).run Tryz.prog w = .ok (.enter 123 args) w := enters_of Tryz.func123 (by kernel_rfl) rfl

def Z_srv : SR := default
def fnd_srv (key : ByteArray) (l : List SR) : SR := (l.find? fun x => eqs x.nm key).getD default
set_option maxHeartbeats 4000000 in
theorem find_srv (key : ByteArray) (A : Option Addr) (n c : Nat) (l : List SR) {w : World} (hS : Sl w 4 src A n l) :
    Calls Tryz.prog 73 #[.slice A n c, .func (.func 54) #[] #[], .string key] w fun e w' => e = .returned (.tuple #[.agg (src (fnd_srv key l)).toArray, .bool (l.any fun x => eqs x.nm key)]) ∧ Below w.heap.size w w' := by
  have HS := Lib.hid hS
  clear hS
  obtain ⟨V, hV⟩ : ∃ V, V = Value.tuple #[.agg (src (fnd_srv key l)).toArray, .bool (l.any fun x => eqs x.nm key)] := ⟨_, rfl⟩
  rw [← hV]
  have HV := Lib.hid hV
  clear hV
  go_enter Tryz.func73, Tryz.ntmps73
  go_wp2_with fail
  refine calls_gen fun W hW => ?_
  have hb : Below w.heap.size w W := by rw [hW]; repeat (first | exact Below.refl _ _ | apply Below.dr | apply Below.al)
  have hF : W.cell? ⟨w.heap.size, 0, none⟩ = some (.func (.func 54) #[] #[]) := by rw [hW]; simp [go_sem, World.cell?_alloc_past]
  have hK : W.cell? ⟨w.heap.size + 1, 0, none⟩ = some (.string key) := by rw [hW]; simp [go_sem, World.cell?_alloc_past]
  have hR : W.heap[w.heap.size + 1 + 1]? = some (.cells #[.string { data := #[] }, .int .i64 0, .int .i64 0, .int .i64 0] 64 (0, 0)) := by rw [hW]; exact al_new (by simp) _
  have hS := HS.out.keep hb
  have cc := idx_rows Tryz.li_srv Tryz.isAgg64 Tryz.sizeOf64 src (fun _ => rfl) (fun x => eqs x.nm key) 123 #[.pointer (some ⟨w.heap.size, 0, none⟩), .pointer (some ⟨w.heap.size + 1, 0, none⟩)] eFind1_srv A n c l W
    (fun W' x hx hW' => find1_srv key _ _ x (keepc hW' hF) (keepc hW' hK)) hS
  change Calls Tryz.prog 122 _ _ _ at cc
  clear hW HS
  rcases pl_cases (fun x : SR => eqs x.nm key) l with ⟨hm, hf⟩ | ⟨j, x, hj, hp, hs, hf⟩
  · have hfi := find_miss hf
    have hv : fnd_srv key l = default := by unfold fnd_srv; rw [hfi]; rfl
    have ha := any_none hfi
    have HZ : Hid (V = Value.tuple #[.agg #[.string { data := #[] }, .int .i64 0, .int .i64 0, .int .i64 0], .bool false]) := Lib.hid (by rw [HV.out, hv, ha]; rfl)
    rw [hm] at cc
    clear hf hm hfi hv ha hS HV
    refine cc.mono ?_
    rintro e w1 ⟨rfl, hb'⟩
    have hR1 : w1.heap[w.heap.size + 1 + 1]? = _ := (hb'.block _ (Array.getElem?_eq_some_iff.1 hR).1).trans hR
    have hb1 := bel_via hb hb'
    obtain ⟨r0, r1, r2, r3, z0, z1, z2, z3⟩ := cells4 hR1
    have hlt : w.heap.size + 1 + 1 < w1.heap.size := World.block_lt_of_cell? _ _ r0
    clear cc hF hK hR hb hb'
    go_wp2
    have hR2 := heap_set4 hR1 (.string { data := #[] }) (.int .i64 0) (.int .i64 0) (.int .i64 0) 
    have hb2 := below_set (below_set (below_set (below_set (hb1) (B := w.heap.size + 1 + 1) (by omega) 0 (.string { data := #[] })) (B := w.heap.size + 1 + 1) (by omega) 1 (.int .i64 0)) (B := w.heap.size + 1 + 1) (by omega) 2 (.int .i64 0)) (B := w.heap.size + 1 + 1) (by omega) 3 (.int .i64 0)
    generalize ((((w1).setCell ⟨w.heap.size + 1 + 1, 0, none⟩ (.string { data := #[] })).setCell ⟨w.heap.size + 1 + 1, 1, none⟩ (.int .i64 0)).setCell ⟨w.heap.size + 1 + 1, 2, none⟩ (.int .i64 0)).setCell ⟨w.heap.size + 1 + 1, 3, none⟩ (.int .i64 0) = wf at *
    obtain ⟨f0, f1, f2, f3, _, _, _, _⟩ := cells4 hR2
    have hlf : w.heap.size + 1 + 1 < wf.heap.size := (Array.getElem?_eq_some_iff.1 hR2).1
    have g0 := fun o => keepc (Below.al (Below.refl _ wf) o) f0
    have g1 := fun o => keepc (Below.al (Below.refl _ wf) o) f1
    have g2 := fun o => keepc (Below.al (Below.refl _ wf) o) f2
    have g3 := fun o => keepc (Below.al (Below.refl _ wf) o) f3
    exact bodyPost_ret (v := .tuple #[.agg #[.string { data := #[] }, .int .i64 0, .int .i64 0, .int .i64 0], .bool false]) (by simp [results, Tryz.results73, go_sem, g0, g1, g2, g3]) rfl ⟨by rw [HZ.out], Below.al hb2 _⟩
  · have hfi := find_hit hj hs hf
    have hv : fnd_srv key l = x := by unfold fnd_srv; rw [hfi]; rfl
    have ha := any_some hfi
    have HZ0 : Hid (V = Value.tuple #[.agg (src x).toArray, .bool true]) := Lib.hid (by rw [HV.out, hv, ha])
    rw [hp] at cc
    have hjn : j < n := by have := getE hj; have := hS.len; omega
    obtain ⟨b, off, hA, hlt0, hrow⟩ := hS.row (by omega)
    have hbig := hS.big
    subst hA
    refine cc.mono ?_
    rintro e w1 ⟨rfl, hb3⟩
    have hR1 : w1.heap[w.heap.size + 1 + 1]? = _ := (hb3.block _ (Array.getElem?_eq_some_iff.1 hR).1).trans hR
    have hb1 := bel_via hb hb3
    have r0 : w1.cell? ⟨b, off + j * 4, none⟩ = some (.string x.nm) := keepc hb3 (hrow j x hj 0 _ rfl)
    have r1 := keepc hb3 (hrow j x hj 1 _ rfl)
    have r2 := keepc hb3 (hrow j x hj 2 _ rfl)
    have r3 := keepc hb3 (hrow j x hj 3 _ rfl)
    obtain ⟨nm, pr, fr, ti⟩ := x
    have HZ : Hid (V = Value.tuple #[.agg #[.string nm, .int .i64 pr, .int .i64 fr, .int .i64 ti], .bool true]) := HZ0
    clear HZ0 HV
    obtain ⟨s0, s1, s2, s3, z0, z1, z2, z3⟩ := cells4 hR1
    have hlt : w.heap.size + 1 + 1 < w1.heap.size := World.block_lt_of_cell? _ _ s0
    have hltb : b < w1.heap.size := Nat.lt_of_lt_of_le hlt0 hb3.size
    clear cc hF hK hR hb hb3 hrow hS hf hs hp hj hfi hv ha hlt0
    go_wp2
    have hR2 := heap_set4 hR1 (.string nm) (.int .i64 pr) (.int .i64 fr) (.int .i64 ti) 
    have hb2 := below_set (below_set (below_set (below_set (hb1) (B := w.heap.size + 1 + 1) (by omega) 0 (.string nm)) (B := w.heap.size + 1 + 1) (by omega) 1 (.int .i64 pr)) (B := w.heap.size + 1 + 1) (by omega) 2 (.int .i64 fr)) (B := w.heap.size + 1 + 1) (by omega) 3 (.int .i64 ti)
    generalize ((((w1).setCell ⟨w.heap.size + 1 + 1, 0, none⟩ (.string nm)).setCell ⟨w.heap.size + 1 + 1, 1, none⟩ (.int .i64 pr)).setCell ⟨w.heap.size + 1 + 1, 2, none⟩ (.int .i64 fr)).setCell ⟨w.heap.size + 1 + 1, 3, none⟩ (.int .i64 ti) = wf at *
    obtain ⟨f0, f1, f2, f3, _, _, _, _⟩ := cells4 hR2
    exact bodyPost_ret (v := .tuple #[.agg #[.string nm, .int .i64 pr, .int .i64 fr, .int .i64 ti], .bool true]) (by simp [results, Tryz.results73, go_sem, f0, f1, f2, f3]) rfl ⟨by rw [HZ.out], hb2⟩

set_option maxHeartbeats 1000000 in
theorem has_srv (key : ByteArray) (A : Option Addr) (n c : Nat) (l : List SR) {w : World} (hS : Sl w 4 src A n l) :
    Calls Tryz.prog 110 #[.slice A n c, .func (.func 54) #[] #[], .string key] w fun e w' => e = .returned (.bool (l.any fun x => eqs x.nm key)) ∧ Below w.heap.size w w' := by
  have cc := find_srv key A n c l hS
  generalize fnd_srv key l = x at cc
  generalize (l.any fun x => eqs x.nm key) = r at *
  obtain ⟨nm, pr, fr, ti⟩ := x
  simp only [src] at cc
  clear hS
  go_enter Tryz.func110, Tryz.ntmps110
  go_wp2_with (go_at_call 73; with_reducible refine cc.mono ?_; rintro e w' ⟨rfl, hb'⟩)
  go_ret
  exact ⟨rfl, Below.al hb' _⟩

set_option maxHeartbeats 4000000 in
theorem fn1_srv (chk : SR → List SR → Int) (B1 B2 : Nat) (x : SR) (hx : x.nm.size ≤ 9223372036854775807) (A : Option Addr) (i c : Nat) (l : List SR) {W : World} (hS : Sl W 4 src A i l) (h1 : W.cell? ⟨B1, 0, none⟩ = some (.func (.func 54) #[] #[])) (h2 : W.cell? ⟨B2, 0, none⟩ = some (.func (.func 55) #[] #[]))
    (hc : ∀ W', Below W.heap.size W W' → Calls Tryz.prog 55 #[.agg (src x).toArray, .slice A i c] W' fun e w' => e = .returned (.int .i64 (chk x l)) ∧ Below W'.heap.size W' w') :
    Calls Tryz.prog 109 #[.agg (src x).toArray, .slice A i c, .pointer (some ⟨B1, 0, none⟩), .pointer (some ⟨B2, 0, none⟩)] W fun e w' => e = .returned (.int .i64 (chkN (·.nm) chk x l)) ∧ Below W.heap.size W w' := by
  have cn := fun (W : World) => nm_srv x (W := W)
  have ch := fun W' (h : Below W.heap.size W W') => has_srv x.nm A i c l (hS.keep h)
  have cv := nameB_any x.nm hx
  have hr : chkN (·.nm) chk x l = if nmB x.nm = true then (if (l.any fun y => eqs y.nm x.nm) = true then 63 else chk x l) else 62 := rfl
  generalize nmB x.nm = NB at *
  generalize (l.any fun y => eqs y.nm x.nm) = AB at *
  generalize chk x l = R at *
  generalize chkN (·.nm) chk x l = Q at *
  clear hS hx
  obtain ⟨w1, hw1⟩ : ∃ w1, w1 = W.alloc (.cells (src x).toArray 64) := ⟨_, rfl⟩
  have b1 : Below W.heap.size W w1 := by rw [hw1]; exact Below.al (Below.refl _ _) _
  have hC : ∀ w', Below w1.heap.size w1 w' → w'.cell? ⟨B1, 0, none⟩ = some (.func (.func 54) #[] #[]) ∧ w'.cell? ⟨B2, 0, none⟩ = some (.func (.func 55) #[] #[]) ∧ ∀ (j : Nat) v, (src x)[j]? = some v → w'.cell? ⟨W.heap.size, j, none⟩ = some v := by
    intro w' h
    refine ⟨keepc h (keepc b1 h1), keepc h (keepc b1 h2), fun j v hj => keepc h ?_⟩
    have hh : w1.heap[W.heap.size]? = some (.cells (src x).toArray 64 (0, 0)) := by rw [hw1]; exact al_new rfl _
    simpa [World.cell?, hh] using hj
  obtain ⟨nm, pr, fr, ti⟩ := x
  simp only [src] at *
  obtain ⟨a1, a2, ax⟩ := hC w1 (Below.refl _ _)
  have a_0 := ax 0 _ rfl
  have a_1 := ax 1 _ rfl
  have a_2 := ax 2 _ rfl
  have a_3 := ax 3 _ rfl
  clear ax h1 h2
  have HW := Lib.hid hw1
  subst hw1
  have HQ := Lib.hid hr
  clear hr
  cases NB with
  | false =>
    go_enter Tryz.func109, Tryz.ntmps109
    go_wp2_with (go_at_call 54; with_reducible refine (cn _).mono ?_; rintro e w2 ⟨rfl, hb2⟩)
    go_wp2_with (go_at_call 95; with_reducible refine (cv _).mono ?_; rintro e w3 ⟨rfl, rfl⟩)
    go_ret
    exact ⟨by rw [HQ.out]; rfl, bel_via b1 hb2⟩
  | true =>
    go_enter Tryz.func109, Tryz.ntmps109
    go_wp2_with (first | (go_at_call 54; with_reducible refine (cn _).mono ?_; rintro e w2 ⟨rfl, hb2⟩; refine Hid.out ?_))
    have b2 := bel_via b1 hb2
    obtain ⟨d1, d2, dx⟩ := hC w2 hb2
    have ch2 := ch w2 b2
    have d_0 := dx 0 _ rfl
    have d_1 := dx 1 _ rfl
    have d_2 := dx 2 _ rfl
    have d_3 := dx 3 _ rfl
    clear dx a1 a2 a_0 a_1 a_2 a_3
    refine Lib.hid ?_
    go_wp2_with (first | (go_at_call 95; with_reducible refine (cv _).mono ?_; rintro e w3 ⟨rfl, rfl⟩) | (go_at_call 110; with_reducible refine ch2.mono ?_; rintro e w3 ⟨rfl, hb3⟩; refine Hid.out ?_))
    have b3 := bel_via b2 hb3
    obtain ⟨e1, e2, ex⟩ := hC w3 (bel_via hb2 hb3)
    have cc := hc w3 b3
    have e_0 := ex 0 _ rfl
    have e_1 := ex 1 _ rfl
    have e_2 := ex 2 _ rfl
    have e_3 := ex 3 _ rfl
    clear ex d1 d2 d_0 d_1 d_2 d_3 ch ch2 hC
    cases AB with
    | true =>
      refine Lib.hid ?_
      go_wp2
      go_ret
      exact ⟨by rw [HQ.out]; rfl, b3⟩
    | false =>
      refine Lib.hid ?_
      go_wp2_with (first | (go_at_call 55; with_reducible refine cc.mono ?_; rintro e w4 ⟨rfl, hb4⟩))
      go_ret
      exact ⟨by rw [HQ.out]; rfl, bel_via b3 hb4⟩
theorem eFn1_srv : ∀ args w, (callFunc 109 args).run Tryz.prog w = .ok (.enter 109 args) w := enters_of Tryz.func109 (by kernel_rfl) rfl

set_option maxHeartbeats 1000000 in
theorem named_srv (chk : SR → List SR → Int) (A : Option Addr) (n c : Nat) (l : List SR) (hx : ∀ x ∈ l, x.nm.size ≤ 9223372036854775807) {w : World} (hS : Sl w 4 src A n l) (hnc : n ≤ c)
    (hc : ∀ W j x, l[j]? = some x → Below w.heap.size w W → Calls Tryz.prog 55 #[.agg (src x).toArray, .slice A j c] W fun e w' => e = .returned (.int .i64 (chk x (l.take j))) ∧ Below W.heap.size W w') :
    Calls Tryz.prog 53 #[.slice A n c, .func (.func 54) #[] #[], .func (.func 55) #[] #[]] w fun e w' => e = .returned (.int .i64 (firstP (chkN (·.nm) chk) l)) ∧ Below w.heap.size w w' := by
  have HS := Lib.hid hS
  have HC := Lib.hid hc
  have HX := Lib.hid hx
  clear hS hc hx
  go_enter Tryz.func53, Tryz.ntmps53
  go_wp2_with fail
  refine calls_gen fun W hW => ?_
  have hb : Below w.heap.size w W := by rw [hW]; repeat (first | exact Below.refl _ _ | apply Below.dr | apply Below.al)
  have hF : W.cell? ⟨w.heap.size, 0, none⟩ = some (.func (.func 54) #[] #[]) := by rw [hW]; simp [go_sem, World.cell?_alloc_past]
  have hK : W.cell? ⟨w.heap.size + 1, 0, none⟩ = some (.func (.func 55) #[] #[]) := by rw [hW]; simp [go_sem, World.cell?_alloc_past]
  clear hW
  have hS := HS.out.keep hb
  have cc := first_srv (chkN (·.nm) chk) 109 #[.pointer (some ⟨w.heap.size, 0, none⟩), .pointer (some ⟨w.heap.size + 1, 0, none⟩)] eFn1_srv A n c l hS hnc
    (fun W' j x hj hW' => fn1_srv chk _ _ x (HX.out x (List.mem_of_getElem? hj)) A j c (l.take j) ((hS.keep hW').front (by have := getE hj; have := hS.len; omega)) (keepc hW' hF) (keepc hW' hK) fun W2 h2 => HC.out W2 j x hj (bel_via (bel_via hb hW') h2))
  refine cc.mono ?_
  rintro e w' ⟨rfl, hb'⟩
  have hb2 := bel_via hb hb'
  clear cc
  go_wp2
  go_ret
  exact ⟨rfl, hb2⟩

theorem nm_lim (x : LR) {W : World} : Calls Tryz.prog 58 #[.agg (lrc x).toArray] W fun e w' => e = .returned (.string x.nm) ∧ Below W.heap.size W w' := by
  obtain ⟨nm, ra, bu, sg⟩ := x
  simp only [lrc]
  go_enter Tryz.func58, Tryz.ntmps58
  go_wp2
  go_ret
  exact ⟨rfl, Below.al (Below.refl _ _) _⟩

theorem find1_lim (key : ByteArray) (B1 B2 : Nat) (x : LR) {W : World} (h1 : W.cell? ⟨B1, 0, none⟩ = some (.func (.func 58) #[] #[])) (h2 : W.cell? ⟨B2, 0, none⟩ = some (.string key)) :
    Calls Tryz.prog 165 #[.agg (lrc x).toArray, .pointer (some ⟨B1, 0, none⟩), .pointer (some ⟨B2, 0, none⟩)] W fun e w' => e = .returned (.bool (eqs x.nm key)) ∧ Below W.heap.size W w' := by
  obtain ⟨nm, ra, bu, sg⟩ := x
  have cn := fun (W : World) => nm_lim ⟨nm, ra, bu, sg⟩ (W := W)
  simp only [lrc, eqs] at *
  go_enter Tryz.func165, Tryz.ntmps165
  go_wp2
  generalize hW1 : W.alloc (.cells #[.string nm, .int .i64 ra, .int .i64 bu, .bool sg] 66) = W1
  have b1 : Below W.heap.size W W1 := by rw [← hW1]; exact Below.al (Below.refl _ _) _
  have g1 := cell_regrown (keepc b1 h1)
  have g2 := cell_regrown (keepc b1 h2)
  have q0 := cell_regrown (show W1.cell? ⟨W.heap.size, 0, none⟩ = some (.string nm) by rw [← hW1]; simp [go_sem])
  have q1 := cell_regrown (show W1.cell? ⟨W.heap.size, 1, none⟩ = some (.int .i64 ra) by rw [← hW1]; simp [go_sem])
  have q2 := cell_regrown (show W1.cell? ⟨W.heap.size, 2, none⟩ = some (.int .i64 bu) by rw [← hW1]; simp [go_sem])
  have q3 := cell_regrown (show W1.cell? ⟨W.heap.size, 3, none⟩ = some (.bool sg) by rw [← hW1]; simp [go_sem])
  have qc := fun d os => Calls.regrown_of (cn (grow (redrawn W1 d) os))
  clear hW1 cn h1 h2
  refine wp_region_quiet_below (by kernel_rfl) (by kernel_rfl) ?_
  repeat (first | go_big_quiet_skip | quiet_step (first | (go_at_call 58; with_reducible exact qc _ _)))
  refine wpQuiet_nil ?_
  intro _ hw'
  obtain ⟨⟨dq, osq⟩, hw''⟩ := hw'
  subst hw''
  have hbz := bel_via b1 (below_regrown W1 dq osq)
  go_wp2
  go_ret
  exact ⟨rfl, hbz⟩
theorem eFind1_lim : ∀ args w, (callFunc 165 args).run Tryz.prog w = .ok (.enter 165 args) w := enters_of Tryz.func165 (by kernel_rfl) rfl

def Z_lim : LR := default
def fnd_lim (key : ByteArray) (l : List LR) : LR := (l.find? fun x => eqs x.nm key).getD default
set_option maxHeartbeats 4000000 in
theorem find_lim (key : ByteArray) (A : Option Addr) (n c : Nat) (l : List LR) {w : World} (hS : Sl w 4 lrc A n l) :
    Calls Tryz.prog 149 #[.slice A n c, .func (.func 58) #[] #[], .string key] w fun e w' => e = .returned (.tuple #[.agg (lrc (fnd_lim key l)).toArray, .bool (l.any fun x => eqs x.nm key)]) ∧ Below w.heap.size w w' := by
  have HS := Lib.hid hS
  clear hS
  obtain ⟨V, hV⟩ : ∃ V, V = Value.tuple #[.agg (lrc (fnd_lim key l)).toArray, .bool (l.any fun x => eqs x.nm key)] := ⟨_, rfl⟩
  rw [← hV]
  have HV := Lib.hid hV
  clear hV
  go_enter Tryz.func149, Tryz.ntmps149
  go_wp2_with fail
  refine calls_gen fun W hW => ?_
  have hb : Below w.heap.size w W := by rw [hW]; repeat (first | exact Below.refl _ _ | apply Below.dr | apply Below.al)
  have hF : W.cell? ⟨w.heap.size, 0, none⟩ = some (.func (.func 58) #[] #[]) := by rw [hW]; simp [go_sem, World.cell?_alloc_past]
  have hK : W.cell? ⟨w.heap.size + 1, 0, none⟩ = some (.string key) := by rw [hW]; simp [go_sem, World.cell?_alloc_past]
  have hR : W.heap[w.heap.size + 1 + 1]? = some (.cells #[.string { data := #[] }, .int .i64 0, .int .i64 0, .bool false] 66 (0, 0)) := by rw [hW]; exact al_new (by simp) _
  have hS := HS.out.keep hb
  have cc := idx_rows Tryz.li_lim Tryz.isAgg66 Tryz.sizeOf66 lrc (fun _ => rfl) (fun x => eqs x.nm key) 165 #[.pointer (some ⟨w.heap.size, 0, none⟩), .pointer (some ⟨w.heap.size + 1, 0, none⟩)] eFind1_lim A n c l W
    (fun W' x hx hW' => find1_lim key _ _ x (keepc hW' hF) (keepc hW' hK)) hS
  change Calls Tryz.prog 164 _ _ _ at cc
  clear hW HS
  rcases pl_cases (fun x : LR => eqs x.nm key) l with ⟨hm, hf⟩ | ⟨j, x, hj, hp, hs, hf⟩
  · have hfi := find_miss hf
    have hv : fnd_lim key l = default := by unfold fnd_lim; rw [hfi]; rfl
    have ha := any_none hfi
    have HZ : Hid (V = Value.tuple #[.agg #[.string { data := #[] }, .int .i64 0, .int .i64 0, .bool false], .bool false]) := Lib.hid (by rw [HV.out, hv, ha]; rfl)
    rw [hm] at cc
    clear hf hm hfi hv ha hS HV
    refine cc.mono ?_
    rintro e w1 ⟨rfl, hb'⟩
    have hR1 : w1.heap[w.heap.size + 1 + 1]? = _ := (hb'.block _ (Array.getElem?_eq_some_iff.1 hR).1).trans hR
    have hb1 := bel_via hb hb'
    obtain ⟨r0, r1, r2, r3, z0, z1, z2, z3⟩ := cells4 hR1
    have hlt : w.heap.size + 1 + 1 < w1.heap.size := World.block_lt_of_cell? _ _ r0
    clear cc hF hK hR hb hb'
    go_wp2
    have hR2 := heap_set4 hR1 (.string { data := #[] }) (.int .i64 0) (.int .i64 0) (.bool false) 
    have hb2 := below_set (below_set (below_set (below_set (hb1) (B := w.heap.size + 1 + 1) (by omega) 0 (.string { data := #[] })) (B := w.heap.size + 1 + 1) (by omega) 1 (.int .i64 0)) (B := w.heap.size + 1 + 1) (by omega) 2 (.int .i64 0)) (B := w.heap.size + 1 + 1) (by omega) 3 (.bool false)
    generalize ((((w1).setCell ⟨w.heap.size + 1 + 1, 0, none⟩ (.string { data := #[] })).setCell ⟨w.heap.size + 1 + 1, 1, none⟩ (.int .i64 0)).setCell ⟨w.heap.size + 1 + 1, 2, none⟩ (.int .i64 0)).setCell ⟨w.heap.size + 1 + 1, 3, none⟩ (.bool false) = wf at *
    obtain ⟨f0, f1, f2, f3, _, _, _, _⟩ := cells4 hR2
    have hlf : w.heap.size + 1 + 1 < wf.heap.size := (Array.getElem?_eq_some_iff.1 hR2).1
    have g0 := fun o => keepc (Below.al (Below.refl _ wf) o) f0
    have g1 := fun o => keepc (Below.al (Below.refl _ wf) o) f1
    have g2 := fun o => keepc (Below.al (Below.refl _ wf) o) f2
    have g3 := fun o => keepc (Below.al (Below.refl _ wf) o) f3
    exact bodyPost_ret (v := .tuple #[.agg #[.string { data := #[] }, .int .i64 0, .int .i64 0, .bool false], .bool false]) (by simp [results, Tryz.results149, go_sem, g0, g1, g2, g3]) rfl ⟨by rw [HZ.out], Below.al hb2 _⟩
  · have hfi := find_hit hj hs hf
    have hv : fnd_lim key l = x := by unfold fnd_lim; rw [hfi]; rfl
    have ha := any_some hfi
    have HZ0 : Hid (V = Value.tuple #[.agg (lrc x).toArray, .bool true]) := Lib.hid (by rw [HV.out, hv, ha])
    rw [hp] at cc
    have hjn : j < n := by have := getE hj; have := hS.len; omega
    obtain ⟨b, off, hA, hlt0, hrow⟩ := hS.row (by omega)
    have hbig := hS.big
    subst hA
    refine cc.mono ?_
    rintro e w1 ⟨rfl, hb3⟩
    have hR1 : w1.heap[w.heap.size + 1 + 1]? = _ := (hb3.block _ (Array.getElem?_eq_some_iff.1 hR).1).trans hR
    have hb1 := bel_via hb hb3
    have r0 : w1.cell? ⟨b, off + j * 4, none⟩ = some (.string x.nm) := keepc hb3 (hrow j x hj 0 _ rfl)
    have r1 := keepc hb3 (hrow j x hj 1 _ rfl)
    have r2 := keepc hb3 (hrow j x hj 2 _ rfl)
    have r3 := keepc hb3 (hrow j x hj 3 _ rfl)
    obtain ⟨nm, ra, bu, sg⟩ := x
    have HZ : Hid (V = Value.tuple #[.agg #[.string nm, .int .i64 ra, .int .i64 bu, .bool sg], .bool true]) := HZ0
    clear HZ0 HV
    obtain ⟨s0, s1, s2, s3, z0, z1, z2, z3⟩ := cells4 hR1
    have hlt : w.heap.size + 1 + 1 < w1.heap.size := World.block_lt_of_cell? _ _ s0
    have hltb : b < w1.heap.size := Nat.lt_of_lt_of_le hlt0 hb3.size
    clear cc hF hK hR hb hb3 hrow hS hf hs hp hj hfi hv ha hlt0
    go_wp2
    have hR2 := heap_set4 hR1 (.string nm) (.int .i64 ra) (.int .i64 bu) (.bool sg) 
    have hb2 := below_set (below_set (below_set (below_set (hb1) (B := w.heap.size + 1 + 1) (by omega) 0 (.string nm)) (B := w.heap.size + 1 + 1) (by omega) 1 (.int .i64 ra)) (B := w.heap.size + 1 + 1) (by omega) 2 (.int .i64 bu)) (B := w.heap.size + 1 + 1) (by omega) 3 (.bool sg)
    generalize ((((w1).setCell ⟨w.heap.size + 1 + 1, 0, none⟩ (.string nm)).setCell ⟨w.heap.size + 1 + 1, 1, none⟩ (.int .i64 ra)).setCell ⟨w.heap.size + 1 + 1, 2, none⟩ (.int .i64 bu)).setCell ⟨w.heap.size + 1 + 1, 3, none⟩ (.bool sg) = wf at *
    obtain ⟨f0, f1, f2, f3, _, _, _, _⟩ := cells4 hR2
    exact bodyPost_ret (v := .tuple #[.agg #[.string nm, .int .i64 ra, .int .i64 bu, .bool sg], .bool true]) (by simp [results, Tryz.results149, go_sem, f0, f1, f2, f3]) rfl ⟨by rw [HZ.out], hb2⟩

set_option maxHeartbeats 1000000 in
theorem has_lim (key : ByteArray) (A : Option Addr) (n c : Nat) (l : List LR) {w : World} (hS : Sl w 4 lrc A n l) :
    Calls Tryz.prog 113 #[.slice A n c, .func (.func 58) #[] #[], .string key] w fun e w' => e = .returned (.bool (l.any fun x => eqs x.nm key)) ∧ Below w.heap.size w w' := by
  have cc := find_lim key A n c l hS
  generalize fnd_lim key l = x at cc
  generalize (l.any fun x => eqs x.nm key) = r at *
  obtain ⟨nm, ra, bu, sg⟩ := x
  simp only [lrc] at cc
  clear hS
  go_enter Tryz.func113, Tryz.ntmps113
  go_wp2_with (go_at_call 149; with_reducible refine cc.mono ?_; rintro e w' ⟨rfl, hb'⟩)
  go_ret
  exact ⟨rfl, Below.al hb' _⟩

set_option maxHeartbeats 4000000 in
theorem fn1_lim (chk : LR → List LR → Int) (B1 B2 : Nat) (x : LR) (hx : x.nm.size ≤ 9223372036854775807) (A : Option Addr) (i c : Nat) (l : List LR) {W : World} (hS : Sl W 4 lrc A i l) (h1 : W.cell? ⟨B1, 0, none⟩ = some (.func (.func 58) #[] #[])) (h2 : W.cell? ⟨B2, 0, none⟩ = some (.func (.func 59) #[] #[]))
    (hc : ∀ W', Below W.heap.size W W' → Calls Tryz.prog 59 #[.agg (lrc x).toArray, .slice A i c] W' fun e w' => e = .returned (.int .i64 (chk x l)) ∧ Below W'.heap.size W' w') :
    Calls Tryz.prog 112 #[.agg (lrc x).toArray, .slice A i c, .pointer (some ⟨B1, 0, none⟩), .pointer (some ⟨B2, 0, none⟩)] W fun e w' => e = .returned (.int .i64 (chkN (·.nm) chk x l)) ∧ Below W.heap.size W w' := by
  have cn := fun (W : World) => nm_lim x (W := W)
  have ch := fun W' (h : Below W.heap.size W W') => has_lim x.nm A i c l (hS.keep h)
  have cv := nameB_any x.nm hx
  have hr : chkN (·.nm) chk x l = if nmB x.nm = true then (if (l.any fun y => eqs y.nm x.nm) = true then 63 else chk x l) else 62 := rfl
  generalize nmB x.nm = NB at *
  generalize (l.any fun y => eqs y.nm x.nm) = AB at *
  generalize chk x l = R at *
  generalize chkN (·.nm) chk x l = Q at *
  clear hS hx
  obtain ⟨w1, hw1⟩ : ∃ w1, w1 = W.alloc (.cells (lrc x).toArray 66) := ⟨_, rfl⟩
  have b1 : Below W.heap.size W w1 := by rw [hw1]; exact Below.al (Below.refl _ _) _
  have hC : ∀ w', Below w1.heap.size w1 w' → w'.cell? ⟨B1, 0, none⟩ = some (.func (.func 58) #[] #[]) ∧ w'.cell? ⟨B2, 0, none⟩ = some (.func (.func 59) #[] #[]) ∧ ∀ (j : Nat) v, (lrc x)[j]? = some v → w'.cell? ⟨W.heap.size, j, none⟩ = some v := by
    intro w' h
    refine ⟨keepc h (keepc b1 h1), keepc h (keepc b1 h2), fun j v hj => keepc h ?_⟩
    have hh : w1.heap[W.heap.size]? = some (.cells (lrc x).toArray 66 (0, 0)) := by rw [hw1]; exact al_new rfl _
    simpa [World.cell?, hh] using hj
  obtain ⟨nm, ra, bu, sg⟩ := x
  simp only [lrc] at *
  obtain ⟨a1, a2, ax⟩ := hC w1 (Below.refl _ _)
  have a_0 := ax 0 _ rfl
  have a_1 := ax 1 _ rfl
  have a_2 := ax 2 _ rfl
  have a_3 := ax 3 _ rfl
  clear ax h1 h2
  have HW := Lib.hid hw1
  subst hw1
  have HQ := Lib.hid hr
  clear hr
  cases NB with
  | false =>
    go_enter Tryz.func112, Tryz.ntmps112
    go_wp2_with (go_at_call 58; with_reducible refine (cn _).mono ?_; rintro e w2 ⟨rfl, hb2⟩)
    go_wp2_with (go_at_call 95; with_reducible refine (cv _).mono ?_; rintro e w3 ⟨rfl, rfl⟩)
    go_ret
    exact ⟨by rw [HQ.out]; rfl, bel_via b1 hb2⟩
  | true =>
    go_enter Tryz.func112, Tryz.ntmps112
    go_wp2_with (first | (go_at_call 58; with_reducible refine (cn _).mono ?_; rintro e w2 ⟨rfl, hb2⟩; refine Hid.out ?_))
    have b2 := bel_via b1 hb2
    obtain ⟨d1, d2, dx⟩ := hC w2 hb2
    have ch2 := ch w2 b2
    have d_0 := dx 0 _ rfl
    have d_1 := dx 1 _ rfl
    have d_2 := dx 2 _ rfl
    have d_3 := dx 3 _ rfl
    clear dx a1 a2 a_0 a_1 a_2 a_3
    refine Lib.hid ?_
    go_wp2_with (first | (go_at_call 95; with_reducible refine (cv _).mono ?_; rintro e w3 ⟨rfl, rfl⟩) | (go_at_call 113; with_reducible refine ch2.mono ?_; rintro e w3 ⟨rfl, hb3⟩; refine Hid.out ?_))
    have b3 := bel_via b2 hb3
    obtain ⟨e1, e2, ex⟩ := hC w3 (bel_via hb2 hb3)
    have cc := hc w3 b3
    have e_0 := ex 0 _ rfl
    have e_1 := ex 1 _ rfl
    have e_2 := ex 2 _ rfl
    have e_3 := ex 3 _ rfl
    clear ex d1 d2 d_0 d_1 d_2 d_3 ch ch2 hC
    cases AB with
    | true =>
      refine Lib.hid ?_
      go_wp2
      go_ret
      exact ⟨by rw [HQ.out]; rfl, b3⟩
    | false =>
      refine Lib.hid ?_
      go_wp2_with (first | (go_at_call 59; with_reducible refine cc.mono ?_; rintro e w4 ⟨rfl, hb4⟩))
      go_ret
      exact ⟨by rw [HQ.out]; rfl, bel_via b3 hb4⟩
theorem eFn1_lim : ∀ args w, (callFunc 112 args).run Tryz.prog w = .ok (.enter 112 args) w := enters_of Tryz.func112 (by kernel_rfl) rfl

set_option maxHeartbeats 1000000 in
theorem named_lim (chk : LR → List LR → Int) (A : Option Addr) (n c : Nat) (l : List LR) (hx : ∀ x ∈ l, x.nm.size ≤ 9223372036854775807) {w : World} (hS : Sl w 4 lrc A n l) (hnc : n ≤ c)
    (hc : ∀ W j x, l[j]? = some x → Below w.heap.size w W → Calls Tryz.prog 59 #[.agg (lrc x).toArray, .slice A j c] W fun e w' => e = .returned (.int .i64 (chk x (l.take j))) ∧ Below W.heap.size W w') :
    Calls Tryz.prog 57 #[.slice A n c, .func (.func 58) #[] #[], .func (.func 59) #[] #[]] w fun e w' => e = .returned (.int .i64 (firstP (chkN (·.nm) chk) l)) ∧ Below w.heap.size w w' := by
  have HS := Lib.hid hS
  have HC := Lib.hid hc
  have HX := Lib.hid hx
  clear hS hc hx
  go_enter Tryz.func57, Tryz.ntmps57
  go_wp2_with fail
  refine calls_gen fun W hW => ?_
  have hb : Below w.heap.size w W := by rw [hW]; repeat (first | exact Below.refl _ _ | apply Below.dr | apply Below.al)
  have hF : W.cell? ⟨w.heap.size, 0, none⟩ = some (.func (.func 58) #[] #[]) := by rw [hW]; simp [go_sem, World.cell?_alloc_past]
  have hK : W.cell? ⟨w.heap.size + 1, 0, none⟩ = some (.func (.func 59) #[] #[]) := by rw [hW]; simp [go_sem, World.cell?_alloc_past]
  clear hW
  have hS := HS.out.keep hb
  have cc := first_lim (chkN (·.nm) chk) 112 #[.pointer (some ⟨w.heap.size, 0, none⟩), .pointer (some ⟨w.heap.size + 1, 0, none⟩)] eFn1_lim A n c l hS hnc
    (fun W' j x hj hW' => fn1_lim chk _ _ x (HX.out x (List.mem_of_getElem? hj)) A j c (l.take j) ((hS.keep hW').front (by have := getE hj; have := hS.len; omega)) (keepc hW' hF) (keepc hW' hK) fun W2 h2 => HC.out W2 j x hj (bel_via (bel_via hb hW') h2))
  refine cc.mono ?_
  rintro e w' ⟨rfl, hb'⟩
  have hb2 := bel_via hb hb'
  clear cc
  go_wp2
  go_ret
  exact ⟨rfl, hb2⟩
end Go.Proofs.YtmnnjkdmnfadhaaGreatDoor
