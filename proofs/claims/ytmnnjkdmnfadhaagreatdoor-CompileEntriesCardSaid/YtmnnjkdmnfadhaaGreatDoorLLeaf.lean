/- within, limits, services, meanings; by-name template (gen_lleaf.py). -/
import Derived.Test.YtmnnjkdmnfadhaaGreatDoorLCheck
namespace Go.Proofs.YtmnnjkdmnfadhaaGreatDoor
open Go.Shelf Go.RowKit Go.Lib Go.Sort
set_option linter.unusedVariables false
set_option linter.unusedSimpArgs false

def wiB (n a b : Int) : Bool := decide (a ≤ n) && decide (n ≤ b)
theorem within_any (n a b : Int) (w : World) : Calls Tryz.prog 42 #[.int .i64 n, .int .i64 a, .int .i64 b] w fun e w' => e = .returned (.bool (wiB n a b)) ∧ w = w' := by
  unfold wiB
  by_cases h : a ≤ n
  · go_enter Tryz.func42, Tryz.ntmps42
    go_wp2
    go_ret
    exact ⟨by simp [h], rfl⟩
  · have hd : decide (a ≤ n) = false := by simpa using h
    go_enter Tryz.func42, Tryz.ntmps42
    go_wp2
    go_ret
    exact ⟨by simp [h], rfl⟩
def portedP (p : Int) : Bool := p == 6 || p == 17
theorem ported_any (p : Int) (w : World) : Calls Tryz.prog 56 #[.int .i64 p] w fun e w' => e = .returned (.bool (portedP p)) ∧ w = w' := by
  unfold portedP
  by_cases h : p = 6
  · subst h
    go_enter Tryz.func56, Tryz.ntmps56
    go_wp2
    go_ret
    exact ⟨by simp, rfl⟩
  · have hb : (p == 6) = false := by simp [h]
    go_enter Tryz.func56, Tryz.ntmps56
    go_wp2
    go_ret
    exact ⟨by simp [hb], rfl⟩

def limChk (x : LR) (_ : List LR) : Int := if wiB x.rate 0 1048576 = true then (if wiB x.burst 1 1048576 = true then 0 else 61) else 61
set_option maxHeartbeats 1000000 in
theorem lim1_any (x : LR) (A : Option Addr) (j c : Nat) (l : List LR) {W : World} : Calls Tryz.prog 59 #[.agg (lrc x).toArray, .slice A j c] W fun e w' => e = .returned (.int .i64 (limChk x l)) ∧ Below W.heap.size W w' := by
  obtain ⟨nm, ra, bu, sg⟩ := x
  have c1 := within_any ra 0 1048576
  have c2 := within_any bu 1 1048576
  have hr : limChk ⟨nm, ra, bu, sg⟩ l = if wiB ra 0 1048576 = true then (if wiB bu 1 1048576 = true then 0 else 61) else 61 := rfl
  rw [hr]
  clear hr
  generalize wiB ra 0 1048576 = r1 at *
  generalize wiB bu 1 1048576 = r2 at *
  simp only [lrc]
  cases r1 with
  | false =>
    go_enter Tryz.func59, Tryz.ntmps59
    go_wp2_with (go_at_call 42; first | (with_reducible refine (c1 _).mono ?_; rintro e w' ⟨rfl, rfl⟩))
    go_ret
    exact ⟨rfl, Below.al (Below.refl _ _) _⟩
  | true =>
    cases r2 with
    | false =>
      go_enter Tryz.func59, Tryz.ntmps59
      go_wp2_with (go_at_call 42; first | (with_reducible refine (c1 _).mono ?_; rintro e w' ⟨rfl, rfl⟩) | (with_reducible refine (c2 _).mono ?_; rintro e w' ⟨rfl, rfl⟩))
      go_ret
      exact ⟨rfl, Below.al (Below.refl _ _) _⟩
    | true =>
      go_enter Tryz.func59, Tryz.ntmps59
      go_wp2_with (go_at_call 42; first | (with_reducible refine (c1 _).mono ?_; rintro e w' ⟨rfl, rfl⟩) | (with_reducible refine (c2 _).mono ?_; rintro e w' ⟨rfl, rfl⟩))
      go_ret
      exact ⟨rfl, Below.al (Below.refl _ _) _⟩

/- Meanings: words that stand for numbers. -/
structure MR where
  wd : ByteArray
  nu : Int
instance : Inhabited MR := ⟨⟨ByteArray.empty, 0⟩⟩
def mrc (m : MR) : List Value := [.string m.wd, .int .i64 m.nu]
theorem mval_any (x : MR) {W : World} : Calls Tryz.prog 76 #[.agg (mrc x).toArray] W fun e w' => e = .returned (.int .i64 x.nu) ∧ Below W.heap.size W w' := by
  obtain ⟨wd, nu⟩ := x
  simp only [mrc]
  go_enter Tryz.func76, Tryz.ntmps76
  go_wp2
  go_ret
  exact ⟨rfl, Below.al (Below.refl _ _) _⟩
theorem find1_mea (key : Int) (B1 B2 : Nat) (x : MR) {W : World} (h1 : W.cell? ⟨B1, 0, none⟩ = some (.func (.func 76) #[] #[])) (h2 : W.cell? ⟨B2, 0, none⟩ = some (.int .i64 key)) :
    Calls Tryz.prog 154 #[.agg (mrc x).toArray, .pointer (some ⟨B1, 0, none⟩), .pointer (some ⟨B2, 0, none⟩)] W fun e w' => e = .returned (.bool (x.nu == key)) ∧ Below W.heap.size W w' := by
  obtain ⟨wd, nu⟩ := x
  have cn := fun (W : World) => mval_any ⟨wd, nu⟩ (W := W)
  simp only [mrc] at *
  go_enter Tryz.func154, Tryz.ntmps154
  go_wp2
  generalize hW1 : W.alloc (.cells #[.string wd, .int .i64 nu] 125) = W1
  have b1 : Below W.heap.size W W1 := by rw [← hW1]; exact Below.al (Below.refl _ _) _
  have g1 := cell_regrown (keepc b1 h1)
  have g2 := cell_regrown (keepc b1 h2)
  have q0 := cell_regrown (show W1.cell? ⟨W.heap.size, 0, none⟩ = some (.string wd) by rw [← hW1]; simp [go_sem])
  have q1 := cell_regrown (show W1.cell? ⟨W.heap.size, 1, none⟩ = some (.int .i64 nu) by rw [← hW1]; simp [go_sem])
  have qc := fun d os => Calls.regrown_of (cn (grow (redrawn W1 d) os))
  clear hW1 cn h1 h2
  refine wp_region_quiet_below (by kernel_rfl) (by kernel_rfl) ?_
  repeat (first | go_big_quiet_skip | quiet_step (first | (go_at_call 76; with_reducible exact qc _ _)))
  refine wpQuiet_nil ?_
  intro _ hw'
  obtain ⟨⟨dq, osq⟩, hw''⟩ := hw'
  subst hw''
  have hbz := bel_via b1 (below_regrown W1 dq osq)
  go_wp2
  go_ret
  exact ⟨rfl, hbz⟩
theorem eFind1_mea : ∀ args w, (callFunc 154 args).run Tryz.prog w = .ok (.enter 154 args) w := enters_of Tryz.func154 (by kernel_rfl) rfl
set_option maxHeartbeats 4000000 in
theorem find_mea (key : Int) (A : Option Addr) (n c : Nat) (l : List MR) {w : World} (hS : Sl w 2 mrc A n l) :
    Calls Tryz.prog 124 #[.slice A n c, .func (.func 76) #[] #[], .int .i64 key] w fun e w' => e = .returned (.tuple #[.agg (mrc ((l.find? fun x => x.nu == key).getD default)).toArray, .bool (l.any fun x => x.nu == key)]) ∧ Below w.heap.size w w' := by
  have HS := Lib.hid hS
  clear hS
  obtain ⟨V, hV⟩ : ∃ V, V = Value.tuple #[.agg (mrc ((l.find? fun x => x.nu == key).getD default)).toArray, .bool (l.any fun x => x.nu == key)] := ⟨_, rfl⟩
  rw [← hV]
  have HV := Lib.hid hV
  clear hV
  go_enter Tryz.func124, Tryz.ntmps124
  go_wp2_with fail
  refine calls_gen fun W hW => ?_
  have hb : Below w.heap.size w W := by rw [hW]; repeat (first | exact Below.refl _ _ | apply Below.dr | apply Below.al)
  have hF : W.cell? ⟨w.heap.size, 0, none⟩ = some (.func (.func 76) #[] #[]) := by rw [hW]; simp [go_sem, World.cell?_alloc_past]
  have hK : W.cell? ⟨w.heap.size + 1, 0, none⟩ = some (.int .i64 key) := by rw [hW]; simp [go_sem, World.cell?_alloc_past]
  have hR : W.heap[w.heap.size + 1 + 1]? = some (.cells #[.string { data := #[] }, .int .i64 0] 125 (0, 0)) := by rw [hW]; exact al_new (by simp) _
  have hS := HS.out.keep hb
  have cc := idx_rows Tryz.li_mea Tryz.isAgg125 Tryz.sizeOf125 mrc (fun _ => rfl) (fun x => x.nu == key) 154 #[.pointer (some ⟨w.heap.size, 0, none⟩), .pointer (some ⟨w.heap.size + 1, 0, none⟩)] eFind1_mea A n c l W
    (fun W' x hx hW' => find1_mea key _ _ x (keepc hW' hF) (keepc hW' hK)) hS
  change Calls Tryz.prog 153 _ _ _ at cc
  clear hW HS
  rcases pl_cases (fun x : MR => x.nu == key) l with ⟨hm, hf⟩ | ⟨j, x, hj, hp, hs, hf⟩
  · have hfi := find_miss hf
    have ha := any_none hfi
    have HZ : Hid (V = Value.tuple #[.agg #[.string { data := #[] }, .int .i64 0], .bool false]) := Lib.hid (by rw [HV.out, hfi, ha]; rfl)
    rw [hm] at cc
    clear hf hm hfi ha hS HV
    refine cc.mono ?_
    rintro e w1 ⟨rfl, hb'⟩
    have hR1 : w1.heap[w.heap.size + 1 + 1]? = _ := (hb'.block _ (Array.getElem?_eq_some_iff.1 hR).1).trans hR
    have hb1 := bel_via hb hb'
    obtain ⟨r0, r1, z0, z1⟩ := cells2 hR1
    have hlt : w.heap.size + 1 + 1 < w1.heap.size := World.block_lt_of_cell? _ _ r0
    clear cc hF hK hR hb hb'
    go_wp2
    have hR2 := heap_set2 hR1 (.string { data := #[] }) (.int .i64 0)
    have hb2 := below_set (below_set hb1 (B := w.heap.size + 1 + 1) (by omega) 0 (.string { data := #[] })) (B := w.heap.size + 1 + 1) (by omega) 1 (.int .i64 0)
    generalize (w1.setCell ⟨w.heap.size + 1 + 1, 0, none⟩ (.string { data := #[] })).setCell ⟨w.heap.size + 1 + 1, 1, none⟩ (.int .i64 0) = wf at *
    obtain ⟨f0, f1, _, _⟩ := cells2 hR2
    have hlf : w.heap.size + 1 + 1 < wf.heap.size := (Array.getElem?_eq_some_iff.1 hR2).1
    have g0 := fun o => keepc (Below.al (Below.refl _ wf) o) f0
    have g1 := fun o => keepc (Below.al (Below.refl _ wf) o) f1
    exact bodyPost_ret (v := .tuple #[.agg #[.string { data := #[] }, .int .i64 0], .bool false]) (by simp [results, Tryz.results124, go_sem, g0, g1]) rfl ⟨by rw [HZ.out], Below.al hb2 _⟩
  · have hfi := find_hit hj hs hf
    have ha := any_some hfi
    have HZ0 : Hid (V = Value.tuple #[.agg (mrc x).toArray, .bool true]) := Lib.hid (by rw [HV.out, hfi, ha]; rfl)
    rw [hp] at cc
    have hjn : j < n := by have := getE hj; have := hS.len; omega
    obtain ⟨b, off, hA, hlt0, hrow⟩ := hS.row (by omega)
    have hbig := hS.big
    subst hA
    refine cc.mono ?_
    rintro e w1 ⟨rfl, hb3⟩
    have hR1 : w1.heap[w.heap.size + 1 + 1]? = _ := (hb3.block _ (Array.getElem?_eq_some_iff.1 hR).1).trans hR
    have hb1 := bel_via hb hb3
    have r0 : w1.cell? ⟨b, off + j * 2, none⟩ = some (.string x.wd) := keepc hb3 (hrow j x hj 0 _ rfl)
    have r1 := keepc hb3 (hrow j x hj 1 _ rfl)
    obtain ⟨wd, nu⟩ := x
    have HZ : Hid (V = Value.tuple #[.agg #[.string wd, .int .i64 nu], .bool true]) := HZ0
    clear HZ0 HV
    obtain ⟨s0, s1, z0, z1⟩ := cells2 hR1
    have hlt : w.heap.size + 1 + 1 < w1.heap.size := World.block_lt_of_cell? _ _ s0
    have hltb : b < w1.heap.size := Nat.lt_of_lt_of_le hlt0 hb3.size
    clear cc hF hK hR hb hb3 hrow hS hf hs hp hj hfi ha hlt0
    go_wp2
    have hR2 := heap_set2 hR1 (.string wd) (.int .i64 nu)
    have hb2 := below_set (below_set hb1 (B := w.heap.size + 1 + 1) (by omega) 0 (.string wd)) (B := w.heap.size + 1 + 1) (by omega) 1 (.int .i64 nu)
    generalize (w1.setCell ⟨w.heap.size + 1 + 1, 0, none⟩ (.string wd)).setCell ⟨w.heap.size + 1 + 1, 1, none⟩ (.int .i64 nu) = wf at *
    obtain ⟨f0, f1, _, _⟩ := cells2 hR2
    exact bodyPost_ret (v := .tuple #[.agg #[.string wd, .int .i64 nu], .bool true]) (by simp [results, Tryz.results124, go_sem, f0, f1]) rfl ⟨by rw [HZ.out], hb2⟩
set_option maxHeartbeats 1000000 in
theorem has_mea (key : Int) (A : Option Addr) (n c : Nat) (l : List MR) {w : World} (hS : Sl w 2 mrc A n l) :
    Calls Tryz.prog 74 #[.slice A n c, .func (.func 76) #[] #[], .int .i64 key] w fun e w' => e = .returned (.bool (l.any fun x => x.nu == key)) ∧ Below w.heap.size w w' := by
  have cc := find_mea key A n c l hS
  generalize (l.find? fun x => x.nu == key).getD default = x at cc
  generalize (l.any fun x => x.nu == key) = r at *
  obtain ⟨wd, nu⟩ := x
  simp only [mrc] at cc
  clear hS
  go_enter Tryz.func74, Tryz.ntmps74
  go_wp2_with (go_at_call 124; with_reducible refine cc.mono ?_; rintro e w' ⟨rfl, hb'⟩)
  go_ret
  exact ⟨rfl, Below.al hb' _⟩

def accS : ByteArray := { data := #[97, 99, 99, 101, 112, 116] }
def drpS : ByteArray := { data := #[100, 114, 111, 112] }
def rejS : ByteArray := { data := #[114, 101, 106, 101, 99, 116] }
/-- A slice of meanings that a call has made. -/
def Made (w : World) (l : List MR) (e : Ending) (w' : World) : Prop := ∃ (g n c : Nat), e = .returned (.slice (some ⟨g, 0, none⟩) n c) ∧ Sl w' 2 mrc (some ⟨g, 0, none⟩) n l ∧ Below w.heap.size w w'
theorem defaults_any (w : World) : Calls Tryz.prog 77 #[] w fun e w' => e = .returned (.slice (some ⟨w.heap.size, 0, none⟩) 2 2) ∧ w' = w.alloc (.cells #[.string accS, .int .i64 1, .string drpS, .int .i64 2] 125) := by
  go_enter Tryz.func77, Tryz.ntmps77
  go_wp2
  go_ret
  exact ⟨rfl, rfl⟩
end Go.Proofs.YtmnnjkdmnfadhaaGreatDoor
