/- Ranges of objects, services: the program's; by-name template (gen_lobj.py). -/
import Derived.Test.YtmnnjkdmnfadhaaGreatDoorLRul
import Derived.Test.YtmnnjkdmnfadhaaGreatDoorARngD
namespace Go.Proofs.YtmnnjkdmnfadhaaGreatDoor
open Go.Shelf Go.RowKit Go.Lib Go.Sort
set_option linter.unusedVariables false
set_option linter.unusedSimpArgs false

set_option maxHeartbeats 4000000 in
theorem first_rng (chk : R4 → List R4 → Int) (g : Nat) (lb : Array Value) (eg : ∀ args w, (callFunc g args).run Tryz.prog w = .ok (.enter g args) w) (A : Option Addr) (n c : Nat) (l : List R4) {w : World} (hS : Sl w 4 r4c A n l) (hnc : n ≤ c)
    (hp : ∀ W j x, l[j]? = some x → Below w.heap.size w W → Calls Tryz.prog g (#[.agg (r4c x).toArray, .slice A j c] ++ lb) W fun e w' => e = .returned (.int .i64 (chk x (l.take j))) ∧ Below W.heap.size W w') :
    Calls Tryz.prog 50 #[.slice A n c, .func (.func g) #[] lb] w fun e w' => e = .returned (.int .i64 (firstP chk l)) ∧ Below w.heap.size w w' := by
  have hbig := hS.big
  by_cases h0 : n = 0
  · subst h0
    obtain rfl : l = [] := List.eq_nil_of_length_eq_zero hS.len
    clear hS hp
    go_enter Tryz.func50, Tryz.ntmps50
    go_wp2
    refine wp_loop_rounds 1 ?_
    rw [rounds_succ]
    go_wp2
    go_ret
    exact ⟨rfl, Below.refl _ _⟩
  · obtain ⟨b, off, hA, hlt, hrow⟩ := hS.row (by omega)
    have hlen := hS.len
    subst hA
    clear hS h0
    have HL := Lib.hid hlen
    clear hlen
    have HP := Lib.hid hp
    have HR := Lib.hid hrow
    clear hp hrow
    go_enter Tryz.func50, Tryz.ntmps50
    go_wp2
    go_loopw [10] (fun vi wr => ∃ i : Nat, i ≤ n ∧ vi = .int .i64 i ∧ Aside (∀ (j : Nat) (x : R4), j < i → l[j]? = some x → chk x (l.take j) = 0) ∧ Below w.heap.size w wr) (fun vi _ => n - (intOf vi).toNat)
    case atStart => exact ⟨0, by omega, rfl, fun j x hj => absurd hj (Nat.not_lt_zero _), Below.refl _ _⟩
    case round =>
      obtain ⟨i, hi, rfl, N, hb⟩ := hrel
      by_cases hlti : i < n
      · obtain ⟨x, hx⟩ : ∃ x, l[i]? = some x := ⟨_, List.getElem?_eq_getElem (by rw [HL.out]; exact hlti)⟩
        have hcell := fun j v hv => keepc hb (HR.out i x hx j v hv)
        have hblk : b < wr.heap.size := Nat.lt_of_lt_of_le hlt hb.size
        have cc := fun W hW => HP.out W i x hx hW
        obtain ⟨r, hr⟩ : ∃ r, r = chk x (l.take i) := ⟨_, rfl⟩
        rw [← hr] at cc
        have HX := Lib.hid hx
        have HY := Lib.hid hr
        clear hx hr HP HR
        obtain ⟨fh, fl, th, tl⟩ := x
        have r0 : wr.cell? ⟨b, off + i * 4, none⟩ = some (.int .u64 fh) := hcell 0 _ rfl
        have r1 := hcell 1 _ rfl
        have r2 := hcell 2 _ rfl
        have r3 := hcell 3 _ rfl
        clear hcell
        simp only [r4c] at cc
        have hic : i ≤ c := by omega
        go_wp2
        generalize hW1 : wr.alloc (.cells #[.int .u64 fh, .int .u64 fl, .int .u64 th, .int .u64 tl] 45) = W1
        have b1 : Below wr.heap.size wr W1 := by rw [← hW1]; exact Below.al (Below.refl _ _) _
        have q0 := cell_regrown (show W1.cell? ⟨wr.heap.size, 0, none⟩ = some (.int .u64 fh) by rw [← hW1]; simp [go_sem])
        have q1 := cell_regrown (show W1.cell? ⟨wr.heap.size, 1, none⟩ = some (.int .u64 fl) by rw [← hW1]; simp [go_sem])
        have q2 := cell_regrown (show W1.cell? ⟨wr.heap.size, 2, none⟩ = some (.int .u64 th) by rw [← hW1]; simp [go_sem])
        have q3 := cell_regrown (show W1.cell? ⟨wr.heap.size, 3, none⟩ = some (.int .u64 tl) by rw [← hW1]; simp [go_sem])
        have qc := fun d os => Calls.regrown_of (cc (grow (redrawn W1 d) os) (bel_via (bel_via hb b1) (below_regrown _ _ _)))
        clear hW1 cc r0 r1 r2 r3
        refine wp_region_quiet_below (by kernel_rfl) (by kernel_rfl) ?_
        repeat (first | go_big_quiet_skip | quiet_step (first | (go_at_fn g; with_reducible exact qc _ _)))
        refine wpQuiet_nil ?_
        intro _ hw'
        obtain ⟨⟨dq, osq⟩, hw''⟩ := hw'
        subst hw''
        have hbz := bel_via (bel_via hb b1) (below_regrown W1 dq osq)
        clear qc
        by_cases hr0 : r = 0
        · subst hr0
          go_wp2
          go_roundw
          case rel => exact ⟨i + 1, by omega, by go_num, fun j y hj hy => by
            by_cases e : j = i
            · subst e; rw [HX.out] at hy; cases hy; exact HY.out.symm
            · exact N.out j y (by omega) hy, hbz⟩
          case measure => simp [intOf]; omega
        · have hr1 : (r != 0) = true := by simp [hr0]
          go_wp2
          go_ret
          exact ⟨by rw [firstP_hit HX.out (by rw [← HY.out]; exact hr0) N.out, ← HY.out]; rfl, hbz⟩
      · obtain rfl : i = n := by omega
        clear hlti HP HR
        go_wp2
        go_ret
        exact ⟨by rw [firstP_all fun j x hj => N.out j x (by have := getE hj; rw [HL.out] at this; exact this) hj]; rfl, hb⟩

def RW (r : R4) : Prop := Word r.fh ∧ Word r.fl ∧ Word r.th ∧ Word r.tl
/-- What PrintRange has against a range. -/
def rngE (r : R4) : Int := if 0 < cmpA r.fh r.fl r.th r.tl ∨ is4I r.fh r.fl ≠ is4I r.th r.tl then 31 else 0
theorem word_nat {x : Int} (h : Word x) : ∃ n : Nat, x = (n : Int) ∧ n < 18446744073709551616 := by
  obtain ⟨n, rfl⟩ := Int.eq_ofNat_of_zero_le h.1
  exact ⟨n, rfl, by have := h.2; omega⟩
def RngPost (r : R4) (w : World) (e : Ending) (w' : World) : Prop := ∃ S : ByteArray, e = .returned (.tuple #[.string S, .int .i64 (rngE r)]) ∧ Below w.heap.size w w'
theorem prE_any (r : R4) (hr : RW r) {w : World} (hG : Glob w) : Calls Tryz.prog 52 #[.agg (r4c r).toArray] w (RngPost r w) := by
  obtain ⟨fh, fl, th, tl⟩ := r
  obtain ⟨h0, h1, h2, h3⟩ := hr
  obtain ⟨fh, rfl, k0⟩ := word_nat h0
  obtain ⟨fl, rfl, k1⟩ := word_nat h1
  obtain ⟨th, rfl, k2⟩ := word_nat h2
  obtain ⟨tl, rfl, k3⟩ := word_nat h3
  unfold RngPost rngE
  by_cases hc : 0 < cmpA (fh : Int) fl th tl ∨ is4I (fh : Int) fl ≠ is4I (th : Int) tl
  · simp only
    rw [if_pos hc]
    exact (prange_bad fh fl th tl k0 k1 k2 k3 hc w).mono fun e w' ⟨he, hb⟩ => ⟨_, he, hb⟩
  · simp only
    rw [if_neg hc]
    exact (prange_ok fh fl th tl k0 k1 k2 k3 (by by_cases h : 0 < cmpA (fh : Int) fl th tl; exact absurd (Or.inl h) hc; omega) (by by_cases h : is4I (fh : Int) fl = is4I (th : Int) tl; exact h; exact absurd (Or.inr h) hc) hG).mono fun e w' ⟨S, he, hb, _⟩ => ⟨S, he, hb⟩
theorem rprE_any (r : R4) (hr : RW r) (w : World) : Calls Tryz.prog 83 #[.agg (r4c r).toArray] w (RngPost r w) := by
  obtain ⟨fh, fl, th, tl⟩ := r
  obtain ⟨h0, h1, h2, h3⟩ := hr
  obtain ⟨fh, rfl, k0⟩ := word_nat h0
  obtain ⟨fl, rfl, k1⟩ := word_nat h1
  obtain ⟨th, rfl, k2⟩ := word_nat h2
  obtain ⟨tl, rfl, k3⟩ := word_nat h3
  unfold RngPost rngE
  by_cases hc : 0 < cmpA (fh : Int) fl th tl ∨ is4I (fh : Int) fl ≠ is4I (th : Int) tl
  · simp only
    rw [if_pos hc]
    exact (rprange_bad fh fl th tl k0 k1 k2 k3 hc w).mono fun e w' ⟨he, hb⟩ => ⟨_, he, hb⟩
  · simp only
    rw [if_neg hc]
    exact (rprange_ok fh fl th tl k0 k1 k2 k3 (by by_cases h : 0 < cmpA (fh : Int) fl th tl; exact absurd (Or.inl h) hc; omega) (by by_cases h : is4I (fh : Int) fl = is4I (th : Int) tl; exact h; exact absurd (Or.inr h) hc) w).mono fun e w' ⟨S, he, hb, _⟩ => ⟨S, he, hb⟩

theorem obj11_any (r : R4) (hr : RW r) (A : Option Addr) (j c : Nat) {W : World} (hG : Glob W) :
    Calls Tryz.prog 51 #[.agg (r4c r).toArray, .slice A j c] W fun e w' => e = .returned (.int .i64 (rngE r)) ∧ Below W.heap.size W w' := by
  have b1 : Below W.heap.size W (W.alloc (.cells (r4c r).toArray 45)) := Below.al (Below.refl _ _) _
  have cc := prE_any r hr (hG.on b1)
  unfold RngPost at cc
  generalize rngE r = E at *
  obtain ⟨fh, fl, th, tl⟩ := r
  simp only [r4c] at *
  clear hG hr
  go_enter Tryz.func51, Tryz.ntmps51
  go_wp2_with (go_at_call 52; go_loud (with_reducible refine cc.mono ?_); rintro e w1 ⟨S, rfl, hb⟩)
  go_ret
  exact ⟨rfl, bel_via b1 hb⟩
theorem eObj11 : ∀ args w, (callFunc 51 args).run Tryz.prog w = .ok (.enter 51 args) w := enters_of Tryz.func51 (by kernel_rfl) rfl

def objChk (x : OR) (_ : List OR) : Int := if wiB x.rl 1 8 = true then firstP (fun r _ => rngE r) x.rs else 1
set_option maxHeartbeats 2000000 in
theorem obj1_any (x : OR) (A : Option Addr) (j c : Nat) (l : List OR) {W : World} (hG : Glob W) (hx : Sl W 4 r4c x.ra x.rl x.rs) (hcx : x.rl ≤ x.rc) (hrw : ∀ r ∈ x.rs, RW r) :
    Calls Tryz.prog 49 #[.agg (orc x).toArray, .slice A j c] W fun e w' => e = .returned (.int .i64 (objChk x l)) ∧ Below W.heap.size W w' := by
  have b1 : Below W.heap.size W (W.alloc (.cells (orc x).toArray 62)) := Below.al (Below.refl _ _) _
  have cf := first_rng (fun r _ => rngE r) 51 #[] eObj11 x.ra x.rl x.rc x.rs (hx.keep b1) hcx
    (fun W' i r hr hW' => obj11_any r (hrw r (List.mem_of_getElem? hr)) x.ra i x.rc (hG.on (bel_via b1 hW')))
  have c1 := fun w => within_any x.rl 1 8 w
  unfold objChk
  generalize firstP (fun r _ => rngE r) x.rs = R at *
  have hbig := hx.big
  clear hx hcx hrw hG
  obtain ⟨nm, ra, rl, rc, rs⟩ := x
  simp only [orc] at *
  generalize wiB (rl : Int) 1 8 = K1 at *
  cases K1 <;>
  ( go_enter Tryz.func49, Tryz.ntmps49
    go_wp2_with (first | (go_at_call 42; with_reducible refine (c1 _).mono ?_; rintro e w1 ⟨rfl, rfl⟩) | (go_at_call 50; go_loud (with_reducible refine cf.mono ?_); rintro e w2 ⟨rfl, hb2⟩))
    go_ret
    first | exact ⟨by simp, bel_via b1 hb2⟩ | exact ⟨by simp, b1⟩)

def srvChk (x : SR) (_ : List SR) : Int := if wiB x.proto 0 255 = true then (if wiB x.frm 0 65535 = true then (if wiB x.til x.frm 65535 = true then (if portedP x.proto = true then 0 else if x.frm = 0 then (if x.til = 65535 then 0 else 61) else 61) else 61) else 61) else 61
set_option maxHeartbeats 4000000 in
theorem srv1_any (x : SR) (A : Option Addr) (j c : Nat) (l : List SR) {W : World} : Calls Tryz.prog 55 #[.agg (src x).toArray, .slice A j c] W fun e w' => e = .returned (.int .i64 (srvChk x l)) ∧ Below W.heap.size W w' := by
  have b1 : Below W.heap.size W (W.alloc (.cells (src x).toArray 64)) := Below.al (Below.refl _ _) _
  obtain ⟨nm, proto, frm, til⟩ := x
  have c1 := within_any proto 0 255
  have c2 := within_any frm 0 65535
  have c3 := within_any til frm 65535
  have c4 := ported_any proto
  unfold srvChk
  simp only [src] at *
  generalize wiB proto 0 255 = K1 at *
  generalize wiB frm 0 65535 = K2 at *
  generalize wiB til frm 65535 = K3 at *
  generalize portedP proto = K4 at *
  by_cases hf : frm = 0
  · have hfb : (frm != 0) = false := by simp [hf]
    rw [if_pos hf]
    by_cases ht : til = 65535
    · have htb : (til != 65535) = false := by simp [ht]
      rw [if_pos ht]
      clear hf ht
      cases K1 <;> cases K2 <;> cases K3 <;> cases K4 <;>
      ( go_enter Tryz.func55, Tryz.ntmps55
        go_wp2_with (first | (go_at_call 42; with_reducible refine (c1 _).mono ?_; rintro e w1 ⟨rfl, rfl⟩) | (go_at_call 42; with_reducible refine (c2 _).mono ?_; rintro e w2 ⟨rfl, rfl⟩) | (go_at_call 42; with_reducible refine (c3 _).mono ?_; rintro e w3 ⟨rfl, rfl⟩) | (go_at_call 56; with_reducible refine (c4 _).mono ?_; rintro e w4 ⟨rfl, rfl⟩))
        go_ret
        exact ⟨by simp, b1⟩)
    · have htb : (til != 65535) = true := by simp [ht]
      rw [if_neg ht]
      clear hf ht
      cases K1 <;> cases K2 <;> cases K3 <;> cases K4 <;>
      ( go_enter Tryz.func55, Tryz.ntmps55
        go_wp2_with (first | (go_at_call 42; with_reducible refine (c1 _).mono ?_; rintro e w1 ⟨rfl, rfl⟩) | (go_at_call 42; with_reducible refine (c2 _).mono ?_; rintro e w2 ⟨rfl, rfl⟩) | (go_at_call 42; with_reducible refine (c3 _).mono ?_; rintro e w3 ⟨rfl, rfl⟩) | (go_at_call 56; with_reducible refine (c4 _).mono ?_; rintro e w4 ⟨rfl, rfl⟩))
        go_ret
        exact ⟨by simp, b1⟩)
  · have hfb : (frm != 0) = true := by simp [hf]
    rw [if_neg hf]
    clear hf
    cases K1 <;> cases K2 <;> cases K3 <;> cases K4 <;>
    ( go_enter Tryz.func55, Tryz.ntmps55
      go_wp2_with (first | (go_at_call 42; with_reducible refine (c1 _).mono ?_; rintro e w1 ⟨rfl, rfl⟩) | (go_at_call 42; with_reducible refine (c2 _).mono ?_; rintro e w2 ⟨rfl, rfl⟩) | (go_at_call 42; with_reducible refine (c3 _).mono ?_; rintro e w3 ⟨rfl, rfl⟩) | (go_at_call 56; with_reducible refine (c4 _).mono ?_; rintro e w4 ⟨rfl, rfl⟩))
      go_ret
      exact ⟨by simp, b1⟩)
end Go.Proofs.YtmnnjkdmnfadhaaGreatDoor
