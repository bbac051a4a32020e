/- first at numbers; by-name template (gen_lclo.py). -/
import Derived.Test.YtmnnjkdmnfadhaaGreatDoorLIfc
namespace Go.Proofs.YtmnnjkdmnfadhaaGreatDoor
open Go.Shelf Go.RowKit Go.Lib Go.Sort
set_option linter.unusedVariables false
set_option linter.unusedSimpArgs false

set_option maxHeartbeats 4000000 in
theorem first_int (chk : Int → List Int → Int) (g : Nat) (lb : Array Value) (eg : ∀ args w, (callFunc g args).run Tryz.prog w = .ok (.enter g args) w) (A : Option Addr) (n c : Nat) (l : List Int) {w : World} (hS : Sl w 1 (fun x : Int => [Value.int .i64 x]) A n l) (hnc : n ≤ c)
    (hp : ∀ W j x, l[j]? = some x → Below w.heap.size w W → Calls Tryz.prog g (#[.int .i64 x, .slice A j c] ++ lb) W fun e w' => e = .returned (.int .i64 (chk x (l.take j))) ∧ Below W.heap.size W w') :
    Calls Tryz.prog 43 #[.slice A n c, .func (.func g) #[] lb] w fun e w' => e = .returned (.int .i64 (firstP chk l)) ∧ Below w.heap.size w w' := by
  have hbig := hS.big
  by_cases h0 : n = 0
  · subst h0
    obtain rfl : l = [] := List.eq_nil_of_length_eq_zero hS.len
    clear hS hp
    go_enter Tryz.func43, Tryz.ntmps43
    go_wp2
    refine wp_loop_rounds 1 ?_
    rw [rounds_succ]
    go_wp2
    go_ret
    exact ⟨rfl, Below.refl _ _⟩
  · obtain ⟨b, off, hA, hlt, hrow⟩ := hS.row (by omega)
    have hlen := hS.len
    subst hA
    clear hS h0
    have HL := Lib.hid hlen
    clear hlen
    have HP := Lib.hid hp
    have HR := Lib.hid hrow
    clear hp hrow
    go_enter Tryz.func43, Tryz.ntmps43
    go_wp2
    go_loopw [10] (fun vi wr => ∃ i : Nat, i ≤ n ∧ vi = .int .i64 i ∧ Aside (∀ (j : Nat) (x : Int), j < i → l[j]? = some x → chk x (l.take j) = 0) ∧ Below w.heap.size w wr) (fun vi _ => n - (intOf vi).toNat)
    case atStart => exact ⟨0, by omega, rfl, fun j x hj => absurd hj (Nat.not_lt_zero _), Below.refl _ _⟩
    case round =>
      obtain ⟨i, hi, rfl, N, hb⟩ := hrel
      by_cases hlti : i < n
      · obtain ⟨x, hx⟩ : ∃ x, l[i]? = some x := ⟨_, List.getElem?_eq_getElem (by rw [HL.out]; exact hlti)⟩
        have hblk : b < wr.heap.size := Nat.lt_of_lt_of_le hlt hb.size
        have cc := HP.out wr i x hx hb
        obtain ⟨r, hr⟩ : ∃ r, r = chk x (l.take i) := ⟨_, rfl⟩
        rw [← hr] at cc
        have r0 : wr.cell? ⟨b, off + i, none⟩ = some (.int .i64 x) := by have := keepc hb (HR.out i x hx 0 _ rfl); simpa using this
        have r1 : wr.cell? ⟨b, off + i * 1, none⟩ = some (.int .i64 x) := by simpa using r0
        have HX := Lib.hid hx
        have HY := Lib.hid hr
        clear hx hr HP HR
        have hic : i ≤ c := by omega
        by_cases hr0 : r = 0
        · subst hr0
          go_wp2_with (go_at_fn g; go_loud (with_reducible refine cc.mono ?_); rintro e w2 ⟨rfl, hb2⟩)
          go_roundw
          case rel => exact ⟨i + 1, by omega, by go_num, fun j y hj hy => by
            by_cases e : j = i
            · subst e; rw [HX.out] at hy; cases hy; exact HY.out.symm
            · exact N.out j y (by omega) hy, bel_via hb hb2⟩
          case measure => simp [intOf]; omega
        · have hr1 : (r != 0) = true := by simp [hr0]
          go_wp2_with (go_at_fn g; go_loud (with_reducible refine cc.mono ?_); rintro e w2 ⟨rfl, hb2⟩)
          go_ret
          exact ⟨by rw [firstP_hit HX.out (by rw [← HY.out]; exact hr0) N.out, ← HY.out]; rfl, bel_via hb hb2⟩
      · obtain rfl : i = n := by omega
        clear hlti HP HR
        go_wp2
        go_ret
        exact ⟨by rw [firstP_all fun j x hj => N.out j x (by have := getE hj; rw [HL.out] at this; exact this) hj]; rfl, hb⟩

def zonChk (x : ZR) (l : List ZR) : Int := if wiB x.il 1 16 = true then firstP (ifcChk l) x.ifs else 1
set_option maxHeartbeats 2000000 in
theorem zon1_any (x : ZR) (A : Option Addr) (j c : Nat) (l : List ZR) {W : World} (hS : Sl W 4 zrc A j l) (hzi : ∀ z ∈ l, Sl W 1 (fun x : Int => [Value.int .i64 x]) z.ia z.il z.ifs) (hx : Sl W 1 (fun x : Int => [Value.int .i64 x]) x.ia x.il x.ifs) (hcx : x.il ≤ x.ic) :
    Calls Tryz.prog 41 #[.agg (zrc x).toArray, .slice A j c] W fun e w' => e = .returned (.int .i64 (zonChk x l)) ∧ Below W.heap.size W w' := by
  have b2 : Below W.heap.size W ((W.alloc (.cells (zrc x).toArray 59)).alloc (.cells #[.slice A j c] 22)) := Below.al (Below.al (Below.refl _ _) _) _
  have hB : ((W.alloc (.cells (zrc x).toArray 59)).alloc (.cells #[.slice A j c] 22)).cell? ⟨W.heap.size + 1, 0, none⟩ = some (.slice A j c) := by simp [go_sem]
  have cf := first_int (ifcChk l) 44 #[.pointer (some ⟨W.heap.size + 1, 0, none⟩)] eIfc1 x.ia x.il x.ic x.ifs (hx.keep b2) hcx
    (fun W' i n hn hW' => ifc1_any A j c l (W.heap.size + 1) n x.ia i x.ic (x.ifs.take i) ((hS.keep b2).keep hW') (fun z hz => ((hzi z hz).keep b2).keep hW') (((hx.keep b2).keep hW').front (by have h1 := getE hn; rw [hx.len] at h1; omega)) (keepc hW' hB))
  have c1 := fun w => within_any x.il 1 16 w
  unfold zonChk
  generalize firstP (ifcChk l) x.ifs = R at *
  have hbig := hx.big
  clear hS hzi hx hcx hB
  obtain ⟨nm, ah, al, ia, il, ic, ifs⟩ := x
  simp only [zrc] at *
  generalize wiB (il : Int) 1 16 = K1 at *
  cases K1 <;>
  ( go_enter Tryz.func41, Tryz.ntmps41
    go_wp2_with (first | (go_at_call 42; with_reducible refine (c1 _).mono ?_; rintro e w1 ⟨rfl, rfl⟩) | (go_at_call 43; go_loud (with_reducible refine cf.mono ?_); rintro e w2 ⟨rfl, hb2⟩))
    go_ret
    first | exact ⟨by simp, bel_via b2 hb2⟩ | exact ⟨by simp, b2⟩)
end Go.Proofs.YtmnnjkdmnfadhaaGreatDoor
