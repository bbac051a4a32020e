/- first at numbers; by-name template (gen_lclo.py). -/
import Derived.Test.YtmnnjkdmnfadhaaGreatDoorLIfc
import Derived.Test.YtmnnjkdmnfadhaaGreatDoorLNat
namespace Go.Proofs.YtmnnjkdmnfadhaaGreatDoor
open Go.Shelf Go.RowKit Go.Lib Go.Sort
set_option linter.unusedVariables false
set_option linter.unusedSimpArgs false

set_option maxHeartbeats 4000000 in
theorem first_int (chk : Int → List Int → Int) (g : Nat) (lb : Array Value) (eg : ∀ args w, (callFunc g args).run Tryz.prog w = .ok (.enter g args) w) (A : Option Addr) (n c : Nat) (l : List Int) {w : World} (hS : Sl w 1 (fun x : Int => [Value.int .i64 x]) A n l) (hnc : n ≤ c)
    (hp : ∀ W j x, l[j]? = some x → Below w.heap.size w W → Calls Tryz.prog g (#[.int .i64 x, .slice A j c] ++ lb) W fun e w' => e = .returned (.int .i64 (chk x (l.take j))) ∧ Below W.heap.size W w') :
    Calls Tryz.prog 43 #[.slice A n c, .func (.func g) #[] lb] w fun e w' => e = .returned (.int .i64 (firstP chk l)) ∧ Below w.heap.size w w' := by
  have hbig := hS.big
  by_cases h0 : n = 0
  · subst h0
    obtain rfl : l = [] := List.eq_nil_of_length_eq_zero hS.len
    clear hS hp
    go_enter Tryz.func43, Tryz.ntmps43
    go_wp2
    refine wp_loop_rounds 1 ?_
    rw [rounds_succ]
    go_wp2
    go_ret
    exact ⟨rfl, Below.refl _ _⟩
  · obtain ⟨b, off, hA, hlt, hrow⟩ := hS.row (by omega)
    have hlen := hS.len
    subst hA
    clear hS h0
    have HL := Lib.hid hlen
    clear hlen
    have HP := Lib.hid hp
    have HR := Lib.hid hrow
    clear hp hrow
    go_enter Tryz.func43, Tryz.ntmps43
    go_wp2
    go_loopw [10] (fun vi wr => ∃ i : Nat, i ≤ n ∧ vi = .int .i64 i ∧ Aside (∀ (j : Nat) (x : Int), j < i → l[j]? = some x → chk x (l.take j) = 0) ∧ Below w.heap.size w wr) (fun vi _ => n - (intOf vi).toNat)
    case atStart => exact ⟨0, by omega, rfl, fun j x hj => absurd hj (Nat.not_lt_zero _), Below.refl _ _⟩
    case round =>
      obtain ⟨i, hi, rfl, N, hb⟩ := hrel
      by_cases hlti : i < n
      · obtain ⟨x, hx⟩ : ∃ x, l[i]? = some x := ⟨_, List.getElem?_eq_getElem (by rw [HL.out]; exact hlti)⟩
        have hblk : b < wr.heap.size := Nat.lt_of_lt_of_le hlt hb.size
        have cc := HP.out wr i x hx hb
        obtain ⟨r, hr⟩ : ∃ r, r = chk x (l.take i) := ⟨_, rfl⟩
        rw [← hr] at cc
        have r0 : wr.cell? ⟨b, off + i, none⟩ = some (.int .i64 x) := by have := keepc hb (HR.out i x hx 0 _ rfl); simpa using this
        have r1 : wr.cell? ⟨b, off + i * 1, none⟩ = some (.int .i64 x) := by simpa using r0
        have HX := Lib.hid hx
        have HY := Lib.hid hr
        clear hx hr HP HR
        have hic : i ≤ c := by omega
        by_cases hr0 : r = 0
        · subst hr0
          go_wp2_with (go_at_fn g; go_loud (with_reducible refine cc.mono ?_); rintro e w2 ⟨rfl, hb2⟩)
          go_roundw
          case rel => exact ⟨i + 1, by omega, by go_num, fun j y hj hy => by
            by_cases e : j = i
            · subst e; rw [HX.out] at hy; cases hy; exact HY.out.symm
            · exact N.out j y (by omega) hy, bel_via hb hb2⟩
          case measure => simp [intOf]; omega
        · have hr1 : (r != 0) = true := by simp [hr0]
          go_wp2_with (go_at_fn g; go_loud (with_reducible refine cc.mono ?_); rintro e w2 ⟨rfl, hb2⟩)
          go_ret
          exact ⟨by rw [firstP_hit HX.out (by rw [← HY.out]; exact hr0) N.out, ← HY.out]; rfl, bel_via hb hb2⟩
      · obtain rfl : i = n := by omega
        clear hlti HP HR
        go_wp2
        go_ret
        exact ⟨by rw [firstP_all fun j x hj => N.out j x (by have := getE hj; rw [HL.out] at this; exact this) hj]; rfl, hb⟩

def zonChk (x : ZR) (l : List ZR) : Int := if wiB x.il 1 16 = true then firstP (ifcChk l) x.ifs else 1
set_option maxHeartbeats 2000000 in
theorem zon1_any (x : ZR) (A : Option Addr) (j c : Nat) (l : List ZR) {W : World} (hS : Sl W 4 zrc A j l) (hzi : ∀ z ∈ l, Sl W 1 (fun x : Int => [Value.int .i64 x]) z.ia z.il z.ifs) (hx : Sl W 1 (fun x : Int => [Value.int .i64 x]) x.ia x.il x.ifs) (hcx : x.il ≤ x.ic) :
    Calls Tryz.prog 41 #[.agg (zrc x).toArray, .slice A j c] W fun e w' => e = .returned (.int .i64 (zonChk x l)) ∧ Below W.heap.size W w' := by
  have b2 : Below W.heap.size W ((W.alloc (.cells (zrc x).toArray 59)).alloc (.cells #[.slice A j c] 22)) := Below.al (Below.al (Below.refl _ _) _) _
  have hB : ((W.alloc (.cells (zrc x).toArray 59)).alloc (.cells #[.slice A j c] 22)).cell? ⟨W.heap.size + 1, 0, none⟩ = some (.slice A j c) := by simp [go_sem]
  have cf := first_int (ifcChk l) 44 #[.pointer (some ⟨W.heap.size + 1, 0, none⟩)] eIfc1 x.ia x.il x.ic x.ifs (hx.keep b2) hcx
    (fun W' i n hn hW' => ifc1_any A j c l (W.heap.size + 1) n x.ia i x.ic (x.ifs.take i) ((hS.keep b2).keep hW') (fun z hz => ((hzi z hz).keep b2).keep hW') (((hx.keep b2).keep hW').front (by have h1 := getE hn; rw [hx.len] at h1; omega)) (keepc hW' hB))
  have c1 := fun w => within_any x.il 1 16 w
  unfold zonChk
  generalize firstP (ifcChk l) x.ifs = R at *
  have hbig := hx.big
  clear hS hzi hx hcx hB
  obtain ⟨nm, ah, al, ia, il, ic, ifs⟩ := x
  simp only [zrc] at *
  generalize wiB (il : Int) 1 16 = K1 at *
  cases K1 <;>
  ( go_enter Tryz.func41, Tryz.ntmps41
    go_wp2_with (first | (go_at_call 42; with_reducible refine (c1 _).mono ?_; rintro e w1 ⟨rfl, rfl⟩) | (go_at_call 43; go_loud (with_reducible refine cf.mono ?_); rintro e w2 ⟨rfl, hb2⟩))
    go_ret
    first | exact ⟨by simp, bel_via b2 hb2⟩ | exact ⟨by simp, b2⟩)
end Go.Proofs.YtmnnjkdmnfadhaaGreatDoor

namespace Go.Proofs.YtmnnjkdmnfadhaaGreatDoor
open Go.Shelf Go.RowKit Go.Lib Go.Sort
set_option linter.unusedVariables false
set_option linter.unusedSimpArgs false

/-- The document's word on a rule. -/
def rulD (c : CF) (u : UR) : Int :=
  if rnB c u = true then (if wiB u.act 1 3 = true then (if u.act = 1 then (if u.proxy = true then (if (c.ss.any fun s => eqs s.nm u.svc && s.proto == 6) = true then 0 else 1) else 0) else (if u.lim.toList.isEmpty = true then (if u.proxy = true then 1 else 0) else 1)) else 1) else 62
/-- All that is said, in order. -/
def chkL {α : Type} (chk : α → List α → Int) : List α → List α → List Int
  | _, [] => []
  | a, x :: r => chk x a :: chkL chk (a ++ [x]) r
/-- The first that is not 0. -/
def nzF : List Int → Int
  | [] => 0
  | x :: r => if x = 0 then nzF r else x
theorem nzF_chkL {α : Type} (chk : α → List α → Int) : ∀ (l a : List α), nzF (chkL chk a l) = firstAt chk a l
  | [], a => rfl
  | x :: r, a => by
    show (if chk x a = 0 then nzF (chkL chk (a ++ [x]) r) else chk x a) = firstAt chk a (x :: r)
    rw [nzF_chkL chk r (a ++ [x])]
    rfl
theorem chkL_snoc {α : Type} (chk : α → List α → Int) : ∀ (l a : List α) (x : α), chkL chk a (l ++ [x]) = chkL chk a l ++ [chk x (a ++ l)]
  | [], a, x => by simp [chkL]
  | y :: r, a, x => by
    show chk y a :: chkL chk (a ++ [y]) (r ++ [x]) = chk y a :: chkL chk (a ++ [y]) r ++ [chk x (a ++ y :: r)]
    rw [chkL_snoc chk r (a ++ [y]) x]; simp
theorem chkL_len {α : Type} (chk : α → List α → Int) : ∀ (l a : List α), (chkL chk a l).length = l.length
  | [], a => rfl
  | y :: r, a => by
    show (chkL chk (a ++ [y]) r).length + 1 = r.length + 1
    rw [chkL_len chk r]
theorem nzF_app : ∀ (a b : List Int), nzF (a ++ b) = if nzF a = 0 then nzF b else nzF a
  | [], b => by simp [nzF]
  | x :: r, b => by
    show (if x = 0 then nzF (r ++ b) else x) = if (if x = 0 then nzF r else x) = 0 then nzF b else (if x = 0 then nzF r else x)
    by_cases h : x = 0
    · rw [if_pos h, if_pos h, nzF_app r b]
    · rw [if_neg h, if_neg h, if_neg h]
theorem take_snocL {α : Type} {l : List α} {i : Nat} {x : α} (h : l[i]? = some x) : l.take (i + 1) = l.take i ++ [x] := by
  rw [List.take_add_one, h]; rfl
theorem nzF_hit : ∀ (l : List Int) (k : Nat) (x : Int), l[k]? = some x → x ≠ 0 → (∀ (j : Nat) (y : Int), j < k → l[j]? = some y → y = 0) → nzF l = x
  | [], k, x, h, _, _ => by simp at h
  | y :: r, 0, x, h, hx, _ => by
    simp at h; subst h
    show (if y = 0 then nzF r else y) = y
    rw [if_neg hx]
  | y :: r, k + 1, x, h, hx, hn => by
    have h0 := hn 0 y (by omega) rfl
    show (if y = 0 then nzF r else y) = x
    rw [if_pos h0]
    exact nzF_hit r k x (by simpa using h) hx (fun j z hj hz => hn (j + 1) z (by omega) (by simpa using hz))
theorem nzF_all : ∀ (l : List Int), (∀ (j : Nat) (y : Int), l[j]? = some y → y = 0) → nzF l = 0
  | [], _ => rfl
  | y :: r, h => by
    show (if y = 0 then nzF r else y) = 0
    rw [if_pos (h 0 y rfl)]
    exact nzF_all r fun j z hz => h (j + 1) z (by simpa using hz)
/-- The document's list. -/
def listD (c : CF) : List Int := [firstP (chkN (·.nm) zonChk) c.zs, firstP (chkN (·.nm) objChk) c.os, firstP (chkN (·.nm) srvChk) c.ss, firstP (chkN (·.nm) limChk) c.ls, firstP (rteChk c) c.ts] ++ chkL (natChk c) [] c.ns ++ chkL (fun u _ => rulD c u) [] c.us
def checkD (c : CF) : Int := if countsP c = 0 then (if nzF (listD c) = 0 then defP c else nzF (listD c)) else 64
/-- The program's nine. -/
def rC (c : CF) : Nat → Int
  | 0 => countsP c
  | 1 => firstP (chkN (·.nm) zonChk) c.zs
  | 2 => firstP (chkN (·.nm) objChk) c.os
  | 3 => firstP (chkN (·.nm) srvChk) c.ss
  | 4 => firstP (chkN (·.nm) limChk) c.ls
  | 5 => firstP (rteChk c) c.ts
  | 6 => firstP (natChk c) c.ns
  | 7 => firstP (rulChk c) c.us
  | _ => defP c
theorem eqs_eq (a b : ByteArray) : eqs a b = true ↔ a.toList = b.toList := by simp [eqs]
theorem firstAt_zero {α : Type} {chk : α → List α → Int} : ∀ (l a : List α), firstAt chk a l = 0 → ∀ (k : Nat) (x : α), l[k]? = some x → chk x (a ++ l.take k) = 0
  | [], a, _, k, x, h => by simp at h
  | y :: r, a, h0, 0, x, h => by
    simp at h; subst h
    have h1 : (if chk y a = 0 then firstAt chk (a ++ [y]) r else chk y a) = 0 := h0
    by_cases e : chk y a = 0
    · simpa using e
    · rw [if_neg e] at h1; exact absurd h1 e
  | y :: r, a, h0, k + 1, x, h => by
    have h1 : (if chk y a = 0 then firstAt chk (a ++ [y]) r else chk y a) = 0 := h0
    by_cases e : chk y a = 0
    · rw [if_pos e] at h1
      have := firstAt_zero r (a ++ [y]) h1 k x (by simpa using h)
      simpa using this
    · rw [if_neg e] at h1; exact absurd h1 e
theorem act_same (d : Int) : wiB d 1 3 = actB d := by
  rw [Bool.eq_iff_iff, actB_iff]
  unfold wiB
  simp only [Bool.and_eq_true, decide_eq_true_eq]
  omega
theorem rul_same (c : CF) (h : firstP (chkN (·.nm) srvChk) c.ss = 0) (u : UR) (l : List UR) : rulChk c u l = rulD c u := by
  have key : ((fnd_srv u.svc c.ss).proto = 6) ↔ (c.ss.any fun s => eqs s.nm u.svc && s.proto == 6) = true := by
    constructor
    · intro hp
      unfold fnd_srv at hp
      cases hf : c.ss.find? (fun x => eqs x.nm u.svc) with
      | none => rw [hf] at hp; exact absurd hp (by decide)
      | some x =>
        rw [hf] at hp
        rw [List.any_eq_true]
        refine ⟨x, List.mem_of_find?_eq_some hf, ?_⟩
        have := List.find?_some hf
        have hp' : x.proto = 6 := hp
        simp [this, hp']
    · intro ha
      rw [List.any_eq_true] at ha
      obtain ⟨s, hs, hq⟩ := ha
      simp only [Bool.and_eq_true, beq_iff_eq] at hq
      obtain ⟨k, hk, hks⟩ := List.getElem_of_mem hs
      have hks' : c.ss[k]? = some s := by rw [List.getElem?_eq_getElem hk, hks]
      have hz := firstAt_zero c.ss [] h k s hks'
      have huniq : ∀ (j : Nat) (y : SR), j < k → c.ss[j]? = some y → eqs y.nm u.svc = false := fun j y hj hy => by
        rw [Bool.eq_false_iff]
        intro he
        have : ((c.ss.take k).any fun y => eqs y.nm s.nm) = true := by
          rw [List.any_eq_true]
          refine ⟨y, List.mem_of_getElem? (i := j) (by rw [List.getElem?_take_of_lt hj]; exact hy), ?_⟩
          rw [eqs_eq] at he ⊢
          rw [he]; exact ((eqs_eq _ _).1 hq.1).symm
        simp only [List.nil_append, chkN] at hz
        rw [this] at hz
        split at hz
        · simp at hz
        · simp at hz
      have := find_hit hks' hq.1 huniq
      unfold fnd_srv
      rw [this]
      exact hq.2
  unfold rulChk rulD
  rw [act_same]
  by_cases hk : (fnd_srv u.svc c.ss).proto = 6
  · rw [if_pos hk, if_pos (key.1 hk)]
  · rw [if_neg hk, if_neg (fun h => hk (key.2 h))]
theorem checks_one (c : CF) : fromN (rC c) 0 9 = checkD c := by
  have hrul : firstP (chkN (·.nm) srvChk) c.ss = 0 → firstP (rulChk c) c.us = firstP (fun u _ => rulD c u) c.us := fun h => by
    have : rulChk c = fun u _ => rulD c u := by funext u l; exact rul_same c h u l
    rw [this]
  have hl : nzF (listD c) = if firstP (chkN (·.nm) zonChk) c.zs = 0 then (if firstP (chkN (·.nm) objChk) c.os = 0 then (if firstP (chkN (·.nm) srvChk) c.ss = 0 then (if firstP (chkN (·.nm) limChk) c.ls = 0 then (if firstP (rteChk c) c.ts = 0 then (if firstP (natChk c) c.ns = 0 then firstP (fun u _ => rulD c u) c.us else firstP (natChk c) c.ns) else firstP (rteChk c) c.ts) else firstP (chkN (·.nm) limChk) c.ls) else firstP (chkN (·.nm) srvChk) c.ss) else firstP (chkN (·.nm) objChk) c.os) else firstP (chkN (·.nm) zonChk) c.zs := by
    unfold listD
    rw [nzF_app, nzF_app, nzF_chkL, nzF_chkL]
    unfold firstP
    simp only [nzF]
    generalize firstAt (chkN (·.nm) zonChk) [] c.zs = a1
    generalize firstAt (chkN (·.nm) objChk) [] c.os = a2
    generalize firstAt (chkN (·.nm) srvChk) [] c.ss = a3
    generalize firstAt (chkN (·.nm) limChk) [] c.ls = a4
    generalize firstAt (rteChk c) [] c.ts = a5
    generalize firstAt (natChk c) [] c.ns = a6
    by_cases e1 : a1 = 0 <;> by_cases e2 : a2 = 0 <;> by_cases e3 : a3 = 0 <;> by_cases e4 : a4 = 0 <;> by_cases e5 : a5 = 0 <;> by_cases e6 : a6 = 0 <;> simp [e1, e2, e3, e4, e5, e6]
  have hcn : countsP c = 0 ∨ countsP c = 64 := by unfold countsP; split <;> simp
  unfold checkD
  rw [hl]
  simp only [fromN, rC]
  generalize firstP (chkN (·.nm) zonChk) c.zs = a1 at *
  generalize firstP (chkN (·.nm) objChk) c.os = a2 at *
  generalize firstP (chkN (·.nm) srvChk) c.ss = a3 at *
  generalize firstP (chkN (·.nm) limChk) c.ls = a4 at *
  generalize firstP (rteChk c) c.ts = a5 at *
  generalize firstP (natChk c) c.ns = a6 at *
  generalize firstP (rulChk c) c.us = a7 at *
  generalize firstP (fun u _ => rulD c u) c.us = a8 at *
  generalize defP c = d at *
  by_cases e0 : countsP c = 0
  · by_cases e3 : a3 = 0
    · have e78 := hrul e3
      subst e78
      by_cases e1 : a1 = 0 <;> by_cases e2 : a2 = 0 <;> by_cases e4 : a4 = 0 <;> by_cases e5 : a5 = 0 <;> by_cases e6 : a6 = 0 <;> by_cases e7 : a7 = 0 <;> simp [e0, e1, e2, e3, e4, e5, e6, e7]
      all_goals first | done | (by_cases ed : d = 0 <;> simp [ed])
    · by_cases e1 : a1 = 0 <;> by_cases e2 : a2 = 0 <;> simp [e0, e1, e2, e3]
  · have e64 : countsP c = 64 := by rcases hcn with h | h; exact absurd h e0; exact h
    simp [e64]
end Go.Proofs.YtmnnjkdmnfadhaaGreatDoor
