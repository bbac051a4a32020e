/- Services: the program's; by-name template. -/
import Derived.Test.YtokbmahnjmmcaaaRZone
namespace Go.Proofs.Ytokbmahnjmmcaaa
open Go.Shelf Go.RowKit Go.Lib
set_option linter.unusedVariables false
set_option linter.unusedSimpArgs false

def isAny (s : ByteArray) : Bool := s.toList == [97, 110, 121]
def eqs (a b : ByteArray) : Bool := a.toList == b.toList
def portedP (p : Int) : Bool := p == 6 || p == 17
def srvP (s : SR) (k : KR) : Bool := (s.proto == 0 || s.proto == k.proto) && (decide (s.frm ≤ k.dp) && decide (k.dp ≤ s.til) || !portedP s.proto)
def servesP (c : CF) (sv : ByteArray) (k : KR) : Bool := isAny sv || match c.ss.find? (fun s => eqs s.nm sv) with | none => false | some s => srvP s k
def namedP (c : CF) (x : Int) (nm : ByteArray) : Bool := decide (0 ≤ x) && match c.zs[x.toNat]? with | none => false | some z => eqs z.nm nm

theorem find_hit {α : Type} {p : α → Bool} {l : List α} {k : Nat} {x : α} (h : l[k]? = some x) (hp : p x = true) (hn : ∀ (j : Nat) (y : α), j < k → l[j]? = some y → p y = false) : l.find? p = some x := by
  induction l generalizing k with
  | nil => simp at h
  | cons a r ih =>
    cases k with
    | zero => simp at h; subst h; simp [hp]
    | succ k =>
      have ha : p a = false := hn 0 a (by omega) rfl
      rw [List.find?_cons_of_neg (by simp [ha])]
      exact ih (by simpa using h) fun j y hj hy => hn (j + 1) y (by omega) (by simpa using hy)
theorem find_miss {α : Type} {p : α → Bool} {l : List α} (h : ∀ (j : Nat) (x : α), l[j]? = some x → p x = false) : l.find? p = none := by
  rw [List.find?_eq_none]
  intro x hx
  obtain ⟨j, hj⟩ := List.getElem?_of_mem hx
  simp [h j x hj]

theorem ported_any (p : Int) (w : World) : Calls Try.prog 46 #[.int .i64 p] w fun e w' => e = .returned (.bool (portedP p)) ∧ w = w' := by
  unfold portedP
  by_cases h : p = 6
  · subst h
    go_enter Try.func46, Try.ntmps46
    go_wp2
    go_ret
    exact ⟨by simp, rfl⟩
  · have hb : (p == 6) = false := by simp [h]
    go_enter Try.func46, Try.ntmps46
    go_wp2
    go_ret
    exact ⟨by simp [hb], rfl⟩

theorem serves1_any (nm : ByteArray) (B : Nat) (s : SR) {W : World} (hB : W.cell? ⟨B, 0, none⟩ = some (.string nm)) :
    Calls Try.prog 61 #[.agg (src s).toArray, .pointer (some ⟨B, 0, none⟩)] W fun e w' => e = .returned (.bool (eqs s.nm nm)) ∧ Below W.heap.size W w' := by
  obtain ⟨sn, p, f, t⟩ := s
  have hB' : (W.alloc (.cells (src ⟨sn, p, f, t⟩).toArray 99)).cell? ⟨B, 0, none⟩ = some (.string nm) := keepc (Below.al (Below.refl _ _) _) hB
  simp only [src, eqs] at *
  go_enter Try.func61, Try.ntmps61
  go_wp2
  go_ret
  exact ⟨rfl, Below.al (Below.refl _ _) _⟩
theorem eServes1 : ∀ args w, (callFunc 61 args).run Try.prog w = .ok (.enter 61 args) w := enters_of Try.func61 (by kernel_rfl) rfl

theorem getE {α : Type} {l : List α} {k : Nat} {x : α} (h : l[k]? = some x) : k < l.length := (List.getElem?_eq_some_iff.1 h).1

set_option maxHeartbeats 2000000 in
theorem serves_any (c : CF) (sv : ByteArray) (k : KR) {w : World} (hc : c.Ok w) :
    Calls Try.prog 54 #[.agg (cfc c), .string sv, .agg (krc k).toArray] w fun e w' => e = .returned (.bool (servesP c sv k)) ∧ Below w.heap.size w w' := by
  by_cases ha : sv.toList = [97, 110, 121]
  · have hr : servesP c sv k = true := by simp [servesP, isAny, ha]
    rw [hr]
    simp only [cfc, krc]
    clear hr
    go_enter Try.func54, Try.ntmps54
    go_wp2
    go_ret
    exact ⟨rfl, by repeat (first | exact Below.refl _ _ | apply Below.dr | apply Below.al)⟩
  · have hab : (sv.toList == [97, 110, 121]) = false := by simp [ha]
    obtain ⟨w0, hw0⟩ : ∃ w0, w0 = ((w.alloc (.cells (cfc c) 30)).alloc (.cells #[.string sv] 9)).alloc (.cells (krc k).toArray 35) := ⟨_, rfl⟩
    have hb : Below w.heap.size w w0 := by rw [hw0]; exact Below.al (Below.al (Below.al (Below.refl _ _) _) _) _
    have cc := idx_rows Try.li56 Try.isAgg99 Try.sizeOf99 src (fun _ => rfl) (fun s => eqs s.nm sv) 61 #[.pointer (some ⟨w.heap.size + 1, 0, none⟩)] eServes1 c.sA c.sn c.sc c.ss w0
      (fun W s hs hW => serves1_any sv (w.heap.size + 1) s (keepc hW (by rw [hw0]; simp [go_sem, World.cell?_alloc_past]))) (hc.s.keep hb)
    change Calls Try.prog 60 _ _ _ at cc
    have hC : ∀ w', Below w0.heap.size w0 w' → w'.cell? ⟨w.heap.size, 2, none⟩ = some (.slice c.sA c.sn c.sc) ∧ w'.cell? ⟨w.heap.size + 1 + 1, 0, none⟩ = some (.int .i64 k.proto) ∧ w'.cell? ⟨w.heap.size + 1 + 1, 6, none⟩ = some (.int .i64 k.dp) := by
      intro w' h
      refine ⟨keepc h ?_, keepc h ?_, keepc h ?_⟩ <;> (rw [hw0]; simp [go_sem, cfc, krc, World.cell?_alloc_past])
    have hS := hc.s.keep hb
    have hr : servesP c sv k = match c.ss.find? (fun s => eqs s.nm sv) with | none => false | some s => srvP s k := by simp [servesP, isAny, ha]
    rw [hr]
    clear hr hc
    rcases pl_cases (fun s => eqs s.nm sv) c.ss with ⟨hm, hf⟩ | ⟨j, s, hj, hp, hs, hf⟩
    · rw [find_miss hf]
      rw [hm] at cc
      clear hS hf hm
      simp only [cfc, krc] at *
      go_enter Try.func54, Try.ntmps54
      go_wp2_with (go_at_call 60; rw [← hw0]; with_reducible refine cc.mono ?_; rintro e w' ⟨rfl, hb'⟩)
      go_ret
      exact ⟨rfl, bel_via hb hb'⟩
    · rw [find_hit hj hs hf]
      rw [hp] at cc
      have hjn : j < c.sn := by have := getE hj; have := hS.len; omega
      obtain ⟨b, off, hA, hlt, hrow⟩ := hS.row (by omega)
      have hbig := hS.big
      have r0 : w0.cell? ⟨b, off + j * 4, none⟩ = some (.string s.nm) := hrow j s hj 0 _ rfl
      have r1 := hrow j s hj 1 _ rfl
      have r2 := hrow j s hj 2 _ rfl
      have r3 := hrow j s hj 3 _ rfl
      clear hrow hS hf hs hp hj
      obtain ⟨sn, p, f, t⟩ := s
      obtain ⟨kp, ksh, ksl, kdh, kdl, ksp, kdp⟩ := k
      rw [hA] at cc hC
      simp only [cfc, krc, hA] at *
      simp only [srvP]
      go_enter Try.func54, Try.ntmps54
      go_wp2_with (go_at_call 60; rw [← hw0]; with_reducible refine cc.mono ?_; rintro e w1 ⟨rfl, hb'⟩; refine Hid.out ?_)
      obtain ⟨c0, c1, c2⟩ := hC w1 hb'
      have q0 := keepc hb' r0
      have q1 := keepc hb' r1
      have q2 := keepc hb' r2
      have q3 := keepc hb' r3
      have hb1 := bel_via hb hb'
      have hlt1 : b < w1.heap.size := Nat.lt_of_lt_of_le hlt hb'.size
      have hm1 : w.heap.size + 1 + 1 < w1.heap.size := World.block_lt_of_cell? _ _ c1
      clear r0 r1 r2 r3 hb' cc hC hb hlt hw0 hA
      refine Lib.hid ?_
      go_wp2_with (go_at_call 46; refine (ported_any _ _).mono ?_; rintro e w' ⟨rfl, rfl⟩)
      all_goals
        go_ret
        refine ⟨ret_bool ?_, by repeat (first | exact hb1 | apply Below.dr | apply Below.al)⟩
        clear q0 q1 q2 q3 c0 c1 c2 hb1 hlt1 hm1 hbig hjn
        simp_all
        try (intros; omega)
end Go.Proofs.Ytokbmahnjmmcaaa
