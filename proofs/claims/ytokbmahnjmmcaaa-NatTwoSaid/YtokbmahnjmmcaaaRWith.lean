/- Objects: the program's Within, and a zone's name; by-name template. -/
import Derived.Test.YtokbmahnjmmcaaaRServ
namespace Go.Proofs.Ytokbmahnjmmcaaa
open Go.Shelf Go.RowKit Go.Lib
set_option linter.unusedVariables false
set_option linter.unusedSimpArgs false

def hasR (ah al : Int) (r : R4) : Bool := hasI r.fh r.fl r.th r.tl ah al
def withinP (c : CF) (ob : ByteArray) (ah al : Int) : Bool := isAny ob || match c.os.find? (fun o => eqs o.nm ob) with | none => false | some o => o.rs.any (hasR ah al)

theorem within1_any (nm : ByteArray) (B : Nat) (s : OR) {W : World} (hB : W.cell? ⟨B, 0, none⟩ = some (.string nm)) :
    Calls Try.prog 66 #[.agg (orc s).toArray, .pointer (some ⟨B, 0, none⟩)] W fun e w' => e = .returned (.bool (eqs s.nm nm)) ∧ Below W.heap.size W w' := by
  obtain ⟨sn, p, f, t, r⟩ := s
  have hB' : (W.alloc (.cells (orc ⟨sn, p, f, t, r⟩).toArray 69)).cell? ⟨B, 0, none⟩ = some (.string nm) := keepc (Below.al (Below.refl _ _) _) hB
  simp only [orc, eqs] at *
  go_enter Try.func66, Try.ntmps66
  go_wp2
  go_ret
  exact ⟨rfl, Below.al (Below.refl _ _) _⟩
theorem eWithin1 : ∀ args w, (callFunc 66 args).run Try.prog w = .ok (.enter 66 args) w := enters_of Try.func66 (by kernel_rfl) rfl

theorem within2_any (ah al : Int) (B : Nat) (s : R4) {W : World} (hB : W.cell? ⟨B, 0, none⟩ = some (.int .u64 ah)) (hB1 : W.cell? ⟨B, 1, none⟩ = some (.int .u64 al)) :
    Calls Try.prog 68 #[.agg (r4c s).toArray, .pointer (some ⟨B, 0, none⟩)] W fun e w' => e = .returned (.bool (hasR ah al s)) ∧ Below W.heap.size W w' := by
  obtain ⟨fh, fl, th, tl⟩ := s
  have hB' := keepc (Below.al (Below.refl _ W) (.cells (r4c ⟨fh, fl, th, tl⟩).toArray 51)) hB
  have hB1' := keepc (Below.al (Below.refl _ W) (.cells (r4c ⟨fh, fl, th, tl⟩).toArray 51)) hB1
  simp only [r4c, hasR] at *
  go_enter Try.func68, Try.ntmps68
  go_wp2_with (go_at_call 47; with_reducible refine (has_any _ _ _ _ _ _ _).mono ?_; rintro e w' ⟨rfl, hb'⟩)
  go_ret
  exact ⟨rfl, bel_via (Below.al (Below.refl _ _) _) hb'⟩
theorem eWithin2 : ∀ args w, (callFunc 68 args).run Try.prog w = .ok (.enter 68 args) w := enters_of Try.func68 (by kernel_rfl) rfl

set_option maxHeartbeats 2000000 in
theorem within_any (c : CF) (sv : ByteArray) (ah al : Int) {w : World} (hc : c.Ok w) :
    Calls Try.prog 59 #[.agg (cfc c), .string sv, .agg #[.int .u64 ah, .int .u64 al]] w fun e w' => e = .returned (.bool (withinP c sv ah al)) ∧ Below w.heap.size w w' := by
  by_cases ha : sv.toList = [97, 110, 121]
  · have hr : withinP c sv ah al = true := by simp [withinP, isAny, ha]
    rw [hr]
    simp only [cfc]
    clear hr
    go_enter Try.func59, Try.ntmps59
    go_wp2
    go_ret
    exact ⟨rfl, by repeat (first | exact Below.refl _ _ | apply Below.dr | apply Below.al)⟩
  · have hab : (sv.toList == [97, 110, 121]) = false := by simp [ha]
    obtain ⟨w0, hw0⟩ : ∃ w0, w0 = ((w.alloc (.cells (cfc c) 30)).alloc (.cells #[.string sv] 9)).alloc (.cells #[.int .u64 ah, .int .u64 al] 33) := ⟨_, rfl⟩
    have hb : Below w.heap.size w w0 := by rw [hw0]; exact Below.al (Below.al (Below.al (Below.refl _ _) _) _) _
    have cc := idx_rows Try.li58 Try.isAgg69 Try.sizeOf69 orc (fun _ => rfl) (fun s => eqs s.nm sv) 66 #[.pointer (some ⟨w.heap.size + 1, 0, none⟩)] eWithin1 c.oA c.on c.oc c.os w0
      (fun W s hs hW => within1_any sv (w.heap.size + 1) s (keepc hW (by rw [hw0]; simp [go_sem, World.cell?_alloc_past]))) (hc.o.keep hb)
    change Calls Try.prog 65 _ _ _ at cc
    have hC : ∀ w', Below w0.heap.size w0 w' → w'.cell? ⟨w.heap.size, 1, none⟩ = some (.slice c.oA c.on c.oc) ∧ w'.cell? ⟨w.heap.size + 1 + 1, 0, none⟩ = some (.int .u64 ah) ∧ w'.cell? ⟨w.heap.size + 1 + 1, 1, none⟩ = some (.int .u64 al) := by
      intro w' h
      refine ⟨keepc h ?_, keepc h ?_, keepc h ?_⟩ <;> (rw [hw0]; simp [go_sem, cfc, World.cell?_alloc_past])
    have hS := hc.o.keep hb
    have hoi := hc.oi
    have hr : withinP c sv ah al = match c.os.find? (fun s => eqs s.nm sv) with | none => false | some o => o.rs.any (hasR ah al) := by simp [withinP, isAny, ha]
    rw [hr]
    clear hr hc
    rcases pl_cases (fun s => eqs s.nm sv) c.os with ⟨hm, hf⟩ | ⟨j, s, hj, hp, hs, hf⟩
    · rw [find_miss hf]
      rw [hm] at cc
      clear hS hf hm hoi
      simp only [cfc] at *
      go_enter Try.func59, Try.ntmps59
      go_wp2_with (go_at_call 65; rw [← hw0]; with_reducible refine cc.mono ?_; rintro e w' ⟨rfl, hb'⟩)
      go_ret
      exact ⟨rfl, bel_via hb hb'⟩
    · rw [find_hit hj hs hf]
      rw [hp] at cc
      have hjn : j < c.on := by have := getE hj; have := hS.len; omega
      obtain ⟨b, off, hA, hlt, hrow⟩ := hS.row (by omega)
      have hbig := hS.big
      have hR := (hoi s (List.mem_of_getElem? hj)).keep hb
      have r1 := hrow j s hj 1 _ rfl
      clear hrow hS hf hs hp hj hoi
      obtain ⟨sn, ra, rl, rc, rs⟩ := s
      have cc2 := fun (W : World) (hW : Below w0.heap.size w0 W) => has_rows Try.lc60 Try.isAgg51 Try.sizeOf51 r4c (fun _ => rfl) (hasR ah al) 68 #[.pointer (some ⟨w.heap.size + 1 + 1, 0, none⟩)] eWithin2 ra rl rc rs W
        (fun W2 s hs hW2 => within2_any ah al (w.heap.size + 1 + 1) s (keepc hW2 (hC W hW).2.1) (keepc hW2 (hC W hW).2.2)) (hR.keep hW)
      change ∀ W, _ → Calls Try.prog 67 _ _ _ at cc2
      rw [hA] at cc hC
      clear hR
      simp only [cfc, hA] at *
      generalize rs.any (hasR ah al) = R at *
      have hjne : ((j : Int) != -1) = true := by simp
      go_enter Try.func59, Try.ntmps59
      go_wp2_with (go_at_call 65; rw [← hw0]; with_reducible refine cc.mono ?_; rintro e w1 ⟨rfl, hb'⟩; refine Hid.out ?_)
      obtain ⟨c0, c1, c2⟩ := hC w1 hb'
      have q1 := keepc hb' r1
      have hb1 := bel_via hb hb'
      have cc3 := cc2 w1 hb'
      have hlt1 : b < w1.heap.size := Nat.lt_of_lt_of_le hlt hb'.size
      clear r1 hb' cc hC hb hlt hw0 hA cc2
      refine Lib.hid ?_
      go_wp2_with (go_at_call 67; with_reducible refine cc3.mono ?_; rintro e w2 ⟨rfl, hb2⟩)
      go_ret
      exact ⟨by simp, bel_via hb1 hb2⟩

set_option maxHeartbeats 1000000 in
theorem bears_any (c : CF) (x : Int) (nm : ByteArray) {w : World} (hc : c.Ok w) :
    Calls Try.prog 50 #[.agg (cfc c), .int .i64 x, .string nm] w fun e w' => e = .returned (.bool (namedP c x nm)) ∧ Below w.heap.size w w' := by
  have hbb : Below w.heap.size w (w.alloc (.cells (cfc c) 30)) := Below.al (Below.refl _ _) _
  have hlen := hc.z.len
  have hbg := hc.z.big
  by_cases hx : 0 ≤ x
  · obtain ⟨k, rfl⟩ := Int.eq_ofNat_of_zero_le hx
    by_cases hk : k < c.zs.length
    · have hg := List.getElem?_eq_getElem hk
      have hr : namedP c k nm = eqs (c.zs[k]).nm nm := by simp [namedP, hg]
      rw [hr]
      obtain ⟨b, off, hA, hlt, hrow⟩ := hc.z.row (by omega)
      have h0 : w.cell? ⟨b, off + k * 4, none⟩ = some (.string (c.zs[k]).nm) := hrow k _ hg 0 _ rfl
      have h0' := keepc hbb h0
      have hkn : k < c.zn := by omega
      generalize c.zs[k].nm = q at *
      clear hrow h0 hlen hr hg hc hbb hk
      simp only [cfc, hA, eqs] at *
      go_enter Try.func50, Try.ntmps50
      go_wp2
      go_ret
      exact ⟨by simp, Below.al (Below.refl _ _) _⟩
    · have hr : namedP c k nm = false := by simp [namedP, List.getElem?_eq_none (Nat.le_of_not_lt hk)]
      rw [hr]
      have hkn : decide (k < c.zn) = false := by simp; omega
      have hkn2 : ¬ (k : Int) < (c.zn : Int) := by omega
      clear hlen hr hc hbb hk
      simp only [cfc] at *
      go_enter Try.func50, Try.ntmps50
      go_wp2
      go_ret
      exact ⟨by simp, Below.al (Below.refl _ _) _⟩
  · have hr : namedP c x nm = false := by simp [namedP, hx]
    rw [hr]
    have hxd : decide (0 ≤ x) = false := by simp [hx]
    clear hlen hr hc hbb
    simp only [cfc] at *
    go_enter Try.func50, Try.ntmps50
    go_wp2
    go_ret
    exact ⟨by simp, Below.al (Below.refl _ _) _⟩
end Go.Proofs.Ytokbmahnjmmcaaa
