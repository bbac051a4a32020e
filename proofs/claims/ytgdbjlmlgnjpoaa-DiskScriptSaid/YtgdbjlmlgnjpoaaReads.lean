/- DiskReads' walk; by-name template. -/
import Derived.Test.YtgdbjlmlgnjpoaaSteps
import Derived.Deep.RegionHeld3
namespace Go.Proofs.Ytgdbjlmlgnjpoaa
open Go.RowKit

theorem read_some {w : World} {B : Nat} {D : DS} (h : DiskAt w B D) (i : Int) : Calls Try.prog 14 #[.pointer (some ⟨B, 0, none⟩), .int .i64 i] w fun e w' => (∃ t r, e = .returned (.tuple #[.string t, .int .i64 r])) ∧ w = w' := by
  by_cases hi : inSec i = true
  · obtain ⟨h0, h1⟩ := inSec_iff.1 hi
    exact (read_in h h0 h1).mono fun e w' ⟨he, hw⟩ => ⟨⟨_, _, he⟩, hw⟩
  · exact (read_no (by simpa using hi) B w).mono fun e w' ⟨he, hw⟩ => ⟨⟨_, _, he⟩, hw⟩

/-- What both disks may be. -/
structure Sound (D : DS) (k : Nat) : Prop where
  l0 : 0 ≤ D.l
  l1 : D.l ≤ 9223372036854775807
  n0 : 0 ≤ D.n
  n1 : D.n ≤ k
  s : D.S.length = 160
theorem Calm.sound {D : DS} {k : Nat} (h : Calm D k) : Sound D k := ⟨h.l0, h.l1, h.n0, h.n1, h.s⟩
theorem Sound.cut {D : DS} {k : Nat} (h : Sound D k) {z : Int} (hz : i64ok z) : Sound { D with c := true, l := max z 0 } k := by
  obtain ⟨a, b⟩ := hz
  refine ⟨?_, ?_, h.n0, h.n1, h.s⟩
  · show 0 ≤ max z 0
    omega
  · show max z 0 ≤ _
    omega
theorem Sound.spent {D : DS} {k : Nat} (h : Sound D k) : Sound (spent D) k := by
  have h0 := h.l0
  have h1 := h.l1
  unfold Ytgdbjlmlgnjpoaa.spent
  split
  · exact ⟨h.l0, h.l1, h.n0, h.n1, h.s⟩
  · rename_i hcl
    split
    · exact h
    · split
      · rename_i hc
        refine ⟨?_, ?_, h.n0, h.n1, h.s⟩
        · simp [hc] at hcl
          show 0 ≤ D.l - 1
          omega
        · show D.l - 1 ≤ _
          omega
      · exact h
theorem Sound.wst {D : DS} {k : Nat} (h : Sound D k) (i : Int) (t : ByteArray) : Sound (wst D i t) (k + 1) := by
  have n0 := h.spent.n0
  have n1 := h.spent.n1
  have m1 := h.n1
  have e := spent_n D
  unfold Ytgdbjlmlgnjpoaa.wst
  split
  · exact ⟨h.l0, h.l1, h.n0, by omega, h.s⟩
  · split
    · exact ⟨h.l0, h.l1, h.n0, by omega, h.s⟩
    · split
      · exact ⟨h.spent.l0, h.spent.l1, h.spent.n0, by omega, h.spent.s⟩
      · exact ⟨h.spent.l0, h.spent.l1, by show 0 ≤ (Ytgdbjlmlgnjpoaa.spent D).n + 1; omega, by show (Ytgdbjlmlgnjpoaa.spent D).n + 1 ≤ _; omega, by simp [h.spent.s]⟩
theorem Sound.mono {D : DS} {k l : Nat} (h : Sound D k) (hl : k ≤ l) : Sound D l := ⟨h.l0, h.l1, h.n0, by have := h.n1; omega, h.s⟩

def alive : ByteArray := ⟨#[97, 108, 105, 118, 101]⟩
def D1 : DS := wst D0 7 alive
theorem calm1 : Calm D1 1 := calm0.wst 7 alive
theorem get1 : D1.S.getD (7 : Int).toNat ByteArray.empty = alive := calm0.hit2 (by decide) (by decide) (by decide)
theorem write7 {w : World} {B : Nat} (h : DiskAt w B D0) : Calls Try.prog 12 #[.pointer (some ⟨B, 0, none⟩), .int .i64 7, .string ⟨#[97, 108, 105, 118, 101]⟩] w fun e w' => e = .returned (.int .i64 0) ∧ DiskAt w' B D1 ∧ Off B w w' := by
  have := write_any h calm0.l0 calm0.l1 calm0.n0 (by decide) 7 alive
  rw [calm0.res (by decide) (by decide) (by decide)] at this
  exact this
theorem read7 {w : World} {B : Nat} (h : DiskAt w B D1) : Calls Try.prog 14 #[.pointer (some ⟨B, 0, none⟩), .int .i64 7] w fun e w' => e = .returned (.tuple #[.string ⟨#[97, 108, 105, 118, 101]⟩, .int .i64 0]) ∧ w = w' := by
  have := read_in h (i := 7) (by decide) (by decide)
  rw [get1] at this
  exact this

set_option maxHeartbeats 2000000 in
set_option maxRecDepth 100000 in
theorem reads_walk {a c : Option Addr} {L : List Stp} {Z : List Int} (cap capc : Nat) {w : World} (h : StepsAt w a L) (hz : IntsAt w c Z) :
    Calls Try.prog 4 #[.slice a L.length cap, .slice c Z.length capc] w fun e w' => e = .returned (.bool true) ∧ Below w.heap.size w w' := by
  have hhv := heavy_any cap h
  have hl := h.1
  have hlz := hz.1
  have hnew := new_any w
  have HS := Lib.hid h
  have HZ := Lib.hid hz
  clear h hz
  generalize hlen : L.length = len at *
  have HL := Lib.hid hlen
  clear hlen
  generalize hlen : Z.length = lenz at *
  have HLZ := Lib.hid hlen
  clear hlen
  go_enter Try.func4, Try.ntmps4
  go_wp2_with fail
  refine hhv.mono ?_
  rintro e w' ⟨bv, rfl, hb, rfl⟩
  clear hhv
  cases bv
  · have hlen : len ≤ 1024 := by rw [← HL.out]; exact hb rfl
    clear hb
    by_cases hlz2 : lenz ≤ 1024
    · go_wp2_with (go_at_call 9; refine hnew.mono ?_; rintro e w1 ⟨rfl, hd1, hb1, hs1⟩)
      clear hnew
      refine (new_any w1).mono ?_
      rintro e w2 ⟨rfl, hd2, hb2, hs2⟩
      obtain ⟨A, hAe⟩ : ∃ A, A = w.heap.size := ⟨_, rfl⟩
      obtain ⟨B, hBe⟩ : ∃ B, B = w1.heap.size := ⟨_, rfl⟩
      rw [← hAe] at hd1 hb1 hs1 ⊢
      rw [← hBe] at hd2 hb2 hs2 hs1 ⊢
      have hAB : A ≠ B := by omega
      have hBA : B ≠ A := by omega
      have hlA : w.heap.size ≤ A := Nat.le_of_eq hAe.symm
      have hA2 : DiskAt w2 A D0 := hd1.below hb2 (by omega)
      have hbel2 : Below A w w2 := hb1.trans (hb2.mono (by omega))
      have HABL : Hid (A < B) := by show A < B; omega
      have HA := Lib.hid hAe
      have HB := Lib.hid hBe
      clear hAe hBe hd1 hb1 hb2
      go_wp2_with (first
        | (go_at_call_of 12 (Value.pointer (some ⟨A, 0, none⟩)); refine (write7 hA2).mono ?_; rintro e w3 ⟨rfl, hA3, hoA3⟩; have hB3 := hd2.off hoA3 hBA; have hbel3 := hbel2.trans (hoA3.toBelow (Nat.le_of_lt hA2.lt)))
        | (go_at_call_of 12 (Value.pointer (some ⟨B, 0, none⟩)); refine (write7 hB3).mono ?_; rintro e w4 ⟨rfl, hB4, hoB4⟩; have hA4 := hA3.off hoB4 hAB; have hbel4 := hbel3.trans ((hoB4.toBelow (Nat.le_of_lt hB3.lt)).mono (Nat.le_of_lt hs1)))
        | (go_at_call 14; refine (read7 hA4).mono ?_; rintro e w5 ⟨rfl, rfl⟩))
      clear hA2 hA3 hB3 hoA3 hoB4 hd2 hbel2 hbel3
      go_loopw [9] (fun c wr => ∃ (k : Nat) (D : DS), k ≤ len ∧ c = .int .i64 (k : Int) ∧ DiskAt wr A D ∧ DiskAt wr B D ∧ Sound D (k + 1) ∧ Below A w wr) (fun c _ => len - (intOf c).toNat)
      case atStart => exact ⟨0, D1, by omega, rfl, hA4, hB4, calm1.sound, hbel4⟩
      case round =>
        clear hA4 hB4 hbel4
        obtain ⟨k, D, hk, rfl, hA, hB, hc, hbel⟩ := hrel
        by_cases hlt : k < len
        · obtain ⟨b, off, s, ha, hbb, _, hst0⟩ := HS.out.get (k := k) (by rw [HL.out]; exact hlt)
          have hbA : b < A := by omega
          have hst := hst0.block (hbel.block b hbA)
          have k1 := hst.ck
          have k2 := hst.cn
          have k3 := hst.ct
          have hwn := hst.wn
          subst ha
          clear hst hst0
          by_cases hk2 : s.kind = 2
          · by_cases hlr : k < lenz
            · obtain ⟨bz, oz, z, hza, hzb, hzc, hzw⟩ := HZ.out.get (k := k) (by rw [HLZ.out]; exact hlr)
              have hzcell : ∀ w', Below A w w' → w'.cell? ⟨bz, oz + k, none⟩ = some (.int .i64 z) := fun w' hw => by rw [hw.cell (p := ⟨bz, oz + k, none⟩) (by show bz < A; omega)]; exact hzc
              subst hza
              have hkb : (s.kind == 2) = true := by simpa using hk2
              have HAB : Hid (A < B) := by show A < B; omega
              have HK := Lib.hid hk2
              clear hk2
              go_wp2_with (first
                | (go_at_call_of 10 (Value.pointer (some ⟨A, 0, none⟩)); refine (cut_any (hA.alloc _) s.n).mono ?_; rintro e w2 ⟨rfl, hA2, hoA2⟩; have hB2 := (hB.alloc _).off hoA2 hBA; have hg2 := (hoA2.block wr.heap.size (by simp) (Nat.ne_of_gt hA.lt)).trans (heap_alloc_new wr _); have q1 : w2.cell? ⟨wr.heap.size, 1, none⟩ = some (.int .i64 s.n) := cell_of_row w2 wr.heap.size 1 _ _ _ hg2; have HG2 := Lib.hid hg2; clear hg2)
                | (go_at_call_of 10 (Value.pointer (some ⟨B, 0, none⟩)); refine (cut_any hB2 s.n).mono ?_; rintro e w3 ⟨rfl, hB3, hoB3⟩; have hA3 := hA2.off hoB3 hAB; have HG3 := Lib.hid ((hoB3.block wr.heap.size (Nat.lt_of_lt_of_le (by simp) hoA2.size) (Nat.ne_of_gt hB.lt)).trans HG2.out); have hbel3 := (hbel.trans ((Off.refl A wr).alloc _ |>.toBelow (Nat.le_of_lt hA.lt))).trans ((hoA2.toBelow (Nat.le_of_lt (hA.alloc _).lt)).trans ((hoB3.toBelow (Nat.le_of_lt hB2.lt)).mono (Nat.le_of_lt HAB.out))); have hzz := hzcell w3 hbel3)
                | (go_at_call 14; refine (read_some hB3 z).mono ?_; rintro e w5 ⟨⟨t, r, rfl⟩, rfl⟩)
                | (go_at_call 13; refine (dead_any hB3).mono ?_; rintro e w5 ⟨rfl, rfl⟩)
                | (go_at_call 15; refine (writes_any hB3).mono ?_; rintro e w5 ⟨rfl, rfl⟩)
                | (go_at_call 16; refine (clone_any hB3).mono ?_; rintro e w4 ⟨rfl, _, hbc, _⟩; have hA4 := hA3.below hbc hA3.lt; have hB4 := hB3.below hbc hB3.lt; have HG4 := Lib.hid ((hbc.block wr.heap.size (Nat.lt_of_lt_of_le (Nat.lt_of_lt_of_le (by simp) hoA2.size) hoB3.size)).trans HG3.out); have hbel4 := hbel3.trans (hbc.mono (Nat.le_of_lt hA3.lt))))
              clear hA3 hB3 HG3 hbel3 hA2 hB2 HG2 q1
              clear hzz hzcell hzc
              generalize hgn : wr.heap.size = g at *
              have hgA : g ≠ A := by rw [← hgn]; exact Nat.ne_of_gt hA.lt
              have hgB : g ≠ B := by rw [← hgn]; exact Nat.ne_of_gt hB.lt
              clear hgn
              have hc4 := hc.cut hwn
              generalize hD4 : ({ D with c := true, l := max s.n 0 } : DS) = D4 at *
              clear hD4
              have hgl : g < (w4).heap.size := (Array.getElem?_eq_some_iff.1 HG4.out).1
              generalize w4 = wx at *
              have q1 : wx.cell? ⟨g, 1, none⟩ = some (.int .i64 s.n) := cell_of_row wx g 1 _ _ _ HG4.out
              have q2 : wx.cell? ⟨g, 2, none⟩ = some (.string s.text) := cell_of_row wx g 2 _ _ _ HG4.out
              obtain ⟨r, hr⟩ : ∃ r, wres D4 s.n s.text = r := ⟨_, rfl⟩
              have hc5 := hc4.wst s.n s.text
              have hwr : ∀ (C : Nat) (w' : World), DiskAt w' C D4 → Calls Try.prog 12 #[.pointer (some ⟨C, 0, none⟩), .int .i64 s.n, .string s.text] w' fun e w'' => e = .returned (.int .i64 r) ∧ DiskAt w'' C (wst D4 s.n s.text) ∧ Off C w' w'' := by
                intro C w' hw'
                rw [← hr]
                exact write_any hw' hc4.l0 hc4.l1 hc4.n0 (by have := hc4.n1; omega) s.n s.text
              clear hr
              generalize wst D4 s.n s.text = D5 at *
              go_region_held3 (fun w' => w'.cell? ⟨g, 1, none⟩ = some (.int .i64 s.n) ∧ w'.cell? ⟨g, 2, none⟩ = some (.string s.text))
                (first | exact ⟨q1, q2⟩ | exact ⟨q3, q4⟩ | exact ⟨q5, q6⟩)
                (first
                  | (go_at_call_of 12 (Value.pointer (some ⟨A, 0, none⟩)); refine (hwr A _ ?_).mono ?_; exact hA4.drew; rintro e w5 ⟨rfl, hA5, hoA5⟩; have hB5 := hB4.drew.off hoA5 hBA; have hg5 := hoA5.block g hgl hgA; have q3 : w5.cell? ⟨g, 1, none⟩ = some (.int .i64 s.n) := (World.cell?_of_block (a := ⟨g, 1, none⟩) hg5).trans q1; have q4 : w5.cell? ⟨g, 2, none⟩ = some (.string s.text) := (World.cell?_of_block (a := ⟨g, 2, none⟩) hg5).trans q2; clear hg5)
                  | (go_at_call_of 12 (Value.pointer (some ⟨B, 0, none⟩)); refine (hwr B _ ?_).mono ?_; exact hB5; rintro e w6 ⟨rfl, hB6, hoB6⟩; have hA6 := hA5.off hoB6 hAB; have hg6 := hoB6.block g (Nat.lt_of_lt_of_le hgl hoA5.size) hgB; have q5 : w6.cell? ⟨g, 1, none⟩ = some (.int .i64 s.n) := (World.cell?_of_block (a := ⟨g, 1, none⟩) hg6).trans q3; have q6 : w6.cell? ⟨g, 2, none⟩ = some (.string s.text) := (World.cell?_of_block (a := ⟨g, 2, none⟩) hg6).trans q4; clear hg6))
              go_wp2_with fail
              go_roundw
              case rel => exact ⟨k + 1, D5, by omega, by go_num, hA6, hB6, hc5, (hbel4.drew.trans (hoA5.toBelow (Nat.le_of_lt hA4.lt))).trans ((hoB6.toBelow (Nat.le_of_lt hB5.lt)).mono (Nat.le_of_lt HABL.out))⟩
              case measure => simp [intOf]; omega
            · have hkb : (s.kind == 2) = true := by simpa using hk2
              have HAB : Hid (A < B) := by show A < B; omega
              have HK := Lib.hid hk2
              clear hk2
              go_wp2_with (first
                | (go_at_call_of 10 (Value.pointer (some ⟨A, 0, none⟩)); refine (cut_any (hA.alloc _) s.n).mono ?_; rintro e w2 ⟨rfl, hA2, hoA2⟩; have hB2 := (hB.alloc _).off hoA2 hBA; have hg2 := (hoA2.block wr.heap.size (by simp) (Nat.ne_of_gt hA.lt)).trans (heap_alloc_new wr _); have q1 : w2.cell? ⟨wr.heap.size, 1, none⟩ = some (.int .i64 s.n) := cell_of_row w2 wr.heap.size 1 _ _ _ hg2; have HG2 := Lib.hid hg2; clear hg2)
                | (go_at_call_of 10 (Value.pointer (some ⟨B, 0, none⟩)); refine (cut_any hB2 s.n).mono ?_; rintro e w3 ⟨rfl, hB3, hoB3⟩; have hA3 := hA2.off hoB3 hAB; have HG3 := Lib.hid ((hoB3.block wr.heap.size (Nat.lt_of_lt_of_le (by simp) hoA2.size) (Nat.ne_of_gt hB.lt)).trans HG2.out); have hbel3 := (hbel.trans ((Off.refl A wr).alloc _ |>.toBelow (Nat.le_of_lt hA.lt))).trans ((hoA2.toBelow (Nat.le_of_lt (hA.alloc _).lt)).trans ((hoB3.toBelow (Nat.le_of_lt hB2.lt)).mono (Nat.le_of_lt HAB.out)))))
              have hA4 := hA3
              have hB4 := hB3
              have HG4 := HG3
              have hbel4 := hbel3
              clear hA3 hB3 HG3 hbel3 hA2 hB2 HG2 q1
              generalize hgn : wr.heap.size = g at *
              have hgA : g ≠ A := by rw [← hgn]; exact Nat.ne_of_gt hA.lt
              have hgB : g ≠ B := by rw [← hgn]; exact Nat.ne_of_gt hB.lt
              clear hgn
              have hc4 := hc.cut hwn
              generalize hD4 : ({ D with c := true, l := max s.n 0 } : DS) = D4 at *
              clear hD4
              have hgl : g < (w3).heap.size := (Array.getElem?_eq_some_iff.1 HG4.out).1
              generalize w3 = wx at *
              have q1 : wx.cell? ⟨g, 1, none⟩ = some (.int .i64 s.n) := cell_of_row wx g 1 _ _ _ HG4.out
              have q2 : wx.cell? ⟨g, 2, none⟩ = some (.string s.text) := cell_of_row wx g 2 _ _ _ HG4.out
              obtain ⟨r, hr⟩ : ∃ r, wres D4 s.n s.text = r := ⟨_, rfl⟩
              have hc5 := hc4.wst s.n s.text
              have hwr : ∀ (C : Nat) (w' : World), DiskAt w' C D4 → Calls Try.prog 12 #[.pointer (some ⟨C, 0, none⟩), .int .i64 s.n, .string s.text] w' fun e w'' => e = .returned (.int .i64 r) ∧ DiskAt w'' C (wst D4 s.n s.text) ∧ Off C w' w'' := by
                intro C w' hw'
                rw [← hr]
                exact write_any hw' hc4.l0 hc4.l1 hc4.n0 (by have := hc4.n1; omega) s.n s.text
              clear hr
              generalize wst D4 s.n s.text = D5 at *
              go_region_held3 (fun w' => w'.cell? ⟨g, 1, none⟩ = some (.int .i64 s.n) ∧ w'.cell? ⟨g, 2, none⟩ = some (.string s.text))
                (first | exact ⟨q1, q2⟩ | exact ⟨q3, q4⟩ | exact ⟨q5, q6⟩)
                (first
                  | (go_at_call_of 12 (Value.pointer (some ⟨A, 0, none⟩)); refine (hwr A _ ?_).mono ?_; exact hA4.drew; rintro e w5 ⟨rfl, hA5, hoA5⟩; have hB5 := hB4.drew.off hoA5 hBA; have hg5 := hoA5.block g hgl hgA; have q3 : w5.cell? ⟨g, 1, none⟩ = some (.int .i64 s.n) := (World.cell?_of_block (a := ⟨g, 1, none⟩) hg5).trans q1; have q4 : w5.cell? ⟨g, 2, none⟩ = some (.string s.text) := (World.cell?_of_block (a := ⟨g, 2, none⟩) hg5).trans q2; clear hg5)
                  | (go_at_call_of 12 (Value.pointer (some ⟨B, 0, none⟩)); refine (hwr B _ ?_).mono ?_; exact hB5; rintro e w6 ⟨rfl, hB6, hoB6⟩; have hA6 := hA5.off hoB6 hAB; have hg6 := hoB6.block g (Nat.lt_of_lt_of_le hgl hoA5.size) hgB; have q5 : w6.cell? ⟨g, 1, none⟩ = some (.int .i64 s.n) := (World.cell?_of_block (a := ⟨g, 1, none⟩) hg6).trans q3; have q6 : w6.cell? ⟨g, 2, none⟩ = some (.string s.text) := (World.cell?_of_block (a := ⟨g, 2, none⟩) hg6).trans q4; clear hg6))
              go_wp2_with fail
              go_roundw
              case rel => exact ⟨k + 1, D5, by omega, by go_num, hA6, hB6, hc5, (hbel4.drew.trans (hoA5.toBelow (Nat.le_of_lt hA4.lt))).trans ((hoB6.toBelow (Nat.le_of_lt hB5.lt)).mono (Nat.le_of_lt HABL.out))⟩
              case measure => simp [intOf]; omega
          · by_cases hlr : k < lenz
            · obtain ⟨bz, oz, z, hza, hzb, hzc, hzw⟩ := HZ.out.get (k := k) (by rw [HLZ.out]; exact hlr)
              have hzcell : ∀ w', Below A w w' → w'.cell? ⟨bz, oz + k, none⟩ = some (.int .i64 z) := fun w' hw => by rw [hw.cell (p := ⟨bz, oz + k, none⟩) (by show bz < A; omega)]; exact hzc
              subst hza
              have hkb : (s.kind == 2) = false := by simpa using hk2
              have HK := Lib.hid hk2
              clear hk2
              have hA3 := hA.alloc (.cells #[.int .i64 s.kind, .int .i64 s.n, .string s.text] 29)
              have hB3 := hB.alloc (.cells #[.int .i64 s.kind, .int .i64 s.n, .string s.text] 29)
              have HG3 : Hid ((wr.alloc (.cells #[.int .i64 s.kind, .int .i64 s.n, .string s.text] 29)).heap[wr.heap.size]? = some (.cells #[.int .i64 s.kind, .int .i64 s.n, .string s.text] 29)) := heap_alloc_new wr _
              have hbel3 : Below A w (wr.alloc (.cells #[.int .i64 s.kind, .int .i64 s.n, .string s.text] 29)) := hbel.alloc (Nat.le_of_lt hA.lt) _
              have hzz := hzcell _ hbel3
              go_wp2_with (first
                | (go_at_call 14; refine (read_some hB3 z).mono ?_; rintro e w5 ⟨⟨t, r, rfl⟩, rfl⟩)
                | (go_at_call 13; refine (dead_any hB3).mono ?_; rintro e w5 ⟨rfl, rfl⟩)
                | (go_at_call 15; refine (writes_any hB3).mono ?_; rintro e w5 ⟨rfl, rfl⟩)
                | (go_at_call 16; refine (clone_any hB3).mono ?_; rintro e w4 ⟨rfl, _, hbc, _⟩; have hA4 := hA3.below hbc hA3.lt; have hB4 := hB3.below hbc hB3.lt; have HG4 := Lib.hid ((hbc.block wr.heap.size (by simp)).trans HG3.out); have hbel4 := hbel3.trans (hbc.mono (Nat.le_of_lt hA3.lt))))
              clear hA3 hB3 HG3 hbel3
              clear hzz hzcell hzc
              generalize hgn : wr.heap.size = g at *
              have hgA : g ≠ A := by rw [← hgn]; exact Nat.ne_of_gt hA.lt
              have hgB : g ≠ B := by rw [← hgn]; exact Nat.ne_of_gt hB.lt
              clear hgn
              have hc4 := hc
              obtain ⟨D4, hD4⟩ : ∃ D4, D4 = D := ⟨_, rfl⟩
              rw [← hD4] at hA4 hB4 hc4
              clear hD4
              have hgl : g < (w4).heap.size := (Array.getElem?_eq_some_iff.1 HG4.out).1
              generalize w4 = wx at *
              have q1 : wx.cell? ⟨g, 1, none⟩ = some (.int .i64 s.n) := cell_of_row wx g 1 _ _ _ HG4.out
              have q2 : wx.cell? ⟨g, 2, none⟩ = some (.string s.text) := cell_of_row wx g 2 _ _ _ HG4.out
              obtain ⟨r, hr⟩ : ∃ r, wres D4 s.n s.text = r := ⟨_, rfl⟩
              have hc5 := hc4.wst s.n s.text
              have hwr : ∀ (C : Nat) (w' : World), DiskAt w' C D4 → Calls Try.prog 12 #[.pointer (some ⟨C, 0, none⟩), .int .i64 s.n, .string s.text] w' fun e w'' => e = .returned (.int .i64 r) ∧ DiskAt w'' C (wst D4 s.n s.text) ∧ Off C w' w'' := by
                intro C w' hw'
                rw [← hr]
                exact write_any hw' hc4.l0 hc4.l1 hc4.n0 (by have := hc4.n1; omega) s.n s.text
              clear hr
              generalize wst D4 s.n s.text = D5 at *
              go_region_held3 (fun w' => w'.cell? ⟨g, 1, none⟩ = some (.int .i64 s.n) ∧ w'.cell? ⟨g, 2, none⟩ = some (.string s.text))
                (first | exact ⟨q1, q2⟩ | exact ⟨q3, q4⟩ | exact ⟨q5, q6⟩)
                (first
                  | (go_at_call_of 12 (Value.pointer (some ⟨A, 0, none⟩)); refine (hwr A _ ?_).mono ?_; exact hA4.drew; rintro e w5 ⟨rfl, hA5, hoA5⟩; have hB5 := hB4.drew.off hoA5 hBA; have hg5 := hoA5.block g hgl hgA; have q3 : w5.cell? ⟨g, 1, none⟩ = some (.int .i64 s.n) := (World.cell?_of_block (a := ⟨g, 1, none⟩) hg5).trans q1; have q4 : w5.cell? ⟨g, 2, none⟩ = some (.string s.text) := (World.cell?_of_block (a := ⟨g, 2, none⟩) hg5).trans q2; clear hg5)
                  | (go_at_call_of 12 (Value.pointer (some ⟨B, 0, none⟩)); refine (hwr B _ ?_).mono ?_; exact hB5; rintro e w6 ⟨rfl, hB6, hoB6⟩; have hA6 := hA5.off hoB6 hAB; have hg6 := hoB6.block g (Nat.lt_of_lt_of_le hgl hoA5.size) hgB; have q5 : w6.cell? ⟨g, 1, none⟩ = some (.int .i64 s.n) := (World.cell?_of_block (a := ⟨g, 1, none⟩) hg6).trans q3; have q6 : w6.cell? ⟨g, 2, none⟩ = some (.string s.text) := (World.cell?_of_block (a := ⟨g, 2, none⟩) hg6).trans q4; clear hg6))
              go_wp2_with fail
              go_roundw
              case rel => exact ⟨k + 1, D5, by omega, by go_num, hA6, hB6, hc5, (hbel4.drew.trans (hoA5.toBelow (Nat.le_of_lt hA4.lt))).trans ((hoB6.toBelow (Nat.le_of_lt hB5.lt)).mono (Nat.le_of_lt HABL.out))⟩
              case measure => simp [intOf]; omega
            · have hkb : (s.kind == 2) = false := by simpa using hk2
              have HK := Lib.hid hk2
              clear hk2
              have hA3 := hA.alloc (.cells #[.int .i64 s.kind, .int .i64 s.n, .string s.text] 29)
              have hB3 := hB.alloc (.cells #[.int .i64 s.kind, .int .i64 s.n, .string s.text] 29)
              have HG3 : Hid ((wr.alloc (.cells #[.int .i64 s.kind, .int .i64 s.n, .string s.text] 29)).heap[wr.heap.size]? = some (.cells #[.int .i64 s.kind, .int .i64 s.n, .string s.text] 29)) := heap_alloc_new wr _
              have hbel3 : Below A w (wr.alloc (.cells #[.int .i64 s.kind, .int .i64 s.n, .string s.text] 29)) := hbel.alloc (Nat.le_of_lt hA.lt) _
              go_wp2_with fail
              have hA4 := hA3
              have hB4 := hB3
              have HG4 := HG3
              have hbel4 := hbel3
              clear hA3 hB3 HG3 hbel3
              generalize hgn : wr.heap.size = g at *
              have hgA : g ≠ A := by rw [← hgn]; exact Nat.ne_of_gt hA.lt
              have hgB : g ≠ B := by rw [← hgn]; exact Nat.ne_of_gt hB.lt
              clear hgn
              have hc4 := hc
              obtain ⟨D4, hD4⟩ : ∃ D4, D4 = D := ⟨_, rfl⟩
              rw [← hD4] at hA4 hB4 hc4
              clear hD4
              have hgl : g < ((wr.alloc (.cells #[.int .i64 s.kind, .int .i64 s.n, .string s.text] 29))).heap.size := (Array.getElem?_eq_some_iff.1 HG4.out).1
              generalize (wr.alloc (.cells #[.int .i64 s.kind, .int .i64 s.n, .string s.text] 29)) = wx at *
              have q1 : wx.cell? ⟨g, 1, none⟩ = some (.int .i64 s.n) := cell_of_row wx g 1 _ _ _ HG4.out
              have q2 : wx.cell? ⟨g, 2, none⟩ = some (.string s.text) := cell_of_row wx g 2 _ _ _ HG4.out
              obtain ⟨r, hr⟩ : ∃ r, wres D4 s.n s.text = r := ⟨_, rfl⟩
              have hc5 := hc4.wst s.n s.text
              have hwr : ∀ (C : Nat) (w' : World), DiskAt w' C D4 → Calls Try.prog 12 #[.pointer (some ⟨C, 0, none⟩), .int .i64 s.n, .string s.text] w' fun e w'' => e = .returned (.int .i64 r) ∧ DiskAt w'' C (wst D4 s.n s.text) ∧ Off C w' w'' := by
                intro C w' hw'
                rw [← hr]
                exact write_any hw' hc4.l0 hc4.l1 hc4.n0 (by have := hc4.n1; omega) s.n s.text
              clear hr
              generalize wst D4 s.n s.text = D5 at *
              go_region_held3 (fun w' => w'.cell? ⟨g, 1, none⟩ = some (.int .i64 s.n) ∧ w'.cell? ⟨g, 2, none⟩ = some (.string s.text))
                (first | exact ⟨q1, q2⟩ | exact ⟨q3, q4⟩ | exact ⟨q5, q6⟩)
                (first
                  | (go_at_call_of 12 (Value.pointer (some ⟨A, 0, none⟩)); refine (hwr A _ ?_).mono ?_; exact hA4.drew; rintro e w5 ⟨rfl, hA5, hoA5⟩; have hB5 := hB4.drew.off hoA5 hBA; have hg5 := hoA5.block g hgl hgA; have q3 : w5.cell? ⟨g, 1, none⟩ = some (.int .i64 s.n) := (World.cell?_of_block (a := ⟨g, 1, none⟩) hg5).trans q1; have q4 : w5.cell? ⟨g, 2, none⟩ = some (.string s.text) := (World.cell?_of_block (a := ⟨g, 2, none⟩) hg5).trans q2; clear hg5)
                  | (go_at_call_of 12 (Value.pointer (some ⟨B, 0, none⟩)); refine (hwr B _ ?_).mono ?_; exact hB5; rintro e w6 ⟨rfl, hB6, hoB6⟩; have hA6 := hA5.off hoB6 hAB; have hg6 := hoB6.block g (Nat.lt_of_lt_of_le hgl hoA5.size) hgB; have q5 : w6.cell? ⟨g, 1, none⟩ = some (.int .i64 s.n) := (World.cell?_of_block (a := ⟨g, 1, none⟩) hg6).trans q3; have q6 : w6.cell? ⟨g, 2, none⟩ = some (.string s.text) := (World.cell?_of_block (a := ⟨g, 2, none⟩) hg6).trans q4; clear hg6))
              go_wp2_with fail
              go_roundw
              case rel => exact ⟨k + 1, D5, by omega, by go_num, hA6, hB6, hc5, (hbel4.drew.trans (hoA5.toBelow (Nat.le_of_lt hA4.lt))).trans ((hoB6.toBelow (Nat.le_of_lt hB5.lt)).mono (Nat.le_of_lt HABL.out))⟩
              case measure => simp [intOf]; omega
        · have hra := fun (j : Nat) (hj : j < 160) => read_at hA hj
          have hrb := fun (j : Nat) (hj : j < 160) => read_at hB hj
          clear hlz hl hk
          have HRA := Lib.hid hra
          have HRB := Lib.hid hrb
          clear hra hrb
          go_wp2_with fail
          go_loop [11] (fun c => ∃ j : Nat, j ≤ 160 ∧ c = .int .i64 (j : Int)) (fun c => 160 - (intOf c).toNat)
          case atStart => exact ⟨0, by omega, rfl⟩
          case round =>
            obtain ⟨j, hj, rfl⟩ := hrel
            by_cases hj2 : j < 160
            · have hja := HRA.out j hj2
              have hjb := HRB.out j hj2
              generalize D.S.getD j ByteArray.empty = t at hja hjb
              go_wp2_with (first
                | (go_at_call_of 14 (Value.pointer (some ⟨A, 0, none⟩)); refine hja.mono ?_; rintro e w5 ⟨rfl, rfl⟩)
                | (go_at_call_of 14 (Value.pointer (some ⟨B, 0, none⟩)); refine hjb.mono ?_; rintro e w5 ⟨rfl, rfl⟩))
              go_round
              case rel => exact ⟨j + 1, by omega, by go_num⟩
              case measure => simp [intOf]; omega
            · go_wp2_with (first
                | (go_at_call_of 15 (Value.pointer (some ⟨A, 0, none⟩)); refine (writes_any hA).mono ?_; rintro e w5 ⟨rfl, rfl⟩)
                | (go_at_call_of 15 (Value.pointer (some ⟨B, 0, none⟩)); refine (writes_any hB).mono ?_; rintro e w5 ⟨rfl, rfl⟩)
                | (go_at_call_of 13 (Value.pointer (some ⟨A, 0, none⟩)); refine (dead_any hA).mono ?_; rintro e w5 ⟨rfl, rfl⟩)
                | (go_at_call_of 13 (Value.pointer (some ⟨B, 0, none⟩)); refine (dead_any hB).mono ?_; rintro e w5 ⟨rfl, rfl⟩))
              go_ret
              exact ⟨ret_bool (by simp), hbel.mono hlA⟩
    · go_wp2_with fail
      go_ret
      exact ⟨rfl, Below.refl _ _⟩
  · go_wp2_with fail
    go_ret
    exact ⟨rfl, Below.refl _ _⟩
end Go.Proofs.Ytgdbjlmlgnjpoaa
