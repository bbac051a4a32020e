/- DiskPower's walk; by-name template. -/
import Derived.Test.YtgdbjlmlgnjpoaaSteps
namespace Go.Proofs.Ytgdbjlmlgnjpoaa
open Go.RowKit

def PowPost (len : Nat) (B : Nat) (w : World) (n : Value) (c : Value) (wr : World) : Prop :=
  ∃ (k : Nat) (D : DS), k ≤ len ∧ c = .int .i64 (k : Int) ∧ n = .int .i64 D.n ∧ DiskAt wr B D ∧ Calm D k ∧ Below B w wr ∧ B < wr.heap.size

set_option maxHeartbeats 1000000 in
theorem power_walk {a c : Option Addr} {L : List Stp} {Z : List Int} (cap capc : Nat) {w : World} (h : StepsAt w a L) (hz : IntsAt w c Z) :
    Calls Try.prog 3 #[.slice a L.length cap, .slice c Z.length capc] w fun e w' => e = .returned (.bool true) ∧ Below w.heap.size w w' := by
  have hhv := heavy_any cap h
  have hl := h.1
  have hlz := hz.1
  have hnew := new_any w
  have HS := Lib.hid h
  have HZ := Lib.hid hz
  clear h hz
  generalize hlen : L.length = len at *
  have HL := Lib.hid hlen
  clear hlen
  generalize hlen : Z.length = lenz at *
  have HLZ := Lib.hid hlen
  clear hlen
  go_enter Try.func3, Try.ntmps3
  go_wp2_with fail
  refine hhv.mono ?_
  rintro e w' ⟨bv, rfl, hb, rfl⟩
  cases bv
  · have hlen := hb rfl
    clear hb hhv
    go_wp2_with (go_at_call 9; refine hnew.mono ?_; rintro e w1 ⟨rfl, hd1, hb1, hs1⟩)
    obtain ⟨B, hBe⟩ : ∃ B, B = w.heap.size := ⟨_, rfl⟩
    rw [← hBe] at hd1 hb1 hs1 ⊢
    have hB : w.heap.size ≤ B := Nat.le_of_eq hBe.symm
    have HB := Lib.hid hBe
    clear hBe hnew
    go_loopw [6, 7] (fun n c wr => ∃ (k : Nat) (D : DS), k ≤ len ∧ c = .int .i64 (k : Int) ∧ n = .int .i64 D.n ∧ DiskAt wr B D ∧ Calm D k ∧ Below B w wr ∧ B < wr.heap.size) (fun _ c _ => len - (intOf c).toNat)
    case atStart => exact ⟨0, D0, by omega, rfl, rfl, hd1, calm0, hb1, hs1⟩
    case round =>
      obtain ⟨k, D, hk, rfl, rfl, hd, hc, hbel, hBs⟩ := hrel
      have hn0 := hc.n0
      have hn1 := hc.n1
      by_cases hlt : k < len
      · obtain ⟨b, off, s, ha, hbb, _, hst0⟩ := HS.out.get (k := k) (by rw [HL.out]; exact hlt)
        have hst := hst0.block (hbel.block b (by omega))
        have hbB : b ≠ B := by omega
        subst ha
        have HST := Lib.hid hst
        have hbBl : b < B := by omega
        clear hst
        by_cases hlz : k < lenz
        · obtain ⟨bz, oz, z, hza, hzb, hzc, hzw⟩ := HZ.out.get (k := k) (by rw [HLZ.out]; exact hlz)
          have hzc2 : wr.cell? ⟨bz, oz + k, none⟩ = some (.int .i64 z) := by rw [hbel.cell (p := ⟨bz, oz + k, none⟩) (by show bz < B; omega)]; exact hzc
          subst hza
          clear hzc
          have hc4 := hc.power hzw
          obtain ⟨D4, hD4⟩ : ∃ D4 : DS, D4 = { { D with c := true, l := max z 0 } with d := false, c := false } := ⟨_, rfl⟩
          have HN4 : Hid (D4.n = D.n) := by rw [hD4]; rfl
          have hpow : ∀ w', DiskAt w' B { D with c := true, l := max z 0 } → Calls Try.prog 11 #[.pointer (some ⟨B, 0, none⟩)] w' fun e w'' => e = .returned (.tuple #[]) ∧ DiskAt w'' B D4 ∧ Off B w' w'' := by
            intro w' hw'
            rw [hD4]
            exact power_any hw'
          rw [← hD4] at hc4
          clear hD4 hzw
          by_cases hi0 : 0 ≤ s.n
          · by_cases hi1 : s.n < 160
            · by_cases hsz : s.text.size ≤ 512
              · have hre := hc4.res hi0 hi1 hsz
                have hn5 : (wst D4 s.n s.text).n = D.n + 1 := by rw [hc4.n hi0 hi1 hsz, HN4.out]
                have hg5 := hc4.hit2 hi0 hi1 hsz
                have hc5 := hc4.wst s.n s.text
                have hwr : ∀ w', DiskAt w' B D4 → Calls Try.prog 12 #[.pointer (some ⟨B, 0, none⟩), .int .i64 s.n, .string s.text] w' fun e w'' => e = .returned (.int .i64 0) ∧ DiskAt w'' B (wst D4 s.n s.text) ∧ Off B w' w'' := by
                  intro w' hw'
                  have := write_any hw' hc4.l0 hc4.l1 hc4.n0 (by have := hc4.n1; omega) s.n s.text
                  rw [hre] at this
                  exact this
                clear hre
                obtain ⟨D5, hD5⟩ : ∃ D5, D5 = wst D4 s.n s.text := ⟨_, rfl⟩
                rw [← hD5] at hc5 hwr hn5 hg5
                clear hD5
                have hdead : ∀ w', DiskAt w' B D5 → Calls Try.prog 13 #[.pointer (some ⟨B, 0, none⟩)] w' fun e w'' => e = .returned (.bool false) ∧ w' = w'' := by
                  intro w' hw'
                  have := dead_any hw'
                  rw [hc5.d] at this
                  exact this
                have hread : ∀ w', DiskAt w' B D5 → Calls Try.prog 14 #[.pointer (some ⟨B, 0, none⟩), .int .i64 s.n] w' fun e w'' => e = .returned (.tuple #[.string s.text, .int .i64 0]) ∧ w' = w'' := by
                  intro w' hw'
                  have := read_in hw' hi0 hi1
                  rw [hg5] at this
                  exact this
                clear hg5
                have HN5 := Lib.hid hn5
                clear hn5
                go_wp2_with (first
                  | (go_at_call 10; refine (cut_any hd z).mono ?_; rintro e w2 ⟨rfl, hd2, ho2⟩)
                  | (go_at_call 11; refine (hpow _ hd2).mono ?_; rintro e w4 ⟨rfl, hd4, ho4⟩; have hb4 := (hbel.trans (ho2.toBelow (Nat.le_of_lt hBs))).trans (ho4.toBelow (Nat.le_of_lt hd2.lt)); have hst4 := hst0.block (hb4.block b hbBl); have k1 := hst4.ck; have k2 := hst4.cn; have k3 := hst4.ct; clear hst4)
                  | (go_at_call 12; refine (hwr _ (hd4.alloc _)).mono ?_; rintro e w5 ⟨rfl, hd5, ho5⟩; have hq := (ho5.block w4.heap.size (by simp) (Nat.ne_of_gt hd4.lt)).trans (heap_alloc_new w4 _); have q1 : w5.cell? ⟨w4.heap.size, 1, none⟩ = some (.int .i64 s.n) := cell_of_row w5 w4.heap.size 1 _ _ _ hq; have q2 : w5.cell? ⟨w4.heap.size, 2, none⟩ = some (.string s.text) := cell_of_row w5 w4.heap.size 2 _ _ _ hq; clear hq)
                  | (go_at_call 13; refine (hdead _ hd5).mono ?_; rintro e w6 ⟨rfl, rfl⟩)
                  | (go_at_call 14; refine (hread _ hd5).mono ?_; rintro e w6 ⟨rfl, rfl⟩))
                go_roundw
                case rel => exact ⟨k + 1, D5, by omega, by go_num, by rw [HN5.out], hd5, hc5, (hb4.alloc (Nat.le_of_lt hd4.lt) _).trans (ho5.toBelow (by simp; exact Nat.le_succ_of_le (Nat.le_of_lt hd4.lt))), hd5.lt⟩
                case measure => simp [intOf]; omega
              · have hre := wres_big (D := D4) (s := s.text) hi0 hi1 (by omega)
                have hn5 : (wst D4 s.n s.text).n = D.n := by rw [Calm.big (by omega)]; exact HN4.out
                have hc5 := hc4.wst s.n s.text
                have hwr : ∀ w', DiskAt w' B D4 → Calls Try.prog 12 #[.pointer (some ⟨B, 0, none⟩), .int .i64 s.n, .string s.text] w' fun e w'' => e = .returned (.int .i64 11) ∧ DiskAt w'' B (wst D4 s.n s.text) ∧ Off B w' w'' := by
                  intro w' hw'
                  have := write_any hw' hc4.l0 hc4.l1 hc4.n0 (by have := hc4.n1; omega) s.n s.text
                  rw [hre] at this
                  exact this
                clear hre
                obtain ⟨D5, hD5⟩ : ∃ D5, D5 = wst D4 s.n s.text := ⟨_, rfl⟩
                rw [← hD5] at hc5 hwr hn5
                clear hD5
                have hdead : ∀ w', DiskAt w' B D5 → Calls Try.prog 13 #[.pointer (some ⟨B, 0, none⟩)] w' fun e w'' => e = .returned (.bool false) ∧ w' = w'' := by
                  intro w' hw'
                  have := dead_any hw'
                  rw [hc5.d] at this
                  exact this
                have HN5 := Lib.hid hn5
                clear hn5
                go_wp2_with (first
                  | (go_at_call 10; refine (cut_any hd z).mono ?_; rintro e w2 ⟨rfl, hd2, ho2⟩)
                  | (go_at_call 11; refine (hpow _ hd2).mono ?_; rintro e w4 ⟨rfl, hd4, ho4⟩; have hb4 := (hbel.trans (ho2.toBelow (Nat.le_of_lt hBs))).trans (ho4.toBelow (Nat.le_of_lt hd2.lt)); have hst4 := hst0.block (hb4.block b hbBl); have k1 := hst4.ck; have k2 := hst4.cn; have k3 := hst4.ct; clear hst4)
                  | (go_at_call 12; refine (hwr _ (hd4.alloc _)).mono ?_; rintro e w5 ⟨rfl, hd5, ho5⟩; have hq := (ho5.block w4.heap.size (by simp) (Nat.ne_of_gt hd4.lt)).trans (heap_alloc_new w4 _); have q1 : w5.cell? ⟨w4.heap.size, 1, none⟩ = some (.int .i64 s.n) := cell_of_row w5 w4.heap.size 1 _ _ _ hq; have q2 : w5.cell? ⟨w4.heap.size, 2, none⟩ = some (.string s.text) := cell_of_row w5 w4.heap.size 2 _ _ _ hq; clear hq)
                  | (go_at_call 13; refine (hdead _ hd5).mono ?_; rintro e w6 ⟨rfl, rfl⟩))
                go_roundw
                case rel => exact ⟨k + 1, D5, by omega, by go_num, by rw [HN5.out], hd5, hc5, (hb4.alloc (Nat.le_of_lt hd4.lt) _).trans (ho5.toBelow (by simp; exact Nat.le_succ_of_le (Nat.le_of_lt hd4.lt))), hd5.lt⟩
                case measure => simp [intOf]; omega
            · have hin : inSec s.n = false := inSec_no.2 (by omega)
              have hre := wres_no (D := D4) (s := s.text) hin
              have hn5 : (wst D4 s.n s.text).n = D.n := by rw [wst_no hin]; exact HN4.out
              clear hin
              have hc5 := hc4.wst s.n s.text
              have hwr : ∀ w', DiskAt w' B D4 → Calls Try.prog 12 #[.pointer (some ⟨B, 0, none⟩), .int .i64 s.n, .string s.text] w' fun e w'' => e = .returned (.int .i64 10) ∧ DiskAt w'' B (wst D4 s.n s.text) ∧ Off B w' w'' := by
                intro w' hw'
                have := write_any hw' hc4.l0 hc4.l1 hc4.n0 (by have := hc4.n1; omega) s.n s.text
                rw [hre] at this
                exact this
              clear hre
              obtain ⟨D5, hD5⟩ : ∃ D5, D5 = wst D4 s.n s.text := ⟨_, rfl⟩
              rw [← hD5] at hc5 hwr hn5
              clear hD5
              have hdead : ∀ w', DiskAt w' B D5 → Calls Try.prog 13 #[.pointer (some ⟨B, 0, none⟩)] w' fun e w'' => e = .returned (.bool false) ∧ w' = w'' := by
                intro w' hw'
                have := dead_any hw'
                rw [hc5.d] at this
                exact this
              have HN5 := Lib.hid hn5
              clear hn5
              go_wp2_with (first
                | (go_at_call 10; refine (cut_any hd z).mono ?_; rintro e w2 ⟨rfl, hd2, ho2⟩)
                | (go_at_call 11; refine (hpow _ hd2).mono ?_; rintro e w4 ⟨rfl, hd4, ho4⟩; have hb4 := (hbel.trans (ho2.toBelow (Nat.le_of_lt hBs))).trans (ho4.toBelow (Nat.le_of_lt hd2.lt)); have hst4 := hst0.block (hb4.block b hbBl); have k1 := hst4.ck; have k2 := hst4.cn; have k3 := hst4.ct; clear hst4)
                | (go_at_call 12; refine (hwr _ (hd4.alloc _)).mono ?_; rintro e w5 ⟨rfl, hd5, ho5⟩; have hq := (ho5.block w4.heap.size (by simp) (Nat.ne_of_gt hd4.lt)).trans (heap_alloc_new w4 _); have q1 : w5.cell? ⟨w4.heap.size, 1, none⟩ = some (.int .i64 s.n) := cell_of_row w5 w4.heap.size 1 _ _ _ hq; have q2 : w5.cell? ⟨w4.heap.size, 2, none⟩ = some (.string s.text) := cell_of_row w5 w4.heap.size 2 _ _ _ hq; clear hq)
                | (go_at_call 13; refine (hdead _ hd5).mono ?_; rintro e w6 ⟨rfl, rfl⟩))
              go_roundw
              case rel => exact ⟨k + 1, D5, by omega, by go_num, by rw [HN5.out], hd5, hc5, (hb4.alloc (Nat.le_of_lt hd4.lt) _).trans (ho5.toBelow (by simp; exact Nat.le_succ_of_le (Nat.le_of_lt hd4.lt))), hd5.lt⟩
              case measure => simp [intOf]; omega
          · have hin : inSec s.n = false := inSec_no.2 (by omega)
            have hre := wres_no (D := D4) (s := s.text) hin
            have hn5 : (wst D4 s.n s.text).n = D.n := by rw [wst_no hin]; exact HN4.out
            clear hin
            have hc5 := hc4.wst s.n s.text
            have hwr : ∀ w', DiskAt w' B D4 → Calls Try.prog 12 #[.pointer (some ⟨B, 0, none⟩), .int .i64 s.n, .string s.text] w' fun e w'' => e = .returned (.int .i64 10) ∧ DiskAt w'' B (wst D4 s.n s.text) ∧ Off B w' w'' := by
              intro w' hw'
              have := write_any hw' hc4.l0 hc4.l1 hc4.n0 (by have := hc4.n1; omega) s.n s.text
              rw [hre] at this
              exact this
            clear hre
            obtain ⟨D5, hD5⟩ : ∃ D5, D5 = wst D4 s.n s.text := ⟨_, rfl⟩
            rw [← hD5] at hc5 hwr hn5
            clear hD5
            have hdead : ∀ w', DiskAt w' B D5 → Calls Try.prog 13 #[.pointer (some ⟨B, 0, none⟩)] w' fun e w'' => e = .returned (.bool false) ∧ w' = w'' := by
              intro w' hw'
              have := dead_any hw'
              rw [hc5.d] at this
              exact this
            have HN5 := Lib.hid hn5
            clear hn5
            go_wp2_with (first
              | (go_at_call 10; refine (cut_any hd z).mono ?_; rintro e w2 ⟨rfl, hd2, ho2⟩)
              | (go_at_call 11; refine (hpow _ hd2).mono ?_; rintro e w4 ⟨rfl, hd4, ho4⟩; have hb4 := (hbel.trans (ho2.toBelow (Nat.le_of_lt hBs))).trans (ho4.toBelow (Nat.le_of_lt hd2.lt)); have hst4 := hst0.block (hb4.block b hbBl); have k1 := hst4.ck; have k2 := hst4.cn; have k3 := hst4.ct; clear hst4)
              | (go_at_call 12; refine (hwr _ (hd4.alloc _)).mono ?_; rintro e w5 ⟨rfl, hd5, ho5⟩; have hq := (ho5.block w4.heap.size (by simp) (Nat.ne_of_gt hd4.lt)).trans (heap_alloc_new w4 _); have q1 : w5.cell? ⟨w4.heap.size, 1, none⟩ = some (.int .i64 s.n) := cell_of_row w5 w4.heap.size 1 _ _ _ hq; have q2 : w5.cell? ⟨w4.heap.size, 2, none⟩ = some (.string s.text) := cell_of_row w5 w4.heap.size 2 _ _ _ hq; clear hq)
              | (go_at_call 13; refine (hdead _ hd5).mono ?_; rintro e w6 ⟨rfl, rfl⟩))
            go_roundw
            case rel => exact ⟨k + 1, D5, by omega, by go_num, by rw [HN5.out], hd5, hc5, (hb4.alloc (Nat.le_of_lt hd4.lt) _).trans (ho5.toBelow (by simp; exact Nat.le_succ_of_le (Nat.le_of_lt hd4.lt))), hd5.lt⟩
            case measure => simp [intOf]; omega
        · have hc4 := hc
          have HN4 : Hid (D.n = D.n) := rfl
          have k1 := HST.out.ck
          have k2 := HST.out.cn
          have k3 := HST.out.ct
          by_cases hi0 : 0 ≤ s.n
          · by_cases hi1 : s.n < 160
            · by_cases hsz : s.text.size ≤ 512
              · have hre := hc4.res hi0 hi1 hsz
                have hn5 : (wst D s.n s.text).n = D.n + 1 := by rw [hc4.n hi0 hi1 hsz, HN4.out]
                have hg5 := hc4.hit2 hi0 hi1 hsz
                have hc5 := hc4.wst s.n s.text
                have hwr : ∀ w', DiskAt w' B D → Calls Try.prog 12 #[.pointer (some ⟨B, 0, none⟩), .int .i64 s.n, .string s.text] w' fun e w'' => e = .returned (.int .i64 0) ∧ DiskAt w'' B (wst D s.n s.text) ∧ Off B w' w'' := by
                  intro w' hw'
                  have := write_any hw' hc4.l0 hc4.l1 hc4.n0 (by have := hc4.n1; omega) s.n s.text
                  rw [hre] at this
                  exact this
                clear hre
                obtain ⟨D5, hD5⟩ : ∃ D5, D5 = wst D s.n s.text := ⟨_, rfl⟩
                rw [← hD5] at hc5 hwr hn5 hg5
                clear hD5
                have hdead : ∀ w', DiskAt w' B D5 → Calls Try.prog 13 #[.pointer (some ⟨B, 0, none⟩)] w' fun e w'' => e = .returned (.bool false) ∧ w' = w'' := by
                  intro w' hw'
                  have := dead_any hw'
                  rw [hc5.d] at this
                  exact this
                have hread : ∀ w', DiskAt w' B D5 → Calls Try.prog 14 #[.pointer (some ⟨B, 0, none⟩), .int .i64 s.n] w' fun e w'' => e = .returned (.tuple #[.string s.text, .int .i64 0]) ∧ w' = w'' := by
                  intro w' hw'
                  have := read_in hw' hi0 hi1
                  rw [hg5] at this
                  exact this
                clear hg5
                have HN5 := Lib.hid hn5
                clear hn5
                go_wp2_with (first
                  | (go_at_call 12; refine (hwr _ (hd.alloc _)).mono ?_; rintro e w5 ⟨rfl, hd5, ho5⟩; have hq := (ho5.block wr.heap.size (by simp) (Nat.ne_of_gt hd.lt)).trans (heap_alloc_new wr _); have q1 : w5.cell? ⟨wr.heap.size, 1, none⟩ = some (.int .i64 s.n) := cell_of_row w5 wr.heap.size 1 _ _ _ hq; have q2 : w5.cell? ⟨wr.heap.size, 2, none⟩ = some (.string s.text) := cell_of_row w5 wr.heap.size 2 _ _ _ hq; clear hq)
                  | (go_at_call 13; refine (hdead _ hd5).mono ?_; rintro e w6 ⟨rfl, rfl⟩)
                  | (go_at_call 14; refine (hread _ hd5).mono ?_; rintro e w6 ⟨rfl, rfl⟩))
                go_roundw
                case rel => exact ⟨k + 1, D5, by omega, by go_num, by rw [HN5.out], hd5, hc5, (hbel.alloc (Nat.le_of_lt hd.lt) _).trans (ho5.toBelow (by simp; exact Nat.le_succ_of_le (Nat.le_of_lt hd.lt))), hd5.lt⟩
                case measure => simp [intOf]; omega
              · have hre := wres_big (D := D) (s := s.text) hi0 hi1 (by omega)
                have hn5 : (wst D s.n s.text).n = D.n := by rw [Calm.big (by omega)]
                have hc5 := hc4.wst s.n s.text
                have hwr : ∀ w', DiskAt w' B D → Calls Try.prog 12 #[.pointer (some ⟨B, 0, none⟩), .int .i64 s.n, .string s.text] w' fun e w'' => e = .returned (.int .i64 11) ∧ DiskAt w'' B (wst D s.n s.text) ∧ Off B w' w'' := by
                  intro w' hw'
                  have := write_any hw' hc4.l0 hc4.l1 hc4.n0 (by have := hc4.n1; omega) s.n s.text
                  rw [hre] at this
                  exact this
                clear hre
                obtain ⟨D5, hD5⟩ : ∃ D5, D5 = wst D s.n s.text := ⟨_, rfl⟩
                rw [← hD5] at hc5 hwr hn5
                clear hD5
                have hdead : ∀ w', DiskAt w' B D5 → Calls Try.prog 13 #[.pointer (some ⟨B, 0, none⟩)] w' fun e w'' => e = .returned (.bool false) ∧ w' = w'' := by
                  intro w' hw'
                  have := dead_any hw'
                  rw [hc5.d] at this
                  exact this
                have HN5 := Lib.hid hn5
                clear hn5
                go_wp2_with (first
                  | (go_at_call 12; refine (hwr _ (hd.alloc _)).mono ?_; rintro e w5 ⟨rfl, hd5, ho5⟩; have hq := (ho5.block wr.heap.size (by simp) (Nat.ne_of_gt hd.lt)).trans (heap_alloc_new wr _); have q1 : w5.cell? ⟨wr.heap.size, 1, none⟩ = some (.int .i64 s.n) := cell_of_row w5 wr.heap.size 1 _ _ _ hq; have q2 : w5.cell? ⟨wr.heap.size, 2, none⟩ = some (.string s.text) := cell_of_row w5 wr.heap.size 2 _ _ _ hq; clear hq)
                  | (go_at_call 13; refine (hdead _ hd5).mono ?_; rintro e w6 ⟨rfl, rfl⟩))
                go_roundw
                case rel => exact ⟨k + 1, D5, by omega, by go_num, by rw [HN5.out], hd5, hc5, (hbel.alloc (Nat.le_of_lt hd.lt) _).trans (ho5.toBelow (by simp; exact Nat.le_succ_of_le (Nat.le_of_lt hd.lt))), hd5.lt⟩
                case measure => simp [intOf]; omega
            · have hin : inSec s.n = false := inSec_no.2 (by omega)
              have hre := wres_no (D := D) (s := s.text) hin
              have hn5 : (wst D s.n s.text).n = D.n := by rw [wst_no hin]
              clear hin
              have hc5 := hc4.wst s.n s.text
              have hwr : ∀ w', DiskAt w' B D → Calls Try.prog 12 #[.pointer (some ⟨B, 0, none⟩), .int .i64 s.n, .string s.text] w' fun e w'' => e = .returned (.int .i64 10) ∧ DiskAt w'' B (wst D s.n s.text) ∧ Off B w' w'' := by
                intro w' hw'
                have := write_any hw' hc4.l0 hc4.l1 hc4.n0 (by have := hc4.n1; omega) s.n s.text
                rw [hre] at this
                exact this
              clear hre
              obtain ⟨D5, hD5⟩ : ∃ D5, D5 = wst D s.n s.text := ⟨_, rfl⟩
              rw [← hD5] at hc5 hwr hn5
              clear hD5
              have hdead : ∀ w', DiskAt w' B D5 → Calls Try.prog 13 #[.pointer (some ⟨B, 0, none⟩)] w' fun e w'' => e = .returned (.bool false) ∧ w' = w'' := by
                intro w' hw'
                have := dead_any hw'
                rw [hc5.d] at this
                exact this
              have HN5 := Lib.hid hn5
              clear hn5
              go_wp2_with (first
                | (go_at_call 12; refine (hwr _ (hd.alloc _)).mono ?_; rintro e w5 ⟨rfl, hd5, ho5⟩; have hq := (ho5.block wr.heap.size (by simp) (Nat.ne_of_gt hd.lt)).trans (heap_alloc_new wr _); have q1 : w5.cell? ⟨wr.heap.size, 1, none⟩ = some (.int .i64 s.n) := cell_of_row w5 wr.heap.size 1 _ _ _ hq; have q2 : w5.cell? ⟨wr.heap.size, 2, none⟩ = some (.string s.text) := cell_of_row w5 wr.heap.size 2 _ _ _ hq; clear hq)
                | (go_at_call 13; refine (hdead _ hd5).mono ?_; rintro e w6 ⟨rfl, rfl⟩))
              go_roundw
              case rel => exact ⟨k + 1, D5, by omega, by go_num, by rw [HN5.out], hd5, hc5, (hbel.alloc (Nat.le_of_lt hd.lt) _).trans (ho5.toBelow (by simp; exact Nat.le_succ_of_le (Nat.le_of_lt hd.lt))), hd5.lt⟩
              case measure => simp [intOf]; omega
          · have hin : inSec s.n = false := inSec_no.2 (by omega)
            have hre := wres_no (D := D) (s := s.text) hin
            have hn5 : (wst D s.n s.text).n = D.n := by rw [wst_no hin]
            clear hin
            have hc5 := hc4.wst s.n s.text
            have hwr : ∀ w', DiskAt w' B D → Calls Try.prog 12 #[.pointer (some ⟨B, 0, none⟩), .int .i64 s.n, .string s.text] w' fun e w'' => e = .returned (.int .i64 10) ∧ DiskAt w'' B (wst D s.n s.text) ∧ Off B w' w'' := by
              intro w' hw'
              have := write_any hw' hc4.l0 hc4.l1 hc4.n0 (by have := hc4.n1; omega) s.n s.text
              rw [hre] at this
              exact this
            clear hre
            obtain ⟨D5, hD5⟩ : ∃ D5, D5 = wst D s.n s.text := ⟨_, rfl⟩
            rw [← hD5] at hc5 hwr hn5
            clear hD5
            have hdead : ∀ w', DiskAt w' B D5 → Calls Try.prog 13 #[.pointer (some ⟨B, 0, none⟩)] w' fun e w'' => e = .returned (.bool false) ∧ w' = w'' := by
              intro w' hw'
              have := dead_any hw'
              rw [hc5.d] at this
              exact this
            have HN5 := Lib.hid hn5
            clear hn5
            go_wp2_with (first
              | (go_at_call 12; refine (hwr _ (hd.alloc _)).mono ?_; rintro e w5 ⟨rfl, hd5, ho5⟩; have hq := (ho5.block wr.heap.size (by simp) (Nat.ne_of_gt hd.lt)).trans (heap_alloc_new wr _); have q1 : w5.cell? ⟨wr.heap.size, 1, none⟩ = some (.int .i64 s.n) := cell_of_row w5 wr.heap.size 1 _ _ _ hq; have q2 : w5.cell? ⟨wr.heap.size, 2, none⟩ = some (.string s.text) := cell_of_row w5 wr.heap.size 2 _ _ _ hq; clear hq)
              | (go_at_call 13; refine (hdead _ hd5).mono ?_; rintro e w6 ⟨rfl, rfl⟩))
            go_roundw
            case rel => exact ⟨k + 1, D5, by omega, by go_num, by rw [HN5.out], hd5, hc5, (hbel.alloc (Nat.le_of_lt hd.lt) _).trans (ho5.toBelow (by simp; exact Nat.le_succ_of_le (Nat.le_of_lt hd.lt))), hd5.lt⟩
            case measure => simp [intOf]; omega
      · have hwri : ∀ w', DiskAt w' B D → Calls Try.prog 15 #[.pointer (some ⟨B, 0, none⟩)] w' fun e w'' => e = .returned (.int .i64 D.n) ∧ w' = w'' := fun w' hw' => writes_any hw'
        go_wp2_with (go_at_call 15; refine (hwri _ hd).mono ?_; rintro e w6 ⟨rfl, rfl⟩)
        go_ret
        exact ⟨ret_bool (by simp), hbel.mono hB⟩
  · go_wp2_with fail
    go_ret
    exact ⟨rfl, Below.refl _ _⟩
end Go.Proofs.Ytgdbjlmlgnjpoaa
