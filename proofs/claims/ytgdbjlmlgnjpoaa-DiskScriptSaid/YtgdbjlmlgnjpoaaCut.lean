/- DiskCut's walk; by-name template. -/
import Derived.Test.YtgdbjlmlgnjpoaaSteps
import Derived.Laws.AppendOwn
namespace Go.Proofs.Ytgdbjlmlgnjpoaa
open Go.RowKit

/-- A disk behind Cut(n), without Power. -/
structure CutInv (D : DS) (n : Int) (k : Nat) : Prop where
  c : D.c = true
  l : D.l = max n 0 - D.n
  l0 : 0 ≤ D.l
  l1 : D.l ≤ 9223372036854775807
  d : D.d = true → D.l = 0
  n0 : 0 ≤ D.n
  n1 : D.n ≤ k
  s : D.S.length = 160

theorem CutInv.mono {D : DS} {n : Int} {k j : Nat} (h : CutInv D n k) (hj : k ≤ j) : CutInv D n j := ⟨h.c, h.l, h.l0, h.l1, h.d, h.n0, by have := h.n1; omega, h.s⟩
theorem cutInv0 {n : Int} (hn : i64ok n) : CutInv { D0 with c := true, l := max n 0 } n 0 := by
  obtain ⟨a, b⟩ := hn
  refine ⟨rfl, ?_, ?_, ?_, fun h => (by cases h), Int.le_refl 0, Int.le_refl 0, rfl⟩
  · show max n 0 = max n 0 - 0
    omega
  · show 0 ≤ max n 0
    omega
  · show max n 0 ≤ _
    omega
theorem CutInv.stuck_no {D : DS} {n : Int} {k : Nat} (h : CutInv D n k) (hm : D.n < n) : stuck D = false := by
  have hl := h.l
  have n0 := h.n0
  have hne : D.l ≠ 0 := by omega
  have hd : D.d = false := by
    cases hd : D.d
    · rfl
    · exact absurd (h.d hd) hne
  simp [stuck, h.c, hd, hne]
theorem CutInv.stuck_yes {D : DS} {n : Int} {k : Nat} (h : CutInv D n k) (hm : ¬ D.n < n) : stuck D = true ∧ D.l = 0 := by
  have hl := h.l
  have n0 := h.n0
  have l0 := h.l0
  have he : D.l = 0 := by omega
  exact ⟨by simp [stuck, h.c, he], he⟩
theorem CutInv.ok {D : DS} {n : Int} {k : Nat} (h : CutInv D n k) (hm : D.n < n) {i : Int} {s : ByteArray} (h0 : 0 ≤ i) (h1 : i < 160) (hs : s.size ≤ 512) :
    wres D i s = 0 ∧ wst D i s = { D with l := D.l - 1, S := D.S.set i.toNat s, n := D.n + 1 } ∧ CutInv (wst D i s) n (k + 1) := by
  have hst := h.stuck_no hm
  have hl := h.l
  have n0 := h.n0
  have n1 := h.n1
  have l1 := h.l1
  have hne : D.l ≠ 0 := by omega
  have hd : D.d = false := by
    cases hd : D.d
    · rfl
    · exact absurd (h.d hd) hne
  have e : wst D i s = { D with l := D.l - 1, S := D.S.set i.toNat s, n := D.n + 1 } := by
    simp [wst, inSec_yes h0 h1, hst, Nat.not_lt.2 hs, spent, h.c, hd, hne]
  refine ⟨by simp [wres, inSec_yes h0 h1, hst, Nat.not_lt.2 hs], e, ?_⟩
  rw [e]
  refine ⟨h.c, ?_, ?_, ?_, fun hh => ?_, ?_, ?_, by simp [h.s]⟩
  · show D.l - 1 = max n 0 - (D.n + 1)
    omega
  · show 0 ≤ D.l - 1
    omega
  · show D.l - 1 ≤ _
    omega
  · rw [show D.d = true from hh] at hd
    cases hd
  · show 0 ≤ D.n + 1
    omega
  · show D.n + 1 ≤ _
    omega
theorem CutInv.gone {D : DS} {n : Int} {k : Nat} (h : CutInv D n k) (hm : ¬ D.n < n) {i : Int} {s : ByteArray} (h0 : 0 ≤ i) (h1 : i < 160) (hs : s.size ≤ 512) :
    wres D i s = 12 ∧ (wst D i s).S = D.S ∧ (wst D i s).n = D.n ∧ CutInv (wst D i s) n k := by
  obtain ⟨hst, hl⟩ := h.stuck_yes hm
  have e : wst D i s = { D with d := true } := by
    simp [wst, inSec_yes h0 h1, hst, Nat.not_lt.2 hs, spent, h.c, hl]
  rw [e]
  exact ⟨by simp [wres, inSec_yes h0 h1, hst, Nat.not_lt.2 hs], rfl, rfl, h.c, h.l, h.l0, h.l1, fun _ => hl, h.n0, h.n1, h.s⟩

/-- What is wanted of each sector lies in a row of the law's own. -/
def WantAt (w : World) (g cap : Nat) (S : List ByteArray) : Prop :=
  ∃ cur : Array Value, w.heap[g]? = some (.cells cur 9 (0, 0)) ∧ cur.size = cap ∧ ∀ j, j < 160 → cur[j]? = some (.string (S.getD j ByteArray.empty))
theorem WantAt.lt {w : World} {g cap : Nat} {S : List ByteArray} (h : WantAt w g cap S) : g < w.heap.size := by
  obtain ⟨cur, h, _⟩ := h
  exact (Array.getElem?_eq_some_iff.1 h).1
theorem WantAt.free {w : World} {g cap : Nat} {S : List ByteArray} (h : WantAt w g cap S) (o : Nat) : w.frozen? ⟨g, o, none⟩ = false := by
  obtain ⟨cur, h, _⟩ := h
  simp [World.frozen?, h]
theorem WantAt.cell {w : World} {g cap : Nat} {S : List ByteArray} (h : WantAt w g cap S) {j : Nat} (hj : j < 160) : w.cell? ⟨g, j, none⟩ = some (.string (S.getD j ByteArray.empty)) := by
  obtain ⟨cur, h, _, hc⟩ := h
  rw [← hc j hj]
  simp [World.cell?, h]
theorem WantAt.block {w w' : World} {g cap : Nat} {S : List ByteArray} (h : WantAt w g cap S) (e : w'.heap[g]? = w.heap[g]?) : WantAt w' g cap S := by
  obtain ⟨cur, h, r⟩ := h
  exact ⟨cur, e.trans h, r⟩
theorem WantAt.set {w : World} {g cap : Nat} {S : List ByteArray} (h : WantAt w g cap S) (hS : S.length = 160) (hcap : 160 ≤ cap) {k : Nat} (hk : k < 160) (s : ByteArray) : WantAt (w.setCell ⟨g, k, none⟩ (.string s)) g cap (S.set k s) := by
  obtain ⟨cur, h, hc, hj⟩ := h
  refine ⟨_, heap_set h k _, by simp [hc], fun j hj1 => ?_⟩
  by_cases e : k = j
  · subst e
    have : k < cur.size := by omega
    simp [this, hS, hk]
  · rw [Array.getElem?_setIfInBounds, if_neg e, hj j hj1]
    simp [e]

theorem again_ok {w : World} {B : Nat} {D : DS} {k : Nat} {n : Int} (h : DiskAt w B { D with d := false, c := false }) (hc : CutInv D n k) (hk : k ≤ 1024) : Calls Try.prog 12 #[.pointer (some ⟨B, 0, none⟩), .int .i64 3, .string ⟨#[97, 103, 97, 105, 110]⟩] w fun e w' => e = .returned (.int .i64 0) ∧ Off B w w' := by
  have hm : Calm { D with d := false, c := false } k := ⟨rfl, rfl, hc.l0, hc.l1, hc.n0, hc.n1, hc.s⟩
  have := write_any h hm.l0 hm.l1 hm.n0 (by have := hm.n1; omega) 3 ⟨#[97, 103, 97, 105, 110]⟩
  rw [hm.res (by decide) (by decide) (by decide)] at this
  exact this.mono fun e w' ⟨h1, _, h3⟩ => ⟨h1, h3⟩

theorem cell_one (w : World) (x : Value) (t : TypeId) : ∀ j u, [x][j]? = some u → (w.alloc (.cells #[x] t)).cell? ((⟨w.heap.size, 0, none⟩ : Addr).add j) = some u := by
  intro j u hj
  have h0 : j = 0 := by
    have := (List.getElem?_eq_some_iff.1 hj).1
    simpa using this
  subst h0
  simp only [List.getElem?_cons_zero] at hj
  rw [← hj]
  show (w.alloc (.cells #[x] t)).cell? ⟨w.heap.size, 0, none⟩ = some x
  exact cell_of_row _ _ 0 _ _ _ (heap_alloc_new w _)

theorem own_ge {w : World} {base : Nat} {e : TypeId} {size : Nat} {v : Value} {n : Nat} {xs : List Value} (h : w.ownsRow base e size v n xs) {b : Nat} (hb : v.ownBlock = some b) : base ≤ b := by
  rcases h.2 with ⟨rfl, _⟩ | ⟨g, cap, cur, rfl, hg, _⟩
  · cases hb
  · cases hb
    exact hg

theorem want0 {w : World} {A : Nat} {v : Value} (h : w.ownsRow (A + 1) 9 1 v 160 (List.replicate 160 (.string ByteArray.empty))) : ∃ g cap, v = .slice (some ⟨g, 0, none⟩) 160 cap ∧ A < g ∧ 160 ≤ cap ∧ WantAt w g cap D0.S := by
  rcases h.2 with ⟨_, h0⟩ | ⟨g, cap, cur, rfl, hg, hh, hc, _, hs, ht⟩
  · cases h0
  · refine ⟨g, cap, rfl, hg, hc, cur, hh, by omega, fun j hj => ?_⟩
    rw [D0_get, ← Array.getElem?_toList, ← List.getElem?_take_of_lt (i := j) (j := 160 * 1) (by omega), ht, List.getElem?_replicate, if_pos hj]

theorem str_info : (Try.prog.info? 9).map (fun i => (i.zero, i.size, i.bytes)) = some (some (.string ByteArray.empty), 1, 16) := by kernel_rfl

set_option maxHeartbeats 2000000 in
set_option maxRecDepth 100000 in
theorem cut_walk {a : Option Addr} {L : List Stp} (cap : Nat) (n : Int) {w : World} (h : StepsAt w a L) (hni : i64ok n) :
    Calls Try.prog 6 #[.slice a L.length cap, .int .i64 n] w fun e w' => e = .returned (.bool true) ∧ Below w.heap.size w w' := by
  have hhv := heavy_any cap h
  have hl := h.1
  have hnew := new_any w
  have HS := Lib.hid h
  clear h
  generalize hlen : L.length = len at *
  have HL := Lib.hid hlen
  clear hlen
  obtain ⟨i0, hi, hz0, hz1, hz2⟩ := info_parts str_info
  go_enter Try.func6, Try.ntmps6
  go_wp2_with fail
  refine hhv.mono ?_
  rintro e w' ⟨bv, rfl, hb, rfl⟩
  clear hhv
  cases bv
  · have hlen : len ≤ 1024 := by rw [← HL.out]; exact hb rfl
    clear hb
    go_wp2_with (go_at_call 9; refine hnew.mono ?_; rintro e w1 ⟨rfl, hd1, hb1, hs1⟩)
    clear hnew
    obtain ⟨A, hAe⟩ : ∃ A, A = w.heap.size := ⟨_, rfl⟩
    rw [← hAe] at hd1 hb1 hs1 ⊢
    have hlA : w.heap.size ≤ A := Nat.le_of_eq hAe.symm
    have HA := Lib.hid hAe
    clear hAe
    go_loopw [6, 7] (fun v c wr => ∃ k : Nat, k ≤ 160 ∧ c = .int .i64 (k : Int) ∧ wr.ownsRow (A + 1) 9 1 v k (List.replicate k (.string ByteArray.empty)) ∧ DiskAt wr A D0 ∧ Below A w wr ∧ A < wr.heap.size) (fun _ c _ => 160 - (intOf c).toNat)
    case atStart =>
      exact ⟨0, by omega, rfl, ⟨rfl, .inr ⟨_, 0, #[], rfl, by omega, heap_alloc_new w1 _, Nat.le_refl _, by decide, rfl, rfl⟩⟩, hd1.alloc _, hb1.alloc (by omega) _, by simp; omega⟩
    case round =>
      obtain ⟨k, hk, rfl, hown, hA, hbel, hAs⟩ := hrel
      by_cases hk2 : k < 160
      · go_wp2_with (at_builtin; refine wpList_append_own _ rfl _ _ 40 rfl (A + 1) 9 i0 (.string ByteArray.empty) 1 16 Try.underlying40 hi hz0 hz1 hz2 rfl (by decide) _ _ _ rfl (hown.alloc _) ⟨wr.heap.size, 0, none⟩ 1 1 [.string ByteArray.empty] rfl rfl (cell_one _ _ _) (fun x hx => by simp at hx; subst hx; rfl) (by unfold maxLen; omega) (by omega) (by simp; omega) ?_; intro v' w3 hown' hgrow3 hnil3)
        have hge := fun b hb => own_ge hown (b := b) hb
        have hA3 : DiskAt w3 A D0 := ⟨hA.1, by rw [hgrow3.block A (by simp; omega) (fun e => by have := hge A e.symm; omega), Below.heap_alloc _ _ _ hA.lt]; exact hA.2⟩
        have hbel3 : Below A w w3 := (hbel.alloc (Nat.le_of_lt hAs) _).grown hgrow3 (by simp; omega) (fun b hb => by have := hge b hb; omega)
        have hlt3 : A < w3.heap.size := hA3.lt
        have hown3 : w3.ownsRow (A + 1) 9 1 v' (k + 1) (List.replicate (k + 1) (.string ByteArray.empty)) := by
          rw [List.replicate_succ']
          exact hown'
        clear hown' hgrow3 hge hnil3
        go_wp2_with fail
        go_roundw
        case rel => exact ⟨k + 1, by omega, by go_num, hown3, hA3, hbel3, hlt3⟩
        case measure => simp [intOf]; omega
      · obtain rfl : k = 160 := by omega
        obtain ⟨g, capw, rfl, hAg, hcapw, hwant⟩ := want0 hown
        clear hown hk2 hk hi hz0 hz1 hz2
        go_wp2_with (go_at_call 10; refine (cut_any hA n).mono ?_; rintro e w2 ⟨rfl, hA2, hoA2⟩)
        have hwant2 := hwant.block (hoA2.block g hwant.lt (by omega))
        have hbel2 := hbel.trans (hoA2.toBelow (Nat.le_of_lt hAs))
        have hgA : g ≠ A := by omega
        have hinv := cutInv0 hni
        clear hwant hoA2 hbel hA hd1 hb1 hs1 hAs
        have hgl2 : g < w2.heap.size := hwant2.lt
        have hcut0 : Hid (({ D0 with c := true, l := max n 0 } : DS).n = 0) := rfl
        go_loopw [8, 9] (fun m c wr => ∃ (k : Nat) (D : DS), k ≤ len ∧ c = .int .i64 (k : Int) ∧ m = .int .i64 D.n ∧ DiskAt wr A D ∧ WantAt wr g capw D.S ∧ CutInv D n k ∧ Below A w wr) (fun _ c _ => len - (intOf c).toNat)
        case atStart => exact ⟨0, _, by omega, rfl, by rw [hcut0.out], hA2, hwant2, hinv, hbel2⟩
        case round =>
          clear hA2 hwant2 hinv hbel2 hgl2 hcut0
          obtain ⟨k, D, hk, rfl, rfl, hA, hwant, hc, hbel⟩ := hrel
          have hn0 := hc.n0
          have hn1 := hc.n1
          by_cases hlt : k < len
          · obtain ⟨b, off, s, ha, hbb, _, hst0⟩ := HS.out.get (k := k) (by rw [HL.out]; exact hlt)
            have hbA : b < A := by omega
            have hst := hst0.block (hbel.block b hbA)
            have k1 := hst.ck
            have k2 := hst.cn
            have k3 := hst.ct
            subst ha
            clear hst hst0
            generalize s.kind = kd at *
            generalize s.n = ni at *
            generalize s.text = tx at *
            have hwal := hwant.block (Below.heap_alloc wr (.cells #[.int .i64 kd, .int .i64 ni, .string tx] 29) g hwant.lt)
            have hgw : wr.heap.size ≠ g := Nat.ne_of_gt hwant.lt
            have hgw2 : g ≠ wr.heap.size := Nat.ne_of_lt hwant.lt
            by_cases hi0 : 0 ≤ ni
            · by_cases hi1 : ni < 160
              · by_cases hsz : tx.size ≤ 512
                · by_cases hm : D.n < n
                  · obtain ⟨j, rfl⟩ := Int.eq_ofNat_of_zero_le hi0
                    obtain ⟨hre, hst5, hc5⟩ := hc.ok hm hi0 hi1 hsz
                    have hn5 : (wst D (j : Int) tx).n = D.n + 1 := by rw [hst5]
                    have hS5 : (wst D (j : Int) tx).S = D.S.set j tx := by rw [hst5]; simp
                    clear hst5
                    have hwr : ∀ w', DiskAt w' A D → Calls Try.prog 12 #[.pointer (some ⟨A, 0, none⟩), .int .i64 (j : Int), .string tx] w' fun e w'' => e = .returned (.int .i64 0) ∧ DiskAt w'' A (wst D (j : Int) tx) ∧ Off A w' w'' := by
                      intro w' hw'
                      have := write_any hw' hc.l0 hc.l1 hc.n0 (by omega) (j : Int) tx
                      rw [hre] at this
                      exact this
                    clear hre
                    generalize wst D (j : Int) tx = D5 at *
                    have HN5 := Lib.hid hn5
                    have HS5 := Lib.hid hS5
                    clear hn5 hS5
                    go_wp2_with (go_at_call 12; refine (hwr _ (hA.alloc _)).mono ?_; rintro e w5 ⟨rfl, hA5, hoA5⟩; have hq := (hoA5.block wr.heap.size (by simp) (Nat.ne_of_gt hA.lt)).trans (heap_alloc_new wr _); have q1 : w5.cell? ⟨wr.heap.size, 1, none⟩ = some (.int .i64 (j : Int)) := cell_of_row w5 wr.heap.size 1 _ _ _ hq; have q2 : w5.cell? ⟨wr.heap.size, 2, none⟩ = some (.string tx) := cell_of_row w5 wr.heap.size 2 _ _ _ hq; clear hq; have hwant5 := hwal.block (hoA5.block g hwal.lt hgA); have hbel5 := (hbel.alloc (Nat.le_of_lt hA.lt) (.cells #[.int .i64 kd, .int .i64 (j : Int), .string tx] 29)).trans (hoA5.toBelow (Nat.le_of_lt (hA.alloc _).lt)); have hfr5 := hwant5.free j; have hce5 := hwant5.cell (j := j) (by omega))
                    go_roundw
                    case rel => exact ⟨k + 1, D5, by omega, by go_num, by rw [HN5.out], hA5.off ((Off.refl g w5).set j _) (by omega), by rw [HS5.out]; exact hwant5.set hc.s hcapw (by omega) tx, hc5, hbel5.setCell (p := ⟨g, j, none⟩) (by show A ≤ g; omega) _⟩
                    case measure => simp [intOf]; omega
                  · obtain ⟨hre, hS5, hn5, hc5⟩ := hc.gone hm hi0 hi1 hsz
                    have hwr : ∀ w', DiskAt w' A D → Calls Try.prog 12 #[.pointer (some ⟨A, 0, none⟩), .int .i64 ni, .string tx] w' fun e w'' => e = .returned (.int .i64 12) ∧ DiskAt w'' A (wst D ni tx) ∧ Off A w' w'' := by
                      intro w' hw'
                      have := write_any hw' hc.l0 hc.l1 hc.n0 (by omega) ni tx
                      rw [hre] at this
                      exact this
                    clear hre
                    generalize wst D ni tx = D5 at *
                    have HN5 := Lib.hid hn5
                    have HS5 := Lib.hid hS5
                    clear hn5 hS5
                    go_wp2_with (go_at_call 12; refine (hwr _ (hA.alloc _)).mono ?_; rintro e w5 ⟨rfl, hA5, hoA5⟩; have hq := (hoA5.block wr.heap.size (by simp) (Nat.ne_of_gt hA.lt)).trans (heap_alloc_new wr _); have q1 : w5.cell? ⟨wr.heap.size, 1, none⟩ = some (.int .i64 ni) := cell_of_row w5 wr.heap.size 1 _ _ _ hq; have q2 : w5.cell? ⟨wr.heap.size, 2, none⟩ = some (.string tx) := cell_of_row w5 wr.heap.size 2 _ _ _ hq; clear hq; have hwant5 := hwal.block (hoA5.block g hwal.lt hgA); have hbel5 := (hbel.alloc (Nat.le_of_lt hA.lt) (.cells #[.int .i64 kd, .int .i64 ni, .string tx] 29)).trans (hoA5.toBelow (Nat.le_of_lt (hA.alloc _).lt)))
                    go_roundw
                    case rel => exact ⟨k + 1, D5, by omega, by go_num, by rw [HN5.out], hA5, by rw [HS5.out]; exact hwant5, hc5.mono (by omega), hbel5⟩
                    case measure => simp [intOf]; omega
                · have hre := wres_big (D := D) hi0 hi1 (s := tx) (by omega)
                  have hn5 : (wst D ni tx).n = D.n := by rw [Calm.big (by omega)]
                  have hS5 : (wst D ni tx).S = D.S := by rw [Calm.big (by omega)]
                  have hc5 : CutInv (wst D ni tx) n k := by rw [Calm.big (by omega)]; exact hc
                  have hwr : ∀ w', DiskAt w' A D → Calls Try.prog 12 #[.pointer (some ⟨A, 0, none⟩), .int .i64 ni, .string tx] w' fun e w'' => e = .returned (.int .i64 11) ∧ DiskAt w'' A (wst D ni tx) ∧ Off A w' w'' := by
                    intro w' hw'
                    have := write_any hw' hc.l0 hc.l1 hc.n0 (by omega) ni tx
                    rw [hre] at this
                    exact this
                  clear hre
                  generalize wst D ni tx = D5 at *
                  have HN5 := Lib.hid hn5
                  have HS5 := Lib.hid hS5
                  clear hn5 hS5
                  go_wp2_with (go_at_call 12; refine (hwr _ (hA.alloc _)).mono ?_; rintro e w5 ⟨rfl, hA5, hoA5⟩; have hq := (hoA5.block wr.heap.size (by simp) (Nat.ne_of_gt hA.lt)).trans (heap_alloc_new wr _); have q1 : w5.cell? ⟨wr.heap.size, 1, none⟩ = some (.int .i64 ni) := cell_of_row w5 wr.heap.size 1 _ _ _ hq; have q2 : w5.cell? ⟨wr.heap.size, 2, none⟩ = some (.string tx) := cell_of_row w5 wr.heap.size 2 _ _ _ hq; clear hq; have hwant5 := hwal.block (hoA5.block g hwal.lt hgA); have hbel5 := (hbel.alloc (Nat.le_of_lt hA.lt) (.cells #[.int .i64 kd, .int .i64 ni, .string tx] 29)).trans (hoA5.toBelow (Nat.le_of_lt (hA.alloc _).lt)))
                  go_roundw
                  case rel => exact ⟨k + 1, D5, by omega, by go_num, by rw [HN5.out], hA5, by rw [HS5.out]; exact hwant5, hc5.mono (by omega), hbel5⟩
                  case measure => simp [intOf]; omega
              · have hin : inSec ni = false := inSec_no.2 (by omega)
                have hre := wres_no (D := D) (s := tx) hin
                have hn5 : (wst D ni tx).n = D.n := by rw [wst_no hin]
                have hS5 : (wst D ni tx).S = D.S := by rw [wst_no hin]
                have hc5 : CutInv (wst D ni tx) n k := by rw [wst_no hin]; exact hc
                clear hin
                have hwr : ∀ w', DiskAt w' A D → Calls Try.prog 12 #[.pointer (some ⟨A, 0, none⟩), .int .i64 ni, .string tx] w' fun e w'' => e = .returned (.int .i64 10) ∧ DiskAt w'' A (wst D ni tx) ∧ Off A w' w'' := by
                  intro w' hw'
                  have := write_any hw' hc.l0 hc.l1 hc.n0 (by omega) ni tx
                  rw [hre] at this
                  exact this
                clear hre
                generalize wst D ni tx = D5 at *
                have HN5 := Lib.hid hn5
                have HS5 := Lib.hid hS5
                clear hn5 hS5
                go_wp2_with (go_at_call 12; refine (hwr _ (hA.alloc _)).mono ?_; rintro e w5 ⟨rfl, hA5, hoA5⟩; have hq := (hoA5.block wr.heap.size (by simp) (Nat.ne_of_gt hA.lt)).trans (heap_alloc_new wr _); have q1 : w5.cell? ⟨wr.heap.size, 1, none⟩ = some (.int .i64 ni) := cell_of_row w5 wr.heap.size 1 _ _ _ hq; have q2 : w5.cell? ⟨wr.heap.size, 2, none⟩ = some (.string tx) := cell_of_row w5 wr.heap.size 2 _ _ _ hq; clear hq; have hwant5 := hwal.block (hoA5.block g hwal.lt hgA); have hbel5 := (hbel.alloc (Nat.le_of_lt hA.lt) (.cells #[.int .i64 kd, .int .i64 ni, .string tx] 29)).trans (hoA5.toBelow (Nat.le_of_lt (hA.alloc _).lt)))
                go_roundw
                case rel => exact ⟨k + 1, D5, by omega, by go_num, by rw [HN5.out], hA5, by rw [HS5.out]; exact hwant5, hc5.mono (by omega), hbel5⟩
                case measure => simp [intOf]; omega
            · have hin : inSec ni = false := inSec_no.2 (by omega)
              have hre := wres_no (D := D) (s := tx) hin
              have hn5 : (wst D ni tx).n = D.n := by rw [wst_no hin]
              have hS5 : (wst D ni tx).S = D.S := by rw [wst_no hin]
              have hc5 : CutInv (wst D ni tx) n k := by rw [wst_no hin]; exact hc
              clear hin
              have hwr : ∀ w', DiskAt w' A D → Calls Try.prog 12 #[.pointer (some ⟨A, 0, none⟩), .int .i64 ni, .string tx] w' fun e w'' => e = .returned (.int .i64 10) ∧ DiskAt w'' A (wst D ni tx) ∧ Off A w' w'' := by
                intro w' hw'
                have := write_any hw' hc.l0 hc.l1 hc.n0 (by omega) ni tx
                rw [hre] at this
                exact this
              clear hre
              generalize wst D ni tx = D5 at *
              have HN5 := Lib.hid hn5
              have HS5 := Lib.hid hS5
              clear hn5 hS5
              go_wp2_with (go_at_call 12; refine (hwr _ (hA.alloc _)).mono ?_; rintro e w5 ⟨rfl, hA5, hoA5⟩; have hq := (hoA5.block wr.heap.size (by simp) (Nat.ne_of_gt hA.lt)).trans (heap_alloc_new wr _); have q1 : w5.cell? ⟨wr.heap.size, 1, none⟩ = some (.int .i64 ni) := cell_of_row w5 wr.heap.size 1 _ _ _ hq; have q2 : w5.cell? ⟨wr.heap.size, 2, none⟩ = some (.string tx) := cell_of_row w5 wr.heap.size 2 _ _ _ hq; clear hq; have hwant5 := hwal.block (hoA5.block g hwal.lt hgA); have hbel5 := (hbel.alloc (Nat.le_of_lt hA.lt) (.cells #[.int .i64 kd, .int .i64 ni, .string tx] 29)).trans (hoA5.toBelow (Nat.le_of_lt (hA.alloc _).lt)))
              go_roundw
              case rel => exact ⟨k + 1, D5, by omega, by go_num, by rw [HN5.out], hA5, by rw [HS5.out]; exact hwant5, hc5.mono (by omega), hbel5⟩
              case measure => simp [intOf]; omega
          · have hra := fun (j : Nat) (hj : j < 160) => read_at hA hj
            have hwa := fun (j : Nat) (hj : j < 160) => hwant.cell hj
            have HRA := Lib.hid hra
            have HWA := Lib.hid hwa
            clear hra hwa hl
            go_wp2_with fail
            go_loop [13] (fun c => ∃ j : Nat, j ≤ 160 ∧ c = .int .i64 (j : Int)) (fun c => 160 - (intOf c).toNat)
            case atStart => exact ⟨0, by omega, rfl⟩
            case round =>
              obtain ⟨j, hj, rfl⟩ := hrel
              by_cases hj2 : j < 160
              · have hja := HRA.out j hj2
                have hjb := HWA.out j hj2
                generalize D.S.getD j ByteArray.empty = t at hja hjb
                have hj3 : (j : Int) < 160 := by omega
                go_wp2_with (go_at_call 14; refine hja.mono ?_; rintro e w5 ⟨rfl, rfl⟩)
                go_round
                case rel => exact ⟨j + 1, by omega, by go_num⟩
                case measure => simp [intOf]; omega
              · have hpo := power_any hA
                have hag := fun w' hw' => again_ok (w := w') (B := A) hw' hc (by omega)
                go_wp2_with (first
                  | (go_at_call 15; refine (writes_any hA).mono ?_; rintro e w5 ⟨rfl, rfl⟩)
                  | (go_at_call 11; refine hpo.mono ?_; rintro e w5 ⟨rfl, hA5, hoA5⟩)
                  | (go_at_call 13; refine (dead_any hA5).mono ?_; rintro e w6 ⟨rfl, rfl⟩)
                  | (go_at_call 12; refine (hag _ hA5).mono ?_; rintro e w7 ⟨rfl, hoA7⟩))
                go_ret
                exact ⟨rfl, ((hbel.trans (hoA5.toBelow (Nat.le_of_lt hA.lt))).trans (hoA7.toBelow (Nat.le_of_lt hA5.lt))).mono hlA⟩
  · go_wp2_with fail
    go_ret
    exact ⟨rfl, Below.refl _ _⟩
end Go.Proofs.Ytgdbjlmlgnjpoaa
