/- slices.Compact at addresses; by-name template (gen_ccomp.py). -/
import Derived.Test.YtomennaekjklbaaCPtS
import Derived.Lib.SliceRun
import Derived.Deep.LoopGhost
import Derived.Laws.IdiomCopy
namespace Go.Proofs.Ytomennaekjklbaa
open Go.Shelf Go.RowKit Go.Lib Go.Sort
set_option linter.unusedVariables false
set_option linter.unusedSimpArgs false

def H2 (w : World) (g : Nat) (d : Array P2) : Prop := ∀ j, j < d.size → (w.cell? ⟨g, j * 2, none⟩ = some (.int .u64 d[j]!.h) ∧ w.cell? ⟨g, j * 2 + 1, none⟩ = some (.int .u64 d[j]!.l)) ∧ w.frozen? ⟨g, j * 2, none⟩ = false ∧ w.frozen? ⟨g, j * 2 + 1, none⟩ = false
theorem H2.keep {w w' : World} {g : Nat} {d : Array P2} (h : H2 w g d) (hb : Below w.heap.size w w') : H2 w' g d := fun j hj => by
  obtain ⟨⟨h1, h2⟩, h3, h4⟩ := h j hj
  have hlt := World.block_lt_of_cell? _ _ h1
  have hlt2 := World.block_lt_of_cell? _ _ h2
  exact ⟨⟨keepc hb h1, keepc hb h2⟩, by rw [hb.frozen hlt]; exact h3, by rw [hb.frozen hlt2]; exact h4⟩
theorem H2.set {w : World} {g : Nat} {d : Array P2} (h : H2 w g d) (k : Nat) (hk : k < d.size) (u : P2) : H2 ((w.setCell ⟨g, k * 2, none⟩ (.int .u64 u.h)).setCell ⟨g, k * 2 + 1, none⟩ (.int .u64 u.l)) g (d.setIfInBounds k u) := fun j hj => by
  have hj' : j < d.size := by simpa using hj
  obtain ⟨⟨h1, h2⟩, h3, h4⟩ := h j hj'
  have f : ∀ (W : World) (o : Nat) (q : Addr) (v : Value), (W.setCell ⟨g, o, none⟩ v).frozen? q = W.frozen? q := fun W o q v => World.frozen?_setCells g [v] o W q
  have ko : ∀ (W : World) (o i : Nat) (v : Value), i ≠ o → (W.setCell ⟨g, o, none⟩ v).cell? ⟨g, i, none⟩ = W.cell? ⟨g, i, none⟩ := fun W o i v hne => World.cell?_setCells_out g [v] o W ⟨g, i, none⟩ (fun _ _ => by simp; omega)
  have ks : ∀ (W : World) (o : Nat) (v u : Value), W.cell? ⟨g, o, none⟩ = some u → (W.setCell ⟨g, o, none⟩ v).cell? ⟨g, o, none⟩ = some v := fun W o v u hu => World.cell?_setCell_same W ⟨g, o, none⟩ v hu
  refine ⟨?_, by rw [f, f]; exact h3, by rw [f, f]; exact h4⟩
  by_cases e : j = k
  · subst e
    rw [getElem!_set_same d j u hj']
    refine ⟨?_, ?_⟩
    · rw [ko _ _ _ _ (by omega)]; exact ks _ _ _ _ h1
    · refine ks _ _ _ (.int .u64 d[j]!.l) ?_
      rw [ko _ _ _ _ (by omega)]; exact h2
  · rw [getElem!_set_other d k j u e]
    exact ⟨by rw [ko _ _ _ _ (by omega), ko _ _ _ _ (by omega)]; exact h1, by rw [ko _ _ _ _ (by omega), ko _ _ _ _ (by omega)]; exact h2⟩
theorem run_clear2 (w : World) (ty : TypeId) (b o n c : Nat) (hn : 0 < n) (hc : ∀ j, j < n * 2 → (w.cell? ⟨b, o + j, none⟩).isSome = true) (hf : ∀ j, j < n * 2 → w.frozen? ⟨b, o + j, none⟩ = false) :
    (Builtin.clear_ #[74] ty #[.slice (some ⟨b, o, none⟩) n c]).run Try.prog w = .ok (.tuple #[]) (w.setCells b o (List.replicate (n * 2) (.int .u64 0))) := by
  have hv : ∀ w, (zeroValue 25).run Try.prog w = .ok (.agg #[.int .u64 0, .int .u64 0]) w := fun w => by kernel_rfl
  have hzc : (Builtin.zeroCells (Value.cells (.agg #[.int .u64 0, .int .u64 0])) n).toList = List.replicate (n * 2) (.int .u64 0) := by
    simp [Builtin.zeroCells, Value.cells]
    apply List.ext_getElem
    · simp
    · intro i h1 h2
      have : i % 2 = 0 ∨ i % 2 = 1 := by omega
      rcases this with e | e <;> simp [e]
  have hst := run_storeCells_cells (P := Try.prog) b o (List.replicate (n * 2) (.int .u64 0)) 0 w (by simpa using hc) (by simpa using hf) (by intro v hv'; rw [List.eq_of_mem_replicate hv']; rfl)
  simp only [Nat.add_zero] at hst
  obtain ⟨m, rfl⟩ : ∃ m, n = m + 1 := ⟨n - 1, by omega⟩
  simp [Builtin.clear_, run_underlying Try.underlying74, hv, hzc, hst]
theorem neq_addr (p q : P2) (w : World) : (binOp .neq 25 (.agg #[.int .u64 p.h, .int .u64 p.l]) (.agg #[.int .u64 q.h, .int .u64 q.l])).run Try.prog w = .ok (.bool (!decide (p = q))) w := by
  rw [run_neq_struct, show (10000 : Nat) = 9998 + 2 from rfl, eq_addr 9998 p.h p.l q.h q.l w]
  have : (p.h == q.h && p.l == q.l) = decide (p = q) := by
    rw [Bool.eq_iff_iff]; simp only [Bool.and_eq_true, beq_iff_eq, decide_eq_true_eq]
    exact ⟨fun h => P2_ext h.1 h.2, fun h => by rw [h]; exact ⟨rfl, rfl⟩⟩
  rw [this]; rfl

def CompPost (w : World) (g cap : Nat) (d : Array P2) (e : Ending) (w' : World) : Prop := e = .returned (.slice (some ⟨g, 0, none⟩) (compactUpTo d d.size).length cap) ∧ Sl w' 2 p2c (some ⟨g, 0, none⟩) (compactUpTo d d.size).length (compactUpTo d d.size) ∧ Below g w w'
theorem H2.sl {w : World} {g m : Nat} {d dk : Array P2} (h : H2 w g dk) (hg : g < w.heap.size) {n : Nat} (hI : CompInv d n m dk) (hn : n ≤ d.size) (hsz : d.size ≤ 65536) : Sl w 2 p2c (some ⟨g, 0, none⟩) m (compactUpTo d n) :=
  ⟨hI.len, by have := hI.lt; omega, fun hm => ⟨g, 0, rfl, hg, fun j x hj i v hv => by
    have hjm : j < m := by have := (List.getElem?_eq_some_iff.1 hj).1; rw [hI.len] at this; exact this
    have e := hI.low j hjm
    rw [hj] at e
    cases e
    obtain ⟨⟨h1, h2⟩, _⟩ := h j (by rw [hI.size]; have := hI.lt; omega)
    have hi2 : i < 2 := (List.getElem?_eq_some_iff.1 hv).1
    match i, hi2, hv with
    | 0, _, hv => simp [p2c] at hv; subst hv; simpa using h1
    | 1, _, hv => simp [p2c] at hv; subst hv; simpa using h2⟩⟩

theorem bel_viaC {N : Nat} {w w1 w2 : World} (h : Below N w w1) (k : Below w1.heap.size w1 w2) (hN : N ≤ w1.heap.size) : Below N w w2 := h.trans (k.mono hN)
theorem below_sets {N : Nat} {w : World} {g : Nat} (hg : N ≤ g) : ∀ (vs : List Value) (o : Nat) (w1 : World), Below N w w1 → Below N w (w1.setCells g o vs)
  | [], _, _, h => h
  | v :: r, o, w1, h => below_sets hg r (o + 1) _ (below_set h hg o v)
theorem sets_size (g : Nat) : ∀ (vs : List Value) (o : Nat) (w1 : World), (w1.setCells g o vs).heap.size = w1.heap.size
  | [], _, _ => rfl
  | v :: r, o, w1 => by rw [World.setCells, sets_size g r]; simp [World.setCell]
theorem Sl.sets {w : World} {g m : Nat} {l : List P2} (h : Sl w 2 p2c (some ⟨g, 0, none⟩) m l) (vs : List Value) : Sl (w.setCells g (m * 2) vs) 2 p2c (some ⟨g, 0, none⟩) m l :=
  ⟨h.len, h.big, fun hm => by
    obtain ⟨b, off, hA, hlt, hc⟩ := h.row hm
    cases hA
    refine ⟨g, 0, rfl, by rw [sets_size]; exact hlt, fun j x hj i v hv => ?_⟩
    have hjm : j < m := by have := (List.getElem?_eq_some_iff.1 hj).1; rw [h.len] at this; exact this
    have hi2 : i < 2 := (List.getElem?_eq_some_iff.1 hv).1
    rw [World.cell?_setCells_out g vs (m * 2) w ⟨g, 0 + j * 2 + i, none⟩ (fun _ _ => .inl (by simp; omega))]
    exact hc j x hj i v hv⟩
theorem H2.all {w : World} {g : Nat} {d : Array P2} (h : H2 w g d) (hg : g < w.heap.size) (hall : ∀ j, j < d.size → keeps d j = true) (hsz : d.size ≤ 65536) : (compactUpTo d d.size).length = d.size ∧ Sl w 2 p2c (some ⟨g, 0, none⟩) d.size (compactUpTo d d.size) := by
  have e : compactUpTo d d.size = d.toList := by rw [compactUpTo_all d _ hall, range_map_get]
  rw [e]
  refine ⟨by simp, by simp, by omega, fun hm => ⟨g, 0, rfl, hg, fun j x hj i v hv => ?_⟩⟩
  have hjm : j < d.size := by have := (List.getElem?_eq_some_iff.1 hj).1; simpa using this
  have ex : x = d[j]! := by
    rw [getElem!_pos d j hjm]
    have := (List.getElem?_eq_some_iff.1 hj).2
    simpa using this.symm
  subst ex
  obtain ⟨⟨h1, h2⟩, _⟩ := h j hjm
  have hi2 : i < 2 := (List.getElem?_eq_some_iff.1 hv).1
  match i, hi2, hv with
  | 0, _, hv => simp [p2c] at hv; subst hv; simpa using h1
  | 1, _, hv => simp [p2c] at hv; subst hv; simpa using h2
set_option maxRecDepth 100000 in
set_option maxHeartbeats 4000000 in
theorem compact_any (g cap : Nat) (d : Array P2) (hcap : d.size ≤ cap) (hsz : d.size ≤ 65536) (w : World) (hg : g < w.heap.size) (hH : H2 w g d) : Calls Try.prog 64 #[.slice (some ⟨g, 0, none⟩) d.size cap] w (CompPost w g cap d) := by
  obtain ⟨M, hM⟩ : ∃ M, M = CompPost w g cap d := ⟨_, rfl⟩
  rw [← hM]
  have HM := Lib.hid hM; clear hM
  obtain ⟨n, hn⟩ : ∃ n, n = d.size := ⟨_, rfl⟩
  rw [← hn] at hcap hsz ⊢
  have HN := Lib.hid hn; clear hn
  have ALL : ∀ W : World, Below w.heap.size w W → (∀ j, j < n → keeps d j = true) → M (.returned (.slice (some ⟨g, 0, none⟩) n cap)) W := fun W bW hall => by
    have hgW : g < W.heap.size := Nat.lt_of_lt_of_le hg bW.size
    obtain ⟨e1, e2⟩ := (hH.keep bW).all hgW (by rw [← HN.out]; exact hall) (by rw [← HN.out]; exact hsz)
    rw [HM.out]
    exact ⟨by rw [e1, HN.out], by rw [e1]; exact e2, bW.mono (Nat.le_of_lt hg)⟩
  have ALL := Lib.hid ALL
  by_cases h2 : n < 2
  · have F := ALL.out w (Below.refl _ _) (fun j hj => keeps_lt_one d j (by omega))
    have F := Lib.hid F
    clear hH ALL
    have h2d : decide ((n : Int) < 2) = true := by simp; omega
    go_enter Try.func64, Try.ntmps64
    go_wp2
    first | exact F.out | (go_ret; exact F.out)
  · have h2d : decide ((n : Int) < 2) = false := by simp; omega
    go_enter Try.func64, Try.ntmps64
    go_wp2
    go_loopg [3] n (fun gg s3 wr => ∃ k : Nat, 1 ≤ k ∧ k ≤ n ∧ n - k ≤ gg ∧ s3 = .int .i64 k ∧ Below w.heap.size w wr ∧ Hid (∀ j, j < k → keeps d j = true))
    case atStart => exact ⟨1, Nat.le_refl _, by omega, by omega, rfl, Below.refl _ _, Lib.hid (keeps_lt_one d)⟩
    case round =>
      obtain ⟨k, hk1, hk, hgg, rfl, bw, hall⟩ := hrel
      by_cases hlt : k < n
      · have Hk := hH.keep bw
        obtain ⟨⟨c1, c1'⟩, _⟩ := Hk k (by rw [← HN.out]; exact hlt)
        obtain ⟨⟨c0, c0'⟩, _⟩ := Hk (k - 1) (by rw [← HN.out]; omega)
        have eqa := eql_addr d[k]! d[k - 1]!
        generalize hx : d[k]! = x at c1 c1' eqa
        generalize hy : d[k - 1]! = y at c0 c0' eqa
        have B := Lib.hid (show _ ∧ _ from ⟨hx, hy⟩)
        clear hx hy
        have HK := Lib.hid Hk; clear Hk
        have hki : (k : Int) < (n : Int) := by omega
        have kaw : IntKind.i64.wrap ((k : Int) - 1) = (k : Int) - 1 := by rw [IntKind.wrap_i64]; omega
        have kan : ((k : Int) - 1).toNat = k - 1 := by omega
        have kag : (0 : Int) ≤ (k : Int) - 1 := by omega
        have ka1 : (1 : Int) ≤ (k : Int) := by omega
        have kal : (k : Int) - 1 < (n : Int) := by omega
        by_cases hdup : x = y
        · subst hdup
          have eqb := fun W : World => (eqa W).trans (by rw [show decide (x = x) = true by simp] : Result.ok (Value.bool (decide (x = x))) W = Result.ok (Value.bool true) W)
          clear eqa
          have hck : ¬ cap = k := by omega
          have hckd : decide (cap = k) = false := by simp [hck]
          go_wp2_with fail
          have k_c1 := cell_regrown c1
          have k_c1' := cell_regrown c1'
          have k_c0 := cell_regrown c0
          have k_c0' := cell_regrown c0'
          clear c1 c1' c0 c0'
          refine wp_region_quiet_below (by kernel_rfl) (by kernel_rfl) ?_
          repeat (first | go_big_quiet_skip | quiet_step (fail))
          refine wpQuiet_nil ?_
          intro _ hw'
          obtain ⟨⟨dq, osq⟩, hw''⟩ := hw'
          subst hw''
          have bq := bel_via bw (below_regrown wr dq osq)
          have HKq := HK.out.keep (below_regrown wr dq osq)
          have HKq := Lib.hid HKq
          obtain ⟨wq, hwq⟩ : ∃ x, x = grow (redrawn wr dq) osq := ⟨_, rfl⟩
          rw [← hwq] at bq HKq ⊢
          clear hwq k_c1 k_c1' k_c0 k_c0' eqb kaw kan kag kal
          go_wp2
          go_loopg [3, 5] n (fun gg2 s3 s5 wr2 => ∃ (kk k2 : Nat) (dk : Array P2), s3 = .int .i64 kk ∧ s5 = .int .i64 k2 ∧ 1 ≤ k2 ∧ k + k2 ≤ n ∧ n - (k + k2) ≤ gg2 ∧ Below g w wr2 ∧ g < wr2.heap.size ∧ Hid (H2 wr2 g dk) ∧ Hid (CompInv d (k + k2) kk dk))
          case atStart => exact ⟨k, 1, d, rfl, rfl, Nat.le_refl _, by omega, by omega, bq.mono (Nat.le_of_lt hg), Nat.lt_of_lt_of_le hg bq.size, HKq, Lib.hid (CompInv.start hall.out (keeps_neg (by omega) (by rw [B.out.1, B.out.2])))⟩
          case round =>
            obtain ⟨kk, k2, dk, rfl, rfl, h1, hle, hg2, b2, hgr, HH2, hI⟩ := hrel
            have hkk := hI.out.lt
            have hds := hI.out.size
            rw [← HN.out] at hds
            by_cases hlt2 : k + k2 < n
            · obtain ⟨⟨m1, m2⟩, _⟩ := HH2.out (k + k2) (by omega)
              obtain ⟨⟨p1, p2⟩, _⟩ := HH2.out (k + k2 - 1) (by omega)
              obtain ⟨⟨q1, q2⟩, f1, f2⟩ := HH2.out kk (by omega)
              rw [hI.out.high (k + k2) (by omega), show (k + k2) * 2 = k * 2 + k2 * 2 by omega] at m1 m2
              rw [hI.out.high (k + k2 - 1) (by omega), show (k + k2 - 1) * 2 = k * 2 + (k2 - 1) * 2 by omega] at p1 p2
              have nea := neq_addr d[k + k2]! d[k + k2 - 1]!
              generalize hu : d[k + k2]! = u at m1 m2 nea
              generalize hv : d[k + k2 - 1]! = v at p1 p2 nea
              generalize dk[kk]! = old at q1 q2
              have C := Lib.hid (show _ ∧ _ from ⟨hu, hv⟩)
              clear hu hv
              have hlt3 : k2 < n - k := by omega
              have hk2i : (k2 : Int) < ((n - k : Nat) : Int) := by omega
              have kbw : IntKind.i64.wrap ((k2 : Int) - 1) = (k2 : Int) - 1 := by rw [IntKind.wrap_i64]; omega
              have kbn : ((k2 : Int) - 1).toNat = k2 - 1 := by omega
              have kbg : (0 : Int) ≤ (k2 : Int) - 1 := by omega
              have kb1 : (1 : Int) ≤ (k2 : Int) := by omega
              have kbl : (k2 : Int) - 1 < ((n - k : Nat) : Int) := by omega
              by_cases huv : u = v
              · subst huv
                have neb := fun W : World => (nea W).trans (by rw [show (!decide (u = u)) = false by simp] : Result.ok (Value.bool (!decide (u = u))) W = Result.ok (Value.bool false) W)
                clear nea
                go_wp2_with fail
                have k_m1 := cell_regrown m1
                have k_m2 := cell_regrown m2
                have k_p1 := cell_regrown p1
                have k_p2 := cell_regrown p2
                clear m1 m2 p1 p2
                refine wp_region_quiet_below (by kernel_rfl) (by kernel_rfl) ?_
                repeat (first | go_big_quiet_skip | quiet_step (fail))
                refine wpQuiet_nil ?_
                intro _ hw'
                obtain ⟨⟨dq, osq⟩, hw''⟩ := hw'
                subst hw''
                go_wp2
                go_roundg (n - (k + (k2 + 1)))
                case measure => omega
                case rel => exact ⟨kk, k2 + 1, dk, rfl, by go_num, by omega, by omega, Nat.le_refl _, bel_viaC b2 (below_regrown wr dq osq) (by omega), Nat.lt_of_lt_of_le hgr (below_regrown wr dq osq).size, Lib.hid (HH2.out.keep (below_regrown wr dq osq)), Lib.hid (hI.out.skip (keeps_neg (by omega) (by rw [C.out.1, C.out.2])))⟩
              · have neb := fun W : World => (nea W).trans (by rw [show (!decide (u = v)) = true by simp [huv]] : Result.ok (Value.bool (!decide (u = v))) W = Result.ok (Value.bool true) W)
                clear nea
                go_wp2_with fail
                have k_m1 := cell_regrown m1
                have k_m2 := cell_regrown m2
                have k_p1 := cell_regrown p1
                have k_p2 := cell_regrown p2
                clear m1 m2 p1 p2
                refine wp_region_quiet_below (by kernel_rfl) (by kernel_rfl) ?_
                repeat (first | go_big_quiet_skip | quiet_step (fail))
                refine wpQuiet_nil ?_
                intro _ hw'
                obtain ⟨⟨dq, osq⟩, hw''⟩ := hw'
                subst hw''
                have b3 := bel_viaC b2 (below_regrown wr dq osq) (by omega)
                have hg3 := Nat.lt_of_lt_of_le hgr (below_regrown wr dq osq).size
                have H3 := Lib.hid (HH2.out.keep (below_regrown wr dq osq))
                obtain ⟨w3, hw3⟩ : ∃ x, x = grow (redrawn wr dq) osq := ⟨_, rfl⟩
                have m1 := k_m1 dq osq
                have m2 := k_m2 dq osq
                rw [← hw3] at b3 hg3 H3 m1 m2 ⊢
                clear hw3 k_m1 k_m2 k_p1 k_p2 q1 q2 f1 f2 neb
                obtain ⟨⟨q1, q2⟩, f1, f2⟩ := H3.out kk (by omega)
                have H4 := Lib.hid (H3.out.set kk (by omega) u)
                go_wp2
                go_roundg (n - (k + (k2 + 1)))
                case measure => omega
                case rel => exact ⟨kk + 1, k2 + 1, dk.setIfInBounds kk u, by go_num, by go_num, by omega, by omega, Nat.le_refl _, below_set (below_set b3 (Nat.le_refl _) _ _) (Nat.le_refl _) _ _, by simpa [World.setCell] using hg3, H4, Lib.hid (by have := hI.out.keep (by rw [← HN.out]; exact hlt2) (keeps_pos (by rw [C.out.1, C.out.2]; exact huv)); rwa [C.out.1] at this)⟩
            · have hend : k + k2 = n := by omega
              have hlt3 : ¬ k2 < n - k := by omega
              have hck2 : ¬ cap = kk := by omega
              have hck2d : decide (cap = kk) = false := by simp [hck2]
              have hcl := fun ty => run_clear2 wr ty g (kk * 2) (n - kk) (cap - kk) (by omega) (fun j hj => by
                have hq : kk + j / 2 < dk.size := by omega
                obtain ⟨⟨h1, h2⟩, _⟩ := HH2.out (kk + j / 2) hq
                have hj2 : j % 2 = 0 ∨ j % 2 = 1 := by omega
                rcases hj2 with e | e
                · rw [show kk * 2 + j = (kk + j / 2) * 2 by omega, h1]; rfl
                · rw [show kk * 2 + j = (kk + j / 2) * 2 + 1 by omega, h2]; rfl) (fun j hj => by
                have hq : kk + j / 2 < dk.size := by omega
                obtain ⟨_, h3, h4⟩ := HH2.out (kk + j / 2) hq
                have hj2 : j % 2 = 0 ∨ j % 2 = 1 := by omega
                rcases hj2 with e | e
                · rw [show kk * 2 + j = (kk + j / 2) * 2 by omega]; exact h3
                · rw [show kk * 2 + j = (kk + j / 2) * 2 + 1 by omega]; exact h4)
              have hI' := hI.out
              rw [hend, HN.out] at hI'
              have hsl := HH2.out.sl hgr hI' (Nat.le_refl _) (by rw [← HN.out]; exact hsz)
              have F : M (.returned (.slice (some ⟨g, 0, none⟩) kk cap)) (wr.setCells g (kk * 2) (List.replicate ((n - kk) * 2) (.int .u64 0))) := by
                rw [HM.out]
                refine ⟨by rw [hI'.len], ?_, below_sets (Nat.le_refl _) _ _ _ b2⟩
                rw [hI'.len]
                exact hsl.sets _
              have F := Lib.hid F
              clear hI' hsl
              go_wp2
              first | exact F.out | (go_ret; exact F.out)
        · have eqb := fun W : World => (eqa W).trans (by rw [show decide (x = y) = false by simp [hdup]] : Result.ok (Value.bool (decide (x = y))) W = Result.ok (Value.bool false) W)
          clear eqa
          go_wp2_with fail
          have k_c1 := cell_regrown c1
          have k_c1' := cell_regrown c1'
          have k_c0 := cell_regrown c0
          have k_c0' := cell_regrown c0'
          clear c1 c1' c0 c0'
          refine wp_region_quiet_below (by kernel_rfl) (by kernel_rfl) ?_
          repeat (first | go_big_quiet_skip | quiet_step (fail))
          refine wpQuiet_nil ?_
          intro _ hw'
          obtain ⟨⟨dq, osq⟩, hw''⟩ := hw'
          subst hw''
          go_wp2
          go_roundg (n - (k + 1))
          case measure => omega
          case rel =>
            refine ⟨k + 1, by omega, by omega, Nat.le_refl _, by go_num, bel_via bw (below_regrown wr dq osq), Lib.hid fun j hj => ?_⟩
            by_cases e : j = k
            · subst e
              exact keeps_pos (by rw [B.out.1, B.out.2]; exact hdup)
            · exact hall.out j (by omega)
      · obtain rfl : k = n := by omega
        have F := ALL.out _ bw hall.out
        have F := Lib.hid F
        clear hH ALL
        go_wp2
        first | exact F.out | (go_ret; exact F.out)
end Go.Proofs.Ytomennaekjklbaa
