/- WheelLast's walk; by-name template (gen_whlast.py). -/
import Derived.Test.YtcmdelmgklidjaaWhSo
import Derived.Test.YtcmdelmgklidjaaWhFrame
namespace Go.Proofs.Ytcmdelmgklidjaa
open Go.RowKit Go.Lib Go.Maps
set_option linter.unusedVariables false
set_option linter.unusedSimpArgs false

/-- What is left of the first k pairs. -/
def setsP (zs ts : List Int) : Nat → List K2
  | 0 => []
  | k + 1 => setP (setsP zs ts k) (zs.getD k 0) (ts.getD k 0)
theorem set_has {L : List K2} {id t : Int} (hl : L.length < 256) (x : Int) : hasP (setP L id t) x = (hasP L x || x == id) := by
  unfold setP
  split
  · rename_i h
    rw [has_perm (ins_perm _ _)]
    unfold hasP remP at *
    rw [List.any_cons, List.any_filter]
    rw [Bool.eq_iff_iff]
    simp only [Bool.or_eq_true, List.any_eq_true, Bool.and_eq_true, bne_iff_ne, beq_iff_eq]
    constructor
    · rintro (h | ⟨y, hy, h1, h2⟩)
      · exact .inr h.symm
      · exact .inl ⟨y, hy, h2⟩
    · rintro (⟨y, hy, h2⟩ | h)
      · by_cases e : y.1 = id
        · exact .inl (by rw [← h2, ← e])
        · exact .inr ⟨y, hy, e, h2⟩
      · exact .inl h.symm
  · rw [if_neg (by omega), has_perm (ins_perm _ _)]
    unfold hasP
    rw [List.any_cons, Bool.or_comm]
    congr 1
    rw [Bool.eq_iff_iff]
    simp only [beq_iff_eq]
    exact ⟨fun e => e.symm, fun e => e.symm⟩
theorem set_len_le (L : List K2) (id t : Int) : (setP L id t).length ≤ L.length + 1 := by
  unfold setP
  split
  · rw [ins_len]
    have := (rem_sub L id).length_le
    omega
  · split
    · omega
    · rw [ins_len]; omega
theorem sets_len (zs ts : List Int) : ∀ k, (setsP zs ts k).length ≤ k
  | 0 => Nat.le_refl _
  | k + 1 => by
    have h1 := sets_len zs ts k
    have h2 := set_len_le (setsP zs ts k) (zs.getD k 0) (ts.getD k 0)
    show (setP _ _ _).length ≤ _
    omega
theorem sets_has (zs ts : List Int) (x : Int) : ∀ k, k ≤ 256 → (hasP (setsP zs ts k) x = true ↔ ∃ j, j < k ∧ zs.getD j 0 = x)
  | 0, _ => by simp [setsP, hasP]
  | k + 1, hk => by
    have h1 := sets_has zs ts x k (by omega)
    have h2 := sets_len zs ts k
    show hasP (setP _ _ _) x = true ↔ _
    rw [set_has (by omega), Bool.or_eq_true, h1, beq_iff_eq]
    constructor
    · rintro (⟨j, hj, e⟩ | e)
      · exact ⟨j, by omega, e⟩
      · exact ⟨k, by omega, e.symm⟩
    · rintro ⟨j, hj, e⟩
      by_cases hjk : j = k
      · subst hjk; exact .inr e.symm
      · exact .inl ⟨j, by omega, e⟩
theorem set_ok {L : List K2} {id : Int} (h : L.length < 256) : setR L id = 0 := by
  unfold setR
  split
  · rfl
  · rw [if_neg (by omega)]

/-- What is left behind the drops of those at k and above. -/
def LeftAt (zs : List Int) (m k : Nat) (M : List K2) : Prop := ∀ x, hasP M x = true ↔ (∃ j, j < k ∧ zs.getD j 0 = x) ∧ ∀ j, k ≤ j → j < m → zs.getD j 0 ≠ x
theorem rem_has (L : List K2) (id x : Int) : hasP (remP L id) x = (hasP L x && x != id) := by
  unfold hasP remP
  rw [List.any_filter, Bool.eq_iff_iff]
  simp only [List.any_eq_true, Bool.and_eq_true, bne_iff_ne, beq_iff_eq]
  constructor
  · rintro ⟨y, hy, h1, h2⟩
    exact ⟨⟨y, hy, h2⟩, by rw [← h2]; exact h1⟩
  · rintro ⟨⟨y, hy, h2⟩, h1⟩
    exact ⟨y, hy, by rw [h2]; exact h1, h2⟩
theorem left_step {zs : List Int} {m k : Nat} {M : List K2} (h : LeftAt zs m (k + 1) M) (hk : k < m) : LeftAt zs m k (remP M (zs.getD k 0)) := by
  intro x
  rw [rem_has, Bool.and_eq_true, h x, bne_iff_ne]
  constructor
  · rintro ⟨⟨⟨j, hj, e⟩, h2⟩, hne⟩
    refine ⟨⟨j, ?_, e⟩, fun i hi him => ?_⟩
    · by_cases hjk : j = k
      · subst hjk; exact absurd e.symm hne
      · omega
    · by_cases hik : i = k
      · subst hik; exact fun q => hne q.symm
      · exact h2 i (by omega) him
  · rintro ⟨⟨j, hj, e⟩, h2⟩
    exact ⟨⟨⟨j, by omega, e⟩, fun i hi him => h2 i (by omega) him⟩, fun q => h2 k (Nat.le_refl _) hk q.symm⟩
def laterP (zs : List Int) (i j : Nat) : Bool := (List.range j).any fun q => decide (i < q) && zs.getD q 0 == zs.getD i 0
theorem later_iff {zs : List Int} {i j : Nat} : laterP zs i j = true ↔ ∃ q, i < q ∧ q < j ∧ zs.getD q 0 = zs.getD i 0 := by
  unfold laterP
  rw [List.any_eq_true]
  simp only [List.mem_range, Bool.and_eq_true, decide_eq_true_eq, beq_iff_eq]
  exact ⟨fun ⟨q, a, b, c⟩ => ⟨q, b, a, c⟩, fun ⟨q, a, b, c⟩ => ⟨q, b, a, c⟩⟩
theorem later_step {zs : List Int} {i j : Nat} (h : i < j) : laterP zs i (j + 1) = (laterP zs i j || zs.getD j 0 == zs.getD i 0) := by
  unfold laterP
  rw [List.range_succ, List.any_append, List.any_cons, List.any_nil, Bool.or_false, decide_eq_true h, Bool.true_and]
theorem later_none (zs : List Int) (i : Nat) : laterP zs i (i + 1) = false := by
  rw [Bool.eq_false_iff, Ne, later_iff]
  rintro ⟨q, a, b, _⟩
  omega
theorem left_has {zs : List Int} {m k : Nat} {M : List K2} (h : LeftAt zs m (k + 1) M) : hasP M (zs.getD k 0) = !laterP zs k m := by
  rw [Bool.eq_iff_iff, h, Bool.not_eq_true', Bool.eq_false_iff, Ne, later_iff]
  constructor
  · rintro ⟨_, h2⟩ ⟨j, h3, h4, h5⟩
    exact h2 j h3 h4 h5
  · intro h2
    exact ⟨⟨k, by omega, rfl⟩, fun j h3 h4 h5 => h2 ⟨j, h3, h4, h5⟩⟩
theorem left_all (zs ts : List Int) {m : Nat} (hm : m ≤ 256) : LeftAt zs m m (setsP zs ts m) := by
  intro x
  rw [sets_has zs ts x m hm]
  exact ⟨fun h => ⟨h, fun j h1 h2 => by omega⟩, fun h => h.1⟩
theorem getD_at {w w' : World} {a : Option Addr} {Z : List Int} (h : IntsAt w a Z) (b : Below w.heap.size w w') {k : Nat} (hk : k < Z.length) : ∃ g off, a = some ⟨g, off, none⟩ ∧ w'.cell? ⟨g, off + k, none⟩ = some (.int .i64 (Z.getD k 0)) ∧ i64ok (Z.getD k 0) := by
  obtain ⟨g, off, e, hg, hc, ho⟩ := h.2 k Z[k] (List.getElem?_eq_getElem hk)
  have hd : Z.getD k 0 = Z[k] := by rw [List.getD_eq_getElem?_getD, List.getElem?_eq_getElem hk]; rfl
  rw [hd]
  exact ⟨g, off, e, (World.cell?_of_block (a := ⟨g, off + k, none⟩) (b.block g hg)).trans hc, ho⟩
theorem left_none {zs : List Int} {m : Nat} {M : List K2} (h : LeftAt zs m 0 M) : M = [] := by
  apply Classical.byContradiction
  intro hne
  obtain ⟨x, hx⟩ := List.exists_mem_of_ne_nil M hne
  have := (h x.1).1 (has_iff.2 ⟨x, hx, rfl⟩)
  obtain ⟨⟨j, hj, _⟩, _⟩ := this
  omega

set_option maxHeartbeats 8000000 in
set_option maxRecDepth 100000 in
theorem last_walk {a1 a2 : Option Addr} {Z Y : List Int} (cap1 cap2 : Nat) {w : World} (h : IntsAt w a1 Z) (h' : IntsAt w a2 Y) :
    Calls Try.prog 3 #[.slice a1 Z.length cap1, .slice a2 Y.length cap2] w fun e w' => e = .returned (.bool true) ∧ Below w.heap.size w w' := by
  have hl := h.1
  have hl' := h'.1
  have HS := Lib.hid h
  have HS' := Lib.hid h'
  clear h h'
  obtain ⟨m, hm⟩ : ∃ m, m = min Z.length Y.length := ⟨_, rfl⟩
  have hmn : m ≤ Z.length := by omega
  have hmy : m ≤ Y.length := by omega
  have hmm : m = Z.length ∨ m = Y.length := by omega
  clear hm
  generalize hlen : Z.length = n at *
  generalize hlen' : Y.length = n' at *
  have HL := Lib.hid (And.intro hlen hlen')
  clear hlen hlen'
  by_cases hbig : 200 < n
  · go_enter Try.func3, Try.ntmps3
    go_wp2
    go_ret
    exact ⟨rfl, Below.refl _ _⟩
  · have hnew := fun w => new_wheel w
    go_enter Try.func3, Try.ntmps3
    go_wp2_with (go_at_call 8; refine (hnew _).mono ?_; rintro e w1 ⟨Bw, rfl, hp1, b1⟩)
    have hboth := So.new hp1 b1
    clear hnew hp1 b1
    go_loopw [6] (fun c wr => ∃ k : Nat, k ≤ m ∧ c = .int .i64 (k : Int) ∧ So w wr Bw (setsP Z Y k)) (fun c _ => m - (intOf c).toNat)
    case atStart => exact ⟨0, by omega, rfl, hboth⟩
    case round =>
      clear hboth
      obtain ⟨k, hk, rfl, hB⟩ := hrel
      by_cases hlt : k < m
      · obtain ⟨gb, off, ha, c0, hzo⟩ := getD_at HS.out hB.bl (k := k) (by rw [HL.out.1]; omega)
        obtain ⟨gb', off', ha', c1, hyo⟩ := getD_at HS'.out hB.bl (k := k) (by rw [HL.out.2]; omega)
        subst ha
        subst ha'
        have hS := fun w' (b : Below wr.heap.size wr w') => (hB.below b).set hzo (t := Y.getD k 0)
        rw [set_ok (by have := sets_len Z Y k; omega)] at hS
        have HSET := Lib.hid hS
        have hnx : setsP Z Y (k + 1) = setP (setsP Z Y k) (Z.getD k 0) (Y.getD k 0) := rfl
        rw [← hnx] at HSET
        have ltI : (k : Int) < (n : Int) := by omega
        have ltI' : (k : Int) < (n' : Int) := by omega
        have dI : decide (k < n) = true := by simp; omega
        have dI' : decide (k < n') = true := by simp; omega
        have hbd := bel_dr (Below.refl wr.heap.size wr)
        clear hnx hB hS
        generalize hMM : setsP Z Y (k + 1) = M' at *
        have HMM := Lib.hid hMM
        clear hMM
        generalize Z.getD k 0 = z at *
        generalize Y.getD k 0 = y at *
        go_wp2_with fail
        go_still_tail 9, (by kernel_rfl)
        change wpList _ _ _ _ _ wr.drew
        go_wp2_with (go_at_call 9; refine (HSET.out _ hbd).mono ?_; rintro e w5 ⟨rfl, hB5⟩)
        go_roundw
        case rel => exact ⟨k + 1, by omega, by go_num, by rw [HMM.out]; exact hB5⟩
        case measure => first | (simp [intOf]; omega) | simp [intOf]
      · have ek : k = m := by omega
        subst ek
        have hLA := left_all Z Y (m := k) (by omega)
        have HLA := Lib.hid hLA
        have HB := Lib.hid hB
        have hstop : ¬ k < n ∨ ¬ k < n' := by omega
        generalize setsP Z Y k = M0 at *
        clear hLA hB
        rcases hmm with hmm | hmm
        · have dI : decide (k < n) = false := by simp; omega
          have ltI : ¬ (k : Int) < (n : Int) := by omega
          go_upto_region 10 with fail
          clear dI ltI
          go_loopw [7] (fun c wr => ∃ (q : Nat) (M : List K2), q ≤ n ∧ c = .int .i64 ((q : Int) - 1) ∧ So w wr Bw M ∧ Hid (LeftAt Z k (min k q) M)) (fun c _ => (intOf c + 1).toNat)
          case atStart => exact ⟨n, M0, by omega, by first | rfl | simp, HB.out, by rw [show min k n = k by omega]; exact HLA⟩
          case round =>
            clear HB HLA
            obtain ⟨q, M, hq, rfl, hB, HLA⟩ := hrel
            rcases Nat.eq_zero_or_pos q with hq0 | hq0
            · subst hq0
              have hMe := left_none (by have := HLA.out; rw [Nat.min_zero] at this; exact this)
              subst hMe
              have hL := hB.len
              have hD := hB.due (now := 9223372036854775807)
              clear HLA hB
              have hneg : ¬ (0 : Int) ≤ ((0 : Nat) : Int) - 1 := by omega
              go_wp2_with (first
                | (go_at_call 11; refine hL.mono ?_; rintro e w6 ⟨rfl, rfl⟩)
                | (go_at_call 12; refine hD.mono ?_; rintro e w7 ⟨A7, c7, rfl, _, hB7⟩))
              first | exact ⟨rfl, hB7.bl⟩ | (go_ret; exact ⟨rfl, hB7.bl⟩)
            · obtain ⟨i, hi⟩ : ∃ i, q = i + 1 := ⟨q - 1, by omega⟩
              subst hi
              have ei : ((i + 1 : Nat) : Int) - 1 = (i : Int) := by omega
              have hin : i < n := by omega
              have hge : (0 : Int) ≤ (i : Int) := by omega
              by_cases hik : i < k
              · have hin' : i < n' := by omega
                have hiI' : ¬ (n' : Int) ≤ (i : Int) := by omega
                have dI' : decide (n' ≤ i) = false := by simp; omega
                rw [show min k (i + 1) = i + 1 by omega] at HLA
                have hnx := left_step HLA.out hik
                have hhas := left_has HLA.out
                obtain ⟨gb, off, ha, c0, hzo⟩ := getD_at HS.out hB.bl (k := i) (by rw [HL.out.1]; omega)
                obtain ⟨gb', off', ha', _, _⟩ := getD_at HS'.out hB.bl (k := i) (by rw [HL.out.2]; omega)
                subst ha
                subst ha'
                have hDr := fun w' (b : Below wr.heap.size wr w') => (hB.below b).drop hzo
                rw [hhas] at hDr
                have HDR := Lib.hid hDr
                have HNX := Lib.hid hnx
                have hdl : i + 1 ≤ k := by omega
                have HCI := Lib.hid (fun w' (b : Below wr.heap.size wr w') => (World.cell?_of_block (a := ⟨gb, off + i, none⟩) (b.block gb (World.block_lt_of_cell? _ _ c0))).trans c0)
                have HBB := Lib.hid (fun w' (b : Below wr.heap.size wr w') => (hB.bl.trans (b.mono hB.bl.size)))
                clear hnx hhas hDr hB HLA c0
                rw [ei]
                go_upto_region 15 with fail
                go_loopw [8, 9] (fun v8 v9 wq => ∃ (j : Nat) (b : Bool), v8 = .bool b ∧ v9 = .int .i64 (j : Int) ∧ i + 1 ≤ j ∧ j ≤ k ∧ Hid (b = laterP Z i j) ∧ Below wr.heap.size wr wq) (fun _ v9 _ => k - (intOf v9).toNat)
                case atStart => exact ⟨i + 1, false, rfl, by first | rfl | simp, Nat.le_refl _, hdl, Lib.hid (later_none Z i).symm, Below.refl _ _⟩
                case round =>
                  obtain ⟨j, b, rfl, rfl, hj1, hj2, HBv, hb⟩ := hrel
                  by_cases hjk : j < k
                  · have dj : decide (j < n) = true := by simp; omega
                    have dj' : decide (j < n') = true := by simp; omega
                    have jI : (j : Int) < (n : Int) := by omega
                    have jI' : (j : Int) < (n' : Int) := by omega
                    have iI : (i : Int) < (n : Int) := by omega
                    have di : decide (i < n) = true := by simp; omega
                    have ci := HCI.out _ hb
                    obtain ⟨gj, oj, hae, cj, _⟩ := getD_at HS.out (HBB.out _ hb) (k := j) (by rw [HL.out.1]; omega)
                    cases hae
                    have hst := later_step (zs := Z) (i := i) (j := j) (by omega)
                    rw [← HBv.out] at hst
                    have HST := Lib.hid hst
                    clear hst HBv HNX HDR HCI HBB
                    generalize Z.getD i 0 = zi at *
                    generalize Z.getD j 0 = zj at *
                    cases b with
                    | true =>
                      go_wp2_with fail
                      go_quiet (fail)
                      go_wp2_with fail
                      go_roundw
                      case rel => exact ⟨j + 1, true, rfl, by go_num, by omega, by omega, Lib.hid (by rw [HST.out]; rfl), bel_dn hb _⟩
                      case measure => first | (simp [intOf]; omega) | simp [intOf]
                    | false =>
                      go_wp2_with fail
                      go_quiet (fail)
                      go_wp2_with fail
                      go_roundw
                      case rel => exact ⟨j + 1, _, rfl, by go_num, by omega, by omega, Lib.hid (by rw [HST.out]; first | rfl | simp), bel_dn hb _⟩
                      case measure => first | (simp [intOf]; omega) | simp [intOf]
                  · have ejk : j = k := by omega
                    subst ejk
                    have ci := HCI.out _ hb
                    have hDD := HDR.out _ hb
                    have iI : (i : Int) < (n : Int) := by omega
                    have di : decide (i < n) = true := by simp; omega
                    rw [← HBv.out] at hDD
                    have HNX2 := HNX
                    clear HDR HCI HBB HBv HNX
                    generalize hzz : Z.getD i 0 = zi at *
                    have HZZ := Lib.hid hzz
                    clear hzz
                    have NEXTS := HNX2
                    have hm2 : j = n ∨ j = n' := by omega
                    rcases hm2 with hm2 | hm2
                    · have dj : decide (j < n) = false := by simp; omega
                      have jI : ¬ (j : Int) < (n : Int) := by omega
                      cases b <;>
                      · go_wp2_with (go_at_call 10; refine hDD.mono ?_; rintro e w9 ⟨rfl, hB9⟩)
                        go_roundw
                        case rel => exact ⟨i, _, by omega, by go_num, hB9, by rw [show min j i = i by omega]; exact NEXTS⟩
                        case measure => first | (simp [intOf]; omega) | simp [intOf]
                    · by_cases hkn : j < n
                      · have dj : decide (j < n) = true := by simp; omega
                        have jI : (j : Int) < (n : Int) := by omega
                        have dj' : decide (j < n') = false := by simp; omega
                        have jI' : ¬ (j : Int) < (n' : Int) := by omega
                        cases b <;>
                        · go_wp2_with (go_at_call 10; refine hDD.mono ?_; rintro e w9 ⟨rfl, hB9⟩)
                          go_roundw
                          case rel => exact ⟨i, _, by omega, by go_num, hB9, by rw [show min j i = i by omega]; exact NEXTS⟩
                          case measure => first | (simp [intOf]; omega) | simp [intOf]
                      · have dj : decide (j < n) = false := by simp; omega
                        have jI : ¬ (j : Int) < (n : Int) := by omega
                        cases b <;>
                        · go_wp2_with (go_at_call 10; refine hDD.mono ?_; rintro e w9 ⟨rfl, hB9⟩)
                          go_roundw
                          case rel => exact ⟨i, _, by omega, by go_num, hB9, by rw [show min j i = i by omega]; exact NEXTS⟩
                          case measure => first | (simp [intOf]; omega) | simp [intOf]
              · have hik' : n' ≤ i := by omega
                have hiI' : (n' : Int) ≤ (i : Int) := by omega
                have dI' : decide (n' ≤ i) = true := by simp; omega
                rw [show min k (i + 1) = min k i by omega] at HLA
                have HB2 := Lib.hid hB
                clear hB
                rw [ei]
                go_wp2_with fail
                go_roundw
                case rel => exact ⟨i, M, by omega, by go_num, HB2.out, HLA⟩
                case measure => first | (simp [intOf]; omega) | simp [intOf]
        · by_cases hnn : k < n
          · have dI : decide (k < n) = true := by simp; omega
            have ltI : (k : Int) < (n : Int) := by omega
            have dI' : decide (k < n') = false := by simp; omega
            have ltI' : ¬ (k : Int) < (n' : Int) := by omega
            go_upto_region 10 with fail
            clear dI ltI
            go_loopw [7] (fun c wr => ∃ (q : Nat) (M : List K2), q ≤ n ∧ c = .int .i64 ((q : Int) - 1) ∧ So w wr Bw M ∧ Hid (LeftAt Z k (min k q) M)) (fun c _ => (intOf c + 1).toNat)
            case atStart => exact ⟨n, M0, by omega, by first | rfl | simp, HB.out, by rw [show min k n = k by omega]; exact HLA⟩
            case round =>
              clear HB HLA
              obtain ⟨q, M, hq, rfl, hB, HLA⟩ := hrel
              rcases Nat.eq_zero_or_pos q with hq0 | hq0
              · subst hq0
                have hMe := left_none (by have := HLA.out; rw [Nat.min_zero] at this; exact this)
                subst hMe
                have hL := hB.len
                have hD := hB.due (now := 9223372036854775807)
                clear HLA hB
                have hneg : ¬ (0 : Int) ≤ ((0 : Nat) : Int) - 1 := by omega
                go_wp2_with (first
                  | (go_at_call 11; refine hL.mono ?_; rintro e w6 ⟨rfl, rfl⟩)
                  | (go_at_call 12; refine hD.mono ?_; rintro e w7 ⟨A7, c7, rfl, _, hB7⟩))
                first | exact ⟨rfl, hB7.bl⟩ | (go_ret; exact ⟨rfl, hB7.bl⟩)
              · obtain ⟨i, hi⟩ : ∃ i, q = i + 1 := ⟨q - 1, by omega⟩
                subst hi
                have ei : ((i + 1 : Nat) : Int) - 1 = (i : Int) := by omega
                have hin : i < n := by omega
                have hge : (0 : Int) ≤ (i : Int) := by omega
                by_cases hik : i < k
                · have hin' : i < n' := by omega
                  have hiI' : ¬ (n' : Int) ≤ (i : Int) := by omega
                  have dI' : decide (n' ≤ i) = false := by simp; omega
                  rw [show min k (i + 1) = i + 1 by omega] at HLA
                  have hnx := left_step HLA.out hik
                  have hhas := left_has HLA.out
                  obtain ⟨gb, off, ha, c0, hzo⟩ := getD_at HS.out hB.bl (k := i) (by rw [HL.out.1]; omega)
                  obtain ⟨gb', off', ha', _, _⟩ := getD_at HS'.out hB.bl (k := i) (by rw [HL.out.2]; omega)
                  subst ha
                  subst ha'
                  have hDr := fun w' (b : Below wr.heap.size wr w') => (hB.below b).drop hzo
                  rw [hhas] at hDr
                  have HDR := Lib.hid hDr
                  have HNX := Lib.hid hnx
                  have hdl : i + 1 ≤ k := by omega
                  have HCI := Lib.hid (fun w' (b : Below wr.heap.size wr w') => (World.cell?_of_block (a := ⟨gb, off + i, none⟩) (b.block gb (World.block_lt_of_cell? _ _ c0))).trans c0)
                  have HBB := Lib.hid (fun w' (b : Below wr.heap.size wr w') => (hB.bl.trans (b.mono hB.bl.size)))
                  clear hnx hhas hDr hB HLA c0
                  rw [ei]
                  go_upto_region 15 with fail
                  go_loopw [8, 9] (fun v8 v9 wq => ∃ (j : Nat) (b : Bool), v8 = .bool b ∧ v9 = .int .i64 (j : Int) ∧ i + 1 ≤ j ∧ j ≤ k ∧ Hid (b = laterP Z i j) ∧ Below wr.heap.size wr wq) (fun _ v9 _ => k - (intOf v9).toNat)
                  case atStart => exact ⟨i + 1, false, rfl, by first | rfl | simp, Nat.le_refl _, hdl, Lib.hid (later_none Z i).symm, Below.refl _ _⟩
                  case round =>
                    obtain ⟨j, b, rfl, rfl, hj1, hj2, HBv, hb⟩ := hrel
                    by_cases hjk : j < k
                    · have dj : decide (j < n) = true := by simp; omega
                      have dj' : decide (j < n') = true := by simp; omega
                      have jI : (j : Int) < (n : Int) := by omega
                      have jI' : (j : Int) < (n' : Int) := by omega
                      have iI : (i : Int) < (n : Int) := by omega
                      have di : decide (i < n) = true := by simp; omega
                      have ci := HCI.out _ hb
                      obtain ⟨gj, oj, hae, cj, _⟩ := getD_at HS.out (HBB.out _ hb) (k := j) (by rw [HL.out.1]; omega)
                      cases hae
                      have hst := later_step (zs := Z) (i := i) (j := j) (by omega)
                      rw [← HBv.out] at hst
                      have HST := Lib.hid hst
                      clear hst HBv HNX HDR HCI HBB
                      generalize Z.getD i 0 = zi at *
                      generalize Z.getD j 0 = zj at *
                      cases b with
                      | true =>
                        go_wp2_with fail
                        go_quiet (fail)
                        go_wp2_with fail
                        go_roundw
                        case rel => exact ⟨j + 1, true, rfl, by go_num, by omega, by omega, Lib.hid (by rw [HST.out]; rfl), bel_dn hb _⟩
                        case measure => first | (simp [intOf]; omega) | simp [intOf]
                      | false =>
                        go_wp2_with fail
                        go_quiet (fail)
                        go_wp2_with fail
                        go_roundw
                        case rel => exact ⟨j + 1, _, rfl, by go_num, by omega, by omega, Lib.hid (by rw [HST.out]; first | rfl | simp), bel_dn hb _⟩
                        case measure => first | (simp [intOf]; omega) | simp [intOf]
                    · have ejk : j = k := by omega
                      subst ejk
                      have ci := HCI.out _ hb
                      have hDD := HDR.out _ hb
                      have iI : (i : Int) < (n : Int) := by omega
                      have di : decide (i < n) = true := by simp; omega
                      rw [← HBv.out] at hDD
                      have HNX2 := HNX
                      clear HDR HCI HBB HBv HNX
                      generalize hzz : Z.getD i 0 = zi at *
                      have HZZ := Lib.hid hzz
                      clear hzz
                      have NEXTS := HNX2
                      have hm2 : j = n ∨ j = n' := by omega
                      rcases hm2 with hm2 | hm2
                      · have dj : decide (j < n) = false := by simp; omega
                        have jI : ¬ (j : Int) < (n : Int) := by omega
                        cases b <;>
                        · go_wp2_with (go_at_call 10; refine hDD.mono ?_; rintro e w9 ⟨rfl, hB9⟩)
                          go_roundw
                          case rel => exact ⟨i, _, by omega, by go_num, hB9, by rw [show min j i = i by omega]; exact NEXTS⟩
                          case measure => first | (simp [intOf]; omega) | simp [intOf]
                      · by_cases hkn : j < n
                        · have dj : decide (j < n) = true := by simp; omega
                          have jI : (j : Int) < (n : Int) := by omega
                          have dj' : decide (j < n') = false := by simp; omega
                          have jI' : ¬ (j : Int) < (n' : Int) := by omega
                          cases b <;>
                          · go_wp2_with (go_at_call 10; refine hDD.mono ?_; rintro e w9 ⟨rfl, hB9⟩)
                            go_roundw
                            case rel => exact ⟨i, _, by omega, by go_num, hB9, by rw [show min j i = i by omega]; exact NEXTS⟩
                            case measure => first | (simp [intOf]; omega) | simp [intOf]
                        · have dj : decide (j < n) = false := by simp; omega
                          have jI : ¬ (j : Int) < (n : Int) := by omega
                          cases b <;>
                          · go_wp2_with (go_at_call 10; refine hDD.mono ?_; rintro e w9 ⟨rfl, hB9⟩)
                            go_roundw
                            case rel => exact ⟨i, _, by omega, by go_num, hB9, by rw [show min j i = i by omega]; exact NEXTS⟩
                            case measure => first | (simp [intOf]; omega) | simp [intOf]
                · have hik' : n' ≤ i := by omega
                  have hiI' : (n' : Int) ≤ (i : Int) := by omega
                  have dI' : decide (n' ≤ i) = true := by simp; omega
                  rw [show min k (i + 1) = min k i by omega] at HLA
                  have HB2 := Lib.hid hB
                  clear hB
                  rw [ei]
                  go_wp2_with fail
                  go_roundw
                  case rel => exact ⟨i, M, by omega, by go_num, HB2.out, HLA⟩
                  case measure => first | (simp [intOf]; omega) | simp [intOf]
          · have dI : decide (k < n) = false := by simp; omega
            have ltI : ¬ (k : Int) < (n : Int) := by omega
            go_upto_region 10 with fail
            clear dI ltI
            go_loopw [7] (fun c wr => ∃ (q : Nat) (M : List K2), q ≤ n ∧ c = .int .i64 ((q : Int) - 1) ∧ So w wr Bw M ∧ Hid (LeftAt Z k (min k q) M)) (fun c _ => (intOf c + 1).toNat)
            case atStart => exact ⟨n, M0, by omega, by first | rfl | simp, HB.out, by rw [show min k n = k by omega]; exact HLA⟩
            case round =>
              clear HB HLA
              obtain ⟨q, M, hq, rfl, hB, HLA⟩ := hrel
              rcases Nat.eq_zero_or_pos q with hq0 | hq0
              · subst hq0
                have hMe := left_none (by have := HLA.out; rw [Nat.min_zero] at this; exact this)
                subst hMe
                have hL := hB.len
                have hD := hB.due (now := 9223372036854775807)
                clear HLA hB
                have hneg : ¬ (0 : Int) ≤ ((0 : Nat) : Int) - 1 := by omega
                go_wp2_with (first
                  | (go_at_call 11; refine hL.mono ?_; rintro e w6 ⟨rfl, rfl⟩)
                  | (go_at_call 12; refine hD.mono ?_; rintro e w7 ⟨A7, c7, rfl, _, hB7⟩))
                first | exact ⟨rfl, hB7.bl⟩ | (go_ret; exact ⟨rfl, hB7.bl⟩)
              · obtain ⟨i, hi⟩ : ∃ i, q = i + 1 := ⟨q - 1, by omega⟩
                subst hi
                have ei : ((i + 1 : Nat) : Int) - 1 = (i : Int) := by omega
                have hin : i < n := by omega
                have hge : (0 : Int) ≤ (i : Int) := by omega
                by_cases hik : i < k
                · have hin' : i < n' := by omega
                  have hiI' : ¬ (n' : Int) ≤ (i : Int) := by omega
                  have dI' : decide (n' ≤ i) = false := by simp; omega
                  rw [show min k (i + 1) = i + 1 by omega] at HLA
                  have hnx := left_step HLA.out hik
                  have hhas := left_has HLA.out
                  obtain ⟨gb, off, ha, c0, hzo⟩ := getD_at HS.out hB.bl (k := i) (by rw [HL.out.1]; omega)
                  obtain ⟨gb', off', ha', _, _⟩ := getD_at HS'.out hB.bl (k := i) (by rw [HL.out.2]; omega)
                  subst ha
                  subst ha'
                  have hDr := fun w' (b : Below wr.heap.size wr w') => (hB.below b).drop hzo
                  rw [hhas] at hDr
                  have HDR := Lib.hid hDr
                  have HNX := Lib.hid hnx
                  have hdl : i + 1 ≤ k := by omega
                  have HCI := Lib.hid (fun w' (b : Below wr.heap.size wr w') => (World.cell?_of_block (a := ⟨gb, off + i, none⟩) (b.block gb (World.block_lt_of_cell? _ _ c0))).trans c0)
                  have HBB := Lib.hid (fun w' (b : Below wr.heap.size wr w') => (hB.bl.trans (b.mono hB.bl.size)))
                  clear hnx hhas hDr hB HLA c0
                  rw [ei]
                  go_upto_region 15 with fail
                  go_loopw [8, 9] (fun v8 v9 wq => ∃ (j : Nat) (b : Bool), v8 = .bool b ∧ v9 = .int .i64 (j : Int) ∧ i + 1 ≤ j ∧ j ≤ k ∧ Hid (b = laterP Z i j) ∧ Below wr.heap.size wr wq) (fun _ v9 _ => k - (intOf v9).toNat)
                  case atStart => exact ⟨i + 1, false, rfl, by first | rfl | simp, Nat.le_refl _, hdl, Lib.hid (later_none Z i).symm, Below.refl _ _⟩
                  case round =>
                    obtain ⟨j, b, rfl, rfl, hj1, hj2, HBv, hb⟩ := hrel
                    by_cases hjk : j < k
                    · have dj : decide (j < n) = true := by simp; omega
                      have dj' : decide (j < n') = true := by simp; omega
                      have jI : (j : Int) < (n : Int) := by omega
                      have jI' : (j : Int) < (n' : Int) := by omega
                      have iI : (i : Int) < (n : Int) := by omega
                      have di : decide (i < n) = true := by simp; omega
                      have ci := HCI.out _ hb
                      obtain ⟨gj, oj, hae, cj, _⟩ := getD_at HS.out (HBB.out _ hb) (k := j) (by rw [HL.out.1]; omega)
                      cases hae
                      have hst := later_step (zs := Z) (i := i) (j := j) (by omega)
                      rw [← HBv.out] at hst
                      have HST := Lib.hid hst
                      clear hst HBv HNX HDR HCI HBB
                      generalize Z.getD i 0 = zi at *
                      generalize Z.getD j 0 = zj at *
                      cases b with
                      | true =>
                        go_wp2_with fail
                        go_quiet (fail)
                        go_wp2_with fail
                        go_roundw
                        case rel => exact ⟨j + 1, true, rfl, by go_num, by omega, by omega, Lib.hid (by rw [HST.out]; rfl), bel_dn hb _⟩
                        case measure => first | (simp [intOf]; omega) | simp [intOf]
                      | false =>
                        go_wp2_with fail
                        go_quiet (fail)
                        go_wp2_with fail
                        go_roundw
                        case rel => exact ⟨j + 1, _, rfl, by go_num, by omega, by omega, Lib.hid (by rw [HST.out]; first | rfl | simp), bel_dn hb _⟩
                        case measure => first | (simp [intOf]; omega) | simp [intOf]
                    · have ejk : j = k := by omega
                      subst ejk
                      have ci := HCI.out _ hb
                      have hDD := HDR.out _ hb
                      have iI : (i : Int) < (n : Int) := by omega
                      have di : decide (i < n) = true := by simp; omega
                      rw [← HBv.out] at hDD
                      have HNX2 := HNX
                      clear HDR HCI HBB HBv HNX
                      generalize hzz : Z.getD i 0 = zi at *
                      have HZZ := Lib.hid hzz
                      clear hzz
                      have NEXTS := HNX2
                      have hm2 : j = n ∨ j = n' := by omega
                      rcases hm2 with hm2 | hm2
                      · have dj : decide (j < n) = false := by simp; omega
                        have jI : ¬ (j : Int) < (n : Int) := by omega
                        cases b <;>
                        · go_wp2_with (go_at_call 10; refine hDD.mono ?_; rintro e w9 ⟨rfl, hB9⟩)
                          go_roundw
                          case rel => exact ⟨i, _, by omega, by go_num, hB9, by rw [show min j i = i by omega]; exact NEXTS⟩
                          case measure => first | (simp [intOf]; omega) | simp [intOf]
                      · by_cases hkn : j < n
                        · have dj : decide (j < n) = true := by simp; omega
                          have jI : (j : Int) < (n : Int) := by omega
                          have dj' : decide (j < n') = false := by simp; omega
                          have jI' : ¬ (j : Int) < (n' : Int) := by omega
                          cases b <;>
                          · go_wp2_with (go_at_call 10; refine hDD.mono ?_; rintro e w9 ⟨rfl, hB9⟩)
                            go_roundw
                            case rel => exact ⟨i, _, by omega, by go_num, hB9, by rw [show min j i = i by omega]; exact NEXTS⟩
                            case measure => first | (simp [intOf]; omega) | simp [intOf]
                        · have dj : decide (j < n) = false := by simp; omega
                          have jI : ¬ (j : Int) < (n : Int) := by omega
                          cases b <;>
                          · go_wp2_with (go_at_call 10; refine hDD.mono ?_; rintro e w9 ⟨rfl, hB9⟩)
                            go_roundw
                            case rel => exact ⟨i, _, by omega, by go_num, hB9, by rw [show min j i = i by omega]; exact NEXTS⟩
                            case measure => first | (simp [intOf]; omega) | simp [intOf]
                · have hik' : n' ≤ i := by omega
                  have hiI' : (n' : Int) ≤ (i : Int) := by omega
                  have dI' : decide (n' ≤ i) = true := by simp; omega
                  rw [show min k (i + 1) = min k i by omega] at HLA
                  have HB2 := Lib.hid hB
                  clear hB
                  rw [ei]
                  go_wp2_with fail
                  go_roundw
                  case rel => exact ⟨i, M, by omega, by go_num, HB2.out, HLA⟩
                  case measure => first | (simp [intOf]; omega) | simp [intOf]
end Go.Proofs.Ytcmdelmgklidjaa
