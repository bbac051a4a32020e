/- The document's meters: how they lie in memory; New, at, Has, Tokens; by-name template. -/
import Derived.Test.YtpkmloanbddefaaMTA
import Derived.Maps.AppendAt
namespace Go.Proofs.Ytpkmloanbddefaa
open Go.RowKit Go.Lib Go.Maps
set_option linter.unusedVariables false
set_option linter.unusedSimpArgs false

structure RE where
  s : Src
  O : Nat
  B : Nat
  D : BK
def RE.me (e : RE) : Src × BK := (e.s, e.D)
def RE.ptr (e : RE) : Value := .pointer (some ⟨e.O, 0, none⟩)

structure RAt (w : World) (S : Nat → Prop) (r b : Int) (Rm : Nat) (E : List RE) (v : Value) : Prop where
  hm : w.heap[Rm]? = some (.cells #[.int .i64 r, .int .i64 b, v] 38 (0, 0))
  row : w.ownsRow 0 48 1 v E.length (E.map RE.ptr)
  me : ∀ e ∈ E, w.heap[e.O]? = some (.cells #[.int .u64 e.s.1, .int .u64 e.s.2, .pointer (some ⟨e.B, 0, none⟩)] 47 (0, 0))
  bk : ∀ e ∈ E, BkAt 41 w e.B e.D
  gd : ∀ e ∈ E, Good e.D
  ok : ∀ e ∈ E, SrcOk e.s
  uq : E.Pairwise (fun x y => x.O ≠ y.O ∧ x.B ≠ y.B)
  sS : S Rm ∧ (∀ g, v.ownBlock = some g → S g) ∧ ∀ e ∈ E, S e.O ∧ S e.B
  lt : ∀ k, S k → k < w.heap.size
  ln : E.length ≤ 32

theorem RAt.keep {w w' : World} {S : Nat → Prop} {r b : Int} {Rm : Nat} {E : List RE} {v : Value} (h : RAt w S r b Rm E v) (hs : w.heap.size ≤ w'.heap.size) (hw : ∀ k, S k → w'.heap[k]? = w.heap[k]?) : RAt w' S r b Rm E v where
  hm := (hw _ h.sS.1).trans h.hm
  row := by
    refine ⟨h.row.1, ?_⟩
    rcases h.row.2 with hn | ⟨g, cap, cur, rfl, hb, hgg, rest⟩
    · exact .inl hn
    · exact .inr ⟨g, cap, cur, rfl, hb, (hw g (h.sS.2.1 g rfl)).trans hgg, rest⟩
  me e he := (hw _ (h.sS.2.2 e he).1).trans (h.me e he)
  bk e he := (hw _ (h.sS.2.2 e he).2).trans (h.bk e he)
  gd := h.gd
  ok := h.ok
  uq := h.uq
  sS := h.sS
  lt k hk := Nat.lt_of_lt_of_le (h.lt k hk) hs
  ln := h.ln
theorem RAt.off {w w' : World} {S T : Nat → Prop} {r b : Int} {Rm : Nat} {E : List RE} {v : Value} (h : RAt w S r b Rm E v) (ho : OffS T w w') (hd : ∀ k, S k → ¬ T k) : RAt w' S r b Rm E v :=
  h.keep ho.size (fun k hk => ho.block k (h.lt k hk) (hd k hk))
theorem RAt.below {w w' : World} {S : Nat → Prop} {r b : Int} {Rm : Nat} {E : List RE} {v : Value} (h : RAt w S r b Rm E v) (ho : Below w.heap.size w w') : RAt w' S r b Rm E v :=
  h.keep ho.size (fun k hk => ho.block k (h.lt k hk))
theorem RAt.dn {w : World} {S : Nat → Prop} {r b : Int} {Rm : Nat} {E : List RE} {v : Value} (h : RAt w S r b Rm E v) (n : Nat) : RAt (w.drewN n) S r b Rm E v := h.keep (Nat.le_refl _) (fun _ _ => rfl)
theorem RAt.dr {w : World} {S : Nat → Prop} {r b : Int} {Rm : Nat} {E : List RE} {v : Value} (h : RAt w S r b Rm E v) : RAt w.drew S r b Rm E v := h.keep (Nat.le_refl _) (fun _ _ => rfl)
theorem RAt.al {w : World} {S : Nat → Prop} {r b : Int} {Rm : Nat} {E : List RE} {v : Value} (h : RAt w S r b Rm E v) (o : Obj) : RAt (w.alloc o) S r b Rm E v := h.below ((Below.refl _ _).alloc (Nat.le_refl _) _)
theorem RAt.c0 {w : World} {S : Nat → Prop} {r b : Int} {Rm : Nat} {E : List RE} {v : Value} (h : RAt w S r b Rm E v) : w.cell? ⟨Rm, 0, none⟩ = some (.int .i64 r) := cell_of_row _ Rm 0 _ _ _ h.hm
theorem RAt.c1 {w : World} {S : Nat → Prop} {r b : Int} {Rm : Nat} {E : List RE} {v : Value} (h : RAt w S r b Rm E v) : w.cell? ⟨Rm, 1, none⟩ = some (.int .i64 b) := cell_of_row _ Rm 1 _ _ _ h.hm
theorem RAt.c2 {w : World} {S : Nat → Prop} {r b : Int} {Rm : Nat} {E : List RE} {v : Value} (h : RAt w S r b Rm E v) : w.cell? ⟨Rm, 2, none⟩ = some v := cell_of_row _ Rm 2 _ _ _ h.hm
theorem RAt.c2s {w : World} {S : Nat → Prop} {r b : Int} {Rm : Nat} {E : List RE} {g : Option Addr} {n c : Nat} (h : RAt w S r b Rm E (.slice g n c)) : w.cell? ⟨Rm, 2, none⟩ = some (.slice g n c) := h.c2
/-- the slice: what it is. -/
theorem RAt.sl {w : World} {S : Nat → Prop} {r b : Int} {Rm : Nat} {E : List RE} {v : Value} (h : RAt w S r b Rm E v) : (v = .slice none 0 0 ∧ E = []) ∨ ∃ g cap, v = .slice (some ⟨g, 0, none⟩) E.length cap ∧ E.length ≤ cap ∧ cap ≤ maxLen ∧ g < w.heap.size ∧ ∀ i e, E[i]? = some e → w.cell? ⟨g, i, none⟩ = some (.pointer (some ⟨e.O, 0, none⟩)) := by
  rcases h.row.2 with ⟨h1, h2⟩ | ⟨g, cap, cur, rfl, hb, hgg, h1, h2, h3, h4⟩
  · exact .inl ⟨h1, List.eq_nil_of_length_eq_zero h2⟩
  · refine .inr ⟨g, cap, rfl, h1, h2, (Array.getElem?_eq_some_iff.1 hgg).1, fun i e hi => ?_⟩
    have hk := h.row.cells (g := g) rfl i (.pointer (some ⟨e.O, 0, none⟩)) (by rw [List.getElem?_map, hi]; rfl)
    have hadd : (⟨g, 0, none⟩ : Addr).add i = ⟨g, i, none⟩ := by unfold Addr.add; split <;> simp_all
    rw [hadd] at hk
    exact hk

theorem rnew_meters (r b : Int) (w : World) : Calls Try.prog 9 #[.int .i64 r, .int .i64 b] w fun e w' => ∃ Rm, e = .returned (.pointer (some ⟨Rm, 0, none⟩)) ∧ RAt w' (fun k => w.heap.size ≤ k ∧ k < w'.heap.size) r b Rm [] (.slice none 0 0) ∧ Below w.heap.size w w' := by
  go_enter Try.func9, Try.ntmps9
  go_wp2
  go_ret
  exact ⟨w.heap.size, rfl, {
    hm := heap_alloc_new w _
    row := World.ownsRow_nil _ _ _ _
    me := by simp
    bk := by simp
    gd := by simp
    ok := by simp
    uq := by simp
    sS := ⟨⟨Nat.le_refl _, by simp⟩, fun g hg => by simp [Value.ownBlock] at hg, by simp⟩
    lt := fun k hk => hk.2
    ln := by simp }, (Below.refl _ _).alloc (Nat.le_refl _) _⟩

theorem ridx_me (E : List RE) (s : Src) : idxP (E.map RE.me) s = E.findIdx fun e => e.s == s := by
  unfold idxP
  rw [List.findIdx_map]
  rfl

def atV (L : LL) (s : Src) : Int := if idxP L s < L.length then (idxP L s : Int) else -1

set_option maxHeartbeats 1000000 in
theorem rat_any {w : World} {S : Nat → Prop} {r b : Int} {Rm : Nat} {E : List RE} {v : Value} (h : RAt w S r b Rm E v) {s : Src} (hs : SrcOk s) :
    Calls Try.prog 22 #[.pointer (some ⟨Rm, 0, none⟩), .agg #[.int .u64 s.1, .int .u64 s.2]] w fun e w' => e = .returned (.int .i64 (atV (E.map RE.me) s)) ∧ Below w.heap.size w w' := by
  have hln := h.ln
  have hb1 : Below w.heap.size w (w.alloc (.cells #[.int .u64 s.1, .int .u64 s.2] 25)) := (Below.refl _ _).alloc (Nat.le_refl _) _
  have q1 : (w.alloc (.cells #[.int .u64 s.1, .int .u64 s.2] 25)).heap[w.heap.size]? = some (.cells #[.int .u64 s.1, .int .u64 s.2] 25 (0, 0)) := heap_alloc_new w _
  rcases h.sl with ⟨rfl, rfl⟩ | ⟨g, cap, rfl, hc1, hc2, hg, hcell⟩
  · have c2 := (h.al (.cells #[.int .u64 s.1, .int .u64 s.2] 25)).c2s
    have e1 : atV (([] : List RE).map RE.me) s = -1 := by simp [atV]
    rw [e1]
    clear e1 q1 h
    go_enter Try.func22, Try.ntmps22
    go_wp2
    refine wp_loop_rounds 1 ?_
    rw [rounds_succ]
    go_wp2
    go_ret
    exact ⟨rfl, hb1⟩
  · have hEl := Lib.hid (rfl : E.length = E.length)
    have HNO : (∀ (i : Nat) (e : RE), E[i]? = some e → e.s ≠ s) → atV (E.map RE.me) s = -1 := fun hno => by
      unfold atV
      rw [if_neg]
      rw [ridx_me, List.length_map]
      intro hlt
      have h1 := List.findIdx_getElem (w := hlt)
      exact hno _ _ (List.getElem?_eq_getElem hlt) (by simpa using h1)
    have HYES : ∀ (i : Nat) (e : RE), E[i]? = some e → e.s = s → (∀ (j : Nat) (x : RE), j < i → E[j]? = some x → x.s ≠ s) → atV (E.map RE.me) s = i := fun i e hi he hj => by
      have hil := (List.getElem?_eq_some_iff.1 hi).1
      have hie := (List.getElem?_eq_some_iff.1 hi).2
      have e1 : (E.findIdx fun e => e.s == s) = i := by
        rcases Nat.lt_trichotomy (E.findIdx fun e => e.s == s) i with h1 | h1 | h1
        · have h2 := List.findIdx_getElem (w := Nat.lt_trans h1 hil)
          exact absurd (by simpa using h2) (hj _ _ h1 (List.getElem?_eq_getElem (Nat.lt_trans h1 hil)))
        · exact h1
        · have := List.not_of_lt_findIdx h1
          rw [hie, he] at this
          simp at this
      unfold atV
      rw [ridx_me, List.length_map, e1, if_pos hil]
    have HN := Lib.hid HNO
    have HY := Lib.hid HYES
    have HC := Lib.hid hcell
    have HP := Lib.hid h
    have HQ := Lib.hid q1
    clear HNO HYES hcell q1 hEl
    generalize hlen : E.length = len at *
    have HL := Lib.hid hlen
    have c2 := (h.al (.cells #[.int .u64 s.1, .int .u64 s.2] 25)).c2s
    clear hlen h
    unfold maxLen at hc2
    go_enter Try.func22, Try.ntmps22
    go_wp2
    go_loopw [5] (fun c wr => ∃ k : Nat, k ≤ len ∧ c = .int .i64 (k : Int) ∧ Below (w.heap.size + 1) (w.alloc (.cells #[.int .u64 s.1, .int .u64 s.2] 25)) wr ∧ (∀ (j : Nat) (x : RE), j < k → E[j]? = some x → x.s ≠ s)) (fun c _ => len - (intOf c).toNat)
    case atStart => exact ⟨0, by omega, rfl, Below.refl _ _, fun j x hj => by omega⟩
    case round =>
      obtain ⟨k, hk, rfl, hb, hno⟩ := hrel
      have hbw : Below w.heap.size w wr := hb1.trans (hb.mono (by omega))
      have hp := HP.out.below hbw
      have c2r := hp.c2s
      have qr := (hb.block w.heap.size (by omega)).trans HQ.out
      have s0 := cell_of_row _ _ 0 _ _ _ qr
      have s1 := cell_of_row _ _ 1 _ _ _ qr
      by_cases hlt : k < len
      · obtain ⟨x, hx⟩ : ∃ x, E[k]? = some x := ⟨_, List.getElem?_eq_getElem (by rw [HL.out]; exact hlt)⟩
        have hxm := List.mem_of_getElem? hx
        have g0 := HC.out k x hx
        have g1 : wr.cell? ⟨g, k, none⟩ = some (.pointer (some ⟨x.O, 0, none⟩)) := (World.cell?_of_block (a := ⟨g, k, none⟩) (hbw.block g hg)).trans g0
        have m0 := cell_of_row _ x.O 0 _ _ _ (hp.me x hxm)
        have m1 := cell_of_row _ x.O 1 _ _ _ (hp.me x hxm)
        have HX := Lib.hid hx
        have HNO2 := Lib.hid hno
        have HBW := Lib.hid (And.intro hbw hb)
        clear c2 hp hb hbw hx g0 qr hno hb1
        have NEXT : x.s ≠ s → ∀ wz, Below wr.heap.size wr wz → ∃ k' : Nat, k' ≤ len ∧ Value.int .i64 ((k : Int) + 1) = .int .i64 (k' : Int) ∧ Below (w.heap.size + 1) (w.alloc (.cells #[.int .u64 s.1, .int .u64 s.2] 25)) wz ∧ (∀ (j : Nat) (x : RE), j < k' → E[j]? = some x → x.s ≠ s) := fun hne wz hz =>
          ⟨k + 1, by omega, by go_num, HBW.out.2.trans (hz.mono (by have := HBW.out.2.size; simp at this; exact this)), fun j y hj hy => by
            rcases Nat.lt_succ_iff_lt_or_eq.1 hj with hj | hj
            · exact HNO2.out j y hj hy
            · subst hj
              rw [HX.out] at hy
              exact (Option.some.inj hy) ▸ hne⟩
        have HNX := Lib.hid NEXT
        clear NEXT
        by_cases he1 : x.s.1 = s.1
        · by_cases he2 : x.s.2 = s.2
          · have hes : x.s = s := Prod.ext he1 he2
            have HF := Lib.hid (HY.out k x HX.out hes HNO2.out)
            rw [he1] at m0
            rw [he2] at m1
            clear he1 he2 hes
            generalize s.1 = sh at *
            generalize s.2 = sl at *
            go_wp2
            go_quiet (fail)
            go_wp2
            go_ret
            exact ⟨by rw [HF.out]; rfl, bel_dn HBW.out.1 _⟩
          · have hsl : (x.s.2 == s.2) = false := by simpa using he2
            have hne : x.s ≠ s := fun e => he2 (by rw [e])
            have HNE := Lib.hid (HNX.out hne)
            rw [he1] at m0
            clear he1 he2 hne
            go_wp2
            go_quiet (fail)
            go_wp2
            go_roundw
            case rel => exact HNE.out _ (bel_dn (Below.refl _ _) _)
            case measure => simp [intOf]; omega
        · have hsl : (x.s.1 == s.1) = false := by simpa using he1
          have hne : x.s ≠ s := fun e => he1 (by rw [e])
          have HNE := Lib.hid (HNX.out hne)
          clear he1 hne
          go_wp2
          go_quiet (fail)
          go_wp2
          go_roundw
          case rel => exact HNE.out _ (bel_dn (Below.refl _ _) _)
          case measure => simp [intOf]; omega
      · have hk' : k = len := by omega
        subst hk'
        have HF := HN.out (fun i e hi => hno i e (by have := (List.getElem?_eq_some_iff.1 hi).1; rw [HL.out] at this; omega) hi)
        have HFF := Lib.hid HF
        clear HF
        go_wp2
        go_ret
        exact ⟨by rw [HFF.out]; rfl, hbw⟩
end Go.Proofs.Ytpkmloanbddefaa
