/- The store's plain side: roots, places, pieces, and what a Set comes to; by-name template. -/
import Derived.Test.YtikaeblmjlfgcaaDisk
namespace Go.Proofs.Ytikaeblmjlfgcaa

structure Pt where
  slot : Int
  val : ByteArray
  gone : Bool

def slotOk (i : Int) : Prop := 0 ≤ i ∧ i < 8
def bigP (p : Pt) : Prop := p.gone = false ∧ 4096 < p.val.size
/-- What a list that is handed to Set is told. -/
def Chk (L : List Pt) (c : Int) : Prop :=
  (c = 20 ∧ ∃ p ∈ L, ¬ slotOk p.slot) ∨ (c = 11 ∧ (∀ p ∈ L, slotOk p.slot) ∧ ∃ p ∈ L, bigP p) ∨
  (c = 1 ∧ (∀ p ∈ L, slotOk p.slot) ∧ (∀ p ∈ L, ¬ bigP p) ∧ ¬ (L.map Pt.slot).Nodup) ∨
  (c = 0 ∧ (∀ p ∈ L, slotOk p.slot) ∧ (∀ p ∈ L, ¬ bigP p) ∧ (L.map Pt.slot).Nodup)
theorem Chk.uniq {L : List Pt} {c d : Int} (h : Chk L c) (k : Chk L d) : c = d := by
  unfold Chk at h k
  grind
theorem Chk.ok {L : List Pt} {c : Int} (h : Chk L c) (h0 : c = 0) : (∀ p ∈ L, slotOk p.slot) ∧ (∀ p ∈ L, ¬ bigP p) ∧ (L.map Pt.slot).Nodup := by
  unfold Chk at h
  grind
theorem Chk.some (L : List Pt) : ∃ c, Chk L c := by
  by_cases h1 : ∃ p ∈ L, ¬ slotOk p.slot
  · exact ⟨20, .inl ⟨rfl, h1⟩⟩
  · have h1' : ∀ p ∈ L, slotOk p.slot := fun p hp => Classical.byContradiction fun hn => h1 ⟨p, hp, hn⟩
    by_cases h2 : ∃ p ∈ L, bigP p
    · exact ⟨11, .inr (.inl ⟨rfl, h1', h2⟩)⟩
    · have h2' : ∀ p ∈ L, ¬ bigP p := fun p hp hn => h2 ⟨p, hp, hn⟩
      by_cases h3 : (L.map Pt.slot).Nodup
      · exact ⟨0, .inr (.inr (.inr ⟨rfl, h1', h2', h3⟩))⟩
      · exact ⟨1, .inr (.inr (.inl ⟨rfl, h1', h2', h3⟩))⟩

/-! ### Roots -/
structure RS where
  n : Int
  P : List Int
def RS0 : RS := ⟨0, List.replicate 64 0⟩
structure RSok (R : RS) : Prop where
  n0 : 0 ≤ R.n
  n1 : R.n < 18446744073709551616
  len : R.P.length = 64
  b : ∀ x ∈ R.P, 0 ≤ x ∧ x < 256

def leN (l : List UInt8) : Nat → Nat
  | 0 => 0
  | k + 1 => leN l k + (l.getD k 0).toNat * 2 ^ (8 * k)
def rootOf (s : ByteArray) : RS := if s.size = 72 then ⟨leN s.data.toList 8, (s.data.toList.drop 8).map fun b => (b.toNat : Int)⟩ else RS0
def encN (n : Nat) (k : Nat) : List UInt8 := (List.range k).map fun i => UInt8.ofNat (n >>> (8 * i))
def encL (R : RS) : List UInt8 := encN R.n.toNat 8 ++ R.P.map fun x => UInt8.ofNat x.toNat
def textOf (R : RS) : ByteArray := ⟨(encL R).toArray⟩

theorem leN_lt (l : List UInt8) (k : Nat) : leN l k < 2 ^ (8 * k) := by
  induction k with
  | zero => simp [leN]
  | succ k ih =>
    have h := (l.getD k 0).toNat_lt
    have e : 2 ^ (8 * (k + 1)) = 256 * 2 ^ (8 * k) := by rw [Nat.mul_add, Nat.pow_add]; simp [Nat.mul_comm]
    rw [leN, e]
    have := Nat.mul_le_mul_right (2 ^ (8 * k)) (show (l.getD k 0).toNat ≤ 255 by omega)
    omega
theorem leN_app (l m : List UInt8) : ∀ k, k ≤ l.length → leN (l ++ m) k = leN l k
  | 0, _ => rfl
  | k + 1, h => by
    rw [leN, leN, leN_app l m k (by omega)]
    rw [List.getD_eq_getElem?_getD, List.getD_eq_getElem?_getD, List.getElem?_append_left (by omega)]
theorem leN_enc (n K : Nat) : ∀ k, k ≤ K → leN (encN n K) k = n % 2 ^ (8 * k)
  | 0, _ => by simp [leN, Nat.mod_one]
  | k + 1, h => by
    rw [leN, leN_enc n K k (by omega)]
    have e : 2 ^ (8 * (k + 1)) = 2 ^ (8 * k) * 256 := by rw [Nat.mul_add, Nat.pow_add]
    have hg : (encN n K).getD k 0 = UInt8.ofNat (n >>> (8 * k)) := by
      simp [encN, List.getD_eq_getElem?_getD, List.getElem?_range (show k < K by omega)]
    rw [hg, e, Nat.mod_mul, Nat.shiftRight_eq_div_pow]
    simp [Nat.mul_comm]
theorem encL_length {R : RS} (h : R.P.length = 64) : (encL R).length = 72 := by simp [encL, encN, h]
theorem textOf_size {R : RS} (h : R.P.length = 64) : (textOf R).size = 72 := by
  show (encL R).toArray.size = 72
  simp [encL_length h]
theorem rootOf_textOf {R : RS} (h : RSok R) : rootOf (textOf R) = R := by
  unfold rootOf
  rw [if_pos (textOf_size h.len)]
  have e1 : (textOf R).data.toList = encL R := rfl
  have e2 : leN (encL R) 8 = R.n.toNat := by
    rw [encL, leN_app _ _ 8 (by simp [encN]), leN_enc _ _ 8 (Nat.le_refl _)]
    have := h.n1
    have := h.n0
    apply Nat.mod_eq_of_lt
    omega
  have e3 : (encL R).drop 8 = R.P.map fun x => UInt8.ofNat x.toNat := by
    rw [encL, List.drop_append_of_le_length (by simp [encN])]
    rw [List.drop_of_length_le (by simp [encN])]
    rfl
  have e4 : (R.P.map fun x => UInt8.ofNat x.toNat).map (fun b => (b.toNat : Int)) = R.P := by
    rw [List.map_map]
    have : ∀ x ∈ R.P, ((fun b : UInt8 => (b.toNat : Int)) ∘ fun x : Int => UInt8.ofNat x.toNat) x = id x := by
      intro x hx
      obtain ⟨a, b⟩ := h.b x hx
      simp
      omega
    rw [List.map_congr_left this, List.map_id]
  rw [e1, e2, e3, e4]
  obtain ⟨n, P⟩ := R
  have h0 : 0 ≤ n := h.n0
  show RS.mk ((n.toNat : Nat) : Int) P = RS.mk n P
  rw [Int.toNat_of_nonneg h0]
theorem RS0_ok : RSok RS0 := ⟨by decide, by decide, by simp [RS0], by simp [RS0]⟩
theorem rootOf_ok (s : ByteArray) : RSok (rootOf s) := by
  unfold rootOf
  split
  · rename_i h
    have h8 := leN_lt s.data.toList 8
    have hl : s.data.toList.length = 72 := by simpa using h
    refine ⟨by simp, by show ((leN s.data.toList 8 : Nat) : Int) < _; omega, by simp [hl], ?_⟩
    intro x hx
    simp only [List.mem_map] at hx
    obtain ⟨b, _, rfl⟩ := hx
    have := b.toNat_lt
    omega
  · exact RS0_ok

/-! ### Free sectors -/
def frees (R : RS) : List Nat := (List.range 160).filter fun n => !(n == 0) && !(R.P.contains (n : Int))
theorem mem_frees {R : RS} {x : Nat} : x ∈ frees R ↔ x < 160 ∧ x ≠ 0 ∧ (x : Int) ∉ R.P := by
  simp [frees]
theorem frees_nodup (R : RS) : (frees R).Nodup := List.Pairwise.filter _ List.nodup_range

theorem one_off {α : Type} [DecidableEq α] (u : α) : ∀ l : List α, l.Nodup → l.length ≤ (l.filter fun x => !(x == u)).length + 1
  | [], _ => by simp
  | a :: t, h => by
    obtain ⟨h1, h2⟩ := List.nodup_cons.1 h
    by_cases e : a = u
    · subst e
      have : t.filter (fun x => !(x == a)) = t := by
        rw [List.filter_eq_self]
        intro x hx
        simp
        rintro rfl
        exact h1 hx
      simp [this]
    · have := one_off u t h2
      simp [e]
      omega
theorem some_off {α : Type} [DecidableEq α] : ∀ (U l : List α), l.Nodup → l.length ≤ (l.filter fun x => !(U.contains x)).length + U.length
  | [], l, _ => by
    have e : (l.filter fun x => !(([] : List α).contains x)) = l := by rw [List.filter_eq_self]; intro a _; rfl
    rw [e]
    simp
  | u :: U, l, h => by
    have h1 := some_off U l h
    have h2 := one_off u _ (List.Pairwise.filter (fun x => !(U.contains x)) h)
    rw [List.filter_filter] at h2
    have e : (l.filter fun x => !(x == u) && !(U.contains x)) = l.filter fun x => !((u :: U).contains x) := by
      apply List.filter_congr
      intro x _
      by_cases hx : x = u <;> simp [hx]
    rw [e] at h2
    simp at h1 h2 ⊢
    omega
theorem frees_len {R : RS} (h : R.P.length = 64) : 95 ≤ (frees R).length := by
  have hn : ((List.range 160).map fun n : Nat => (n : Int)).Nodup := by
    rw [List.Nodup, List.pairwise_map]
    exact List.Pairwise.imp (fun h e => h (by omega)) List.nodup_range
  have h1 := some_off (0 :: R.P) ((List.range 160).map fun n : Nat => (n : Int)) hn
  rw [List.filter_map] at h1
  simp [h] at h1
  have e : ((List.range 160).filter ((fun x : Int => !decide (x = 0) && !decide (x ∈ R.P)) ∘ fun n : Nat => (n : Int))) = frees R := by
    apply List.filter_congr
    intro x _
    by_cases hx : x = 0 <;> simp [hx]
  rw [e] at h1
  exact h1

/-! ### Pieces -/
structure Pc where
  slot : Int
  num : Nat
  text : ByteArray
def cnt (n : Nat) : Nat := max 1 ((n + 511) / 512)
def chunk (v : ByteArray) (j : Nat) : ByteArray := v.extract (j * 512) (min (j * 512 + 512) v.size)
def pcs (p : Pt) : List Pc := if p.gone then [] else (List.range (cnt p.val.size)).map fun j => ⟨p.slot, j, chunk p.val j⟩
def pieces (L : List Pt) : List Pc := L.flatMap pcs
def pos (q : Pc) : Nat := q.slot.toNat * 8 + q.num

theorem mem_pcs {p : Pt} {q : Pc} : q ∈ pcs p ↔ p.gone = false ∧ q.slot = p.slot ∧ q.num < cnt p.val.size ∧ q.text = chunk p.val q.num := by
  unfold pcs
  cases p.gone
  · simp
    constructor
    · rintro ⟨a, h, rfl⟩
      exact ⟨rfl, h, rfl⟩
    · rintro ⟨h1, h2, h3⟩
      exact ⟨q.num, h2, by rw [← h1, ← h3]⟩
  · simp
theorem mem_pieces {L : List Pt} {q : Pc} : q ∈ pieces L ↔ ∃ p ∈ L, q ∈ pcs p := by simp [pieces]
theorem cnt_le {n : Nat} (h : n ≤ 4096) : cnt n ≤ 8 := by unfold cnt; omega
theorem pcs_len {p : Pt} (h : ¬ bigP p) : (pcs p).length ≤ 8 := by
  unfold pcs
  cases hg : p.gone
  · simp
    apply cnt_le
    unfold bigP at h
    simp [hg] at h
    omega
  · simp
theorem slots_len {L : List Pt} (h : ∀ p ∈ L, slotOk p.slot) (hn : (L.map Pt.slot).Nodup) : L.length ≤ 8 := by
  have h1 := some_off [0, 1, 2, 3, 4, 5, 6, 7] (L.map Pt.slot) hn
  have e : (L.map Pt.slot).filter (fun x => !([0, 1, 2, 3, 4, 5, 6, 7].contains x)) = [] := by
    rw [List.filter_eq_nil_iff]
    intro x hx
    simp only [List.mem_map] at hx
    obtain ⟨p, hp, rfl⟩ := hx
    obtain ⟨a, b⟩ := h p hp
    simp
    omega
  rw [e] at h1
  simp at h1
  exact h1
theorem pieces_le : ∀ {L : List Pt}, (∀ p ∈ L, ¬ bigP p) → (pieces L).length ≤ 8 * L.length
  | [], _ => by simp [pieces]
  | p :: L, h => by
    have h1 := pieces_le (L := L) fun q hq => h q (List.mem_cons_of_mem _ hq)
    have h2 := pcs_len (h p List.mem_cons_self)
    have e : pieces (p :: L) = pcs p ++ pieces L := rfl
    rw [e]
    simp
    omega
theorem pieces_len {L : List Pt} (h : Chk L 0) : (pieces L).length ≤ 64 := by
  obtain ⟨h1, h2, h3⟩ := h.ok rfl
  have := slots_len h1 h3
  have := pieces_le h2
  omega
theorem pieces_pos {L : List Pt} (h : Chk L 0) {q : Pc} (hq : q ∈ pieces L) : pos q < 64 ∧ q.num < 8 ∧ slotOk q.slot := by
  obtain ⟨h1, h2, h3⟩ := h.ok rfl
  obtain ⟨p, hp, hm⟩ := mem_pieces.1 hq
  obtain ⟨hg, hs, hn, _⟩ := mem_pcs.1 hm
  have hb : p.val.size ≤ 4096 := by
    have := h2 p hp
    unfold bigP at this
    simp [hg] at this
    exact this
  have := cnt_le hb
  obtain ⟨a, b⟩ := h1 p hp
  unfold pos slotOk
  rw [hs]
  omega
theorem pieces_apart {L : List Pt} (h : Chk L 0) : (pieces L).Pairwise fun q r => pos q ≠ pos r := by
  obtain ⟨h1, h2, h3⟩ := h.ok rfl
  rw [pieces, List.pairwise_flatMap]
  constructor
  · intro p hp
    unfold pcs
    cases p.gone
    · simp
      rw [List.pairwise_map]
      exact List.Pairwise.imp (fun h => by unfold pos; simp; omega) List.nodup_range
    · simp
  · rw [List.Nodup, List.pairwise_map] at h3
    refine List.Pairwise.imp_of_mem ?_ h3
    intro a b ha hb hne q hq r hr
    have hq' := pieces_pos h (mem_pieces.2 ⟨a, ha, hq⟩)
    have hr' := pieces_pos h (mem_pieces.2 ⟨b, hb, hr⟩)
    obtain ⟨_, hs, _⟩ := mem_pcs.1 hq
    obtain ⟨_, hs', _⟩ := mem_pcs.1 hr
    obtain ⟨q1, q2, q3, q4⟩ := hq'
    obtain ⟨r1, r2, r3, r4⟩ := hr'
    unfold pos
    omega
theorem chunk_size (v : ByteArray) (j : Nat) : (chunk v j).size ≤ 512 := by
  simp [chunk, ByteArray.size_extract]
  omega
theorem pieces_text {L : List Pt} {q : Pc} (hq : q ∈ pieces L) : q.text.size ≤ 512 := by
  obtain ⟨p, _, hm⟩ := mem_pieces.1 hq
  obtain ⟨_, _, _, ht⟩ := mem_pcs.1 hm
  rw [ht]
  exact chunk_size _ _

/-! ### Values -/
def cat (l : List ByteArray) : ByteArray := ⟨(l.flatMap fun s => s.data.toList).toArray⟩
def place (R : RS) (s : Nat) : List Int := (List.range 8).map fun j => R.P.getD (s * 8 + j) 0
def sec (D : DS) (x : Nat) : ByteArray := D.S.getD x ByteArray.empty
def root (D : DS) : RS := rootOf (sec D 0)
def getv (D : DS) (s : Nat) : Option ByteArray :=
  if place (root D) s = List.replicate 8 0 then none else some (cat (((place (root D) s).takeWhile (· ≠ 0)).map fun x => sec D x.toNat))

theorem cat_chunks (v : ByteArray) (m : Nat) : cat ((List.range m).map (chunk v)) = v.extract 0 (min (m * 512) v.size) := by
  have key : ((List.range m).map (chunk v)).flatMap (fun s => s.data.toList) = v.data.toList.take (m * 512) := by
    induction m with
    | zero => simp
    | succ m ih =>
      rw [List.range_succ, List.map_append, List.flatMap_append, ih]
      simp [chunk]
      rw [show min (m * 512 + 512) v.size - m * 512 = min 512 (v.size - m * 512) by omega]
      rw [show (m + 1) * 512 = m * 512 + 512 by omega, List.take_add]
      congr 1
      try rw [List.take_eq_take_iff]
      first | (simp; done) | (simp; omega)
  apply ByteArray.ext
  show (_ : Array UInt8) = _
  unfold cat
  rw [key]
  apply Array.toList_inj.1
  simp
  try rw [List.take_eq_take_iff]
theorem cat_all (v : ByteArray) : cat ((List.range (cnt v.size)).map (chunk v)) = v := by
  rw [cat_chunks]
  have : min (cnt v.size * 512) v.size = v.size := by unfold cnt; omega
  rw [this]
  simp

theorem takeWhile_pre (f : Nat → Int) {n m : Nat} (hm : m ≤ n) (h1 : ∀ j, j < m → f j ≠ 0) (h2 : m < n → f m = 0) : ((List.range n).map f).takeWhile (· ≠ 0) = (List.range m).map f := by
  obtain ⟨k, rfl⟩ := Nat.exists_eq_add_of_le hm
  rw [List.range_add, List.map_append, List.takeWhile_append_of_pos]
  · cases k with
    | zero => simp
    | succ k =>
      rw [List.range_succ_eq_map]
      simp [h2 (by omega)]
  · intro a ha
    simp only [List.mem_map, List.mem_range] at ha
    obtain ⟨j, hj, rfl⟩ := ha
    simpa using h1 j hj
end Go.Proofs.Ytikaeblmjlfgcaa
