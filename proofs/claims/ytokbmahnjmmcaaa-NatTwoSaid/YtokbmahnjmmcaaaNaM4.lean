/- Steps of a draft: hairpin; by-name template (gen_na.py). -/
import Derived.Test.YtokbmahnjmmcaaaNaM3
namespace Go.Proofs.Ytokbmahnjmmcaaa
open Go.RowKit Go.Lib Go.Maps
set_option linter.unusedVariables false
set_option linter.unusedSimpArgs false

theorem DAt.other {w : World} {B : Nat} {d : DR} (h : DAt w B d) {g : Nat} (hg : g ≠ B) (o : Nat) (vs : List Value) : DAt (w.setCells g o vs) B d := ((setCells_off vs o w g).block B h.lt (Ne.symm hg)).trans h
theorem Off.fresh {B g : Nat} {w w1 : World} (h : Off B w w1) (hg : w.heap.size ≤ g) (o : Nat) (vs : List Value) : Off B w (w1.setCells g o vs) := by
  have k := setCells_off vs o w1 g
  exact ⟨k.os.trans h.os, k.tape.trans h.tape, k.output.trans h.output, Nat.le_trans h.size k.size, fun i hi hn => (k.block i (Nat.lt_of_lt_of_le hi h.size) (by omega)).trans (h.block i hi hn)⟩
theorem zeroA (w : World) : (zeroValue 33).run Try.prog w = .ok (.agg #[.int .u64 0, .int .u64 0]) w := by kernel_rfl
theorem DAt.set_ous {w : World} {B : Nat} {d : DR} (h : DAt w B d) (a b : Int) : DAt (w.setCells B 15 (#[Value.int .u64 a, Value.int .u64 b]).toList) B { d with ou := { d.ou with sh := a, sl := b } } := by
  have q := setCells_heap (#[Value.int .u64 a, Value.int .u64 b]).toList 15 h
  have e : (List.foldl (fun (a : Array Value × Nat) v => (a.1.setIfInBounds a.2 v, a.2 + 1)) (DA d, 15) (#[Value.int .u64 a, Value.int .u64 b]).toList).1 = DA { d with ou := { d.ou with sh := a, sl := b } } := by kernel_rfl
  rw [e] at q
  exact q
def hairD (d : DR) : DR := if d.dest = -1 ∨ ¬ d.zo = d.inn then d else match d.c.zs[d.zo.toNat]? with
  | none => d
  | some z => if is4I z.ah z.al == is4I d.op.sh d.op.sl then lookD { d with ou := { d.ou with sh := z.ah, sl := z.al } } 1024 65535 else d
theorem hair_some {d : DR} (c1 : ¬ d.dest = -1) (c2 : d.zo = d.inn) {j : Nat} {z : ZR} (hzo : d.zo = (j : Int)) (hz : d.c.zs[j]? = some z) : hairD d = if is4I z.ah z.al == is4I d.op.sh d.op.sl then lookD { d with ou := { d.ou with sh := z.ah, sl := z.al } } 1024 65535 else d := by
  unfold hairD
  rw [if_neg (by rintro (q | q); exact c1 q; exact q c2)]
  have e : d.c.zs[d.zo.toNat]? = some z := by rw [hzo, Int.toNat_natCast]; exact hz
  simp only [e]
set_option maxRecDepth 100000 in
set_option maxHeartbeats 8000000 in
theorem hairpin_any (d : DR) (B : Nat) {w0 w : World} (h : DAt w B d) (hc : d.c.Ok w0) (hb : Below w0.heap.size w0 w) (hB : w0.heap.size ≤ B) (j : Nat) (z : ZR) (hzo : d.zo = (j : Int)) (hz : d.c.zs[j]? = some z) (wo : Word d.op.sh ∧ Word d.op.sl) :
    Calls Try.prog 34 #[.pointer (some ⟨B, 0, none⟩)] w (LPost w B (hairD d)) := by
  obtain ⟨M, hM⟩ : ∃ M, M = LPost w B (hairD d) := ⟨_, rfl⟩
  rw [← hM]
  have hlt := h.lt
  by_cases c1 : d.dest = -1
  · have FT : ∀ w', DAt w' B d → Off B w w' → M (.returned (.tuple #[])) w' := fun w' a b => by
      rw [hM]; exact ⟨_, rfl, by unfold hairD; rw [if_pos (.inl c1)]; exact a, b⟩
    have FT := Lib.hid FT
    have c1 : (d.dest == -1) = true := by simp [c1]
    clear hM
    go_enter Try.func34, Try.ntmps34
    go_upto_region 0 with fail
    refine wp_region_held_drew (S := fun W1 : World => ∃ d' : DR, DAt W1 B d' ∧ (d'.dest = d.dest ∧ d'.zo = d.zo ∧ d'.inn = d.inn)) (by kernel_rfl) ⟨_, h.bel (bel_dr (Below.refl _ _)), rfl, rfl, rfl⟩ (fun hH => ?_)
    clear hH
    have hD0 := h.bel (bel_dr (Below.refl _ _))
    have hF0 := (Off.refl B w).drew
    have bD0 : Below w.heap.size w w.drew := bel_dr (Below.refl _ _)
    obtain ⟨wd0, hwd⟩ : ∃ x, x = w.drew := ⟨_, rfl⟩
    rw [← hwd] at hD0 hF0 bD0 ⊢
    clear hwd
    refine wpAnyH_take (i := 0) (oi := ⟨some 3, _, _, _, _, _⟩) (v := .pointer (some ⟨B, 0, none⟩)) rfl (by kernel_rfl) (by kernel_rfl) (by kernel_rfl) (fun _ _ _ h => h) (.inl ⟨by rfl, fun W hW => by go_simp⟩) ⟨_, hD0, rfl, rfl, rfl⟩ ?_
    try simp only [Act.put, List.setIfInBounds_toArray, List.set_cons_zero, List.set_cons_succ]
    refine wpAnyH_take (i := 1) (oi := ⟨some 4, _, _, _, _, _⟩) (v := .pointer (some ⟨B, 0, none⟩)) rfl (by kernel_rfl) (by kernel_rfl) (by kernel_rfl) (fun _ _ _ h => h) (.inl ⟨by rfl, fun W hW => by go_simp⟩) ⟨_, hD0, rfl, rfl, rfl⟩ ?_
    try simp only [Act.put, List.setIfInBounds_toArray, List.set_cons_zero, List.set_cons_succ]
    refine wpAnyH_take (i := 2) (oi := ⟨some 5, _, _, _, _, _⟩) (v := .pointer (some ⟨B, 47, none⟩)) rfl (by kernel_rfl) (by kernel_rfl) (by kernel_rfl) (fun _ _ _ h => h) (.inl ⟨by rfl, fun W hW => by go_simp⟩) ⟨_, hD0, rfl, rfl, rfl⟩ ?_
    try simp only [Act.put, List.setIfInBounds_toArray, List.set_cons_zero, List.set_cons_succ]
    refine wpAnyH_take (i := 3) (oi := ⟨some 6, _, _, _, _, _⟩) (v := .int .i64 d.dest) rfl (by kernel_rfl) (by kernel_rfl) (by kernel_rfl) (fun _ _ _ h => h) (.inl ⟨by rfl, fun W hW => by obtain ⟨d2, hd, q1, q2, q3⟩ := hW; have hx : W.cell? ⟨B, 47, none⟩ = some (.int .i64 d2.dest) := hd.cell 47 rfl; rw [q1] at hx; go_simp⟩) ⟨_, hD0, rfl, rfl, rfl⟩ ?_
    try simp only [Act.put, List.setIfInBounds_toArray, List.set_cons_zero, List.set_cons_succ]
    refine wpAnyH_take (i := 4) (oi := ⟨some 7, _, _, _, _, _⟩) (v := .bool (d.dest == -1)) rfl (by kernel_rfl) (by kernel_rfl) (by kernel_rfl) (fun _ _ _ h => h) (.inl ⟨by rfl, fun W hW => by go_simp⟩) ⟨_, hD0, rfl, rfl, rfl⟩ ?_
    try simp only [Act.put, List.setIfInBounds_toArray, List.set_cons_zero, List.set_cons_succ]
    rw [c1]
    refine wpAnyH_take (i := 5) (oi := ⟨some 8, _, _, _, _, _⟩) (v := .bool true) rfl (by kernel_rfl) (by kernel_rfl) (by kernel_rfl) (fun _ _ _ h => h) (.inl ⟨by rfl, fun W hW => by go_simp⟩) ⟨_, hD0, rfl, rfl, rfl⟩ ?_
    try simp only [Act.put, List.setIfInBounds_toArray, List.set_cons_zero, List.set_cons_succ]
    refine wpAnyH_take (i := 6) (oi := ⟨some 9, _, _, _, _, _⟩) (v := undef) rfl (by kernel_rfl) (by kernel_rfl) (by kernel_rfl) (fun _ _ _ h => h) (.inr ⟨by rfl, rfl⟩) ⟨_, hD0, rfl, rfl, rfl⟩ ?_
    try simp only [Act.put, List.setIfInBounds_toArray, List.set_cons_zero, List.set_cons_succ]
    refine wpAnyH_take (i := 7) (oi := ⟨some 10, _, _, _, _, _⟩) (v := undef) rfl (by kernel_rfl) (by kernel_rfl) (by kernel_rfl) (fun _ _ _ h => h) (.inr ⟨by rfl, rfl⟩) ⟨_, hD0, rfl, rfl, rfl⟩ ?_
    try simp only [Act.put, List.setIfInBounds_toArray, List.set_cons_zero, List.set_cons_succ]
    refine wpAnyH_take (i := 8) (oi := ⟨some 11, _, _, _, _, _⟩) (v := undef) rfl (by kernel_rfl) (by kernel_rfl) (by kernel_rfl) (fun _ _ _ h => h) (.inr ⟨by rfl, rfl⟩) ⟨_, hD0, rfl, rfl, rfl⟩ ?_
    try simp only [Act.put, List.setIfInBounds_toArray, List.set_cons_zero, List.set_cons_succ]
    refine wpAnyH_take (i := 9) (oi := ⟨some 12, _, _, _, _, _⟩) (v := undef) rfl (by kernel_rfl) (by kernel_rfl) (by kernel_rfl) (fun _ _ _ h => h) (.inr ⟨by rfl, rfl⟩) ⟨_, hD0, rfl, rfl, rfl⟩ ?_
    try simp only [Act.put, List.setIfInBounds_toArray, List.set_cons_zero, List.set_cons_succ]
    refine wpAnyH_take (i := 10) (oi := ⟨some 13, _, _, _, _, _⟩) (v := undef) rfl (by kernel_rfl) (by kernel_rfl) (by kernel_rfl) (fun _ _ _ h => h) (.inr ⟨by rfl, rfl⟩) ⟨_, hD0, rfl, rfl, rfl⟩ ?_
    try simp only [Act.put, List.setIfInBounds_toArray, List.set_cons_zero, List.set_cons_succ]
    refine wpAnyH_take (i := 11) (oi := ⟨some 14, _, _, _, _, _⟩) (v := undef) rfl (by kernel_rfl) (by kernel_rfl) (by kernel_rfl) (fun _ _ _ h => h) (.inr ⟨by rfl, rfl⟩) ⟨_, hD0, rfl, rfl, rfl⟩ ?_
    try simp only [Act.put, List.setIfInBounds_toArray, List.set_cons_zero, List.set_cons_succ]
    refine wpAnyH_take (i := 12) (oi := ⟨some 15, _, _, _, _, _⟩) (v := undef) rfl (by kernel_rfl) (by kernel_rfl) (by kernel_rfl) (fun _ _ _ h => h) (.inr ⟨by rfl, rfl⟩) ⟨_, hD0, rfl, rfl, rfl⟩ ?_
    try simp only [Act.put, List.setIfInBounds_toArray, List.set_cons_zero, List.set_cons_succ]
    refine wpAnyH_take (i := 13) (oi := ⟨some 16, _, _, _, _, _⟩) (v := undef) rfl (by kernel_rfl) (by kernel_rfl) (by kernel_rfl) (fun _ _ _ h => h) (.inr ⟨by rfl, rfl⟩) ⟨_, hD0, rfl, rfl, rfl⟩ ?_
    try simp only [Act.put, List.setIfInBounds_toArray, List.set_cons_zero, List.set_cons_succ]
    refine wpAnyH_take (i := 14) (oi := ⟨some 17, _, _, _, _, _⟩) (v := undef) rfl (by kernel_rfl) (by kernel_rfl) (by kernel_rfl) (fun _ _ _ h => h) (.inr ⟨by rfl, rfl⟩) ⟨_, hD0, rfl, rfl, rfl⟩ ?_
    try simp only [Act.put, List.setIfInBounds_toArray, List.set_cons_zero, List.set_cons_succ]
    refine wpAnyH_take (i := 15) (oi := ⟨some 18, _, _, _, _, _⟩) (v := undef) rfl (by kernel_rfl) (by kernel_rfl) (by kernel_rfl) (fun _ _ _ h => h) (.inr ⟨by rfl, rfl⟩) ⟨_, hD0, rfl, rfl, rfl⟩ ?_
    try simp only [Act.put, List.setIfInBounds_toArray, List.set_cons_zero, List.set_cons_succ]
    refine wpAnyH_take (i := 16) (oi := ⟨some 19, _, _, _, _, _⟩) (v := .bool true) rfl (by kernel_rfl) (by kernel_rfl) (by kernel_rfl) (fun _ _ _ h => h) (.inl ⟨by rfl, fun W hW => by go_simp⟩) ⟨_, hD0, rfl, rfl, rfl⟩ ?_
    try simp only [Act.put, List.setIfInBounds_toArray, List.set_cons_zero, List.set_cons_succ]
    refine wpAnyH_done (by kernel_rfl) ?_ _
    try simp only [Act.put, List.setIfInBounds_toArray, List.set_cons_zero, List.set_cons_succ]
    have HD := Lib.hid hD0
    have HF := Lib.hid hF0
    go_wp2
    simp [bodyPost, results, Try.results34, go_sem]
    exact FT.out _ HD.out HF.out
  · have c1n := c1
    have c1 : (d.dest == -1) = false := by simp [c1]
    by_cases c2 : d.zo = d.inn
    · have c2n := c2
      have c2 : (d.zo != d.inn) = false := by simp [c2]
      have FT : ∀ w', DAt w' B (if is4I z.ah z.al == is4I d.op.sh d.op.sl then lookD { d with ou := { d.ou with sh := z.ah, sl := z.al } } 1024 65535 else d) → Off B w w' → M (.returned (.tuple #[])) w' := fun w' a b => by
        rw [hM]; exact ⟨_, rfl, by rw [hair_some c1n c2n hzo hz]; exact a, b⟩
      have FT := Lib.hid FT
      have hjn : j < d.c.zn := by have := getE hz; have := hc.z.len; omega
      obtain ⟨b, off, hA, hlb, hrow⟩ := hc.z.row (by omega)
      have hzb := hc.z.big
      have wz := hc.zw z (List.mem_of_getElem? hz)
      have hZC : ∀ W, Below w0.heap.size w0 W → W.cell? ⟨b, off + j * 4 + 1, none⟩ = some (.int .u64 z.ah) ∧ W.cell? ⟨b, off + j * 4 + 1 + 1, none⟩ = some (.int .u64 z.al) := fun W hW => ⟨keepc hW (hrow j z hz 1 _ rfl), keepc hW (hrow j z hz 2 _ rfl)⟩
      have hFb := Off.refl B w
      clear hM hrow c2n c1n
      go_enter Try.func34, Try.ntmps34
      go_upto_region 0 with fail
      refine wp_region_held_drew (S := fun W1 : World => ∃ d' : DR, DAt W1 B d' ∧ (d'.dest = d.dest ∧ d'.zo = d.zo ∧ d'.inn = d.inn)) (by kernel_rfl) ⟨_, h.bel (bel_dr (Below.refl _ _)), rfl, rfl, rfl⟩ (fun hH => ?_)
      clear hH
      have hD0 := h.bel (bel_dr (Below.refl _ _))
      have hF0 := (Off.refl B w).drew
      have bD0 : Below w.heap.size w w.drew := bel_dr (Below.refl _ _)
      obtain ⟨wd0, hwd⟩ : ∃ x, x = w.drew := ⟨_, rfl⟩
      rw [← hwd] at hD0 hF0 bD0 ⊢
      clear hwd
      refine wpAnyH_take (i := 0) (oi := ⟨some 3, _, _, _, _, _⟩) (v := .pointer (some ⟨B, 0, none⟩)) rfl (by kernel_rfl) (by kernel_rfl) (by kernel_rfl) (fun _ _ _ h => h) (.inl ⟨by rfl, fun W hW => by go_simp⟩) ⟨_, hD0, rfl, rfl, rfl⟩ ?_
      try simp only [Act.put, List.setIfInBounds_toArray, List.set_cons_zero, List.set_cons_succ]
      refine wpAnyH_take (i := 1) (oi := ⟨some 4, _, _, _, _, _⟩) (v := .pointer (some ⟨B, 0, none⟩)) rfl (by kernel_rfl) (by kernel_rfl) (by kernel_rfl) (fun _ _ _ h => h) (.inl ⟨by rfl, fun W hW => by go_simp⟩) ⟨_, hD0, rfl, rfl, rfl⟩ ?_
      try simp only [Act.put, List.setIfInBounds_toArray, List.set_cons_zero, List.set_cons_succ]
      refine wpAnyH_take (i := 2) (oi := ⟨some 5, _, _, _, _, _⟩) (v := .pointer (some ⟨B, 47, none⟩)) rfl (by kernel_rfl) (by kernel_rfl) (by kernel_rfl) (fun _ _ _ h => h) (.inl ⟨by rfl, fun W hW => by go_simp⟩) ⟨_, hD0, rfl, rfl, rfl⟩ ?_
      try simp only [Act.put, List.setIfInBounds_toArray, List.set_cons_zero, List.set_cons_succ]
      refine wpAnyH_take (i := 3) (oi := ⟨some 6, _, _, _, _, _⟩) (v := .int .i64 d.dest) rfl (by kernel_rfl) (by kernel_rfl) (by kernel_rfl) (fun _ _ _ h => h) (.inl ⟨by rfl, fun W hW => by obtain ⟨d2, hd, q1, q2, q3⟩ := hW; have hx : W.cell? ⟨B, 47, none⟩ = some (.int .i64 d2.dest) := hd.cell 47 rfl; rw [q1] at hx; go_simp⟩) ⟨_, hD0, rfl, rfl, rfl⟩ ?_
      try simp only [Act.put, List.setIfInBounds_toArray, List.set_cons_zero, List.set_cons_succ]
      refine wpAnyH_take (i := 4) (oi := ⟨some 7, _, _, _, _, _⟩) (v := .bool (d.dest == -1)) rfl (by kernel_rfl) (by kernel_rfl) (by kernel_rfl) (fun _ _ _ h => h) (.inl ⟨by rfl, fun W hW => by go_simp⟩) ⟨_, hD0, rfl, rfl, rfl⟩ ?_
      try simp only [Act.put, List.setIfInBounds_toArray, List.set_cons_zero, List.set_cons_succ]
      rw [c1]
      refine wpAnyH_take (i := 5) (oi := ⟨some 8, _, _, _, _, _⟩) (v := .bool false) rfl (by kernel_rfl) (by kernel_rfl) (by kernel_rfl) (fun _ _ _ h => h) (.inl ⟨by rfl, fun W hW => by go_simp⟩) ⟨_, hD0, rfl, rfl, rfl⟩ ?_
      try simp only [Act.put, List.setIfInBounds_toArray, List.set_cons_zero, List.set_cons_succ]
      refine wpAnyH_take (i := 6) (oi := ⟨some 9, _, _, _, _, _⟩) (v := .pointer (some ⟨B, 0, none⟩)) rfl (by kernel_rfl) (by kernel_rfl) (by kernel_rfl) (fun _ _ _ h => h) (.inl ⟨by rfl, fun W hW => by go_simp⟩) ⟨_, hD0, rfl, rfl, rfl⟩ ?_
      try simp only [Act.put, List.setIfInBounds_toArray, List.set_cons_zero, List.set_cons_succ]
      refine wpAnyH_take (i := 7) (oi := ⟨some 10, _, _, _, _, _⟩) (v := .pointer (some ⟨B, 0, none⟩)) rfl (by kernel_rfl) (by kernel_rfl) (by kernel_rfl) (fun _ _ _ h => h) (.inl ⟨by rfl, fun W hW => by go_simp⟩) ⟨_, hD0, rfl, rfl, rfl⟩ ?_
      try simp only [Act.put, List.setIfInBounds_toArray, List.set_cons_zero, List.set_cons_succ]
      refine wpAnyH_take (i := 8) (oi := ⟨some 11, _, _, _, _, _⟩) (v := .pointer (some ⟨B, 0, none⟩)) rfl (by kernel_rfl) (by kernel_rfl) (by kernel_rfl) (fun _ _ _ h => h) (.inl ⟨by rfl, fun W hW => by go_simp⟩) ⟨_, hD0, rfl, rfl, rfl⟩ ?_
      try simp only [Act.put, List.setIfInBounds_toArray, List.set_cons_zero, List.set_cons_succ]
      refine wpAnyH_take (i := 9) (oi := ⟨some 12, _, _, _, _, _⟩) (v := .pointer (some ⟨B, 36, none⟩)) rfl (by kernel_rfl) (by kernel_rfl) (by kernel_rfl) (fun _ _ _ h => h) (.inl ⟨by rfl, fun W hW => by go_simp⟩) ⟨_, hD0, rfl, rfl, rfl⟩ ?_
      try simp only [Act.put, List.setIfInBounds_toArray, List.set_cons_zero, List.set_cons_succ]
      refine wpAnyH_take (i := 10) (oi := ⟨some 13, _, _, _, _, _⟩) (v := .int .i64 d.zo) rfl (by kernel_rfl) (by kernel_rfl) (by kernel_rfl) (fun _ _ _ h => h) (.inl ⟨by rfl, fun W hW => by obtain ⟨d2, hd, q1, q2, q3⟩ := hW; have hx : W.cell? ⟨B, 36, none⟩ = some (.int .i64 d2.zo) := hd.cell 36 rfl; rw [q2] at hx; go_simp⟩) ⟨_, hD0, rfl, rfl, rfl⟩ ?_
      try simp only [Act.put, List.setIfInBounds_toArray, List.set_cons_zero, List.set_cons_succ]
      refine wpAnyH_take (i := 11) (oi := ⟨some 14, _, _, _, _, _⟩) (v := .pointer (some ⟨B, 0, none⟩)) rfl (by kernel_rfl) (by kernel_rfl) (by kernel_rfl) (fun _ _ _ h => h) (.inl ⟨by rfl, fun W hW => by go_simp⟩) ⟨_, hD0, rfl, rfl, rfl⟩ ?_
      try simp only [Act.put, List.setIfInBounds_toArray, List.set_cons_zero, List.set_cons_succ]
      refine wpAnyH_take (i := 12) (oi := ⟨some 15, _, _, _, _, _⟩) (v := .pointer (some ⟨B, 0, none⟩)) rfl (by kernel_rfl) (by kernel_rfl) (by kernel_rfl) (fun _ _ _ h => h) (.inl ⟨by rfl, fun W hW => by go_simp⟩) ⟨_, hD0, rfl, rfl, rfl⟩ ?_
      try simp only [Act.put, List.setIfInBounds_toArray, List.set_cons_zero, List.set_cons_succ]
      refine wpAnyH_take (i := 13) (oi := ⟨some 16, _, _, _, _, _⟩) (v := .pointer (some ⟨B, 45, none⟩)) rfl (by kernel_rfl) (by kernel_rfl) (by kernel_rfl) (fun _ _ _ h => h) (.inl ⟨by rfl, fun W hW => by go_simp⟩) ⟨_, hD0, rfl, rfl, rfl⟩ ?_
      try simp only [Act.put, List.setIfInBounds_toArray, List.set_cons_zero, List.set_cons_succ]
      refine wpAnyH_take (i := 14) (oi := ⟨some 17, _, _, _, _, _⟩) (v := .int .i64 d.inn) rfl (by kernel_rfl) (by kernel_rfl) (by kernel_rfl) (fun _ _ _ h => h) (.inl ⟨by rfl, fun W hW => by obtain ⟨d2, hd, q1, q2, q3⟩ := hW; have hx : W.cell? ⟨B, 45, none⟩ = some (.int .i64 d2.inn) := hd.cell 45 rfl; rw [q3] at hx; go_simp⟩) ⟨_, hD0, rfl, rfl, rfl⟩ ?_
      try simp only [Act.put, List.setIfInBounds_toArray, List.set_cons_zero, List.set_cons_succ]
      refine wpAnyH_take (i := 15) (oi := ⟨some 18, _, _, _, _, _⟩) (v := .bool (d.zo != d.inn)) rfl (by kernel_rfl) (by kernel_rfl) (by kernel_rfl) (fun _ _ _ h => h) (.inl ⟨by rfl, fun W hW => by go_simp⟩) ⟨_, hD0, rfl, rfl, rfl⟩ ?_
      try simp only [Act.put, List.setIfInBounds_toArray, List.set_cons_zero, List.set_cons_succ]
      rw [c2]
      refine wpAnyH_take (i := 16) (oi := ⟨some 19, _, _, _, _, _⟩) (v := .bool false) rfl (by kernel_rfl) (by kernel_rfl) (by kernel_rfl) (fun _ _ _ h => h) (.inl ⟨by rfl, fun W hW => by go_simp⟩) ⟨_, hD0, rfl, rfl, rfl⟩ ?_
      try simp only [Act.put, List.setIfInBounds_toArray, List.set_cons_zero, List.set_cons_succ]
      refine wpAnyH_done (by kernel_rfl) ?_ _
      try simp only [Act.put, List.setIfInBounds_toArray, List.set_cons_zero, List.set_cons_succ]
      go_wp2_with fail
      clear hFb
      obtain ⟨wb, hwb⟩ : ∃ x, x = wd0 := ⟨_, rfl⟩
      rw [← hwb] at hD0 hF0 ⊢
      have hDb := hD0
      have hFb := hF0
      clear hwb hD0 hF0 bD0 c1 c2
      refine wp_region_held_drew (S := fun W1 : World => ∃ d' : DR, DAt W1 B d' ∧ (d'.c = d.c ∧ d'.zo = d.zo ∧ W1.cell? ⟨b, off + j * 4 + 1, none⟩ = some (.int .u64 z.ah) ∧ W1.cell? ⟨b, off + j * 4 + 1 + 1, none⟩ = some (.int .u64 z.al))) (by kernel_rfl) ⟨_, hDb.bel (bel_dr (Below.refl _ _)), rfl, rfl, hZC _ (hb.trans (hFb.drew.toBelow hB hb.size))⟩ (fun hH => ?_)
      clear hH
      have hD0 := hDb.bel (bel_dr (Below.refl _ _))
      have hF0 := hFb.drew
      have bD0 : Below wb.heap.size wb wb.drew := bel_dr (Below.refl _ _)
      obtain ⟨wd0, hwd⟩ : ∃ x, x = wb.drew := ⟨_, rfl⟩
      rw [← hwd] at hD0 hF0 bD0 ⊢
      clear hwd
      refine wpAnyH_take (i := 0) (oi := ⟨some 20, _, _, _, _, _⟩) (v := .pointer (some ⟨B, 0, none⟩)) rfl (by kernel_rfl) (by kernel_rfl) (by kernel_rfl) (fun _ _ _ h => h) (.inl ⟨by rfl, fun W hW => by go_simp⟩) ⟨_, hD0, rfl, rfl, hZC _ (hb.trans (hF0.toBelow hB hb.size))⟩ ?_
      try simp only [Act.put, List.setIfInBounds_toArray, List.set_cons_zero, List.set_cons_succ]
      refine wpAnyH_take (i := 1) (oi := ⟨some 21, _, _, _, _, _⟩) (v := .pointer (some ⟨B, 0, none⟩)) rfl (by kernel_rfl) (by kernel_rfl) (by kernel_rfl) (fun _ _ _ h => h) (.inl ⟨by rfl, fun W hW => by go_simp⟩) ⟨_, hD0, rfl, rfl, hZC _ (hb.trans (hF0.toBelow hB hb.size))⟩ ?_
      try simp only [Act.put, List.setIfInBounds_toArray, List.set_cons_zero, List.set_cons_succ]
      refine wpAnyH_take (i := 2) (oi := ⟨some 22, _, _, _, _, _⟩) (v := .pointer (some ⟨B, 37, none⟩)) rfl (by kernel_rfl) (by kernel_rfl) (by kernel_rfl) (fun _ _ _ h => h) (.inl ⟨by rfl, fun W hW => by go_simp⟩) ⟨_, hD0, rfl, rfl, hZC _ (hb.trans (hF0.toBelow hB hb.size))⟩ ?_
      try simp only [Act.put, List.setIfInBounds_toArray, List.set_cons_zero, List.set_cons_succ]
      refine wpAnyH_take (i := 3) (oi := ⟨some 23, _, _, _, _, _⟩) (v := .pointer (some ⟨B, 37, none⟩)) rfl (by kernel_rfl) (by kernel_rfl) (by kernel_rfl) (fun _ _ _ h => h) (.inl ⟨by rfl, fun W hW => by go_simp⟩) ⟨_, hD0, rfl, rfl, hZC _ (hb.trans (hF0.toBelow hB hb.size))⟩ ?_
      try simp only [Act.put, List.setIfInBounds_toArray, List.set_cons_zero, List.set_cons_succ]
      refine wpAnyH_take (i := 4) (oi := ⟨some 24, _, _, _, _, _⟩) (v := .slice (some ⟨b, off, none⟩) d.c.zn d.c.zc) rfl (by kernel_rfl) (by kernel_rfl) (by kernel_rfl) (fun _ _ _ h => h) (.inl ⟨by rfl, fun W hW => by obtain ⟨d2, hd, q1, q2, q3⟩ := hW; have hx : W.cell? ⟨B, 37, none⟩ = some (.slice d2.c.zA d2.c.zn d2.c.zc) := hd.cell 37 rfl; rw [q1, hA] at hx; go_simp⟩) ⟨_, hD0, rfl, rfl, hZC _ (hb.trans (hF0.toBelow hB hb.size))⟩ ?_
      try simp only [Act.put, List.setIfInBounds_toArray, List.set_cons_zero, List.set_cons_succ]
      refine wpAnyH_take (i := 5) (oi := ⟨some 25, _, _, _, _, _⟩) (v := .pointer (some ⟨B, 0, none⟩)) rfl (by kernel_rfl) (by kernel_rfl) (by kernel_rfl) (fun _ _ _ h => h) (.inl ⟨by rfl, fun W hW => by go_simp⟩) ⟨_, hD0, rfl, rfl, hZC _ (hb.trans (hF0.toBelow hB hb.size))⟩ ?_
      try simp only [Act.put, List.setIfInBounds_toArray, List.set_cons_zero, List.set_cons_succ]
      refine wpAnyH_take (i := 6) (oi := ⟨some 26, _, _, _, _, _⟩) (v := .pointer (some ⟨B, 0, none⟩)) rfl (by kernel_rfl) (by kernel_rfl) (by kernel_rfl) (fun _ _ _ h => h) (.inl ⟨by rfl, fun W hW => by go_simp⟩) ⟨_, hD0, rfl, rfl, hZC _ (hb.trans (hF0.toBelow hB hb.size))⟩ ?_
      try simp only [Act.put, List.setIfInBounds_toArray, List.set_cons_zero, List.set_cons_succ]
      refine wpAnyH_take (i := 7) (oi := ⟨some 27, _, _, _, _, _⟩) (v := .pointer (some ⟨B, 0, none⟩)) rfl (by kernel_rfl) (by kernel_rfl) (by kernel_rfl) (fun _ _ _ h => h) (.inl ⟨by rfl, fun W hW => by go_simp⟩) ⟨_, hD0, rfl, rfl, hZC _ (hb.trans (hF0.toBelow hB hb.size))⟩ ?_
      try simp only [Act.put, List.setIfInBounds_toArray, List.set_cons_zero, List.set_cons_succ]
      refine wpAnyH_take (i := 8) (oi := ⟨some 28, _, _, _, _, _⟩) (v := .pointer (some ⟨B, 36, none⟩)) rfl (by kernel_rfl) (by kernel_rfl) (by kernel_rfl) (fun _ _ _ h => h) (.inl ⟨by rfl, fun W hW => by go_simp⟩) ⟨_, hD0, rfl, rfl, hZC _ (hb.trans (hF0.toBelow hB hb.size))⟩ ?_
      try simp only [Act.put, List.setIfInBounds_toArray, List.set_cons_zero, List.set_cons_succ]
      refine wpAnyH_take (i := 9) (oi := ⟨some 29, _, _, _, _, _⟩) (v := .int .i64 j) rfl (by kernel_rfl) (by kernel_rfl) (by kernel_rfl) (fun _ _ _ h => h) (.inl ⟨by rfl, fun W hW => by obtain ⟨d2, hd, q1, q2, q3⟩ := hW; have hx : W.cell? ⟨B, 36, none⟩ = some (.int .i64 d2.zo) := hd.cell 36 rfl; rw [q2, hzo] at hx; go_simp⟩) ⟨_, hD0, rfl, rfl, hZC _ (hb.trans (hF0.toBelow hB hb.size))⟩ ?_
      try simp only [Act.put, List.setIfInBounds_toArray, List.set_cons_zero, List.set_cons_succ]
      refine wpAnyH_take (i := 10) (oi := ⟨some 30, _, _, _, _, _⟩) (v := .pointer (some ⟨b, off + j * 4, none⟩)) rfl (by kernel_rfl) (by kernel_rfl) (by kernel_rfl) (fun _ _ _ h => h) (.inl ⟨by rfl, fun W hW => by go_simp⟩) ⟨_, hD0, rfl, rfl, hZC _ (hb.trans (hF0.toBelow hB hb.size))⟩ ?_
      try simp only [Act.put, List.setIfInBounds_toArray, List.set_cons_zero, List.set_cons_succ]
      refine wpAnyH_take (i := 11) (oi := ⟨some 31, _, _, _, _, _⟩) (v := .pointer (some ⟨b, off + j * 4 + 1, none⟩)) rfl (by kernel_rfl) (by kernel_rfl) (by kernel_rfl) (fun _ _ _ h => h) (.inl ⟨by rfl, fun W hW => by go_simp⟩) ⟨_, hD0, rfl, rfl, hZC _ (hb.trans (hF0.toBelow hB hb.size))⟩ ?_
      try simp only [Act.put, List.setIfInBounds_toArray, List.set_cons_zero, List.set_cons_succ]
      refine wpAnyH_take (i := 12) (oi := ⟨some 32, _, _, _, _, _⟩) (v := .agg #[.int .u64 z.ah, .int .u64 z.al]) rfl (by kernel_rfl) (by kernel_rfl) (by kernel_rfl) (fun _ _ _ h => h) (.inl ⟨by rfl, fun W hW => by obtain ⟨d2, hd, q1, q2, q3, q4⟩ := hW; go_simp⟩) ⟨_, hD0, rfl, rfl, hZC _ (hb.trans (hF0.toBelow hB hb.size))⟩ ?_
      try simp only [Act.put, List.setIfInBounds_toArray, List.set_cons_zero, List.set_cons_succ]
      refine wpAnyH_ready (rs := [13]) (by kernel_rfl) (by simp) ?_
      refine AllReadyH.cons (o := ⟨some 2, _, _, _, _, _⟩) rfl (fun K hK => ?_) AllReadyH.nil
      refine step_alloc rfl 33 rfl #[.int .u64 0, .int .u64 0] zeroA (fun wd1 gS hZ bC1 hGd => ?_)
      have hD1 := hD0.bel bC1
      have hF1 := hF0.trans (off_bel bC1)
      refine hK.out _ _ ⟨_, hD1, rfl, rfl, hZC _ (hb.trans (hF1.toBelow hB hb.size))⟩ (fun _ => ?_)
      clear hK K
      try simp only [Act.put, List.setIfInBounds_toArray, List.set_cons_zero, List.set_cons_succ]
      refine wpAnyH_ready (rs := [14]) (by kernel_rfl) (by simp) ?_
      refine AllReadyH.cons (o := ⟨none, _, _, _, _, _⟩) rfl (fun K hK => ?_) AllReadyH.nil
      refine step_store_mid rfl 33 (.tmp 2) (.tmp 32) rfl gS 0 (#[.int .u64 z.ah, .int .u64 z.al]) rfl rfl (there_of hZ (by simp)) (by kernel_rfl) (by simp [Value.oneCell']) ?_
      have hgB : gS ≠ B := by have := hD0.lt; omega
      have hD2 := hD1.other hgB 0 (#[.int .u64 z.ah, .int .u64 z.al]).toList
      have hF2 := hF1.fresh (Nat.le_trans hF0.size hGd) 0 (#[.int .u64 z.ah, .int .u64 z.al]).toList
      have hG := setCells_heap (#[.int .u64 z.ah, .int .u64 z.al]).toList 0 hZ
      refine hK.out _ _ ⟨_, hD2, rfl, rfl, hZC _ (hb.trans (hF2.toBelow hB hb.size))⟩ (fun _ => ?_)
      clear hK K
      try simp only [Act.put, List.setIfInBounds_toArray, List.set_cons_zero, List.set_cons_succ]
      refine wpAnyH_done (by kernel_rfl) ?_ _
      try simp only [Act.put, List.setIfInBounds_toArray, List.set_cons_zero, List.set_cons_succ]
      go_wp2_with fail
      obtain ⟨wc, hwc⟩ : ∃ x, x = wd1.setCells gS 0 (#[Value.int .u64 z.ah, Value.int .u64 z.al]).toList := ⟨_, rfl⟩
      have hDc : DAt wc B d := by rw [hwc]; exact hD2
      have hFc : Off B w wc := by rw [hwc]; exact hF2
      have hGc : wc.heap[gS]? = some (.cells #[.int .u64 z.ah, .int .u64 z.al] 33 (0, 0)) := by rw [hwc]; exact hG
      have hgS : gS ≠ B := hgB
      change Code.wp _ _ _ _ (wd1.setCells gS 0 (#[Value.int .u64 z.ah, Value.int .u64 z.al]).toList)
      rw [← hwc]
      clear hwc hD0 hD1 hD2 hF0 hF1 hF2 hG hGd hZ bC1 hgB hDb hFb bD0 hZC
      refine wp_region_held_drew (S := fun W1 : World => ∃ d' : DR, DAt W1 B d' ∧ (d'.op = d.op ∧ W1.heap[gS]? = some (.cells #[.int .u64 z.ah, .int .u64 z.al] 33 (0, 0)))) (by kernel_rfl) ⟨_, hDc.bel (bel_dr (Below.refl _ _)), rfl, hGc⟩ (fun hH => ?_)
      clear hH
      have hD0 := hDc.bel (bel_dr (Below.refl _ _))
      have hF0 := hFc.drew
      have bD0 : Below wc.heap.size wc wc.drew := bel_dr (Below.refl _ _)
      have hG0 : wc.drew.heap[gS]? = some (.cells #[.int .u64 z.ah, .int .u64 z.al] 33 (0, 0)) := hGc
      obtain ⟨wd0, hwd⟩ : ∃ x, x = wc.drew := ⟨_, rfl⟩
      rw [← hwd] at hD0 hF0 bD0 hG0 ⊢
      clear hwd
      refine wpAnyH_take (i := 0) (oi := ⟨some 33, _, _, _, _, _⟩) (v := .agg #[.int .u64 z.ah, .int .u64 z.al]) rfl (by kernel_rfl) (by kernel_rfl) (by kernel_rfl) (fun _ _ _ h => h) (.inl ⟨by rfl, fun W hW => by obtain ⟨d2, hd, q1, q2⟩ := hW; obtain ⟨y0, y1, _, _⟩ := cells2 q2; go_simp⟩) ⟨_, hD0, rfl, hG0⟩ ?_
      try simp only [Act.put, List.setIfInBounds_toArray, List.set_cons_zero, List.set_cons_succ]
      refine wpAnyH_take (i := 2) (oi := ⟨some 35, _, _, _, _, _⟩) (v := .pointer (some ⟨B, 0, none⟩)) rfl (by kernel_rfl) (by kernel_rfl) (by kernel_rfl) (fun _ _ _ h => h) (.inl ⟨by rfl, fun W hW => by go_simp⟩) ⟨_, hD0, rfl, hG0⟩ ?_
      try simp only [Act.put, List.setIfInBounds_toArray, List.set_cons_zero, List.set_cons_succ]
      refine wpAnyH_take (i := 3) (oi := ⟨some 36, _, _, _, _, _⟩) (v := .pointer (some ⟨B, 0, none⟩)) rfl (by kernel_rfl) (by kernel_rfl) (by kernel_rfl) (fun _ _ _ h => h) (.inl ⟨by rfl, fun W hW => by go_simp⟩) ⟨_, hD0, rfl, hG0⟩ ?_
      try simp only [Act.put, List.setIfInBounds_toArray, List.set_cons_zero, List.set_cons_succ]
      refine wpAnyH_take (i := 4) (oi := ⟨some 37, _, _, _, _, _⟩) (v := .pointer (some ⟨B, 0, none⟩)) rfl (by kernel_rfl) (by kernel_rfl) (by kernel_rfl) (fun _ _ _ h => h) (.inl ⟨by rfl, fun W hW => by go_simp⟩) ⟨_, hD0, rfl, hG0⟩ ?_
      try simp only [Act.put, List.setIfInBounds_toArray, List.set_cons_zero, List.set_cons_succ]
      refine wpAnyH_take (i := 5) (oi := ⟨some 38, _, _, _, _, _⟩) (v := .pointer (some ⟨B, 7, none⟩)) rfl (by kernel_rfl) (by kernel_rfl) (by kernel_rfl) (fun _ _ _ h => h) (.inl ⟨by rfl, fun W hW => by go_simp⟩) ⟨_, hD0, rfl, hG0⟩ ?_
      try simp only [Act.put, List.setIfInBounds_toArray, List.set_cons_zero, List.set_cons_succ]
      refine wpAnyH_take (i := 6) (oi := ⟨some 39, _, _, _, _, _⟩) (v := .pointer (some ⟨B, 8, none⟩)) rfl (by kernel_rfl) (by kernel_rfl) (by kernel_rfl) (fun _ _ _ h => h) (.inl ⟨by rfl, fun W hW => by go_simp⟩) ⟨_, hD0, rfl, hG0⟩ ?_
      try simp only [Act.put, List.setIfInBounds_toArray, List.set_cons_zero, List.set_cons_succ]
      refine wpAnyH_take (i := 7) (oi := ⟨some 40, _, _, _, _, _⟩) (v := .agg #[.int .u64 d.op.sh, .int .u64 d.op.sl]) rfl (by kernel_rfl) (by kernel_rfl) (by kernel_rfl) (fun _ _ _ h => h) (.inl ⟨by rfl, fun W hW => by obtain ⟨d2, hd, q1, q2⟩ := hW; have y0 : W.cell? ⟨B, 8, none⟩ = some (.int .u64 d2.op.sh) := hd.cell 8 rfl; have y1 : W.cell? ⟨B, 9, none⟩ = some (.int .u64 d2.op.sl) := hd.cell 9 rfl; rw [q1] at y0 y1; go_simp⟩) ⟨_, hD0, rfl, hG0⟩ ?_
      try simp only [Act.put, List.setIfInBounds_toArray, List.set_cons_zero, List.set_cons_succ]
      refine wpAnyH_ready (rs := [1]) (by kernel_rfl) (by simp) ?_
      refine AllReadyH.cons (o := ⟨some 34, _, _, _, _, _⟩) rfl (fun K hK => ?_) AllReadyH.nil
      go_simp
      go_at_call 52
      ((with_reducible refine (is4_any z.ah z.al wz.1 wz.2 _).mono ?_); rintro e wd1 ⟨rfl, bC1⟩)
      have hD1 := hD0.bel bC1
      have hF1 := hF0.trans (off_bel bC1)
      have hG1 := kb bC1 hG0
      refine hK.out _ _ ⟨_, hD1, rfl, hG1⟩ (fun _ => ?_)
      clear hK K
      try simp only [Act.put, List.setIfInBounds_toArray, List.set_cons_zero, List.set_cons_succ]
      refine wpAnyH_ready (rs := [8]) (by kernel_rfl) (by simp) ?_
      refine AllReadyH.cons (o := ⟨some 41, _, _, _, _, _⟩) rfl (fun K hK => ?_) AllReadyH.nil
      go_simp
      go_at_call 52
      ((with_reducible refine (is4_any d.op.sh d.op.sl wo.1 wo.2 _).mono ?_); rintro e wd2 ⟨rfl, bC2⟩)
      have hD2 := hD1.bel bC2
      have hF2 := hF1.trans (off_bel bC2)
      have hG2 := kb bC2 hG1
      refine hK.out _ _ ⟨_, hD2, rfl, hG2⟩ (fun _ => ?_)
      clear hK K
      try simp only [Act.put, List.setIfInBounds_toArray, List.set_cons_zero, List.set_cons_succ]
      refine wpAnyH_take (i := 9) (oi := ⟨some 42, _, _, _, _, _⟩) (v := .bool (is4I z.ah z.al == is4I d.op.sh d.op.sl)) rfl (by kernel_rfl) (by kernel_rfl) (by kernel_rfl) (fun _ _ _ h => h) (.inl ⟨by rfl, fun W hW => by go_simp⟩) ⟨_, hD2, rfl, hG2⟩ ?_
      try simp only [Act.put, List.setIfInBounds_toArray, List.set_cons_zero, List.set_cons_succ]
      refine wpAnyH_done (by kernel_rfl) ?_ _
      try simp only [Act.put, List.setIfInBounds_toArray, List.set_cons_zero, List.set_cons_succ]
      obtain ⟨x, hx⟩ : ∃ x, x = (is4I z.ah z.al == is4I d.op.sh d.op.sl) := ⟨_, rfl⟩
      rw [← hx] at FT ⊢
      clear hx
      obtain ⟨y0, y1, _, _⟩ := cells2 hG2
      have HD := Lib.hid hD2
      have HF := Lib.hid hF2
      have HG := Lib.hid hG2
      cases x
      · go_wp2
        simp [bodyPost, results, Try.results34, go_sem]
        exact FT.out _ (by simpa using HD.out) HF.out
      · have HT := Lib.hid (HD.out.there (o := 15) (n := 2) (by omega))
        have hDe := HD.out.set_ous z.ah z.al
        have hFe := HF.out.trans (setCells_off (#[Value.int .u64 z.ah, Value.int .u64 z.al]).toList 15 wd2 B)
        have HC := Lib.hid (And.intro hDe hFe)
        clear hDe hFe hD2 hF2 hG2 hD1 hD0 hF1 hF0 hG1 hG0
        go_upto_region 4 with ((with_reducible refine stop_op (o := ⟨none, .store 33 (.tmp 48) (.tmp 44), _, _, _, _⟩) ?_); refine Lib.hid ?_; refine wpList_store_mid rfl 33 (.tmp 48) (.tmp 44) rfl B 15 #[.int .u64 z.ah, .int .u64 z.al] rfl rfl HT.out (by kernel_rfl) (by simp [Value.oneCell']) ?_)
        obtain ⟨we, hwe⟩ : ∃ x, x = wd2.setCells B 15 (#[Value.int .u64 z.ah, Value.int .u64 z.al]).toList := ⟨_, rfl⟩
        rw [← hwe] at HC ⊢
        have cL := look_any _ B 1024 65535 HC.out.1
        unfold LPost at cL
        clear hwe
        go_wp2_with (go_at_call 35; ((with_reducible refine cL.mono ?_); rintro e wf ⟨v, rfl, hDf, hFf⟩))
        simp [bodyPost, results, Try.results34, go_sem]
        exact FT.out _ (by simpa using hDf) (HC.out.2.trans hFf)
    · have c2 : (d.zo != d.inn) = true := by simp [c2]
      have FT : ∀ w', DAt w' B d → Off B w w' → M (.returned (.tuple #[])) w' := fun w' a b => by
        rw [hM]; exact ⟨_, rfl, by unfold hairD; rw [if_pos (.inr (by simpa using c2))]; exact a, b⟩
      have FT := Lib.hid FT
      clear hM
      go_enter Try.func34, Try.ntmps34
      go_upto_region 0 with fail
      refine wp_region_held_drew (S := fun W1 : World => ∃ d' : DR, DAt W1 B d' ∧ (d'.dest = d.dest ∧ d'.zo = d.zo ∧ d'.inn = d.inn)) (by kernel_rfl) ⟨_, h.bel (bel_dr (Below.refl _ _)), rfl, rfl, rfl⟩ (fun hH => ?_)
      clear hH
      have hD0 := h.bel (bel_dr (Below.refl _ _))
      have hF0 := (Off.refl B w).drew
      have bD0 : Below w.heap.size w w.drew := bel_dr (Below.refl _ _)
      obtain ⟨wd0, hwd⟩ : ∃ x, x = w.drew := ⟨_, rfl⟩
      rw [← hwd] at hD0 hF0 bD0 ⊢
      clear hwd
      refine wpAnyH_take (i := 0) (oi := ⟨some 3, _, _, _, _, _⟩) (v := .pointer (some ⟨B, 0, none⟩)) rfl (by kernel_rfl) (by kernel_rfl) (by kernel_rfl) (fun _ _ _ h => h) (.inl ⟨by rfl, fun W hW => by go_simp⟩) ⟨_, hD0, rfl, rfl, rfl⟩ ?_
      try simp only [Act.put, List.setIfInBounds_toArray, List.set_cons_zero, List.set_cons_succ]
      refine wpAnyH_take (i := 1) (oi := ⟨some 4, _, _, _, _, _⟩) (v := .pointer (some ⟨B, 0, none⟩)) rfl (by kernel_rfl) (by kernel_rfl) (by kernel_rfl) (fun _ _ _ h => h) (.inl ⟨by rfl, fun W hW => by go_simp⟩) ⟨_, hD0, rfl, rfl, rfl⟩ ?_
      try simp only [Act.put, List.setIfInBounds_toArray, List.set_cons_zero, List.set_cons_succ]
      refine wpAnyH_take (i := 2) (oi := ⟨some 5, _, _, _, _, _⟩) (v := .pointer (some ⟨B, 47, none⟩)) rfl (by kernel_rfl) (by kernel_rfl) (by kernel_rfl) (fun _ _ _ h => h) (.inl ⟨by rfl, fun W hW => by go_simp⟩) ⟨_, hD0, rfl, rfl, rfl⟩ ?_
      try simp only [Act.put, List.setIfInBounds_toArray, List.set_cons_zero, List.set_cons_succ]
      refine wpAnyH_take (i := 3) (oi := ⟨some 6, _, _, _, _, _⟩) (v := .int .i64 d.dest) rfl (by kernel_rfl) (by kernel_rfl) (by kernel_rfl) (fun _ _ _ h => h) (.inl ⟨by rfl, fun W hW => by obtain ⟨d2, hd, q1, q2, q3⟩ := hW; have hx : W.cell? ⟨B, 47, none⟩ = some (.int .i64 d2.dest) := hd.cell 47 rfl; rw [q1] at hx; go_simp⟩) ⟨_, hD0, rfl, rfl, rfl⟩ ?_
      try simp only [Act.put, List.setIfInBounds_toArray, List.set_cons_zero, List.set_cons_succ]
      refine wpAnyH_take (i := 4) (oi := ⟨some 7, _, _, _, _, _⟩) (v := .bool (d.dest == -1)) rfl (by kernel_rfl) (by kernel_rfl) (by kernel_rfl) (fun _ _ _ h => h) (.inl ⟨by rfl, fun W hW => by go_simp⟩) ⟨_, hD0, rfl, rfl, rfl⟩ ?_
      try simp only [Act.put, List.setIfInBounds_toArray, List.set_cons_zero, List.set_cons_succ]
      rw [c1]
      refine wpAnyH_take (i := 5) (oi := ⟨some 8, _, _, _, _, _⟩) (v := .bool false) rfl (by kernel_rfl) (by kernel_rfl) (by kernel_rfl) (fun _ _ _ h => h) (.inl ⟨by rfl, fun W hW => by go_simp⟩) ⟨_, hD0, rfl, rfl, rfl⟩ ?_
      try simp only [Act.put, List.setIfInBounds_toArray, List.set_cons_zero, List.set_cons_succ]
      refine wpAnyH_take (i := 6) (oi := ⟨some 9, _, _, _, _, _⟩) (v := .pointer (some ⟨B, 0, none⟩)) rfl (by kernel_rfl) (by kernel_rfl) (by kernel_rfl) (fun _ _ _ h => h) (.inl ⟨by rfl, fun W hW => by go_simp⟩) ⟨_, hD0, rfl, rfl, rfl⟩ ?_
      try simp only [Act.put, List.setIfInBounds_toArray, List.set_cons_zero, List.set_cons_succ]
      refine wpAnyH_take (i := 7) (oi := ⟨some 10, _, _, _, _, _⟩) (v := .pointer (some ⟨B, 0, none⟩)) rfl (by kernel_rfl) (by kernel_rfl) (by kernel_rfl) (fun _ _ _ h => h) (.inl ⟨by rfl, fun W hW => by go_simp⟩) ⟨_, hD0, rfl, rfl, rfl⟩ ?_
      try simp only [Act.put, List.setIfInBounds_toArray, List.set_cons_zero, List.set_cons_succ]
      refine wpAnyH_take (i := 8) (oi := ⟨some 11, _, _, _, _, _⟩) (v := .pointer (some ⟨B, 0, none⟩)) rfl (by kernel_rfl) (by kernel_rfl) (by kernel_rfl) (fun _ _ _ h => h) (.inl ⟨by rfl, fun W hW => by go_simp⟩) ⟨_, hD0, rfl, rfl, rfl⟩ ?_
      try simp only [Act.put, List.setIfInBounds_toArray, List.set_cons_zero, List.set_cons_succ]
      refine wpAnyH_take (i := 9) (oi := ⟨some 12, _, _, _, _, _⟩) (v := .pointer (some ⟨B, 36, none⟩)) rfl (by kernel_rfl) (by kernel_rfl) (by kernel_rfl) (fun _ _ _ h => h) (.inl ⟨by rfl, fun W hW => by go_simp⟩) ⟨_, hD0, rfl, rfl, rfl⟩ ?_
      try simp only [Act.put, List.setIfInBounds_toArray, List.set_cons_zero, List.set_cons_succ]
      refine wpAnyH_take (i := 10) (oi := ⟨some 13, _, _, _, _, _⟩) (v := .int .i64 d.zo) rfl (by kernel_rfl) (by kernel_rfl) (by kernel_rfl) (fun _ _ _ h => h) (.inl ⟨by rfl, fun W hW => by obtain ⟨d2, hd, q1, q2, q3⟩ := hW; have hx : W.cell? ⟨B, 36, none⟩ = some (.int .i64 d2.zo) := hd.cell 36 rfl; rw [q2] at hx; go_simp⟩) ⟨_, hD0, rfl, rfl, rfl⟩ ?_
      try simp only [Act.put, List.setIfInBounds_toArray, List.set_cons_zero, List.set_cons_succ]
      refine wpAnyH_take (i := 11) (oi := ⟨some 14, _, _, _, _, _⟩) (v := .pointer (some ⟨B, 0, none⟩)) rfl (by kernel_rfl) (by kernel_rfl) (by kernel_rfl) (fun _ _ _ h => h) (.inl ⟨by rfl, fun W hW => by go_simp⟩) ⟨_, hD0, rfl, rfl, rfl⟩ ?_
      try simp only [Act.put, List.setIfInBounds_toArray, List.set_cons_zero, List.set_cons_succ]
      refine wpAnyH_take (i := 12) (oi := ⟨some 15, _, _, _, _, _⟩) (v := .pointer (some ⟨B, 0, none⟩)) rfl (by kernel_rfl) (by kernel_rfl) (by kernel_rfl) (fun _ _ _ h => h) (.inl ⟨by rfl, fun W hW => by go_simp⟩) ⟨_, hD0, rfl, rfl, rfl⟩ ?_
      try simp only [Act.put, List.setIfInBounds_toArray, List.set_cons_zero, List.set_cons_succ]
      refine wpAnyH_take (i := 13) (oi := ⟨some 16, _, _, _, _, _⟩) (v := .pointer (some ⟨B, 45, none⟩)) rfl (by kernel_rfl) (by kernel_rfl) (by kernel_rfl) (fun _ _ _ h => h) (.inl ⟨by rfl, fun W hW => by go_simp⟩) ⟨_, hD0, rfl, rfl, rfl⟩ ?_
      try simp only [Act.put, List.setIfInBounds_toArray, List.set_cons_zero, List.set_cons_succ]
      refine wpAnyH_take (i := 14) (oi := ⟨some 17, _, _, _, _, _⟩) (v := .int .i64 d.inn) rfl (by kernel_rfl) (by kernel_rfl) (by kernel_rfl) (fun _ _ _ h => h) (.inl ⟨by rfl, fun W hW => by obtain ⟨d2, hd, q1, q2, q3⟩ := hW; have hx : W.cell? ⟨B, 45, none⟩ = some (.int .i64 d2.inn) := hd.cell 45 rfl; rw [q3] at hx; go_simp⟩) ⟨_, hD0, rfl, rfl, rfl⟩ ?_
      try simp only [Act.put, List.setIfInBounds_toArray, List.set_cons_zero, List.set_cons_succ]
      refine wpAnyH_take (i := 15) (oi := ⟨some 18, _, _, _, _, _⟩) (v := .bool (d.zo != d.inn)) rfl (by kernel_rfl) (by kernel_rfl) (by kernel_rfl) (fun _ _ _ h => h) (.inl ⟨by rfl, fun W hW => by go_simp⟩) ⟨_, hD0, rfl, rfl, rfl⟩ ?_
      try simp only [Act.put, List.setIfInBounds_toArray, List.set_cons_zero, List.set_cons_succ]
      rw [c2]
      refine wpAnyH_take (i := 16) (oi := ⟨some 19, _, _, _, _, _⟩) (v := .bool true) rfl (by kernel_rfl) (by kernel_rfl) (by kernel_rfl) (fun _ _ _ h => h) (.inl ⟨by rfl, fun W hW => by go_simp⟩) ⟨_, hD0, rfl, rfl, rfl⟩ ?_
      try simp only [Act.put, List.setIfInBounds_toArray, List.set_cons_zero, List.set_cons_succ]
      refine wpAnyH_done (by kernel_rfl) ?_ _
      try simp only [Act.put, List.setIfInBounds_toArray, List.set_cons_zero, List.set_cons_succ]
      have HD := Lib.hid hD0
      have HF := Lib.hid hF0
      go_wp2
      simp [bodyPost, results, Try.results34, go_sem]
      exact FT.out _ HD.out HF.out
end Go.Proofs.Ytokbmahnjmmcaaa
