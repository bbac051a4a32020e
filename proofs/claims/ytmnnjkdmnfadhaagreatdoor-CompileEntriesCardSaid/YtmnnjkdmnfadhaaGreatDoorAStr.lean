/- What the walks take of the library: numbers as texts; by-name template. -/
import Derived.Test.YtmnnjkdmnfadhaaGreatDoorLBase
import Derived.Test.YtmnnjkdmnfadhaaGreatDoorAText
import Derived.Test.YtmnnjkdmnfadhaaGreatDoorShelf2
import Derived.Lib.AppendIntMem
import Derived.Lib.Slices
import Derived.Laws.IdiomStrings
import Derived.OwnWalk
import Derived.BigCall
import Derived.Lib.LaidTab
import Derived.Lib.SliceRun
import Derived.Deep.AppendLies
namespace Go.Proofs.YtmnnjkdmnfadhaaGreatDoor
open Go.RowKit
set_option linter.unusedVariables false
set_option linter.unusedSimpArgs false

/-- What is known of the library's variables. -/
structure Glob (w : World) : Prop where
  tab : Lib.TabIs Tryz.prog w "internal/strconv.uint64pow10" .u64 Lib.pow10Tab
  deb : w.cell? ⟨2, 15, none⟩ = some (.int .u8 4)

theorem Glob.on {w w' : World} (h : Glob w) (hb : Below w.heap.size w w') : Glob w' := by
  obtain ⟨ht, hd⟩ := h
  exact ⟨Lib.tabBelow_of_tabIs ht w' hb, keepc hb hd⟩

theorem tz64_16 {w : World} (hG : Glob w) : Calls Tryz.prog 177 #[.int .u64 16] w fun e w' => e = .returned (.int .i64 4) ∧ w' = w := by
  have hd := hG.deb
  have a1 : IntKind.u64.wrap (-16) = 18446744073709551600 := by decide
  have a2 : bits .and .u64 16 18446744073709551600 = 16 := by decide +kernel
  have a3 : IntKind.u64.wrap (16 * 285870213051353865) = 4573923408821661840 := by decide
  go_enter Tryz.func177, Tryz.ntmps177
  go_wp2
  go_ret
  exact ⟨rfl, rfl⟩

theorem tz_16 {w : World} (hG : Glob w) : Calls Tryz.prog 175 #[.int .u64 16] w fun e w' => e = .returned (.int .i64 4) ∧ w' = w := by
  go_enter Tryz.func175, Tryz.ntmps175
  go_wp2_with (go_at_call 177; refine (tz64_16 hG).mono ?_; rintro e w' ⟨rfl, rfl⟩)
  go_ret
  exact ⟨rfl, rfl⟩

theorem pow2_16 (w : World) : Calls Tryz.prog 174 #[.int .i64 16] w fun e w' => e = .returned (.bool true) ∧ w' = w := by
  have p2 : bits .and .i64 16 15 = 0 := by decide +kernel
  go_enter Tryz.func174, Tryz.ntmps174
  go_wp2
  go_ret
  exact ⟨rfl, rfl⟩

theorem dgt36 : ∀ k, k < 16 → ∀ h' : k < (ByteArray.mk #[48, 49, 50, 51, 52, 53, 54, 55, 56, 57, 97, 98, 99, 100, 101, 102, 103, 104, 105, 106, 107, 108, 109, 110, 111, 112, 113, 114, 115, 116, 117, 118, 119, 120, 121, 122]).size, (ByteArray.mk #[48, 49, 50, 51, 52, 53, 54, 55, 56, 57, 97, 98, 99, 100, 101, 102, 103, 104, 105, 106, 107, 108, 109, 110, 111, 112, 113, 114, 115, 116, 117, 118, 119, 120, 121, 122])[k]'h' = dig k := by decide +kernel

theorem heap_set {w : World} {B : Nat} {cs : Array Value} {t : TypeId} {fz : Nat × Nat} (h : w.heap[B]? = some (.cells cs t fz)) (o : Nat) (v : Value) :
    (w.setCell ⟨B, o, none⟩ v).heap[B]? = some (.cells (cs.setIfInBounds o v) t fz) := by
  simp [World.setCell, Array.getElem?_modify, h]

theorem own_below {w w' : World} {B : Nat} {e : TypeId} {size : Nat} {v : Value} {n : Nat} {xs : List Value} (h : w.ownsRow B e size v n xs) (hb : Below w.heap.size w w') : w'.ownsRow B e size v n xs := by
  obtain ⟨h1, h2⟩ := h
  refine ⟨h1, ?_⟩
  rcases h2 with h2 | ⟨g, cap, cur, k1, k2, k3, k4⟩
  · exact .inl h2
  · exact .inr ⟨g, cap, cur, k1, k2, by rw [hb.block g (Array.getElem?_eq_some_iff.1 k3).1]; exact k3, k4⟩

theorem info8 : (Tryz.prog.info? 5).map (fun i => (i.zero, i.size, i.bytes)) = some (some (.int .u8 0), 1, 1) := by kernel_rfl

theorem drop_set {l : List Value} {q : Nat} {v : Value} (h : q < l.length) : (l.set q v).drop q = v :: l.drop (q + 1) := by
  rw [List.drop_eq_getElem_cons (by simpa using h)]
  simp [List.drop_set]

theorem and15 (u : Int) (h0 : 0 ≤ u) (h1 : u < 18446744073709551616) : bits .and .u64 u 15 = u % 16 := by
  have := bits_mask .u64 64 (Nat.le_refl _) (fun n h0 h1 => by rw [IntKind.wrap_u64]; omega) 4 (by omega) u h0 (by simpa using h1)
  simpa using this

set_option maxHeartbeats 4000000 in
set_option maxRecDepth 100000 in
theorem formatBits_16 (B n : Nat) (hn : n ≤ 65535) (m : Nat) (sv : Value) (xs : List Value) {w : World} (hG : Glob w) (hown : w.ownsRow B 5 1 sv m xs) (hBw : B ≤ w.heap.size) (hlim : m + 20 ≤ 140737488355328) :
    Calls Tryz.prog 171 #[sv, .int .u64 n, .int .i64 16, .bool false, .bool true] w fun e w' => ∃ v', e = .returned (.tuple #[v', .string ByteArray.empty]) ∧ w'.ownsRow B 5 1 v' (m + (digs 16 n).length) (xs ++ Lib.byteCells (digs 16 n)) ∧ Below B w w' := by
  go_enter Tryz.func171, Tryz.ntmps171
  go_wp2_with (first
    | (go_at_call 174; refine (pow2_16 _).mono ?_; rintro e w' ⟨rfl, rfl⟩)
    | (go_at_call 175; refine (tz_16 (hG.on (Below.al (Below.refl _ _) _))).mono ?_; rintro e w' ⟨rfl, rfl⟩))
  go_loopw [1, 13] (fun vu vi wr => ∃ (u q : Nat) (L : List UInt8) (cur : Array Value), vu = .int .u64 u ∧ vi = .int .i64 ((q : Int) + 1) ∧ u ≤ 65535 ∧ q + 1 + L.length = 65 ∧ L.length ≤ 3 ∧ wr.heap[w.heap.size]? = some (.cells cur 209 (0, 0)) ∧ Below w.heap.size w wr ∧
      Hid (cur.size = 65 ∧ digs 16 n = digs 16 u ++ L ∧ cur.toList.drop (q + 1) = Lib.byteCells L)) (fun vu _ _ => (intOf vu).toNat)
  case atStart => exact ⟨n, 64, [], _, rfl, rfl, hn, by simp, by simp, heap_alloc_new w _, Below.al (Below.refl _ _) _, Lib.hid ⟨by rfl, by simp, by rfl⟩⟩
  case round =>
    obtain ⟨u, q, L, cur, rfl, rfl, hu, hq, hL, hblk, hbel, hh⟩ := hrel
    obtain ⟨old, hcell⟩ : ∃ old, wr.cell? ⟨w.heap.size, q, none⟩ = some old := by
      have := hh.out.1
      refine ⟨cur[q]'(by omega), ?_⟩
      simp only [World.cell?, hblk]; exact Array.getElem?_eq_getElem _
    have hfree : wr.frozen? ⟨w.heap.size, q, none⟩ = false := by simp [World.frozen?, hblk]
    have q0 : (q : Int) < 65 := by omega
    by_cases h16 : 16 ≤ u
    · have ea := and15 u (by omega) (by omega)
      have hd := dgt36 (u % 16) (by omega)
      obtain ⟨hcs, hdg, hdr⟩ := hh.out
      clear hh
      have hdg' : digs 16 n = digs 16 (u / 16) ++ (dig (u % 16) :: L) := by rw [hdg, digs_hi h16 (by omega)]; simp
      have hlen : L.length + 1 ≤ 3 := by
        have h1 := digs_len (n := n) 3 (by omega)
        have h2 : 0 < (digs 16 (u / 16)).length := List.length_pos_iff.2 (digs_ne _ _)
        rw [hdg', List.length_append, List.length_cons] at h1
        omega
      have H := Lib.hid (show _ ∧ _ ∧ _ from ⟨hcs, hdg', hdr⟩)
      clear hcs hdg hdr hdg'
      go_wp2
      obtain ⟨hcs, hdg', hdr⟩ := H.out
      refine ⟨⟨u / 16, q - 1, dig (u % 16) :: L, _, by simp, by congr 1; omega, by omega, by simp; omega, by simp; omega, heap_set hblk q _, below_set hbel (Nat.le_refl _) _ _, Lib.hid ⟨by simpa using hcs, hdg', ?_⟩⟩, by simp [intOf]; omega⟩
      rw [show q - 1 + 1 = q by omega, Array.toList_setIfInBounds, drop_set (by rw [Array.length_toList]; omega), hdr]
      rfl
    · have hd := dgt36 u (by omega)
      obtain ⟨hcs, hdg, hdr⟩ := hh.out
      clear hh
      have hsl : ∀ W, (Instr.sliceAt 209 (.pointer (some ⟨w.heap.size, 0, none⟩)) (some (.int .i64 (q : Int))) none none).run Tryz.prog W = .ok (.slice (some ⟨w.heap.size, q, none⟩) (65 - q) (65 - q)) W := fun W => by
        rw [run_sliceAt_array_l W 209 ⟨w.heap.size, 0, none⟩ Tryz.underlying209 .i64 (q : Int) (by omega) (by show (q : Int) ≤ 65; omega)]
        go_simp
        omega
      have hdg' : digs 16 n = dig u :: L := by rw [hdg, digs_lo (by omega)]; rfl
      obtain ⟨w2, hw2⟩ : ∃ w2, wr.setCell ⟨w.heap.size, q, none⟩ (.int .u8 (dig u).toNat) = w2 := ⟨_, rfl⟩
      have hb2 : Below w.heap.size w w2 := by rw [← hw2]; exact below_set hbel (Nat.le_refl _) _ _
      have hown2 := own_below hown hb2
      have hblk2 : w2.heap[w.heap.size]? = some (.cells (cur.setIfInBounds q (.int .u8 (dig u).toNat)) 209 (0, 0)) := by rw [← hw2]; exact heap_set hblk q _
      have hrow : (cur.setIfInBounds q (.int .u8 (dig u).toNat)).toList.drop q = Lib.byteCells (digs 16 n) := by
        rw [Array.toList_setIfInBounds, drop_set (by rw [Array.length_toList]; omega), hdr, hdg']; rfl
      have hnews : ∀ j v, (Lib.byteCells (digs 16 n))[j]? = some v → w2.cell? ((⟨w.heap.size, q, none⟩ : Addr).add j) = some v := by
        intro j v hj
        rw [← hrow, List.getElem?_drop] at hj
        have ha : (⟨w.heap.size, q, none⟩ : Addr).add j = ⟨w.heap.size, q + j, none⟩ := by cases j <;> simp [Addr.add]
        rw [ha]
        simp only [World.cell?, hblk2]
        rw [Array.getElem?_toList] at hj
        simpa using hj
      have hnl : (digs 16 n).length = 65 - q := by rw [hdg', List.length_cons]; omega
      have hbl : (Lib.byteCells (digs 16 n)).length = 65 - q := by simp [Lib.byteCells, hnl]
      have hone : ∀ u ∈ Lib.byteCells (digs 16 n), u.oneCell' = true := Lib.byteCells_one _
      have hsz2 : B ≤ w2.heap.size := by have := hb2.size; omega
      obtain ⟨i0, hi, hz0, hz1, hz2⟩ := info_parts info8
      have hq64 : q ≤ 64 := by omega
      have hq61 : 61 ≤ q := by omega
      obtain ⟨news, hN⟩ : ∃ news, news = Lib.byteCells (digs 16 n) := ⟨_, rfl⟩
      rw [← hN] at hnews hbl hone
      have H := Lib.hid (show _ ∧ _ from ⟨hN, hnl⟩)
      clear hN hnl hcs hdg hdr hdg' hrow hblk2
      go_wp2_with (at_builtin; refine wpList_append_own _ rfl _ _ 197 rfl B 5 i0 (.int .u8 0) 1 1 Tryz.underlying197 hi hz0 hz1 hz2 rfl (by decide) _ _ _ rfl hown2 ⟨w.heap.size, q, none⟩ (65 - q) (65 - q) news rfl (by rw [hbl]; omega) hnews hone (by unfold maxLen; omega) (by omega) hsz2 ?_)
      intro v' w3 hown3 hgrow _
      obtain ⟨hN, hnl⟩ := H.out
      go_wp2
      go_ret2
      subst hN
      refine ⟨v', rfl, ?_, ?_⟩
      · rw [hnl]; exact hown3
      · exact (hb2.mono hBw).grown hgrow hsz2 (fun k hk => (hown2.lt k hk).1)

theorem iappU_16 (B n : Nat) (hn : n ≤ 65535) (m : Nat) (sv : Value) (xs : List Value) {w : World} (hG : Glob w) (hown : w.ownsRow B 5 1 sv m xs) (hBw : B ≤ w.heap.size) (hlim : m + 20 ≤ 140737488355328) :
    Calls Tryz.prog 167 #[sv, .int .u64 n, .int .i64 16] w fun e w' => ∃ v', e = .returned v' ∧ w'.ownsRow B 5 1 v' (m + (digs 16 n).length) (xs ++ Lib.byteCells (digs 16 n)) ∧ Below B w w' := by
  have c := formatBits_16 B n hn m sv xs hG hown hBw hlim
  go_enter Tryz.func167, Tryz.ntmps167
  go_wp2_with (go_at_call 171; refine c.mono ?_; rintro e w' ⟨v', rfl, h1, h2⟩)
  go_ret
  exact ⟨v', rfl, h1, h2⟩

/-- strconv.AppendUint to the base sixteen. -/
theorem appU_16 (B n : Nat) (hn : n ≤ 65535) (m : Nat) (sv : Value) (xs : List Value) {w : World} (hG : Glob w) (hown : w.ownsRow B 5 1 sv m xs) (hBw : B ≤ w.heap.size) (hlim : m + 20 ≤ 140737488355328) :
    Calls Tryz.prog 162 #[sv, .int .u64 n, .int .i64 16] w fun e w' => ∃ v', e = .returned v' ∧ w'.ownsRow B 5 1 v' (m + (digs 16 n).length) (xs ++ Lib.byteCells (digs 16 n)) ∧ Below B w w' := by
  have c := iappU_16 B n hn m sv xs hG hown hBw hlim
  go_enter Tryz.func162, Tryz.ntmps162
  go_wp2_with (go_at_call 167; refine c.mono ?_; rintro e w' ⟨v', rfl, h1, h2⟩)
  go_ret
  exact ⟨v', rfl, h1, h2⟩

/-- strconv.AppendUint to the base ten. -/
theorem appU_10 (B n : Nat) (hn : n ≤ 255) (m : Nat) (sv : Value) (xs : List Value) {w : World} (hG : Glob w) (hown : w.ownsRow B 5 1 sv m xs) (hBw : B ≤ w.heap.size) (hlim : m + 20 ≤ 140737488355328) :
    Calls Tryz.prog 162 #[sv, .int .u64 n, .int .i64 10] w fun e w' => ∃ v', e = .returned v' ∧ w'.ownsRow B 5 1 v' (m + (digs 10 n).length) (xs ++ Lib.byteCells (digs 10 n)) ∧ Below B w w' := by
  have c : Calls Tryz.prog 167 #[sv, .int .u64 n, .int .i64 10] w fun e w' => ∃ v', e = .returned v' ∧ w'.ownsRow B 5 1 v' (m + (digs 10 n).length) (xs ++ Lib.byteCells (digs 10 n)) ∧ Below B w w' := by
    rw [digs_ten]
    by_cases h : n < 100
    · exact (Tryz.internal_strconv_AppendUint_10_small B m n h sv xs w hown hBw hlim).mono fun e w' ⟨v', h1, h2, h3, _⟩ => ⟨v', h1, h2, h3⟩
    · exact (Tryz.internal_strconv_AppendUint_10_big B m n (by omega) (by omega) sv xs w hown hBw hlim hG.tab).mono fun e w' ⟨v', h1, h2, h3, _⟩ => ⟨v', h1, h2, h3⟩
  go_enter Tryz.func162, Tryz.ntmps162
  go_wp2_with (go_at_call 167; refine c.mono ?_; rintro e w' ⟨v', rfl, h1, h2⟩)
  go_ret
  exact ⟨v', rfl, h1, h2⟩
end Go.Proofs.YtmnnjkdmnfadhaaGreatDoor
