/- Get's walk; by-name template. -/
import Derived.Test.YtikaeblmjlfgcaaGet
namespace Go.Proofs.Ytikaeblmjlfgcaa
open Go.RowKit
set_option linter.unusedVariables false

theorem range_getD (l : List Int) : (List.range l.length).map (fun j => l.getD j 0) = l := by
  apply List.ext_getElem
  · simp
  · intro j h1 h2
    simp [List.getD_eq_getElem?_getD, List.getElem?_eq_getElem h2]
theorem takeWhile_take {l : List Int} {k : Nat} (hk : k ≤ l.length) (h1 : ∀ j, j < k → l.getD j 0 ≠ 0) (h2 : k < l.length → l.getD k 0 = 0) : l.takeWhile (· ≠ 0) = l.take k := by
  have h := takeWhile_pre (fun j => l.getD j 0) hk h1 h2
  rw [range_getD] at h
  rw [h]
  apply List.ext_getElem
  · simp; omega
  · intro j a b
    simp at a b
    simp [List.getD_eq_getElem?_getD, List.getElem?_eq_getElem (show j < l.length by omega)]

theorem read_byte {w : World} {B : Nat} {D : DS} (h : DiskAt w B D) {x : Int} (h0 : 0 ≤ x) : Calls Try.prog 26 #[.pointer (some ⟨B, 0, none⟩), .int .i64 x] w fun e w' => (∃ r, e = .returned (.tuple #[.string (sec D x.toNat), .int .i64 r])) ∧ w = w' := by
  by_cases hx : x < 160
  · obtain ⟨k, rfl⟩ := Int.eq_ofNat_of_zero_le h0
    exact (read_at h (k := k) (by omega)).mono fun e w' ⟨he, hw⟩ => ⟨⟨0, he⟩, hw⟩
  · have e : sec D x.toNat = ByteArray.empty := by
      unfold sec
      rw [List.getD_eq_getElem?_getD, List.getElem?_eq_none (by have := h.1; omega)]
      rfl
    rw [e]
    exact (read_no (inSec_no.2 (by omega)) B w).mono fun e w' ⟨he, hw⟩ => ⟨⟨10, he⟩, hw⟩

/-- The bytes of the first k sectors that a place tells. -/
def accB (D : DS) (pl : List Int) (k : Nat) : List UInt8 := ((pl.take k).map fun x => sec D x.toNat).flatMap fun s => s.data.toList
theorem accB_succ (D : DS) {pl : List Int} {k : Nat} (hk : k < pl.length) : accB D pl (k + 1) = accB D pl k ++ (sec D (pl.getD k 0).toNat).data.toList := by
  unfold accB
  rw [List.take_add_one, List.getElem?_eq_getElem hk, List.map_append, List.flatMap_append]
  simp [List.getD_eq_getElem?_getD, List.getElem?_eq_getElem hk]
theorem accB_len {D : DS} (hs : Small D) (pl : List Int) (k : Nat) : (accB D pl k).length ≤ 512 * pl.length := by
  have h1 : ∀ l : List Int, ((l.map fun x => sec D x.toNat).flatMap fun s => s.data.toList).length ≤ 512 * l.length := by
    intro l
    induction l with
    | nil => simp
    | cons a l ih =>
      have := hs a.toNat
      simp at this ih ⊢
      omega
  have := h1 (pl.take k)
  unfold accB
  have h2 : (pl.take k).length ≤ pl.length := by simp; omega
  omega
theorem getv_at {D : DS} {s : Nat} {k : Nat} (hk : k ≤ 8) (h1 : ∀ j, j < k → (place (root D) s).getD j 0 ≠ 0) (h2 : k < 8 → (place (root D) s).getD k 0 = 0) (hn : place (root D) s ≠ List.replicate 8 0) : getv D s = some ⟨(accB D (place (root D) s) k).toArray⟩ := by
  have hl := place_len (root D) s
  unfold getv
  rw [if_neg hn, takeWhile_take (k := k) (by omega) h1 (by intro h; exact h2 (by omega))]
  rfl

theorem get_no {w : World} (S : Nat) {i : Int} (h : i < 0 ∨ 8 ≤ i) : Calls Try.prog 19 #[.pointer (some ⟨S, 0, none⟩), .int .i64 i] w fun e w' => e = .returned (.tuple #[.string ByteArray.empty, .bool false]) ∧ w = w' := by
  go_enter Try.func19, Try.ntmps19
  go_wp2_with (go_at_call 24; refine (hasSlot_no h _).mono ?_; rintro e w' ⟨rfl, rfl⟩)
  go_ret2
  exact ⟨rfl, rfl⟩

theorem place_info : (Try.prog.info? 62).map (·.size) = some 8 := by kernel_rfl
theorem zero_place (w : World) : (zeroValue 62).run Try.prog w = .ok (.agg ((List.replicate 8 (0 : Int)).map (Value.int .u8)).toArray) w := by kernel_rfl
theorem bytes_one (P : List Int) : ((P.map (Value.int .u8)).toArray).all (·.oneCell') = true := by
  rw [Array.all_eq_true_iff_forall_mem]
  intro v hv
  simp only [List.mem_toArray, List.mem_map] at hv
  obtain ⟨x, _, rfl⟩ := hv
  rfl

set_option maxHeartbeats 1000000 in
set_option maxRecDepth 100000 in
theorem get_none {w : World} {S sh ow : Nat} {D : DS} (hS : StoreAt w S sh ow) (hD : DiskAt w ow D) {i : Nat} (hi : i < 8) (hn : place (root D) i = List.replicate 8 0) :
    Calls Try.prog 19 #[.pointer (some ⟨S, 0, none⟩), .int .i64 (i : Int)] w fun e w' => e = .returned (.tuple #[.string ByteArray.empty, .bool false]) ∧ Below w.heap.size w w' := by
  have hR := root_ok D
  have c1 := hS.c1
  have hr := readRoot_any hD
  have hf := f_field hR.len
  have hp := f_place (P := (root D).P) hi
  have hq := f_eql (P := List.replicate 8 0) (Q := List.replicate 8 0) rfl rfl (by simp) (by simp)
  rw [place_eq hR.len hi, hn] at hp
  have hz := zero_place
  have hlen : ((List.replicate 8 (0 : Int)).map (Value.int .u8)).toArray.size = 8 := rfl
  have hone := bytes_one (List.replicate 8 0)
  generalize ((List.replicate 8 (0 : Int)).map (Value.int .u8)).toArray = PA at *
  generalize (((root D).P.map (Value.int .u8)).toArray) = PL at *
  generalize rcells (root D) = Z at *
  have hinf : (Try.prog.info? 62).map (·.size) = some PA.size := by rw [hlen]; exact place_info
  clear hR hn hlen
  have hi0 : (0 : Int) ≤ (i : Int) := by omega
  have hi1 : (i : Int) < 8 := by omega
  go_enter Try.func19, Try.ntmps19
  go_wp2_with (first
    | (go_at_call 24; refine (hasSlot_yes (by omega) (by omega) _).mono ?_; rintro e w' ⟨rfl, rfl⟩)
    | (go_at_call 25; refine hr.mono ?_; rintro e w1 ⟨rfl, hb1⟩)
    | (refine wpList_store_row rfl 62 (.tmp 6) (.tmp 22) rfl w1.heap.size PA rfl rfl 62 PA (heap_alloc_new w1 _) hinf rfl hone ?_)
    | (refine wpList_load_row rfl 62 (.tmp 6) rfl w1.heap.size rfl 62 PA (0, 0) _ (by rw [World.setRow_alloc_new]; exact heap_alloc_new w1 _) Try.underlying62 rfl hinf ?_))
  rw [World.setRow_alloc_new]
  go_ret2
  exact ⟨rfl, hb1.alloc hb1.size _⟩

set_option maxHeartbeats 2000000 in
set_option maxRecDepth 100000 in
theorem get_some {w : World} {S sh ow : Nat} {D : DS} (hS : StoreAt w S sh ow) (hD : DiskAt w ow D) (hsm : Small D) {i : Nat} (hi : i < 8) (hn : place (root D) i ≠ List.replicate 8 0) :
    Calls Try.prog 19 #[.pointer (some ⟨S, 0, none⟩), .int .i64 (i : Int)] w fun e w' => e = .returned (.tuple #[.string ((getv D i).getD ByteArray.empty), .bool true]) ∧ Below w.heap.size w w' := by
  have hR := root_ok D
  have c1 := hS.c1
  have hr := readRoot_any hD
  have hf := f_field hR.len
  have hp := f_place (P := (root D).P) hi
  have hq := f_eql (P := place (root D) i) (Q := List.replicate 8 0) (place_len _ _) rfl (place_b hR i) (by simp)
  rw [decide_eq_false hn] at hq
  rw [place_eq hR.len hi] at hp
  have hz := zero_place
  have HG : Hid (∀ k, k ≤ 8 → (∀ j, j < k → (place (root D) i).getD j 0 ≠ 0) → (k < 8 → (place (root D) i).getD k 0 = 0) → getv D i = some ⟨(accB D (place (root D) i) k).toArray⟩) := Lib.hid fun k a b c => getv_at a b c hn
  have hpl := place_len (root D) i
  have hpb := place_b hR i
  have HX : Hid (∀ k : Nat, k < 8 → ∀ w, (Instr.index 62 (.agg ((place (root D) i).map (Value.int .u8)).toArray) (.int .i64 (k : Int))).run Try.prog w = .ok (.int .u8 ((place (root D) i).getD k 0)) w) := Lib.hid fun k hk w => f_byte hpl hk w
  clear hn
  generalize place (root D) i = pl at *
  have hlen : (pl.map (Value.int .u8)).toArray.size = 8 := by simpa using hpl
  have hone := bytes_one pl
  have HPL := Lib.hid hpl
  have HPB : Hid (∀ k, 0 ≤ pl.getD k 0 ∧ pl.getD k 0 < 256) := Lib.hid fun k => by
    rw [List.getD_eq_getElem?_getD]
    cases hg : pl[k]? with
    | none => simp
    | some v => exact hpb v (List.mem_of_getElem? hg)
  clear hpl hpb
  generalize ((List.replicate 8 (0 : Int)).map (Value.int .u8)).toArray = ZA at *
  generalize (pl.map (Value.int .u8)).toArray = PA at *
  generalize (((root D).P.map (Value.int .u8)).toArray) = PL at *
  generalize rcells (root D) = Z at *
  have hinf : (Try.prog.info? 62).map (·.size) = some PA.size := by rw [hlen]; exact place_info
  have hzs : ZA.size = PA.size := by
    have h1 := zero_place w
    rw [hz w] at h1
    simp only [Result.ok.injEq, Value.agg.injEq, and_true] at h1
    rw [h1, hlen]
    rfl
  clear hR hlen
  have hi0 : (0 : Int) ≤ (i : Int) := by omega
  have hi1 : (i : Int) < 8 := by omega
  go_enter Try.func19, Try.ntmps19
  go_wp2_with (first
    | (go_at_call 24; refine (hasSlot_yes (by omega) (by omega) _).mono ?_; rintro e w' ⟨rfl, rfl⟩)
    | (go_at_call 25; refine hr.mono ?_; rintro e w1 ⟨rfl, hb1⟩)
    | (refine wpList_store_row rfl 62 (.tmp 6) (.tmp 22) rfl w1.heap.size PA rfl rfl 62 ZA (heap_alloc_new w1 _) hinf hzs hone ?_)
    | (refine wpList_load_row rfl 62 (.tmp 6) rfl w1.heap.size rfl 62 PA (0, 0) _ (by rw [World.setRow_alloc_new]; first | exact heap_alloc_new w1 _ | (rw [Below.heap_alloc _ _ _ (by simp)]; exact heap_alloc_new w1 _)) Try.underlying62 rfl hinf ?_))
  have hI0 := Lib.fresh_isBuilder 71 5 ((w1.alloc (.cells ZA 62)).setRow w1.heap.size PA)
  have hb2 : Below w.heap.size w (((w1.alloc (.cells ZA 62)).setRow w1.heap.size PA).alloc (.cells #[.pointer none, .slice none 0 0] 71)) :=
    ((hb1.alloc hb1.size _).setRow hb1.size _).alloc (by have := hb1.size; simp; omega) _
  have hsz0 : (((w1.alloc (.cells ZA 62)).setRow w1.heap.size PA).alloc (.cells #[.pointer none, .slice none 0 0] 71)).heap.size = w1.heap.size + 2 := by simp
  have hNe : ((w1.alloc (.cells ZA 62)).setRow w1.heap.size PA).heap.size = w1.heap.size + 1 := by simp
  rw [hNe] at hI0
  generalize ((w1.alloc (.cells ZA 62)).setRow w1.heap.size PA).alloc (.cells #[.pointer none, .slice none 0 0] 71) = w2 at *
  have hw1 := hb1.size
  have hSlt := Blk.lt hS
  have hDlt := hD.lt
  clear hNe hb1 hr hf hp hq hz hone hinf hzs hi0 hi1
  obtain ⟨N, hN⟩ : ∃ N, N = w1.heap.size + 1 := ⟨_, rfl⟩
  rw [← hN] at hI0 ⊢
  have hN1 : w.heap.size < N := by omega
  have hN2 : N ≤ w2.heap.size := by omega
  have hS2 := Blk.below hS hb2 hSlt
  have hD2 := hD.below hb2 hDlt
  clear hw1 hsz0
  have HNE := Lib.hid hN
  clear hN c1
  go_loopw [27, 9, 10, 11] (fun c _ _ _ wr => ∃ k : Nat, k ≤ 8 ∧ c = .int .i64 (k : Int) ∧ Hid (∀ j, j < k → pl.getD j 0 ≠ 0) ∧ Lib.IsBuilder 71 5 N N (Lib.byteCells (accB D pl k)) wr ∧ Below N w2 wr) (fun c _ _ _ _ => 8 - (intOf c).toNat)
  case atStart => exact ⟨0, by omega, rfl, Lib.hid (fun j h => absurd h (by omega)), by simpa [accB, Lib.byteCells] using hI0, Below.refl _ _⟩
  case round =>
    obtain ⟨k, hk, rfl, HK, hI, hB⟩ := hrel
    have hBs := hB.size
    by_cases hlt : k < 8
    · have hx := HX.out k hlt
      obtain ⟨x0, x1⟩ := HPB.out k
      have HS := Lib.hid (accB_succ D (pl := pl) (k := k) (by rw [HPL.out]; exact hlt))
      by_cases hz : pl.getD k 0 = 0
      · have hv := HG.out k hk HK.out (fun _ => hz)
        rw [hz] at hx
        have HV := Lib.hid hv
        have hst := Try.Builder_String_any N N (accB D pl k) wr hI (by omega)
        clear hv hz x0 x1
        have hk8 : (k : Int) < 8 := by omega
        go_wp2_with (go_at_call 28; refine hst.mono ?_; rintro e w3 ⟨rfl, hb3⟩)
        go_ret2
        exact ⟨by rw [HV.out]; rfl, hb2.trans ((hB.trans hb3).mono (by omega))⟩
      · have hxb : (pl.getD k 0 == 0) = false := by simpa using hz
        have hlen := accB_len hsm pl k
        rw [HPL.out] at hlen
        have hss := hsm (pl.getD k 0).toNat
        have hrd := read_byte (hD2.below hB (by omega)) x0
        have hk8 : (k : Int) < 8 := by omega
        have hws := writeString_any N N _ (sec D (pl.getD k 0).toNat) wr hI (by rw [Lib.byteCells_length]; omega) (by omega)
        have c1 := StoreAt.c1 (Blk.below hS2 hB (by omega))
        have HK2 : Hid (∀ j, j < k + 1 → pl.getD j 0 ≠ 0) := Lib.hid fun j hj => by
          by_cases e : j = k
          · rw [e]; exact hz
          · exact HK.out j (by omega)
        have HA : Hid (Lib.byteCells (accB D pl k) ++ Lib.strCells (sec D (pl.getD k 0).toNat) = Lib.byteCells (accB D pl (k + 1))) := Lib.hid (by rw [HS.out, Lib.strCells_eq]; simp [Lib.byteCells])
        clear hz hlen hss
        generalize sec D (pl.getD k 0).toNat = s at *
        generalize pl.getD k 0 = x at *
        go_wp2_with (first
          | (go_at_call 26; refine hrd.mono ?_; rintro e w3 ⟨⟨r, rfl⟩, rfl⟩)
          | (go_at_call 27; refine hws.mono ?_; rintro e w3 ⟨rfl, hI3, hb3⟩))
        rw [HA.out] at hI3
        go_roundw
        case rel => exact ⟨k + 1, by omega, by go_num, HK2, hI3, hB.trans hb3⟩
        case measure => simp [intOf]; omega
    · obtain rfl : k = 8 := by omega
      have HV := Lib.hid (HG.out 8 hk HK.out (fun h => absurd h (by omega)))
      have hst := Try.Builder_String_any N N (accB D pl 8) wr hI (by omega)
      rw [show (((8 : Nat) : Int)) = 8 from rfl]
      go_wp2_with (go_at_call 28; refine hst.mono ?_; rintro e w3 ⟨rfl, hb3⟩)
      go_ret2
      exact ⟨by rw [HV.out]; rfl, hb2.trans ((hB.trans hb3).mono (by omega))⟩

theorem get_in {w : World} {S sh ow : Nat} {D : DS} (hS : StoreAt w S sh ow) (hD : DiskAt w ow D) (hsm : Small D) {i : Nat} (hi : i < 8) :
    Calls Try.prog 19 #[.pointer (some ⟨S, 0, none⟩), .int .i64 (i : Int)] w fun e w' => e = .returned (.tuple #[.string ((getv D i).getD ByteArray.empty), .bool (getv D i).isSome]) ∧ Below w.heap.size w w' := by
  by_cases hn : place (root D) i = List.replicate 8 0
  · have e : getv D i = none := by unfold getv; rw [if_pos hn]
    rw [e]
    exact get_none hS hD hi hn
  · have e : (getv D i).isSome = true := by unfold getv; rw [if_neg hn]; rfl
    rw [e]
    exact get_some hS hD hsm hi hn
end Go.Proofs.Ytikaeblmjlfgcaa
