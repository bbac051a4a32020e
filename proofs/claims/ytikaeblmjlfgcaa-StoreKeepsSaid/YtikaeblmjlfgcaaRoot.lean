/- A root in memory; readRoot; by-name template. -/
import Derived.Test.YtikaeblmjlfgcaaPlainThree
import Derived.LoopTactic
import Derived.ChangeAlike
import Derived.RegionTactic
import Derived.Deep.MidRow
import Derived.WalkLawsBesides
import Derived.WalkSpells
import Derived.Deep.RegionLaw
import Derived.BigRegion
import Derived.Lib.LazyBuf
import Derived.IntWalk
namespace Go.Proofs.Ytikaeblmjlfgcaa
open Go.RowKit
set_option linter.unusedVariables false

/-- A block known whole. -/
def Blk (w : World) (b : Nat) (cs : Array Value) (t : TypeId) : Prop := w.heap[b]? = some (.cells cs t (0, 0))
theorem Blk.lt {w : World} {b : Nat} {cs : Array Value} {t : TypeId} (h : Blk w b cs t) : b < w.heap.size := (Array.getElem?_eq_some_iff.1 h).1
theorem Blk.free {w : World} {b : Nat} {cs : Array Value} {t : TypeId} (h : Blk w b cs t) (o : Nat) : w.frozen? ⟨b, o, none⟩ = false := by
  unfold Blk at h
  simp [World.frozen?, h]
theorem Blk.cell {w : World} {b : Nat} {cs : Array Value} {t : TypeId} (h : Blk w b cs t) (o : Nat) : w.cell? ⟨b, o, none⟩ = cs[o]? := by
  unfold Blk at h
  simp [World.cell?, h]
theorem Blk.set {w : World} {b : Nat} {cs : Array Value} {t : TypeId} (h : Blk w b cs t) (o : Nat) (v : Value) : Blk (w.setCell ⟨b, o, none⟩ v) b (cs.setIfInBounds o v) t := heap_set h o v
theorem Blk.off {w w' : World} {A b : Nat} {cs : Array Value} {t : TypeId} (h : Blk w b cs t) (hw : Off A w w') (hn : b ≠ A) : Blk w' b cs t := by
  unfold Blk
  rw [hw.block b h.lt hn]
  exact h
theorem Blk.below {w w' : World} {N b : Nat} {cs : Array Value} {t : TypeId} (h : Blk w b cs t) (hw : Below N w w') (hn : b < N) : Blk w' b cs t := by
  unfold Blk
  rw [hw.block b hn]
  exact h
theorem Blk.alloc {w : World} {b : Nat} {cs : Array Value} {t : TypeId} (h : Blk w b cs t) (o : Obj) : Blk (w.alloc o) b cs t := by
  unfold Blk
  rw [Below.heap_alloc _ _ _ h.lt]
  exact h
theorem Blk.drew {w : World} {b : Nat} {cs : Array Value} {t : TypeId} (h : Blk w b cs t) : Blk w.drew b cs t := h
theorem Blk.new (w : World) (cs : Array Value) (t : TypeId) : Blk (w.alloc (.cells cs t)) w.heap.size cs t := heap_alloc_new w _

def rcells (R : RS) : Array Value := (Value.int .u64 R.n :: R.P.map (Value.int .u8)).toArray
def RootAt (w : World) (b : Nat) (R : RS) : Prop := Blk w b (rcells R) 66

theorem rcells_size {R : RS} (h : R.P.length = 64) : (rcells R).size = 65 := by simp [rcells, h]
theorem rcells_one (R : RS) : (rcells R).all (·.oneCell') = true := by
  rw [Array.all_eq_true_iff_forall_mem]
  intro v hv
  simp only [rcells, List.mem_toArray, List.mem_cons, List.mem_map] at hv
  rcases hv with rfl | ⟨x, _, rfl⟩ <;> rfl
theorem zero_root (w : World) : (zeroValue 66).run Try.prog w = .ok (.agg (rcells RS0)) w := by kernel_rfl
theorem root_info : (Try.prog.info? 66).map (·.size) = some 65 := by kernel_rfl
theorem RS.info {R : RS} (h : R.P.length = 64) : (Try.prog.info? 66).map (·.size) = some (rcells R).size := by
  rw [rcells_size h]; exact root_info
theorem RootAt.c0 {w : World} {b : Nat} {R : RS} (h : RootAt w b R) : w.cell? ⟨b, 0, none⟩ = some (.int .u64 R.n) := by
  rw [Blk.cell h]; simp [rcells]
theorem RootAt.setn {w : World} {b : Nat} {R : RS} (h : RootAt w b R) (n : Int) : RootAt (w.setCell ⟨b, 0, none⟩ (.int .u64 n)) b { R with n := n } := by
  have := Blk.set h 0 (.int .u64 n)
  simpa [rcells, RootAt] using this

theorem DiskAt.alloc {w : World} {B : Nat} {D : DS} (h : DiskAt w B D) (o : Obj) : DiskAt (w.alloc o) B D :=
  ⟨h.1, by rw [Below.heap_alloc _ _ _ h.lt]; exact h.2⟩
theorem root_ok (D : DS) : RSok (root D) := rootOf_ok _
theorem read_zero {w : World} {B : Nat} {D : DS} (h : DiskAt w B D) {s : ByteArray} (hs : Hid (sec D 0 = s)) : Calls Try.prog 26 #[.pointer (some ⟨B, 0, none⟩), .int .i64 0] w fun e w' => e = .returned (.tuple #[.string s, .int .i64 0]) ∧ w = w' := by
  have := read_at h (k := 0) (by omega)
  rw [← hs.out]
  exact this

theorem _root_.Go.RowKit.Below.setRow {N : Nat} {w w' : World} (h : Below N w w') {g : Nat} (hg : N ≤ g) (cs : Array Value) : Below N w (w'.setRow g cs) :=
  ⟨h.os, h.tape, h.output, by have := h.size; simpa [World.setRow] using this, fun k hk => by
    have e : (w'.setRow g cs).heap[k]? = w'.heap[k]? := by
      unfold World.setRow
      simp [Array.getElem?_modify, show g ≠ k by omega]
    rw [e]
    exact h.block k hk⟩

/-! ### Numbers of 64 bits, bits by bits -/
theorem u64_wrap {n : Nat} (h : n < 2 ^ 64) : IntKind.u64.wrap (n : Int) = (n : Int) := by
  unfold IntKind.wrap
  simp [IntKind.signed, IntKind.bits]
  omega
theorem or_u64 {a b : Nat} (ha : a < 2 ^ 64) (hb : b < 2 ^ 64) : bits BinOp.or IntKind.u64 (a : Int) (b : Int) = ((a ||| b : Nat) : Int) := by
  have hab : a ||| b < 2 ^ 64 := Nat.or_lt_two_pow ha hb
  unfold bits
  simp only [BitVec.ofInt_natCast]
  show IntKind.u64.wrap (((BitVec.ofNat 64 a ||| BitVec.ofNat 64 b).toNat : Nat) : Int) = _
  rw [BitVec.toNat_or, BitVec.toNat_ofNat, BitVec.toNat_ofNat, Nat.mod_eq_of_lt ha, Nat.mod_eq_of_lt hb]
  exact u64_wrap hab
theorem or_step (l : List UInt8) {k : Nat} (hk : k < 8) (b : UInt8) : bits BinOp.or IntKind.u64 ((leN l k : Nat) : Int) (IntKind.u64.wrap (IntKind.u64.wrap (b.toNat : Int) * 2 ^ (8 * k))) = ((leN l k + b.toNat * 2 ^ (8 * k) : Nat) : Int) := by
  have h1 := leN_lt l k
  have h2 := b.toNat_lt
  have h3 : 2 ^ (8 * (k + 1)) ≤ 2 ^ 64 := Nat.pow_le_pow_right (by omega) (by omega)
  have h4 : b.toNat * 2 ^ (8 * k) < 2 ^ 64 := by
    have : b.toNat * 2 ^ (8 * k) ≤ 255 * 2 ^ (8 * k) := Nat.mul_le_mul_right _ (by omega)
    have e : 2 ^ (8 * (k + 1)) = 256 * 2 ^ (8 * k) := by rw [Nat.mul_add, Nat.pow_add]; simp [Nat.mul_comm]
    omega
  have h5 : 2 ^ (8 * k) ≤ 2 ^ 64 := Nat.pow_le_pow_right (by omega) (by omega)
  rw [u64_wrap (n := b.toNat) (by omega)]
  have e : ((b.toNat : Int) * 2 ^ (8 * k)) = ((b.toNat * 2 ^ (8 * k) : Nat) : Int) := by simp
  rw [e, u64_wrap h4, or_u64 (by omega) h4]
  congr 1
  rw [Nat.or_comm, ← Nat.shiftLeft_eq, ← Nat.shiftLeft_add_eq_or_of_lt h1, Nat.add_comm]

/-! ### Many cells stored -/
def setC (C : Array Value) : Nat → List Value → Array Value
  | _, [] => C
  | o, v :: r => setC (C.setIfInBounds o v) (o + 1) r
def setP (P : List Int) : Nat → List Int → List Int
  | _, [] => P
  | o, v :: r => setP (P.set o v) (o + 1) r
theorem Blk.setCells {b : Nat} {t : TypeId} : ∀ (vs : List Value) (o : Nat) (w : World) (cs : Array Value), Blk w b cs t → Blk (w.setCells b o vs) b (setC cs o vs) t
  | [], _, _, _, h => h
  | v :: r, o, w, cs, h => Blk.setCells r (o + 1) _ _ (h.set o v)
theorem Off.setCells {B : Nat} {a : World} : ∀ (vs : List Value) (o : Nat) (w : World), Off B a w → Off B a (w.setCells B o vs)
  | [], _, _, h => h
  | v :: r, o, w, h => Off.setCells r (o + 1) _ (h.set o v)
theorem setC_root (n : Int) : ∀ (vs : List Int) (o : Nat) (P : List Int), setC (rcells ⟨n, P⟩) (o + 1) (vs.map (Value.int .u8)) = rcells ⟨n, setP P o vs⟩
  | [], _, _ => rfl
  | v :: r, o, P => by
    have e : (rcells ⟨n, P⟩).setIfInBounds (o + 1) (Value.int .u8 v) = rcells ⟨n, P.set o v⟩ := by simp [rcells, List.map_set]
    show setC ((rcells ⟨n, P⟩).setIfInBounds (o + 1) (Value.int .u8 v)) (o + 1 + 1) (r.map (Value.int .u8)) = _
    rw [e]
    exact setC_root n r (o + 1) (P.set o v)
theorem setP_eq : ∀ (vs : List Int) (o : Nat) (P : List Int), o + vs.length ≤ P.length → setP P o vs = P.take o ++ vs ++ P.drop (o + vs.length)
  | [], o, P, _ => by simp [setP]
  | v :: r, o, P, h => by
    simp at h
    rw [setP, setP_eq r (o + 1) (P.set o v) (by simp; omega)]
    have e1 : (P.set o v).take (o + 1) = P.take o ++ [v] := by
      rw [List.take_add_one, List.take_set_of_le (Nat.le_refl _)]
      simp [show o < P.length by omega]
    rw [e1, List.drop_set_of_lt (by omega)]
    simp [Nat.add_comm, Nat.add_left_comm]

/-- 'copy(dst, s)', s A STRING that is no shorter than dst. -/
theorem run_copy_cut {P : Program} (w : World) (dT sT ty elem : TypeId) (b o dLen dCap : Nat) (t : ByteArray)
    (hu : P.underlying dT = some (.slice elem)) (hz : ∀ w, (Go.sizeOf elem).run P w = .ok 1 w) (hle : dLen ≤ t.size)
    (hc : ∀ j, j < dLen → (w.cell? ⟨b, o + j, none⟩).isSome = true) (hf : ∀ j, j < dLen → w.frozen? ⟨b, o + j, none⟩ = false) :
    (Builtin.copy_ #[dT, sT] ty #[.slice (some ⟨b, o, none⟩) dLen dCap, .string t]).run P w = .ok (goInt dLen) (w.setCells b o ((t.data.toList.map fun x => Value.int .u8 (x.toNat : Int)).take dLen)) := by
  have hmin : Nat.min t.size dLen = dLen := Nat.min_eq_right hle
  have hl : ((t.data.toList.map fun x => Value.int .u8 (x.toNat : Int)).take dLen).length = dLen := by rw [List.length_take, List.length_map]; exact Nat.min_eq_left (by simpa using hle)
  have hst := run_storeCells_cells (P := P) b o ((t.data.toList.map fun x => Value.int .u8 (x.toNat : Int)).take dLen) 0 w (by rw [hl]; simpa using hc) (by rw [hl]; simpa using hf) (by
    intro v hv
    obtain ⟨x, _, rfl⟩ := List.mem_map.1 (List.mem_of_mem_take hv)
    rfl)
  simp [Builtin.copy_, run_underlying hu, Builtin.lenOf, Builtin.firstCells, hz, hmin]
  rw [hst]
  rfl
theorem step_copy_cut {P : Program} {ops : Array Oper} {o : Oper} {a : Act} {w : World} {K : Act → World → Prop} {Q : Exit → Act → World → Prop} {E : Prop}
    (hg : o.guard = none) (d x : Operand) (dT sT : TypeId) (hop : o.op = Op.call { callee := Callee.builtin Builtin.copy, args := #[d, x], argTypes := #[dT, sT] })
    (elem : TypeId) (hu : P.underlying dT = some (.slice elem)) (hz : ∀ w, (Go.sizeOf elem).run P w = .ok 1 w)
    (b off dLen dCap : Nat) (hd : a.eval d = .slice (some ⟨b, off, none⟩) dLen dCap) (t : ByteArray) (hx : a.eval x = .string t) (hle : dLen ≤ t.size)
    (hc : ∀ j, j < dLen → (w.cell? ⟨b, off + j, none⟩).isSome = true) (hf : ∀ j, j < dLen → w.frozen? ⟨b, off + j, none⟩ = false)
    (hK : K (a.put o.dst (goInt dLen)) (w.setCells b off ((t.data.toList.map fun x => Value.int .u8 (x.toNat : Int)).take dLen))) :
    if Region.wanted o (yielded ops a.tmps) = true then Oper.wp P o a w K Q else E := by
  have hw : Region.wanted o (yielded ops a.tmps) = true := by simp [Region.wanted, hg]
  rw [if_pos hw]
  have hrun := run_copy_cut (P := P) w dT sT o.type elem b off dLen dCap t hu hz hle hc hf
  unfold Oper.wp
  simp [execOp, hop, resolve, invoke, builtin, hd, hx, hrun, Result.andThen]
  exact hK
/-- The bytes of a root's text, as far as they are read. -/
def upP (l : List UInt8) (k : Nat) : List Int := (l.take (8 * k)).map (fun b => (b.toNat : Int)) ++ List.replicate (64 - 8 * k) 0
theorem upP_step {l : List UInt8} (hl : l.length = 64) {k : Nat} (hk : k < 8) : setP (upP l k) (8 * k) (((l.drop (8 * k)).take 8).map fun b => (b.toNat : Int)) = upP l (k + 1) := by
  have h8 : (((l.drop (8 * k)).take 8).map fun b => (b.toNat : Int)).length = 8 := by simp [hl]; omega
  have hlm : ((l.take (8 * k)).map fun b => (b.toNat : Int)).length = 8 * k := by simp [hl]; omega
  rw [setP_eq _ _ _ (by rw [h8]; simp [upP, hl]; omega), h8]
  have e1 : (upP l k).take (8 * k) = (l.take (8 * k)).map fun b => (b.toNat : Int) := by
    unfold upP
    rw [List.take_append_of_le_length (by omega), List.take_of_length_le (by omega)]
  have e2 : (upP l k).drop (8 * k + 8) = List.replicate (64 - 8 * (k + 1)) 0 := by
    unfold upP
    rw [List.drop_append, List.drop_of_length_le (by omega), hlm, List.drop_replicate, List.nil_append]
    congr 1
    omega
  rw [e1, e2]
  unfold upP
  rw [Nat.mul_add, List.take_add, List.map_append]
theorem upP_all {l : List UInt8} (hl : l.length = 64) : upP l 8 = l.map fun b => (b.toNat : Int) := by
  unfold upP
  rw [List.take_of_length_le (by omega)]
  simp

set_option maxHeartbeats 1000000 in
set_option maxRecDepth 100000 in
theorem root_small {w : World} {B : Nat} {D : DS} (h : DiskAt w B D) (hs : (sec D 0).size ≠ 72) :
    Calls Try.prog 25 #[.pointer (some ⟨B, 0, none⟩)] w fun e w' => e = .returned (.agg (rcells (root D))) ∧ Below w.heap.size w w' := by
  have e0 : root D = RS0 := by unfold root rootOf; rw [if_neg hs]
  have hz := zero_root
  have hinf := RS.info (R := RS0) rfl
  have hone := rcells_one RS0
  rw [e0]
  generalize rcells RS0 = Z at *
  clear e0
  obtain ⟨s, hse⟩ : ∃ s, sec D 0 = s := ⟨_, rfl⟩
  have HS := Lib.hid hse
  rw [hse] at hs
  clear hse
  have hsb : ((s.size : Int) != 72) = true := by rw [bne_iff_ne]; omega
  clear hs
  go_enter Try.func25, Try.ntmps25
  go_wp2_with fail
  refine (read_zero ((h.alloc _).alloc _) HS).mono ?_
  rintro e w' ⟨rfl, rfl⟩
  have b0 : Blk ((w.alloc (.cells Z 66)).alloc (.cells Z 66)) w.heap.size Z 66 := (Blk.new _ _ _).alloc _
  have b1 : Blk ((w.alloc (.cells Z 66)).alloc (.cells Z 66)) (w.heap.size + 1) Z 66 := by simpa using Blk.new (w.alloc (.cells Z 66)) Z 66
  have hbel : Below w.heap.size w ((w.alloc (.cells Z 66)).alloc (.cells Z 66)) := ((Below.refl _ _).alloc (Nat.le_refl _) _).alloc (by simp) _
  generalize (w.alloc (.cells Z 66)).alloc (.cells Z 66) = w2 at *
  go_wp2_with (first
    | (refine wpList_load_row rfl 66 (.tmp 3) rfl (w.heap.size + 1) rfl 66 Z (0, 0) _ b1 Try.underlying66 rfl hinf ?_)
    | (refine wpList_store_row rfl 66 (.tmp 2) (.tmp 16) rfl w.heap.size Z rfl rfl 66 Z b0 hinf rfl hone ?_))
  have b2 : Blk (w2.setRow w.heap.size Z) w.heap.size Z 66 := by
    unfold Blk World.setRow
    simp [Array.getElem?_modify, show w2.heap[w.heap.size]? = _ from b0]
  refine bodyPost_ret (v := .agg Z) (results_cell_row Try.results25 _ _ w.heap.size 66 Z (0, 0) _ rfl b2 Try.underlying66 rfl hinf) rfl ⟨rfl, ?_⟩
  exact hbel.setRow (Nat.le_refl _) _

theorem Try.size5 (w : World) : (Go.sizeOf 5).run Try.prog w = .ok 1 w := by kernel_rfl

set_option maxHeartbeats 1000000 in
set_option maxRecDepth 100000 in
theorem root_big {w : World} {B : Nat} {D : DS} (h : DiskAt w B D) (hs : (sec D 0).size = 72) :
    Calls Try.prog 25 #[.pointer (some ⟨B, 0, none⟩)] w fun e w' => e = .returned (.agg (rcells (root D))) ∧ Below w.heap.size w w' := by
  have hz := zero_root
  have hinf := RS.info (R := RS0) rfl
  obtain ⟨Z, hZ⟩ : ∃ Z, Z = rcells RS0 := ⟨_, rfl⟩
  rw [← hZ] at hz hinf
  have HZ := Lib.hid hZ
  clear hZ
  obtain ⟨s, hse⟩ : ∃ s, sec D 0 = s := ⟨_, rfl⟩
  have HS := Lib.hid hse
  rw [hse] at hs
  have hroot : root D = ⟨leN s.data.toList 8, (s.data.toList.drop 8).map fun b => (b.toNat : Int)⟩ := by unfold root rootOf; rw [hse, if_pos hs]
  have HR := Lib.hid hroot
  clear hse hroot
  have hsb : ((s.size : Int) != 72) = false := by simp [hs]
  have HL : Hid (s.data.toList.length = 72) := Lib.hid (by simpa using hs)
  have hs1 : (s.size : Int) ≤ 72 := by omega
  have hs2 : (72 : Int) ≤ s.size := by omega
  clear hs
  go_enter Try.func25, Try.ntmps25
  go_wp2_with fail
  refine (read_zero ((h.alloc _).alloc _) HS).mono ?_
  rintro e w' ⟨rfl, rfl⟩
  have b0 : Blk ((w.alloc (.cells Z 66)).alloc (.cells Z 66)) w.heap.size Z 66 := (Blk.new _ _ _).alloc _
  have b1 : RootAt ((w.alloc (.cells Z 66)).alloc (.cells Z 66)) (w.heap.size + 1) RS0 := by unfold RootAt; rw [← HZ.out]; simpa using Blk.new (w.alloc (.cells Z 66)) Z 66
  have hbel : Below w.heap.size w ((w.alloc (.cells Z 66)).alloc (.cells Z 66)) := ((Below.refl _ _).alloc (Nat.le_refl _) _).alloc (by simp) _
  generalize (w.alloc (.cells Z 66)).alloc (.cells Z 66) = w2 at *
  go_wp2_with fail
  go_loopw [17, 6] (fun c _ wr => ∃ k : Nat, k ≤ 8 ∧ c = .int .i64 (k : Int) ∧ RootAt wr (w.heap.size + 1) ⟨leN s.data.toList k, List.replicate 64 0⟩ ∧ Off (w.heap.size + 1) w2 wr) (fun c _ _ => 8 - (intOf c).toNat)
  case atStart => exact ⟨0, by omega, rfl, b1, Off.refl _ _⟩
  case round =>
    obtain ⟨k, hk, rfl, hR, hO⟩ := hrel
    have c0 := hR.c0
    have f0 := Blk.free hR 0
    simp only at c0
    by_cases hlt : k < 8
    · have hk1 : (k : Int) < s.size := by omega
      have hk0 : (0 : Int) ≤ (k : Int) := by omega
      have HO := Lib.hid (or_step s.data.toList hlt s[k])
      have hg : (s.data.toList.getD k 0) = s[k] := by simp [List.getD_eq_getElem?_getD, show k < s.size by omega]; rfl
      go_wp2_with fail
      go_region
      rw [HO.out]
      have hR2 := hR.setn ((leN s.data.toList k + s[k].toNat * 2 ^ (8 * k) : Nat) : Int)
      have hO2 := hO.set 0 (.int .u64 ((leN s.data.toList k + s[k].toNat * 2 ^ (8 * k) : Nat) : Int))
      have hR3 : RootAt (wr.setCell ⟨w.heap.size + 1, 0, none⟩ (.int .u64 ((leN s.data.toList k + s[k].toNat * 2 ^ (8 * k) : Nat) : Int))).drew (w.heap.size + 1) ⟨leN s.data.toList (k + 1), List.replicate 64 0⟩ := by
        rw [leN, hg]
        exact hR2
      have hO3 := hO2.drew
      clear hR2 hO2 HO hg c0 f0 hR
      generalize (wr.setCell ⟨w.heap.size + 1, 0, none⟩ (.int .u64 ((leN s.data.toList k + s[k].toNat * 2 ^ (8 * k) : Nat) : Int))).drew = w3 at *
      go_wp2
      go_roundw
      case rel => exact ⟨k + 1, by omega, by go_num, hR3, hO3⟩
      case measure => simp [intOf]; omega
    · obtain rfl : k = 8 := by omega
      have hO1 := hO
      clear c0 f0 hO
      obtain ⟨wl, hwl⟩ : ∃ wl, wl = wr := ⟨_, rfl⟩
      rw [← hwl] at hR hO1 ⊢
      clear hwl
      rw [show (((8 : Nat) : Int)) = 8 from rfl]
      go_wp2_with fail
      go_loopw [32, 7] (fun c _ wr => ∃ k : Nat, k ≤ 8 ∧ c = .int .i64 (k : Int) ∧ RootAt wr (w.heap.size + 1) ⟨leN s.data.toList 8, upP (s.data.toList.drop 8) k⟩ ∧ Off (w.heap.size + 1) w2 wr) (fun c _ _ => 8 - (intOf c).toNat)
      case atStart => exact ⟨0, by omega, rfl, by simpa [upP] using hR, hO1⟩
      case round =>
        obtain ⟨k, hk, rfl, hR, hO⟩ := hrel
        by_cases hlt : k < 8
        · have hk1 : (k : Int) < 8 := by omega
          have hk0 : (0 : Int) ≤ (k : Int) := by omega
          have hk2 : (8 : Int) + (k : Int) * 8 ≤ s.size := by omega
          have hcs : ∀ j, j < 8 → (wr.cell? ⟨w.heap.size + 1, 1 + k * 8 + j, none⟩).isSome = true := by
            intro j hj
            rw [Blk.cell hR]
            have := HL.out
            simp [rcells, upP]
            omega
          have hfz : ∀ j, j < 8 → wr.frozen? ⟨w.heap.size + 1, 1 + k * 8 + j, none⟩ = false := fun j _ => Blk.free hR _
          have hle : 8 ≤ (s.extract (8 + k * 8) s.size).size := by simp [ByteArray.size_extract]; omega
          have i1 : (0 : Int) ≤ 8 + (k : Int) * 8 := by omega
          have i2 : (8 + (k : Int) * 8).toNat = 8 + k * 8 := by omega
          have i3 : IntKind.i64.wrap ((k : Int) * 8) = (k : Int) * 8 := IntWalk.i64_in _ (by omega)
          have i4 : IntKind.i64.wrap (8 + (k : Int) * 8) = 8 + (k : Int) * 8 := IntWalk.i64_in _ (by omega)
          have hsz := Try.size5
          go_wp2_with fail
          go_region_law (refine step_copy_cut (by rfl) (.tmp 38) (.tmp 43) 69 9 (by rfl) 5 Try.underlying69 hsz (w.heap.size + 1) (1 + k * 8) 8 8 (by simp [Act.eval, Act.put]) (s.extract (8 + k * 8) s.size) (by simp [Act.eval, Act.put]) hle hcs hfz ?_)
          have hVS : List.take 8 (List.take (s.size - (8 + k * 8)) (List.drop (8 + k * 8) (List.map (fun x : UInt8 => Value.int IntKind.u8 (x.toNat : Int)) s.data.toList))) = ((((s.data.toList.drop 8).drop (8 * k)).take 8).map fun b : UInt8 => (b.toNat : Int)).map (Value.int .u8) := by
            have h72 := HL.out
            simp at h72
            rw [List.take_take, Nat.min_eq_left (by omega), List.drop_drop, ← List.map_drop, ← List.map_take, List.map_map, Nat.mul_comm k 8]
            rfl
          rw [hVS]
          have hl64 : (s.data.toList.drop 8).length = 64 := by have := HL.out; simp at this ⊢; omega
          have hR2 : RootAt (wr.drew.setCells (w.heap.size + 1) (1 + k * 8) (((((s.data.toList.drop 8).drop (8 * k)).take 8).map fun b : UInt8 => (b.toNat : Int)).map (Value.int .u8))) (w.heap.size + 1) ⟨leN s.data.toList 8, upP (s.data.toList.drop 8) (k + 1)⟩ := by
            have h1 := Blk.setCells (((((s.data.toList.drop 8).drop (8 * k)).take 8).map fun b : UInt8 => (b.toNat : Int)).map (Value.int .u8)) (1 + k * 8) wr.drew _ hR
            rw [Nat.add_comm 1, setC_root, Nat.mul_comm k 8, upP_step hl64 hlt] at h1
            rw [Nat.add_comm 1, Nat.mul_comm k 8]
            exact h1
          have hO2 := Off.setCells (((((s.data.toList.drop 8).drop (8 * k)).take 8).map fun b : UInt8 => (b.toNat : Int)).map (Value.int .u8)) (1 + k * 8) wr.drew hO.drew
          clear hVS hl64 hcs hfz hle i1 i2 i3 i4
          generalize wr.drew.setCells (w.heap.size + 1) (1 + k * 8) (((((s.data.toList.drop 8).drop (8 * k)).take 8).map fun b : UInt8 => (b.toNat : Int)).map (Value.int .u8)) = w3 at *
          go_wp2
          go_roundw
          case rel => exact ⟨k + 1, by omega, by go_num, hR2, hO2⟩
          case measure => simp [intOf]; omega
        · obtain rfl : k = 8 := by omega
          have hl64 : (s.data.toList.drop 8).length = 64 := by have := HL.out; simp at this ⊢; omega
          have hR1 : RootAt wr (w.heap.size + 1) (root D) := by rw [HR.out, ← upP_all hl64]; exact hR
          have hRi := RS.info (R := root D) (root_ok D).len
          have hRo := rcells_one (root D)
          have b0' := b0.off hO (by omega)
          have hsz2 : Z.size = (rcells (root D)).size := by rw [HZ.out, rcells_size rfl, rcells_size (root_ok D).len]
          clear hR HR HL hl64
          unfold RootAt at hR1
          obtain ⟨Z2, hZ2⟩ : ∃ Z2, Z2 = rcells (root D) := ⟨_, rfl⟩
          rw [← hZ2] at hR1 hRi hRo hsz2
          have HZ2 := Lib.hid hZ2
          clear hZ2
          rw [show (((8 : Nat) : Int)) = 8 from rfl]
          go_wp2_with (first
            | (refine wpList_load_row rfl 66 (.tmp 3) rfl (w.heap.size + 1) rfl 66 Z2 (0, 0) _ hR1 Try.underlying66 rfl hRi ?_)
            | (refine wpList_store_row rfl 66 (.tmp 2) (.tmp 46) rfl w.heap.size Z2 rfl rfl 66 Z b0' hRi hsz2 hRo ?_))
          have b2 : Blk (wr.setRow w.heap.size Z2) w.heap.size Z2 66 := by
            unfold Blk World.setRow
            simp [Array.getElem?_modify, show wr.heap[w.heap.size]? = _ from b0']
          refine bodyPost_ret (v := .agg Z2) (results_cell_row Try.results25 _ _ w.heap.size 66 Z2 (0, 0) _ rfl b2 Try.underlying66 rfl hRi) rfl ⟨by rw [HZ2.out], ?_⟩
          exact (hbel.trans ((hO.toBelow (by have := Blk.lt b0; omega)).mono (by omega))).setRow (Nat.le_refl _) _

theorem readRoot_any {w : World} {B : Nat} {D : DS} (h : DiskAt w B D) :
    Calls Try.prog 25 #[.pointer (some ⟨B, 0, none⟩)] w fun e w' => e = .returned (.agg (rcells (root D))) ∧ Below w.heap.size w w' := by
  by_cases hs : (sec D 0).size = 72
  · exact root_big h hs
  · exact root_small h hs
end Go.Proofs.Ytikaeblmjlfgcaa
