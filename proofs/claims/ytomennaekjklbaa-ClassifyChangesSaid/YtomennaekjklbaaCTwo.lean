/- What the laws over entries share: two boxes stored, entries compared, loaded, appended; by-name template (gen_ctwo.py). -/
import Derived.Test.YtomennaekjklbaaCSplitY
import Derived.Test.YtomennaekjklbaaCPtsA
import Derived.Test.YtomennaekjklbaaCPts
import Derived.Test.YtomennaekjklbaaCRPts
import Derived.Test.YtomennaekjklbaaCPtF
namespace Go.Proofs.Ytomennaekjklbaa
open Go.RowKit Go.Lib Go.Sort
set_option maxRecDepth 100000
set_option linter.unusedVariables false
set_option linter.unusedSimpArgs false

theorem two_mid (w : World) (LV : Array Value) (t : TypeId) (Z : Array Value) : (World.setRow ((w.alloc (.cells Z t)).alloc (.cells Z t)) w.heap.size LV).heap[w.heap.size + 1]? = some (.cells Z t) := by
  rw [setRow_other (by omega)]; exact al_new (al_size _ _).symm _

theorem two_end {w wy : World} {Z LV HV : Array Value} {t : TypeId} (e : wy = World.setRow (World.setRow ((w.alloc (.cells Z t)).alloc (.cells Z t)) w.heap.size LV) (w.heap.size + 1) HV) :
    wy.heap[w.heap.size]? = some (.cells LV t) ∧ wy.heap[w.heap.size + 1]? = some (.cells HV t) ∧ (∀ (g : Nat) (o : Obj), w.heap[g]? = some o → wy.heap[g]? = some o) ∧ ∀ w0 : World, Below w0.heap.size w0 w → Below w0.heap.size w0 wy := by
  subst e
  refine ⟨?_, ?_, fun g o h => ?_, fun w0 h => ?_⟩
  · rw [setRow_other (by omega)]; exact blk_setRow (blk_al (heap_alloc_new w _) _) LV
  · exact blk_setRow (two_mid w LV t Z) HV
  · have := blk_lt h
    rw [setRow_other (by omega), setRow_other (by omega)]; exact blk_al (blk_al h _) _
  · have := h.size
    exact Below.setRow (Below.setRow (bel_via h (Below.al (Below.al (Below.refl _ _) _) _)) (by omega) _) (by omega) _


theorem eq_inD (d : Nat) (a b : Nat → R4) (w : World) : (Op.equalIn (d + 5) 30 (.agg (bxc a)) (.agg (bxc b))).run Try.prog w = .ok (eqB a b) w := by
  have H := eq_arrD (d + 3) a b w (fun r s W => eq_rng d r s W)
  have pa : ∀ W, (part 28 (bxc a) 0).run Try.prog W = .ok (.agg (bxc a)) W := fun W => by kernel_rfl
  have pb : ∀ W, (part 28 (bxc b) 0).run Try.prog W = .ok (.agg (bxc b)) W := fun W => by kernel_rfl
  generalize bxc a = A at *
  generalize bxc b = B at *
  generalize eqB a b = R at *
  rw [run_equalIn_struct w (d + 4) 30 _ _ (by kernel_rfl) (by kernel_rfl)]
  rw [show (Try.prog.fieldsOf 30).toList = [{ name := "F", type := 28, offset := 0, embedded := false, tag := "", pkgPath := "", byteOffset := 0 }] from by kernel_rfl]
  rw [eqF_cons (by decide) (pa w) (pb w) H]
  cases R <;> rfl
def eqE (x y : EN) : Bool := eqB x.bx y.bx && x.ru == y.ru
theorem eqE_refl (x : EN) : eqE x x = true := by unfold eqE; rw [eqB_refl]; simp
theorem eq_enD (d : Nat) (x y : EN) (w : World) : (Op.equalIn (d + 6) 32 (.agg (enA x)) (.agg (enA y))).run Try.prog w = .ok (eqE x y) w := by
  have H := eq_inD d x.bx y.bx w
  have pa : ∀ W, (part 30 (enA x) 0).run Try.prog W = .ok (.agg (bxc x.bx)) W := fun W => by kernel_rfl
  have pb : ∀ W, (part 30 (enA y) 0).run Try.prog W = .ok (.agg (bxc y.bx)) W := fun W => by kernel_rfl
  have qa : ∀ W, (part 3 (enA x) 24).run Try.prog W = .ok (.int .i64 x.ru) W := fun W => by kernel_rfl
  have qb : ∀ W, (part 3 (enA y) 24).run Try.prog W = .ok (.int .i64 y.ru) W := fun W => by kernel_rfl
  unfold eqE
  generalize bxc x.bx = A at *
  generalize bxc y.bx = B at *
  generalize eqB x.bx y.bx = R at *
  generalize enA x = X at *
  generalize enA y = Y at *
  rw [run_equalIn_struct w (d + 5) 32 _ _ (by kernel_rfl) (by kernel_rfl)]
  rw [show (Try.prog.fieldsOf 32).toList = [{ name := "Box", type := 30, offset := 0, embedded := false, tag := "", pkgPath := "", byteOffset := 0 }, { name := "Rule", type := 3, offset := 24, embedded := false, tag := "", pkgPath := "", byteOffset := 192 }] from by kernel_rfl]
  rw [eqF_cons (by decide) (pa w) (pb w) H]
  rw [eqF_cons (by decide) (qa w) (qb w) (run_equalIn_int w (d + 4) 3 .i64 .i64 x.ru y.ru Try.underlying3)]
  cases R <;> cases (x.ru == y.ru) <;> rfl
theorem neq_en (x y : EN) (w : World) : (binOp .neq 32 (.agg (enA x)) (.agg (enA y))).run Try.prog w = .ok (.bool (!eqE x y)) w := by
  rw [run_neq_struct]
  rw [show (10000 : Nat) = 9994 + 6 from rfl, eq_enD 9994 x y w]
  rfl
theorem quiet_load_cells {P : Program} {ops : Array Oper} {C : World → Prop} {Q : Act → Prop} {a : Act} {o : Oper} {rest : List Oper} (hw : Region.wanted o (yielded ops a.tmps) = true) (ty : TypeId) (x : Operand) (ho : o.op = .load ty x)
    (ad : Addr) (hx : a.eval x = .pointer (some ad)) (cs : Array Value) (d : TypeDesc) (hg : ∀ w, C w → ∀ j v, cs.toList[j]? = some v → w.cell? (ad.add j) = some v)
    (hu : P.underlying ty = some d) (hd : (match d with | .struct _ | .array _ _ => true | _ => false) = true) (hi : (P.info? ty).map (·.size) = some cs.size)
    (h : wpQuiet P ops C Q rest (a.put o.dst (.agg cs))) : wpQuiet P ops C Q (o :: rest) a :=
  wpQuiet_step fun K hK => by
    rw [if_pos hw]
    refine ⟨.agg cs, fun w hC => ?_, hK _ h⟩
    unfold Oper.quietAt execOp
    simp only [ho, hx, Instr.loadAt, Instr.sureAddr, Sem.run_bind, Sem.run_pure, Result.andThen_ok, run_loadVar_cells w ad ty cs d (hg w hC) hu hd hi]
    exact ⟨rfl, rfl⟩
theorem rg_cells {w1 : World} {ad : Addr} {cs : Array Value} (h : ∀ j v, cs.toList[j]? = some v → w1.cell? (ad.add j) = some v) : ∀ w', (∃ p : Regrown, w' = grow (redrawn w1 p.d) p.os) → ∀ j v, cs.toList[j]? = some v → w'.cell? (ad.add j) = some v := fun w' ⟨p, hp⟩ j v hj => by
  rw [hp]; exact keepc (below_regrown w1 p.d p.os) (h j v hj)
theorem en_info : (Try.prog.info? 32).map (fun i => (i.zero, i.size, i.bytes)) = some (some (.agg #[.int .u64 0, .int .u64 0, .int .u64 0, .int .u64 0, .int .u64 0, .int .u64 0, .int .u64 0, .int .u64 0, .int .u64 0, .int .u64 0, .int .u64 0, .int .u64 0, .int .u64 0, .int .u64 0, .int .u64 0, .int .u64 0, .int .u64 0, .int .u64 0, .int .u64 0, .int .u64 0, .int .u64 0, .int .u64 0, .int .u64 0, .int .u64 0, .int .i64 0]), 25, 200) := by kernel_rfl
theorem grown_refl (w : World) (r : Option Nat) : w.grownBy w r := ⟨rfl, rfl, rfl, Nat.le_refl _, fun _ _ _ => rfl⟩
/-- What came in (nil, too) is appended to a row of one's own. -/
theorem app_sl {P : Program} {w : World} {ops : Array Oper} {rest : List Oper} {o : Oper} {a : Act} {Q : Exit → Act → World → Prop} (hgd : o.guard = none) (s x : Operand) (t : TypeId)
    (ho : o.op = .call { callee := .builtin .append, args := #[s, x], argTypes := #[t, t] })
    (base : Nat) (e : TypeId) (i : TypeInfo) (z : Value) (size bytes : Nat) (ht : P.underlying t = some (.slice e)) (hi : P.info? e = some i) (hz : i.zero = some z)
    (hsize : i.size = size) (hby : i.bytes = bytes) (hzs : z.cells.size = size) (hsz : 0 < size)
    (v : Value) (m : Nat) (xs : List Value) (hs : a.eval s = v) (hown : w.ownsRow base e size v m xs)
    {α : Type} (enc : α → List Value) (henc : ∀ y, (enc y).length = size) (A : Option Addr) (n c : Nat) (l : List α) (hS : Sl w size enc A n l) (hc : A = none → c = 0) (hx : a.eval x = .slice A n c)
    (h1 : ∀ y, ∀ u ∈ enc y, u.oneCell' = true) (h63 : m + n ≤ maxLen) (hbytes : (m + n) * bytes ≤ 140737488355328) (hbase : base ≤ w.heap.size)
    (h : ∀ v' w', w'.ownsRow base e size v' (m + n) (xs ++ l.flatMap enc) → w.grownBy w' v.ownBlock → wpList P ops Q rest (a.put o.dst v') w') : wpList P ops Q (o :: rest) a w := by
  cases A with
  | none =>
    have hn : n = 0 := by
      apply Classical.byContradiction; intro hh
      obtain ⟨b, off, hA, _⟩ := hS.row (by omega)
      cases hA
    subst hn
    obtain rfl := hc rfl
    have e0 : l = [] := List.eq_nil_of_length_eq_zero hS.len
    subst e0
    refine wpList_append_own_none hgd s x t ho base e i size ht hi v m xs hs hown hx ?_
    exact h v w (by simpa using hown) (grown_refl w _)
  | some ad =>
    refine wpList_append_own _ hgd s x t ho base e i z size bytes ht hi hz hsize hby hzs hsz v m xs hs hown ad n c (l.flatMap enc) hx (by rw [flat_len henc, hS.len]) (hS.news henc rfl) (fun u hu => ?_) h63 hbytes hbase fun v' w' h2 h3 _ => h v' w' h2 h3
    obtain ⟨y, _, hy⟩ := List.mem_flatMap.1 hu
    exact h1 y u hy
theorem en25_len (e : EN) : (enc25 e).length = 25 := rfl
theorem en25_one (e : EN) : ∀ u ∈ enc25 e, u.oneCell' = true := by
  have := en_one e
  unfold enA at this
  rw [List.all_toArray] at this
  exact fun u hu => List.all_eq_true.1 this u hu
theorem en_news (w : World) (e : EN) (t : TypeId) : ∀ j u, (enc25 e)[j]? = some u → (w.alloc (.cells (enA e) t)).cell? ((⟨w.heap.size, 0, none⟩ : Addr).add j) = some u := by
  intro j u hj
  have h := heap_alloc_new w (.cells (enA e) t)
  generalize w.alloc (.cells (enA e) t) = w1 at *
  have ea : (⟨w.heap.size, 0, none⟩ : Addr).add j = ⟨w.heap.size, j, none⟩ := by unfold Addr.add; split <;> simp_all
  have g : (enA e)[j]? = some u := by rw [← Array.getElem?_toList]; exact hj
  rw [ea]; simp [World.cell?, h, g]
theorem Sl.cut {α : Type} {w : World} {k : Nat} {enc : α → List Value} {A : Option Addr} {n m : Nat} {l : List α} (h : Sl w k enc A n l) (hm : m ≤ n) : Sl w k enc A m (l.take m) :=
  ⟨by rw [List.length_take, h.len]; omega, by have := h.big; omega, fun hp => by
    obtain ⟨b, off, hA, hlt, hc⟩ := h.row (by omega)
    refine ⟨b, off, hA, hlt, fun j x hj i v hi => hc j x ?_ i v hi⟩
    rw [List.getElem?_take] at hj
    split at hj
    · exact hj
    · cases hj⟩
/-- Points, of whatever field. -/
def PL (l : List EN) (b : Nat → R4) (x : Int) : List P2 := if 0 ≤ x ∧ x < 6 then rptsL l b x.toNat else []
theorem pts_all (A : Option Addr) (n c : Nat) (l : List EN) (b : Nat → R4) (x : Int) (hn : n ≤ 512) (hw : ∀ e ∈ l, WB e.bx) (w : World) (hS : Sl w 25 enc25 A n l) : Calls Try.prog 53 #[.slice A n c, .agg (bxc b), .int .i64 x] w (PtsPost w (PL l b x)) := by
  unfold PL
  by_cases h : 0 ≤ x ∧ x < 6
  · rw [if_pos h]
    obtain ⟨k, rfl⟩ := Int.eq_ofNat_of_zero_le h.1
    exact pts_any A n c l b k (by omega) hn hw w hS
  · rw [if_neg h]; exact pts_out A n c b x h w
theorem rpts_all (A : Option Addr) (n c : Nat) (l : List EN) (b : Nat → R4) (x : Int) (hn : n ≤ 512) (hw : ∀ e ∈ l, WB e.bx) (w : World) (hS : Sl w 25 enc25 A n l) : Calls Try.prog 25 #[.slice A n c, .agg (bxc b), .int .i64 x] w (PtsPost w (PL l b x)) := by
  unfold PL
  by_cases h : 0 ≤ x ∧ x < 6
  · rw [if_pos h]
    obtain ⟨k, rfl⟩ := Int.eq_ofNat_of_zero_le h.1
    exact rpts_any A n c l b k (by omega) hn hw w hS
  · rw [if_neg h]; exact rpts_out A n c b x h w
theorem PL_len (l : List EN) (b : Nat → R4) (x : Int) : (PL l b x).length ≤ 2 * l.length := by
  unfold PL
  split
  · have := rpts_len l b x.toNat l.length (Nat.le_refl _)
    rwa [List.take_length] at this
  · simp
end Go.Proofs.Ytomennaekjklbaa
