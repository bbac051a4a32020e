/- The first steps of a draft; by-name template (gen_na.py). -/
import Derived.Test.YtokbmahnjmmcaaaNaD
import Derived.Deep.RegionLawGrows
namespace Go.Proofs.Ytokbmahnjmmcaaa
open Go.RowKit Go.Lib Go.Maps
set_option linter.unusedVariables false
set_option linter.unusedSimpArgs false

/-- whither a flow goes: address, port, place. -/
def dstP (c : CF) (k : KR) : Int × Int × Int × Int := match c.ns.find? (calledP c k) with
  | none => (k.dh, k.dl, k.dp, -1)
  | some n => (n.ih, n.il, (if n.kind = 2 ∧ ¬ n.frm = 0 ∧ portedP k.proto = true then n.frm else k.dp), pl (calledP c k) c.ns)
theorem destT_eq (c : CF) (k : KR) : destT c k = .tuple #[.agg #[.int .u64 (dstP c k).1, .int .u64 (dstP c k).2.1], .int .i64 (dstP c k).2.2.1, .int .i64 (dstP c k).2.2.2] := by
  unfold destT dstP
  cases c.ns.find? (calledP c k) <;> rfl
theorem dest_k (c : CF) (k : KR) {w : World} (hc : c.Ok w) : Calls Try.prog 31 #[.agg (cfc c), .agg (KA k)] w fun e w' => e = .returned (.tuple #[.agg #[.int .u64 (dstP c k).1, .int .u64 (dstP c k).2.1], .int .i64 (dstP c k).2.2.1, .int .i64 (dstP c k).2.2.2]) ∧ Below w.heap.size w w' := by
  rw [← destT_eq]; exact dest_any c k hc
theorem rdest_k (c : CF) (k : KR) {w : World} (hc : c.Ok w) : Calls Try.prog 24 #[.agg (cfc c), .agg (KA k)] w fun e w' => e = .returned (.tuple #[.agg #[.int .u64 (dstP c k).1, .int .u64 (dstP c k).2.1], .int .i64 (dstP c k).2.2.1, .int .i64 (dstP c k).2.2.2]) ∧ Below w.heap.size w w' := by
  rw [← destT_eq]; exact rdest_any c k hc
theorem source_k (c : CF) (x : Int) (k : KR) {w : World} (hc : c.Ok w) (ha : Word k.sh ∧ Word k.sl) : Calls Try.prog 33 #[.agg (cfc c), .int .i64 x, .agg (KA k)] w fun e w' => e = .returned (.int .i64 (srcP c x k)) ∧ Below w.heap.size w w' := source_any c x k hc ha
theorem rsource_k (c : CF) (x : Int) (k : KR) {w : World} (hc : c.Ok w) (ha : Word k.sh ∧ Word k.sl) : Calls Try.prog 26 #[.agg (cfc c), .int .i64 x, .agg (KA k)] w fun e w' => e = .returned (.int .i64 (srcP c x k)) ∧ Below w.heap.size w w' := rsource_any c x k hc ha
theorem route_k (c : CF) (ah al : Int) {w : World} (hc : c.Ok w) : Calls Try.prog 32 #[.agg (cfc c), .agg #[.int .u64 ah, .int .u64 al]] w fun e w' => e = .returned (.tuple #[.int .i64 (routeP c ah al).1, .int .i64 (routeP c ah al).2]) ∧ Below w.heap.size w w' := route_any c ah al hc
theorem rroute_k (c : CF) (ah al : Int) {w : World} (hc : c.Ok w) : Calls Try.prog 12 #[.agg (cfc c), .agg #[.int .u64 ah, .int .u64 al]] w fun e w' => e = .returned (.tuple #[.int .i64 (routeP c ah al).1, .int .i64 (routeP c ah al).2]) ∧ Below w.heap.size w w' := rroute_any c ah al hc
def judK (c : CF) (k : KR) : KR := { k with dh := (dstP c k).1, dl := (dstP c k).2.1, dp := (dstP c k).2.2.1 }
def judgeD (d : DR) : DR := { d with ju := judK d.c d.op, dest := (dstP d.c d.op).2.2.2 }
def wayD (d : DR) : DR := { d with ifc := (routeP d.c d.ju.dh d.ju.dl).1, zo := (routeP d.c d.ju.dh d.ju.dl).2 }
def wayR (d : DR) : Int := if (routeP d.c d.ju.dh d.ju.dl).1 = -1 then 8 else if (routeP d.c d.ju.dh d.ju.dl).2 = -1 then 3 else 0
def DPost (w : World) (B : Nat) (r : Int) (d' : DR) (e : Ending) (w' : World) : Prop := e = .returned (.int .i64 r) ∧ DAt w' B d' ∧ Off B w w'
theorem DAt.set1 {w : World} {B : Nat} {d d' : DR} (h : DAt w B d) (j : Nat) (v : Value) (e : (DA d).setIfInBounds j v = DA d') : DAt (w.setCell ⟨B, j, none⟩ v) B d' := by
  have q := heap_set h j v
  rw [e] at q
  exact q
theorem DAt.set_jud {w : World} {B : Nat} {d : DR} (h : DAt w B d) (a b : Int) : DAt (w.setCells B 3 (#[Value.int .u64 a, Value.int .u64 b]).toList) B { d with ju := { d.ju with dh := a, dl := b } } := by
  have q := setCells_heap (#[Value.int .u64 a, Value.int .u64 b]).toList 3 h
  have e : (List.foldl (fun (a : Array Value × Nat) v => (a.1.setIfInBounds a.2 v, a.2 + 1)) (DA d, 3) (#[Value.int .u64 a, Value.int .u64 b]).toList).1 = DA { d with ju := { d.ju with dh := a, dl := b } } := by kernel_rfl
  rw [e] at q
  exact q
theorem step_store_mid {P : Program} {ops : Array Oper} {op : Oper} {a : Act} {w : World} {K : Act → World → Prop} {Q : Exit → Act → World → Prop} {E : Prop} (hgd : op.guard = none) (ty : TypeId) (x y : Operand) (ho : op.op = .store ty x y)
    (b o : Nat) (cells : Array Value) (hx : a.eval x = .pointer (some ⟨b, o, none⟩)) (hy : a.eval y = .agg cells)
    (ht : w.there b o cells.size) (hi : (P.info? ty).map (·.size) = some cells.size) (h1 : cells.all (·.oneCell') = true)
    (h : K (a.put op.dst undef) (w.setCells b o cells.toList)) : if Region.wanted op (yielded ops a.tmps) = true then Oper.wp P op a w K Q else E := by
  have hw : Region.wanted op (yielded ops a.tmps) = true := by simp [Region.wanted, hgd]
  rw [if_pos hw]
  exact wp_store_mid ty x y ho b o cells hx hy ht hi h1 h
theorem yields_cells {P : Program} {ops : Array Oper} {S : World → Prop} {o : Oper} {a : Act} (hw : Region.wanted o (yielded ops a.tmps) = true) (ty : TypeId) (x : Operand) (ho : o.op = .load ty x) (ad : Addr) (hx : a.eval x = .pointer (some ad)) (cs : Array Value) (d : TypeDesc)
    (hS : ∀ w, S w → ∀ j v, cs.toList[j]? = some v → w.cell? (ad.add j) = some v) (hu : P.underlying ty = some d) (hd : (match d with | .struct _ | .array _ _ => true | _ => false) = true) (hi : (P.info? ty).map (·.size) = some cs.size) : YieldsIf P ops S o (.agg cs) a :=
  .inl ⟨hw, fun w hs => exec_cells ty x ho ad hx cs d (hS w hs) hu hd hi⟩
set_option maxRecDepth 100000 in
set_option maxHeartbeats 8000000 in
theorem judge_any (d : DR) (B : Nat) {w0 w : World} (h : DAt w B d) (hc : d.c.Ok w0) (hb : Below w0.heap.size w0 w) (hB : w0.heap.size ≤ B) : Calls Try.prog 18 #[.pointer (some ⟨B, 0, none⟩)] w (DPost w B 0 (judgeD d)) := by
  unfold DPost
  have hlt := h.lt
  have HO := Lib.hid h.k_op
  have HTH := Lib.hid (h.there (o := 0) (n := 7) (by omega))
  go_enter Try.func18, Try.ntmps18
  go_upto_region 2 with (first | ((with_reducible refine stop_op (o := ⟨some 8, _, _, _, _, _⟩) ?_); refine Lib.hid ?_; refine wpList_load_cells rfl 35 (.tmp 7) rfl ⟨B, 7, none⟩ rfl (KA d.op) _ HO.out Try.underlying35 rfl (k_inf _) ?_) | ((with_reducible refine stop_op (o := ⟨none, .store 35 (.tmp 11) (.tmp 8), _, _, _, _⟩) ?_); refine Lib.hid ?_; refine wpList_store_mid rfl 35 (.tmp 11) (.tmp 8) rfl B 0 (KA d.op) rfl rfl HTH.out (k_inf _) (k_one _) ?_))
  have h1 := h.set_ju d.op
  have o1 := setCells_off (KA d.op).toList 0 w B
  obtain ⟨w1, hw1⟩ : ∃ x, x = w.setCells B 0 (KA d.op).toList := ⟨_, rfl⟩
  rw [← hw1] at h1 o1 ⊢
  clear hw1 HO HTH
  have hc1 : d.c.Ok w1 := hc.keep (hb.trans (o1.toBelow hB hb.size))
  have cD := fun (W : World) (hW : Below w1.heap.size w1 W) => dest_k d.c d.op (hc1.keep hW)
  refine wp_region_held_drew (S := fun W1 : World => ∃ d' : DR, DAt W1 B d' ∧ (d'.c = d.c ∧ d'.op = d.op)) (by kernel_rfl) ⟨_, h1.bel (bel_dr (Below.refl _ _)), rfl, rfl⟩ (fun hH => ?_)
  clear hH
  have hD0 := h1.bel (bel_dr (Below.refl _ _))
  have hF0 := o1.drew
  have bD0 : Below w1.heap.size w1 w1.drew := bel_dr (Below.refl _ _)
  obtain ⟨wd0, hwd⟩ : ∃ x, x = w1.drew := ⟨_, rfl⟩
  rw [← hwd] at hD0 hF0 bD0 ⊢
  clear hwd
  refine wpAnyH_take (i := 0) (oi := ⟨some 13, _, _, _, _, _⟩) (v := .pointer (some ⟨B, 0, none⟩)) rfl (by kernel_rfl) (by kernel_rfl) (by kernel_rfl) (fun _ _ _ h => h) (.inl ⟨by rfl, fun W hW => by go_simp⟩) ⟨_, hD0, rfl, rfl⟩ ?_
  try simp only [Act.put, List.setIfInBounds_toArray, List.set_cons_zero, List.set_cons_succ]
  refine wpAnyH_take (i := 1) (oi := ⟨some 14, _, _, _, _, _⟩) (v := .pointer (some ⟨B, 0, none⟩)) rfl (by kernel_rfl) (by kernel_rfl) (by kernel_rfl) (fun _ _ _ h => h) (.inl ⟨by rfl, fun W hW => by go_simp⟩) ⟨_, hD0, rfl, rfl⟩ ?_
  try simp only [Act.put, List.setIfInBounds_toArray, List.set_cons_zero, List.set_cons_succ]
  refine wpAnyH_take (i := 2) (oi := ⟨some 15, _, _, _, _, _⟩) (v := .pointer (some ⟨B, 0, none⟩)) rfl (by kernel_rfl) (by kernel_rfl) (by kernel_rfl) (fun _ _ _ h => h) (.inl ⟨by rfl, fun W hW => by go_simp⟩) ⟨_, hD0, rfl, rfl⟩ ?_
  try simp only [Act.put, List.setIfInBounds_toArray, List.set_cons_zero, List.set_cons_succ]
  refine wpAnyH_take (i := 3) (oi := ⟨some 16, _, _, _, _, _⟩) (v := .pointer (some ⟨B, 0, none⟩)) rfl (by kernel_rfl) (by kernel_rfl) (by kernel_rfl) (fun _ _ _ h => h) (.inl ⟨by rfl, fun W hW => by go_simp⟩) ⟨_, hD0, rfl, rfl⟩ ?_
  try simp only [Act.put, List.setIfInBounds_toArray, List.set_cons_zero, List.set_cons_succ]
  refine wpAnyH_take (i := 4) (oi := ⟨some 17, _, _, _, _, _⟩) (v := .pointer (some ⟨B, 0, none⟩)) rfl (by kernel_rfl) (by kernel_rfl) (by kernel_rfl) (fun _ _ _ h => h) (.inl ⟨by rfl, fun W hW => by go_simp⟩) ⟨_, hD0, rfl, rfl⟩ ?_
  try simp only [Act.put, List.setIfInBounds_toArray, List.set_cons_zero, List.set_cons_succ]
  refine wpAnyH_take (i := 5) (oi := ⟨some 18, _, _, _, _, _⟩) (v := .pointer (some ⟨B, 37, none⟩)) rfl (by kernel_rfl) (by kernel_rfl) (by kernel_rfl) (fun _ _ _ h => h) (.inl ⟨by rfl, fun W hW => by go_simp⟩) ⟨_, hD0, rfl, rfl⟩ ?_
  try simp only [Act.put, List.setIfInBounds_toArray, List.set_cons_zero, List.set_cons_succ]
  refine wpAnyH_take (i := 6) (oi := ⟨some 19, _, _, _, _, _⟩) (v := .agg (cfc d.c)) rfl (by kernel_rfl) (by kernel_rfl) (by kernel_rfl) (fun _ _ _ h => h) (yields_cells (by rfl) 30 _ rfl ⟨B, 37, none⟩ rfl (cfc d.c) _ (fun W hW => by obtain ⟨d2, hd, q⟩ := hW; exact q.1 ▸ hd.k_c) Try.underlying30 rfl (c_inf _)) ⟨_, hD0, rfl, rfl⟩ ?_
  try simp only [Act.put, List.setIfInBounds_toArray, List.set_cons_zero, List.set_cons_succ]
  refine wpAnyH_take (i := 7) (oi := ⟨some 20, _, _, _, _, _⟩) (v := .pointer (some ⟨B, 0, none⟩)) rfl (by kernel_rfl) (by kernel_rfl) (by kernel_rfl) (fun _ _ _ h => h) (.inl ⟨by rfl, fun W hW => by go_simp⟩) ⟨_, hD0, rfl, rfl⟩ ?_
  try simp only [Act.put, List.setIfInBounds_toArray, List.set_cons_zero, List.set_cons_succ]
  refine wpAnyH_take (i := 8) (oi := ⟨some 21, _, _, _, _, _⟩) (v := .pointer (some ⟨B, 0, none⟩)) rfl (by kernel_rfl) (by kernel_rfl) (by kernel_rfl) (fun _ _ _ h => h) (.inl ⟨by rfl, fun W hW => by go_simp⟩) ⟨_, hD0, rfl, rfl⟩ ?_
  try simp only [Act.put, List.setIfInBounds_toArray, List.set_cons_zero, List.set_cons_succ]
  refine wpAnyH_take (i := 9) (oi := ⟨some 22, _, _, _, _, _⟩) (v := .pointer (some ⟨B, 0, none⟩)) rfl (by kernel_rfl) (by kernel_rfl) (by kernel_rfl) (fun _ _ _ h => h) (.inl ⟨by rfl, fun W hW => by go_simp⟩) ⟨_, hD0, rfl, rfl⟩ ?_
  try simp only [Act.put, List.setIfInBounds_toArray, List.set_cons_zero, List.set_cons_succ]
  refine wpAnyH_take (i := 10) (oi := ⟨some 23, _, _, _, _, _⟩) (v := .pointer (some ⟨B, 7, none⟩)) rfl (by kernel_rfl) (by kernel_rfl) (by kernel_rfl) (fun _ _ _ h => h) (.inl ⟨by rfl, fun W hW => by go_simp⟩) ⟨_, hD0, rfl, rfl⟩ ?_
  try simp only [Act.put, List.setIfInBounds_toArray, List.set_cons_zero, List.set_cons_succ]
  refine wpAnyH_take (i := 11) (oi := ⟨some 24, _, _, _, _, _⟩) (v := .agg (KA d.op)) rfl (by kernel_rfl) (by kernel_rfl) (by kernel_rfl) (fun _ _ _ h => h) (yields_cells (by rfl) 35 _ rfl ⟨B, 7, none⟩ rfl (KA d.op) _ (fun W hW => by obtain ⟨d2, hd, q⟩ := hW; exact q.2 ▸ hd.k_op) Try.underlying35 rfl (k_inf _)) ⟨_, hD0, rfl, rfl⟩ ?_
  try simp only [Act.put, List.setIfInBounds_toArray, List.set_cons_zero, List.set_cons_succ]
  refine wpAnyH_ready (rs := [12]) (by kernel_rfl) (by simp) ?_
  refine AllReadyH.cons (o := ⟨some 25, _, _, _, _, _⟩) rfl (fun K hK => ?_) AllReadyH.nil
  go_simp
  go_at_call 31
  ((with_reducible refine (cD _ bD0).mono ?_); rintro e wd1 ⟨rfl, bC1⟩)
  have hD1 := hD0.bel bC1
  have hF1 := hF0.trans (off_bel bC1)
  refine hK.out _ _ ⟨_, hD1, rfl, rfl⟩ (fun _ => ?_)
  clear hK K
  try simp only [Act.put, List.setIfInBounds_toArray, List.set_cons_zero, List.set_cons_succ]
  refine wpAnyH_take (i := 13) (oi := ⟨some 12, _, _, _, _, _⟩) (v := .tuple #[.agg #[.int .u64 (dstP d.c d.op).1, .int .u64 (dstP d.c d.op).2.1], .int .i64 (dstP d.c d.op).2.2.1, .int .i64 (dstP d.c d.op).2.2.2]) rfl (by kernel_rfl) (by kernel_rfl) (by kernel_rfl) (fun _ _ _ h => h) (.inl ⟨by rfl, fun W hW => by go_simp⟩) ⟨_, hD1, rfl, rfl⟩ ?_
  try simp only [Act.put, List.setIfInBounds_toArray, List.set_cons_zero, List.set_cons_succ]
  refine wpAnyH_take (i := 14) (oi := ⟨some 26, _, _, _, _, _⟩) (v := .agg #[.int .u64 (dstP d.c d.op).1, .int .u64 (dstP d.c d.op).2.1]) rfl (by kernel_rfl) (by kernel_rfl) (by kernel_rfl) (fun _ _ _ h => h) (.inl ⟨by rfl, fun W hW => by go_simp⟩) ⟨_, hD1, rfl, rfl⟩ ?_
  try simp only [Act.put, List.setIfInBounds_toArray, List.set_cons_zero, List.set_cons_succ]
  refine wpAnyH_take (i := 15) (oi := ⟨some 27, _, _, _, _, _⟩) (v := .int .i64 (dstP d.c d.op).2.2.1) rfl (by kernel_rfl) (by kernel_rfl) (by kernel_rfl) (fun _ _ _ h => h) (.inl ⟨by rfl, fun W hW => by go_simp⟩) ⟨_, hD1, rfl, rfl⟩ ?_
  try simp only [Act.put, List.setIfInBounds_toArray, List.set_cons_zero, List.set_cons_succ]
  refine wpAnyH_take (i := 16) (oi := ⟨some 28, _, _, _, _, _⟩) (v := .int .i64 (dstP d.c d.op).2.2.2) rfl (by kernel_rfl) (by kernel_rfl) (by kernel_rfl) (fun _ _ _ h => h) (.inl ⟨by rfl, fun W hW => by go_simp⟩) ⟨_, hD1, rfl, rfl⟩ ?_
  try simp only [Act.put, List.setIfInBounds_toArray, List.set_cons_zero, List.set_cons_succ]
  refine wpAnyH_take (i := 17) (oi := ⟨some 29, _, _, _, _, _⟩) (v := .pointer (some ⟨B, 0, none⟩)) rfl (by kernel_rfl) (by kernel_rfl) (by kernel_rfl) (fun _ _ _ h => h) (.inl ⟨by rfl, fun W hW => by go_simp⟩) ⟨_, hD1, rfl, rfl⟩ ?_
  try simp only [Act.put, List.setIfInBounds_toArray, List.set_cons_zero, List.set_cons_succ]
  refine wpAnyH_take (i := 18) (oi := ⟨some 30, _, _, _, _, _⟩) (v := .pointer (some ⟨B, 0, none⟩)) rfl (by kernel_rfl) (by kernel_rfl) (by kernel_rfl) (fun _ _ _ h => h) (.inl ⟨by rfl, fun W hW => by go_simp⟩) ⟨_, hD1, rfl, rfl⟩ ?_
  try simp only [Act.put, List.setIfInBounds_toArray, List.set_cons_zero, List.set_cons_succ]
  refine wpAnyH_take (i := 19) (oi := ⟨some 31, _, _, _, _, _⟩) (v := .pointer (some ⟨B, 0, none⟩)) rfl (by kernel_rfl) (by kernel_rfl) (by kernel_rfl) (fun _ _ _ h => h) (.inl ⟨by rfl, fun W hW => by go_simp⟩) ⟨_, hD1, rfl, rfl⟩ ?_
  try simp only [Act.put, List.setIfInBounds_toArray, List.set_cons_zero, List.set_cons_succ]
  refine wpAnyH_take (i := 20) (oi := ⟨some 32, _, _, _, _, _⟩) (v := .pointer (some ⟨B, 3, none⟩)) rfl (by kernel_rfl) (by kernel_rfl) (by kernel_rfl) (fun _ _ _ h => h) (.inl ⟨by rfl, fun W hW => by go_simp⟩) ⟨_, hD1, rfl, rfl⟩ ?_
  try simp only [Act.put, List.setIfInBounds_toArray, List.set_cons_zero, List.set_cons_succ]
  refine wpAnyH_ready (rs := [21]) (by kernel_rfl) (by simp) ?_
  refine AllReadyH.cons (o := ⟨none, _, _, _, _, _⟩) rfl (fun K hK => ?_) AllReadyH.nil
  refine step_store_mid rfl 33 (.tmp 32) (.tmp 26) rfl B 3 (#[.int .u64 (dstP d.c d.op).1, .int .u64 (dstP d.c d.op).2.1]) rfl rfl (hD1.there (by simp)) (by kernel_rfl) (by simp [Value.oneCell']) ?_
  have hD2 := hD1.set_jud (dstP d.c d.op).1 (dstP d.c d.op).2.1
  have hF2 := hF1.trans (setCells_off (#[.int .u64 (dstP d.c d.op).1, .int .u64 (dstP d.c d.op).2.1]).toList 3 _ B)
  refine hK.out _ _ ⟨_, hD2, rfl, rfl⟩ (fun _ => ?_)
  clear hK K
  try simp only [Act.put, List.setIfInBounds_toArray, List.set_cons_zero, List.set_cons_succ]
  refine wpAnyH_take (i := 22) (oi := ⟨some 33, _, _, _, _, _⟩) (v := .pointer (some ⟨B, 0, none⟩)) rfl (by kernel_rfl) (by kernel_rfl) (by kernel_rfl) (fun _ _ _ h => h) (.inl ⟨by rfl, fun W hW => by go_simp⟩) ⟨_, hD2, rfl, rfl⟩ ?_
  try simp only [Act.put, List.setIfInBounds_toArray, List.set_cons_zero, List.set_cons_succ]
  refine wpAnyH_take (i := 23) (oi := ⟨some 34, _, _, _, _, _⟩) (v := .pointer (some ⟨B, 0, none⟩)) rfl (by kernel_rfl) (by kernel_rfl) (by kernel_rfl) (fun _ _ _ h => h) (.inl ⟨by rfl, fun W hW => by go_simp⟩) ⟨_, hD2, rfl, rfl⟩ ?_
  try simp only [Act.put, List.setIfInBounds_toArray, List.set_cons_zero, List.set_cons_succ]
  refine wpAnyH_take (i := 24) (oi := ⟨some 35, _, _, _, _, _⟩) (v := .pointer (some ⟨B, 0, none⟩)) rfl (by kernel_rfl) (by kernel_rfl) (by kernel_rfl) (fun _ _ _ h => h) (.inl ⟨by rfl, fun W hW => by go_simp⟩) ⟨_, hD2, rfl, rfl⟩ ?_
  try simp only [Act.put, List.setIfInBounds_toArray, List.set_cons_zero, List.set_cons_succ]
  refine wpAnyH_take (i := 25) (oi := ⟨some 36, _, _, _, _, _⟩) (v := .pointer (some ⟨B, 6, none⟩)) rfl (by kernel_rfl) (by kernel_rfl) (by kernel_rfl) (fun _ _ _ h => h) (.inl ⟨by rfl, fun W hW => by go_simp⟩) ⟨_, hD2, rfl, rfl⟩ ?_
  try simp only [Act.put, List.setIfInBounds_toArray, List.set_cons_zero, List.set_cons_succ]
  refine wpAnyH_ready (rs := [26]) (by kernel_rfl) (by simp) ?_
  refine AllReadyH.cons (o := ⟨none, _, _, _, _, _⟩) rfl (fun K hK => ?_) AllReadyH.nil
  have hc3 := hD2.cell 6 rfl
  have hz3 := free_of hD2 6
  go_simp
  clear hc3 hz3
  have hD3 := hD2.set1 (d' := { d with ju := judK d.c d.op }) 6 (.int .i64 (dstP d.c d.op).2.2.1) (by kernel_rfl)
  have hF3 := hF2.set 6 (.int .i64 (dstP d.c d.op).2.2.1)
  refine hK.out _ _ ⟨_, hD3, rfl, rfl⟩ (fun _ => ?_)
  clear hK K
  try simp only [Act.put, List.setIfInBounds_toArray, List.set_cons_zero, List.set_cons_succ]
  refine wpAnyH_take (i := 27) (oi := ⟨some 37, _, _, _, _, _⟩) (v := .pointer (some ⟨B, 0, none⟩)) rfl (by kernel_rfl) (by kernel_rfl) (by kernel_rfl) (fun _ _ _ h => h) (.inl ⟨by rfl, fun W hW => by go_simp⟩) ⟨_, hD3, rfl, rfl⟩ ?_
  try simp only [Act.put, List.setIfInBounds_toArray, List.set_cons_zero, List.set_cons_succ]
  refine wpAnyH_take (i := 28) (oi := ⟨some 38, _, _, _, _, _⟩) (v := .pointer (some ⟨B, 47, none⟩)) rfl (by kernel_rfl) (by kernel_rfl) (by kernel_rfl) (fun _ _ _ h => h) (.inl ⟨by rfl, fun W hW => by go_simp⟩) ⟨_, hD3, rfl, rfl⟩ ?_
  try simp only [Act.put, List.setIfInBounds_toArray, List.set_cons_zero, List.set_cons_succ]
  refine wpAnyH_ready (rs := [29]) (by kernel_rfl) (by simp) ?_
  refine AllReadyH.cons (o := ⟨none, _, _, _, _, _⟩) rfl (fun K hK => ?_) AllReadyH.nil
  have hc4 := hD3.cell 47 rfl
  have hz4 := free_of hD3 47
  go_simp
  clear hc4 hz4
  have hD4 := hD3.set1 (d' := judgeD d) 47 (.int .i64 (dstP d.c d.op).2.2.2) (by kernel_rfl)
  have hF4 := hF3.set 47 (.int .i64 (dstP d.c d.op).2.2.2)
  refine hK.out _ _ ⟨_, hD4, rfl, rfl⟩ (fun _ => ?_)
  clear hK K
  try simp only [Act.put, List.setIfInBounds_toArray, List.set_cons_zero, List.set_cons_succ]
  refine wpAnyH_done (by kernel_rfl) ?_ _
  try simp only [Act.put, List.setIfInBounds_toArray, List.set_cons_zero, List.set_cons_succ]
  go_wp2_with fail
  go_ret
  exact ⟨rfl, hD4, hF4⟩
theorem DAt.k_jud {w : World} {B : Nat} {d : DR} (h : DAt w B d) : ∀ j v, (#[Value.int .u64 d.ju.dh, Value.int .u64 d.ju.dl]).toList[j]? = some v → w.cell? ((⟨B, 3, none⟩ : Addr).add j) = some v := by
  intro j v hv
  rw [addr_add]
  have hl : j < 2 := (List.getElem?_eq_some_iff.1 hv).1
  match j, hl with
  | 0, _ => exact h.cell 3 hv
  | 1, _ => exact h.cell 4 hv
set_option maxRecDepth 100000 in
set_option maxHeartbeats 8000000 in
theorem way_any (d : DR) (B : Nat) {w0 w : World} (h : DAt w B d) (hc : d.c.Ok w0) (hb : Below w0.heap.size w0 w) (hB : w0.heap.size ≤ B) : Calls Try.prog 19 #[.pointer (some ⟨B, 0, none⟩)] w (DPost w B (wayR d) (wayD d)) := by
  unfold DPost wayR wayD
  have hc1 : d.c.Ok w := hc.keep hb
  have cD := fun (W : World) (hW : Below w.heap.size w W) => route_k d.c d.ju.dh d.ju.dl (hc1.keep hW)
  generalize (routeP d.c d.ju.dh d.ju.dl).1 = a at *
  generalize (routeP d.c d.ju.dh d.ju.dl).2 = b at *
  obtain ⟨rr, hrr⟩ : ∃ rr : Int, rr = if a = -1 then 8 else if b = -1 then 3 else 0 := ⟨_, rfl⟩
  rw [← hrr]
  have HR := Lib.hid hrr
  clear hrr
  have hlt := h.lt
  go_enter Try.func19, Try.ntmps19
  go_upto_region 1 with fail
  refine wp_region_held_drew (S := fun W1 : World => ∃ d' : DR, DAt W1 B d' ∧ (d'.c = d.c ∧ d'.ju = d.ju)) (by kernel_rfl) ⟨_, h.bel (bel_dr (Below.refl _ _)), rfl, rfl⟩ (fun hH => ?_)
  clear hH
  have hD0 := h.bel (bel_dr (Below.refl _ _))
  have hF0 := (Off.refl B w).drew
  have bD0 : Below w.heap.size w w.drew := bel_dr (Below.refl _ _)
  obtain ⟨wd0, hwd⟩ : ∃ x, x = w.drew := ⟨_, rfl⟩
  rw [← hwd] at hD0 hF0 bD0 ⊢
  clear hwd
  refine wpAnyH_take (i := 0) (oi := ⟨some 4, _, _, _, _, _⟩) (v := .pointer (some ⟨B, 0, none⟩)) rfl (by kernel_rfl) (by kernel_rfl) (by kernel_rfl) (fun _ _ _ h => h) (.inl ⟨by rfl, fun W hW => by go_simp⟩) ⟨_, hD0, rfl, rfl⟩ ?_
  try simp only [Act.put, List.setIfInBounds_toArray, List.set_cons_zero, List.set_cons_succ]
  refine wpAnyH_take (i := 1) (oi := ⟨some 5, _, _, _, _, _⟩) (v := .pointer (some ⟨B, 0, none⟩)) rfl (by kernel_rfl) (by kernel_rfl) (by kernel_rfl) (fun _ _ _ h => h) (.inl ⟨by rfl, fun W hW => by go_simp⟩) ⟨_, hD0, rfl, rfl⟩ ?_
  try simp only [Act.put, List.setIfInBounds_toArray, List.set_cons_zero, List.set_cons_succ]
  refine wpAnyH_take (i := 2) (oi := ⟨some 6, _, _, _, _, _⟩) (v := .pointer (some ⟨B, 0, none⟩)) rfl (by kernel_rfl) (by kernel_rfl) (by kernel_rfl) (fun _ _ _ h => h) (.inl ⟨by rfl, fun W hW => by go_simp⟩) ⟨_, hD0, rfl, rfl⟩ ?_
  try simp only [Act.put, List.setIfInBounds_toArray, List.set_cons_zero, List.set_cons_succ]
  refine wpAnyH_take (i := 3) (oi := ⟨some 7, _, _, _, _, _⟩) (v := .pointer (some ⟨B, 0, none⟩)) rfl (by kernel_rfl) (by kernel_rfl) (by kernel_rfl) (fun _ _ _ h => h) (.inl ⟨by rfl, fun W hW => by go_simp⟩) ⟨_, hD0, rfl, rfl⟩ ?_
  try simp only [Act.put, List.setIfInBounds_toArray, List.set_cons_zero, List.set_cons_succ]
  refine wpAnyH_take (i := 4) (oi := ⟨some 8, _, _, _, _, _⟩) (v := .pointer (some ⟨B, 37, none⟩)) rfl (by kernel_rfl) (by kernel_rfl) (by kernel_rfl) (fun _ _ _ h => h) (.inl ⟨by rfl, fun W hW => by go_simp⟩) ⟨_, hD0, rfl, rfl⟩ ?_
  try simp only [Act.put, List.setIfInBounds_toArray, List.set_cons_zero, List.set_cons_succ]
  refine wpAnyH_take (i := 5) (oi := ⟨some 9, _, _, _, _, _⟩) (v := .agg (cfc d.c)) rfl (by kernel_rfl) (by kernel_rfl) (by kernel_rfl) (fun _ _ _ h => h) (yields_cells (by rfl) 30 _ rfl ⟨B, 37, none⟩ rfl (cfc d.c) _ (fun W hW => by obtain ⟨d2, hd, q⟩ := hW; exact q.1 ▸ hd.k_c) Try.underlying30 rfl (c_inf _)) ⟨_, hD0, rfl, rfl⟩ ?_
  try simp only [Act.put, List.setIfInBounds_toArray, List.set_cons_zero, List.set_cons_succ]
  refine wpAnyH_take (i := 6) (oi := ⟨some 10, _, _, _, _, _⟩) (v := .pointer (some ⟨B, 0, none⟩)) rfl (by kernel_rfl) (by kernel_rfl) (by kernel_rfl) (fun _ _ _ h => h) (.inl ⟨by rfl, fun W hW => by go_simp⟩) ⟨_, hD0, rfl, rfl⟩ ?_
  try simp only [Act.put, List.setIfInBounds_toArray, List.set_cons_zero, List.set_cons_succ]
  refine wpAnyH_take (i := 7) (oi := ⟨some 11, _, _, _, _, _⟩) (v := .pointer (some ⟨B, 0, none⟩)) rfl (by kernel_rfl) (by kernel_rfl) (by kernel_rfl) (fun _ _ _ h => h) (.inl ⟨by rfl, fun W hW => by go_simp⟩) ⟨_, hD0, rfl, rfl⟩ ?_
  try simp only [Act.put, List.setIfInBounds_toArray, List.set_cons_zero, List.set_cons_succ]
  refine wpAnyH_take (i := 8) (oi := ⟨some 12, _, _, _, _, _⟩) (v := .pointer (some ⟨B, 0, none⟩)) rfl (by kernel_rfl) (by kernel_rfl) (by kernel_rfl) (fun _ _ _ h => h) (.inl ⟨by rfl, fun W hW => by go_simp⟩) ⟨_, hD0, rfl, rfl⟩ ?_
  try simp only [Act.put, List.setIfInBounds_toArray, List.set_cons_zero, List.set_cons_succ]
  refine wpAnyH_take (i := 9) (oi := ⟨some 13, _, _, _, _, _⟩) (v := .pointer (some ⟨B, 0, none⟩)) rfl (by kernel_rfl) (by kernel_rfl) (by kernel_rfl) (fun _ _ _ h => h) (.inl ⟨by rfl, fun W hW => by go_simp⟩) ⟨_, hD0, rfl, rfl⟩ ?_
  try simp only [Act.put, List.setIfInBounds_toArray, List.set_cons_zero, List.set_cons_succ]
  refine wpAnyH_take (i := 10) (oi := ⟨some 14, _, _, _, _, _⟩) (v := .pointer (some ⟨B, 3, none⟩)) rfl (by kernel_rfl) (by kernel_rfl) (by kernel_rfl) (fun _ _ _ h => h) (.inl ⟨by rfl, fun W hW => by go_simp⟩) ⟨_, hD0, rfl, rfl⟩ ?_
  try simp only [Act.put, List.setIfInBounds_toArray, List.set_cons_zero, List.set_cons_succ]
  refine wpAnyH_take (i := 11) (oi := ⟨some 15, _, _, _, _, _⟩) (v := .agg (#[.int .u64 d.ju.dh, .int .u64 d.ju.dl])) rfl (by kernel_rfl) (by kernel_rfl) (by kernel_rfl) (fun _ _ _ h => h) (yields_cells (by rfl) 33 _ rfl ⟨B, 3, none⟩ rfl (#[.int .u64 d.ju.dh, .int .u64 d.ju.dl]) _ (fun W hW => by obtain ⟨d2, hd, q⟩ := hW; exact q.2 ▸ hd.k_jud) Try.underlying33 rfl (by kernel_rfl)) ⟨_, hD0, rfl, rfl⟩ ?_
  try simp only [Act.put, List.setIfInBounds_toArray, List.set_cons_zero, List.set_cons_succ]
  refine wpAnyH_ready (rs := [12]) (by kernel_rfl) (by simp) ?_
  refine AllReadyH.cons (o := ⟨some 16, _, _, _, _, _⟩) rfl (fun K hK => ?_) AllReadyH.nil
  go_simp
  go_at_call 32
  ((with_reducible refine (cD _ bD0).mono ?_); rintro e wd1 ⟨rfl, bC1⟩)
  have hD1 := hD0.bel bC1
  have hF1 := hF0.trans (off_bel bC1)
  refine hK.out _ _ ⟨_, hD1, rfl, rfl⟩ (fun _ => ?_)
  clear hK K
  try simp only [Act.put, List.setIfInBounds_toArray, List.set_cons_zero, List.set_cons_succ]
  refine wpAnyH_take (i := 13) (oi := ⟨some 3, _, _, _, _, _⟩) (v := .tuple #[.int .i64 a, .int .i64 b]) rfl (by kernel_rfl) (by kernel_rfl) (by kernel_rfl) (fun _ _ _ h => h) (.inl ⟨by rfl, fun W hW => by go_simp⟩) ⟨_, hD1, rfl, rfl⟩ ?_
  try simp only [Act.put, List.setIfInBounds_toArray, List.set_cons_zero, List.set_cons_succ]
  refine wpAnyH_take (i := 14) (oi := ⟨some 17, _, _, _, _, _⟩) (v := .int .i64 a) rfl (by kernel_rfl) (by kernel_rfl) (by kernel_rfl) (fun _ _ _ h => h) (.inl ⟨by rfl, fun W hW => by go_simp⟩) ⟨_, hD1, rfl, rfl⟩ ?_
  try simp only [Act.put, List.setIfInBounds_toArray, List.set_cons_zero, List.set_cons_succ]
  refine wpAnyH_take (i := 15) (oi := ⟨some 18, _, _, _, _, _⟩) (v := .int .i64 b) rfl (by kernel_rfl) (by kernel_rfl) (by kernel_rfl) (fun _ _ _ h => h) (.inl ⟨by rfl, fun W hW => by go_simp⟩) ⟨_, hD1, rfl, rfl⟩ ?_
  try simp only [Act.put, List.setIfInBounds_toArray, List.set_cons_zero, List.set_cons_succ]
  refine wpAnyH_take (i := 16) (oi := ⟨some 19, _, _, _, _, _⟩) (v := .pointer (some ⟨B, 0, none⟩)) rfl (by kernel_rfl) (by kernel_rfl) (by kernel_rfl) (fun _ _ _ h => h) (.inl ⟨by rfl, fun W hW => by go_simp⟩) ⟨_, hD1, rfl, rfl⟩ ?_
  try simp only [Act.put, List.setIfInBounds_toArray, List.set_cons_zero, List.set_cons_succ]
  refine wpAnyH_take (i := 17) (oi := ⟨some 20, _, _, _, _, _⟩) (v := .pointer (some ⟨B, 0, none⟩)) rfl (by kernel_rfl) (by kernel_rfl) (by kernel_rfl) (fun _ _ _ h => h) (.inl ⟨by rfl, fun W hW => by go_simp⟩) ⟨_, hD1, rfl, rfl⟩ ?_
  try simp only [Act.put, List.setIfInBounds_toArray, List.set_cons_zero, List.set_cons_succ]
  refine wpAnyH_take (i := 18) (oi := ⟨some 21, _, _, _, _, _⟩) (v := .pointer (some ⟨B, 35, none⟩)) rfl (by kernel_rfl) (by kernel_rfl) (by kernel_rfl) (fun _ _ _ h => h) (.inl ⟨by rfl, fun W hW => by go_simp⟩) ⟨_, hD1, rfl, rfl⟩ ?_
  try simp only [Act.put, List.setIfInBounds_toArray, List.set_cons_zero, List.set_cons_succ]
  refine wpAnyH_ready (rs := [19]) (by kernel_rfl) (by simp) ?_
  refine AllReadyH.cons (o := ⟨none, _, _, _, _, _⟩) rfl (fun K hK => ?_) AllReadyH.nil
  have hc2 := hD1.cell 35 rfl
  have hz2 := free_of hD1 35
  go_simp
  clear hc2 hz2
  have hD2 := hD1.set1 (d' := { d with ifc := a }) 35 (.int .i64 a) (by kernel_rfl)
  have hF2 := hF1.set 35 (.int .i64 a)
  refine hK.out _ _ ⟨_, hD2, rfl, rfl⟩ (fun _ => ?_)
  clear hK K
  try simp only [Act.put, List.setIfInBounds_toArray, List.set_cons_zero, List.set_cons_succ]
  refine wpAnyH_take (i := 20) (oi := ⟨some 22, _, _, _, _, _⟩) (v := .pointer (some ⟨B, 0, none⟩)) rfl (by kernel_rfl) (by kernel_rfl) (by kernel_rfl) (fun _ _ _ h => h) (.inl ⟨by rfl, fun W hW => by go_simp⟩) ⟨_, hD2, rfl, rfl⟩ ?_
  try simp only [Act.put, List.setIfInBounds_toArray, List.set_cons_zero, List.set_cons_succ]
  refine wpAnyH_take (i := 21) (oi := ⟨some 23, _, _, _, _, _⟩) (v := .pointer (some ⟨B, 0, none⟩)) rfl (by kernel_rfl) (by kernel_rfl) (by kernel_rfl) (fun _ _ _ h => h) (.inl ⟨by rfl, fun W hW => by go_simp⟩) ⟨_, hD2, rfl, rfl⟩ ?_
  try simp only [Act.put, List.setIfInBounds_toArray, List.set_cons_zero, List.set_cons_succ]
  refine wpAnyH_take (i := 22) (oi := ⟨some 24, _, _, _, _, _⟩) (v := .pointer (some ⟨B, 36, none⟩)) rfl (by kernel_rfl) (by kernel_rfl) (by kernel_rfl) (fun _ _ _ h => h) (.inl ⟨by rfl, fun W hW => by go_simp⟩) ⟨_, hD2, rfl, rfl⟩ ?_
  try simp only [Act.put, List.setIfInBounds_toArray, List.set_cons_zero, List.set_cons_succ]
  refine wpAnyH_ready (rs := [23]) (by kernel_rfl) (by simp) ?_
  refine AllReadyH.cons (o := ⟨none, _, _, _, _, _⟩) rfl (fun K hK => ?_) AllReadyH.nil
  have hc3 := hD2.cell 36 rfl
  have hz3 := free_of hD2 36
  go_simp
  clear hc3 hz3
  have hD3 := hD2.set1 (d' := { d with ifc := a, zo := b }) 36 (.int .i64 b) (by kernel_rfl)
  have hF3 := hF2.set 36 (.int .i64 b)
  refine hK.out _ _ ⟨_, hD3, rfl, rfl⟩ (fun _ => ?_)
  clear hK K
  try simp only [Act.put, List.setIfInBounds_toArray, List.set_cons_zero, List.set_cons_succ]
  refine wpAnyH_done (by kernel_rfl) ?_ _
  try simp only [Act.put, List.setIfInBounds_toArray, List.set_cons_zero, List.set_cons_succ]
  generalize (wd1.setCell ⟨B, 35, none⟩ (.int .i64 a)).setCell ⟨B, 36, none⟩ (.int .i64 b) = wz at *
  have x1 : wz.cell? ⟨B, 35, none⟩ = some (.int .i64 a) := hD3.cell 35 rfl
  have x2 : wz.cell? ⟨B, 36, none⟩ = some (.int .i64 b) := hD3.cell 36 rfl
  have HD := Lib.hid hD3
  have HF := Lib.hid hF3
  go_wp2_with fail
  go_wp2
  all_goals (
    go_ret
    refine ⟨ret_int ?_, HD.out, HF.out⟩
    rw [HR.out]
    simp_all)
end Go.Proofs.Ytokbmahnjmmcaaa
