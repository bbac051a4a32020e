/- Boxes: where they meet; the document's; by-name template (gen_crmbox.py). -/
import Derived.Test.YtomennaekjklbaaCMBox
namespace Go.Proofs.Ytomennaekjklbaa
open Go.RowKit Go.Lib Go.Sort
set_option linter.unusedVariables false
set_option linter.unusedSimpArgs false

theorem setRow_al3 (w : World) (o1 o2 o3 : Obj) (c c2 : Array Value) (t : TypeId) : (World.alloc (((w.alloc o1).alloc o2).alloc o3) (.cells c t)).setRow (w.heap.size + 3) c2 = World.alloc (((w.alloc o1).alloc o2).alloc o3) (.cells c2 t) := by
  rw [show w.heap.size + 3 = (((w.alloc o1).alloc o2).alloc o3).heap.size by rw [al_size, al_size, al_size], World.setRow_alloc_new]
set_option maxRecDepth 100000 in
set_option maxHeartbeats 4000000 in
theorem rmeetBox_any (a b : Nat → R4) (w : World) : Calls Try.prog 33 #[.agg (bxc a), .agg (bxc b)] w fun e w' => e = .returned (.tuple #[.agg (bxc (mbV a b)), .bool (mbO a b)]) ∧ Below w.heap.size w w' := by
  obtain ⟨O, hO⟩ : ∃ R, R = mbO a b := ⟨_, rfl⟩
  obtain ⟨V, hV⟩ : ∃ R, R = bxc (mbV a b) := ⟨_, rfl⟩
  rw [← hO, ← hV]
  have HO := Lib.hid hO; clear hO
  have HV := Lib.hid hV; clear hV
  obtain ⟨C, hC⟩ : ∃ C, C = bxc a := ⟨_, rfl⟩
  obtain ⟨D, hD⟩ : ∃ D, D = bxc b := ⟨_, rfl⟩
  obtain ⟨Z, hZ⟩ : ∃ Z, Z = bxc (fun _ => zr4) := ⟨_, rfl⟩
  rw [← hC, ← hD]
  have HC := Lib.hid hC; clear hC
  have HD := Lib.hid hD; clear hD
  have HZ := Lib.hid hZ; clear hZ
  go_enter Try.func33, Try.ntmps33
  have hi : (Try.prog.info? 30).map (·.size) = some (#[.int .u64 0, .int .u64 0, .int .u64 0, .int .u64 0, .int .u64 0, .int .u64 0, .int .u64 0, .int .u64 0, .int .u64 0, .int .u64 0, .int .u64 0, .int .u64 0, .int .u64 0, .int .u64 0, .int .u64 0, .int .u64 0, .int .u64 0, .int .u64 0, .int .u64 0, .int .u64 0, .int .u64 0, .int .u64 0, .int .u64 0, .int .u64 0] : Array Value).size := by rw [← bxc_zero]; exact inf29 _
  have hi := Lib.hid hi
  have h1 : (#[.int .u64 0, .int .u64 0, .int .u64 0, .int .u64 0, .int .u64 0, .int .u64 0, .int .u64 0, .int .u64 0, .int .u64 0, .int .u64 0, .int .u64 0, .int .u64 0, .int .u64 0, .int .u64 0, .int .u64 0, .int .u64 0, .int .u64 0, .int .u64 0, .int .u64 0, .int .u64 0, .int .u64 0, .int .u64 0, .int .u64 0, .int .u64 0] : Array Value).all (·.oneCell') = true := by rw [← bxc_zero]; exact bx_one _
  have h1 := Lib.hid h1
  go_wp2_with (refine wpList_store_row rfl 30 (.tmp 6) (.tmp 10) rfl (w.heap.size + 3) #[.int .u64 0, .int .u64 0, .int .u64 0, .int .u64 0, .int .u64 0, .int .u64 0, .int .u64 0, .int .u64 0, .int .u64 0, .int .u64 0, .int .u64 0, .int .u64 0, .int .u64 0, .int .u64 0, .int .u64 0, .int .u64 0, .int .u64 0, .int .u64 0, .int .u64 0, .int .u64 0, .int .u64 0, .int .u64 0, .int .u64 0, .int .u64 0] rfl rfl 30 #[.int .u64 0, .int .u64 0, .int .u64 0, .int .u64 0, .int .u64 0, .int .u64 0, .int .u64 0, .int .u64 0, .int .u64 0, .int .u64 0, .int .u64 0, .int .u64 0, .int .u64 0, .int .u64 0, .int .u64 0, .int .u64 0, .int .u64 0, .int .u64 0, .int .u64 0, .int .u64 0, .int .u64 0, .int .u64 0, .int .u64 0, .int .u64 0] (al_new (by rw [al_size, al_size, al_size]) _) hi.out rfl h1.out ?_)
  rw [setRow_al3]
  clear hi h1
  obtain ⟨w0, hw0⟩ : ∃ w0, w0 = World.alloc (World.alloc ((w.alloc (.cells C 30)).alloc (.cells D 30)) (.cells #[.int .u64 0, .int .u64 0, .int .u64 0, .int .u64 0, .int .u64 0, .int .u64 0, .int .u64 0, .int .u64 0, .int .u64 0, .int .u64 0, .int .u64 0, .int .u64 0, .int .u64 0, .int .u64 0, .int .u64 0, .int .u64 0, .int .u64 0, .int .u64 0, .int .u64 0, .int .u64 0, .int .u64 0, .int .u64 0, .int .u64 0, .int .u64 0] 30)) (.cells #[.int .u64 0, .int .u64 0, .int .u64 0, .int .u64 0, .int .u64 0, .int .u64 0, .int .u64 0, .int .u64 0, .int .u64 0, .int .u64 0, .int .u64 0, .int .u64 0, .int .u64 0, .int .u64 0, .int .u64 0, .int .u64 0, .int .u64 0, .int .u64 0, .int .u64 0, .int .u64 0, .int .u64 0, .int .u64 0, .int .u64 0, .int .u64 0] 30) := ⟨_, rfl⟩
  have A0 : w0.heap[w.heap.size]? = some (.cells (bxc a) 30) := by rw [hw0, ← HC.out]; exact blk_al (blk_al (blk_al (heap_alloc_new w _) _) _) _
  have A1 : w0.heap[w.heap.size + 1]? = some (.cells (bxc b) 30) := by rw [hw0, ← HD.out]; exact blk_al (blk_al (al_new (al_size _ _).symm _) _) _
  have A2 : w0.heap[w.heap.size + 2]? = some (.cells Z 30) := by rw [hw0, HZ.out, bxc_zero]; exact blk_al (al_new (by rw [al_size, al_size]) _) _
  have A3 : w0.heap[w.heap.size + 3]? = some (.cells (bxc (fun _ => zr4)) 30) := by rw [hw0, bxc_zero]; exact al_new (by rw [al_size, al_size, al_size]) _
  have b0 : Below w.heap.size w w0 := by rw [hw0]; exact Below.al (Below.al (Below.al (Below.al (Below.refl _ _) _) _) _) _
  rw [← hw0]
  clear hw0
  go_loopw [7] (fun v7 wr => ∃ k : Nat, v7 = .int .i64 k ∧ k ≤ 6 ∧ Hid (∀ i, i < k → emR (meR (a i) (b i)) = false) ∧ (∃ x' : Nat → R4, wr.heap[w.heap.size + 3]? = some (.cells (bxc x') 30 (0, 0)) ∧ Hid (∀ i, i < 6 → x' i = if i < k then meR (a i) (b i) else (fun _ => zr4) i)) ∧ wr.heap[w.heap.size]? = some (.cells (bxc a) 30 (0, 0)) ∧ wr.heap[w.heap.size + 1]? = some (.cells (bxc b) 30 (0, 0)) ∧ wr.heap[w.heap.size + 2]? = some (.cells Z 30 (0, 0)) ∧ Below w.heap.size w wr) (fun v7 _ => 6 - (intOf v7).toNat)
  case atStart => exact ⟨0, rfl, by omega, upto_zero, ⟨_, A3, Lib.hid (fun i hi => by rw [if_neg (Nat.not_lt_zero _)])⟩, A0, A1, A2, b0⟩
  case round =>
    obtain ⟨k, rfl, hk, hF, ⟨x', B3, hA⟩, B0, B1, B2, bw⟩ := hrel
    clear A0 A1 A2 A3 b0
    by_cases hk6 : k < 6
    · have cm : ∀ W, _ := fun W => rmeet_any (a k) (b k) W
      obtain ⟨v, hv⟩ : ∃ v, v = meV (a k) (b k) := ⟨_, rfl⟩
      rw [← hv] at cm
      have Hv := Lib.hid hv
      clear hv
      generalize hE : emR (meR (a k) (b k)) = E at cm
      have HE := Lib.hid hE; clear hE
      obtain ⟨y0, y1, y2, y3⟩ := BoxAt.of B0 k hk6
      obtain ⟨z0, z1, z2, z3⟩ := BoxAt.of B1 k hk6
      go_wp2_with fail
      obtain ⟨w4, rfl⟩ : ∃ w4, w4 = wr := ⟨_, rfl⟩
      have hC1 : ∀ w', Below w4.heap.size w4 w' → ((w'.cell? ⟨w.heap.size, k * 4, none⟩ = some (.int .u64 (a k).fh) ∧ w'.cell? ⟨w.heap.size, k * 4 + 1, none⟩ = some (.int .u64 (a k).fl) ∧ w'.cell? ⟨w.heap.size, k * 4 + 2, none⟩ = some (.int .u64 (a k).th) ∧ w'.cell? ⟨w.heap.size, k * 4 + 3, none⟩ = some (.int .u64 (a k).tl)) ∧ w'.cell? ⟨w.heap.size + 1, k * 4, none⟩ = some (.int .u64 (b k).fh) ∧ w'.cell? ⟨w.heap.size + 1, k * 4 + 1, none⟩ = some (.int .u64 (b k).fl) ∧ w'.cell? ⟨w.heap.size + 1, k * 4 + 2, none⟩ = some (.int .u64 (b k).th) ∧ w'.cell? ⟨w.heap.size + 1, k * 4 + 3, none⟩ = some (.int .u64 (b k).tl)) := fun w' h => ⟨⟨keepc h y0, keepc h y1, keepc h y2, keepc h y3⟩, keepc h z0, keepc h z1, keepc h z2, keepc h z3⟩
      clear y0 y1 y2 y3 z0 z1 z2 z3
      go_cut [8, 9] from 11 to 33 (fun v8 v9 wx => ∃ B, v8 = .pointer (some ⟨B, 0, none⟩) ∧ v9 = .bool (!E) ∧ w4.heap.size ≤ B ∧ Below w4.heap.size w4 wx ∧ wx.heap[B]? = some (.cells #[.int .u64 v.fh, .int .u64 v.fl, .int .u64 v.th, .int .u64 v.tl] 27 (0, 0)))
      case first =>
        have hz : ∀ w, (zeroValue 27).run Try.prog w = .ok (.agg #[.int .u64 0, .int .u64 0, .int .u64 0, .int .u64 0]) w := fun w => by kernel_rfl
        refine wp_region_held (S := fun w' => Below w4.heap.size w4 w' ∧ ((w'.cell? ⟨w.heap.size, k * 4, none⟩ = some (.int .u64 (a k).fh) ∧ w'.cell? ⟨w.heap.size, k * 4 + 1, none⟩ = some (.int .u64 (a k).fl) ∧ w'.cell? ⟨w.heap.size, k * 4 + 2, none⟩ = some (.int .u64 (a k).th) ∧ w'.cell? ⟨w.heap.size, k * 4 + 3, none⟩ = some (.int .u64 (a k).tl)) ∧ w'.cell? ⟨w.heap.size + 1, k * 4, none⟩ = some (.int .u64 (b k).fh) ∧ w'.cell? ⟨w.heap.size + 1, k * 4 + 1, none⟩ = some (.int .u64 (b k).fl) ∧ w'.cell? ⟨w.heap.size + 1, k * 4 + 2, none⟩ = some (.int .u64 (b k).th) ∧ w'.cell? ⟨w.heap.size + 1, k * 4 + 3, none⟩ = some (.int .u64 (b k).tl))) (by kernel_rfl) ?_
        change wpAnyH _ _ _ _ _ _ _ _ (World.drew _)
        have hS0 := keep0 hC1
        generalize w4.drew = wd at hS0 ⊢
        refine wpAnyH_take (i := 0) (oi := ⟨some 16, _, _, _, _, _⟩) (v := ?_) rfl (by kernel_rfl) (by kernel_rfl) (by kernel_rfl) (fun _ _ _ h => h) (Or.inl ⟨by rfl, ?_⟩) hS0 ?_
        rotate_left 1
        · intro W hW
          obtain ⟨hW0, ⟨hW1, hW2, hW3, hW4⟩, hW5, hW6, hW7, hW8⟩ := hW
          go_simp
          with_reducible rfl
        refine wpAnyH_take (i := 1) (oi := ⟨some 17, _, _, _, _, _⟩) (v := ?_) rfl (by kernel_rfl) (by kernel_rfl) (by kernel_rfl) (fun _ _ _ h => h) (Or.inl ⟨by rfl, ?_⟩) hS0 ?_
        rotate_left 1
        · intro W hW
          obtain ⟨hW0, ⟨hW1, hW2, hW3, hW4⟩, hW5, hW6, hW7, hW8⟩ := hW
          go_simp
          with_reducible rfl
        refine wpAnyH_take (i := 2) (oi := ⟨some 18, _, _, _, _, _⟩) (v := ?_) rfl (by kernel_rfl) (by kernel_rfl) (by kernel_rfl) (fun _ _ _ h => h) (Or.inl ⟨by rfl, ?_⟩) hS0 ?_
        rotate_left 1
        · intro W hW
          obtain ⟨hW0, ⟨hW1, hW2, hW3, hW4⟩, hW5, hW6, hW7, hW8⟩ := hW
          go_simp
          with_reducible rfl
        refine wpAnyH_take (i := 3) (oi := ⟨some 19, _, _, _, _, _⟩) (v := ?_) rfl (by kernel_rfl) (by kernel_rfl) (by kernel_rfl) (fun _ _ _ h => h) (Or.inl ⟨by rfl, ?_⟩) hS0 ?_
        rotate_left 1
        · intro W hW
          obtain ⟨hW0, ⟨hW1, hW2, hW3, hW4⟩, hW5, hW6, hW7, hW8⟩ := hW
          go_simp
          with_reducible rfl
        refine wpAnyH_take (i := 4) (oi := ⟨some 20, _, _, _, _, _⟩) (v := ?_) rfl (by kernel_rfl) (by kernel_rfl) (by kernel_rfl) (fun _ _ _ h => h) (Or.inl ⟨by rfl, ?_⟩) hS0 ?_
        rotate_left 1
        · intro W hW
          obtain ⟨hW0, ⟨hW1, hW2, hW3, hW4⟩, hW5, hW6, hW7, hW8⟩ := hW
          go_simp
          with_reducible rfl
        refine wpAnyH_take (i := 5) (oi := ⟨some 21, _, _, _, _, _⟩) (v := ?_) rfl (by kernel_rfl) (by kernel_rfl) (by kernel_rfl) (fun _ _ _ h => h) (Or.inl ⟨by rfl, ?_⟩) hS0 ?_
        rotate_left 1
        · intro W hW
          obtain ⟨hW0, ⟨hW1, hW2, hW3, hW4⟩, hW5, hW6, hW7, hW8⟩ := hW
          go_simp
          with_reducible rfl
        refine wpAnyH_take (i := 6) (oi := ⟨some 22, _, _, _, _, _⟩) (v := ?_) rfl (by kernel_rfl) (by kernel_rfl) (by kernel_rfl) (fun _ _ _ h => h) (Or.inl ⟨by rfl, ?_⟩) hS0 ?_
        rotate_left 1
        · intro W hW
          obtain ⟨hW0, ⟨hW1, hW2, hW3, hW4⟩, hW5, hW6, hW7, hW8⟩ := hW
          go_simp
          with_reducible rfl
        refine wpAnyH_take (i := 7) (oi := ⟨some 23, _, _, _, _, _⟩) (v := ?_) rfl (by kernel_rfl) (by kernel_rfl) (by kernel_rfl) (fun _ _ _ h => h) (Or.inl ⟨by rfl, ?_⟩) hS0 ?_
        rotate_left 1
        · intro W hW
          obtain ⟨hW0, ⟨hW1, hW2, hW3, hW4⟩, hW5, hW6, hW7, hW8⟩ := hW
          go_simp
          with_reducible rfl
        refine wpAnyH_ready (rs := [8, 12]) (by kernel_rfl) (by simp) ?_
        refine AllReadyH.cons (o := ⟨some 24, _, _, _, _, _⟩) rfl (fun K hK => ?_) (AllReadyH.cons (o := ⟨some 8, _, _, _, _, _⟩) rfl (fun K hK => ?_) AllReadyH.nil)
        · go_simp
          go_at_call 45
          refine (cm _).mono ?_
          rintro e w20 ⟨rfl, hb20⟩
          have hS20 := keepB hC1 hb20 hS0
          refine hK.out _ _ hS20 (fun _ => ?_)
          clear hK K
          refine wpAnyH_take (i := 9) (oi := ⟨some 15, _, _, _, _, _⟩) (v := ?_) rfl (by kernel_rfl) (by kernel_rfl) (by kernel_rfl) (fun _ _ _ h => h) (Or.inl ⟨by rfl, ?_⟩) hS20 ?_
          rotate_left 1
          · intro W hW
            obtain ⟨hW0, ⟨hW1, hW2, hW3, hW4⟩, hW5, hW6, hW7, hW8⟩ := hW
            go_simp
            with_reducible rfl
          refine wpAnyH_take (i := 10) (oi := ⟨some 25, _, _, _, _, _⟩) (v := ?_) rfl (by kernel_rfl) (by kernel_rfl) (by kernel_rfl) (fun _ _ _ h => h) (Or.inl ⟨by rfl, ?_⟩) hS20 ?_
          rotate_left 1
          · intro W hW
            obtain ⟨hW0, ⟨hW1, hW2, hW3, hW4⟩, hW5, hW6, hW7, hW8⟩ := hW
            go_simp
            with_reducible rfl
          refine wpAnyH_take (i := 11) (oi := ⟨some 26, _, _, _, _, _⟩) (v := ?_) rfl (by kernel_rfl) (by kernel_rfl) (by kernel_rfl) (fun _ _ _ h => h) (Or.inl ⟨by rfl, ?_⟩) hS20 ?_
          rotate_left 1
          · intro W hW
            obtain ⟨hW0, ⟨hW1, hW2, hW3, hW4⟩, hW5, hW6, hW7, hW8⟩ := hW
            go_simp
            with_reducible rfl
          refine wpAnyH_ready (rs := [12]) (by kernel_rfl) (by simp) ?_
          refine AllReadyH.cons (o := ⟨some 8, _, _, _, _, _⟩) rfl (fun K hK => ?_) AllReadyH.nil
          refine step_alloc rfl 27 rfl #[.int .u64 0, .int .u64 0, .int .u64 0, .int .u64 0] hz (fun w21 B hV hb21 hg21 => ?_)
          have hS21 := keepB hC1 hb21 hS20
          have hBs : w4.heap.size ≤ B := Nat.le_trans hS20.1.size hg21
          refine hK.out _ _ hS21 (fun _ => ?_)
          clear hK K
          refine wpAnyH_ready (rs := [13]) (by kernel_rfl) (by simp) ?_
          refine AllReadyH.cons (o := ⟨none, _, _, _, _, _⟩) rfl (fun K hK => ?_) AllReadyH.nil
          refine step_store_row rfl 27 (.tmp 8) (.tmp 25) rfl B #[.int .u64 v.fh, .int .u64 v.fl, .int .u64 v.th, .int .u64 v.tl] rfl rfl 27 #[.int .u64 0, .int .u64 0, .int .u64 0, .int .u64 0] hV (by kernel_rfl) rfl (by kernel_rfl) ?_
          have hSz := keepS hC1 (Below.setRow hS21.1 hBs #[.int .u64 v.fh, .int .u64 v.fl, .int .u64 v.th, .int .u64 v.tl])
          refine hK.out _ _ hSz (fun _ => ?_)
          clear hK K
          refine wpAnyH_take (i := 14) (oi := ⟨some 9, _, _, _, _, _⟩) (v := ?_) rfl (by kernel_rfl) (by kernel_rfl) (by kernel_rfl) (fun _ _ _ h => h) (Or.inl ⟨by rfl, ?_⟩) hSz ?_
          rotate_left 1
          · intro W hW
            obtain ⟨hW0, ⟨hW1, hW2, hW3, hW4⟩, hW5, hW6, hW7, hW8⟩ := hW
            go_simp
            with_reducible rfl
          refine wpAnyH_done (by kernel_rfl) ?_ _
          simp only [Act.put, List.setIfInBounds_toArray, List.set_cons_succ, List.set_cons_zero]
          go_wp2_with fail
          go_meet
          exact ⟨B, rfl, rfl, hBs, Below.setRow hS21.1 hBs _, blk_setRow hV _⟩
        · refine step_alloc rfl 27 rfl #[.int .u64 0, .int .u64 0, .int .u64 0, .int .u64 0] hz (fun w20 B hV hb20 hg20 => ?_)
          have hS20 := keepB hC1 hb20 hS0
          have hBs : w4.heap.size ≤ B := Nat.le_trans hS0.1.size hg20
          refine hK.out _ _ hS20 (fun _ => ?_)
          clear hK K
          refine wpAnyH_ready (rs := [8]) (by kernel_rfl) (by simp) ?_
          refine AllReadyH.cons (o := ⟨some 24, _, _, _, _, _⟩) rfl (fun K hK => ?_) AllReadyH.nil
          go_simp
          go_at_call 45
          refine (cm _).mono ?_
          rintro e w21 ⟨rfl, hb21⟩
          have hS21 := keepB hC1 hb21 hS20
          have hV := hV_keep hb21 hV
          refine hK.out _ _ hS21 (fun _ => ?_)
          clear hK K
          refine wpAnyH_take (i := 9) (oi := ⟨some 15, _, _, _, _, _⟩) (v := ?_) rfl (by kernel_rfl) (by kernel_rfl) (by kernel_rfl) (fun _ _ _ h => h) (Or.inl ⟨by rfl, ?_⟩) hS21 ?_
          rotate_left 1
          · intro W hW
            obtain ⟨hW0, ⟨hW1, hW2, hW3, hW4⟩, hW5, hW6, hW7, hW8⟩ := hW
            go_simp
            with_reducible rfl
          refine wpAnyH_take (i := 10) (oi := ⟨some 25, _, _, _, _, _⟩) (v := ?_) rfl (by kernel_rfl) (by kernel_rfl) (by kernel_rfl) (fun _ _ _ h => h) (Or.inl ⟨by rfl, ?_⟩) hS21 ?_
          rotate_left 1
          · intro W hW
            obtain ⟨hW0, ⟨hW1, hW2, hW3, hW4⟩, hW5, hW6, hW7, hW8⟩ := hW
            go_simp
            with_reducible rfl
          refine wpAnyH_take (i := 11) (oi := ⟨some 26, _, _, _, _, _⟩) (v := ?_) rfl (by kernel_rfl) (by kernel_rfl) (by kernel_rfl) (fun _ _ _ h => h) (Or.inl ⟨by rfl, ?_⟩) hS21 ?_
          rotate_left 1
          · intro W hW
            obtain ⟨hW0, ⟨hW1, hW2, hW3, hW4⟩, hW5, hW6, hW7, hW8⟩ := hW
            go_simp
            with_reducible rfl
          refine wpAnyH_ready (rs := [13]) (by kernel_rfl) (by simp) ?_
          refine AllReadyH.cons (o := ⟨none, _, _, _, _, _⟩) rfl (fun K hK => ?_) AllReadyH.nil
          refine step_store_row rfl 27 (.tmp 8) (.tmp 25) rfl B #[.int .u64 v.fh, .int .u64 v.fl, .int .u64 v.th, .int .u64 v.tl] rfl rfl 27 #[.int .u64 0, .int .u64 0, .int .u64 0, .int .u64 0] hV (by kernel_rfl) rfl (by kernel_rfl) ?_
          have hSz := keepS hC1 (Below.setRow hS21.1 hBs #[.int .u64 v.fh, .int .u64 v.fl, .int .u64 v.th, .int .u64 v.tl])
          refine hK.out _ _ hSz (fun _ => ?_)
          clear hK K
          refine wpAnyH_take (i := 14) (oi := ⟨some 9, _, _, _, _, _⟩) (v := ?_) rfl (by kernel_rfl) (by kernel_rfl) (by kernel_rfl) (fun _ _ _ h => h) (Or.inl ⟨by rfl, ?_⟩) hSz ?_
          rotate_left 1
          · intro W hW
            obtain ⟨hW0, ⟨hW1, hW2, hW3, hW4⟩, hW5, hW6, hW7, hW8⟩ := hW
            go_simp
            with_reducible rfl
          refine wpAnyH_done (by kernel_rfl) ?_ _
          simp only [Act.put, List.setIfInBounds_toArray, List.set_cons_succ, List.set_cons_zero]
          go_wp2_with fail
          go_meet
          exact ⟨B, rfl, rfl, hBs, Below.setRow hS21.1 hBs _, blk_setRow hV _⟩

      case rest =>
        obtain ⟨B, rfl, rfl, hBs, hbx, hVB⟩ := hcut
        have C0 := blkB hbx B0
        have C1 := blkB hbx B1
        have D2 := blkB hbx B2
        have D3 := blkB hbx B3
        have b5 := bel_via bw hbx
        have hlt := blk_lt B3
        clear hC1 B0 B1 B2 B3 bw hbx cm
        cases E with
        | true =>
          obtain ⟨e1, e2⟩ := mb_no hk6 HE.out
          obtain rfl : O = false := by rw [HO.out]; exact e1
          have hvz : V = #[.int .u64 0, .int .u64 0, .int .u64 0, .int .u64 0, .int .u64 0, .int .u64 0, .int .u64 0, .int .u64 0, .int .u64 0, .int .u64 0, .int .u64 0, .int .u64 0, .int .u64 0, .int .u64 0, .int .u64 0, .int .u64 0, .int .u64 0, .int .u64 0, .int .u64 0, .int .u64 0, .int .u64 0, .int .u64 0, .int .u64 0, .int .u64 0] := by rw [HV.out, e2, bxc_zero]
          have HVz := Lib.hid hvz
          have hZz : Z = V := by rw [HZ.out, HV.out, e2]
          have i29 : (Try.prog.info? 30).map (·.size) = some V.size := by rw [HV.out]; exact inf29 _
          have i1 : V.all (·.oneCell') = true := by rw [HV.out]; exact bx_one _
          have D2' : wc.heap[w.heap.size + 2]? = some (.cells V 30) := by rw [← hZz]; exact D2
          have i29 := Lib.hid i29
          have i1 := Lib.hid i1
          clear e1 e2 hvz HO HE hF hA hZz D2
          go_wp2_with (refine wpList_store_row rfl 30 (.tmp 4) (.tmp 29) rfl (w.heap.size + 2) V rfl (by rw [HVz.out]; rfl) 30 V D2' i29.out rfl i1.out ?_)
          refine bodyPost_ret_by (res_row Try.results33 _ _ (w.heap.size + 2) 30 V _ rfl (blk_setRow D2' V) Try.underlying30 i29.out) rfl ⟨rfl, Below.setRow b5 (by omega) _⟩
        | false =>
          obtain rfl : v = meR (a k) (b k) := by rw [Hv.out]; exact meV_yes HE.out
          have HF := upto_succ (P := fun i => emR (meR (a i) (b i)) = false) hF HE.out
          obtain ⟨q0, q1, q2, q3⟩ := cells4 hVB
          obtain ⟨u0, u1, u2, u3⟩ := BoxAt.of D3 k hk6
          have f0 := fr4 D3
          have HA := Lib.hid (upd_step (c := fun i => meR (a i) (b i)) hA.out hk6)
          have D3s := bset4 D3 k hk6 (meR (a k) (b k))
          have D3s := Lib.hid D3s
          have hne0 : w.heap.size ≠ w.heap.size + 3 := by omega
          have hne1 : w.heap.size + 1 ≠ w.heap.size + 3 := by omega
          have hne2 : w.heap.size + 2 ≠ w.heap.size + 3 := by omega
          have hle : w.heap.size ≤ w.heap.size + 3 := by omega
          clear hF hA HE Hv
          go_wp2
          exact ⟨⟨k + 1, by simp, by omega, HF, ⟨_, D3s.out, HA⟩, by rw [set_other hne0, set_other hne0, set_other hne0, set_other hne0]; exact C0, by rw [set_other hne1, set_other hne1, set_other hne1, set_other hne1]; exact C1, by rw [set_other hne2, set_other hne2, set_other hne2, set_other hne2]; exact D2, below_set (below_set (below_set (below_set b5 hle _ _) hle _ _) hle _ _) hle _ _⟩, by simp [intOf]; omega⟩
    · obtain rfl : k = 6 := by omega
      obtain ⟨e1, e2⟩ := mb_yes (c := x') hF.out (fun i hi => by rw [hA.out i hi, if_pos hi])
      obtain rfl : O = true := by rw [HO.out]; exact e1
      have hVz : bxc x' = V := by rw [HV.out, e2]
      rw [hVz] at B3
      have i29 : (Try.prog.info? 30).map (·.size) = some V.size := by rw [HV.out]; exact inf29 _
      have i1 : V.all (·.oneCell') = true := by rw [HV.out]; exact bx_one _
      have isz : Z.size = V.size := by rw [HZ.out, HV.out]; rfl
      have i29 := Lib.hid i29
      have i1 := Lib.hid i1
      have isz := Lib.hid isz
      clear e1 e2 hVz hF hA
      go_wp2_with (first
        | (refine wpList_load_row rfl 30 (.tmp 6) rfl (w.heap.size + 3) rfl 30 V (0, 0) _ B3 Try.underlying30 rfl i29.out ?_)
        | (refine wpList_store_row rfl 30 (.tmp 4) (.tmp 34) rfl (w.heap.size + 2) V rfl rfl 30 Z B2 i29.out isz.out i1.out ?_))
      refine bodyPost_ret_by (res_row Try.results33 _ _ (w.heap.size + 2) 30 V _ rfl (blk_setRow B2 V) Try.underlying30 i29.out) rfl ⟨rfl, Below.setRow bw (by omega) _⟩

end Go.Proofs.Ytomennaekjklbaa
