import Derived.Test.YtinoddpdfknkbabAw
import Derived.Test.YtinoddpdfknkbabSzs
import Derived.Test.YtinoddpdfknkbabFrame
namespace Go.Proofs.Ytinoddpdfknkbab.Pc
open Go Go.RowKit
set_option linter.unusedVariables false
theorem sz_nw (n : Int) : Sz 6 0 (nwC n) := by
  unfold nwC
  split
  · exact sz_nil _ _
  · refine ⟨by rw [List.length_replicate]; omega, fun k hk => ?_⟩
    rw [List.length_replicate] at hk
    have : lAt (List.replicate n.toNat ([] : Is)) k = [] := by
      unfold lAt
      rw [List.getD_eq_getElem?_getD, List.getElem?_replicate]
      split <;> rfl
    rw [this]; simp
set_option maxHeartbeats 4000000 in
set_option maxRecDepth 100000 in
theorem law_checks (v : Value) (C : Ls) (n z : Int) (w : World) (h : CaIn w v C) (hB : Sz 9223372036854775807 9223372036854775807 C) : Calls Try.prog 3 #[v, .int .i64 n, .int .i64 z] w fun e w' => e = .returned (.bool true) ∧ Below w.heap.size w w' := by
  have hI := h
  obtain ⟨A, c, rfl, hc, r⟩ := h
  have AW := hide (fun W => awake_any W)
  have HI := hide hI
  have K := hide (bal (brefl w) (.cells #[.slice A C.length c] 24))
  have X := hide (Box.new w 24 #[.slice A C.length c])
  have FE := hide (few_ca _ C _ (hI.below K.out) hB)
  unfold FewR at FE
  have s1 := cell_box1 X.out
  clear r hI
  go_enter Try.func3, Try.ntmps3
  go_wp2_with fail
  refine FE.out.mono ?_
  rintro e w1 ⟨b, rfl, hf, hb⟩
  replace K := hide (btrans K.out hb)
  replace X := hide (X.out.below hb)
  clear hb s1 FE
  cases b
  · go_wp2_with fail
    refine (AW.out _).mono ?_
    rintro e w2 ⟨rfl, hb⟩
    replace K := hide (btrans K.out hb)
    clear hb
    go_wp2_with fail
    go_ret
    exact ⟨rfl, K.out⟩
  · have hS := hf rfl
    have hS1 := sz_up hS (show 20 ≤ 1000 by omega) (show 300 ≤ 1000 by omega)
    have T1 := hide (fun W (_ : Below w.heap.size w W) => new_any n W)
    have T2 := hide (fun W (_ : Below w.heap.size w W) => rnew_any n W)
    unfold R2 at T1 T2
    have CK1 := hide (fun W (hb : Below w.heap.size w W) => check_any _ C n W (HI.out.below hb) hS1)
    have CK2 := hide (fun W (hb : Below w.heap.size w W) => rcheck_any _ C n W (HI.out.below hb) hS1)
    have CT1 := hide (fun W (hb : Below w.heap.size w W) => count_any _ C z W (HI.out.below hb) hS1)
    have CT2 := hide (fun W (hb : Below w.heap.size w W) => rcount_any _ C z W (HI.out.below hb) hS1)
    have ST := hide (show Sz 9223372036854775807 9223372036854775807 (nwC n) from sz_up (sz_nw n) (show 6 ≤ 9223372036854775807 by omega) (show 0 ≤ 9223372036854775807 by omega))
    generalize nwC n = C1 at *
    generalize nwE0 n = e1 at *
    generalize chk C n = e2 at *
    generalize cnt C z = e3 at *
    clear hf hS hS1 hB
    have s1 := cell_box1 X.out
    go_wp2_with fail
    refine (T1.out _ K.out).mono ?_
    rintro e w2 ⟨A1, c1, rfl, h1, r1, hb⟩
    have M := bal hb (.cells #[.slice A1 C1.length c1] 24)
    have Y1 := hide (Box.new w2 24 #[.slice A1 C1.length c1])
    have I1 := hide (CaIn.below (w := w2) (v := .agg #[.slice A1 C1.length c1]) (C := C1) ⟨A1, c1, rfl, h1, r1.rd⟩ (bal (brefl w2) (.cells #[.slice A1 C1.length c1] 24)))
    replace K := hide (btrans K.out M)
    replace X := hide (X.out.below M)
    clear M hb r1 s1 T1
    go_upto_region 4 with fail
    obtain ⟨g1, hg1⟩ : ∃ g, g = w2.heap.size := ⟨_, rfl⟩
    rw [← hg1] at Y1 ⊢
    generalize w2.alloc (.cells #[.slice A1 C1.length c1] 24) = w3 at *
    clear hg1
    have s1 := cell_box1 X.out
    go_wp2_with fail
    refine (T2.out _ K.out).mono ?_
    rintro e w4 ⟨A2, c2, rfl, h2, r2, hb⟩
    have M := bal hb (.cells #[.slice A2 C1.length c2] 24)
    have Y2 := hide (Box.new w4 24 #[.slice A2 C1.length c2])
    have I2 := hide (CaIn.below (w := w4) (v := .agg #[.slice A2 C1.length c2]) (C := C1) ⟨A2, c2, rfl, h2, r2.rd⟩ (bal (brefl w4) (.cells #[.slice A2 C1.length c2] 24)))
    replace K := hide (btrans K.out M)
    replace X := hide (X.out.below M)
    replace Y1 := hide (Y1.out.below M)
    replace I1 := hide (I1.out.below M)
    clear M hb r2 s1 T2
    go_upto_region 5 with fail
    obtain ⟨g2, hg2⟩ : ∃ g, g = w4.heap.size := ⟨_, rfl⟩
    rw [← hg2] at Y2 ⊢
    generalize w4.alloc (.cells #[.slice A2 C1.length c2] 24) = w5 at *
    clear hg2
    have y1 := cell_box1 Y1.out
    have y2 := cell_box1 Y2.out
    have y3 := cell_box1 X.out
    have CE := hide (fun (W : World) (h : Below w5.heap.size w5 W) => (⟨(h.cell (p := ⟨g1, 0, none⟩) Y1.out.lt).trans y1, (h.cell (p := ⟨g2, 0, none⟩) Y2.out.lt).trans y2, (h.cell (p := ⟨w.heap.size, 0, none⟩) X.out.lt).trans y3⟩ : (fun W => W.cell? ⟨g1, 0, none⟩ = some (.slice A1 C1.length c1) ∧ W.cell? ⟨g2, 0, none⟩ = some (.slice A2 C1.length c2) ∧ W.cell? ⟨w.heap.size, 0, none⟩ = some (.slice A C.length c)) W))
    have KK := hide (below_drew (brefl w5))
    go_wp2
    refine wp_region_noPanic ?_
    refine wp_region_held_drew (S := (fun W => W.cell? ⟨g1, 0, none⟩ = some (.slice A1 C1.length c1) ∧ W.cell? ⟨g2, 0, none⟩ = some (.slice A2 C1.length c2) ∧ W.cell? ⟨w.heap.size, 0, none⟩ = some (.slice A C.length c))) (by kernel_rfl) ?_ (fun hHeld => ?_)
    · exact CE.out _ KK.out
    refine wpAnyH_take (i := 0) (oi := ⟨some 25, _, _, _, _, _⟩) (v := ?_) rfl (by kernel_rfl) (by kernel_rfl) (by kernel_rfl) (fun _ _ _ h => h) (Or.inl ⟨by kernel_rfl, ?_⟩) (by assumption) ?_
    rotate_left 1
    · (intro w hSw; (try dsimp only at hSw); go_simp) <;> (with_reducible rfl)
    (try simp only [Act.put, List.setIfInBounds_toArray, List.set_cons_succ, List.set_cons_zero])
    refine wpAnyH_take (i := 1) (oi := ⟨some 26, _, _, _, _, _⟩) (v := ?_) rfl (by kernel_rfl) (by kernel_rfl) (by kernel_rfl) (fun _ _ _ h => h) (Or.inl ⟨by kernel_rfl, ?_⟩) (by assumption) ?_
    rotate_left 1
    · (intro w hSw; (try dsimp only at hSw); go_simp) <;> (with_reducible rfl)
    (try simp only [Act.put, List.setIfInBounds_toArray, List.set_cons_succ, List.set_cons_zero])
    refine wpAnyH_ready (rs := [2]) (by kernel_rfl) (by simp) ?_
    refine AllReadyH.cons (o := _) rfl (fun K' hK => ?_) AllReadyH.nil
    go_simp
    refine (same_ca _ _ C1 _ (I1.out.below KK.out) (I2.out.below KK.out) ST.out).mono ?_
    rintro e wk ⟨rfl, hb⟩
    replace KK := hide (btrans KK.out hb)
    clear hb
    refine hK.out _ _ ?_ (fun hHeld => ?_)
    · exact CE.out _ KK.out
    clear hK K'
    (try simp only [Act.put, List.setIfInBounds_toArray, List.set_cons_succ, List.set_cons_zero])
    refine wpAnyH_take (i := 3) (oi := ⟨some 28, _, _, _, _, _⟩) (v := ?_) rfl (by kernel_rfl) (by kernel_rfl) (by kernel_rfl) (fun _ _ _ h => h) (Or.inl ⟨by kernel_rfl, ?_⟩) (by assumption) ?_
    rotate_left 1
    · (intro w hSw; (try dsimp only at hSw); go_simp) <;> (with_reducible rfl)
    (try simp only [Act.put, List.setIfInBounds_toArray, List.set_cons_succ, List.set_cons_zero])
    refine wpAnyH_take (i := 4) (oi := ⟨some 29, _, _, _, _, _⟩) (v := ?_) rfl (by kernel_rfl) (by kernel_rfl) (by kernel_rfl) (fun _ _ _ h => h) (Or.inl ⟨by kernel_rfl, ?_⟩) (by assumption) ?_
    rotate_left 1
    · (intro w hSw; (try dsimp only at hSw); go_simp) <;> (with_reducible rfl)
    (try simp only [Act.put, List.setIfInBounds_toArray, List.set_cons_succ, List.set_cons_zero])
    refine wpAnyH_take (i := 5) (oi := ⟨some 30, _, _, _, _, _⟩) (v := ?_) rfl (by kernel_rfl) (by kernel_rfl) (by kernel_rfl) (fun _ _ _ h => h) (Or.inl ⟨by kernel_rfl, ?_⟩) (by assumption) ?_
    rotate_left 1
    · (intro w hSw; (try dsimp only at hSw); go_simp) <;> (with_reducible rfl)
    (try simp only [Act.put, List.setIfInBounds_toArray, List.set_cons_succ, List.set_cons_zero])
    refine wpAnyH_take (i := 6) (oi := ⟨some 31, _, _, _, _, _⟩) (v := ?_) rfl (by kernel_rfl) (by kernel_rfl) (by kernel_rfl) (fun _ _ _ h => h) (Or.inl ⟨by kernel_rfl, ?_⟩) (by assumption) ?_
    rotate_left 1
    · (intro w hSw; (try dsimp only at hSw); go_simp) <;> (with_reducible rfl)
    (try simp only [Act.put, List.setIfInBounds_toArray, List.set_cons_succ, List.set_cons_zero])
    refine wpAnyH_take (i := 7) (oi := ⟨some 32, _, _, _, _, _⟩) (v := ?_) rfl (by kernel_rfl) (by kernel_rfl) (by kernel_rfl) (fun _ _ _ h => h) (Or.inl ⟨by kernel_rfl, ?_⟩) (by assumption) ?_
    rotate_left 1
    · (intro w hSw; (try dsimp only at hSw); go_simp) <;> (with_reducible rfl)
    (try simp only [Act.put, List.setIfInBounds_toArray, List.set_cons_succ, List.set_cons_zero])
    refine wpAnyH_take (i := 8) (oi := ⟨some 33, _, _, _, _, _⟩) (v := ?_) rfl (by kernel_rfl) (by kernel_rfl) (by kernel_rfl) (fun _ _ _ h => h) (Or.inl ⟨by kernel_rfl, ?_⟩) (by assumption) ?_
    rotate_left 1
    · (intro w hSw; (try dsimp only at hSw); go_simp) <;> (with_reducible rfl)
    (try simp only [Act.put, List.setIfInBounds_toArray, List.set_cons_succ, List.set_cons_zero])
    refine wpAnyH_take (i := 9) (oi := ⟨some 34, _, _, _, _, _⟩) (v := ?_) rfl (by kernel_rfl) (by kernel_rfl) (by kernel_rfl) (fun _ _ _ h => h) (Or.inl ⟨by kernel_rfl, ?_⟩) (by assumption) ?_
    rotate_left 1
    · (intro w hSw; (try dsimp only at hSw); go_simp) <;> (with_reducible rfl)
    (try simp only [Act.put, List.setIfInBounds_toArray, List.set_cons_succ, List.set_cons_zero])
    refine wpAnyH_take (i := 10) (oi := ⟨some 35, _, _, _, _, _⟩) (v := ?_) rfl (by kernel_rfl) (by kernel_rfl) (by kernel_rfl) (fun _ _ _ h => h) (Or.inl ⟨by kernel_rfl, ?_⟩) (by assumption) ?_
    rotate_left 1
    · (intro w hSw; (try dsimp only at hSw); go_simp) <;> (with_reducible rfl)
    (try simp only [Act.put, List.setIfInBounds_toArray, List.set_cons_succ, List.set_cons_zero])
    refine wpAnyH_take (i := 12) (oi := ⟨some 37, _, _, _, _, _⟩) (v := ?_) rfl (by kernel_rfl) (by kernel_rfl) (by kernel_rfl) (fun _ _ _ h => h) (Or.inl ⟨by kernel_rfl, ?_⟩) (by assumption) ?_
    rotate_left 1
    · (intro w hSw; (try dsimp only at hSw); go_simp) <;> (with_reducible rfl)
    (try simp only [Act.put, List.setIfInBounds_toArray, List.set_cons_succ, List.set_cons_zero])
    refine wpAnyH_take (i := 13) (oi := ⟨some 38, _, _, _, _, _⟩) (v := ?_) rfl (by kernel_rfl) (by kernel_rfl) (by kernel_rfl) (fun _ _ _ h => h) (Or.inl ⟨by kernel_rfl, ?_⟩) (by assumption) ?_
    rotate_left 1
    · (intro w hSw; (try dsimp only at hSw); go_simp) <;> (with_reducible rfl)
    (try simp only [Act.put, List.setIfInBounds_toArray, List.set_cons_succ, List.set_cons_zero])
    refine wpAnyH_ready (rs := [11]) (by kernel_rfl) (by simp) ?_
    refine AllReadyH.cons (o := _) rfl (fun K' hK => ?_) AllReadyH.nil
    go_simp
    refine (CK1.out _ (btrans K.out KK.out)).mono ?_
    rintro e wk ⟨rfl, hb⟩
    replace KK := hide (btrans KK.out hb)
    clear hb
    refine hK.out _ _ ?_ (fun hHeld => ?_)
    · exact CE.out _ KK.out
    clear hK K'
    (try simp only [Act.put, List.setIfInBounds_toArray, List.set_cons_succ, List.set_cons_zero])
    refine wpAnyH_ready (rs := [14]) (by kernel_rfl) (by simp) ?_
    refine AllReadyH.cons (o := _) rfl (fun K' hK => ?_) AllReadyH.nil
    go_simp
    refine (CK2.out _ (btrans K.out KK.out)).mono ?_
    rintro e wk ⟨rfl, hb⟩
    replace KK := hide (btrans KK.out hb)
    clear hb
    refine hK.out _ _ ?_ (fun hHeld => ?_)
    · exact CE.out _ KK.out
    clear hK K'
    (try simp only [Act.put, List.setIfInBounds_toArray, List.set_cons_succ, List.set_cons_zero])
    refine wpAnyH_take (i := 15) (oi := ⟨some 40, _, _, _, _, _⟩) (v := ?_) rfl (by kernel_rfl) (by kernel_rfl) (by kernel_rfl) (fun _ _ _ h => h) (Or.inl ⟨by kernel_rfl, ?_⟩) (by assumption) ?_
    rotate_left 1
    · (intro w hSw; (try dsimp only at hSw); go_simp) <;> (with_reducible rfl)
    (try simp only [Act.put, List.setIfInBounds_toArray, List.set_cons_succ, List.set_cons_zero])
    refine wpAnyH_take (i := 16) (oi := ⟨some 41, _, _, _, _, _⟩) (v := ?_) rfl (by kernel_rfl) (by kernel_rfl) (by kernel_rfl) (fun _ _ _ h => h) (Or.inl ⟨by kernel_rfl, ?_⟩) (by assumption) ?_
    rotate_left 1
    · (intro w hSw; (try dsimp only at hSw); go_simp) <;> (with_reducible rfl)
    (try simp only [Act.put, List.setIfInBounds_toArray, List.set_cons_succ, List.set_cons_zero])
    refine wpAnyH_take (i := 17) (oi := ⟨some 42, _, _, _, _, _⟩) (v := ?_) rfl (by kernel_rfl) (by kernel_rfl) (by kernel_rfl) (fun _ _ _ h => h) (Or.inl ⟨by kernel_rfl, ?_⟩) (by assumption) ?_
    rotate_left 1
    · (intro w hSw; (try dsimp only at hSw); go_simp) <;> (with_reducible rfl)
    (try simp only [Act.put, List.setIfInBounds_toArray, List.set_cons_succ, List.set_cons_zero])
    refine wpAnyH_take (i := 18) (oi := ⟨some 43, _, _, _, _, _⟩) (v := ?_) rfl (by kernel_rfl) (by kernel_rfl) (by kernel_rfl) (fun _ _ _ h => h) (Or.inl ⟨by kernel_rfl, ?_⟩) (by assumption) ?_
    rotate_left 1
    · (intro w hSw; (try dsimp only at hSw); go_simp) <;> (with_reducible rfl)
    (try simp only [Act.put, List.setIfInBounds_toArray, List.set_cons_succ, List.set_cons_zero])
    refine wpAnyH_take (i := 19) (oi := ⟨some 44, _, _, _, _, _⟩) (v := ?_) rfl (by kernel_rfl) (by kernel_rfl) (by kernel_rfl) (fun _ _ _ h => h) (Or.inl ⟨by kernel_rfl, ?_⟩) (by assumption) ?_
    rotate_left 1
    · (intro w hSw; (try dsimp only at hSw); go_simp) <;> (with_reducible rfl)
    (try simp only [Act.put, List.setIfInBounds_toArray, List.set_cons_succ, List.set_cons_zero])
    refine wpAnyH_take (i := 21) (oi := ⟨some 46, _, _, _, _, _⟩) (v := ?_) rfl (by kernel_rfl) (by kernel_rfl) (by kernel_rfl) (fun _ _ _ h => h) (Or.inl ⟨by kernel_rfl, ?_⟩) (by assumption) ?_
    rotate_left 1
    · (intro w hSw; (try dsimp only at hSw); go_simp) <;> (with_reducible rfl)
    (try simp only [Act.put, List.setIfInBounds_toArray, List.set_cons_succ, List.set_cons_zero])
    refine wpAnyH_take (i := 22) (oi := ⟨some 47, _, _, _, _, _⟩) (v := ?_) rfl (by kernel_rfl) (by kernel_rfl) (by kernel_rfl) (fun _ _ _ h => h) (Or.inl ⟨by kernel_rfl, ?_⟩) (by assumption) ?_
    rotate_left 1
    · (intro w hSw; (try dsimp only at hSw); go_simp) <;> (with_reducible rfl)
    (try simp only [Act.put, List.setIfInBounds_toArray, List.set_cons_succ, List.set_cons_zero])
    refine wpAnyH_ready (rs := [20]) (by kernel_rfl) (by simp) ?_
    refine AllReadyH.cons (o := _) rfl (fun K' hK => ?_) AllReadyH.nil
    go_simp
    refine (CT1.out _ (btrans K.out KK.out)).mono ?_
    rintro e wk ⟨rfl, hb⟩
    replace KK := hide (btrans KK.out hb)
    clear hb
    refine hK.out _ _ ?_ (fun hHeld => ?_)
    · exact CE.out _ KK.out
    clear hK K'
    (try simp only [Act.put, List.setIfInBounds_toArray, List.set_cons_succ, List.set_cons_zero])
    refine wpAnyH_ready (rs := [23]) (by kernel_rfl) (by simp) ?_
    refine AllReadyH.cons (o := _) rfl (fun K' hK => ?_) AllReadyH.nil
    go_simp
    refine (CT2.out _ (btrans K.out KK.out)).mono ?_
    rintro e wk ⟨rfl, hb⟩
    replace KK := hide (btrans KK.out hb)
    clear hb
    refine hK.out _ _ ?_ (fun hHeld => ?_)
    · exact CE.out _ KK.out
    clear hK K'
    (try simp only [Act.put, List.setIfInBounds_toArray, List.set_cons_succ, List.set_cons_zero])
    refine wpAnyH_take (i := 24) (oi := ⟨some 49, _, _, _, _, _⟩) (v := ?_) rfl (by kernel_rfl) (by kernel_rfl) (by kernel_rfl) (fun _ _ _ h => h) (Or.inl ⟨by kernel_rfl, ?_⟩) (by assumption) ?_
    rotate_left 1
    · (intro w hSw; (try dsimp only at hSw); go_simp) <;> (with_reducible rfl)
    (try simp only [Act.put, List.setIfInBounds_toArray, List.set_cons_succ, List.set_cons_zero])
    refine wpAnyH_take (i := 25) (oi := ⟨some 50, _, _, _, _, _⟩) (v := ?_) rfl (by kernel_rfl) (by kernel_rfl) (by kernel_rfl) (fun _ _ _ h => h) (Or.inl ⟨by kernel_rfl, ?_⟩) (by assumption) ?_
    rotate_left 1
    · (intro w hSw; (try dsimp only at hSw); go_simp) <;> (with_reducible rfl)
    (try simp only [Act.put, List.setIfInBounds_toArray, List.set_cons_succ, List.set_cons_zero])
    refine wpAnyH_take (i := 26) (oi := ⟨some 51, _, _, _, _, _⟩) (v := ?_) rfl (by kernel_rfl) (by kernel_rfl) (by kernel_rfl) (fun _ _ _ h => h) (Or.inl ⟨by kernel_rfl, ?_⟩) (by assumption) ?_
    rotate_left 1
    · (intro w hSw; (try dsimp only at hSw); go_simp) <;> (with_reducible rfl)
    (try simp only [Act.put, List.setIfInBounds_toArray, List.set_cons_succ, List.set_cons_zero])
    refine wpAnyH_ready (rs := [27]) (by kernel_rfl) (by simp) ?_
    refine AllReadyH.cons (o := _) rfl (fun K' hK => ?_) AllReadyH.nil
    go_simp
    refine (AW.out _).mono ?_
    rintro e wk ⟨rfl, hb⟩
    replace KK := hide (btrans KK.out hb)
    clear hb
    refine hK.out _ _ ?_ (fun hHeld => ?_)
    · exact CE.out _ KK.out
    clear hK K'
    (try simp only [Act.put, List.setIfInBounds_toArray, List.set_cons_succ, List.set_cons_zero])
    refine wpAnyH_take (i := 28) (oi := ⟨some 53, _, _, _, _, _⟩) (v := ?_) rfl (by kernel_rfl) (by kernel_rfl) (by kernel_rfl) (fun _ _ _ h => h) (Or.inl ⟨by kernel_rfl, ?_⟩) (by assumption) ?_
    rotate_left 1
    · (intro w hSw; (try dsimp only at hSw); go_simp) <;> (with_reducible rfl)
    (try simp only [Act.put, List.setIfInBounds_toArray, List.set_cons_succ, List.set_cons_zero])
    refine wpAnyH_take (i := 29) (oi := ⟨some 6, _, _, _, _, _⟩) (v := ?_) rfl (by kernel_rfl) (by kernel_rfl) (by kernel_rfl) (fun _ _ _ h => h) (Or.inl ⟨by kernel_rfl, ?_⟩) (by assumption) ?_
    rotate_left 1
    · (intro w hSw; (try dsimp only at hSw); go_simp) <;> (with_reducible rfl)
    (try simp only [Act.put, List.setIfInBounds_toArray, List.set_cons_succ, List.set_cons_zero])
    refine wpAnyH_done (by kernel_rfl) ?_ _
    refine NoPanic.normal ?_
    go_wp2
    go_ret
    exact ⟨rfl, btrans K.out KK.out⟩
end Go.Proofs.Ytinoddpdfknkbab.Pc
