import Derived.Test.YtinoddpdfknkbabNw
namespace Go.Proofs.Ytinoddpdfknkbab.Pc
open Go Go.RowKit
set_option linter.unusedVariables false
theorem R3.mk {A : Option Addr} {n c : Nat} {C : Ls} {f er : Int} {w w' : World} {e : Ending} (hn : C.length = n) (he : e = .returned (.tuple #[.agg #[.slice A n c], .int .i64 f, .int .i64 er])) (hc : n ≤ c) {B : Nat} {vs : List Value} (hr : OwnR B w' (.slice A n c) C vs) (hb : Below w.heap.size w w') : R3 C f er w e w' := by
  subst hn; exact ⟨A, c, he, hc, ⟨vs, hr.mono (Nat.zero_le _)⟩, hb⟩
set_option maxHeartbeats 8000000 in
set_option maxRecDepth 100000 in
theorem rtake_any (v : Value) (C : Ls) (z : Int) (w : World) (h : CaIn w v C) (hS : Sz 1000 1000 C) : Calls Try.prog 19 #[v, .int .i64 z] w (R3 (tkC C z) (tkF C z) (tkE C z) w) := by
  have hI := h
  obtain ⟨A, c, rfl, hc, r⟩ := h
  obtain ⟨W0, hW0⟩ : ∃ W0, W0 = ((w.alloc (.cells #[.slice A C.length c] 24)).alloc (.cells #[.slice none 0 0] 24)) := ⟨_, rfl⟩
  have K0 := hide (show Below w.heap.size w W0 by rw [hW0]; exact bal (bal (brefl w) _) _)
  have X1 := hide (show Box W0 w.heap.size 24 #[.slice A C.length c] by rw [hW0]; exact (Box.new w 24 _).more _)
  have X2 := hide (show Box W0 (w.heap.size + 1) 24 #[.slice none 0 0] by rw [hW0]; exact Box.new2 w _ 24 _)
  have CZ := hide (rcz_any _ C z W0 (hI.below K0.out) hS)
  have R := hide r
  have HI := hide hI
  have HS := hide hS
  have ln := hS.1
  have HW := hide hW0
  clear r hI hS hW0
  by_cases h0 : czE C z = 0
  · obtain ⟨_, _, hz0, hz1⟩ := czE_zero.1 h0
    obtain ⟨k, rfl⟩ : ∃ k : Nat, z = k := ⟨z.toNat, by omega⟩
    have hk : k < C.length := by omega
    have lk : (lAt C k).length ≤ 1000 := HS.out.2 k hk
    rw [h0] at CZ
    by_cases hl : lAt C k = []
    · have e1 : tkE C k = 6 := by unfold tkE; rw [if_neg (fun x => x h0), Int.toNat_natCast, if_pos hl]
      have e2 : tkC C k = [] := by unfold tkC; rw [e1, if_neg (by decide)]
      have e3 : tkF C k = 0 := by unfold tkF; rw [e1, if_neg (by decide)]
      rw [e1, e2, e3]
      have HL := hide hl
      clear e1 e2 e3 hl h0 hz0 hz1 lk
      go_enter Try.func19, Try.ntmps19
      go_upto_region 1 with fail
      rw [← HW.out]
      have s1 := cell_box1 X1.out
      go_wp2_with fail
      refine CZ.out.mono ?_
      rintro e w1 ⟨rfl, hb⟩
      have K := hide (btrans K0.out hb)
      have X11 := hide (X1.out.below hb)
      have X21 := hide (X2.out.below hb)
      clear hb s1
      obtain ⟨b1, o1, u1, rfl, hl1, x1, hv1⟩ := R.out.cells0 K.out hk
      obtain ⟨D1, d1, rfl, _, q1⟩ := hv1
      rw [HL.out] at x1
      have x2 : w1.cell? ⟨b1, o1 + k, none⟩ = some (.slice D1 0 d1) := x1
      have s1 := cell_box1 X11.out
      have s2 := cell_box1 X21.out
      have f2 := X21.out.frozen 0
      clear x1 q1
      go_wp2
      exact ret_c3 Try.results19 rfl rfl rfl rfl (X21.out.put 0 _) ⟨none, 0, rfl, Nat.le_refl _, RdO.nil _, bset K.out (p := ⟨w.heap.size + 1, 0, none⟩) (by show w.heap.size ≤ w.heap.size + 1; omega) _⟩
    · obtain ⟨p, hp⟩ : ∃ p, (lAt C k).length = p + 1 := ⟨(lAt C k).length - 1, by
        have : (lAt C k).length ≠ 0 := fun e => hl (List.eq_nil_of_length_eq_zero e)
        omega⟩
      have e1 : tkE C k = 0 := by unfold tkE; rw [if_neg (fun x => x h0), Int.toNat_natCast, if_neg hl]
      have e2 : tkC C k = C.set k ((lAt C k).take p) := by unfold tkC; rw [e1, if_pos rfl, Int.toNat_natCast, hp]; rfl
      have e3 : tkF C k = (lAt C k).getD p 0 := by unfold tkF; rw [e1, if_pos rfl, Int.toNat_natCast, hp]; rfl
      rw [e1, e2, e3]
      obtain ⟨ff, hff⟩ : ∃ ff, ff = (lAt C k).getD p 0 := ⟨_, rfl⟩
      rw [← hff]
      have HF := hide hff
      have HP := hide hp
      have lp : p ≤ 1000 := by omega
      clear e1 e2 e3 hl h0 hz0 hz1 lk hp hff
      go_enter Try.func19, Try.ntmps19
      go_upto_region 1 with fail
      rw [← HW.out]
      clear HW
      have s1 := cell_box1 X1.out
      go_wp2_with fail
      refine CZ.out.mono ?_
      rintro e w1 ⟨rfl, hb⟩
      replace K0 := hide (btrans K0.out hb)
      replace X1 := hide (X1.out.below hb)
      replace X2 := hide (X2.out.below hb)
      have CL := hide (rclone_any _ C w1 (HI.out.below K0.out) HS.out)
      unfold CaR at CL
      clear hb s1 CZ
      obtain ⟨b1, o1, u1, rfl, hl1, x1, hv1⟩ := R.out.cells0 K0.out hk
      obtain ⟨D1, d1, rfl, _, q1⟩ := hv1
      rw [HP.out] at x1
      have s1 := cell_box1 X1.out
      have Q := hide q1
      have HX1 := hide x1
      clear q1
      go_wp2_with fail
      refine CL.out.mono ?_
      rintro e w2 ⟨A2, c2, vs, rfl, hc2, hov, hb⟩
      have OV0 := hide (hov.mono K0.out.size)
      obtain ⟨G, rfl, hGw, hGlt, _, _⟩ := (show ∃ G, A2 = some ⟨G, 0, none⟩ ∧ w1.heap.size ≤ G ∧ G < w2.heap.size ∧ True ∧ True by
        obtain ⟨g, e, h1, h2, _⟩ := row_cell hov.row (show C.length ≠ 0 by omega)
        exact ⟨g, e, h2, h1, trivial, trivial⟩)
      have K := hide (bal (btrans K0.out hb) (.cells #[.slice (some ⟨G, 0, none⟩) C.length c2] 24))
      have hlt9 : w.heap.size + 1 < w2.heap.size := Nat.lt_of_lt_of_le X2.out.lt hb.size
      have hne9 : w2.heap.size ≠ w.heap.size + 1 := by omega
      have hne1 : w.heap.size ≠ w.heap.size + 1 := by omega
      have KB := bal hb (.cells #[.slice (some ⟨G, 0, none⟩) C.length c2] 24)
      replace X1 := hide (X1.out.below KB)
      replace X2 := hide (X2.out.below KB)
      have X9 := hide (Box.new w2 24 #[.slice (some ⟨G, 0, none⟩) C.length c2])
      have OV := hide (OV0.out.below (bal (brefl w2) (.cells #[.slice (some ⟨G, 0, none⟩) C.length c2] 24)))
      obtain ⟨u0, hvk, hu0⟩ := OV.out.at hk
      obtain ⟨U, cu, e0, hcu⟩ := row_form hu0
      rw [HP.out] at e0
      subst e0
      have HGw := hide (Nat.le_trans K0.out.size hGw)
      have cgk := ((OV.out.x k).cellz hvk).1
      obtain ⟨cur, hXG, hBG⟩ := row_set_box OV.out.row
      have OIP0 := hide (show OwnI (w2.alloc (.cells #[.slice (some ⟨G, 0, none⟩) C.length c2] 24)) (.slice U p cu) ((lAt C k).take p) by
        have h1 := hu0
        rw [HP.out] at h1
        have h2 := row_cut h1 (show p ≤ p + 1 by omega)
        rw [← List.map_take] at h2
        have h3 : ((lAt C k).take p).length = p := by rw [List.length_take, HP.out]; omega
        exact OwnI.of_row' (base := w.heap.size) (by rw [h3]; exact h2))
      obtain ⟨gu, rfl, _, _, hcells, _⟩ := row_cell (show (w2.alloc (.cells #[.slice (some ⟨G, 0, none⟩) C.length c2] 24)).ownsRow w.heap.size 3 1 (.slice U (p + 1) cu) (p + 1) ((lAt C k).map ic) by have h1 := hu0; rw [HP.out] at h1; exact h1) (by omega)
      have yU := hcells p (ic ff) (by rw [List.getElem?_map, List.getElem?_eq_getElem (by rw [HP.out]; omega), HF.out, List.getD_eq_getElem?_getD, List.getElem?_eq_getElem (by rw [HP.out]; omega)]; rfl)
      unfold ic at yU
      have hpp : (p : Int) < (p : Int) + 1 := by omega
      clear hcells
      have lcu : p + 1 ≤ cu := by rw [HP.out] at hcu; exact hcu
      clear OV0 CL hov hb hGw KB hu0 hcu s1 x1
      have HVK := hide hvk
      have HXG := hide hXG
      have HBG := hide hBG
      have s9 := cell_box1 X9.out
      have hpi : (p : Int) ≤ (cu : Int) := by omega
      clear hvk hXG hBG
      skip
      go_wp2
      generalize w2.alloc (.cells #[.slice (some ⟨G, 0, none⟩) C.length c2] 24) = w3 at *
      have KD := below_drew (brefl w3)
      replace X1 := hide (X1.out.below KD)
      replace X2 := hide (X2.out.below KD)
      replace X9 := hide (X9.out.below KD)
      replace OV := hide (OV.out.below KD)
      replace K := hide (btrans K.out KD)
      replace HXG := hide (HXG.out.below KD)
      have OIP := hide (OIP0.out.below KD)
      have y8 := ((OV.out.x k).cellz HVK.out).1
      have g8 := ((OV.out.x k).cellz HVK.out).2
      clear OIP0 KD
      have HS8 := hide (show (fun W => W.cell? ⟨w2.heap.size, 0, none⟩ = some (.slice (some ⟨G, 0, none⟩) C.length c2)) w3.drew from s9)
      have hwp : IntKind.i64.wrap (p : Int) = (p : Int) := IntWalk.i64_in _ (by omega)
      refine wp_region_noPanic ?_
      refine wp_region_held_drew (S := (fun W => W.cell? ⟨w2.heap.size, 0, none⟩ = some (.slice (some ⟨G, 0, none⟩) C.length c2))) (by kernel_rfl) ?_ (fun hHeld => ?_)
      · exact HS8.out
      generalize w3.drew = w5 at *
      refine wpAnyH_take (i := 0) (oi := ⟨some 38, _, _, _, _, _⟩) (v := ?_) rfl (by kernel_rfl) (by kernel_rfl) (by kernel_rfl) (fun _ _ _ h => h) (Or.inl ⟨by kernel_rfl, ?_⟩) (by assumption) ?_
      rotate_left 1
      · (intro w hSw; (try dsimp only at hSw); go_simp) <;> (with_reducible rfl)
      (try simp only [Act.put, List.setIfInBounds_toArray, List.set_cons_succ, List.set_cons_zero])
      refine wpAnyH_take (i := 1) (oi := ⟨some 39, _, _, _, _, _⟩) (v := ?_) rfl (by kernel_rfl) (by kernel_rfl) (by kernel_rfl) (fun _ _ _ h => h) (Or.inl ⟨by kernel_rfl, ?_⟩) (by assumption) ?_
      rotate_left 1
      · (intro w hSw; (try dsimp only at hSw); go_simp) <;> (with_reducible rfl)
      (try simp only [Act.put, List.setIfInBounds_toArray, List.set_cons_succ, List.set_cons_zero])
      refine wpAnyH_take (i := 2) (oi := ⟨some 40, _, _, _, _, _⟩) (v := ?_) rfl (by kernel_rfl) (by kernel_rfl) (by kernel_rfl) (fun _ _ _ h => h) (Or.inl ⟨by kernel_rfl, ?_⟩) (by assumption) ?_
      rotate_left 1
      · (intro w hSw; (try dsimp only at hSw); go_simp) <;> (with_reducible rfl)
      (try simp only [Act.put, List.setIfInBounds_toArray, List.set_cons_succ, List.set_cons_zero])
      refine wpAnyH_take (i := 3) (oi := ⟨some 41, _, _, _, _, _⟩) (v := ?_) rfl (by kernel_rfl) (by kernel_rfl) (by kernel_rfl) (fun _ _ _ h => h) (Or.inl ⟨by kernel_rfl, ?_⟩) (by assumption) ?_
      rotate_left 1
      · (intro w hSw; (try dsimp only at hSw); go_simp) <;> (with_reducible rfl)
      (try simp only [Act.put, List.setIfInBounds_toArray, List.set_cons_succ, List.set_cons_zero])
      refine wpAnyH_take (i := 4) (oi := ⟨some 42, _, _, _, _, _⟩) (v := ?_) rfl (by kernel_rfl) (by kernel_rfl) (by kernel_rfl) (fun _ _ _ h => h) (Or.inl ⟨by kernel_rfl, ?_⟩) (by assumption) ?_
      rotate_left 1
      · (intro w hSw; (try dsimp only at hSw); go_simp) <;> (with_reducible rfl)
      (try simp only [Act.put, List.setIfInBounds_toArray, List.set_cons_succ, List.set_cons_zero])
      refine wpAnyH_take (i := 5) (oi := ⟨some 43, _, _, _, _, _⟩) (v := ?_) rfl (by kernel_rfl) (by kernel_rfl) (by kernel_rfl) (fun _ _ _ h => h) (Or.inl ⟨by kernel_rfl, ?_⟩) (by assumption) ?_
      rotate_left 1
      · (intro w hSw; (try dsimp only at hSw); go_simp) <;> (with_reducible rfl)
      (try simp only [Act.put, List.setIfInBounds_toArray, List.set_cons_succ, List.set_cons_zero])
      refine wpAnyH_take (i := 6) (oi := ⟨some 44, _, _, _, _, _⟩) (v := ?_) rfl (by kernel_rfl) (by kernel_rfl) (by kernel_rfl) (fun _ _ _ h => h) (Or.inl ⟨by kernel_rfl, ?_⟩) (by assumption) ?_
      rotate_left 1
      · (intro w hSw; (try dsimp only at hSw); go_simp) <;> (with_reducible rfl)
      (try simp only [Act.put, List.setIfInBounds_toArray, List.set_cons_succ, List.set_cons_zero])
      refine wpAnyH_take (i := 8) (oi := ⟨some 46, _, _, _, _, _⟩) (v := ?_) rfl (by kernel_rfl) (by kernel_rfl) (by kernel_rfl) (fun _ _ _ h => h) (Or.inl ⟨by kernel_rfl, ?_⟩) (by assumption) ?_
      rotate_left 1
      · (intro w hSw; (try dsimp only at hSw); go_simp) <;> (with_reducible rfl)
      (try simp only [Act.put, List.setIfInBounds_toArray, List.set_cons_succ, List.set_cons_zero])
      refine wpAnyH_take (i := 9) (oi := ⟨some 47, _, _, _, _, _⟩) (v := ?_) rfl (by kernel_rfl) (by kernel_rfl) (by kernel_rfl) (fun _ _ _ h => h) (Or.inl ⟨by kernel_rfl, ?_⟩) (by assumption) ?_
      rotate_left 1
      · (intro w hSw; (try dsimp only at hSw); go_simp) <;> (with_reducible rfl)
      (try simp only [Act.put, List.setIfInBounds_toArray, List.set_cons_succ, List.set_cons_zero])
      refine wpAnyH_ready (rs := [7]) (by kernel_rfl) (by simp) ?_
      refine AllReadyH.cons (o := _) rfl (fun K' hK => ?_) AllReadyH.nil
      go_simp
      refine hK.out _ _ ?_ (fun hHeld => ?_)
      · exact HS8.out
      clear hK K'
      (try simp only [Act.put, List.setIfInBounds_toArray, List.set_cons_succ, List.set_cons_zero])
      refine wpAnyH_take (i := 10) (oi := ⟨some 48, _, _, _, _, _⟩) (v := ?_) rfl (by kernel_rfl) (by kernel_rfl) (by kernel_rfl) (fun _ _ _ h => h) (Or.inl ⟨by kernel_rfl, ?_⟩) (by assumption) ?_
      rotate_left 1
      · (intro w hSw; (try dsimp only at hSw); go_simp) <;> (with_reducible rfl)
      (try simp only [Act.put, List.setIfInBounds_toArray, List.set_cons_succ, List.set_cons_zero])
      refine wpAnyH_take (i := 11) (oi := ⟨some 49, _, _, _, _, _⟩) (v := ?_) rfl (by kernel_rfl) (by kernel_rfl) (by kernel_rfl) (fun _ _ _ h => h) (Or.inl ⟨by kernel_rfl, ?_⟩) (by assumption) ?_
      rotate_left 1
      · (intro w hSw; (try dsimp only at hSw); go_simp) <;> (with_reducible rfl)
      (try simp only [Act.put, List.setIfInBounds_toArray, List.set_cons_succ, List.set_cons_zero])
      refine wpAnyH_ready (rs := [12]) (by kernel_rfl) (by simp) ?_
      refine AllReadyH.cons (o := _) rfl (fun K' hK => ?_) AllReadyH.nil
      go_simp
      have OR := hide ((OV.out.x k).putR (u := .slice (some ⟨gu, 0, none⟩) p cu) (l := (lAt C k).take p) hk OIP.out)
      have KP := hide (Kp.boxset HXG.out HBG.out k (.slice (some ⟨gu, 0, none⟩) p cu))
      replace X1 := hide (X1.out.kp KP.out (by decide))
      replace X2 := hide (X2.out.kp KP.out (by decide))
      replace X9 := hide (X9.out.kp KP.out (by decide))
      replace K := hide (bset K.out (p := ⟨G, k, none⟩) HGw.out (.slice (some ⟨gu, 0, none⟩) p cu))
      have H5 := hide (And.intro HXG KP)
      clear HXG KP y8 g8 OV
      generalize w5.setCell ⟨G, k, none⟩ (.slice (some ⟨gu, 0, none⟩) p cu) = w6 at *
      refine hK.out _ _ ?_ (fun hHeld => ?_)
      · exact cell_box1 X9.out
      clear hK K'
      (try simp only [Act.put, List.setIfInBounds_toArray, List.set_cons_succ, List.set_cons_zero])
      refine wpAnyH_done (by kernel_rfl) ?_ _
      refine NoPanic.normal ?_
      have s9 := cell_box1 X9.out
      have hge1 : w.heap.size ≤ w.heap.size + 1 := by omega
      have s2 := cell_box1 X2.out
      have f2 := X2.out.frozen 0
      go_wp2
      have KP7 := Kp.boxset X2.out hge1 0 (.slice (some ⟨G, 0, none⟩) C.length c2)
      have K7 := hide (bset K.out (p := ⟨w.heap.size + 1, 0, none⟩) hge1 (.slice (some ⟨G, 0, none⟩) C.length c2))
      have OR7 := hide (OR.out.kp KP7 (by decide) (by decide))
      exact ret_c3 Try.results19 rfl rfl rfl rfl (X2.out.put 0 _) (R3.mk (by rw [List.length_set]) rfl hc2 OR7.out K7.out)
  · have hd : (czE C z != 0) = true := by simpa using h0
    have e1 : tkE C z = czE C z := by unfold tkE; rw [if_pos h0]
    have e2 : tkC C z = [] := by unfold tkC; rw [e1, if_neg h0]
    have e3 : tkF C z = 0 := by unfold tkF; rw [e1, if_neg h0]
    rw [e1, e2, e3]
    clear e1 e2 e3 h0
    generalize czE C z = er at *
    go_enter Try.func19, Try.ntmps19
    go_upto_region 1 with fail
    rw [← HW.out]
    have s1 := cell_box1 X1.out
    go_wp2_with fail
    refine CZ.out.mono ?_
    rintro e w1 ⟨rfl, hb⟩
    have K := hide (btrans K0.out hb)
    have X21 := hide (X2.out.below hb)
    have s2 := cell_box1 X21.out
    have f2 := X21.out.frozen 0
    clear hb s1
    go_wp2
    exact ret_c3 Try.results19 rfl rfl rfl rfl (X21.out.put 0 _) ⟨none, 0, rfl, Nat.le_refl _, RdO.nil _, bset K.out (p := ⟨w.heap.size + 1, 0, none⟩) (by show w.heap.size ≤ w.heap.size + 1; omega) _⟩
end Go.Proofs.Ytinoddpdfknkbab.Pc
