import Derived.Test.YtinoddpdfknkbabPt0
import Derived.RangeFuncBox
namespace Go.Proofs.Ytinoddpdfknkbab.Pc
open Go Go.RowKit
set_option linter.unusedVariables false
set_option maxHeartbeats 8000000 in
set_option maxRecDepth 100000 in
theorem put_any (v : Value) (C : Ls) (z f b h' : Int) (w : World) (h : CaIn w v C) (hS : Sz 1000 1000 C) : Calls Try.prog 23 #[v, .int .i64 z, .int .i64 f, .int .i64 b, .int .i64 h'] w (RB (ptC C z f b h') (ptB C z f b h') (ptE C z f b h') w) := by
  have hI := h
  obtain ⟨A, c, rfl, hc, r⟩ := h
  obtain ⟨W0, hW0⟩ : ∃ W0, W0 = ((w.alloc (.cells #[.slice A C.length c] 24)).alloc (.cells #[.slice none 0 0] 24)) := ⟨_, rfl⟩
  have K0 := hide (show Below w.heap.size w W0 by rw [hW0]; exact bal (bal (brefl w) _) _)
  have X1 := hide (show Box W0 w.heap.size 24 #[.slice A C.length c] by rw [hW0]; exact (Box.new w 24 _).more _)
  have X2 := hide (show Box W0 (w.heap.size + 1) 24 #[.slice none 0 0] by rw [hW0]; exact Box.new2 w _ 24 _)
  have CZ := hide (cz_any _ C z W0 (hI.below K0.out) hS)
  have FC := hide (fun w => fr_any f w)
  have HI := hide hI
  have HS := hide hS
  have ln := hS.1
  have HW := hide hW0
  clear r hI hS hW0
  by_cases h0 : czE C z = 0
  · obtain ⟨_, hfv, hz0, hz1⟩ := czE_zero.1 h0
    have HA := hide (show ∀ k, k < C.length → ∀ f ∈ lAt C k, fr f = true from fun k hk f hf => by
      have := (frE_zero.1 hfv).1 f (flat_mem hk hf)
      simpa [fr] using this)
    clear hfv
    rw [h0] at CZ
    have hk0 : ∃ k : Nat, z = k := ⟨z.toNat, by omega⟩
    by_cases hfr : fr f = false
    · have e1 : ptE C z f b h' = 2 := by unfold ptE; rw [if_neg (fun x => x h0), if_pos hfr]
      have e2 : ptC C z f b h' = [] := by unfold ptC; rw [e1, if_neg (by decide)]
      have e3 : ptB C z f b h' = [] := by unfold ptB; rw [e1, if_neg (fun x => absurd x.1 (by decide))]
      rw [e1, e2, e3]
      rw [hfr] at FC
      clear e1 e2 e3 h0 hz0 hz1 hfr hk0
      go_enter Try.func23, Try.ntmps23
      go_upto_region 1 with fail
      rw [← HW.out]
      clear HW
      have s1 := cell_box1 X1.out
      go_wp2_with fail
      refine CZ.out.mono ?_
      rintro e w1 ⟨rfl, hb⟩
      replace K0 := hide (btrans K0.out hb)
      replace X1 := hide (X1.out.below hb)
      replace X2 := hide (X2.out.below hb)
      clear hb s1 CZ
      have s1 := cell_box1 X1.out
      have s2 := cell_box1 X2.out
      have f2 := X2.out.frozen 0

      go_wp2_with fail
      refine (FC.out _).mono ?_
      rintro e wf ⟨rfl, rfl⟩
      go_wp2
      exact ret_c3 Try.results23 rfl rfl rfl rfl (X2.out.put 0 _) ⟨none, 0, none, 0, rfl, Nat.le_refl _, Nat.le_refl _, RdO.nil _, OwnI.nil _, bset K0.out (p := ⟨w.heap.size + 1, 0, none⟩) (by show w.heap.size ≤ w.heap.size + 1; omega) _⟩
    · replace hfr : fr f = true := by simpa using hfr
      rw [hfr] at FC
      have HFR := hide hfr
      by_cases hb1 : b < 1
      · have e1 : ptE C z f b h' = 1 := by unfold ptE; rw [if_neg (fun x => x h0), if_neg (by rw [hfr]; decide), if_pos (.inl hb1)]
        have e2 : ptC C z f b h' = [] := by unfold ptC; rw [e1, if_neg (by decide)]
        have e3 : ptB C z f b h' = [] := by unfold ptB; rw [e1, if_neg (fun x => absurd x.1 (by decide))]
        rw [e1, e2, e3]
        have d1 : decide (b < 1) = true := decide_eq_true hb1
        clear e1 e2 e3 h0 hz0 hz1 hfr hk0 hb1
        go_enter Try.func23, Try.ntmps23
        go_upto_region 1 with fail
        rw [← HW.out]
        clear HW
        have s1 := cell_box1 X1.out
        go_wp2_with fail
        refine CZ.out.mono ?_
        rintro e w1 ⟨rfl, hb⟩
        replace K0 := hide (btrans K0.out hb)
        replace X1 := hide (X1.out.below hb)
        replace X2 := hide (X2.out.below hb)
        clear hb s1 CZ
        have s1 := cell_box1 X1.out
        have s2 := cell_box1 X2.out
        have f2 := X2.out.frozen 0

        go_wp2_with fail
        refine (FC.out _).mono ?_
        rintro e wf ⟨rfl, rfl⟩
        go_wp2
        exact ret_c3 Try.results23 rfl rfl rfl rfl (X2.out.put 0 _) ⟨none, 0, none, 0, rfl, Nat.le_refl _, Nat.le_refl _, RdO.nil _, OwnI.nil _, bset K0.out (p := ⟨w.heap.size + 1, 0, none⟩) (by show w.heap.size ≤ w.heap.size + 1; omega) _⟩
      have d1 : decide (b < 1) = false := decide_eq_false hb1
      by_cases hbh : h' < b
      · have e1 : ptE C z f b h' = 1 := by unfold ptE; rw [if_neg (fun x => x h0), if_neg (by rw [hfr]; decide), if_pos (.inr hbh)]
        have e2 : ptC C z f b h' = [] := by unfold ptC; rw [e1, if_neg (by decide)]
        have e3 : ptB C z f b h' = [] := by unfold ptB; rw [e1, if_neg (fun x => absurd x.1 (by decide))]
        rw [e1, e2, e3]
        have d2 : decide (h' < b) = true := decide_eq_true hbh
        clear e1 e2 e3 h0 hz0 hz1 hfr hk0 hb1 hbh
        go_enter Try.func23, Try.ntmps23
        go_upto_region 1 with fail
        rw [← HW.out]
        clear HW
        have s1 := cell_box1 X1.out
        go_wp2_with fail
        refine CZ.out.mono ?_
        rintro e w1 ⟨rfl, hb⟩
        replace K0 := hide (btrans K0.out hb)
        replace X1 := hide (X1.out.below hb)
        replace X2 := hide (X2.out.below hb)
        clear hb s1 CZ
        have s1 := cell_box1 X1.out
        have s2 := cell_box1 X2.out
        have f2 := X2.out.frozen 0

        go_wp2_with fail
        refine (FC.out _).mono ?_
        rintro e wf ⟨rfl, rfl⟩
        go_wp2
        exact ret_c3 Try.results23 rfl rfl rfl rfl (X2.out.put 0 _) ⟨none, 0, none, 0, rfl, Nat.le_refl _, Nat.le_refl _, RdO.nil _, OwnI.nil _, bset K0.out (p := ⟨w.heap.size + 1, 0, none⟩) (by show w.heap.size ≤ w.heap.size + 1; omega) _⟩
      have d2 : decide (h' < b) = false := decide_eq_false hbh
      have FO := hide (fun W (hb : Below w.heap.size w W) => fof_any _ C W (HI.out.below hb) HS.out HA.out)
      by_cases hfm : f ∈ C.flatten
      · have MEM := hide (decide_eq_true hfm)
        have e1 : ptE C z f b h' = 7 := by unfold ptE; rw [if_neg (fun x => x h0), if_neg (by rw [hfr]; decide), if_neg (by omega), if_pos hfm]
        have e2 : ptC C z f b h' = [] := by unfold ptC; rw [e1, if_neg (by decide)]
        have e3 : ptB C z f b h' = [] := by unfold ptB; rw [e1, if_neg (fun x => absurd x.1 (by decide))]
        rw [e1, e2, e3]
        clear e1 e2 e3 h0 hz0 hz1 hfr hk0 hb1 hbh hfm
        go_enter Try.func23, Try.ntmps23
        go_upto_region 1 with fail
        rw [← HW.out]
        clear HW
        have s1 := cell_box1 X1.out
        go_wp2_with fail
        refine CZ.out.mono ?_
        rintro e w1 ⟨rfl, hb⟩
        replace K0 := hide (btrans K0.out hb)
        replace X1 := hide (X1.out.below hb)
        replace X2 := hide (X2.out.below hb)
        clear hb s1 CZ
        have s1 := cell_box1 X1.out
        have s2 := cell_box1 X2.out
        have f2 := X2.out.frozen 0

        go_wp2_with fail
        refine (FC.out _).mono ?_
        rintro e wf ⟨rfl, rfl⟩

        go_wp2_with fail
        refine (FO.out _ K0.out).mono ?_
        rintro e w2 ⟨rfl, M, hb⟩
        have hlk := M.out.look HFR.out
        rw [MEM.out] at hlk
        clear M

        replace K0 := hide (btrans K0.out hb)
        replace X1 := hide (X1.out.below hb)
        replace X2 := hide (X2.out.below hb)
        clear hb s1 s2 f2
        have s1 := cell_box1 X1.out
        have s2 := cell_box1 X2.out
        have f2 := X2.out.frozen 0
        go_wp2
        exact ret_c3 Try.results23 rfl rfl rfl rfl (X2.out.put 0 _) ⟨none, 0, none, 0, rfl, Nat.le_refl _, Nat.le_refl _, RdO.nil _, OwnI.nil _, bset K0.out (p := ⟨w.heap.size + 1, 0, none⟩) (by show w.heap.size ≤ w.heap.size + 1; omega) _⟩
      have MEM := hide (decide_eq_false hfm)
      have e1 : ptE C z f b h' = 0 := by unfold ptE; rw [if_neg (fun x => x h0), if_neg (by rw [hfr]; decide), if_neg (by omega), if_neg hfm]
      obtain ⟨k, rfl⟩ := hk0
      have hk : k < C.length := by omega
      have lk : (lAt C k).length ≤ 1000 := HS.out.2 k hk
      obtain ⟨bn, rfl⟩ : ∃ bn : Nat, b = bn := ⟨b.toNat, by omega⟩
      have hbn : 1 ≤ bn := by omega
      have hbnh : (bn : Int) ≤ h' := by omega
      obtain ⟨m, hm⟩ : ∃ m, m = (lAt C k).length := ⟨_, rfl⟩
      rw [← hm] at lk
      have HM := hide hm
      by_cases hov : h' < (m : Int) + 1
      · have hbm : bn ≤ m := by omega
        have e2 : ptC C (k : Int) f (bn : Int) h' = C.set k ((lAt C k ++ [f]).drop bn) := by unfold ptC; rw [e1, if_pos rfl, Int.toNat_natCast, ← hm, if_pos hov, Int.toNat_natCast]
        have e3 : ptB C (k : Int) f (bn : Int) h' = (lAt C k ++ [f]).take bn := by unfold ptB; rw [if_pos ⟨e1, by rw [Int.toNat_natCast, ← hm]; exact hov⟩, Int.toNat_natCast, Int.toNat_natCast]
        rw [e1, e2, e3]
        have dv : decide (h' < (m : Int) + 1) = true := decide_eq_true (by omega)
        have dv2 : decide (h' < ((m + 1 : Nat) : Int)) = true := decide_eq_true (by omega)
        clear e1 e2 e3 h0 hz0 hz1 hfr hb1 hbh hfm hm

        go_enter Try.func23, Try.ntmps23
        go_upto_region 1 with fail
        rw [← HW.out]
        clear HW
        have s1 := cell_box1 X1.out
        go_wp2_with fail
        refine CZ.out.mono ?_
        rintro e w1 ⟨rfl, hb⟩
        replace K0 := hide (btrans K0.out hb)
        replace X1 := hide (X1.out.below hb)
        replace X2 := hide (X2.out.below hb)
        clear hb s1 CZ
        have s1 := cell_box1 X1.out
        have s2 := cell_box1 X2.out
        have f2 := X2.out.frozen 0

        go_wp2_with fail
        refine (FC.out _).mono ?_
        rintro e wf ⟨rfl, rfl⟩

        go_wp2_with fail
        refine (FO.out _ K0.out).mono ?_
        rintro e w2 ⟨rfl, M, hb⟩
        have hlk := M.out.look HFR.out
        rw [MEM.out] at hlk
        clear M

        replace K0 := hide (btrans K0.out hb)
        replace X1 := hide (X1.out.below hb)
        replace X2 := hide (X2.out.below hb)
        clear hb s1 s2 f2
        have s1 := cell_box1 X1.out
        have s2 := cell_box1 X2.out
        have f2 := X2.out.frozen 0

        have CL := hide (clone_any _ C w2 (HI.out.below K0.out) HS.out)
        unfold CaR at CL
        go_wp2_with fail
        refine CL.out.mono ?_
        rintro e w3 ⟨A2, c2, vs, rfl, hc2, hov2, hb⟩
        have OV0 := hide (hov2.mono K0.out.size)
        obtain ⟨G, rfl, hGw, hGlt⟩ := (show ∃ G, A2 = some ⟨G, 0, none⟩ ∧ w2.heap.size ≤ G ∧ G < w3.heap.size by
          obtain ⟨g, e, h1, h2, _⟩ := row_cell hov2.row (show C.length ≠ 0 by omega)
          exact ⟨g, e, h2, h1⟩)
        have K := hide (bal (btrans K0.out hb) (.cells #[.slice (some ⟨G, 0, none⟩) C.length c2] 24))
        have hge1 : w.heap.size ≤ w.heap.size + 1 := by omega
        have KB := bal hb (.cells #[.slice (some ⟨G, 0, none⟩) C.length c2] 24)
        replace X2 := hide (X2.out.below KB)
        have X9 := hide (Box.new w3 24 #[.slice (some ⟨G, 0, none⟩) C.length c2])
        have OV := hide (OV0.out.below (bal (brefl w3) (.cells #[.slice (some ⟨G, 0, none⟩) C.length c2] 24)))
        obtain ⟨u0, hvk, hu0⟩ := OV.out.at hk
        obtain ⟨U, cu, e0, hcu⟩ := row_form hu0
        rw [← HM.out] at e0 hu0
        subst e0
        have HGw := hide (Nat.le_trans K0.out.size hGw)
        have HVK := hide hvk
        have HU0 := hide hu0
        clear OV0 CL hov2 hb hGw KB hcu s1 s2 f2 hvk hu0 X1 hGlt
        go_upto_region 11 with fail
        generalize w3.alloc (.cells #[.slice (some ⟨G, 0, none⟩) C.length c2] 24) = w4 at *
        obtain ⟨cgk, fgk⟩ := (OV.out.x k).cellz HVK.out
        have s9 := cell_box1 X9.out
        have hal := bal (brefl w4) (.cells #[.int .i64 f] 3)
        obtain ⟨i0, hi0, hq0, hq1, hq2⟩ := info_parts info3
        have hrow4 := row_below HU0.out hal
        obtain ⟨v5, w5, ha5, ho5, hg5, _, hat5⟩ := run_append_own_at (P := Try.prog) (w4.alloc (.cells #[.int .i64 f] 3)) w.heap.size 34 34 3 i0 _ 1 8 Try.underlying34 hi0 hq0 hq1 hq2 rfl (by omega) (.slice U m cu) m _ hrow4 ⟨w4.heap.size, 0, none⟩ 1 1 [.int .i64 f] (by simp) (cell_one_new _ _ _) (by intro x hx; simp at hx; subst hx; rfl) (by simp only [maxLen]; omega) (by omega) (Nat.le_trans K.out.size hal.size)
        obtain ⟨g5, c5, rfl⟩ := ownsRow_succ ho5
        have OX5 := hide (((OV.out.below hal).grown HVK.out hg5))
        have hk5 : Kp w.heap.size 3 w4 w5 := (Kp.of_below hal K.out.size).trans (kp_grown hrow4 hg5 (Nat.le_trans K.out.size hal.size))
        have HO5 := hide (show w5.ownsRow w.heap.size 3 1 (.slice (some ⟨g5, 0, none⟩) (m + 1) c5) (m + 1) ((lAt C k ++ [f]).map ic) by simpa [List.map_append, ic] using ho5)
        have lc5 : m + 1 ≤ c5 := by
          obtain ⟨_, _, e, h⟩ := row_form ho5
          injection e with _ _ e; omega
        replace X2 := hide (X2.out.kp hk5 (by decide))
        replace X9 := hide (X9.out.kp hk5 (by decide))
        replace K := hide (K.out.trans hk5.below)
        have HA5 := hide ha5
        have H4 := hide (And.intro ho5 (And.intro hg5 (And.intro hk5 (And.intro hat5 hrow4))))
        clear ho5 hg5 hat5 hk5 ha5 hal hrow4 OV HU0
        go_upto_region 13 with (at_builtin; (refine wpList_app rfl (.tmp 50) (.tmp 52) 34 rfl _ _ _ rfl rfl 34 rfl HA5.out ?_))
        clear cgk fgk s9
        have s9 := cell_box1 X9.out

        have hLm : (lAt C k ++ [f]).length = m + 1 := by rw [List.length_append, ← HM.out]; rfl
        have hcb : ¬ (c5 = bn) := by omega
        have hcb2 : ¬ ((c5 : Int) = (bn : Int)) := by omega
        have hbc : (bn : Int) ≤ (c5 : Int) := by omega
        have hbm1 : (bn : Int) ≤ (m : Int) + 1 := by omega
        have hmc1 : (m : Int) + 1 ≤ (c5 : Int) := by omega
        have OI := hide (show OwnI w5 (.slice (some ⟨g5, bn, none⟩) (m + 1 - bn) (c5 - bn)) ((lAt C k ++ [f]).drop bn) from row_drop HO5.out hLm (by omega))
        have OT := hide (show OwnI w5 (.slice (some ⟨g5, 0, none⟩) bn c5) ((lAt C k ++ [f]).take bn) by
          have h2 := row_cut HO5.out (show bn ≤ m + 1 by omega)
          rw [← List.map_take] at h2
          have h3 : ((lAt C k ++ [f]).take bn).length = bn := by rw [List.length_take, hLm]; omega
          exact OwnI.of_row' (base := w.heap.size) (by rw [h3]; exact h2))
        have HT3 := hide (show ((lAt C k ++ [f]).take bn).length = bn by rw [List.length_take, hLm]; omega)
        have HD3 := hide (show ((lAt C k ++ [f]).drop bn).length = m + 1 - bn by rw [List.length_drop, hLm])
        clear hLm
        obtain ⟨A', c', e', _, hbi⟩ := OT.out.is
        rw [HT3.out] at e'
        injection e' with e1 _ e3
        subst e1 e3

        have SC := hide (fun W (hb : Below w5.heap.size w5 W) => sclone_any g5 ((lAt C k ++ [f]).take bn) bn c5 W HT3.out (hbi.below hb) (by omega))
        have KK := hide (below_drew (brefl w5))
        clear hbi
        go_wp2
        refine wp_region_noPanic ?_
        refine wp_region_held_drew (S := (fun _ => True)) (by kernel_rfl) ?_ (fun hHeld => ?_)
        · trivial
        refine wpAnyH_take (i := 0) (oi := ⟨some 58, _, _, _, _, _⟩) (v := ?_) rfl (by kernel_rfl) (by kernel_rfl) (by kernel_rfl) (fun _ _ _ h => h) (Or.inl ⟨by kernel_rfl, ?_⟩) (by assumption) ?_
        rotate_left 1
        · (intro w hSw; (try dsimp only at hSw); go_simp) <;> (with_reducible rfl)
        (try simp only [Act.put, List.setIfInBounds_toArray, List.set_cons_succ, List.set_cons_zero])
        refine wpAnyH_take (i := 1) (oi := ⟨some 59, _, _, _, _, _⟩) (v := ?_) rfl (by kernel_rfl) (by kernel_rfl) (by kernel_rfl) (fun _ _ _ h => h) (Or.inl ⟨by kernel_rfl, ?_⟩) (by assumption) ?_
        rotate_left 1
        · (intro w hSw; (try dsimp only at hSw); go_simp) <;> (with_reducible rfl)
        (try simp only [Act.put, List.setIfInBounds_toArray, List.set_cons_succ, List.set_cons_zero])
        refine wpAnyH_take (i := 2) (oi := ⟨some 60, _, _, _, _, _⟩) (v := ?_) rfl (by kernel_rfl) (by kernel_rfl) (by kernel_rfl) (fun _ _ _ h => h) (Or.inl ⟨by kernel_rfl, ?_⟩) (by assumption) ?_
        rotate_left 1
        · (intro w hSw; (try dsimp only at hSw); go_simp) <;> (with_reducible rfl)
        (try simp only [Act.put, List.setIfInBounds_toArray, List.set_cons_succ, List.set_cons_zero])
        refine wpAnyH_take (i := 4) (oi := ⟨some 62, _, _, _, _, _⟩) (v := ?_) rfl (by kernel_rfl) (by kernel_rfl) (by kernel_rfl) (fun _ _ _ h => h) (Or.inl ⟨by kernel_rfl, ?_⟩) (by assumption) ?_
        rotate_left 1
        · (intro w hSw; (try dsimp only at hSw); go_simp) <;> (with_reducible rfl)
        (try simp only [Act.put, List.setIfInBounds_toArray, List.set_cons_succ, List.set_cons_zero])
        refine wpAnyH_take (i := 5) (oi := ⟨some 63, _, _, _, _, _⟩) (v := ?_) rfl (by kernel_rfl) (by kernel_rfl) (by kernel_rfl) (fun _ _ _ h => h) (Or.inl ⟨by kernel_rfl, ?_⟩) (by assumption) ?_
        rotate_left 1
        · (intro w hSw; (try dsimp only at hSw); go_simp) <;> (with_reducible rfl)
        (try simp only [Act.put, List.setIfInBounds_toArray, List.set_cons_succ, List.set_cons_zero])
        refine wpAnyH_take (i := 6) (oi := ⟨some 64, _, _, _, _, _⟩) (v := ?_) rfl (by kernel_rfl) (by kernel_rfl) (by kernel_rfl) (fun _ _ _ h => h) (Or.inl ⟨by kernel_rfl, ?_⟩) (by assumption) ?_
        rotate_left 1
        · (intro w hSw; (try dsimp only at hSw); go_simp) <;> (with_reducible rfl)
        (try simp only [Act.put, List.setIfInBounds_toArray, List.set_cons_succ, List.set_cons_zero])
        refine wpAnyH_ready (rs := [3]) (by kernel_rfl) (by simp) ?_
        refine AllReadyH.cons (o := _) rfl (fun K' hK => ?_) AllReadyH.nil
        go_simp
        refine (SC.out _ KK.out).mono ?_
        rintro e w7 ⟨A7, d7, rfl, hd7, ho7, hb7⟩
        replace KK := hide (btrans KK.out hb7)
        replace X2 := hide (X2.out.below KK.out)
        replace X9 := hide (X9.out.below KK.out)
        replace K := hide (btrans K.out KK.out)
        replace OX5 := hide (OX5.out.below KK.out)
        replace OI := hide (OI.out.below KK.out)
        have HB7 := hide ho7
        clear hb7 ho7
        refine hK.out _ _ ?_ (fun hHeld => ?_)
        · trivial
        clear hK K'
        (try simp only [Act.put, List.setIfInBounds_toArray, List.set_cons_succ, List.set_cons_zero])
        refine wpAnyH_take (i := 7) (oi := ⟨some 16, _, _, _, _, _⟩) (v := ?_) rfl (by kernel_rfl) (by kernel_rfl) (by kernel_rfl) (fun _ _ _ h => h) (Or.inl ⟨by kernel_rfl, ?_⟩) (by assumption) ?_
        rotate_left 1
        · (intro w hSw; (try dsimp only at hSw); go_simp) <;> (with_reducible rfl)
        (try simp only [Act.put, List.setIfInBounds_toArray, List.set_cons_succ, List.set_cons_zero])
        refine wpAnyH_take (i := 8) (oi := ⟨some 15, _, _, _, _, _⟩) (v := ?_) rfl (by kernel_rfl) (by kernel_rfl) (by kernel_rfl) (fun _ _ _ h => h) (Or.inl ⟨by kernel_rfl, ?_⟩) (by assumption) ?_
        rotate_left 1
        · (intro w hSw; (try dsimp only at hSw); go_simp) <;> (with_reducible rfl)
        (try simp only [Act.put, List.setIfInBounds_toArray, List.set_cons_succ, List.set_cons_zero])
        refine wpAnyH_done (by kernel_rfl) ?_ _
        refine NoPanic.normal ?_
        have s9 := cell_box1 X9.out

        have s2 := cell_box1 X2.out
        have f2 := X2.out.frozen 0
        obtain ⟨cur, hXG, hBG⟩ := row_set_box OX5.out.row
        have HXG := hide hXG
        have HBG := hide hBG
        obtain ⟨cgk, fgk⟩ := OX5.out.cellz HVK.out
        clear hXG hBG
        go_upto_region 16 with fail
        have KP := Kp.boxset HXG.out HBG.out k (.slice (some ⟨g5, bn, none⟩) (m + 1 - bn) (c5 - bn))
        have OR := hide (OX5.out.putR (u := (.slice (some ⟨g5, bn, none⟩) (m + 1 - bn) (c5 - bn))) (l := ((lAt C k ++ [f]).drop bn)) hk OI.out)
        replace X2 := hide (X2.out.kp KP (by decide))
        replace X9 := hide (X9.out.kp KP (by decide))
        replace K := hide (bset K.out (p := ⟨G, k, none⟩) HGw.out (.slice (some ⟨g5, bn, none⟩) (m + 1 - bn) (c5 - bn)))
        have HB8 := hide (HB7.out.kp KP (by decide))
        have HKP := hide KP
        clear KP s9 s2 f2 cgk fgk HXG OX5
        generalize w7.setCell ⟨G, k, none⟩ (.slice (some ⟨g5, bn, none⟩) (m + 1 - bn) (c5 - bn)) = w8 at *
        have s9 := cell_box1 X9.out
        have s2 := cell_box1 X2.out
        have f2 := X2.out.frozen 0
        go_wp2
        have KP7 := Kp.boxset X2.out hge1 0 (.slice (some ⟨G, 0, none⟩) C.length c2)
        have K7 := hide (bset K.out (p := ⟨w.heap.size + 1, 0, none⟩) hge1 (.slice (some ⟨G, 0, none⟩) C.length c2))
        have OR7 := OR.out.kp KP7 (by decide) (by decide)

        obtain ⟨A9, d9, e9, hd9, hb9⟩ := (HB8.out.kp KP7 (by decide)).is
        rw [HT3.out] at e9 hd9
        injection e9 with e1 _ e3
        subst e1 e3
        exact ret_c3 Try.results23 rfl rfl rfl rfl (X2.out.put 0 _) (RB.mk (by rw [List.length_set]) HT3.out.symm rfl hc2 hd9 OR7 (HB8.out.kp KP7 (by decide)) K7.out)
      · have e2 : ptC C (k : Int) f (bn : Int) h' = C.set k (lAt C k ++ [f]) := by unfold ptC; rw [e1, if_pos rfl, Int.toNat_natCast, ← hm, if_neg hov]
        have e3 : ptB C (k : Int) f (bn : Int) h' = [] := by unfold ptB; rw [if_neg (fun x => by have := x.2; rw [Int.toNat_natCast, ← hm] at this; exact hov this)]
        rw [e1, e2, e3]
        have dv : decide (h' < (m : Int) + 1) = false := decide_eq_false (by omega)
        have dv2 : decide (h' < ((m + 1 : Nat) : Int)) = false := decide_eq_false (by omega)
        clear e1 e2 e3 h0 hz0 hz1 hfr hb1 hbh hfm hm

        go_enter Try.func23, Try.ntmps23
        go_upto_region 1 with fail
        rw [← HW.out]
        clear HW
        have s1 := cell_box1 X1.out
        go_wp2_with fail
        refine CZ.out.mono ?_
        rintro e w1 ⟨rfl, hb⟩
        replace K0 := hide (btrans K0.out hb)
        replace X1 := hide (X1.out.below hb)
        replace X2 := hide (X2.out.below hb)
        clear hb s1 CZ
        have s1 := cell_box1 X1.out
        have s2 := cell_box1 X2.out
        have f2 := X2.out.frozen 0

        go_wp2_with fail
        refine (FC.out _).mono ?_
        rintro e wf ⟨rfl, rfl⟩

        go_wp2_with fail
        refine (FO.out _ K0.out).mono ?_
        rintro e w2 ⟨rfl, M, hb⟩
        have hlk := M.out.look HFR.out
        rw [MEM.out] at hlk
        clear M

        replace K0 := hide (btrans K0.out hb)
        replace X1 := hide (X1.out.below hb)
        replace X2 := hide (X2.out.below hb)
        clear hb s1 s2 f2
        have s1 := cell_box1 X1.out
        have s2 := cell_box1 X2.out
        have f2 := X2.out.frozen 0

        have CL := hide (clone_any _ C w2 (HI.out.below K0.out) HS.out)
        unfold CaR at CL
        go_wp2_with fail
        refine CL.out.mono ?_
        rintro e w3 ⟨A2, c2, vs, rfl, hc2, hov2, hb⟩
        have OV0 := hide (hov2.mono K0.out.size)
        obtain ⟨G, rfl, hGw, hGlt⟩ := (show ∃ G, A2 = some ⟨G, 0, none⟩ ∧ w2.heap.size ≤ G ∧ G < w3.heap.size by
          obtain ⟨g, e, h1, h2, _⟩ := row_cell hov2.row (show C.length ≠ 0 by omega)
          exact ⟨g, e, h2, h1⟩)
        have K := hide (bal (btrans K0.out hb) (.cells #[.slice (some ⟨G, 0, none⟩) C.length c2] 24))
        have hge1 : w.heap.size ≤ w.heap.size + 1 := by omega
        have KB := bal hb (.cells #[.slice (some ⟨G, 0, none⟩) C.length c2] 24)
        replace X2 := hide (X2.out.below KB)
        have X9 := hide (Box.new w3 24 #[.slice (some ⟨G, 0, none⟩) C.length c2])
        have OV := hide (OV0.out.below (bal (brefl w3) (.cells #[.slice (some ⟨G, 0, none⟩) C.length c2] 24)))
        obtain ⟨u0, hvk, hu0⟩ := OV.out.at hk
        obtain ⟨U, cu, e0, hcu⟩ := row_form hu0
        rw [← HM.out] at e0 hu0
        subst e0
        have HGw := hide (Nat.le_trans K0.out.size hGw)
        have HVK := hide hvk
        have HU0 := hide hu0
        clear OV0 CL hov2 hb hGw KB hcu s1 s2 f2 hvk hu0 X1 hGlt
        go_upto_region 11 with fail
        generalize w3.alloc (.cells #[.slice (some ⟨G, 0, none⟩) C.length c2] 24) = w4 at *
        obtain ⟨cgk, fgk⟩ := (OV.out.x k).cellz HVK.out
        have s9 := cell_box1 X9.out
        have hal := bal (brefl w4) (.cells #[.int .i64 f] 3)
        obtain ⟨i0, hi0, hq0, hq1, hq2⟩ := info_parts info3
        have hrow4 := row_below HU0.out hal
        obtain ⟨v5, w5, ha5, ho5, hg5, _, hat5⟩ := run_append_own_at (P := Try.prog) (w4.alloc (.cells #[.int .i64 f] 3)) w.heap.size 34 34 3 i0 _ 1 8 Try.underlying34 hi0 hq0 hq1 hq2 rfl (by omega) (.slice U m cu) m _ hrow4 ⟨w4.heap.size, 0, none⟩ 1 1 [.int .i64 f] (by simp) (cell_one_new _ _ _) (by intro x hx; simp at hx; subst hx; rfl) (by simp only [maxLen]; omega) (by omega) (Nat.le_trans K.out.size hal.size)
        obtain ⟨g5, c5, rfl⟩ := ownsRow_succ ho5
        have OX5 := hide (((OV.out.below hal).grown HVK.out hg5))
        have hk5 : Kp w.heap.size 3 w4 w5 := (Kp.of_below hal K.out.size).trans (kp_grown hrow4 hg5 (Nat.le_trans K.out.size hal.size))
        have HO5 := hide (show w5.ownsRow w.heap.size 3 1 (.slice (some ⟨g5, 0, none⟩) (m + 1) c5) (m + 1) ((lAt C k ++ [f]).map ic) by simpa [List.map_append, ic] using ho5)
        have lc5 : m + 1 ≤ c5 := by
          obtain ⟨_, _, e, h⟩ := row_form ho5
          injection e with _ _ e; omega
        replace X2 := hide (X2.out.kp hk5 (by decide))
        replace X9 := hide (X9.out.kp hk5 (by decide))
        replace K := hide (K.out.trans hk5.below)
        have HA5 := hide ha5
        have H4 := hide (And.intro ho5 (And.intro hg5 (And.intro hk5 (And.intro hat5 hrow4))))
        clear ho5 hg5 hat5 hk5 ha5 hal hrow4 OV HU0
        go_upto_region 13 with (at_builtin; (refine wpList_app rfl (.tmp 50) (.tmp 52) 34 rfl _ _ _ rfl rfl 34 rfl HA5.out ?_))
        clear cgk fgk s9
        have s9 := cell_box1 X9.out

        have hLm : (lAt C k ++ [f]).length = m + 1 := by rw [List.length_append, ← HM.out]; rfl
        have OI := hide (show OwnI w5 (.slice (some ⟨g5, 0, none⟩) (m + 1) c5) (lAt C k ++ [f]) by
          have := OwnI.of_row' (base := w.heap.size) (u := .slice (some ⟨g5, 0, none⟩) (m + 1) c5) (w := w5) (l := lAt C k ++ [f]) (by rw [hLm]; exact HO5.out)
          exact this)
        clear hLm

        have s2 := cell_box1 X2.out
        have f2 := X2.out.frozen 0
        obtain ⟨cur, hXG, hBG⟩ := row_set_box OX5.out.row
        have HXG := hide hXG
        have HBG := hide hBG
        obtain ⟨cgk, fgk⟩ := OX5.out.cellz HVK.out
        clear hXG hBG
        go_upto_region 16 with fail
        have KP := Kp.boxset HXG.out HBG.out k (.slice (some ⟨g5, 0, none⟩) (m + 1) c5)
        have OR := hide (OX5.out.putR (u := (.slice (some ⟨g5, 0, none⟩) (m + 1) c5)) (l := (lAt C k ++ [f])) hk OI.out)
        replace X2 := hide (X2.out.kp KP (by decide))
        replace X9 := hide (X9.out.kp KP (by decide))
        replace K := hide (bset K.out (p := ⟨G, k, none⟩) HGw.out (.slice (some ⟨g5, 0, none⟩) (m + 1) c5))
        have HKP := hide KP
        clear KP s9 s2 f2 cgk fgk HXG OX5
        generalize w5.setCell ⟨G, k, none⟩ (.slice (some ⟨g5, 0, none⟩) (m + 1) c5) = w8 at *
        have s9 := cell_box1 X9.out
        have s2 := cell_box1 X2.out
        have f2 := X2.out.frozen 0
        go_wp2
        have KP7 := Kp.boxset X2.out hge1 0 (.slice (some ⟨G, 0, none⟩) C.length c2)
        have K7 := hide (bset K.out (p := ⟨w.heap.size + 1, 0, none⟩) hge1 (.slice (some ⟨G, 0, none⟩) C.length c2))
        have OR7 := OR.out.kp KP7 (by decide) (by decide)

        exact ret_c3 Try.results23 rfl rfl rfl rfl (X2.out.put 0 _) (RB.mk (by rw [List.length_set]) rfl rfl hc2 (Nat.le_refl _) OR7 (OwnI.nil _) K7.out)
  · have hd : (czE C z != 0) = true := by simpa using h0
    have e1 : ptE C z f b h' = czE C z := by unfold ptE; rw [if_pos h0]
    have e2 : ptC C z f b h' = [] := by unfold ptC; rw [e1, if_neg h0]
    have e3 : ptB C z f b h' = [] := by unfold ptB; rw [e1, if_neg (fun x => absurd x.1 h0)]
    rw [e1, e2, e3]
    clear e1 e2 e3 h0
    generalize czE C z = er at *
    go_enter Try.func23, Try.ntmps23
    go_upto_region 1 with fail
    rw [← HW.out]
    clear HW
    have s1 := cell_box1 X1.out
    go_wp2_with fail
    refine CZ.out.mono ?_
    rintro e w1 ⟨rfl, hb⟩
    replace K0 := hide (btrans K0.out hb)
    replace X1 := hide (X1.out.below hb)
    replace X2 := hide (X2.out.below hb)
    clear hb s1 CZ
    have s1 := cell_box1 X1.out
    have s2 := cell_box1 X2.out
    have f2 := X2.out.frozen 0
    go_wp2
    exact ret_c3 Try.results23 rfl rfl rfl rfl (X2.out.put 0 _) ⟨none, 0, none, 0, rfl, Nat.le_refl _, Nat.le_refl _, RdO.nil _, OwnI.nil _, bset K0.out (p := ⟨w.heap.size + 1, 0, none⟩) (by show w.heap.size ≤ w.heap.size + 1; omega) _⟩
end Go.Proofs.Ytinoddpdfknkbab.Pc
