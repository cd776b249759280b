import Derived.Test.YtinoddpdfknkbabNw
namespace Go.Proofs.Ytinoddpdfknkbab.Pc
open Go Go.RowKit
set_option linter.unusedVariables false
theorem RB.mk {A D : Option Addr} {n c m d : Nat} {C : Ls} {l : Is} {er : Int} {w w' : World} {e : Ending} (hn : C.length = n) (hm : m = l.length) (he : e = .returned (.tuple #[.agg #[.slice A n c], .slice D m d, .int .i64 er])) (hc : n ≤ c) (hd : m ≤ d) {B : Nat} {vs : List Value} (hr : OwnR B w' (.slice A n c) C vs) (hb2 : OwnI w' (.slice D m d) l) (hb : Below w.heap.size w w') : RB C l er w e w' := by
  subst hn; subst hm; exact ⟨A, c, D, d, he, hc, hd, ⟨vs, hr.mono (Nat.zero_le _)⟩, hb2, hb⟩
set_option maxHeartbeats 8000000 in
set_option maxRecDepth 100000 in
theorem drain_any (v : Value) (C : Ls) (z : Int) (w : World) (h : CaIn w v C) (hS : Sz 1000 1000 C) : Calls Try.prog 20 #[v, .int .i64 z] w (RB (drC C z) (drL C z) (czE C z) w) := by
  have hI := h
  obtain ⟨A, c, rfl, hc, r⟩ := h
  obtain ⟨W0, hW0⟩ : ∃ W0, W0 = ((w.alloc (.cells #[.slice A C.length c] 24)).alloc (.cells #[.slice none 0 0] 24)) := ⟨_, rfl⟩
  have K0 := hide (show Below w.heap.size w W0 by rw [hW0]; exact bal (bal (brefl w) _) _)
  have X1 := hide (show Box W0 w.heap.size 24 #[.slice A C.length c] by rw [hW0]; exact (Box.new w 24 _).more _)
  have X2 := hide (show Box W0 (w.heap.size + 1) 24 #[.slice none 0 0] by rw [hW0]; exact Box.new2 w _ 24 _)
  have CZ := hide (cz_any _ C z W0 (hI.below K0.out) hS)
  have HI := hide hI
  have HS := hide hS
  have ln := hS.1
  have HW := hide hW0
  clear r hI hS hW0
  by_cases h0 : czE C z = 0
  · obtain ⟨_, _, hz0, hz1⟩ := czE_zero.1 h0
    obtain ⟨k, rfl⟩ : ∃ k : Nat, z = k := ⟨z.toNat, by omega⟩
    have hk : k < C.length := by omega
    have lk : (lAt C k).length ≤ 1000 := HS.out.2 k hk
    have e2 : drC C k = C.set k [] := by unfold drC; rw [if_pos h0, Int.toNat_natCast]
    have e3 : drL C k = lAt C k := by unfold drL; rw [if_pos h0, Int.toNat_natCast]
    rw [h0] at CZ
    rw [h0, e2, e3]
    clear e2 e3 h0 hz0 hz1
    obtain ⟨m, hm⟩ : ∃ m, m = (lAt C k).length := ⟨_, rfl⟩
    rw [← hm] at lk
    have HM := hide hm
    clear hm
    · go_enter Try.func20, Try.ntmps20
      go_upto_region 1 with fail
      rw [← HW.out]
      clear HW
      have s1 := cell_box1 X1.out
      go_wp2_with fail
      refine CZ.out.mono ?_
      rintro e w1 ⟨rfl, hb⟩
      replace K0 := hide (btrans K0.out hb)
      replace X1 := hide (X1.out.below hb)
      replace X2 := hide (X2.out.below hb)
      have CL := hide (clone_any _ C w1 (HI.out.below K0.out) HS.out)
      unfold CaR at CL
      clear hb s1 CZ
      have s1 := cell_box1 X1.out
      go_wp2_with fail
      refine CL.out.mono ?_
      rintro e w2 ⟨A2, c2, vs, rfl, hc2, hov, hb⟩
      have OV0 := hide (hov.mono K0.out.size)
      obtain ⟨G, rfl, hGw, hGlt, _, _⟩ := (show ∃ G, A2 = some ⟨G, 0, none⟩ ∧ w1.heap.size ≤ G ∧ G < w2.heap.size ∧ True ∧ True by
        obtain ⟨g, e, h1, h2, _⟩ := row_cell hov.row (show C.length ≠ 0 by omega)
        exact ⟨g, e, h2, h1, trivial, trivial⟩)
      have K := hide (bal (btrans K0.out hb) (.cells #[.slice (some ⟨G, 0, none⟩) C.length c2] 24))
      have hlt9 : w.heap.size + 1 < w2.heap.size := Nat.lt_of_lt_of_le X2.out.lt hb.size
      have hge1 : w.heap.size ≤ w.heap.size + 1 := by omega
      have KB := bal hb (.cells #[.slice (some ⟨G, 0, none⟩) C.length c2] 24)
      replace X1 := hide (X1.out.below KB)
      replace X2 := hide (X2.out.below KB)
      have X9 := hide (Box.new w2 24 #[.slice (some ⟨G, 0, none⟩) C.length c2])
      have OV := hide (OV0.out.below (bal (brefl w2) (.cells #[.slice (some ⟨G, 0, none⟩) C.length c2] 24)))
      obtain ⟨u0, hvk, hu0⟩ := OV.out.at hk
      obtain ⟨U, cu, e0, hcu⟩ := row_form hu0
      rw [← HM.out] at e0
      subst e0
      have HGw := hide (Nat.le_trans K0.out.size hGw)
      obtain ⟨cgk, fgk⟩ := (OV.out.x k).cellz hvk
      obtain ⟨cur, hXG, hBG⟩ := row_set_box OV.out.row
      have HVK := hide hvk
      have HXG := hide hXG
      have HBG := hide hBG
      have s9 := cell_box1 X9.out
      have s2 := cell_box1 X2.out
      have f2 := X2.out.frozen 0
      clear OV0 CL hov hb hGw KB hu0 hcu s1 hvk hXG hBG
      go_upto_region 5 with fail
      generalize w2.alloc (.cells #[.slice (some ⟨G, 0, none⟩) C.length c2] 24) = w3 at *
      
      go_upto_region 7 with fail
      have KP := Kp.boxset HXG.out HBG.out k (.slice none 0 0)
      have OR := hide ((OV.out.x k).putR (u := (.slice none 0 0)) (l := []) hk (OwnI.nil _))
      have OU6 := hide ((OwnI.of_row' (OV.out.inn k _ HVK.out)).kp KP (by decide))
      replace X2 := hide (X2.out.kp KP (by decide))
      replace X9 := hide (X9.out.kp KP (by decide))
      replace K := hide (bset K.out (p := ⟨G, k, none⟩) HGw.out (.slice none 0 0))
      have HK := hide KP
      clear KP s9 s2 f2 cgk fgk HXG OV X1
      generalize w3.setCell ⟨G, k, none⟩ (.slice none 0 0) = w6 at *
      have s9 := cell_box1 X9.out
      have s2 := cell_box1 X2.out
      have f2 := X2.out.frozen 0
      go_wp2
      have KP7 := Kp.boxset X2.out hge1 0 (.slice (some ⟨G, 0, none⟩) C.length c2)
      have K7 := hide (bset K.out (p := ⟨w.heap.size + 1, 0, none⟩) hge1 (.slice (some ⟨G, 0, none⟩) C.length c2))
      have OR7 := OR.out.kp KP7 (by decide) (by decide)
      have OU7 := OU6.out.kp KP7 (by decide)
      obtain ⟨U', cu', e', hcu', hbi⟩ := OU7.is
      rw [← HM.out] at e' hcu'
      injection e' with e1 _ e3
      subst e1 e3
      exact ret_c3 Try.results20 rfl rfl rfl rfl (X2.out.put 0 _) (RB.mk (by rw [List.length_set]) HM.out rfl hc2 hcu' OR7 OU7 K7.out)
  · have hd : (czE C z != 0) = true := by simpa using h0
    have e2 : drC C z = [] := by unfold drC; rw [if_neg h0]
    have e3 : drL C z = [] := by unfold drL; rw [if_neg h0]
    rw [e2, e3]
    clear e2 e3 h0
    generalize czE C z = er at *
    go_enter Try.func20, Try.ntmps20
    go_upto_region 1 with fail
    rw [← HW.out]
    have s1 := cell_box1 X1.out
    go_wp2_with fail
    refine CZ.out.mono ?_
    rintro e w1 ⟨rfl, hb⟩
    have K := hide (btrans K0.out hb)
    have X21 := hide (X2.out.below hb)
    have s2 := cell_box1 X21.out
    have f2 := X21.out.frozen 0
    clear hb s1
    go_wp2
    exact ret_c3 Try.results20 rfl rfl rfl rfl (X21.out.put 0 _) ⟨none, 0, none, 0, rfl, Nat.le_refl _, Nat.le_refl _, RdO.nil _, OwnI.nil _, bset K.out (p := ⟨w.heap.size + 1, 0, none⟩) (by show w.heap.size ≤ w.heap.size + 1; omega) _⟩
set_option maxHeartbeats 8000000 in
set_option maxRecDepth 100000 in
theorem rdrain_any (v : Value) (C : Ls) (z : Int) (w : World) (h : CaIn w v C) (hS : Sz 1000 1000 C) : Calls Try.prog 21 #[v, .int .i64 z] w (RB (drC C z) (drL C z) (czE C z) w) := by
  have hI := h
  obtain ⟨A, c, rfl, hc, r⟩ := h
  obtain ⟨W0, hW0⟩ : ∃ W0, W0 = ((w.alloc (.cells #[.slice A C.length c] 24)).alloc (.cells #[.slice none 0 0] 24)) := ⟨_, rfl⟩
  have K0 := hide (show Below w.heap.size w W0 by rw [hW0]; exact bal (bal (brefl w) _) _)
  have X1 := hide (show Box W0 w.heap.size 24 #[.slice A C.length c] by rw [hW0]; exact (Box.new w 24 _).more _)
  have X2 := hide (show Box W0 (w.heap.size + 1) 24 #[.slice none 0 0] by rw [hW0]; exact Box.new2 w _ 24 _)
  have CZ := hide (rcz_any _ C z W0 (hI.below K0.out) hS)
  have HI := hide hI
  have HS := hide hS
  have ln := hS.1
  have HW := hide hW0
  clear r hI hS hW0
  by_cases h0 : czE C z = 0
  · obtain ⟨_, _, hz0, hz1⟩ := czE_zero.1 h0
    obtain ⟨k, rfl⟩ : ∃ k : Nat, z = k := ⟨z.toNat, by omega⟩
    have hk : k < C.length := by omega
    have lk : (lAt C k).length ≤ 1000 := HS.out.2 k hk
    have e2 : drC C k = C.set k [] := by unfold drC; rw [if_pos h0, Int.toNat_natCast]
    have e3 : drL C k = lAt C k := by unfold drL; rw [if_pos h0, Int.toNat_natCast]
    rw [h0] at CZ
    rw [h0, e2, e3]
    clear e2 e3 h0 hz0 hz1
    obtain ⟨m, hm⟩ : ∃ m, m = (lAt C k).length := ⟨_, rfl⟩
    rw [← hm] at lk
    have HM := hide hm
    clear hm
    · go_enter Try.func21, Try.ntmps21
      go_upto_region 1 with fail
      rw [← HW.out]
      clear HW
      have s1 := cell_box1 X1.out
      go_wp2_with fail
      refine CZ.out.mono ?_
      rintro e w1 ⟨rfl, hb⟩
      replace K0 := hide (btrans K0.out hb)
      replace X1 := hide (X1.out.below hb)
      replace X2 := hide (X2.out.below hb)
      have CL := hide (rclone_any _ C w1 (HI.out.below K0.out) HS.out)
      unfold CaR at CL
      clear hb s1 CZ
      have s1 := cell_box1 X1.out
      go_wp2_with fail
      refine CL.out.mono ?_
      rintro e w2 ⟨A2, c2, vs, rfl, hc2, hov, hb⟩
      have OV0 := hide (hov.mono K0.out.size)
      obtain ⟨G, rfl, hGw, hGlt, _, _⟩ := (show ∃ G, A2 = some ⟨G, 0, none⟩ ∧ w1.heap.size ≤ G ∧ G < w2.heap.size ∧ True ∧ True by
        obtain ⟨g, e, h1, h2, _⟩ := row_cell hov.row (show C.length ≠ 0 by omega)
        exact ⟨g, e, h2, h1, trivial, trivial⟩)
      have K := hide (bal (btrans K0.out hb) (.cells #[.slice (some ⟨G, 0, none⟩) C.length c2] 24))
      have hlt9 : w.heap.size + 1 < w2.heap.size := Nat.lt_of_lt_of_le X2.out.lt hb.size
      have hge1 : w.heap.size ≤ w.heap.size + 1 := by omega
      have KB := bal hb (.cells #[.slice (some ⟨G, 0, none⟩) C.length c2] 24)
      replace X1 := hide (X1.out.below KB)
      replace X2 := hide (X2.out.below KB)
      have X9 := hide (Box.new w2 24 #[.slice (some ⟨G, 0, none⟩) C.length c2])
      have OV := hide (OV0.out.below (bal (brefl w2) (.cells #[.slice (some ⟨G, 0, none⟩) C.length c2] 24)))
      obtain ⟨u0, hvk, hu0⟩ := OV.out.at hk
      obtain ⟨U, cu, e0, hcu⟩ := row_form hu0
      rw [← HM.out] at e0
      subst e0
      have HGw := hide (Nat.le_trans K0.out.size hGw)
      obtain ⟨cgk, fgk⟩ := (OV.out.x k).cellz hvk
      obtain ⟨cur, hXG, hBG⟩ := row_set_box OV.out.row
      have HVK := hide hvk
      have HXG := hide hXG
      have HBG := hide hBG
      have s9 := cell_box1 X9.out
      have s2 := cell_box1 X2.out
      have f2 := X2.out.frozen 0
      clear OV0 CL hov hb hGw KB hu0 hcu s1 hvk hXG hBG
      go_upto_region 5 with fail
      generalize w2.alloc (.cells #[.slice (some ⟨G, 0, none⟩) C.length c2] 24) = w3 at *
      obtain ⟨U', cu', e', hcu', hbi⟩ := (OwnI.of_row' (OV.out.inn k _ HVK.out)).is
      rw [← HM.out] at e' hcu'
      injection e' with e1 _ e3
      subst e1 e3
      obtain ⟨v5, w5, ha5, ho5, hg5, hat5⟩ := app_run w3 w3 w.heap.size 0 m cu U (lAt C k) (.slice none 0 0) [] ⟨rfl, .inl ⟨rfl, rfl⟩⟩ HM.out.symm hbi (brefl _) (by omega) K.out.size
      have B5 : Below w3.heap.size w3 w5 := (brefl w3).grown hg5 (Nat.le_refl _) (fun k e => by cases e)
      rw [Nat.zero_add, List.nil_append] at ho5
      obtain ⟨A5, c5, rfl, hc5⟩ := row_form ho5
      have HA5 := hide ha5
      have OU := hide (show OwnI w5 (.slice A5 m c5) (lAt C k) from OwnI.of_row' (base := w.heap.size) (by rw [← HM.out]; exact ho5))
      replace X2 := hide (X2.out.below B5)
      replace X9 := hide (X9.out.below B5)
      replace OV := hide (OV.out.below B5)
      replace K := hide (btrans K.out B5)
      replace HXG := hide (HXG.out.below B5)
      have y9 := cell_box1 X9.out
      have y8 := ((OV.out.x k).cellz HVK.out).1
      have g8 := ((OV.out.x k).cellz HVK.out).2
      have t2 := cell_box1 X2.out
      have g2 := X2.out.frozen 0
      clear hbi ha5 ho5 hg5 hat5 B5
      go_upto_region 8 with (at_builtin; (refine wpList_app rfl (.tmp 19) (.tmp 24) 34 rfl _ _ _ rfl rfl 34 rfl HA5.out ?_))
      have KP := Kp.boxset HXG.out HBG.out k (.slice none 0 0)
      have OR := hide ((OV.out.x k).putR (u := (.slice none 0 0)) (l := []) hk (OwnI.nil _))
      have OU6 := hide (OU.out.kp KP (by decide))
      replace X2 := hide (X2.out.kp KP (by decide))
      replace X9 := hide (X9.out.kp KP (by decide))
      replace K := hide (bset K.out (p := ⟨G, k, none⟩) HGw.out (.slice none 0 0))
      have HK := hide KP
      clear KP s9 s2 f2 cgk fgk y9 y8 g8 t2 g2 HA5 HXG OV X1
      generalize w5.setCell ⟨G, k, none⟩ (.slice none 0 0) = w6 at *
      have s9 := cell_box1 X9.out
      have s2 := cell_box1 X2.out
      have f2 := X2.out.frozen 0
      go_wp2
      have KP7 := Kp.boxset X2.out hge1 0 (.slice (some ⟨G, 0, none⟩) C.length c2)
      have K7 := hide (bset K.out (p := ⟨w.heap.size + 1, 0, none⟩) hge1 (.slice (some ⟨G, 0, none⟩) C.length c2))
      have OR7 := OR.out.kp KP7 (by decide) (by decide)
      have OU7 := OU6.out.kp KP7 (by decide)
      obtain ⟨U', cu', e', hcu', hbi⟩ := OU7.is
      rw [← HM.out] at e' hcu'
      injection e' with e1 _ e3
      subst e1 e3
      exact ret_c3 Try.results21 rfl rfl rfl rfl (X2.out.put 0 _) (RB.mk (by rw [List.length_set]) HM.out rfl hc2 hcu' OR7 OU7 K7.out)
  · have hd : (czE C z != 0) = true := by simpa using h0
    have e2 : drC C z = [] := by unfold drC; rw [if_neg h0]
    have e3 : drL C z = [] := by unfold drL; rw [if_neg h0]
    rw [e2, e3]
    clear e2 e3 h0
    generalize czE C z = er at *
    go_enter Try.func21, Try.ntmps21
    go_upto_region 1 with fail
    rw [← HW.out]
    have s1 := cell_box1 X1.out
    go_wp2_with fail
    refine CZ.out.mono ?_
    rintro e w1 ⟨rfl, hb⟩
    have K := hide (btrans K0.out hb)
    have X21 := hide (X2.out.below hb)
    have s2 := cell_box1 X21.out
    have f2 := X21.out.frozen 0
    clear hb s1
    go_wp2
    exact ret_c3 Try.results21 rfl rfl rfl rfl (X21.out.put 0 _) ⟨none, 0, none, 0, rfl, Nat.le_refl _, Nat.le_refl _, RdO.nil _, OwnI.nil _, bset K.out (p := ⟨w.heap.size + 1, 0, none⟩) (by show w.heap.size ≤ w.heap.size + 1; omega) _⟩
end Go.Proofs.Ytinoddpdfknkbab.Pc
