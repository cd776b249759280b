import Derived.Test.YthoeolaleeogbaaLOnce
import Derived.Test.YthoeolaleeogbaaLChecks
namespace Go.Proofs.Ythoeolaleeogbaa.Tb
open Go Go.RowKit Go.Proofs.Ythoeolaleeogbaa.Pt
set_option linter.unusedVariables false
theorem fill_parts {size : Int} {L : List Te} {s p W : Int} (h : fillE size L s p W = 0) : okSP s p = true ∧ isTr W = true ∧ chkT size L = 0 := by
  have h1 := fillE_chk h
  by_cases h2 : placeE size L s p = 0
  · refine ⟨(placeE_zero h2).2, ?_, h1⟩
    cases c : isTr W
    · rw [fillE_tr h2 c] at h; cases h
    · rfl
  · rw [fillE_place h2] at h; exact absurd h h2
theorem new_cov (s p W : Int) : cov (newE s p W) s p = true := by rw [cov_iff]; exact ⟨rfl, rfl⟩
theorem shed_nocov {size : Int} {L : List Te} {s p W : Int} (h : fillE size L s p W = 0) : ∀ e ∈ shed size (L.filter fun e => !ovl e (newE s p W)), cov e s p = false := by
  obtain ⟨h1, h2, h3⟩ := fill_parts h
  intro e he
  obtain ⟨m1, m2⟩ := List.mem_filter.1 (mem_shed he)
  cases c : cov e s p
  · rfl
  · have hx := newE_ok h1 h2
    have := ovl_of_both (okE_bd ((chkT_ok.1 h3).2.2.1 e m1)).2.2.2 (okE_bd hx).2.2.2 c (new_cov s p W)
    rw [this] at m2
    cases m2
theorem fill_look {size : Int} {L : List Te} {s p W : Int} (h : fillE size L s p W = 0) : lookW size (fillL size L s p W) s p = W ∧ lookB size (fillL size L s p W) s p = true := by
  have hn := shed_nocov h
  have e : lookT size (fillL size L s p W) s p = some (newE s p W) := by
    unfold lookT
    rw [if_neg (by simpa using fill_ok h)]
    unfold fillL
    rw [List.find?_append, List.find?_eq_none.2 (fun x hx => by rw [hn x hx]; decide)]
    simp [new_cov]
  unfold lookW lookB
  rw [e]
  exact ⟨rfl, rfl⟩
theorem fill_inv {size : Int} {L : List Te} {s p W : Int} (h : fillE size L s p W = 0) : (invL (fillL size L s p W) s p).length + 1 = (fillL size L s p W).length := by
  have hn := shed_nocov h
  unfold invL fillL
  rw [List.filter_append, List.length_append, List.length_append, List.filter_eq_self.2 (fun x hx => by rw [hn x hx]; rfl)]
  simp [new_cov]
theorem inv_cov {size : Int} {L : List Te} {s p : Int} (h : chkT size L = 0) : lookB size (invL L s p) s p = false := by
  have h2 : chkT size (invL L s p) = 0 := filter_ok h _
  rw [lookB_any h2, List.any_eq_false]
  intro x hx
  have := (List.mem_filter.1 hx).2
  simpa using this
theorem fl_cov {size : Int} {L : List Te} {s p : Int} (h : chkT size L = 0) : lookB size (flL L s) s p = false := by
  have h2 : chkT size (flL L s) = 0 := filter_ok h _
  rw [lookB_any h2, List.any_eq_false]
  intro x hx
  have := (List.mem_filter.1 hx).2
  unfold cov
  simp at this
  simp [this]
theorem filter_at {q : Te → Bool} {L : List Te} {i : Nat} (h : i < L.length) (hq : q (teAt L i) = true) : ((L.take i).filter q).length < (L.filter q).length ∧ teAt (L.filter q) ((L.take i).filter q).length = teAt L i := by
  have e : L.filter q = (L.take i).filter q ++ teAt L i :: (L.drop (i + 1)).filter q := by
    conv => lhs; rw [← List.take_append_drop i L, List.filter_append, List.drop_eq_getElem_cons h, List.filter_cons, ← teAt_get h, hq]
    rfl
  rw [e]
  refine ⟨by simp, ?_⟩
  unfold teAt
  rw [List.getD_eq_getElem?_getD, List.getElem?_append_right (Nat.le_refl _)]
  simp
theorem gone_skip (s : Int) (A : Option Addr) (L : List Te) (c : Nat) (x y u : Int) (w : World) (h : TlbIn w A L c) (hl : ¬ (L.length ≤ 20 ∧ chkT s L = 0)) :
    Calls Try.prog 9 #[.agg #[.int .i64 s, .slice A L.length c], .agg #[.int .i64 x, .int .i64 y], .int .u64 u] w fun e w' => e = .returned (.bool true) ∧ Below w.heap.size w w' := by
  have X := hide ((Box.new w 24 #[.int .i64 s, .slice A L.length c]).more (.cells #[.int .i64 x, .int .i64 y] 35))
  have K := hide (bal (bal (brefl w) (.cells #[.int .i64 s, .slice A L.length c] 24)) (.cells #[.int .i64 x, .int .i64 y] 35))
  have T := hide (h.below K.out)
  by_cases h20 : L.length ≤ 20
  · have F := hide (fun w => few_yes s A L.length c w h.big h20)
    have hd : (chkT s L != 0) = true := by
      have : chkT s L ≠ 0 := fun e => hl ⟨h20, e⟩
      simpa using this
    have RK := hide (fun (W : World) (hW : TlbIn W A L c) => rcheck_any s A L c W hW)
    generalize chkT s L = ck at *
    clear h hl
    go_enter Try.func9, Try.ntmps9
    go_wp2_with fail
    refine (F.out _).mono ?_
    rintro e w1 ⟨rfl, hb⟩
    replace X := hide (X.out.below hb)
    replace T := hide (T.out.below hb)
    replace K := hide (btrans K.out hb)
    have x0 := X.out.cell 0
    have x1 := X.out.cell 1
    simp at x0 x1
    clear hb
    go_wp2_with fail
    refine (RK.out _ T.out).mono ?_
    rintro e w2 ⟨rfl, hb⟩
    replace K := hide (btrans K.out hb)
    clear hb x0 x1
    go_wp2_with fail
    refine (awake _).mono ?_
    rintro e wq ⟨rfl, hb⟩
    replace K := hide (btrans K.out hb)
    clear hb
    go_wp2
    go_ret
    exact ⟨rfl, K.out⟩
  · have F := hide (fun w => few_no s A L.length c w h.big (by omega))
    clear h hl
    go_enter Try.func9, Try.ntmps9
    go_wp2_with fail
    refine (F.out _).mono ?_
    rintro e w1 ⟨rfl, hb⟩
    replace K := hide (btrans K.out hb)
    clear hb
    go_wp2_with fail
    refine (awake _).mono ?_
    rintro e wq ⟨rfl, hb⟩
    replace K := hide (btrans K.out hb)
    clear hb
    go_wp2
    go_ret
    exact ⟨rfl, K.out⟩
set_option maxHeartbeats 16000000 in
set_option maxRecDepth 100000 in
theorem gone_good (s : Int) (A : Option Addr) (L : List Te) (c : Nat) (x y u : Int) (w : World) (h : TlbIn w A L c) (hl : L.length ≤ 20) (hk : chkT s L = 0) (hy : inP y) (hu : inW u) :
    Calls Try.prog 9 #[.agg #[.int .i64 s, .slice A L.length c], .agg #[.int .i64 x, .int .i64 y], .int .u64 u] w fun e w' => e = .returned (.bool true) ∧ Below w.heap.size w w' := by
  have X := hide ((Box.new w 24 #[.int .i64 s, .slice A L.length c]).more (.cells #[.int .i64 x, .int .i64 y] 35))
  have P := hide (Box.new2 w (.cells #[.int .i64 s, .slice A L.length c] 24) 35 #[.int .i64 x, .int .i64 y])
  have K := hide (bal (bal (brefl w) (.cells #[.int .i64 s, .slice A L.length c] 24)) (.cells #[.int .i64 x, .int .i64 y] 35))
  have T := hide (h.below K.out)
  have F := hide (fun w => few_yes s A L.length c w h.big hl)
  have RK := hide (fun (W : World) (hW : TlbIn W A L c) => rcheck_any s A L c W hW)
  have FI := hide (fun (W : World) (hW : TlbIn W A L c) => fill_any s A L c x y u W hW hu)
  have FLU := hide (fun (W : World) (hW : TlbIn W A L c) => flush_any s A L c x W hW)
  rw [hk] at RK
  have HK := hide hk
  have HH := hide h
  have HU := hide hu
  have HY := hide hy
  unfold TlbR at FI FLU
  clear h hk hy hu
  by_cases he : fillE s L x y u = 0
  · have em : resM (fillL s L x y u) 0 = fillL s L x y u := rfl
    have es0 : resS s 0 = s := rfl
    rw [he, em, es0] at FI
    have BGM := hide (big_fill he)
    have INM := hide (inw_fill (size := s) (s := x) (p := y) (W := u) HH.out.inw HU.out)
    have LK := hide (fill_look he)
    have IV := hide (fill_inv he)
    have CM := hide (fill_ok he)
    have SP := hide (fill_parts he).1
    generalize fillL s L x y u = M at *
    have PL := hide (placeE_ok (s := x) (p := y) CM.out SP.out)
    have IC := hide (inv_cov (s := x) (p := y) CM.out)
    have BGI := hide (big_filter BGM.out (fun e => !cov e x y))
    have INI := hide (inw_filter INM.out (fun e => !cov e x y))
    have CI := hide (fun (A : Option Addr) (c : Nat) (W : World) (hW : TlbIn W A M c) => inv_any s A M c x y W hW HY.out)
    have CL := hide (fun (A : Option Addr) (c : Nat) (W : World) (hW : TlbIn W A M c) => look_any s A M c x y W hW HY.out)
    rw [PL.out] at CI
    have ei : resM (invL M x y) 0 = invL M x y := rfl
    have es1 : resS s 0 = s := rfl
    rw [ei, es1] at CI
    rw [LK.out.1, LK.out.2] at CL
    have CV := hide (fun (A : Option Addr) (c : Nat) (W : World) (hW : TlbIn W A (invL M x y) c) => covers_any s A (invL M x y) c x y W hW HY.out)
    rw [IC.out] at CV
    unfold TlbR at CI
    obtain ⟨I, hI⟩ : ∃ I, I = invL M x y := ⟨_, rfl⟩
    rw [← hI] at CI CV IV
    have BGI := hide (show I.length ≤ 9223372036854775807 by rw [hI]; exact BGI.out)
    have INI := hide (show ∀ o ∈ I, inW o.2.2 by rw [hI]; exact INI.out)
    have hlen : (((I.length : Int) + 1) != (M.length : Int)) = false := by have := IV.out; simp; omega
    have hI16 : I.length ≤ 16 := by have := IV.out; have := (chkT_ok.1 CM.out).2.1; have := (chkT_ok.1 CM.out).1; omega
    clear hI em es0 ei es1
    by_cases hf : flE s L x = 0
    · have ez : resM (flL L x) 0 = flL L x := rfl
      have es : resS s 0 = s := rfl
      rw [hf, ez, es] at FLU
      have HZC := hide (fl_cov (s := x) (p := y) HK.out)
      have BGZ := hide (big_filter HH.out.big (fun e => !(e.1 == x)))
      have INZ := hide (inw_filter HH.out.inw (fun e => !(e.1 == x)))
      obtain ⟨Z, hZ⟩ : ∃ Z, Z = flL L x := ⟨_, rfl⟩
      rw [← hZ] at FLU HZC
      have HZE := hide (show Z = L.filter (fun e => !(e.1 == x)) from hZ)
      have BGZ := hide (show Z.length ≤ 9223372036854775807 by rw [hZ]; exact BGZ.out)
      have INZ := hide (show ∀ o ∈ Z, inW o.2.2 by rw [hZ]; exact INZ.out)
      clear hZ ez es
      clear hf
      go_enter Try.func9, Try.ntmps9
      go_wp2_with fail
      refine (F.out _).mono ?_
      rintro e w1 ⟨rfl, hb⟩
      replace X := hide (X.out.below hb)
      replace P := hide (P.out.below hb)
      replace T := hide (T.out.below hb)
      replace K := hide (btrans K.out hb)
      clear hb
      have x0 := X.out.cell 0
      have x1 := X.out.cell 1
      simp at x0 x1
      go_wp2_with fail
      clear x0 x1
      refine (RK.out _ T.out).mono ?_
      rintro e w2 ⟨rfl, hb⟩
      replace X := hide (X.out.below hb)
      replace P := hide (P.out.below hb)
      replace T := hide (T.out.below hb)
      replace K := hide (btrans K.out hb)
      clear hb
      have x0 := X.out.cell 0
      have x1 := X.out.cell 1
      simp at x0 x1
      have p0 := P.out.cell 0
      have p1 := P.out.cell 1
      simp at p0 p1
      go_wp2_with fail
      go_quiet (fail)
      go_wp2_with fail
      refine (FI.out _ (T.out.below (below_drewN (brefl _) _))).mono ?_
      rintro e w4 ⟨A4, c4, rfl, ho4, hb0⟩
      have hb := btrans (below_drewN (brefl w2) _) hb0
      replace X := hide (X.out.below hb)
      replace P := hide (P.out.below hb)
      replace T := hide (T.out.below hb)
      replace K := hide (btrans K.out hb)
      have O4 := hide (TlbIn.of_own ho4 BGM.out INM.out)
      clear hb hb0 x0 x1 p0 p1 ho4
      replace X := hide (X.out.more (.cells #[.int .i64 s, .slice A4 M.length c4] 24))
      replace P := hide (P.out.more (.cells #[.int .i64 s, .slice A4 M.length c4] 24))
      replace T := hide (T.out.below (bal (brefl _) (.cells #[.int .i64 s, .slice A4 M.length c4] 24)))
      replace O4 := hide (O4.out.below (bal (brefl _) (.cells #[.int .i64 s, .slice A4 M.length c4] 24)))
      replace K := hide (bal K.out (.cells #[.int .i64 s, .slice A4 M.length c4] 24))
      have B9 := hide (Box.new w4 24 #[.int .i64 s, .slice A4 M.length c4])
      have lt4 := B9.out.lt
      have n0 := B9.out.cell 0
      have n1 := B9.out.cell 1
      simp at n0 n1
      go_wp2_with fail
      refine (CL.out A4 c4 _ O4.out).mono ?_
      rintro e w5 ⟨rfl, hb⟩
      replace X := hide (X.out.below hb)
      replace P := hide (P.out.below hb)
      replace B9 := hide (B9.out.below hb)
      replace T := hide (T.out.below hb)
      replace O4 := hide (O4.out.below hb)
      replace K := hide (btrans K.out hb)
      clear hb n0 n1 lt4
      have n0 := B9.out.cell 0
      have n1 := B9.out.cell 1
      simp at n0 n1
      go_wp2_with fail
      refine (CI.out A4 c4 _ O4.out).mono ?_
      rintro e w7 ⟨A7, c7, rfl, ho7, hb⟩
      replace X := hide (X.out.below hb)
      replace P := hide (P.out.below hb)
      replace B9 := hide (B9.out.below hb)
      replace T := hide (T.out.below hb)
      replace O4 := hide (O4.out.below hb)
      replace K := hide (btrans K.out hb)
      have O7 := hide (TlbIn.of_own ho7 BGI.out INI.out)
      clear hb ho7 n0 n1
      replace X := hide (X.out.more (.cells #[.int .i64 s, .slice A7 I.length c7] 24))
      replace P := hide (P.out.more (.cells #[.int .i64 s, .slice A7 I.length c7] 24))
      replace B9 := hide (B9.out.more (.cells #[.int .i64 s, .slice A7 I.length c7] 24))
      replace T := hide (T.out.below (bal (brefl _) (.cells #[.int .i64 s, .slice A7 I.length c7] 24)))
      replace O4 := hide (O4.out.below (bal (brefl _) (.cells #[.int .i64 s, .slice A7 I.length c7] 24)))
      replace O7 := hide (O7.out.below (bal (brefl _) (.cells #[.int .i64 s, .slice A7 I.length c7] 24)))
      replace K := hide (bal K.out (.cells #[.int .i64 s, .slice A7 I.length c7] 24))
      have B13 := hide (Box.new w7 24 #[.int .i64 s, .slice A7 I.length c7])
      go_wp2_with fail
      refine (CV.out A7 c7 _ O7.out).mono ?_
      rintro e w8 ⟨rfl, hb⟩
      replace X := hide (X.out.below hb)
      replace P := hide (P.out.below hb)
      replace B9 := hide (B9.out.below hb)
      replace B13 := hide (B13.out.below hb)
      replace T := hide (T.out.below hb)
      replace O4 := hide (O4.out.below hb)
      replace O7 := hide (O7.out.below hb)
      replace K := hide (btrans K.out hb)
      clear hb
      have n0 := B9.out.cell 0
      have n1 := B9.out.cell 1
      simp at n0 n1
      have m0 := B13.out.cell 0
      have m1 := B13.out.cell 1
      simp at m0 m1
      have x0 := X.out.cell 0
      have x1 := X.out.cell 1
      simp at x0 x1
      go_wp2_with fail
      clear n0 n1
      clear m0 m1
      clear x0 x1
      refine (FLU.out _ T.out).mono ?_
      rintro e w6 ⟨A6, c6, rfl, ho6, hb⟩
      replace X := hide (X.out.below hb)
      replace P := hide (P.out.below hb)
      replace B9 := hide (B9.out.below hb)
      replace B13 := hide (B13.out.below hb)
      replace T := hide (T.out.below hb)
      replace O4 := hide (O4.out.below hb)
      replace O7 := hide (O7.out.below hb)
      replace K := hide (btrans K.out hb)
      have O6 := hide (TlbIn.of_own ho6 BGZ.out INZ.out)
      clear hb ho6
      replace X := hide (X.out.more (.cells #[.int .i64 s, .slice A6 Z.length c6] 24))
      replace P := hide (P.out.more (.cells #[.int .i64 s, .slice A6 Z.length c6] 24))
      replace B9 := hide (B9.out.more (.cells #[.int .i64 s, .slice A6 Z.length c6] 24))
      replace B13 := hide (B13.out.more (.cells #[.int .i64 s, .slice A6 Z.length c6] 24))
      replace T := hide (T.out.below (bal (brefl _) (.cells #[.int .i64 s, .slice A6 Z.length c6] 24)))
      replace O4 := hide (O4.out.below (bal (brefl _) (.cells #[.int .i64 s, .slice A6 Z.length c6] 24)))
      replace O7 := hide (O7.out.below (bal (brefl _) (.cells #[.int .i64 s, .slice A6 Z.length c6] 24)))
      replace O6 := hide (O6.out.below (bal (brefl _) (.cells #[.int .i64 s, .slice A6 Z.length c6] 24)))
      replace K := hide (bal K.out (.cells #[.int .i64 s, .slice A6 Z.length c6] 24))
      have B15 := hide (Box.new w6 24 #[.int .i64 s, .slice A6 Z.length c6])
      obtain ⟨wz, hwz⟩ : ∃ wz, wz = w6.alloc (.cells #[.int .i64 s, .slice A6 Z.length c6] 24) := ⟨_, rfl⟩
      rw [← hwz] at X P B9 B13 B15 T O4 O7 O6 K
      have HWZ := hide hwz
      clear hwz
      go_wp2
      rw [← HWZ.out]
      go_loopw [17, 18] (fun u i wr => ∃ k : Nat, k ≤ L.length ∧ i = .int .i64 k ∧ u = .int .i64 (((L.take k).filter fun e => !(e.1 == x)).length : Nat) ∧ Hid (Below wz.heap.size wz wr)) (fun _ i _ => L.length - (intOf i).toNat)
      case atStart => exact ⟨0, Nat.zero_le _, rfl, by simp, hide (brefl _)⟩
      case round =>
        obtain ⟨k, hk, rfl, rfl, HB⟩ := hrel
        have x0 := (X.out.below HB.out).cell 0
        have x1 := (X.out.below HB.out).cell 1
        have y0 := (B15.out.below HB.out).cell 0
        have y1 := (B15.out.below HB.out).cell 1
        simp at x0 x1 y0 y1
        by_cases hlt : k < L.length
        · obtain ⟨b, off, rfl, hbl, hcs⟩ := T.out.ts.cells HB.out hlt
          obtain ⟨d0, d1, d2⟩ := hcs k hlt
          have hk0 : (0 : Int) ≤ (k : Int) := by omega
          have hkl : (k : Int) < (L.length : Int) := by omega
          have FN := hide (filter_next (q := fun e : Te => !(e.1 == x)) hlt)
          by_cases hc : (teAt L k).1 = x
          · have hd : ((teAt L k).1 == x) = true := by simpa using hc
            have FN2 := hide (show ((L.take (k + 1)).filter (fun e => !(e.1 == x))).length = ((L.take k).filter (fun e => !(e.1 == x))).length by rw [FN.out]; simp [hc])
            generalize (teAt L k).1 = z0 at *
            clear hcs hc FN d1 d2 y0 y1
            go_wp2
            go_roundw
            case rel => exact ⟨k + 1, by omega, by go_num, by rw [FN2.out], HB⟩
            case measure => simp [intOf]; omega
          · have hd : ((teAt L k).1 == x) = false := by simpa using hc
            have FA := filter_at (q := fun e : Te => !(e.1 == x)) hlt (by simp [hc])
            have FN2 := hide (show ((L.take (k + 1)).filter (fun e => !(e.1 == x))).length = ((L.take k).filter (fun e => !(e.1 == x))).length + 1 by rw [FN.out]; simp [hc])
            rw [← HZE.out] at FA
            have hml : ((L.take k).filter (fun e => !(e.1 == x))).length ≤ 20 := Nat.le_trans (List.length_filter_le _ _) (by rw [List.length_take]; omega)
            generalize ((L.take k).filter (fun e => !(e.1 == x))).length = n at *
            obtain ⟨fa1, fa2⟩ := FA
            obtain ⟨b2, off2, rfl, hbl2, hzs⟩ := O6.out.ts.cells HB.out fa1
            obtain ⟨f0, f1, f2⟩ := hzs n fa1
            rw [fa2] at f0 f1 f2
            have hdn : decide ((Z.length : Int) ≤ (n : Int)) = false := decide_eq_false (by omega)
            have hn0 : (0 : Int) ≤ (n : Int) := by omega
            have hnl : (n : Int) < (Z.length : Int) := by omega
            generalize (teAt L k).1 = z0 at *
            generalize (teAt L k).2.1 = z1 at *
            generalize (teAt L k).2.2 = z2 at *
            clear hcs hzs hc FN fa2
            go_wp2
            go_quiet (fail)
            go_wp2
            go_roundw
            case rel => exact ⟨k + 1, by omega, by go_num, by rw [FN2.out]; go_num, hide (below_drewN HB.out _)⟩
            case measure => simp [intOf]; omega
        · have hkl : ¬ (k : Int) < (L.length : Int) := by omega
          have ek : (L.take k).filter (fun e => !(e.1 == x)) = Z := by rw [List.take_of_length_le (by omega), HZE.out]
          rw [ek]
          clear ek
          have CV := hide (covers_any s A6 Z c6 x y wr (O6.out.below HB.out) HY.out)
          rw [HZC.out] at CV
          go_wp2_with fail
          refine CV.out.mono ?_
          rintro e wp ⟨rfl, hb⟩
          have KP := hide (btrans K.out (btrans HB.out hb))
          clear hb
          go_wp2_with fail
          refine (awake _).mono ?_
          rintro e wq ⟨rfl, hb⟩
          have KQ := hide (btrans KP.out hb)
          clear hb
          go_wp2
          go_ret
          exact ⟨rfl, KQ.out⟩
    · rw [resS_er hf, resM_er hf] at FLU
      have hfd : (flE s L x != 0) = true := by simpa using hf
      generalize flE s L x = fe at *
      clear hf
      go_enter Try.func9, Try.ntmps9
      go_wp2_with fail
      refine (F.out _).mono ?_
      rintro e w1 ⟨rfl, hb⟩
      replace X := hide (X.out.below hb)
      replace P := hide (P.out.below hb)
      replace T := hide (T.out.below hb)
      replace K := hide (btrans K.out hb)
      clear hb
      have x0 := X.out.cell 0
      have x1 := X.out.cell 1
      simp at x0 x1
      go_wp2_with fail
      clear x0 x1
      refine (RK.out _ T.out).mono ?_
      rintro e w2 ⟨rfl, hb⟩
      replace X := hide (X.out.below hb)
      replace P := hide (P.out.below hb)
      replace T := hide (T.out.below hb)
      replace K := hide (btrans K.out hb)
      clear hb
      have x0 := X.out.cell 0
      have x1 := X.out.cell 1
      simp at x0 x1
      have p0 := P.out.cell 0
      have p1 := P.out.cell 1
      simp at p0 p1
      go_wp2_with fail
      go_quiet (fail)
      go_wp2_with fail
      refine (FI.out _ (T.out.below (below_drewN (brefl _) _))).mono ?_
      rintro e w4 ⟨A4, c4, rfl, ho4, hb0⟩
      have hb := btrans (below_drewN (brefl w2) _) hb0
      replace X := hide (X.out.below hb)
      replace P := hide (P.out.below hb)
      replace T := hide (T.out.below hb)
      replace K := hide (btrans K.out hb)
      have O4 := hide (TlbIn.of_own ho4 BGM.out INM.out)
      clear hb hb0 x0 x1 p0 p1 ho4
      replace X := hide (X.out.more (.cells #[.int .i64 s, .slice A4 M.length c4] 24))
      replace P := hide (P.out.more (.cells #[.int .i64 s, .slice A4 M.length c4] 24))
      replace T := hide (T.out.below (bal (brefl _) (.cells #[.int .i64 s, .slice A4 M.length c4] 24)))
      replace O4 := hide (O4.out.below (bal (brefl _) (.cells #[.int .i64 s, .slice A4 M.length c4] 24)))
      replace K := hide (bal K.out (.cells #[.int .i64 s, .slice A4 M.length c4] 24))
      have B9 := hide (Box.new w4 24 #[.int .i64 s, .slice A4 M.length c4])
      have lt4 := B9.out.lt
      have n0 := B9.out.cell 0
      have n1 := B9.out.cell 1
      simp at n0 n1
      go_wp2_with fail
      refine (CL.out A4 c4 _ O4.out).mono ?_
      rintro e w5 ⟨rfl, hb⟩
      replace X := hide (X.out.below hb)
      replace P := hide (P.out.below hb)
      replace B9 := hide (B9.out.below hb)
      replace T := hide (T.out.below hb)
      replace O4 := hide (O4.out.below hb)
      replace K := hide (btrans K.out hb)
      clear hb n0 n1 lt4
      have n0 := B9.out.cell 0
      have n1 := B9.out.cell 1
      simp at n0 n1
      go_wp2_with fail
      refine (CI.out A4 c4 _ O4.out).mono ?_
      rintro e w7 ⟨A7, c7, rfl, ho7, hb⟩
      replace X := hide (X.out.below hb)
      replace P := hide (P.out.below hb)
      replace B9 := hide (B9.out.below hb)
      replace T := hide (T.out.below hb)
      replace O4 := hide (O4.out.below hb)
      replace K := hide (btrans K.out hb)
      have O7 := hide (TlbIn.of_own ho7 BGI.out INI.out)
      clear hb ho7 n0 n1
      replace X := hide (X.out.more (.cells #[.int .i64 s, .slice A7 I.length c7] 24))
      replace P := hide (P.out.more (.cells #[.int .i64 s, .slice A7 I.length c7] 24))
      replace B9 := hide (B9.out.more (.cells #[.int .i64 s, .slice A7 I.length c7] 24))
      replace T := hide (T.out.below (bal (brefl _) (.cells #[.int .i64 s, .slice A7 I.length c7] 24)))
      replace O4 := hide (O4.out.below (bal (brefl _) (.cells #[.int .i64 s, .slice A7 I.length c7] 24)))
      replace O7 := hide (O7.out.below (bal (brefl _) (.cells #[.int .i64 s, .slice A7 I.length c7] 24)))
      replace K := hide (bal K.out (.cells #[.int .i64 s, .slice A7 I.length c7] 24))
      have B13 := hide (Box.new w7 24 #[.int .i64 s, .slice A7 I.length c7])
      go_wp2_with fail
      refine (CV.out A7 c7 _ O7.out).mono ?_
      rintro e w8 ⟨rfl, hb⟩
      replace X := hide (X.out.below hb)
      replace P := hide (P.out.below hb)
      replace B9 := hide (B9.out.below hb)
      replace B13 := hide (B13.out.below hb)
      replace T := hide (T.out.below hb)
      replace O4 := hide (O4.out.below hb)
      replace O7 := hide (O7.out.below hb)
      replace K := hide (btrans K.out hb)
      clear hb
      have n0 := B9.out.cell 0
      have n1 := B9.out.cell 1
      simp at n0 n1
      have m0 := B13.out.cell 0
      have m1 := B13.out.cell 1
      simp at m0 m1
      have x0 := X.out.cell 0
      have x1 := X.out.cell 1
      simp at x0 x1
      go_wp2_with fail
      clear n0 n1
      clear m0 m1
      clear x0 x1
      refine (FLU.out _ T.out).mono ?_
      rintro e w6 ⟨A6, c6, rfl, ho6, hb⟩
      replace X := hide (X.out.below hb)
      replace P := hide (P.out.below hb)
      replace B9 := hide (B9.out.below hb)
      replace B13 := hide (B13.out.below hb)
      replace T := hide (T.out.below hb)
      replace O4 := hide (O4.out.below hb)
      replace O7 := hide (O7.out.below hb)
      replace K := hide (btrans K.out hb)
      clear hb ho6
      replace X := hide (X.out.more (.cells #[.int .i64 0, .slice A6 0 c6] 24))
      replace P := hide (P.out.more (.cells #[.int .i64 0, .slice A6 0 c6] 24))
      replace B9 := hide (B9.out.more (.cells #[.int .i64 0, .slice A6 0 c6] 24))
      replace B13 := hide (B13.out.more (.cells #[.int .i64 0, .slice A6 0 c6] 24))
      replace T := hide (T.out.below (bal (brefl _) (.cells #[.int .i64 0, .slice A6 0 c6] 24)))
      replace O4 := hide (O4.out.below (bal (brefl _) (.cells #[.int .i64 0, .slice A6 0 c6] 24)))
      replace O7 := hide (O7.out.below (bal (brefl _) (.cells #[.int .i64 0, .slice A6 0 c6] 24)))
      replace K := hide (bal K.out (.cells #[.int .i64 0, .slice A6 0 c6] 24))
      go_wp2_with fail
      refine (awake _).mono ?_
      rintro e wq ⟨rfl, hb⟩
      replace K := hide (btrans K.out hb)
      clear hb
      go_wp2
      go_ret
      exact ⟨rfl, K.out⟩
  · rw [resS_er he, resM_er he] at FI
    have hed : (fillE s L x y u == 0) = false := by simpa using he
    generalize fillE s L x y u = er at *
    clear he
    by_cases hf : flE s L x = 0
    · have ez : resM (flL L x) 0 = flL L x := rfl
      have es : resS s 0 = s := rfl
      rw [hf, ez, es] at FLU
      have HZC := hide (fl_cov (s := x) (p := y) HK.out)
      have BGZ := hide (big_filter HH.out.big (fun e => !(e.1 == x)))
      have INZ := hide (inw_filter HH.out.inw (fun e => !(e.1 == x)))
      obtain ⟨Z, hZ⟩ : ∃ Z, Z = flL L x := ⟨_, rfl⟩
      rw [← hZ] at FLU HZC
      have HZE := hide (show Z = L.filter (fun e => !(e.1 == x)) from hZ)
      have BGZ := hide (show Z.length ≤ 9223372036854775807 by rw [hZ]; exact BGZ.out)
      have INZ := hide (show ∀ o ∈ Z, inW o.2.2 by rw [hZ]; exact INZ.out)
      clear hZ ez es
      clear hf
      go_enter Try.func9, Try.ntmps9
      go_wp2_with fail
      refine (F.out _).mono ?_
      rintro e w1 ⟨rfl, hb⟩
      replace X := hide (X.out.below hb)
      replace P := hide (P.out.below hb)
      replace T := hide (T.out.below hb)
      replace K := hide (btrans K.out hb)
      clear hb
      have x0 := X.out.cell 0
      have x1 := X.out.cell 1
      simp at x0 x1
      go_wp2_with fail
      clear x0 x1
      refine (RK.out _ T.out).mono ?_
      rintro e w2 ⟨rfl, hb⟩
      replace X := hide (X.out.below hb)
      replace P := hide (P.out.below hb)
      replace T := hide (T.out.below hb)
      replace K := hide (btrans K.out hb)
      clear hb
      have x0 := X.out.cell 0
      have x1 := X.out.cell 1
      simp at x0 x1
      have p0 := P.out.cell 0
      have p1 := P.out.cell 1
      simp at p0 p1
      go_wp2_with fail
      go_quiet (fail)
      go_wp2_with fail
      refine (FI.out _ (T.out.below (below_drewN (brefl _) _))).mono ?_
      rintro e w4 ⟨A4, c4, rfl, ho4, hb0⟩
      have hb := btrans (below_drewN (brefl w2) _) hb0
      replace X := hide (X.out.below hb)
      replace P := hide (P.out.below hb)
      replace T := hide (T.out.below hb)
      replace K := hide (btrans K.out hb)
      clear hb hb0 x0 x1 p0 p1 ho4
      replace X := hide (X.out.more (.cells #[.int .i64 0, .slice A4 0 c4] 24))
      replace P := hide (P.out.more (.cells #[.int .i64 0, .slice A4 0 c4] 24))
      replace T := hide (T.out.below (bal (brefl _) (.cells #[.int .i64 0, .slice A4 0 c4] 24)))
      replace K := hide (bal K.out (.cells #[.int .i64 0, .slice A4 0 c4] 24))
      have B9 := hide (Box.new w4 24 #[.int .i64 0, .slice A4 0 c4])
      have x0 := X.out.cell 0
      have x1 := X.out.cell 1
      simp at x0 x1
      have lt4 := X.out.lt
      go_wp2_with fail
      clear x0 x1
      clear lt4
      refine (FLU.out _ T.out).mono ?_
      rintro e w6 ⟨A6, c6, rfl, ho6, hb⟩
      replace X := hide (X.out.below hb)
      replace P := hide (P.out.below hb)
      replace B9 := hide (B9.out.below hb)
      replace T := hide (T.out.below hb)
      replace K := hide (btrans K.out hb)
      have O6 := hide (TlbIn.of_own ho6 BGZ.out INZ.out)
      clear hb ho6
      replace X := hide (X.out.more (.cells #[.int .i64 s, .slice A6 Z.length c6] 24))
      replace P := hide (P.out.more (.cells #[.int .i64 s, .slice A6 Z.length c6] 24))
      replace B9 := hide (B9.out.more (.cells #[.int .i64 s, .slice A6 Z.length c6] 24))
      replace T := hide (T.out.below (bal (brefl _) (.cells #[.int .i64 s, .slice A6 Z.length c6] 24)))
      replace O6 := hide (O6.out.below (bal (brefl _) (.cells #[.int .i64 s, .slice A6 Z.length c6] 24)))
      replace K := hide (bal K.out (.cells #[.int .i64 s, .slice A6 Z.length c6] 24))
      have B15 := hide (Box.new w6 24 #[.int .i64 s, .slice A6 Z.length c6])
      obtain ⟨wz, hwz⟩ : ∃ wz, wz = w6.alloc (.cells #[.int .i64 s, .slice A6 Z.length c6] 24) := ⟨_, rfl⟩
      rw [← hwz] at X P B9 B15 T O6 K
      have HWZ := hide hwz
      clear hwz
      go_wp2
      rw [← HWZ.out]
      go_loopw [17, 18] (fun u i wr => ∃ k : Nat, k ≤ L.length ∧ i = .int .i64 k ∧ u = .int .i64 (((L.take k).filter fun e => !(e.1 == x)).length : Nat) ∧ Hid (Below wz.heap.size wz wr)) (fun _ i _ => L.length - (intOf i).toNat)
      case atStart => exact ⟨0, Nat.zero_le _, rfl, by simp, hide (brefl _)⟩
      case round =>
        obtain ⟨k, hk, rfl, rfl, HB⟩ := hrel
        have x0 := (X.out.below HB.out).cell 0
        have x1 := (X.out.below HB.out).cell 1
        have y0 := (B15.out.below HB.out).cell 0
        have y1 := (B15.out.below HB.out).cell 1
        simp at x0 x1 y0 y1
        by_cases hlt : k < L.length
        · obtain ⟨b, off, rfl, hbl, hcs⟩ := T.out.ts.cells HB.out hlt
          obtain ⟨d0, d1, d2⟩ := hcs k hlt
          have hk0 : (0 : Int) ≤ (k : Int) := by omega
          have hkl : (k : Int) < (L.length : Int) := by omega
          have FN := hide (filter_next (q := fun e : Te => !(e.1 == x)) hlt)
          by_cases hc : (teAt L k).1 = x
          · have hd : ((teAt L k).1 == x) = true := by simpa using hc
            have FN2 := hide (show ((L.take (k + 1)).filter (fun e => !(e.1 == x))).length = ((L.take k).filter (fun e => !(e.1 == x))).length by rw [FN.out]; simp [hc])
            generalize (teAt L k).1 = z0 at *
            clear hcs hc FN d1 d2 y0 y1
            go_wp2
            go_roundw
            case rel => exact ⟨k + 1, by omega, by go_num, by rw [FN2.out], HB⟩
            case measure => simp [intOf]; omega
          · have hd : ((teAt L k).1 == x) = false := by simpa using hc
            have FA := filter_at (q := fun e : Te => !(e.1 == x)) hlt (by simp [hc])
            have FN2 := hide (show ((L.take (k + 1)).filter (fun e => !(e.1 == x))).length = ((L.take k).filter (fun e => !(e.1 == x))).length + 1 by rw [FN.out]; simp [hc])
            rw [← HZE.out] at FA
            have hml : ((L.take k).filter (fun e => !(e.1 == x))).length ≤ 20 := Nat.le_trans (List.length_filter_le _ _) (by rw [List.length_take]; omega)
            generalize ((L.take k).filter (fun e => !(e.1 == x))).length = n at *
            obtain ⟨fa1, fa2⟩ := FA
            obtain ⟨b2, off2, rfl, hbl2, hzs⟩ := O6.out.ts.cells HB.out fa1
            obtain ⟨f0, f1, f2⟩ := hzs n fa1
            rw [fa2] at f0 f1 f2
            have hdn : decide ((Z.length : Int) ≤ (n : Int)) = false := decide_eq_false (by omega)
            have hn0 : (0 : Int) ≤ (n : Int) := by omega
            have hnl : (n : Int) < (Z.length : Int) := by omega
            generalize (teAt L k).1 = z0 at *
            generalize (teAt L k).2.1 = z1 at *
            generalize (teAt L k).2.2 = z2 at *
            clear hcs hzs hc FN fa2
            go_wp2
            go_quiet (fail)
            go_wp2
            go_roundw
            case rel => exact ⟨k + 1, by omega, by go_num, by rw [FN2.out]; go_num, hide (below_drewN HB.out _)⟩
            case measure => simp [intOf]; omega
        · have hkl : ¬ (k : Int) < (L.length : Int) := by omega
          have ek : (L.take k).filter (fun e => !(e.1 == x)) = Z := by rw [List.take_of_length_le (by omega), HZE.out]
          rw [ek]
          clear ek
          have CV := hide (covers_any s A6 Z c6 x y wr (O6.out.below HB.out) HY.out)
          rw [HZC.out] at CV
          go_wp2_with fail
          refine CV.out.mono ?_
          rintro e wp ⟨rfl, hb⟩
          have KP := hide (btrans K.out (btrans HB.out hb))
          clear hb
          go_wp2_with fail
          refine (awake _).mono ?_
          rintro e wq ⟨rfl, hb⟩
          have KQ := hide (btrans KP.out hb)
          clear hb
          go_wp2
          go_ret
          exact ⟨rfl, KQ.out⟩
    · rw [resS_er hf, resM_er hf] at FLU
      have hfd : (flE s L x != 0) = true := by simpa using hf
      generalize flE s L x = fe at *
      clear hf
      go_enter Try.func9, Try.ntmps9
      go_wp2_with fail
      refine (F.out _).mono ?_
      rintro e w1 ⟨rfl, hb⟩
      replace X := hide (X.out.below hb)
      replace P := hide (P.out.below hb)
      replace T := hide (T.out.below hb)
      replace K := hide (btrans K.out hb)
      clear hb
      have x0 := X.out.cell 0
      have x1 := X.out.cell 1
      simp at x0 x1
      go_wp2_with fail
      clear x0 x1
      refine (RK.out _ T.out).mono ?_
      rintro e w2 ⟨rfl, hb⟩
      replace X := hide (X.out.below hb)
      replace P := hide (P.out.below hb)
      replace T := hide (T.out.below hb)
      replace K := hide (btrans K.out hb)
      clear hb
      have x0 := X.out.cell 0
      have x1 := X.out.cell 1
      simp at x0 x1
      have p0 := P.out.cell 0
      have p1 := P.out.cell 1
      simp at p0 p1
      go_wp2_with fail
      go_quiet (fail)
      go_wp2_with fail
      refine (FI.out _ (T.out.below (below_drewN (brefl _) _))).mono ?_
      rintro e w4 ⟨A4, c4, rfl, ho4, hb0⟩
      have hb := btrans (below_drewN (brefl w2) _) hb0
      replace X := hide (X.out.below hb)
      replace P := hide (P.out.below hb)
      replace T := hide (T.out.below hb)
      replace K := hide (btrans K.out hb)
      clear hb hb0 x0 x1 p0 p1 ho4
      replace X := hide (X.out.more (.cells #[.int .i64 0, .slice A4 0 c4] 24))
      replace P := hide (P.out.more (.cells #[.int .i64 0, .slice A4 0 c4] 24))
      replace T := hide (T.out.below (bal (brefl _) (.cells #[.int .i64 0, .slice A4 0 c4] 24)))
      replace K := hide (bal K.out (.cells #[.int .i64 0, .slice A4 0 c4] 24))
      have B9 := hide (Box.new w4 24 #[.int .i64 0, .slice A4 0 c4])
      have x0 := X.out.cell 0
      have x1 := X.out.cell 1
      simp at x0 x1
      have lt4 := X.out.lt
      go_wp2_with fail
      clear x0 x1
      clear lt4
      refine (FLU.out _ T.out).mono ?_
      rintro e w6 ⟨A6, c6, rfl, ho6, hb⟩
      replace X := hide (X.out.below hb)
      replace P := hide (P.out.below hb)
      replace B9 := hide (B9.out.below hb)
      replace T := hide (T.out.below hb)
      replace K := hide (btrans K.out hb)
      clear hb ho6
      replace X := hide (X.out.more (.cells #[.int .i64 0, .slice A6 0 c6] 24))
      replace P := hide (P.out.more (.cells #[.int .i64 0, .slice A6 0 c6] 24))
      replace B9 := hide (B9.out.more (.cells #[.int .i64 0, .slice A6 0 c6] 24))
      replace T := hide (T.out.below (bal (brefl _) (.cells #[.int .i64 0, .slice A6 0 c6] 24)))
      replace K := hide (bal K.out (.cells #[.int .i64 0, .slice A6 0 c6] 24))
      go_wp2_with fail
      refine (awake _).mono ?_
      rintro e wq ⟨rfl, hb⟩
      replace K := hide (btrans K.out hb)
      clear hb
      go_wp2
      go_ret
      exact ⟨rfl, K.out⟩
theorem law_gone (s : Int) (A : Option Addr) (L : List Te) (c : Nat) (x y u : Int) (w : World) (h : TlbIn w A L c) (hy : inP y) (hu : inW u) :
    Calls Try.prog 9 #[.agg #[.int .i64 s, .slice A L.length c], .agg #[.int .i64 x, .int .i64 y], .int .u64 u] w fun e w' => e = .returned (.bool true) ∧ Below w.heap.size w w' := by
  by_cases hl : L.length ≤ 20 ∧ chkT s L = 0
  · exact gone_good s A L c x y u w h hl.1 hl.2 hy hu
  · exact gone_skip s A L c x y u w h hl
end Go.Proofs.Ythoeolaleeogbaa.Tb
