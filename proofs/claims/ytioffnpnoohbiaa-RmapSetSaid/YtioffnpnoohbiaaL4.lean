import Derived.Test.YtioffnpnoohbiaaL4m
namespace Go.Proofs.Ytioffnpnoohbiaa.Rm
open Go Go.RowKit
set_option linter.unusedVariables false
set_option linter.unusedSimpArgs false
set_option maxRecDepth 100000 in
set_option maxHeartbeats 16000000 in
theorem law_set (A : Option Addr) (cp : Nat) (O : List (Bool × Mp)) (w : World) (ho : OpR w A O) (hn : O.length ≤ 9223372036854775807) (hcp : O.length ≤ cp) : Calls Try.prog 5 #[.slice A O.length cp] w fun e w' => e = .returned (.bool true) ∧ Below w.heap.size w w' := by
  obtain ⟨i0, hi0, hz0, hz1, hz2⟩ := info_parts info26
  have AWK := hide (fun w => awake_any w)
  have K := hide (brefl w)
  have HO := hide ho
  have HLE := hide (Nat.le_refl w.heap.size)
  have HCP := hide hcp
  clear ho hcp
  by_cases hl : (40 : Int) < O.length
  · clear HO
    go_enter Try.func5, Try.ntmps5
    go_wp2_with fail
    refine (AWK.out _).mono ?_
    rintro e w1 ⟨rfl, hb⟩
    replace K := hide (btrans K.out hb)
    clear hb
    go_wp2_with fail
    refine (AWK.out _).mono ?_
    rintro e w2 ⟨rfl, hb⟩
    replace K := hide (btrans K.out hb)
    clear hb
    go_wp2
    go_ret
    exact ⟨rfl, K.out⟩
  have HOL := hide (show O.length ≤ 40 by omega)
  have AD := hide (fun A c L t q w hr hn => add_any A c L t q w hr hn)
  have RE := hide (fun A c L t q w hr hn => rem_any A c L t q w hr hn)
  have HA := hide (fun A R c s p w h n => has_any A R c s p w h n)
  have CK := hide (fun A c R w h n => check_any A c R w h n)
  unfold PuR at AD RE
  go_enter Try.func5, Try.ntmps5
  go_wp2_with fail
  refine (AWK.out _).mono ?_
  rintro e w1 ⟨rfl, hb⟩
  replace K := hide (btrans K.out hb)
  clear hb
  go_wp2
  clear hl
  go_loopw [3, 4, 34] (fun l a i wr => ∃ k : Nat, ∃ A1 c1, ∃ S : List Mp, ∃ A2 c2, ∃ AL : List Mp, k ≤ O.length ∧ l = .slice A1 S.length c1 ∧ a = .slice A2 AL.length c2 ∧ i = .int .i64 k ∧ Hid (Below w.heap.size w wr) ∧ Hid (Ms wr A1 S) ∧ Hid (OwM w.heap.size wr (.slice A2 AL.length c2) AL) ∧ Hid (Inv O k S AL)) (fun _ _ i _ => O.length - (intOf i).toNat)
  case atStart => exact ⟨0, none, 0, [], none, 0, [], Nat.zero_le _, rfl, rfl, rfl, K, hide (Ms.nil _ _), hide (owm_nil _ _), hide (Inv.start O)⟩
  case round =>
    clear K
    obtain ⟨k, A1, c1, S, A2, c2, AL, hk, rfl, rfl, rfl, K, M1, OQ, IV⟩ := hrel
    by_cases hlt : k < O.length
    · have hl2 : (k : Int) < (O.length : Int) := by omega
      have hk0 : (0 : Int) ≤ (k : Int) := by omega
      have hkc : k ≤ cp := Nat.le_trans (by omega) HCP.out
      have hkc2 : (k : Int) ≤ (cp : Int) := by omega
      have HK := hide hlt
      have HK40 := hide (show k ≤ 40 by have := HOL.out; omega)
      obtain ⟨b, off, rfl, hbl, y0, y1, y2⟩ := HO.out.cells K.out hlt
      obtain ⟨oo, hoo⟩ : ∃ x, x = oAt O k := ⟨_, rfl⟩
      rw [← hoo] at y0 y1 y2
      obtain ⟨r, s, p⟩ := oo
      have HOO := hide hoo
      clear hoo
      dsimp only at y0 y1 y2
      have M := bal2 wr (.cells #[.bool r, .int .i64 s, .int .i64 p] 28) (.cells #[.int .i64 s, .int .i64 p] 26)
      have X := hide ((OB.new wr r s p).below (bal (brefl _) (.cells #[.int .i64 s, .int .i64 p] 26)))
      have Y := hide (MB.new (wr.alloc (.cells #[.bool r, .int .i64 s, .int .i64 p] 28)) s p)
      obtain ⟨g6, hg6⟩ : ∃ g, g = wr.heap.size := ⟨_, rfl⟩
      obtain ⟨g7, hg7⟩ : ∃ g, g = (wr.alloc (.cells #[.bool r, .int .i64 s, .int .i64 p] 28)).heap.size := ⟨_, rfl⟩
      have hg8 : g7 = g6 + 1 := by rw [hg7, hg6, alloc_size']
      have HG6 := hide hg6
      have HG7 := hide hg8
      rw [← hg6] at X
      rw [← hg7] at Y
      clear hg6 hg7 hg8
      have MM := hide M
      replace K := hide (btrans K.out M)
      replace M1 := hide (M1.out.below M)
      replace OQ := hide (row_below OQ.out M)
      clear M MM
      go_upto_region 9 with fail
      rw [← HG6.out, ← HG7.out]
      generalize (wr.alloc (.cells #[.bool r, .int .i64 s, .int .i64 p] 28)).alloc (.cells #[.int .i64 s, .int .i64 p] 26) = wb at *
      clear y0 y1 y2 HG6 HG7
      go_wp2
      go_loopw [8, 45] (fun v i wr => ∃ j : Nat, j ≤ k ∧ v = .bool (inK O j ⟨s, p⟩) ∧ i = .int .i64 j ∧ Hid (Below w.heap.size w wr) ∧ Hid (Ms wr A1 S) ∧ Hid (OwM w.heap.size wr (.slice A2 AL.length c2) AL) ∧ Hid (OB wr g6 r ⟨s, p⟩) ∧ Hid (MB wr g7 ⟨s, p⟩)) (fun _ i _ => k - (intOf i).toNat)
      case atStart => exact ⟨0, Nat.zero_le _, by rw [inK_0], rfl, K, M1, OQ, X, Y⟩
      case round =>
        clear K M1 OQ X Y
        obtain ⟨j, hj, rfl, rfl, K, M1, OQ, X, Y⟩ := hrel
        by_cases hjk : j < k
        · have hl3 : (j : Int) < (k : Int) := by omega
          have hj0 : (0 : Int) ≤ (j : Int) := by omega
          obtain ⟨b', off', e', hbl', y0, y1, y2⟩ := HO.out.cells K.out (show j < O.length by omega)
          injection e' with e'
          injection e' with e1 e2
          subst e1 e2
          have IE := hide (fun m h => inK_eq (m := m) (show j < O.length by omega) h)
          have IN := hide (fun m h => inK_ne (m := m) (show j < O.length by omega) h)
          generalize oAt O j = oo at *
          obtain ⟨r2, t, q⟩ := oo
          dsimp only at y0 y1 y2 IE IN
          have M := bal (brefl wr) (.cells #[.bool r2, .int .i64 t, .int .i64 q] 28)
          have Z := hide (OB.new wr r2 t q)
          replace K := hide (btrans K.out M)
          replace M1 := hide (M1.out.below M)
          replace OQ := hide (row_below OQ.out M)
          replace X := hide (X.out.below M)
          replace Y := hide (Y.out.below M)
          clear M
          go_upto_region 12 with fail
          obtain ⟨bq, hbq⟩ : ∃ q, q = wr.heap.size := ⟨_, rfl⟩
          rw [← hbq] at Z ⊢
          clear hbq y0 y1 y2
          generalize wr.alloc (.cells #[.bool r2, .int .i64 t, .int .i64 q] 28) = wa at *
          obtain ⟨x0, x1, x2⟩ := OB.cells Z.out
          obtain ⟨z0, z1⟩ := MB.cells Y.out
          by_cases hst : t = s
          · by_cases hpq : q = p
            · have HE := hide (show (⟨t, q⟩ : Mp) = ⟨s, p⟩ by rw [hst, hpq])
              have hb1 : (t == s) = true := beq_iff_eq.2 hst
              have hb2 : (q == p) = true := beq_iff_eq.2 hpq
              clear hst hpq
              have E := hide (IE.out _ HE.out)
              clear IE IN
              go_wp2
              go_roundw
              case rel => exact ⟨j + 1, by omega, by rw [E.out], by go_num, K, M1, OQ, X, Y⟩
              case measure => simp [intOf]; omega
            · have HN := hide (show ¬ (⟨t, q⟩ : Mp) = ⟨s, p⟩ from fun h => hpq (by injection h))
              have hb1 : (t == s) = true := beq_iff_eq.2 hst
              have hb2 : (q == p) = false := beq_eq_false_iff_ne.2 hpq
              clear hst hpq
              have E := hide (IN.out _ HN.out)
              clear IE IN
              go_wp2
              go_roundw
              case rel => exact ⟨j + 1, by omega, by rw [E.out], by go_num, K, M1, OQ, X, Y⟩
              case measure => simp [intOf]; omega
          · have HN := hide (show ¬ (⟨t, q⟩ : Mp) = ⟨s, p⟩ from fun h => hst (by injection h))
            have hb1 : (t == s) = false := beq_eq_false_iff_ne.2 hst
            clear hst
            have E := hide (IN.out _ HN.out)
            clear IE IN
            go_wp2
            go_roundw
            case rel => exact ⟨j + 1, by omega, by rw [E.out], by go_num, K, M1, OQ, X, Y⟩
            case measure => simp [intOf]; omega
        · obtain rfl : k = j := by omega
          clear hjk hj
          obtain ⟨ib, hib⟩ : ∃ b, b = inK O k ⟨s, p⟩ := ⟨_, rfl⟩
          rw [← hib]
          have HI := hide hib
          clear hib
          obtain ⟨vb, hvb⟩ : ∃ b, b = decide (vM ⟨s, p⟩) := ⟨_, rfl⟩
          have HV := hide hvb
          go_upto_region 15 with fail
          go_cut [11] (fun v wx => v = .bool vb ∧ wx = wr)
          case first =>
            obtain ⟨z0, z1⟩ := MB.cells Y.out
            by_cases q0 : 0 ≤ s
            rotate_left 1
            · have hq := hvb.trans (decide_eq_false fun h => q0 h.1.1)
              clear hvb
              subst hq
              go_wp2
              go_meet
              exact ⟨rfl, rfl⟩
            by_cases q1 : s < 8
            rotate_left 1
            · have hq := hvb.trans (decide_eq_false fun h => q1 h.1.2)
              clear hvb
              subst hq
              go_wp2
              go_meet
              exact ⟨rfl, rfl⟩
            by_cases q2 : 0 ≤ p
            rotate_left 1
            · have hq := hvb.trans (decide_eq_false fun h => q2 h.2.1)
              clear hvb
              subst hq
              go_wp2
              go_meet
              exact ⟨rfl, rfl⟩
            by_cases q3 : p < 512
            rotate_left 1
            · have hq := hvb.trans (decide_eq_false fun h => q3 h.2.2)
              clear hvb
              subst hq
              go_wp2
              go_meet
              exact ⟨rfl, rfl⟩
            have hq := hvb.trans (decide_eq_true ⟨⟨q0, q1⟩, q2, q3⟩)
            clear hvb
            subst hq
            go_wp2
            go_meet
            exact ⟨rfl, rfl⟩
          case rest =>
            obtain ⟨rfl, hwc⟩ := hcut
            subst hwc
            clear hvb
            cases r
            · cases vb
              · cases ib
                · have hv : ¬ vM ⟨s, p⟩ := of_decide_eq_false HV.out.symm
                  have EA := hide ((IV.out.no (m := ⟨s, p⟩)).1 hv).1
                  have ER := hide ((IV.out.no (m := ⟨s, p⟩)).1 hv).2
                  have IV2 := hide (IV.out.skip HK.out (Or.inl (by rw [← HOO.out]; exact hv)))
                  clear hv
                  have SL := hide (show S.length ≤ 40 by have := IV.out.len; have := HK40.out; omega)
                  have AB := hide (show AL.length ≤ 40 by have := IV.out.alen; have := HK40.out; omega)
                  have AC := AD.out A1 c1 S s p _ M1.out (by have := SL.out; omega)
                  rw [EA.out] at AC
                  replace AC := hide AC
                  obtain ⟨x0, x1, x2⟩ := OB.cells X.out
                  obtain ⟨z0, z1⟩ := MB.cells Y.out
                  go_wp2_with fail
                  refine (AC.out).mono ?_
                  rintro e w5 ⟨A4, c4, rfl, ho, hb⟩
                  replace K := hide (btrans K.out hb)
                  replace M1 := hide (M1.out.below hb)
                  replace OQ := hide (row_below OQ.out hb)
                  replace X := hide (X.out.below hb)
                  replace Y := hide (Y.out.below hb)
                  clear ho hb AC
                  clear x0 x1 x2 z0 z1
                  obtain ⟨x0, x1, x2⟩ := OB.cells X.out
                  obtain ⟨z0, z1⟩ := MB.cells Y.out
                  go_wp2
                  go_roundw
                  case rel => exact ⟨k + 1, A1, c1, S, A2, c2, AL, by omega, rfl, rfl, by go_num, K, M1, OQ, IV2⟩
                  case measure => simp [intOf]; omega
                · have hv : ¬ vM ⟨s, p⟩ := of_decide_eq_false HV.out.symm
                  have EA := hide ((IV.out.no (m := ⟨s, p⟩)).1 hv).1
                  have ER := hide ((IV.out.no (m := ⟨s, p⟩)).1 hv).2
                  have IV2 := hide (IV.out.skip HK.out (Or.inl (by rw [← HOO.out]; exact hv)))
                  clear hv
                  have SL := hide (show S.length ≤ 40 by have := IV.out.len; have := HK40.out; omega)
                  have AB := hide (show AL.length ≤ 40 by have := IV.out.alen; have := HK40.out; omega)
                  have AC := AD.out A1 c1 S s p _ M1.out (by have := SL.out; omega)
                  rw [EA.out] at AC
                  replace AC := hide AC
                  obtain ⟨x0, x1, x2⟩ := OB.cells X.out
                  obtain ⟨z0, z1⟩ := MB.cells Y.out
                  go_wp2_with fail
                  refine (AC.out).mono ?_
                  rintro e w5 ⟨A4, c4, rfl, ho, hb⟩
                  replace K := hide (btrans K.out hb)
                  replace M1 := hide (M1.out.below hb)
                  replace OQ := hide (row_below OQ.out hb)
                  replace X := hide (X.out.below hb)
                  replace Y := hide (Y.out.below hb)
                  clear ho hb AC
                  clear x0 x1 x2 z0 z1
                  obtain ⟨x0, x1, x2⟩ := OB.cells X.out
                  obtain ⟨z0, z1⟩ := MB.cells Y.out
                  go_wp2
                  go_roundw
                  case rel => exact ⟨k + 1, A1, c1, S, A2, c2, AL, by omega, rfl, rfl, by go_num, K, M1, OQ, IV2⟩
                  case measure => simp [intOf]; omega
              · cases ib
                · have hv : vM ⟨s, p⟩ := of_decide_eq_true HV.out.symm
                  have IA := IV.out.add HK.out (by rw [← HOO.out]; exact hv) (by rw [← HOO.out]; exact HI.out.symm) (by rw [← HOO.out])
                  rw [← HOO.out] at IA
                  dsimp only at IA
                  have EA := hide IA.2.1
                  have IV2 := hide IA.2.2
                  clear hv IA
                  have SL := hide (show S.length ≤ 40 by have := IV.out.len; have := HK40.out; omega)
                  have AB := hide (show AL.length ≤ 40 by have := IV.out.alen; have := HK40.out; omega)
                  have AC := AD.out A1 c1 S s p _ M1.out (by have := SL.out; omega)
                  rw [EA.out] at AC
                  replace AC := hide AC
                  generalize adL S ⟨s, p⟩ = S2 at *
                  have OA := hide OQ.out
                  obtain ⟨x0, x1, x2⟩ := OB.cells X.out
                  obtain ⟨z0, z1⟩ := MB.cells Y.out
                  go_wp2_with fail
                  refine (AC.out).mono ?_
                  rintro e w5 ⟨A4, c4, rfl, ho, hb⟩
                  replace K := hide (btrans K.out hb)
                  replace M1 := hide (M1.out.below hb)
                  replace OQ := hide (row_below OQ.out hb)
                  replace X := hide (X.out.below hb)
                  replace Y := hide (Y.out.below hb)
                  have M2 := hide ho
                  clear ho hb AC
                  clear x0 x1 x2 z0 z1
                  obtain ⟨x0, x1, x2⟩ := OB.cells X.out
                  obtain ⟨z0, z1⟩ := MB.cells Y.out
                  have RB2 := AB.out
                  have M := bal (brefl w5) (.cells #[.int .i64 s, .int .i64 p] 26)
                  replace M2 := hide (row_below M2.out M)
                  have OQ2 := hide (row_below OQ.out M)
                  have NB := hide (MB.news (MB.new w5 s p))
                  have KM := hide (btrans K.out M)
                  unfold mC at NB
                  dsimp only at NB
                  clear M OQ K
                  have HBB := hide (show w.heap.size ≤ _ from KM.out.size)
                  go_wp2_with (at_builtin; refine wpList_append_own _ rfl (.tmp 112) (.tmp 114) 22 rfl w.heap.size 26 i0 _ 2 16 Try.underlying22 hi0 hz0 hz1 hz2 rfl (by omega) (.slice A2 AL.length c2) AL.length (mcs AL) rfl OQ2.out ⟨w5.heap.size, 0, none⟩ 1 1 [.int .i64 s, .int .i64 p] rfl rfl NB.out (by intro u hu; simp only [List.mem_cons, List.not_mem_nil, or_false] at hu; rcases hu with rfl | rfl <;> rfl) (by simp only [maxLen]; omega) (by omega) HBB.out ?_; intro v1 w9 hown1 hg1 _; obtain ⟨A3, c3, rfl, OQ, BG⟩ := push_next HBB.out OQ2.out hown1 hg1; replace OQ := hide OQ; have K := hide (KM.out.trans (BG.mono HLE.out)); have M3 := hide (show Ms w9 A4 S2 from OwM.rs (own_apart M2.out OA.out hg1)); clear hown1 hg1 OQ2 NB KM BG HBB)
                  have RL := hide (show (AL ++ [(⟨s, p⟩ : Mp)]).length = AL.length + 1 by simp)
                  rw [← RL.out]
                  generalize AL ++ [(⟨s, p⟩ : Mp)] = AL2 at *
                  go_wp2
                  go_roundw
                  case rel => exact ⟨k + 1, A4, c4, S2, A3, c3, AL2, by omega, rfl, rfl, by go_num, K, M3, OQ, IV2⟩
                  case measure => simp [intOf]; omega
                · have hv : vM ⟨s, p⟩ := of_decide_eq_true HV.out.symm
                  have EA := hide ((IV.out.no (m := ⟨s, p⟩)).2.1 hv HI.out.symm)
                  have IV2 := hide (IV.out.skip HK.out (Or.inr (by rw [← HOO.out]; exact HI.out.symm)))
                  clear hv
                  have SL := hide (show S.length ≤ 40 by have := IV.out.len; have := HK40.out; omega)
                  have AB := hide (show AL.length ≤ 40 by have := IV.out.alen; have := HK40.out; omega)
                  have AC := AD.out A1 c1 S s p _ M1.out (by have := SL.out; omega)
                  rw [EA.out] at AC
                  replace AC := hide AC
                  obtain ⟨x0, x1, x2⟩ := OB.cells X.out
                  obtain ⟨z0, z1⟩ := MB.cells Y.out
                  go_wp2_with fail
                  refine (AC.out).mono ?_
                  rintro e w5 ⟨A4, c4, rfl, ho, hb⟩
                  replace K := hide (btrans K.out hb)
                  replace M1 := hide (M1.out.below hb)
                  replace OQ := hide (row_below OQ.out hb)
                  replace X := hide (X.out.below hb)
                  replace Y := hide (Y.out.below hb)
                  clear ho hb AC
                  clear x0 x1 x2 z0 z1
                  obtain ⟨x0, x1, x2⟩ := OB.cells X.out
                  obtain ⟨z0, z1⟩ := MB.cells Y.out
                  go_wp2
                  go_roundw
                  case rel => exact ⟨k + 1, A1, c1, S, A2, c2, AL, by omega, rfl, rfl, by go_num, K, M1, OQ, IV2⟩
                  case measure => simp [intOf]; omega
            · cases vb
              · cases ib
                · have hv : ¬ vM ⟨s, p⟩ := of_decide_eq_false HV.out.symm
                  have EA := hide ((IV.out.no (m := ⟨s, p⟩)).1 hv).1
                  have ER := hide ((IV.out.no (m := ⟨s, p⟩)).1 hv).2
                  have IV2 := hide (IV.out.skip HK.out (Or.inl (by rw [← HOO.out]; exact hv)))
                  clear hv
                  have SL := hide (show S.length ≤ 40 by have := IV.out.len; have := HK40.out; omega)
                  have AB := hide (show AL.length ≤ 40 by have := IV.out.alen; have := HK40.out; omega)
                  have AC := AD.out A1 c1 S s p _ M1.out (by have := SL.out; omega)
                  replace AC := hide AC
                  generalize adL S ⟨s, p⟩ = S3 at *
                  generalize adE S ⟨s, p⟩ = e3 at *
                  obtain ⟨x0, x1, x2⟩ := OB.cells X.out
                  obtain ⟨z0, z1⟩ := MB.cells Y.out
                  go_wp2_with fail
                  refine (AC.out).mono ?_
                  rintro e w4 ⟨A4, c4, rfl, ho, hb⟩
                  replace K := hide (btrans K.out hb)
                  replace M1 := hide (M1.out.below hb)
                  replace OQ := hide (row_below OQ.out hb)
                  replace X := hide (X.out.below hb)
                  replace Y := hide (Y.out.below hb)
                  clear ho hb AC
                  clear x0 x1 x2 z0 z1
                  have RC := RE.out A1 c1 S s p _ M1.out (by have := SL.out; omega)
                  rw [ER.out] at RC
                  replace RC := hide RC
                  obtain ⟨x0, x1, x2⟩ := OB.cells X.out
                  obtain ⟨z0, z1⟩ := MB.cells Y.out
                  go_wp2_with fail
                  refine (RC.out).mono ?_
                  rintro e w5 ⟨A5, c5, rfl, ho, hb⟩
                  replace K := hide (btrans K.out hb)
                  replace M1 := hide (M1.out.below hb)
                  replace OQ := hide (row_below OQ.out hb)
                  replace X := hide (X.out.below hb)
                  replace Y := hide (Y.out.below hb)
                  clear ho hb RC
                  clear x0 x1 x2 z0 z1
                  obtain ⟨x0, x1, x2⟩ := OB.cells X.out
                  obtain ⟨z0, z1⟩ := MB.cells Y.out
                  go_wp2
                  go_roundw
                  case rel => exact ⟨k + 1, A1, c1, S, A2, c2, AL, by omega, rfl, rfl, by go_num, K, M1, OQ, IV2⟩
                  case measure => simp [intOf]; omega
                · have hv : ¬ vM ⟨s, p⟩ := of_decide_eq_false HV.out.symm
                  have EA := hide ((IV.out.no (m := ⟨s, p⟩)).1 hv).1
                  have ER := hide ((IV.out.no (m := ⟨s, p⟩)).1 hv).2
                  have IV2 := hide (IV.out.skip HK.out (Or.inl (by rw [← HOO.out]; exact hv)))
                  clear hv
                  have SL := hide (show S.length ≤ 40 by have := IV.out.len; have := HK40.out; omega)
                  have AB := hide (show AL.length ≤ 40 by have := IV.out.alen; have := HK40.out; omega)
                  have AC := AD.out A1 c1 S s p _ M1.out (by have := SL.out; omega)
                  replace AC := hide AC
                  generalize adL S ⟨s, p⟩ = S3 at *
                  generalize adE S ⟨s, p⟩ = e3 at *
                  obtain ⟨x0, x1, x2⟩ := OB.cells X.out
                  obtain ⟨z0, z1⟩ := MB.cells Y.out
                  go_wp2_with fail
                  refine (AC.out).mono ?_
                  rintro e w4 ⟨A4, c4, rfl, ho, hb⟩
                  replace K := hide (btrans K.out hb)
                  replace M1 := hide (M1.out.below hb)
                  replace OQ := hide (row_below OQ.out hb)
                  replace X := hide (X.out.below hb)
                  replace Y := hide (Y.out.below hb)
                  clear ho hb AC
                  clear x0 x1 x2 z0 z1
                  have RC := RE.out A1 c1 S s p _ M1.out (by have := SL.out; omega)
                  rw [ER.out] at RC
                  replace RC := hide RC
                  obtain ⟨x0, x1, x2⟩ := OB.cells X.out
                  obtain ⟨z0, z1⟩ := MB.cells Y.out
                  go_wp2_with fail
                  refine (RC.out).mono ?_
                  rintro e w5 ⟨A5, c5, rfl, ho, hb⟩
                  replace K := hide (btrans K.out hb)
                  replace M1 := hide (M1.out.below hb)
                  replace OQ := hide (row_below OQ.out hb)
                  replace X := hide (X.out.below hb)
                  replace Y := hide (Y.out.below hb)
                  clear ho hb RC
                  clear x0 x1 x2 z0 z1
                  obtain ⟨x0, x1, x2⟩ := OB.cells X.out
                  obtain ⟨z0, z1⟩ := MB.cells Y.out
                  go_wp2
                  go_roundw
                  case rel => exact ⟨k + 1, A1, c1, S, A2, c2, AL, by omega, rfl, rfl, by go_num, K, M1, OQ, IV2⟩
                  case measure => simp [intOf]; omega
              · cases ib
                · have hv : vM ⟨s, p⟩ := of_decide_eq_true HV.out.symm
                  have ER := hide ((IV.out.no (m := ⟨s, p⟩)).2.2 HI.out.symm)
                  have IV2 := hide (IV.out.skip HK.out (Or.inr (by rw [← HOO.out]; exact HI.out.symm)))
                  clear hv
                  have SL := hide (show S.length ≤ 40 by have := IV.out.len; have := HK40.out; omega)
                  have AB := hide (show AL.length ≤ 40 by have := IV.out.alen; have := HK40.out; omega)
                  have AC := AD.out A1 c1 S s p _ M1.out (by have := SL.out; omega)
                  replace AC := hide AC
                  generalize adL S ⟨s, p⟩ = S3 at *
                  generalize adE S ⟨s, p⟩ = e3 at *
                  obtain ⟨x0, x1, x2⟩ := OB.cells X.out
                  obtain ⟨z0, z1⟩ := MB.cells Y.out
                  go_wp2_with fail
                  refine (AC.out).mono ?_
                  rintro e w4 ⟨A4, c4, rfl, ho, hb⟩
                  replace K := hide (btrans K.out hb)
                  replace M1 := hide (M1.out.below hb)
                  replace OQ := hide (row_below OQ.out hb)
                  replace X := hide (X.out.below hb)
                  replace Y := hide (Y.out.below hb)
                  clear ho hb AC
                  clear x0 x1 x2 z0 z1
                  have RC := RE.out A1 c1 S s p _ M1.out (by have := SL.out; omega)
                  rw [ER.out] at RC
                  replace RC := hide RC
                  obtain ⟨x0, x1, x2⟩ := OB.cells X.out
                  obtain ⟨z0, z1⟩ := MB.cells Y.out
                  go_wp2_with fail
                  refine (RC.out).mono ?_
                  rintro e w5 ⟨A5, c5, rfl, ho, hb⟩
                  replace K := hide (btrans K.out hb)
                  replace M1 := hide (M1.out.below hb)
                  replace OQ := hide (row_below OQ.out hb)
                  replace X := hide (X.out.below hb)
                  replace Y := hide (Y.out.below hb)
                  clear ho hb RC
                  clear x0 x1 x2 z0 z1
                  obtain ⟨x0, x1, x2⟩ := OB.cells X.out
                  obtain ⟨z0, z1⟩ := MB.cells Y.out
                  go_wp2
                  go_roundw
                  case rel => exact ⟨k + 1, A1, c1, S, A2, c2, AL, by omega, rfl, rfl, by go_num, K, M1, OQ, IV2⟩
                  case measure => simp [intOf]; omega
                · have hv : vM ⟨s, p⟩ := of_decide_eq_true HV.out.symm
                  have IA := IV.out.rem HK.out (by rw [← HOO.out]; exact hv) (by rw [← HOO.out]; exact HI.out.symm) (by rw [← HOO.out])
                  rw [← HOO.out] at IA
                  dsimp only at IA
                  have ER := hide IA.1
                  have IV2 := hide IA.2
                  clear hv IA
                  have SL := hide (show S.length ≤ 40 by have := IV.out.len; have := HK40.out; omega)
                  have AB := hide (show AL.length ≤ 40 by have := IV.out.alen; have := HK40.out; omega)
                  have AC := AD.out A1 c1 S s p _ M1.out (by have := SL.out; omega)
                  replace AC := hide AC
                  generalize adL S ⟨s, p⟩ = S3 at *
                  generalize adE S ⟨s, p⟩ = e3 at *
                  obtain ⟨x0, x1, x2⟩ := OB.cells X.out
                  obtain ⟨z0, z1⟩ := MB.cells Y.out
                  go_wp2_with fail
                  refine (AC.out).mono ?_
                  rintro e w4 ⟨A4, c4, rfl, ho, hb⟩
                  replace K := hide (btrans K.out hb)
                  replace M1 := hide (M1.out.below hb)
                  replace OQ := hide (row_below OQ.out hb)
                  replace X := hide (X.out.below hb)
                  replace Y := hide (Y.out.below hb)
                  clear ho hb AC
                  clear x0 x1 x2 z0 z1
                  have RC := RE.out A1 c1 S s p _ M1.out (by have := SL.out; omega)
                  rw [ER.out] at RC
                  replace RC := hide RC
                  generalize reL S ⟨s, p⟩ = S2 at *
                  obtain ⟨x0, x1, x2⟩ := OB.cells X.out
                  obtain ⟨z0, z1⟩ := MB.cells Y.out
                  go_wp2_with fail
                  refine (RC.out).mono ?_
                  rintro e w5 ⟨A5, c5, rfl, ho, hb⟩
                  replace K := hide (btrans K.out hb)
                  replace M1 := hide (M1.out.below hb)
                  replace OQ := hide (row_below OQ.out hb)
                  replace X := hide (X.out.below hb)
                  replace Y := hide (Y.out.below hb)
                  have M2 := hide (OwM.rs ho)
                  clear ho hb RC
                  clear x0 x1 x2 z0 z1
                  obtain ⟨x0, x1, x2⟩ := OB.cells X.out
                  obtain ⟨z0, z1⟩ := MB.cells Y.out
                  go_wp2
                  go_roundw
                  case rel => exact ⟨k + 1, A5, c5, S2, A2, c2, AL, by omega, rfl, rfl, by go_num, K, M2, OQ, IV2⟩
                  case measure => simp [intOf]; omega
    · obtain rfl : k = O.length := by omega
      clear hlt hk
      have SL := hide (show S.length ≤ 40 by have := IV.out.len; have := HOL.out; omega)
      have AB := hide (show AL.length ≤ 40 by have := IV.out.alen; have := HOL.out; omega)
      have CC := CK.out A1 c1 S wr M1.out (by have := SL.out; omega)
      rw [IV.out.ck] at CC
      replace CC := hide CC
      have SS := hide (ck_ok IV.out.ck).2
      go_wp2_with fail
      refine CC.out.mono ?_
      rintro e w3 ⟨rfl, hb⟩
      replace K := hide (btrans K.out hb)
      replace M1 := hide (M1.out.below hb)
      replace OQ := hide (row_below OQ.out hb)
      clear hb CC
      go_wp2
      go_loopw [14] (fun i wr => ∃ j : Nat, j ≤ S.length ∧ i = .int .i64 ((j : Int) + 1) ∧ Hid (Below w.heap.size w wr) ∧ Hid (Ms wr A1 S) ∧ Hid (OwM w.heap.size wr (.slice A2 AL.length c2) AL)) (fun i _ => S.length + 1 - (intOf i).toNat)
      case atStart => exact ⟨0, Nat.zero_le _, rfl, K, M1, OQ⟩
      case round =>
        clear K M1 OQ
        obtain ⟨j, hj, rfl, K, M1, OQ⟩ := hrel
        by_cases hjs : j + 1 < S.length
        · have hl2 : (j : Int) + 1 < (S.length : Int) := by omega
          have hl3 : (j : Int) < (S.length : Int) := by omega
          have hk0 : (0 : Int) ≤ (j : Int) := by omega
          have hk1 : (0 : Int) ≤ (j : Int) + 1 := by omega
          have htn : ((j : Int) + 1).toNat = j + 1 := by omega
          have hj1 : j < S.length := by omega
          have sl40 := SL.out
          have hwj : IntKind.i64.wrap (j : Int) = (j : Int) := by
            have := SL.out
            rw [IntKind.wrap_i64]; omega
          obtain ⟨b, off, rfl, hbl, y0, y1⟩ := M1.out.cells (brefl _) hjs
          have FX := hide (fun w' (h : Below wr.heap.size wr w') => And.intro ((M1.out.below h).at hj1) ((M1.out.below h).at hjs))
          have LT := hide (srt_lt SS.out (Nat.lt_succ_self j) hjs)
          obtain ⟨a, ha⟩ : ∃ a, a = at' S j := ⟨_, rfl⟩
          obtain ⟨d, hd⟩ : ∃ a, a = at' S (j + 1) := ⟨_, rfl⟩
          rw [Nat.succ_eq_add_one, ← ha, ← hd] at LT
          rw [← ha, ← hd] at FX
          clear ha hd y0 y1
          obtain ⟨s, p⟩ := a
          obtain ⟨t, q⟩ := d
          dsimp only at FX
          rcases LT.out with h1 | ⟨h1, h2⟩
          · dsimp only at h1
            have hd1 : ¬ t < s := by omega
            have hb1 : (t == s) = false := beq_eq_false_iff_ne.2 (by omega)
            clear h1
            go_upto_region 31 with fail
            have KD : Below wr.heap.size wr wr.drew := below_drewN (brefl _) 1
            have FY := hide (FX.out _ KD)
            replace K := hide (btrans K.out KD)
            replace M1 := hide (M1.out.below KD)
            replace OQ := hide (row_below OQ.out KD)
            clear KD FX
            refine wp_region_noPanic ?_
            refine wp_region_held_drew (S := (fun W => (W.cell? ⟨b, off + j * 2, none⟩ = some (.int .i64 s) ∧ W.cell? ⟨b, off + j * 2 + 1, none⟩ = some (.int .i64 p)) ∧ W.cell? ⟨b, off + (j + 1) * 2, none⟩ = some (.int .i64 t) ∧ W.cell? ⟨b, off + (j + 1) * 2 + 1, none⟩ = some (.int .i64 q))) (by kernel_rfl) ?_ (fun hHeld => ?_)
            · exact FY.out
            generalize wr.drew = wd at *
            refine wpAnyH_take (i := 0) (oi := ⟨some 126, _, _, _, _, _⟩) (v := ?_) rfl (by kernel_rfl) (by kernel_rfl) (by kernel_rfl) (fun _ _ _ h => h) (Or.inl ⟨by kernel_rfl, ?_⟩) (by assumption) ?_
            rotate_left 1
            · (intro w hSw; (try dsimp only at hSw); go_simp) <;> (with_reducible rfl)
            (try simp only [Act.put, List.setIfInBounds_toArray, List.set_cons_succ, List.set_cons_zero])
            refine wpAnyH_take (i := 1) (oi := ⟨some 127, _, _, _, _, _⟩) (v := ?_) rfl (by kernel_rfl) (by kernel_rfl) (by kernel_rfl) (fun _ _ _ h => h) (Or.inl ⟨by kernel_rfl, ?_⟩) (by assumption) ?_
            rotate_left 1
            · (intro w hSw; (try dsimp only at hSw); go_simp) <;> (with_reducible rfl)
            (try simp only [Act.put, List.setIfInBounds_toArray, List.set_cons_succ, List.set_cons_zero])
            refine wpAnyH_take (i := 2) (oi := ⟨some 128, _, _, _, _, _⟩) (v := ?_) rfl (by kernel_rfl) (by kernel_rfl) (by kernel_rfl) (fun _ _ _ h => h) (Or.inl ⟨by kernel_rfl, ?_⟩) (by assumption) ?_
            rotate_left 1
            · (intro w hSw; (try dsimp only at hSw); go_simp) <;> (with_reducible rfl)
            (try simp only [Act.put, List.setIfInBounds_toArray, List.set_cons_succ, List.set_cons_zero])
            refine wpAnyH_take (i := 3) (oi := ⟨some 129, _, _, _, _, _⟩) (v := ?_) rfl (by kernel_rfl) (by kernel_rfl) (by kernel_rfl) (fun _ _ _ h => h) (Or.inl ⟨by kernel_rfl, ?_⟩) (by assumption) ?_
            rotate_left 1
            · (intro w hSw; (try dsimp only at hSw); go_simp) <;> (with_reducible rfl)
            (try simp only [Act.put, List.setIfInBounds_toArray, List.set_cons_succ, List.set_cons_zero])
            refine wpAnyH_take (i := 4) (oi := ⟨some 130, _, _, _, _, _⟩) (v := ?_) rfl (by kernel_rfl) (by kernel_rfl) (by kernel_rfl) (fun _ _ _ h => h) (Or.inl ⟨by kernel_rfl, ?_⟩) (by assumption) ?_
            rotate_left 1
            · (intro w hSw; (try dsimp only at hSw); go_simp) <;> (with_reducible rfl)
            (try simp only [Act.put, List.setIfInBounds_toArray, List.set_cons_succ, List.set_cons_zero])
            refine wpAnyH_take (i := 5) (oi := ⟨some 131, _, _, _, _, _⟩) (v := ?_) rfl (by kernel_rfl) (by kernel_rfl) (by kernel_rfl) (fun _ _ _ h => h) (Or.inl ⟨by kernel_rfl, ?_⟩) (by assumption) ?_
            rotate_left 1
            · (intro w hSw; (try dsimp only at hSw); go_simp) <;> (with_reducible rfl)
            (try simp only [Act.put, List.setIfInBounds_toArray, List.set_cons_succ, List.set_cons_zero])
            refine wpAnyH_take (i := 6) (oi := ⟨some 132, _, _, _, _, _⟩) (v := ?_) rfl (by kernel_rfl) (by kernel_rfl) (by kernel_rfl) (fun _ _ _ h => h) (Or.inl ⟨by kernel_rfl, ?_⟩) (by assumption) ?_
            rotate_left 1
            · (intro w hSw; (try dsimp only at hSw); go_simp) <;> (with_reducible rfl)
            (try simp only [Act.put, List.setIfInBounds_toArray, List.set_cons_succ, List.set_cons_zero])
            refine wpAnyH_take (i := 7) (oi := ⟨some 133, _, _, _, _, _⟩) (v := ?_) rfl (by kernel_rfl) (by kernel_rfl) (by kernel_rfl) (fun _ _ _ h => h) (Or.inl ⟨by kernel_rfl, ?_⟩) (by assumption) ?_
            rotate_left 1
            · (intro w hSw; (try dsimp only at hSw); go_simp) <;> (with_reducible rfl)
            (try simp only [Act.put, List.setIfInBounds_toArray, List.set_cons_succ, List.set_cons_zero])
            refine wpAnyH_take (i := 8) (oi := ⟨some 134, _, _, _, _, _⟩) (v := ?_) rfl (by kernel_rfl) (by kernel_rfl) (by kernel_rfl) (fun _ _ _ h => h) (Or.inl ⟨by kernel_rfl, ?_⟩) (by assumption) ?_
            rotate_left 1
            · (intro w hSw; (try dsimp only at hSw); go_simp) <;> (with_reducible rfl)
            (try simp only [Act.put, List.setIfInBounds_toArray, List.set_cons_succ, List.set_cons_zero])
            refine wpAnyH_take (i := 9) (oi := ⟨some 135, _, _, _, _, _⟩) (v := ?_) rfl (by kernel_rfl) (by kernel_rfl) (by kernel_rfl) (fun _ _ _ h => h) (Or.inl ⟨by kernel_rfl, ?_⟩) (by assumption) ?_
            rotate_left 1
            · (intro w hSw; (try dsimp only at hSw); go_simp) <;> (with_reducible rfl)
            (try simp only [Act.put, List.setIfInBounds_toArray, List.set_cons_succ, List.set_cons_zero])
            refine wpAnyH_take (i := 10) (oi := ⟨some 136, _, _, _, _, _⟩) (v := ?_) rfl (by kernel_rfl) (by kernel_rfl) (by kernel_rfl) (fun _ _ _ h => h) (Or.inl ⟨by kernel_rfl, ?_⟩) (by assumption) ?_
            rotate_left 1
            · (intro w hSw; (try dsimp only at hSw); go_simp) <;> (with_reducible rfl)
            (try simp only [Act.put, List.setIfInBounds_toArray, List.set_cons_succ, List.set_cons_zero])
            refine wpAnyH_take (i := 11) (oi := ⟨some 137, _, _, _, _, _⟩) (v := ?_) rfl (by kernel_rfl) (by kernel_rfl) (by kernel_rfl) (fun _ _ _ h => h) (Or.inl ⟨by kernel_rfl, ?_⟩) (by assumption) ?_
            rotate_left 1
            · (intro w hSw; (try dsimp only at hSw); go_simp) <;> (with_reducible rfl)
            (try simp only [Act.put, List.setIfInBounds_toArray, List.set_cons_succ, List.set_cons_zero])
            refine wpAnyH_take (i := 12) (oi := ⟨some 138, _, _, _, _, _⟩) (v := ?_) rfl (by kernel_rfl) (by kernel_rfl) (by kernel_rfl) (fun _ _ _ h => h) (Or.inl ⟨by kernel_rfl, ?_⟩) (by assumption) ?_
            rotate_left 1
            · (intro w hSw; (try dsimp only at hSw); go_simp) <;> (with_reducible rfl)
            (try simp only [Act.put, List.setIfInBounds_toArray, List.set_cons_succ, List.set_cons_zero])
            refine wpAnyH_take (i := 13) (oi := ⟨some 139, _, _, _, _, _⟩) (v := ?_) rfl (by kernel_rfl) (by kernel_rfl) (by kernel_rfl) (fun _ _ _ h => h) (Or.inl ⟨by kernel_rfl, ?_⟩) (by assumption) ?_
            rotate_left 1
            · (intro w hSw; (try dsimp only at hSw); go_simp) <;> (with_reducible rfl)
            (try simp only [Act.put, List.setIfInBounds_toArray, List.set_cons_succ, List.set_cons_zero])
            refine wpAnyH_take (i := 14) (oi := ⟨some 140, _, _, _, _, _⟩) (v := ?_) rfl (by kernel_rfl) (by kernel_rfl) (by kernel_rfl) (fun _ _ _ h => h) (Or.inl ⟨by kernel_rfl, ?_⟩) (by assumption) ?_
            rotate_left 1
            · (intro w hSw; (try dsimp only at hSw); go_simp) <;> (with_reducible rfl)
            (try simp only [Act.put, List.setIfInBounds_toArray, List.set_cons_succ, List.set_cons_zero])
            refine wpAnyH_take (i := 15) (oi := ⟨some 141, _, _, _, _, _⟩) (v := ?_) rfl (by kernel_rfl) (by kernel_rfl) (by kernel_rfl) (fun _ _ _ h => h) (Or.inl ⟨by kernel_rfl, ?_⟩) (by assumption) ?_
            rotate_left 1
            · (intro w hSw; (try dsimp only at hSw); go_simp) <;> (with_reducible rfl)
            (try simp only [Act.put, List.setIfInBounds_toArray, List.set_cons_succ, List.set_cons_zero])
            refine wpAnyH_take (i := 16) (oi := ⟨some 142, _, _, _, _, _⟩) (v := ?_) rfl (by kernel_rfl) (by kernel_rfl) (by kernel_rfl) (fun _ _ _ h => h) (Or.inl ⟨by kernel_rfl, ?_⟩) (by assumption) ?_
            rotate_left 1
            · (intro w hSw; (try dsimp only at hSw); go_simp) <;> (with_reducible rfl)
            (try simp only [Act.put, List.setIfInBounds_toArray, List.set_cons_succ, List.set_cons_zero])
            refine wpAnyH_take (i := 17) (oi := ⟨some 143, _, _, _, _, _⟩) (v := ?_) rfl (by kernel_rfl) (by kernel_rfl) (by kernel_rfl) (fun _ _ _ h => h) (Or.inl ⟨by kernel_rfl, ?_⟩) (by assumption) ?_
            rotate_left 1
            · (intro w hSw; (try dsimp only at hSw); go_simp) <;> (with_reducible rfl)
            (try simp only [Act.put, List.setIfInBounds_toArray, List.set_cons_succ, List.set_cons_zero])
            refine wpAnyH_take (i := 18) (oi := ⟨some 144, _, _, _, _, _⟩) (v := ?_) rfl (by kernel_rfl) (by kernel_rfl) (by kernel_rfl) (fun _ _ _ h => h) (Or.inl ⟨by kernel_rfl, ?_⟩) (by assumption) ?_
            rotate_left 1
            · (intro w hSw; (try dsimp only at hSw); go_simp) <;> (with_reducible rfl)
            (try simp only [Act.put, List.setIfInBounds_toArray, List.set_cons_succ, List.set_cons_zero])
            refine wpAnyH_take (i := 19) (oi := ⟨some 145, _, _, _, _, _⟩) (v := ?_) rfl (by kernel_rfl) (by kernel_rfl) (by kernel_rfl) (fun _ _ _ h => h) (Or.inl ⟨by kernel_rfl, ?_⟩) (by assumption) ?_
            rotate_left 1
            · (intro w hSw; (try dsimp only at hSw); go_simp) <;> (with_reducible rfl)
            (try simp only [Act.put, List.setIfInBounds_toArray, List.set_cons_succ, List.set_cons_zero])
            refine wpAnyH_take (i := 20) (oi := ⟨some 146, _, _, _, _, _⟩) (v := ?_) rfl (by kernel_rfl) (by kernel_rfl) (by kernel_rfl) (fun _ _ _ h => h) (Or.inl ⟨by kernel_rfl, ?_⟩) (by assumption) ?_
            rotate_left 1
            · (intro w hSw; (try dsimp only at hSw); go_simp) <;> (with_reducible rfl)
            (try simp only [Act.put, List.setIfInBounds_toArray, List.set_cons_succ, List.set_cons_zero])
            refine wpAnyH_take (i := 21) (oi := ⟨some 147, _, _, _, _, _⟩) (v := ?_) rfl (by kernel_rfl) (by kernel_rfl) (by kernel_rfl) (fun _ _ _ h => h) (Or.inl ⟨by kernel_rfl, ?_⟩) (by assumption) ?_
            rotate_left 1
            · (intro w hSw; (try dsimp only at hSw); go_simp) <;> (with_reducible rfl)
            (try simp only [Act.put, List.setIfInBounds_toArray, List.set_cons_succ, List.set_cons_zero])
            refine wpAnyH_take (i := 22) (oi := ⟨some 148, _, _, _, _, _⟩) (v := ?_) rfl (by kernel_rfl) (by kernel_rfl) (by kernel_rfl) (fun _ _ _ h => h) (Or.inl ⟨by kernel_rfl, ?_⟩) (by assumption) ?_
            rotate_left 1
            · (intro w hSw; (try dsimp only at hSw); go_simp) <;> (with_reducible rfl)
            (try simp only [Act.put, List.setIfInBounds_toArray, List.set_cons_succ, List.set_cons_zero])
            refine wpAnyH_take (i := 23) (oi := ⟨some 149, _, _, _, _, _⟩) (v := ?_) rfl (by kernel_rfl) (by kernel_rfl) (by kernel_rfl) (fun _ _ _ h => h) (Or.inl ⟨by kernel_rfl, ?_⟩) (by assumption) ?_
            rotate_left 1
            · (intro w hSw; (try dsimp only at hSw); go_simp) <;> (with_reducible rfl)
            (try simp only [Act.put, List.setIfInBounds_toArray, List.set_cons_succ, List.set_cons_zero])
            refine wpAnyH_take (i := 24) (oi := ⟨some 150, _, _, _, _, _⟩) (v := ?_) rfl (by kernel_rfl) (by kernel_rfl) (by kernel_rfl) (fun _ _ _ h => h) (Or.inl ⟨by kernel_rfl, ?_⟩) (by assumption) ?_
            rotate_left 1
            · (intro w hSw; (try dsimp only at hSw); go_simp) <;> (with_reducible rfl)
            (try simp only [Act.put, List.setIfInBounds_toArray, List.set_cons_succ, List.set_cons_zero])
            refine wpAnyH_take (i := 25) (oi := ⟨some 151, _, _, _, _, _⟩) (v := ?_) rfl (by kernel_rfl) (by kernel_rfl) (by kernel_rfl) (fun _ _ _ h => h) (Or.inl ⟨by kernel_rfl, ?_⟩) (by assumption) ?_
            rotate_left 1
            · (intro w hSw; (try dsimp only at hSw); go_simp) <;> (with_reducible rfl)
            (try simp only [Act.put, List.setIfInBounds_toArray, List.set_cons_succ, List.set_cons_zero])
            refine wpAnyH_take (i := 26) (oi := ⟨some 152, _, _, _, _, _⟩) (v := undef) rfl (by kernel_rfl) (by kernel_rfl) (by kernel_rfl) (fun _ _ _ h => h) (Or.inr ⟨by kernel_rfl, rfl⟩) (by assumption) ?_
            (try simp only [Act.put, List.setIfInBounds_toArray, List.set_cons_succ, List.set_cons_zero])
            refine wpAnyH_take (i := 27) (oi := ⟨some 153, _, _, _, _, _⟩) (v := undef) rfl (by kernel_rfl) (by kernel_rfl) (by kernel_rfl) (fun _ _ _ h => h) (Or.inr ⟨by kernel_rfl, rfl⟩) (by assumption) ?_
            (try simp only [Act.put, List.setIfInBounds_toArray, List.set_cons_succ, List.set_cons_zero])
            refine wpAnyH_take (i := 28) (oi := ⟨some 154, _, _, _, _, _⟩) (v := undef) rfl (by kernel_rfl) (by kernel_rfl) (by kernel_rfl) (fun _ _ _ h => h) (Or.inr ⟨by kernel_rfl, rfl⟩) (by assumption) ?_
            (try simp only [Act.put, List.setIfInBounds_toArray, List.set_cons_succ, List.set_cons_zero])
            refine wpAnyH_take (i := 29) (oi := ⟨some 155, _, _, _, _, _⟩) (v := undef) rfl (by kernel_rfl) (by kernel_rfl) (by kernel_rfl) (fun _ _ _ h => h) (Or.inr ⟨by kernel_rfl, rfl⟩) (by assumption) ?_
            (try simp only [Act.put, List.setIfInBounds_toArray, List.set_cons_succ, List.set_cons_zero])
            refine wpAnyH_take (i := 30) (oi := ⟨some 156, _, _, _, _, _⟩) (v := undef) rfl (by kernel_rfl) (by kernel_rfl) (by kernel_rfl) (fun _ _ _ h => h) (Or.inr ⟨by kernel_rfl, rfl⟩) (by assumption) ?_
            (try simp only [Act.put, List.setIfInBounds_toArray, List.set_cons_succ, List.set_cons_zero])
            refine wpAnyH_take (i := 31) (oi := ⟨some 157, _, _, _, _, _⟩) (v := undef) rfl (by kernel_rfl) (by kernel_rfl) (by kernel_rfl) (fun _ _ _ h => h) (Or.inr ⟨by kernel_rfl, rfl⟩) (by assumption) ?_
            (try simp only [Act.put, List.setIfInBounds_toArray, List.set_cons_succ, List.set_cons_zero])
            refine wpAnyH_take (i := 32) (oi := ⟨some 158, _, _, _, _, _⟩) (v := undef) rfl (by kernel_rfl) (by kernel_rfl) (by kernel_rfl) (fun _ _ _ h => h) (Or.inr ⟨by kernel_rfl, rfl⟩) (by assumption) ?_
            (try simp only [Act.put, List.setIfInBounds_toArray, List.set_cons_succ, List.set_cons_zero])
            refine wpAnyH_take (i := 33) (oi := ⟨some 159, _, _, _, _, _⟩) (v := undef) rfl (by kernel_rfl) (by kernel_rfl) (by kernel_rfl) (fun _ _ _ h => h) (Or.inr ⟨by kernel_rfl, rfl⟩) (by assumption) ?_
            (try simp only [Act.put, List.setIfInBounds_toArray, List.set_cons_succ, List.set_cons_zero])
            refine wpAnyH_take (i := 34) (oi := ⟨some 160, _, _, _, _, _⟩) (v := undef) rfl (by kernel_rfl) (by kernel_rfl) (by kernel_rfl) (fun _ _ _ h => h) (Or.inr ⟨by kernel_rfl, rfl⟩) (by assumption) ?_
            (try simp only [Act.put, List.setIfInBounds_toArray, List.set_cons_succ, List.set_cons_zero])
            refine wpAnyH_take (i := 35) (oi := ⟨some 161, _, _, _, _, _⟩) (v := undef) rfl (by kernel_rfl) (by kernel_rfl) (by kernel_rfl) (fun _ _ _ h => h) (Or.inr ⟨by kernel_rfl, rfl⟩) (by assumption) ?_
            (try simp only [Act.put, List.setIfInBounds_toArray, List.set_cons_succ, List.set_cons_zero])
            refine wpAnyH_take (i := 36) (oi := ⟨some 162, _, _, _, _, _⟩) (v := undef) rfl (by kernel_rfl) (by kernel_rfl) (by kernel_rfl) (fun _ _ _ h => h) (Or.inr ⟨by kernel_rfl, rfl⟩) (by assumption) ?_
            (try simp only [Act.put, List.setIfInBounds_toArray, List.set_cons_succ, List.set_cons_zero])
            refine wpAnyH_take (i := 37) (oi := ⟨some 163, _, _, _, _, _⟩) (v := undef) rfl (by kernel_rfl) (by kernel_rfl) (by kernel_rfl) (fun _ _ _ h => h) (Or.inr ⟨by kernel_rfl, rfl⟩) (by assumption) ?_
            (try simp only [Act.put, List.setIfInBounds_toArray, List.set_cons_succ, List.set_cons_zero])
            refine wpAnyH_take (i := 38) (oi := ⟨some 164, _, _, _, _, _⟩) (v := ?_) rfl (by kernel_rfl) (by kernel_rfl) (by kernel_rfl) (fun _ _ _ h => h) (Or.inl ⟨by kernel_rfl, ?_⟩) (by assumption) ?_
            rotate_left 1
            · (intro w hSw; (try dsimp only at hSw); go_simp) <;> (with_reducible rfl)
            (try simp only [Act.put, List.setIfInBounds_toArray, List.set_cons_succ, List.set_cons_zero])
            refine wpAnyH_take (i := 39) (oi := ⟨some 165, _, _, _, _, _⟩) (v := ?_) rfl (by kernel_rfl) (by kernel_rfl) (by kernel_rfl) (fun _ _ _ h => h) (Or.inl ⟨by kernel_rfl, ?_⟩) (by assumption) ?_
            rotate_left 1
            · (intro w hSw; (try dsimp only at hSw); go_simp) <;> (with_reducible rfl)
            (try simp only [Act.put, List.setIfInBounds_toArray, List.set_cons_succ, List.set_cons_zero])
            refine wpAnyH_done (by kernel_rfl) ?_ _
            refine NoPanic.normal ?_
            go_wp2
            go_roundw
            case rel => exact ⟨j + 1, by omega, by go_num, K, M1, OQ⟩
            case measure => simp [intOf]; omega
          · dsimp only at h1 h2
            have hd1 : ¬ t < s := by omega
            have hb1 : (t == s) = true := beq_iff_eq.2 h1.symm
            have hd2 : ¬ q ≤ p := by omega
            clear h1 h2
            go_upto_region 31 with fail
            have KD : Below wr.heap.size wr wr.drew := below_drewN (brefl _) 1
            have FY := hide (FX.out _ KD)
            replace K := hide (btrans K.out KD)
            replace M1 := hide (M1.out.below KD)
            replace OQ := hide (row_below OQ.out KD)
            clear KD FX
            refine wp_region_noPanic ?_
            refine wp_region_held_drew (S := (fun W => (W.cell? ⟨b, off + j * 2, none⟩ = some (.int .i64 s) ∧ W.cell? ⟨b, off + j * 2 + 1, none⟩ = some (.int .i64 p)) ∧ W.cell? ⟨b, off + (j + 1) * 2, none⟩ = some (.int .i64 t) ∧ W.cell? ⟨b, off + (j + 1) * 2 + 1, none⟩ = some (.int .i64 q))) (by kernel_rfl) ?_ (fun hHeld => ?_)
            · exact FY.out
            generalize wr.drew = wd at *
            refine wpAnyH_take (i := 0) (oi := ⟨some 126, _, _, _, _, _⟩) (v := ?_) rfl (by kernel_rfl) (by kernel_rfl) (by kernel_rfl) (fun _ _ _ h => h) (Or.inl ⟨by kernel_rfl, ?_⟩) (by assumption) ?_
            rotate_left 1
            · (intro w hSw; (try dsimp only at hSw); go_simp) <;> (with_reducible rfl)
            (try simp only [Act.put, List.setIfInBounds_toArray, List.set_cons_succ, List.set_cons_zero])
            refine wpAnyH_take (i := 1) (oi := ⟨some 127, _, _, _, _, _⟩) (v := ?_) rfl (by kernel_rfl) (by kernel_rfl) (by kernel_rfl) (fun _ _ _ h => h) (Or.inl ⟨by kernel_rfl, ?_⟩) (by assumption) ?_
            rotate_left 1
            · (intro w hSw; (try dsimp only at hSw); go_simp) <;> (with_reducible rfl)
            (try simp only [Act.put, List.setIfInBounds_toArray, List.set_cons_succ, List.set_cons_zero])
            refine wpAnyH_take (i := 2) (oi := ⟨some 128, _, _, _, _, _⟩) (v := ?_) rfl (by kernel_rfl) (by kernel_rfl) (by kernel_rfl) (fun _ _ _ h => h) (Or.inl ⟨by kernel_rfl, ?_⟩) (by assumption) ?_
            rotate_left 1
            · (intro w hSw; (try dsimp only at hSw); go_simp) <;> (with_reducible rfl)
            (try simp only [Act.put, List.setIfInBounds_toArray, List.set_cons_succ, List.set_cons_zero])
            refine wpAnyH_take (i := 3) (oi := ⟨some 129, _, _, _, _, _⟩) (v := ?_) rfl (by kernel_rfl) (by kernel_rfl) (by kernel_rfl) (fun _ _ _ h => h) (Or.inl ⟨by kernel_rfl, ?_⟩) (by assumption) ?_
            rotate_left 1
            · (intro w hSw; (try dsimp only at hSw); go_simp) <;> (with_reducible rfl)
            (try simp only [Act.put, List.setIfInBounds_toArray, List.set_cons_succ, List.set_cons_zero])
            refine wpAnyH_take (i := 4) (oi := ⟨some 130, _, _, _, _, _⟩) (v := ?_) rfl (by kernel_rfl) (by kernel_rfl) (by kernel_rfl) (fun _ _ _ h => h) (Or.inl ⟨by kernel_rfl, ?_⟩) (by assumption) ?_
            rotate_left 1
            · (intro w hSw; (try dsimp only at hSw); go_simp) <;> (with_reducible rfl)
            (try simp only [Act.put, List.setIfInBounds_toArray, List.set_cons_succ, List.set_cons_zero])
            refine wpAnyH_take (i := 5) (oi := ⟨some 131, _, _, _, _, _⟩) (v := ?_) rfl (by kernel_rfl) (by kernel_rfl) (by kernel_rfl) (fun _ _ _ h => h) (Or.inl ⟨by kernel_rfl, ?_⟩) (by assumption) ?_
            rotate_left 1
            · (intro w hSw; (try dsimp only at hSw); go_simp) <;> (with_reducible rfl)
            (try simp only [Act.put, List.setIfInBounds_toArray, List.set_cons_succ, List.set_cons_zero])
            refine wpAnyH_take (i := 6) (oi := ⟨some 132, _, _, _, _, _⟩) (v := ?_) rfl (by kernel_rfl) (by kernel_rfl) (by kernel_rfl) (fun _ _ _ h => h) (Or.inl ⟨by kernel_rfl, ?_⟩) (by assumption) ?_
            rotate_left 1
            · (intro w hSw; (try dsimp only at hSw); go_simp) <;> (with_reducible rfl)
            (try simp only [Act.put, List.setIfInBounds_toArray, List.set_cons_succ, List.set_cons_zero])
            refine wpAnyH_take (i := 7) (oi := ⟨some 133, _, _, _, _, _⟩) (v := ?_) rfl (by kernel_rfl) (by kernel_rfl) (by kernel_rfl) (fun _ _ _ h => h) (Or.inl ⟨by kernel_rfl, ?_⟩) (by assumption) ?_
            rotate_left 1
            · (intro w hSw; (try dsimp only at hSw); go_simp) <;> (with_reducible rfl)
            (try simp only [Act.put, List.setIfInBounds_toArray, List.set_cons_succ, List.set_cons_zero])
            refine wpAnyH_take (i := 8) (oi := ⟨some 134, _, _, _, _, _⟩) (v := ?_) rfl (by kernel_rfl) (by kernel_rfl) (by kernel_rfl) (fun _ _ _ h => h) (Or.inl ⟨by kernel_rfl, ?_⟩) (by assumption) ?_
            rotate_left 1
            · (intro w hSw; (try dsimp only at hSw); go_simp) <;> (with_reducible rfl)
            (try simp only [Act.put, List.setIfInBounds_toArray, List.set_cons_succ, List.set_cons_zero])
            refine wpAnyH_take (i := 9) (oi := ⟨some 135, _, _, _, _, _⟩) (v := ?_) rfl (by kernel_rfl) (by kernel_rfl) (by kernel_rfl) (fun _ _ _ h => h) (Or.inl ⟨by kernel_rfl, ?_⟩) (by assumption) ?_
            rotate_left 1
            · (intro w hSw; (try dsimp only at hSw); go_simp) <;> (with_reducible rfl)
            (try simp only [Act.put, List.setIfInBounds_toArray, List.set_cons_succ, List.set_cons_zero])
            refine wpAnyH_take (i := 10) (oi := ⟨some 136, _, _, _, _, _⟩) (v := ?_) rfl (by kernel_rfl) (by kernel_rfl) (by kernel_rfl) (fun _ _ _ h => h) (Or.inl ⟨by kernel_rfl, ?_⟩) (by assumption) ?_
            rotate_left 1
            · (intro w hSw; (try dsimp only at hSw); go_simp) <;> (with_reducible rfl)
            (try simp only [Act.put, List.setIfInBounds_toArray, List.set_cons_succ, List.set_cons_zero])
            refine wpAnyH_take (i := 11) (oi := ⟨some 137, _, _, _, _, _⟩) (v := ?_) rfl (by kernel_rfl) (by kernel_rfl) (by kernel_rfl) (fun _ _ _ h => h) (Or.inl ⟨by kernel_rfl, ?_⟩) (by assumption) ?_
            rotate_left 1
            · (intro w hSw; (try dsimp only at hSw); go_simp) <;> (with_reducible rfl)
            (try simp only [Act.put, List.setIfInBounds_toArray, List.set_cons_succ, List.set_cons_zero])
            refine wpAnyH_take (i := 12) (oi := ⟨some 138, _, _, _, _, _⟩) (v := ?_) rfl (by kernel_rfl) (by kernel_rfl) (by kernel_rfl) (fun _ _ _ h => h) (Or.inl ⟨by kernel_rfl, ?_⟩) (by assumption) ?_
            rotate_left 1
            · (intro w hSw; (try dsimp only at hSw); go_simp) <;> (with_reducible rfl)
            (try simp only [Act.put, List.setIfInBounds_toArray, List.set_cons_succ, List.set_cons_zero])
            refine wpAnyH_take (i := 13) (oi := ⟨some 139, _, _, _, _, _⟩) (v := ?_) rfl (by kernel_rfl) (by kernel_rfl) (by kernel_rfl) (fun _ _ _ h => h) (Or.inl ⟨by kernel_rfl, ?_⟩) (by assumption) ?_
            rotate_left 1
            · (intro w hSw; (try dsimp only at hSw); go_simp) <;> (with_reducible rfl)
            (try simp only [Act.put, List.setIfInBounds_toArray, List.set_cons_succ, List.set_cons_zero])
            refine wpAnyH_take (i := 14) (oi := ⟨some 140, _, _, _, _, _⟩) (v := ?_) rfl (by kernel_rfl) (by kernel_rfl) (by kernel_rfl) (fun _ _ _ h => h) (Or.inl ⟨by kernel_rfl, ?_⟩) (by assumption) ?_
            rotate_left 1
            · (intro w hSw; (try dsimp only at hSw); go_simp) <;> (with_reducible rfl)
            (try simp only [Act.put, List.setIfInBounds_toArray, List.set_cons_succ, List.set_cons_zero])
            refine wpAnyH_take (i := 15) (oi := ⟨some 141, _, _, _, _, _⟩) (v := ?_) rfl (by kernel_rfl) (by kernel_rfl) (by kernel_rfl) (fun _ _ _ h => h) (Or.inl ⟨by kernel_rfl, ?_⟩) (by assumption) ?_
            rotate_left 1
            · (intro w hSw; (try dsimp only at hSw); go_simp) <;> (with_reducible rfl)
            (try simp only [Act.put, List.setIfInBounds_toArray, List.set_cons_succ, List.set_cons_zero])
            refine wpAnyH_take (i := 16) (oi := ⟨some 142, _, _, _, _, _⟩) (v := ?_) rfl (by kernel_rfl) (by kernel_rfl) (by kernel_rfl) (fun _ _ _ h => h) (Or.inl ⟨by kernel_rfl, ?_⟩) (by assumption) ?_
            rotate_left 1
            · (intro w hSw; (try dsimp only at hSw); go_simp) <;> (with_reducible rfl)
            (try simp only [Act.put, List.setIfInBounds_toArray, List.set_cons_succ, List.set_cons_zero])
            refine wpAnyH_take (i := 17) (oi := ⟨some 143, _, _, _, _, _⟩) (v := ?_) rfl (by kernel_rfl) (by kernel_rfl) (by kernel_rfl) (fun _ _ _ h => h) (Or.inl ⟨by kernel_rfl, ?_⟩) (by assumption) ?_
            rotate_left 1
            · (intro w hSw; (try dsimp only at hSw); go_simp) <;> (with_reducible rfl)
            (try simp only [Act.put, List.setIfInBounds_toArray, List.set_cons_succ, List.set_cons_zero])
            refine wpAnyH_take (i := 18) (oi := ⟨some 144, _, _, _, _, _⟩) (v := ?_) rfl (by kernel_rfl) (by kernel_rfl) (by kernel_rfl) (fun _ _ _ h => h) (Or.inl ⟨by kernel_rfl, ?_⟩) (by assumption) ?_
            rotate_left 1
            · (intro w hSw; (try dsimp only at hSw); go_simp) <;> (with_reducible rfl)
            (try simp only [Act.put, List.setIfInBounds_toArray, List.set_cons_succ, List.set_cons_zero])
            refine wpAnyH_take (i := 19) (oi := ⟨some 145, _, _, _, _, _⟩) (v := ?_) rfl (by kernel_rfl) (by kernel_rfl) (by kernel_rfl) (fun _ _ _ h => h) (Or.inl ⟨by kernel_rfl, ?_⟩) (by assumption) ?_
            rotate_left 1
            · (intro w hSw; (try dsimp only at hSw); go_simp) <;> (with_reducible rfl)
            (try simp only [Act.put, List.setIfInBounds_toArray, List.set_cons_succ, List.set_cons_zero])
            refine wpAnyH_take (i := 20) (oi := ⟨some 146, _, _, _, _, _⟩) (v := ?_) rfl (by kernel_rfl) (by kernel_rfl) (by kernel_rfl) (fun _ _ _ h => h) (Or.inl ⟨by kernel_rfl, ?_⟩) (by assumption) ?_
            rotate_left 1
            · (intro w hSw; (try dsimp only at hSw); go_simp) <;> (with_reducible rfl)
            (try simp only [Act.put, List.setIfInBounds_toArray, List.set_cons_succ, List.set_cons_zero])
            refine wpAnyH_take (i := 21) (oi := ⟨some 147, _, _, _, _, _⟩) (v := ?_) rfl (by kernel_rfl) (by kernel_rfl) (by kernel_rfl) (fun _ _ _ h => h) (Or.inl ⟨by kernel_rfl, ?_⟩) (by assumption) ?_
            rotate_left 1
            · (intro w hSw; (try dsimp only at hSw); go_simp) <;> (with_reducible rfl)
            (try simp only [Act.put, List.setIfInBounds_toArray, List.set_cons_succ, List.set_cons_zero])
            refine wpAnyH_take (i := 22) (oi := ⟨some 148, _, _, _, _, _⟩) (v := ?_) rfl (by kernel_rfl) (by kernel_rfl) (by kernel_rfl) (fun _ _ _ h => h) (Or.inl ⟨by kernel_rfl, ?_⟩) (by assumption) ?_
            rotate_left 1
            · (intro w hSw; (try dsimp only at hSw); go_simp) <;> (with_reducible rfl)
            (try simp only [Act.put, List.setIfInBounds_toArray, List.set_cons_succ, List.set_cons_zero])
            refine wpAnyH_take (i := 23) (oi := ⟨some 149, _, _, _, _, _⟩) (v := ?_) rfl (by kernel_rfl) (by kernel_rfl) (by kernel_rfl) (fun _ _ _ h => h) (Or.inl ⟨by kernel_rfl, ?_⟩) (by assumption) ?_
            rotate_left 1
            · (intro w hSw; (try dsimp only at hSw); go_simp) <;> (with_reducible rfl)
            (try simp only [Act.put, List.setIfInBounds_toArray, List.set_cons_succ, List.set_cons_zero])
            refine wpAnyH_take (i := 24) (oi := ⟨some 150, _, _, _, _, _⟩) (v := ?_) rfl (by kernel_rfl) (by kernel_rfl) (by kernel_rfl) (fun _ _ _ h => h) (Or.inl ⟨by kernel_rfl, ?_⟩) (by assumption) ?_
            rotate_left 1
            · (intro w hSw; (try dsimp only at hSw); go_simp) <;> (with_reducible rfl)
            (try simp only [Act.put, List.setIfInBounds_toArray, List.set_cons_succ, List.set_cons_zero])
            refine wpAnyH_take (i := 25) (oi := ⟨some 151, _, _, _, _, _⟩) (v := ?_) rfl (by kernel_rfl) (by kernel_rfl) (by kernel_rfl) (fun _ _ _ h => h) (Or.inl ⟨by kernel_rfl, ?_⟩) (by assumption) ?_
            rotate_left 1
            · (intro w hSw; (try dsimp only at hSw); go_simp) <;> (with_reducible rfl)
            (try simp only [Act.put, List.setIfInBounds_toArray, List.set_cons_succ, List.set_cons_zero])
            refine wpAnyH_take (i := 26) (oi := ⟨some 152, _, _, _, _, _⟩) (v := ?_) rfl (by kernel_rfl) (by kernel_rfl) (by kernel_rfl) (fun _ _ _ h => h) (Or.inl ⟨by kernel_rfl, ?_⟩) (by assumption) ?_
            rotate_left 1
            · (intro w hSw; (try dsimp only at hSw); go_simp) <;> (with_reducible rfl)
            (try simp only [Act.put, List.setIfInBounds_toArray, List.set_cons_succ, List.set_cons_zero])
            refine wpAnyH_take (i := 27) (oi := ⟨some 153, _, _, _, _, _⟩) (v := ?_) rfl (by kernel_rfl) (by kernel_rfl) (by kernel_rfl) (fun _ _ _ h => h) (Or.inl ⟨by kernel_rfl, ?_⟩) (by assumption) ?_
            rotate_left 1
            · (intro w hSw; (try dsimp only at hSw); go_simp) <;> (with_reducible rfl)
            (try simp only [Act.put, List.setIfInBounds_toArray, List.set_cons_succ, List.set_cons_zero])
            refine wpAnyH_take (i := 28) (oi := ⟨some 154, _, _, _, _, _⟩) (v := ?_) rfl (by kernel_rfl) (by kernel_rfl) (by kernel_rfl) (fun _ _ _ h => h) (Or.inl ⟨by kernel_rfl, ?_⟩) (by assumption) ?_
            rotate_left 1
            · (intro w hSw; (try dsimp only at hSw); go_simp) <;> (with_reducible rfl)
            (try simp only [Act.put, List.setIfInBounds_toArray, List.set_cons_succ, List.set_cons_zero])
            refine wpAnyH_take (i := 29) (oi := ⟨some 155, _, _, _, _, _⟩) (v := ?_) rfl (by kernel_rfl) (by kernel_rfl) (by kernel_rfl) (fun _ _ _ h => h) (Or.inl ⟨by kernel_rfl, ?_⟩) (by assumption) ?_
            rotate_left 1
            · (intro w hSw; (try dsimp only at hSw); go_simp) <;> (with_reducible rfl)
            (try simp only [Act.put, List.setIfInBounds_toArray, List.set_cons_succ, List.set_cons_zero])
            refine wpAnyH_take (i := 30) (oi := ⟨some 156, _, _, _, _, _⟩) (v := ?_) rfl (by kernel_rfl) (by kernel_rfl) (by kernel_rfl) (fun _ _ _ h => h) (Or.inl ⟨by kernel_rfl, ?_⟩) (by assumption) ?_
            rotate_left 1
            · (intro w hSw; (try dsimp only at hSw); go_simp) <;> (with_reducible rfl)
            (try simp only [Act.put, List.setIfInBounds_toArray, List.set_cons_succ, List.set_cons_zero])
            refine wpAnyH_take (i := 31) (oi := ⟨some 157, _, _, _, _, _⟩) (v := ?_) rfl (by kernel_rfl) (by kernel_rfl) (by kernel_rfl) (fun _ _ _ h => h) (Or.inl ⟨by kernel_rfl, ?_⟩) (by assumption) ?_
            rotate_left 1
            · (intro w hSw; (try dsimp only at hSw); go_simp) <;> (with_reducible rfl)
            (try simp only [Act.put, List.setIfInBounds_toArray, List.set_cons_succ, List.set_cons_zero])
            refine wpAnyH_take (i := 32) (oi := ⟨some 158, _, _, _, _, _⟩) (v := ?_) rfl (by kernel_rfl) (by kernel_rfl) (by kernel_rfl) (fun _ _ _ h => h) (Or.inl ⟨by kernel_rfl, ?_⟩) (by assumption) ?_
            rotate_left 1
            · (intro w hSw; (try dsimp only at hSw); go_simp) <;> (with_reducible rfl)
            (try simp only [Act.put, List.setIfInBounds_toArray, List.set_cons_succ, List.set_cons_zero])
            refine wpAnyH_take (i := 33) (oi := ⟨some 159, _, _, _, _, _⟩) (v := ?_) rfl (by kernel_rfl) (by kernel_rfl) (by kernel_rfl) (fun _ _ _ h => h) (Or.inl ⟨by kernel_rfl, ?_⟩) (by assumption) ?_
            rotate_left 1
            · (intro w hSw; (try dsimp only at hSw); go_simp) <;> (with_reducible rfl)
            (try simp only [Act.put, List.setIfInBounds_toArray, List.set_cons_succ, List.set_cons_zero])
            refine wpAnyH_take (i := 34) (oi := ⟨some 160, _, _, _, _, _⟩) (v := ?_) rfl (by kernel_rfl) (by kernel_rfl) (by kernel_rfl) (fun _ _ _ h => h) (Or.inl ⟨by kernel_rfl, ?_⟩) (by assumption) ?_
            rotate_left 1
            · (intro w hSw; (try dsimp only at hSw); go_simp) <;> (with_reducible rfl)
            (try simp only [Act.put, List.setIfInBounds_toArray, List.set_cons_succ, List.set_cons_zero])
            refine wpAnyH_take (i := 35) (oi := ⟨some 161, _, _, _, _, _⟩) (v := ?_) rfl (by kernel_rfl) (by kernel_rfl) (by kernel_rfl) (fun _ _ _ h => h) (Or.inl ⟨by kernel_rfl, ?_⟩) (by assumption) ?_
            rotate_left 1
            · (intro w hSw; (try dsimp only at hSw); go_simp) <;> (with_reducible rfl)
            (try simp only [Act.put, List.setIfInBounds_toArray, List.set_cons_succ, List.set_cons_zero])
            refine wpAnyH_take (i := 36) (oi := ⟨some 162, _, _, _, _, _⟩) (v := ?_) rfl (by kernel_rfl) (by kernel_rfl) (by kernel_rfl) (fun _ _ _ h => h) (Or.inl ⟨by kernel_rfl, ?_⟩) (by assumption) ?_
            rotate_left 1
            · (intro w hSw; (try dsimp only at hSw); go_simp) <;> (with_reducible rfl)
            (try simp only [Act.put, List.setIfInBounds_toArray, List.set_cons_succ, List.set_cons_zero])
            refine wpAnyH_take (i := 37) (oi := ⟨some 163, _, _, _, _, _⟩) (v := ?_) rfl (by kernel_rfl) (by kernel_rfl) (by kernel_rfl) (fun _ _ _ h => h) (Or.inl ⟨by kernel_rfl, ?_⟩) (by assumption) ?_
            rotate_left 1
            · (intro w hSw; (try dsimp only at hSw); go_simp) <;> (with_reducible rfl)
            (try simp only [Act.put, List.setIfInBounds_toArray, List.set_cons_succ, List.set_cons_zero])
            refine wpAnyH_take (i := 38) (oi := ⟨some 164, _, _, _, _, _⟩) (v := ?_) rfl (by kernel_rfl) (by kernel_rfl) (by kernel_rfl) (fun _ _ _ h => h) (Or.inl ⟨by kernel_rfl, ?_⟩) (by assumption) ?_
            rotate_left 1
            · (intro w hSw; (try dsimp only at hSw); go_simp) <;> (with_reducible rfl)
            (try simp only [Act.put, List.setIfInBounds_toArray, List.set_cons_succ, List.set_cons_zero])
            refine wpAnyH_take (i := 39) (oi := ⟨some 165, _, _, _, _, _⟩) (v := ?_) rfl (by kernel_rfl) (by kernel_rfl) (by kernel_rfl) (fun _ _ _ h => h) (Or.inl ⟨by kernel_rfl, ?_⟩) (by assumption) ?_
            rotate_left 1
            · (intro w hSw; (try dsimp only at hSw); go_simp) <;> (with_reducible rfl)
            (try simp only [Act.put, List.setIfInBounds_toArray, List.set_cons_succ, List.set_cons_zero])
            refine wpAnyH_done (by kernel_rfl) ?_ _
            refine NoPanic.normal ?_
            go_wp2
            go_roundw
            case rel => exact ⟨j + 1, by omega, by go_num, K, M1, OQ⟩
            case measure => simp [intOf]; omega
        · have hjs2 : ¬ ((j : Int) + 1 < (S.length : Int)) := by omega
          clear hjs hj
          go_wp2
          clear hjs2
          have CN := hide IV.out.count
          go_loopw [15, 168] (fun m i wr => ∃ k n : Nat, k ≤ AL.length ∧ m = .int .i64 n ∧ i = .int .i64 k ∧ Hid (Below w.heap.size w wr) ∧ Hid (Ms wr A1 S) ∧ Hid (OwM w.heap.size wr (.slice A2 AL.length c2) AL) ∧ Hid (n + cnt O (AL.drop k) = cnt O AL)) (fun _ i _ => AL.length - (intOf i).toNat)
          case atStart => exact ⟨0, 0, Nat.zero_le _, rfl, rfl, K, M1, OQ, hide (Nat.zero_add _)⟩
          case round =>
            clear K M1 OQ
            obtain ⟨k, n, hk, rfl, rfl, K, M1, OQ, NK⟩ := hrel
            by_cases hlt : k < AL.length
            · have hl2 : (k : Int) < (AL.length : Int) := by omega
              have hl4 : (k : Int) + 1 ≤ (AL.length : Int) := by omega
              have hl5 : k + 1 ≤ AL.length := by omega
              have hk0 : (0 : Int) ≤ (k : Int) := by omega
              have hk1 : (0 : Int) ≤ (k : Int) + 1 := by omega
              have ab40 := AB.out
              have htn : ((k : Int) + 1).toNat = k + 1 := by omega
              have hwk : IntKind.i64.wrap ((k : Int) + 1) = (k : Int) + 1 := by
                have := AB.out
                rw [IntKind.wrap_i64]; omega
              obtain ⟨g, rfl, hgc⟩ : ∃ g, A2 = some ⟨g, 0, none⟩ ∧ AL.length ≤ c2 := by
                obtain ⟨_, ⟨e, h0⟩ | ⟨g, cap, cur, e, _, _, h4, _⟩⟩ := OQ.out
                · omega
                · injection e with e1 _ e2
                  subst e2
                  exact ⟨g, e1, h4⟩
              have hgc2 : k + 1 ≤ c2 := by omega
              obtain ⟨y0, y1⟩ := (OwM.rs OQ.out).at hlt
              simp only [Nat.zero_add] at y0 y1
              have DR := hide (drop_at hlt)
              have HI := hide (IV.out.has (at_mem hlt))
              have NB := hide (show n ≤ 80 by
                have h1 := NK.out
                have h2 := CN.out
                have h3 := SL.out
                omega)
              rw [DR.out] at NK
              obtain ⟨rest, hrest⟩ : ∃ r, r = AL.drop (k + 1) := ⟨_, rfl⟩
              have HRL := hide (show rest.length = AL.length - (k + 1) by rw [hrest, List.length_drop])
              rw [← hrest] at NK
              have HRE := hide hrest
              have RB40 := hide (show rest.length ≤ 40 by have h1 := HRL.out; have h2 := AB.out; omega)
              clear hrest DR
              obtain ⟨x, hx⟩ : ∃ x, x = at' AL k := ⟨_, rfl⟩
              rw [← hx] at y0 y1 NK HI
              clear hx
              obtain ⟨s, p⟩ := x
              dsimp only at y0 y1
              have M := bal (brefl wr) (.cells #[.int .i64 s, .int .i64 p] 26)
              have Y := hide (MB.new wr s p)
              replace K := hide (btrans K.out M)
              replace M1 := hide (M1.out.below M)
              replace OQ := hide (row_below OQ.out M)
              clear M
              by_cases hcc : c2 = k + 1
              · have M3 := hide (show Ms (wr.alloc (.cells #[.int .i64 s, .int .i64 p] 26)) (some ⟨g, 0, none⟩) rest from fun hne => absurd (List.eq_nil_of_length_eq_zero (by rw [HRL.out]; omega)) hne)
                go_upto_region 39 with fail
                rw [← HRL.out]
                have HR0 := hide (show rest.length = 0 by rw [HRL.out]; omega)
                clear hcc
                obtain ⟨g4, hg4⟩ : ∃ q, q = wr.heap.size := ⟨_, rfl⟩
                rw [← hg4] at Y ⊢
                clear hg4 y0 y1
                generalize wr.alloc (.cells #[.int .i64 s, .int .i64 p] 26) = wa at *
                go_wp2
                go_loopw [18, 20, 178] (fun l _ i wr => ∃ j : Nat, j ≤ rest.length ∧ l = .bool (decide (¬ (⟨s, p⟩ : Mp) ∈ rest.take j)) ∧ i = .int .i64 j ∧ Hid (Ms wr (some ⟨g, 0, none⟩) rest) ∧ Hid (Below w.heap.size w wr) ∧ Hid (Ms wr A1 S) ∧ Hid (OwM w.heap.size wr (.slice (some ⟨g, 0, none⟩) AL.length c2) AL) ∧ Hid (MB wr g4 ⟨s, p⟩)) (fun _ _ i _ => rest.length - (intOf i).toNat)
                case atStart => exact ⟨0, Nat.zero_le _, rfl, rfl, M3, K, M1, OQ, Y⟩
                case round =>
                  clear K M1 OQ Y M3
                  obtain ⟨j, hj, rfl, rfl, M3, K, M1, OQ, Y⟩ := hrel
                  by_cases hjr : j < rest.length
                  · have hl3 : (j : Int) < (rest.length : Int) := by omega
                    have hj0 : (0 : Int) ≤ (j : Int) := by omega
                    obtain ⟨y0, y1⟩ := M3.out.at hjr
                    (try simp only [Nat.zero_add] at y0 y1)
                    have rb40 := RB40.out
                    have T1 := hide (take_snoc rest hjr)
                    obtain ⟨x, hx⟩ : ∃ x, x = at' rest j := ⟨_, rfl⟩
                    rw [← hx] at y0 y1 T1
                    clear hx
                    obtain ⟨t, q⟩ := x
                    dsimp only at y0 y1
                    obtain ⟨lb, hlb⟩ : ∃ b, b = decide (¬ (⟨s, p⟩ : Mp) ∈ rest.take j) := ⟨_, rfl⟩
                    rw [← hlb]
                    have LB := hide hlb
                    clear hlb
                    have M := bal (brefl wr) (.cells #[.int .i64 t, .int .i64 q] 26)
                    have Z := hide (MB.new wr t q)
                    replace K := hide (btrans K.out M)
                    replace M1 := hide (M1.out.below M)
                    replace OQ := hide (row_below OQ.out M)
                    replace Y := hide (Y.out.below M)
                    replace M3 := hide (M3.out.below M)
                    clear M
                    go_upto_region 41 with fail
                    obtain ⟨bq, hbq⟩ : ∃ q, q = wr.heap.size := ⟨_, rfl⟩
                    rw [← hbq] at Z ⊢
                    clear hbq y0 y1
                    generalize wr.alloc (.cells #[.int .i64 t, .int .i64 q] 26) = wa at *
                    obtain ⟨x0, x1⟩ := MB.cells Z.out
                    obtain ⟨z0, z1⟩ := MB.cells Y.out
                    cases lb
                    · have E := hide (show decide (¬ (⟨s, p⟩ : Mp) ∈ rest.take (j + 1)) = false from decide_eq_false fun h => h (by
                        have := of_decide_eq_false LB.out.symm
                        rw [T1.out]; exact List.mem_append.2 (Or.inl (Decidable.not_not.1 this))))
                      go_wp2
                      go_roundw
                      case rel => exact ⟨j + 1, by omega, by rw [E.out], by go_num, M3, K, M1, OQ, Y⟩
                      case measure => simp [intOf]; omega
                    · have NI := hide (of_decide_eq_true LB.out.symm)
                      by_cases hst : t = s
                      · by_cases hpq : q = p
                        · have HE := hide (show (⟨t, q⟩ : Mp) = ⟨s, p⟩ by rw [hst, hpq])
                          have hb1 : (t == s) = true := beq_iff_eq.2 hst
                          have hb2 : (q == p) = true := beq_iff_eq.2 hpq
                          clear hst hpq
                          have E := hide (show decide (¬ (⟨s, p⟩ : Mp) ∈ rest.take (j + 1)) = false from decide_eq_false fun h => h (by
                            rw [T1.out, HE.out]; simp))
                          clear LB
                          go_wp2
                          go_roundw
                          case rel => exact ⟨j + 1, by omega, by rw [E.out], by go_num, M3, K, M1, OQ, Y⟩
                          case measure => simp [intOf]; omega
                        · have HN := hide (show ¬ (⟨t, q⟩ : Mp) = ⟨s, p⟩ from fun h => hpq (by injection h))
                          have hb1 : (t == s) = true := beq_iff_eq.2 hst
                          have hb2 : (q == p) = false := beq_eq_false_iff_ne.2 hpq
                          clear hst hpq
                          have E := hide (show decide (¬ (⟨s, p⟩ : Mp) ∈ rest.take (j + 1)) = true from decide_eq_true fun h => by
                            rw [T1.out] at h
                            rcases List.mem_append.1 h with h | h
                            · exact NI.out h
                            · exact HN.out (List.mem_singleton.1 h).symm)
                          clear LB
                          go_wp2
                          go_roundw
                          case rel => exact ⟨j + 1, by omega, by rw [E.out], by go_num, M3, K, M1, OQ, Y⟩
                          case measure => simp [intOf]; omega
                      · have HN := hide (show ¬ (⟨t, q⟩ : Mp) = ⟨s, p⟩ from fun h => hst (by injection h))
                        have hb1 : (t == s) = false := beq_eq_false_iff_ne.2 hst
                        clear hst
                        have E := hide (show decide (¬ (⟨s, p⟩ : Mp) ∈ rest.take (j + 1)) = true from decide_eq_true fun h => by
                          rw [T1.out] at h
                          rcases List.mem_append.1 h with h | h
                          · exact NI.out h
                          · exact HN.out (List.mem_singleton.1 h).symm)
                        clear LB
                        go_wp2
                        go_roundw
                        case rel => exact ⟨j + 1, by omega, by rw [E.out], by go_num, M3, K, M1, OQ, Y⟩
                        case measure => simp [intOf]; omega
                  · obtain rfl : j = rest.length := by omega
                    rw [List.take_length]
                    obtain ⟨lb, hlb⟩ : ∃ b, b = decide (¬ (⟨s, p⟩ : Mp) ∈ rest) := ⟨_, rfl⟩
                    rw [← hlb]
                    have LB := hide hlb
                    clear hlb M3 hj
                    go_wp2
                    clear hjr
                    go_loopw [21, 23, 191] (fun v _ i wr => ∃ j : Nat, j ≤ O.length ∧ v = .bool (inK O j ⟨s, p⟩) ∧ i = .int .i64 j ∧ Hid (Below w.heap.size w wr) ∧ Hid (Ms wr A1 S) ∧ Hid (OwM w.heap.size wr (.slice (some ⟨g, 0, none⟩) AL.length c2) AL) ∧ Hid (MB wr g4 ⟨s, p⟩)) (fun _ _ i _ => O.length - (intOf i).toNat)
                    case atStart => exact ⟨0, Nat.zero_le _, by rw [inK_0], rfl, K, M1, OQ, Y⟩
                    case round =>
                      clear K M1 OQ Y
                      obtain ⟨j, hj, rfl, rfl, K, M1, OQ, Y⟩ := hrel
                      by_cases hjk : j < O.length
                      · have hl3 : (j : Int) < (O.length : Int) := by omega
                        have hj0 : (0 : Int) ≤ (j : Int) := by omega
                        obtain ⟨b', off', rfl, hbl', y0, y1, y2⟩ := HO.out.cells K.out hjk
                        have IE := hide (fun m h => inK_eq (m := m) hjk h)
                        have IN := hide (fun m h => inK_ne (m := m) hjk h)
                        generalize oAt O j = oo at *
                        obtain ⟨r2, t, q⟩ := oo
                        dsimp only at y0 y1 y2 IE IN
                        have M := bal (brefl wr) (.cells #[.bool r2, .int .i64 t, .int .i64 q] 28)
                        have Z := hide (OB.new wr r2 t q)
                        replace K := hide (btrans K.out M)
                        replace M1 := hide (M1.out.below M)
                        replace OQ := hide (row_below OQ.out M)
                        replace Y := hide (Y.out.below M)
                        clear M
                        go_upto_region 47 with fail
                        obtain ⟨bq, hbq⟩ : ∃ q, q = wr.heap.size := ⟨_, rfl⟩
                        rw [← hbq] at Z ⊢
                        clear hbq y0 y1 y2
                        generalize wr.alloc (.cells #[.bool r2, .int .i64 t, .int .i64 q] 28) = wa at *
                        obtain ⟨x0, x1, x2⟩ := OB.cells Z.out
                        obtain ⟨z0, z1⟩ := MB.cells Y.out
                        by_cases hst : t = s
                        · by_cases hpq : q = p
                          · have HE := hide (show (⟨t, q⟩ : Mp) = ⟨s, p⟩ by rw [hst, hpq])
                            have hb1 : (t == s) = true := beq_iff_eq.2 hst
                            have hb2 : (q == p) = true := beq_iff_eq.2 hpq
                            clear hst hpq
                            have E := hide (IE.out _ HE.out)
                            clear IE IN
                            go_wp2
                            go_roundw
                            case rel => exact ⟨j + 1, by omega, by rw [E.out], by go_num, K, M1, OQ, Y⟩
                            case measure => simp [intOf]; omega
                          · have HN := hide (show ¬ (⟨t, q⟩ : Mp) = ⟨s, p⟩ from fun h => hpq (by injection h))
                            have hb1 : (t == s) = true := beq_iff_eq.2 hst
                            have hb2 : (q == p) = false := beq_eq_false_iff_ne.2 hpq
                            clear hst hpq
                            have E := hide (IN.out _ HN.out)
                            clear IE IN
                            go_wp2
                            go_roundw
                            case rel => exact ⟨j + 1, by omega, by rw [E.out], by go_num, K, M1, OQ, Y⟩
                            case measure => simp [intOf]; omega
                        · have HN := hide (show ¬ (⟨t, q⟩ : Mp) = ⟨s, p⟩ from fun h => hst (by injection h))
                          have hb1 : (t == s) = false := beq_eq_false_iff_ne.2 hst
                          clear hst
                          have E := hide (IN.out _ HN.out)
                          clear IE IN
                          go_wp2
                          go_roundw
                          case rel => exact ⟨j + 1, by omega, by rw [E.out], by go_num, K, M1, OQ, Y⟩
                          case measure => simp [intOf]; omega
                      · obtain rfl : j = O.length := by omega
                        have HH := HA.out A1 S c1 s p wr M1.out (by have := SL.out; omega)
                        rw [HI.out] at HH
                        obtain ⟨ib, hib⟩ : ∃ b, b = inK O O.length ⟨s, p⟩ := ⟨_, rfl⟩
                        rw [← hib] at HH ⊢
                        have IB := hide hib
                        replace HH := hide HH
                        clear hib hj
                        obtain ⟨z0, z1⟩ := MB.cells Y.out
                        have nb := NB.out
                        cases lb
                        · have E := hide (show n + cnt O (AL.drop (k + 1)) = cnt O AL by
                            rw [← HRE.out]
                            have h1 := NK.out
                            rw [cnt_cons, if_neg (fun g => of_decide_eq_false LB.out.symm g.1), Nat.zero_add] at h1; exact h1)
                          cases ib
                          · go_wp2_with fail
                            refine HH.out.mono ?_
                            rintro e w5 ⟨rfl, hb⟩
                            replace K := hide (btrans K.out hb)
                            replace M1 := hide (M1.out.below hb)
                            replace OQ := hide (row_below OQ.out hb)
                            clear hb z0 z1 HH
                            go_wp2
                            go_roundw
                            case rel => first | exact ⟨k + 1, n, by omega, rfl, by go_num, K, M1, OQ, E⟩ | ((repeat apply Exists.intro); exact ⟨⟨k + 1, n, by omega, rfl, by go_num, K, M1, OQ, E⟩, rfl⟩)
                            case measure => simp [intOf]; omega
                          · go_wp2_with fail
                            refine HH.out.mono ?_
                            rintro e w5 ⟨rfl, hb⟩
                            replace K := hide (btrans K.out hb)
                            replace M1 := hide (M1.out.below hb)
                            replace OQ := hide (row_below OQ.out hb)
                            clear hb z0 z1 HH
                            go_wp2
                            go_roundw
                            case rel => first | exact ⟨k + 1, n, by omega, rfl, by go_num, K, M1, OQ, E⟩ | ((repeat apply Exists.intro); exact ⟨⟨k + 1, n, by omega, rfl, by go_num, K, M1, OQ, E⟩, rfl⟩)
                            case measure => simp [intOf]; omega
                        · cases ib
                          · have E := hide (show n + cnt O (AL.drop (k + 1)) = cnt O AL by
                              rw [← HRE.out]
                              have h1 := NK.out
                              rw [cnt_cons, if_neg (fun g => by have := g.2; rw [← IB.out] at this; cases this), Nat.zero_add] at h1; exact h1)
                            go_wp2_with fail
                            refine HH.out.mono ?_
                            rintro e w5 ⟨rfl, hb⟩
                            replace K := hide (btrans K.out hb)
                            replace M1 := hide (M1.out.below hb)
                            replace OQ := hide (row_below OQ.out hb)
                            clear hb z0 z1 HH
                            go_wp2
                            go_roundw
                            case rel => first | exact ⟨k + 1, n, by omega, rfl, by go_num, K, M1, OQ, E⟩ | ((repeat apply Exists.intro); exact ⟨⟨k + 1, n, by omega, rfl, by go_num, K, M1, OQ, E⟩, rfl⟩)
                            case measure => simp [intOf]; omega
                          · have E := hide (show n + 1 + cnt O (AL.drop (k + 1)) = cnt O AL by
                              rw [← HRE.out]
                              have h1 := NK.out
                              rw [cnt_cons, if_pos ⟨of_decide_eq_true LB.out.symm, IB.out.symm⟩] at h1; omega)
                            have hw : IntKind.i64.wrap ((n : Int) + 1) = (n : Int) + 1 := by rw [IntKind.wrap_i64]; omega
                            go_wp2_with fail
                            refine HH.out.mono ?_
                            rintro e w5 ⟨rfl, hb⟩
                            replace K := hide (btrans K.out hb)
                            replace M1 := hide (M1.out.below hb)
                            replace OQ := hide (row_below OQ.out hb)
                            clear hb z0 z1 HH
                            go_wp2
                            go_roundw
                            case rel => first | exact ⟨k + 1, n + 1, by omega, by go_num, by go_num, K, M1, OQ, E⟩ | ((repeat apply Exists.intro); exact ⟨⟨k + 1, n + 1, by omega, by go_num, by go_num, K, M1, OQ, E⟩, rfl⟩)
                            case measure => simp [intOf]; omega
              · have M3 := hide (show Ms (wr.alloc (.cells #[.int .i64 s, .int .i64 p] 26)) (some ⟨g, (k + 1) * 2, none⟩) rest from by
                  have := (OwM.rs OQ.out).drop (k + 1)
                  rw [Nat.zero_add, ← HRE.out] at this
                  exact this)
                go_upto_region 39 with fail
                rw [← HRL.out]
                obtain ⟨g4, hg4⟩ : ∃ q, q = wr.heap.size := ⟨_, rfl⟩
                rw [← hg4] at Y ⊢
                clear hg4 y0 y1
                generalize wr.alloc (.cells #[.int .i64 s, .int .i64 p] 26) = wa at *
                go_wp2
                go_loopw [18, 20, 178] (fun l _ i wr => ∃ j : Nat, j ≤ rest.length ∧ l = .bool (decide (¬ (⟨s, p⟩ : Mp) ∈ rest.take j)) ∧ i = .int .i64 j ∧ Hid (Ms wr (some ⟨g, (k + 1) * 2, none⟩) rest) ∧ Hid (Below w.heap.size w wr) ∧ Hid (Ms wr A1 S) ∧ Hid (OwM w.heap.size wr (.slice (some ⟨g, 0, none⟩) AL.length c2) AL) ∧ Hid (MB wr g4 ⟨s, p⟩)) (fun _ _ i _ => rest.length - (intOf i).toNat)
                case atStart => exact ⟨0, Nat.zero_le _, rfl, rfl, M3, K, M1, OQ, Y⟩
                case round =>
                  clear K M1 OQ Y M3
                  obtain ⟨j, hj, rfl, rfl, M3, K, M1, OQ, Y⟩ := hrel
                  by_cases hjr : j < rest.length
                  · have hl3 : (j : Int) < (rest.length : Int) := by omega
                    have hj0 : (0 : Int) ≤ (j : Int) := by omega
                    obtain ⟨y0, y1⟩ := M3.out.at hjr
                    (try simp only [Nat.zero_add] at y0 y1)
                    have rb40 := RB40.out
                    have T1 := hide (take_snoc rest hjr)
                    obtain ⟨x, hx⟩ : ∃ x, x = at' rest j := ⟨_, rfl⟩
                    rw [← hx] at y0 y1 T1
                    clear hx
                    obtain ⟨t, q⟩ := x
                    dsimp only at y0 y1
                    obtain ⟨lb, hlb⟩ : ∃ b, b = decide (¬ (⟨s, p⟩ : Mp) ∈ rest.take j) := ⟨_, rfl⟩
                    rw [← hlb]
                    have LB := hide hlb
                    clear hlb
                    have M := bal (brefl wr) (.cells #[.int .i64 t, .int .i64 q] 26)
                    have Z := hide (MB.new wr t q)
                    replace K := hide (btrans K.out M)
                    replace M1 := hide (M1.out.below M)
                    replace OQ := hide (row_below OQ.out M)
                    replace Y := hide (Y.out.below M)
                    replace M3 := hide (M3.out.below M)
                    clear M
                    go_upto_region 41 with fail
                    obtain ⟨bq, hbq⟩ : ∃ q, q = wr.heap.size := ⟨_, rfl⟩
                    rw [← hbq] at Z ⊢
                    clear hbq y0 y1
                    generalize wr.alloc (.cells #[.int .i64 t, .int .i64 q] 26) = wa at *
                    obtain ⟨x0, x1⟩ := MB.cells Z.out
                    obtain ⟨z0, z1⟩ := MB.cells Y.out
                    cases lb
                    · have E := hide (show decide (¬ (⟨s, p⟩ : Mp) ∈ rest.take (j + 1)) = false from decide_eq_false fun h => h (by
                        have := of_decide_eq_false LB.out.symm
                        rw [T1.out]; exact List.mem_append.2 (Or.inl (Decidable.not_not.1 this))))
                      go_wp2
                      go_roundw
                      case rel => exact ⟨j + 1, by omega, by rw [E.out], by go_num, M3, K, M1, OQ, Y⟩
                      case measure => simp [intOf]; omega
                    · have NI := hide (of_decide_eq_true LB.out.symm)
                      by_cases hst : t = s
                      · by_cases hpq : q = p
                        · have HE := hide (show (⟨t, q⟩ : Mp) = ⟨s, p⟩ by rw [hst, hpq])
                          have hb1 : (t == s) = true := beq_iff_eq.2 hst
                          have hb2 : (q == p) = true := beq_iff_eq.2 hpq
                          clear hst hpq
                          have E := hide (show decide (¬ (⟨s, p⟩ : Mp) ∈ rest.take (j + 1)) = false from decide_eq_false fun h => h (by
                            rw [T1.out, HE.out]; simp))
                          clear LB
                          go_wp2
                          go_roundw
                          case rel => exact ⟨j + 1, by omega, by rw [E.out], by go_num, M3, K, M1, OQ, Y⟩
                          case measure => simp [intOf]; omega
                        · have HN := hide (show ¬ (⟨t, q⟩ : Mp) = ⟨s, p⟩ from fun h => hpq (by injection h))
                          have hb1 : (t == s) = true := beq_iff_eq.2 hst
                          have hb2 : (q == p) = false := beq_eq_false_iff_ne.2 hpq
                          clear hst hpq
                          have E := hide (show decide (¬ (⟨s, p⟩ : Mp) ∈ rest.take (j + 1)) = true from decide_eq_true fun h => by
                            rw [T1.out] at h
                            rcases List.mem_append.1 h with h | h
                            · exact NI.out h
                            · exact HN.out (List.mem_singleton.1 h).symm)
                          clear LB
                          go_wp2
                          go_roundw
                          case rel => exact ⟨j + 1, by omega, by rw [E.out], by go_num, M3, K, M1, OQ, Y⟩
                          case measure => simp [intOf]; omega
                      · have HN := hide (show ¬ (⟨t, q⟩ : Mp) = ⟨s, p⟩ from fun h => hst (by injection h))
                        have hb1 : (t == s) = false := beq_eq_false_iff_ne.2 hst
                        clear hst
                        have E := hide (show decide (¬ (⟨s, p⟩ : Mp) ∈ rest.take (j + 1)) = true from decide_eq_true fun h => by
                          rw [T1.out] at h
                          rcases List.mem_append.1 h with h | h
                          · exact NI.out h
                          · exact HN.out (List.mem_singleton.1 h).symm)
                        clear LB
                        go_wp2
                        go_roundw
                        case rel => exact ⟨j + 1, by omega, by rw [E.out], by go_num, M3, K, M1, OQ, Y⟩
                        case measure => simp [intOf]; omega
                  · obtain rfl : j = rest.length := by omega
                    rw [List.take_length]
                    obtain ⟨lb, hlb⟩ : ∃ b, b = decide (¬ (⟨s, p⟩ : Mp) ∈ rest) := ⟨_, rfl⟩
                    rw [← hlb]
                    have LB := hide hlb
                    clear hlb M3 hj
                    go_wp2
                    clear hjr
                    go_loopw [21, 23, 191] (fun v _ i wr => ∃ j : Nat, j ≤ O.length ∧ v = .bool (inK O j ⟨s, p⟩) ∧ i = .int .i64 j ∧ Hid (Below w.heap.size w wr) ∧ Hid (Ms wr A1 S) ∧ Hid (OwM w.heap.size wr (.slice (some ⟨g, 0, none⟩) AL.length c2) AL) ∧ Hid (MB wr g4 ⟨s, p⟩)) (fun _ _ i _ => O.length - (intOf i).toNat)
                    case atStart => exact ⟨0, Nat.zero_le _, by rw [inK_0], rfl, K, M1, OQ, Y⟩
                    case round =>
                      clear K M1 OQ Y
                      obtain ⟨j, hj, rfl, rfl, K, M1, OQ, Y⟩ := hrel
                      by_cases hjk : j < O.length
                      · have hl3 : (j : Int) < (O.length : Int) := by omega
                        have hj0 : (0 : Int) ≤ (j : Int) := by omega
                        obtain ⟨b', off', rfl, hbl', y0, y1, y2⟩ := HO.out.cells K.out hjk
                        have IE := hide (fun m h => inK_eq (m := m) hjk h)
                        have IN := hide (fun m h => inK_ne (m := m) hjk h)
                        generalize oAt O j = oo at *
                        obtain ⟨r2, t, q⟩ := oo
                        dsimp only at y0 y1 y2 IE IN
                        have M := bal (brefl wr) (.cells #[.bool r2, .int .i64 t, .int .i64 q] 28)
                        have Z := hide (OB.new wr r2 t q)
                        replace K := hide (btrans K.out M)
                        replace M1 := hide (M1.out.below M)
                        replace OQ := hide (row_below OQ.out M)
                        replace Y := hide (Y.out.below M)
                        clear M
                        go_upto_region 47 with fail
                        obtain ⟨bq, hbq⟩ : ∃ q, q = wr.heap.size := ⟨_, rfl⟩
                        rw [← hbq] at Z ⊢
                        clear hbq y0 y1 y2
                        generalize wr.alloc (.cells #[.bool r2, .int .i64 t, .int .i64 q] 28) = wa at *
                        obtain ⟨x0, x1, x2⟩ := OB.cells Z.out
                        obtain ⟨z0, z1⟩ := MB.cells Y.out
                        by_cases hst : t = s
                        · by_cases hpq : q = p
                          · have HE := hide (show (⟨t, q⟩ : Mp) = ⟨s, p⟩ by rw [hst, hpq])
                            have hb1 : (t == s) = true := beq_iff_eq.2 hst
                            have hb2 : (q == p) = true := beq_iff_eq.2 hpq
                            clear hst hpq
                            have E := hide (IE.out _ HE.out)
                            clear IE IN
                            go_wp2
                            go_roundw
                            case rel => exact ⟨j + 1, by omega, by rw [E.out], by go_num, K, M1, OQ, Y⟩
                            case measure => simp [intOf]; omega
                          · have HN := hide (show ¬ (⟨t, q⟩ : Mp) = ⟨s, p⟩ from fun h => hpq (by injection h))
                            have hb1 : (t == s) = true := beq_iff_eq.2 hst
                            have hb2 : (q == p) = false := beq_eq_false_iff_ne.2 hpq
                            clear hst hpq
                            have E := hide (IN.out _ HN.out)
                            clear IE IN
                            go_wp2
                            go_roundw
                            case rel => exact ⟨j + 1, by omega, by rw [E.out], by go_num, K, M1, OQ, Y⟩
                            case measure => simp [intOf]; omega
                        · have HN := hide (show ¬ (⟨t, q⟩ : Mp) = ⟨s, p⟩ from fun h => hst (by injection h))
                          have hb1 : (t == s) = false := beq_eq_false_iff_ne.2 hst
                          clear hst
                          have E := hide (IN.out _ HN.out)
                          clear IE IN
                          go_wp2
                          go_roundw
                          case rel => exact ⟨j + 1, by omega, by rw [E.out], by go_num, K, M1, OQ, Y⟩
                          case measure => simp [intOf]; omega
                      · obtain rfl : j = O.length := by omega
                        have HH := HA.out A1 S c1 s p wr M1.out (by have := SL.out; omega)
                        rw [HI.out] at HH
                        obtain ⟨ib, hib⟩ : ∃ b, b = inK O O.length ⟨s, p⟩ := ⟨_, rfl⟩
                        rw [← hib] at HH ⊢
                        have IB := hide hib
                        replace HH := hide HH
                        clear hib hj
                        obtain ⟨z0, z1⟩ := MB.cells Y.out
                        have nb := NB.out
                        cases lb
                        · have E := hide (show n + cnt O (AL.drop (k + 1)) = cnt O AL by
                            rw [← HRE.out]
                            have h1 := NK.out
                            rw [cnt_cons, if_neg (fun g => of_decide_eq_false LB.out.symm g.1), Nat.zero_add] at h1; exact h1)
                          cases ib
                          · go_wp2_with fail
                            refine HH.out.mono ?_
                            rintro e w5 ⟨rfl, hb⟩
                            replace K := hide (btrans K.out hb)
                            replace M1 := hide (M1.out.below hb)
                            replace OQ := hide (row_below OQ.out hb)
                            clear hb z0 z1 HH
                            go_wp2
                            go_roundw
                            case rel => first | exact ⟨k + 1, n, by omega, rfl, by go_num, K, M1, OQ, E⟩ | ((repeat apply Exists.intro); exact ⟨⟨k + 1, n, by omega, rfl, by go_num, K, M1, OQ, E⟩, rfl⟩)
                            case measure => simp [intOf]; omega
                          · go_wp2_with fail
                            refine HH.out.mono ?_
                            rintro e w5 ⟨rfl, hb⟩
                            replace K := hide (btrans K.out hb)
                            replace M1 := hide (M1.out.below hb)
                            replace OQ := hide (row_below OQ.out hb)
                            clear hb z0 z1 HH
                            go_wp2
                            go_roundw
                            case rel => first | exact ⟨k + 1, n, by omega, rfl, by go_num, K, M1, OQ, E⟩ | ((repeat apply Exists.intro); exact ⟨⟨k + 1, n, by omega, rfl, by go_num, K, M1, OQ, E⟩, rfl⟩)
                            case measure => simp [intOf]; omega
                        · cases ib
                          · have E := hide (show n + cnt O (AL.drop (k + 1)) = cnt O AL by
                              rw [← HRE.out]
                              have h1 := NK.out
                              rw [cnt_cons, if_neg (fun g => by have := g.2; rw [← IB.out] at this; cases this), Nat.zero_add] at h1; exact h1)
                            go_wp2_with fail
                            refine HH.out.mono ?_
                            rintro e w5 ⟨rfl, hb⟩
                            replace K := hide (btrans K.out hb)
                            replace M1 := hide (M1.out.below hb)
                            replace OQ := hide (row_below OQ.out hb)
                            clear hb z0 z1 HH
                            go_wp2
                            go_roundw
                            case rel => first | exact ⟨k + 1, n, by omega, rfl, by go_num, K, M1, OQ, E⟩ | ((repeat apply Exists.intro); exact ⟨⟨k + 1, n, by omega, rfl, by go_num, K, M1, OQ, E⟩, rfl⟩)
                            case measure => simp [intOf]; omega
                          · have E := hide (show n + 1 + cnt O (AL.drop (k + 1)) = cnt O AL by
                              rw [← HRE.out]
                              have h1 := NK.out
                              rw [cnt_cons, if_pos ⟨of_decide_eq_true LB.out.symm, IB.out.symm⟩] at h1; omega)
                            have hw : IntKind.i64.wrap ((n : Int) + 1) = (n : Int) + 1 := by rw [IntKind.wrap_i64]; omega
                            go_wp2_with fail
                            refine HH.out.mono ?_
                            rintro e w5 ⟨rfl, hb⟩
                            replace K := hide (btrans K.out hb)
                            replace M1 := hide (M1.out.below hb)
                            replace OQ := hide (row_below OQ.out hb)
                            clear hb z0 z1 HH
                            go_wp2
                            go_roundw
                            case rel => first | exact ⟨k + 1, n + 1, by omega, by go_num, by go_num, K, M1, OQ, E⟩ | ((repeat apply Exists.intro); exact ⟨⟨k + 1, n + 1, by omega, by go_num, by go_num, K, M1, OQ, E⟩, rfl⟩)
                            case measure => simp [intOf]; omega
            · obtain rfl : k = AL.length := by omega
              have E := hide (show n = S.length by
                have h1 := NK.out
                have h2 := CN.out
                rw [List.drop_length] at h1
                have h3 : cnt O [] = 0 := rfl
                omega)
              have e1 := E.out
              subst e1
              go_wp2
              go_ret
              exact ⟨rfl, K.out⟩
end Go.Proofs.Ytioffnpnoohbiaa.Rm
