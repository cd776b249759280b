import Derived.Test.YthoeolaleeogbaaRInv
import Derived.Deep.RegionLawGrows
namespace Go.Proofs.Ythoeolaleeogbaa.Tb
open Go Go.RowKit Go.Proofs.Ythoeolaleeogbaa.Pt
set_option linter.unusedVariables false
/-- the row behind 'append(l[1:], x)' where there is room -/
theorem RowT.push1 {w : World} {g c n : Nat} {L : List Te} (x : Te) (h : RowT w g c L) (hL : L.length = n + 1) (hc : n + 2 ≤ c) : Own47 (w.setCells g (3 + n * 3) (tcs [x])) (some ⟨g, 3, none⟩) (L.drop 1 ++ [x]) := fun _ => by
  obtain ⟨cur, h1, h2, h3⟩ := h
  obtain ⟨cur', k1, k2⟩ := setCells_heap g 47 (tcs [x]) (3 + n * 3) cur w h1 (by rw [tcs_length, h2]; simp; omega)
  refine ⟨g, 3, cur', rfl, k1, ?_⟩
  have e0 : cur.toList.take (3 + n * 3) = tcs L := by rw [← h3, hL]; congr 1; omega
  have e1 : (L.drop 1).length = n := by rw [List.length_drop, hL]; rfl
  have e2 : (tcs (L.drop 1)).length = n * 3 := by rw [tcs_length, e1]
  have e3 : (tcs L).drop 3 = tcs (L.drop 1) := (tcs_drop L 1).symm
  rw [k2, e0, List.append_assoc, List.drop_append_of_le_length (by rw [tcs_length, hL]; omega), e3, tcs_append, ← List.append_assoc]
  rw [List.take_append_of_le_length (by simp only [List.length_append, tcs_length, e1, List.length_singleton]; omega), List.take_of_length_le (by simp only [List.length_append, tcs_length, e1, List.length_singleton]; omega)]
theorem TlbQ.bad {er : Int} {w w' : World} {e : Ending} (he : e = .returned (.tuple #[.agg #[.int .i64 0, .slice none 0 0], .int .i64 er])) (hb : Below w.heap.size w w') : TlbQ 0 [] er w e w' := ⟨none, 0, he, Nat.le_refl _, fun h => absurd rfl h, hb⟩
set_option maxHeartbeats 16000000 in
set_option maxRecDepth 100000 in
theorem rfill_any (size : Int) (A : Option Addr) (L : List Te) (c : Nat) (s p W : Int) (w : World) (h : TlbIn w A L c) (hp : inP p) (hW : inW W) :
    Calls Try.prog 23 #[.agg #[.int .i64 size, .slice A L.length c], .int .i64 s, .int .i64 p, .int .u64 W] w (TlbQ (resS size (fillE size L s p W)) (resM (fillL size L s p W) (fillE size L s p W)) (fillE size L s p W) w) := by
  obtain ⟨W0, hW0⟩ : ∃ W0, W0 = (w.alloc (.cells #[.int .i64 size, .slice A L.length c] 24)).alloc (.cells #[.int .i64 0, .slice none 0 0] 24) := ⟨_, rfl⟩
  have K0 := hide (show Below w.heap.size w W0 by rw [hW0]; exact bal (bal (brefl w) _) _)
  have X0 := hide (show Box W0 w.heap.size 24 #[.int .i64 size, .slice A L.length c] by rw [hW0]; exact (Box.new w _ _).more _)
  have V0 := hide (show Box W0 (w.heap.size + 1) 24 #[.int .i64 0, .slice none 0 0] by rw [hW0]; exact Box.new2 _ _ _ _)
  have T0 := hide (h.below K0.out)
  have C := hide (rcheck_any size A L c W0 T0.out)
  have HW := hide hW0
  have HI := hide h.inw
  have S1 := hide (fun w => rspace_any s w)
  have S2 := hide (fun w => rpage_any p w)
  have T1 := hide (fun w => rtr_any W w hW)
  by_cases hk : chkT size L = 0
  · rw [hk] at C
    cases hs : spB s
    · rw [fillE_place (by rw [placeE_sp hk (by rw [okSP_eq, hs]; rfl)]; decide), placeE_sp hk (by rw [okSP_eq, hs]; rfl)]
      rw [resS_er (by decide), resM_er (by decide)]
      rw [hs] at S1
      clear hk hs hW0 h hp hW
      go_enter Try.func23, Try.ntmps23
      go_wp2_with fail
      rw [← HW.out]
      refine C.out.mono ?_
      rintro e w1 ⟨rfl, hb1⟩
      have K := hide hb1
      have V2 := hide (V0.out.below K.out)
      have v0 := V2.out.cell 0
      have v1 := V2.out.cell 1
      have f0 := V2.out.frozen 0
      have f1 := V2.out.frozen 1
      simp at v0 v1
      clear hb1
      go_wp2_with ((go_at_call 45; refine (S1.out _).mono ?_; rintro e w' ⟨rfl, rfl⟩))
      exact ret_tlb2 Try.results23 rfl rfl rfl ((V2.out.put 0 (.int .i64 0)).put 1 (.slice none 0 0)) (TlbQ.bad rfl (bset (bset (btrans K0.out K.out) (by simp <;> omega) _) (by simp <;> omega) _))
    rw [hs] at S1
    cases hpg : pgB p
    · rw [fillE_place (by rw [placeE_sp hk (by rw [okSP_eq, hs, hpg]; rfl)]; decide), placeE_sp hk (by rw [okSP_eq, hs, hpg]; rfl)]
      rw [resS_er (by decide), resM_er (by decide)]
      rw [hpg] at S2
      clear hk hs hpg hW0 h hp hW
      go_enter Try.func23, Try.ntmps23
      go_wp2_with fail
      rw [← HW.out]
      refine C.out.mono ?_
      rintro e w1 ⟨rfl, hb1⟩
      have K := hide hb1
      have V2 := hide (V0.out.below K.out)
      have v0 := V2.out.cell 0
      have v1 := V2.out.cell 1
      have f0 := V2.out.frozen 0
      have f1 := V2.out.frozen 1
      simp at v0 v1
      clear hb1
      go_wp2_with (first | (go_at_call 45; refine (S1.out _).mono ?_; rintro e w' ⟨rfl, rfl⟩) | (go_at_call 46; refine (S2.out _).mono ?_; rintro e w' ⟨rfl, rfl⟩))
      exact ret_tlb2 Try.results23 rfl rfl rfl ((V2.out.put 0 (.int .i64 0)).put 1 (.slice none 0 0)) (TlbQ.bad rfl (bset (bset (btrans K0.out K.out) (by simp <;> omega) _) (by simp <;> omega) _))
    rw [hpg] at S2
    have hsp : okSP s p = true := by rw [okSP_eq, hs, hpg]; rfl
    have hpl : placeE size L s p = 0 := placeE_ok hk hsp
    cases ht : isTr W
    · rw [fillE_tr hpl ht, resS_er (by decide), resM_er (by decide)]
      rw [ht] at T1
      generalize hg W = t2 at *
      clear hk hs hpg hsp hpl ht hW0 h hp hW
      go_enter Try.func23, Try.ntmps23
      go_wp2_with fail
      rw [← HW.out]
      refine C.out.mono ?_
      rintro e w1 ⟨rfl, hb1⟩
      have K := hide hb1
      clear hb1
      go_wp2_with (first | (go_at_call 45; refine (S1.out _).mono ?_; rintro e w' ⟨rfl, rfl⟩) | (go_at_call 46; refine (S2.out _).mono ?_; rintro e w' ⟨rfl, rfl⟩))
      refine (T1.out _).mono ?_
      rintro e w2 ⟨rfl, hb2⟩
      replace K := hide (btrans K.out hb2)
      have V2 := hide (V0.out.below K.out)
      have v0 := V2.out.cell 0
      have v1 := V2.out.cell 1
      have f0 := V2.out.frozen 0
      have f1 := V2.out.frozen 1
      simp at v0 v1
      clear hb2
      go_wp2
      exact ret_tlb2 Try.results23 rfl rfl rfl ((V2.out.put 0 (.int .i64 0)).put 1 (.slice none 0 0)) (TlbQ.bad rfl (bset (bset (btrans K0.out K.out) (by simp <;> omega) _) (by simp <;> omega) _))
    rw [fillE_ok hpl ht]
    rw [ht] at T1
    have e1 : resS size 0 = size := rfl
    have e2 : resM (fillL size L s p W) 0 = fillL size L s p W := rfl
    rw [e1, e2]
    have hok := chkT_ok.1 hk
    have hsz := hok.1
    have HNE := hide (newE_ok hsp ht)
    have HOK := hide hok.2.2.1
    have hn : L.length ≤ 16 := by have := hok.2.1; omega
    have hls : (L.length : Int) ≤ size := hok.2.1
    have hp0 : 0 ≤ p ∧ p < 512 := by unfold pgB at hpg; simpa using hpg
    have hq0 := hp0.1
    have hq1 := hp0.2
    have OV := hide (fun (k : Nat) (hk : k < L.length) w => overlaps_any (teAt L k) (newE s p W) w (HOK.out _ (teAt_mem hk)) HNE.out (HI.out _ (teAt_mem hk)) hW)
    have FL : fillL size L s p W = shed size (L.filter fun e => !ovl e (newE s p W)) ++ [(s, fp W p, W)] := rfl
    rw [FL]
    have GR := hide (fun w => group_any p w hp0.1 (by omega))
    obtain ⟨i0, hi0, hz0, hz1, hz2⟩ := info_parts info47
    have HZ := hide (And.intro hsz hls)
    unfold TlbQ
    cases hhg : hg W
    · have hy : fp W p = p := by unfold fp; rw [hhg]; rfl
      have hx : newE s p W = (s, fp W p, W) := rfl
      rw [hx] at OV ⊢
      rw [hhg] at T1
      rw [hy] at OV ⊢
      obtain ⟨qf, hqf⟩ : ∃ qf : Te → Bool, qf = fun e => !ovl e (s, p, W) := ⟨_, rfl⟩
      rw [← hqf]
      have HQ := hide hqf
      clear hqf
      clear hy hx FL HNE HOK hhg hk hs hpg hsp hpl ht hW0 h hp hW e1 e2 hok hp0 hsz hls GR
      go_enter Try.func23, Try.ntmps23
      go_wp2_with fail
      rw [← HW.out]
      refine C.out.mono ?_
      rintro e w1 ⟨rfl, hb1⟩
      have K := hide hb1
      clear hb1
      go_wp2_with (first | (go_at_call 45; refine (S1.out _).mono ?_; rintro e w' ⟨rfl, rfl⟩) | (go_at_call 46; refine (S2.out _).mono ?_; rintro e w' ⟨rfl, rfl⟩))
      refine (T1.out _).mono ?_
      rintro e w2 ⟨rfl, hb2⟩
      replace K := hide (btrans K.out hb2)
      clear hb2
      go_wp2
      obtain ⟨W2, hW2⟩ : ∃ W2, W2 = w2.alloc (.cells #[.int .i64 s, .int .i64 p, .int .u64 W] 47) := ⟨_, rfl⟩
      have ADD := hide (show Box W2 w2.heap.size 47 #[.int .i64 s, .int .i64 p, .int .u64 W] by rw [hW2]; exact Box.new _ _ _)
      have K2 := hide (show Below W0.heap.size W0 W2 by rw [hW2]; exact bal K.out _)
      rw [← hW2]
      clear hW2
      go_loopw [14, 15] (fun v i wr => ∃ (k : Nat) (A' : Option Addr) (c' : Nat), k ≤ L.length ∧ i = .int .i64 k ∧ v = .slice A' ((L.take k).filter qf).length c' ∧ Hid (OwnR W2.heap.size ((L.take k).filter qf) A' c' wr) ∧ Hid (Below W2.heap.size W2 wr)) (fun _ i _ => L.length - (intOf i).toNat)
      case atStart => exact ⟨0, none, 0, Nat.zero_le _, rfl, rfl, hide (own_nil _ _), hide (brefl _)⟩
      case round =>
        obtain ⟨k, A', c', hk, rfl, rfl, OW, HB⟩ := hrel
        have KA := hide (btrans K2.out HB.out)
        have x0 := (X0.out.below KA.out).cell 0
        have x1 := (X0.out.below KA.out).cell 1
        simp at x0 x1
        by_cases hlt : k < L.length
        · obtain ⟨b, off, rfl, hbl, hcs⟩ := T0.out.ts.cells KA.out hlt
          clear hcs
          have CE := hide (fun (W' : World) (hW : Below W2.heap.size W2 W') => show (W'.cell? ⟨w.heap.size, 1, none⟩ = some (.slice (some ⟨b, off, none⟩) L.length c) ∧ W'.cell? ⟨b, off + k * 3, none⟩ = some (.int .i64 (teAt L k).1) ∧ W'.cell? ⟨b, off + k * 3 + 1, none⟩ = some (.int .i64 (teAt L k).2.1) ∧ W'.cell? ⟨b, off + k * 3 + 2, none⟩ = some (.int .u64 (teAt L k).2.2)) ∧ W'.cell? ⟨w2.heap.size, 0, none⟩ = some (.int .i64 s) ∧ W'.cell? ⟨w2.heap.size, 1, none⟩ = some (.int .i64 p) ∧ W'.cell? ⟨w2.heap.size, 2, none⟩ = some (.int .u64 W) by
            obtain ⟨b', off', e, _, hc⟩ := T0.out.ts.cells (btrans K2.out hW) hlt
            injection e with e
            injection e with e1 e2
            subst e1 e2
            exact ⟨⟨(X0.out.below (btrans K2.out hW)).cell 1, hc k hlt⟩, (ADD.out.below hW).cell 0, (ADD.out.below hW).cell 1, (ADD.out.below hW).cell 2⟩)
          have hk0 : (0 : Int) ≤ (k : Int) := by omega
          have hkl : (k : Int) < (L.length : Int) := by omega
          have FN := hide (filter_next (q := qf) hlt)
          have hml : ((L.take k).filter qf).length ≤ 16 := Nat.le_trans (List.length_filter_le _ _) (by rw [List.length_take]; omega)
          generalize (L.take k).filter qf = M1 at *
          have CH := hide (OV.out k hlt)
          unfold tv at CH
          obtain ⟨⟨d, c0, c1, c2⟩, a0, a1, a2⟩ := CE.out _ HB.out
          cases hc : ovl (teAt L k) (s, p, W)
          · rw [hc] at CH
            have FN2 := hide (show (L.take (k + 1)).filter qf = M1 ++ [teAt L k] by rw [FN.out, HQ.out]; simp [hc])
            obtain ⟨⟨z0, z1, z2⟩, hz⟩ : ∃ z, z = teAt L k := ⟨_, rfl⟩
            rw [← hz] at FN2 c0 c1 c2 CE CH
            simp only at c0 c1 c2 CE CH
            clear hz hc FN x0 x1
            go_wp2
            have K3 := hide (brefl wr)
            go_region_held3 (fun W' => W'.cell? ⟨w.heap.size, 1, none⟩ = some (.slice (some ⟨b, off, none⟩) L.length c) ∧ W'.cell? ⟨b, off + k * 3, none⟩ = some (.int .i64 z0) ∧ W'.cell? ⟨b, off + k * 3 + 1, none⟩ = some (.int .i64 z1) ∧ W'.cell? ⟨b, off + k * 3 + 2, none⟩ = some (.int .u64 z2) ∧ W'.cell? ⟨w2.heap.size, 0, none⟩ = some (.int .i64 s) ∧ W'.cell? ⟨w2.heap.size, 1, none⟩ = some (.int .i64 p) ∧ W'.cell? ⟨w2.heap.size, 2, none⟩ = some (.int .u64 W))
              ((have kk := CE.out _ (btrans HB.out K3.out); exact ⟨kk.1.1, kk.1.2.1, kk.1.2.2.1, kk.1.2.2.2, kk.2.1, kk.2.2.1, kk.2.2.2⟩))
              (first | (go_at_call 33; (with_reducible refine (CH.out _).mono ?_); rintro e wk ⟨rfl, hbk⟩; replace K3 := hide (by first | exact btrans K3.out hbk | exact btrans (below_drewN K3.out _) hbk); clear hbk))
            all_goals
              have KB2 := hide (show Below W2.heap.size W2 _ from btrans HB.out (by first | exact K3.out | exact below_drewN K3.out _))
              have OWN2 := hide (OwnR.below OW.out (by first | exact K3.out | exact below_drewN K3.out _))
              obtain ⟨⟨d, c0, c1, c2⟩, a0, a1, a2⟩ := CE.out _ KB2.out
              have OWN8 := hide (World.ownsRow.alloc (show World.ownsRow wk W2.heap.size 47 3 (.slice A' M1.length c') M1.length (tcs M1) from OWN2.out) (.cells #[.int .i64 z0, .int .i64 z1, .int .u64 z2] 47))
              have K8 := hide (bal KB2.out (.cells #[.int .i64 z0, .int .i64 z1, .int .u64 z2] 47))
              have NW8 := hide (cell_three_new wk (.int .i64 z0) (.int .i64 z1) (.int .u64 z2) 47)
              have S8 := hide (show ∀ u ∈ [Value.int .i64 z0, .int .i64 z1, .int .u64 z2], u.oneCell' = true by intro u hu; simp at hu; rcases hu with rfl | rfl | rfl <;> rfl)
              clear K3
              go_wp2_with (at_builtin; refine wpList_append_own _ rfl (.tmp 62) (.tmp 68) 22 rfl W2.heap.size 47 i0 _ 3 24 Try.underlying22 hi0 hz0 hz1 hz2 rfl (by omega) (.slice A' M1.length c') M1.length (tcs M1) rfl OWN8.out ⟨wk.heap.size, 0, none⟩ 1 1 [.int .i64 z0, .int .i64 z1, .int .u64 z2] rfl rfl NW8.out S8.out (by simp only [maxLen]; omega) (by omega) K8.out.size ?_; intro v4 w4 hown4 hg4 _; obtain ⟨A4, n4, rfl⟩ := row_form hown4; have HO4 := hide hown4; have HBL := hide (show Below W2.heap.size W2 w4 from K8.out.trans (row_below OWN8.out hg4 (Nat.le_refl _) K8.out.size)); clear hown4 hg4)
              go_roundw
              case rel => exact ⟨k + 1, A4, n4, by omega, by go_num, by rw [FN2.out, List.length_append]; rfl, by rw [FN2.out]; exact hide (by unfold OwnR; rw [tcs_append, show (M1 ++ [(z0, z1, z2)]).length = M1.length + 1 by rw [List.length_append]; rfl]; exact HO4.out), HBL⟩
              case measure => simp [intOf]; omega
          · rw [hc] at CH
            have FN2 := hide (show (L.take (k + 1)).filter qf = M1 by rw [FN.out, HQ.out]; simp [hc])
            obtain ⟨⟨z0, z1, z2⟩, hz⟩ : ∃ z, z = teAt L k := ⟨_, rfl⟩
            rw [← hz] at c0 c1 c2 CE CH
            simp only at c0 c1 c2 CE CH
            clear hz hc FN x0 x1
            go_wp2
            have K3 := hide (brefl wr)
            go_region_held3 (fun W' => W'.cell? ⟨w.heap.size, 1, none⟩ = some (.slice (some ⟨b, off, none⟩) L.length c) ∧ W'.cell? ⟨b, off + k * 3, none⟩ = some (.int .i64 z0) ∧ W'.cell? ⟨b, off + k * 3 + 1, none⟩ = some (.int .i64 z1) ∧ W'.cell? ⟨b, off + k * 3 + 2, none⟩ = some (.int .u64 z2) ∧ W'.cell? ⟨w2.heap.size, 0, none⟩ = some (.int .i64 s) ∧ W'.cell? ⟨w2.heap.size, 1, none⟩ = some (.int .i64 p) ∧ W'.cell? ⟨w2.heap.size, 2, none⟩ = some (.int .u64 W))
              ((have kk := CE.out _ (btrans HB.out K3.out); exact ⟨kk.1.1, kk.1.2.1, kk.1.2.2.1, kk.1.2.2.2, kk.2.1, kk.2.2.1, kk.2.2.2⟩))
              (first | (go_at_call 33; (with_reducible refine (CH.out _).mono ?_); rintro e wk ⟨rfl, hbk⟩; replace K3 := hide (by first | exact btrans K3.out hbk | exact btrans (below_drewN K3.out _) hbk); clear hbk))
            all_goals
              have KB2 := hide (show Below W2.heap.size W2 _ from btrans HB.out (by first | exact K3.out | exact below_drewN K3.out _))
              have OWN2 := hide (OwnR.below OW.out (by first | exact K3.out | exact below_drewN K3.out _))
              clear d c0 c1 c2 a0 a1 a2 K3
              go_wp2
              go_roundw
              case rel => exact ⟨k + 1, A', c', by omega, by go_num, by rw [FN2.out], by rw [FN2.out]; exact OWN2, KB2⟩
              case measure => simp [intOf]; omega
        · have hkl : ¬ (k : Int) < (L.length : Int) := by omega
          have ek : L.take k = L := List.take_of_length_le (by omega)
          rw [ek] at OW ⊢
          have hml : (L.filter qf).length ≤ L.length := List.length_filter_le _ _
          obtain ⟨M1, hM1⟩ : ∃ M1, M1 = L.filter qf := ⟨_, rfl⟩
          rw [← hM1] at OW hml ⊢
          have HM1 := hide hM1
          clear ek hM1
          have a0 := (ADD.out.below HB.out).cell 0
          have a1 := (ADD.out.below HB.out).cell 1
          have a2 := (ADD.out.below HB.out).cell 2
          simp at a0 a1 a2
          have VX := hide (V0.out.below KA.out)
          have v0 := VX.out.cell 0
          have v1 := VX.out.cell 1
          have f0 := VX.out.frozen 0
          have f1 := VX.out.frozen 1
          simp at v0 v1
          have lt1 := Nat.lt_of_lt_of_le X0.out.lt KA.out.size
          have lt2 := Nat.lt_of_lt_of_le V0.out.lt KA.out.size
          have lt3 := Nat.lt_of_lt_of_le ADD.out.lt HB.out.size
          have NW8 := hide (cell_three_new (wr.drew) (.int .i64 s) (.int .i64 p) (.int .u64 W) 47)
          have S8 := hide (show ∀ u ∈ [Value.int .i64 s, .int .i64 p, .int .u64 W], u.oneCell' = true by intro u hu; simp at hu; rcases hu with rfl | rfl | rfl <;> rfl)
          have VX8 := hide (Box.more (show Box (wr.drew) (w.heap.size + 1) 24 #[.int .i64 0, .slice none 0 0] from VX.out) (.cells #[.int .i64 s, .int .i64 p, .int .u64 W] 47))
          have XX8 := hide (Box.more (show Box (wr.drew) w.heap.size 24 #[.int .i64 size, .slice A L.length c] from (X0.out.below KA.out : Box wr w.heap.size 24 _)) (.cells #[.int .i64 s, .int .i64 p, .int .u64 W] 47))
          have K8 := hide (bal (below_drewN KA.out 1) (.cells #[.int .i64 s, .int .i64 p, .int .u64 W] 47))
          by_cases hfull : (M1.length : Int) = size
          · have hd : decide (size ≤ (M1.length : Int)) = true := decide_eq_true (by omega)
            have FS := hide (show shed size M1 = M1.drop 1 by unfold shed; rw [if_pos hfull])
            have EQ := hide (show shed size (L.filter qf) ++ [(s, p, W)] = M1.drop 1 ++ [(s, p, W)] by rw [← HM1.out, FS.out])
            obtain ⟨n, hn⟩ : ∃ n, M1.length = n + 1 := ⟨M1.length - 1, by have := HZ.out.1; omega⟩
            obtain ⟨g, rfl, hB, hcc, hmm, hrow⟩ := OW.out.row (by rintro rfl; simp at hn)
            have hLEN : (M1.drop 1 ++ [(s, p, W)]).length = n + 1 := by rw [List.length_append, List.length_drop, hn]; rfl
            have HLEN := hide hLEN
            rw [hn] at hd hcc
            have hle : size ≤ (n : Int) + 1 := by rw [hn] at hfull; omega
            have R8 := hide (RowT.below (show RowT (wr.drew) g c' M1 from hrow) (bal (brefl _) (.cells #[.int .i64 s, .int .i64 p, .int .u64 W] 47)))
            have HOG := hide OW.out.mine.ts
            have hn' := hide hn
            have hc1 : 1 ≤ c' := by omega
            have hn1 : (1 : Int) ≤ (n : Int) + 1 := by omega
            have NG := hide (R8.out.ne VX8.out)
            have KG := hide (show W0.heap.size ≤ g from Nat.le_trans K2.out.size hB)
            unfold maxLen at hmm
            by_cases hroom : n + 1 ≤ c' - 1
            · have hne : ¬ c' = 1 := by omega
              have s3 : Hid (∀ t, t < [Value.int .i64 s, .int .i64 p, .int .u64 W].length → (((wr.drew).alloc (.cells #[.int .i64 s, .int .i64 p, .int .u64 W] 47)).cell? ⟨g, 3 + n * 3 + t, none⟩).isSome = true ∧ ((wr.drew).alloc (.cells #[.int .i64 s, .int .i64 p, .int .u64 W] 47)).frozen? ⟨g, 3 + n * 3 + t, none⟩ = false) := by
                intro t ht
                obtain ⟨cur, h1, h2, h3⟩ := R8.out
                refine ⟨?_, R8.out.frozen _⟩
                rw [cell_of_row _ g _ cur 47 (0, 0) h1]
                have ht3 : t < 3 := ht
                have : 3 + n * 3 + t < cur.size := by omega
                simp [this]
              have P8 := hide (RowT.push1 (s, p, W) R8.out hn (by omega))
              have G8 := hide (setCells_grown g [Value.int .i64 s, .int .i64 p, .int .u64 W] (3 + n * 3) ((wr.drew).alloc (.cells #[.int .i64 s, .int .i64 p, .int .u64 W] 47)))
              obtain ⟨w5, hw5⟩ : ∃ w5, w5 = ((wr.drew).alloc (.cells #[.int .i64 s, .int .i64 p, .int .u64 W] 47)).setCells g (3 + n * 3) [Value.int .i64 s, .int .i64 p, .int .u64 W] := ⟨_, rfl⟩
              have P9 := hide (show Own47 w5 (some ⟨g, 3, none⟩) (M1.drop 1 ++ [(s, p, W)]) by rw [hw5]; exact P8.out)
              rw [← hw5] at G8
              have V9 := hide (VX8.out.grown G8.out (fun e => NG.out (by injection e)))
              have K9 := hide (K8.out.trans (grown_below G8.out KG.out K8.out.size))
              have X9 := hide (XX8.out.grown G8.out (fun e => R8.out.ne XX8.out (by injection e)))
              have xx0 := X9.out.cell 0
              simp at xx0
              have HW5 := hide (show w5 = ((wr.alloc (.cells #[.int .i64 s, .int .i64 p, .int .u64 W] 47)).drew).setCells g (3 + n * 3) [Value.int .i64 s, .int .i64 p, .int .u64 W] from hw5)
              have o0 := V9.out.cell 0
              have o1 := V9.out.cell 1
              have of0 := V9.out.frozen 0
              have of1 := V9.out.frozen 1
              simp at o0 o1
              clear hw5 hrow hfull hB
              go_wp2
              go_region_law (refine step_append_room rfl (.tmp 79) (.tmp 81) 22 rfl 47 i0 3 Try.underlying22 hi0 hz1 g 3 n (c' - 1) (by simp [Act.eval]) ⟨wr.heap.size, 0, none⟩ 1 1 [.int .i64 s, .int .i64 p, .int .u64 W] (by simp [Act.eval]) rfl NW8.out S8.out (by omega) s3.out ?_; rw [← HW5.out])
              all_goals
                go_wp2
                exact ret_tlb2 Try.results23 rfl rfl rfl ((V9.out.put 0 (.int .i64 size)).put 1 (.slice (some ⟨g, 3, none⟩) (n + 1) (c' - 1))) (by rw [EQ.out, HLEN.out]; exact ⟨some ⟨g, 3, none⟩, c' - 1, rfl, hroom, (P9.out.boxset V9.out 0 _).boxset (V9.out.put 0 (.int .i64 size)) 1 _, bset (bset (btrans K0.out K9.out) (by simp <;> omega) _) (by simp <;> omega) _⟩)
            · have hcn : c' - 1 < n + 1 := by omega
              have hts := HOG.out
              obtain ⟨AA, hAA, hold⟩ : ∃ AA : Addr, (if c' = 1 then some (⟨g, 0, none⟩ : Addr) else some ⟨g, 3, none⟩) = some AA ∧ Hid (∀ t u, (tcs (M1.drop 1))[t]? = some u → ((wr.drew).alloc (.cells #[.int .i64 s, .int .i64 p, .int .u64 W] 47)).cell? (AA.add t) = some u) := by
                by_cases h1 : c' = 1
                · refine ⟨⟨g, 0, none⟩, by simp [h1], fun t u hu => ?_⟩
                  have hz : M1.drop 1 = [] := List.eq_nil_of_length_eq_zero (by rw [List.length_drop, hn]; omega)
                  rw [hz] at hu
                  simp [tcs] at hu
                · refine ⟨⟨g, 3, none⟩, by simp [h1], fun t u hu => ?_⟩
                  have hts2 : Ts ((wr.drew).alloc (.cells #[.int .i64 s, .int .i64 p, .int .u64 W] 47)) (some ⟨g, 0, none⟩) M1 := Ts.below (show Ts (wr.drew) (some ⟨g, 0, none⟩) M1 from hts) (bal (brefl _) _)
                  have h2 := ts_news hts2 (3 + t) u (by rw [tcs_drop, List.getElem?_drop] at hu; exact hu)
                  have a1 : (⟨g, 0, none⟩ : Addr).add (3 + t) = ⟨g, 3 + t, none⟩ := by unfold Addr.add; split <;> simp_all
                  have a2 : (⟨g, 3, none⟩ : Addr).add t = ⟨g, 3 + t, none⟩ := by unfold Addr.add; split <;> simp_all
                  rw [a1] at h2
                  rw [a2]; exact h2
              have hlo := hide (show (tcs (M1.drop 1)).length = n * 3 by rw [tcs_length, List.length_drop, hn]; rfl)
              have hold2 := hide (show ∀ b : Addr, some AA = some b → ∀ j u, (tcs (M1.drop 1))[j]? = some u → ((wr.drew).alloc (.cells #[.int .i64 s, .int .i64 p, .int .u64 W] 47)).cell? (b.add j) = some u from fun b hb => (Option.some.inj hb) ▸ hold.out)
              have hnn := hide (show some AA = none → n = 0 ∧ c' - 1 = 0 from fun h => by cases h)
              clear hts hrow hfull hB
              go_wp2
              go_region_law (refine step_append_grows rfl (.tmp 79) (.tmp 81) 22 rfl 47 i0 _ 3 24 Try.underlying22 hi0 hz0 hz1 hz2 rfl (by omega) (some AA) n (c' - 1) (tcs (M1.drop 1)) (by simp [Act.eval]) hnn.out hlo.out hold2.out ⟨wr.heap.size, 0, none⟩ 1 1 [.int .i64 s, .int .i64 p, .int .u64 W] (by simp [Act.eval]) rfl NW8.out S8.out hcn (by simp only [maxLen]; omega) (by omega) ?_; intro v4 w4 hown4 hg4; obtain ⟨A4, n4, rfl⟩ := row_form hown4; have HO4 := hide hown4; have V9 := hide (VX8.out.grown hg4 (Option.some_ne_none _)); have xx0 := (XX8.out.grown hg4 (Option.some_ne_none _)).cell 0; simp at xx0; have K9 := hide (K8.out.trans (show Below W0.heap.size _ w4 from ⟨hg4.os, hg4.tape, hg4.output, hg4.size, fun k hk => hg4.block k (Nat.lt_of_lt_of_le hk K8.out.size) (Option.some_ne_none _)⟩)); clear hown4 hg4; have o0 := V9.out.cell 0; have o1 := V9.out.cell 1; have of0 := V9.out.frozen 0; have of1 := V9.out.frozen 1; simp at o0 o1)
              all_goals
                go_wp2
                have OF := hide (show OwnR 0 (M1.drop 1 ++ [(s, p, W)]) A4 n4 w4 from OwnR.mono (by unfold OwnR; rw [tcs_append, hLEN]; exact HO4.out) (Nat.zero_le _))
                have OC := OF.out.cap
                rw [hLEN] at OC
                exact ret_tlb2 Try.results23 rfl rfl rfl ((V9.out.put 0 (.int .i64 size)).put 1 (.slice A4 (n + 1) n4)) (by rw [EQ.out, HLEN.out]; exact ⟨A4, n4, rfl, OC, (OF.out.o47.boxset V9.out 0 _).boxset (V9.out.put 0 (.int .i64 size)) 1 _, bset (bset (btrans K0.out K9.out) (by simp <;> omega) _) (by simp <;> omega) _⟩)
          · have hd : decide (size ≤ (M1.length : Int)) = false := decide_eq_false (by have := HZ.out.2; omega)
            have FS := hide (show shed size M1 = M1 by unfold shed; rw [if_neg hfull])
            have EQ := hide (show shed size (L.filter qf) ++ [(s, p, W)] = M1 ++ [(s, p, W)] by rw [← HM1.out, FS.out])
            have hLEN : (M1 ++ [(s, p, W)]).length = M1.length + 1 := by rw [List.length_append]; rfl
            have HLEN := hide hLEN
            have OWN8 := hide (World.ownsRow.alloc (show World.ownsRow (wr.drew) W2.heap.size 47 3 (.slice A' M1.length c') M1.length (tcs M1) from OW.out) (.cells #[.int .i64 s, .int .i64 p, .int .u64 W] 47))
            have NE8 := hide (OwnR.boxne (L := M1) (show OwnR W2.heap.size M1 A' c' _ from OWN8.out) VX8.out)
            have NX8 := hide (OwnR.boxne (L := M1) (show OwnR W2.heap.size M1 A' c' _ from OWN8.out) XX8.out)
            have K88 := hide (bal (below_drewN HB.out 1) (.cells #[.int .i64 s, .int .i64 p, .int .u64 W] 47))
            have hml16 : M1.length ≤ 16 := by omega
            clear hfull
            go_wp2
            go_region_law (refine step_append_own rfl (.tmp 79) (.tmp 81) 22 rfl W2.heap.size 47 i0 _ 3 24 Try.underlying22 hi0 hz0 hz1 hz2 rfl (by omega) (.slice A' M1.length c') M1.length (tcs M1) rfl (by exact OWN8.out) ⟨wr.heap.size, 0, none⟩ 1 1 [.int .i64 s, .int .i64 p, .int .u64 W] rfl rfl (by exact NW8.out) (by exact S8.out) (by simp only [maxLen]; omega) (by omega) (by exact K88.out.size) ?_; intro v4 w4 hown4 hg4; obtain ⟨A4, n4, rfl⟩ := row_form hown4; have HO4 := hide hown4; have V9 := hide (VX8.out.grown hg4 NE8.out); have xx0 := (XX8.out.grown hg4 NX8.out).cell 0; simp at xx0; have HBL := hide (show Below W2.heap.size W2 w4 from K88.out.trans (row_below OWN8.out hg4 (Nat.le_refl _) K88.out.size)); clear hown4 hg4; have o0 := V9.out.cell 0; have o1 := V9.out.cell 1; have of0 := V9.out.frozen 0; have of1 := V9.out.frozen 1; simp at o0 o1)
            all_goals
              go_wp2
              have OF := hide (show OwnR W2.heap.size (M1 ++ [(s, p, W)]) A4 n4 w4 by unfold OwnR; rw [tcs_append, hLEN]; exact HO4.out)
              have OC := OF.out.cap
              rw [hLEN] at OC
              exact ret_tlb2 Try.results23 rfl rfl rfl ((V9.out.put 0 (.int .i64 size)).put 1 (.slice A4 (M1.length + 1) n4)) (by rw [EQ.out, HLEN.out]; exact ⟨A4, n4, rfl, OC, (OF.out.o47.boxset V9.out 0 _).boxset (V9.out.put 0 (.int .i64 size)) 1 _, bset (bset (btrans K0.out (btrans K2.out HBL.out)) (by simp <;> omega) _) (by simp <;> omega) _⟩)
    · have hy : fp W p = p - p % 8 := by unfold fp; rw [hhg, if_pos rfl]
      have hx : newE s p W = (s, fp W p, W) := rfl
      rw [hx] at OV ⊢
      rw [hhg] at T1
      rw [hy] at OV ⊢
      generalize p - p % 8 = y at *
      obtain ⟨qf, hqf⟩ : ∃ qf : Te → Bool, qf = fun e => !ovl e (s, y, W) := ⟨_, rfl⟩
      rw [← hqf]
      have HQ := hide hqf
      clear hqf
      clear hy hx FL HNE HOK hhg hk hs hpg hsp hpl ht hW0 h hp hW e1 e2 hok hp0 hsz hls
      go_enter Try.func23, Try.ntmps23
      go_wp2_with fail
      rw [← HW.out]
      refine C.out.mono ?_
      rintro e w1 ⟨rfl, hb1⟩
      have K := hide hb1
      clear hb1
      go_wp2_with (first | (go_at_call 45; refine (S1.out _).mono ?_; rintro e w' ⟨rfl, rfl⟩) | (go_at_call 46; refine (S2.out _).mono ?_; rintro e w' ⟨rfl, rfl⟩))
      refine (T1.out _).mono ?_
      rintro e w2 ⟨rfl, hb2⟩
      replace K := hide (btrans K.out hb2)
      clear hb2
      go_wp2_with (go_at_call 48; refine (GR.out _).mono ?_; rintro e w' ⟨rfl, rfl⟩)
      obtain ⟨W2, hW2⟩ : ∃ W2, W2 = w2.alloc (.cells #[.int .i64 s, .int .i64 y, .int .u64 W] 47) := ⟨_, rfl⟩
      have ADD := hide (show Box W2 w2.heap.size 47 #[.int .i64 s, .int .i64 y, .int .u64 W] by rw [hW2]; exact Box.new _ _ _)
      have K2 := hide (show Below W0.heap.size W0 W2 by rw [hW2]; exact bal K.out _)
      rw [← hW2]
      clear hW2
      go_loopw [14, 15] (fun v i wr => ∃ (k : Nat) (A' : Option Addr) (c' : Nat), k ≤ L.length ∧ i = .int .i64 k ∧ v = .slice A' ((L.take k).filter qf).length c' ∧ Hid (OwnR W2.heap.size ((L.take k).filter qf) A' c' wr) ∧ Hid (Below W2.heap.size W2 wr)) (fun _ i _ => L.length - (intOf i).toNat)
      case atStart => exact ⟨0, none, 0, Nat.zero_le _, rfl, rfl, hide (own_nil _ _), hide (brefl _)⟩
      case round =>
        obtain ⟨k, A', c', hk, rfl, rfl, OW, HB⟩ := hrel
        have KA := hide (btrans K2.out HB.out)
        have x0 := (X0.out.below KA.out).cell 0
        have x1 := (X0.out.below KA.out).cell 1
        simp at x0 x1
        by_cases hlt : k < L.length
        · obtain ⟨b, off, rfl, hbl, hcs⟩ := T0.out.ts.cells KA.out hlt
          clear hcs
          have CE := hide (fun (W' : World) (hW : Below W2.heap.size W2 W') => show (W'.cell? ⟨w.heap.size, 1, none⟩ = some (.slice (some ⟨b, off, none⟩) L.length c) ∧ W'.cell? ⟨b, off + k * 3, none⟩ = some (.int .i64 (teAt L k).1) ∧ W'.cell? ⟨b, off + k * 3 + 1, none⟩ = some (.int .i64 (teAt L k).2.1) ∧ W'.cell? ⟨b, off + k * 3 + 2, none⟩ = some (.int .u64 (teAt L k).2.2)) ∧ W'.cell? ⟨w2.heap.size, 0, none⟩ = some (.int .i64 s) ∧ W'.cell? ⟨w2.heap.size, 1, none⟩ = some (.int .i64 y) ∧ W'.cell? ⟨w2.heap.size, 2, none⟩ = some (.int .u64 W) by
            obtain ⟨b', off', e, _, hc⟩ := T0.out.ts.cells (btrans K2.out hW) hlt
            injection e with e
            injection e with e1 e2
            subst e1 e2
            exact ⟨⟨(X0.out.below (btrans K2.out hW)).cell 1, hc k hlt⟩, (ADD.out.below hW).cell 0, (ADD.out.below hW).cell 1, (ADD.out.below hW).cell 2⟩)
          have hk0 : (0 : Int) ≤ (k : Int) := by omega
          have hkl : (k : Int) < (L.length : Int) := by omega
          have FN := hide (filter_next (q := qf) hlt)
          have hml : ((L.take k).filter qf).length ≤ 16 := Nat.le_trans (List.length_filter_le _ _) (by rw [List.length_take]; omega)
          generalize (L.take k).filter qf = M1 at *
          have CH := hide (OV.out k hlt)
          unfold tv at CH
          obtain ⟨⟨d, c0, c1, c2⟩, a0, a1, a2⟩ := CE.out _ HB.out
          cases hc : ovl (teAt L k) (s, y, W)
          · rw [hc] at CH
            have FN2 := hide (show (L.take (k + 1)).filter qf = M1 ++ [teAt L k] by rw [FN.out, HQ.out]; simp [hc])
            obtain ⟨⟨z0, z1, z2⟩, hz⟩ : ∃ z, z = teAt L k := ⟨_, rfl⟩
            rw [← hz] at FN2 c0 c1 c2 CE CH
            simp only at c0 c1 c2 CE CH
            clear hz hc FN x0 x1
            go_wp2
            have K3 := hide (brefl wr)
            go_region_held3 (fun W' => W'.cell? ⟨w.heap.size, 1, none⟩ = some (.slice (some ⟨b, off, none⟩) L.length c) ∧ W'.cell? ⟨b, off + k * 3, none⟩ = some (.int .i64 z0) ∧ W'.cell? ⟨b, off + k * 3 + 1, none⟩ = some (.int .i64 z1) ∧ W'.cell? ⟨b, off + k * 3 + 2, none⟩ = some (.int .u64 z2) ∧ W'.cell? ⟨w2.heap.size, 0, none⟩ = some (.int .i64 s) ∧ W'.cell? ⟨w2.heap.size, 1, none⟩ = some (.int .i64 y) ∧ W'.cell? ⟨w2.heap.size, 2, none⟩ = some (.int .u64 W))
              ((have kk := CE.out _ (btrans HB.out K3.out); exact ⟨kk.1.1, kk.1.2.1, kk.1.2.2.1, kk.1.2.2.2, kk.2.1, kk.2.2.1, kk.2.2.2⟩))
              (first | (go_at_call 33; (with_reducible refine (CH.out _).mono ?_); rintro e wk ⟨rfl, hbk⟩; replace K3 := hide (by first | exact btrans K3.out hbk | exact btrans (below_drewN K3.out _) hbk); clear hbk))
            all_goals
              have KB2 := hide (show Below W2.heap.size W2 _ from btrans HB.out (by first | exact K3.out | exact below_drewN K3.out _))
              have OWN2 := hide (OwnR.below OW.out (by first | exact K3.out | exact below_drewN K3.out _))
              obtain ⟨⟨d, c0, c1, c2⟩, a0, a1, a2⟩ := CE.out _ KB2.out
              have OWN8 := hide (World.ownsRow.alloc (show World.ownsRow wk W2.heap.size 47 3 (.slice A' M1.length c') M1.length (tcs M1) from OWN2.out) (.cells #[.int .i64 z0, .int .i64 z1, .int .u64 z2] 47))
              have K8 := hide (bal KB2.out (.cells #[.int .i64 z0, .int .i64 z1, .int .u64 z2] 47))
              have NW8 := hide (cell_three_new wk (.int .i64 z0) (.int .i64 z1) (.int .u64 z2) 47)
              have S8 := hide (show ∀ u ∈ [Value.int .i64 z0, .int .i64 z1, .int .u64 z2], u.oneCell' = true by intro u hu; simp at hu; rcases hu with rfl | rfl | rfl <;> rfl)
              clear K3
              go_wp2_with (at_builtin; refine wpList_append_own _ rfl (.tmp 62) (.tmp 68) 22 rfl W2.heap.size 47 i0 _ 3 24 Try.underlying22 hi0 hz0 hz1 hz2 rfl (by omega) (.slice A' M1.length c') M1.length (tcs M1) rfl OWN8.out ⟨wk.heap.size, 0, none⟩ 1 1 [.int .i64 z0, .int .i64 z1, .int .u64 z2] rfl rfl NW8.out S8.out (by simp only [maxLen]; omega) (by omega) K8.out.size ?_; intro v4 w4 hown4 hg4 _; obtain ⟨A4, n4, rfl⟩ := row_form hown4; have HO4 := hide hown4; have HBL := hide (show Below W2.heap.size W2 w4 from K8.out.trans (row_below OWN8.out hg4 (Nat.le_refl _) K8.out.size)); clear hown4 hg4)
              go_roundw
              case rel => exact ⟨k + 1, A4, n4, by omega, by go_num, by rw [FN2.out, List.length_append]; rfl, by rw [FN2.out]; exact hide (by unfold OwnR; rw [tcs_append, show (M1 ++ [(z0, z1, z2)]).length = M1.length + 1 by rw [List.length_append]; rfl]; exact HO4.out), HBL⟩
              case measure => simp [intOf]; omega
          · rw [hc] at CH
            have FN2 := hide (show (L.take (k + 1)).filter qf = M1 by rw [FN.out, HQ.out]; simp [hc])
            obtain ⟨⟨z0, z1, z2⟩, hz⟩ : ∃ z, z = teAt L k := ⟨_, rfl⟩
            rw [← hz] at c0 c1 c2 CE CH
            simp only at c0 c1 c2 CE CH
            clear hz hc FN x0 x1
            go_wp2
            have K3 := hide (brefl wr)
            go_region_held3 (fun W' => W'.cell? ⟨w.heap.size, 1, none⟩ = some (.slice (some ⟨b, off, none⟩) L.length c) ∧ W'.cell? ⟨b, off + k * 3, none⟩ = some (.int .i64 z0) ∧ W'.cell? ⟨b, off + k * 3 + 1, none⟩ = some (.int .i64 z1) ∧ W'.cell? ⟨b, off + k * 3 + 2, none⟩ = some (.int .u64 z2) ∧ W'.cell? ⟨w2.heap.size, 0, none⟩ = some (.int .i64 s) ∧ W'.cell? ⟨w2.heap.size, 1, none⟩ = some (.int .i64 y) ∧ W'.cell? ⟨w2.heap.size, 2, none⟩ = some (.int .u64 W))
              ((have kk := CE.out _ (btrans HB.out K3.out); exact ⟨kk.1.1, kk.1.2.1, kk.1.2.2.1, kk.1.2.2.2, kk.2.1, kk.2.2.1, kk.2.2.2⟩))
              (first | (go_at_call 33; (with_reducible refine (CH.out _).mono ?_); rintro e wk ⟨rfl, hbk⟩; replace K3 := hide (by first | exact btrans K3.out hbk | exact btrans (below_drewN K3.out _) hbk); clear hbk))
            all_goals
              have KB2 := hide (show Below W2.heap.size W2 _ from btrans HB.out (by first | exact K3.out | exact below_drewN K3.out _))
              have OWN2 := hide (OwnR.below OW.out (by first | exact K3.out | exact below_drewN K3.out _))
              clear d c0 c1 c2 a0 a1 a2 K3
              go_wp2
              go_roundw
              case rel => exact ⟨k + 1, A', c', by omega, by go_num, by rw [FN2.out], by rw [FN2.out]; exact OWN2, KB2⟩
              case measure => simp [intOf]; omega
        · have hkl : ¬ (k : Int) < (L.length : Int) := by omega
          have ek : L.take k = L := List.take_of_length_le (by omega)
          rw [ek] at OW ⊢
          have hml : (L.filter qf).length ≤ L.length := List.length_filter_le _ _
          obtain ⟨M1, hM1⟩ : ∃ M1, M1 = L.filter qf := ⟨_, rfl⟩
          rw [← hM1] at OW hml ⊢
          have HM1 := hide hM1
          clear ek hM1
          have a0 := (ADD.out.below HB.out).cell 0
          have a1 := (ADD.out.below HB.out).cell 1
          have a2 := (ADD.out.below HB.out).cell 2
          simp at a0 a1 a2
          have VX := hide (V0.out.below KA.out)
          have v0 := VX.out.cell 0
          have v1 := VX.out.cell 1
          have f0 := VX.out.frozen 0
          have f1 := VX.out.frozen 1
          simp at v0 v1
          have lt1 := Nat.lt_of_lt_of_le X0.out.lt KA.out.size
          have lt2 := Nat.lt_of_lt_of_le V0.out.lt KA.out.size
          have lt3 := Nat.lt_of_lt_of_le ADD.out.lt HB.out.size
          have NW8 := hide (cell_three_new (wr.drew) (.int .i64 s) (.int .i64 y) (.int .u64 W) 47)
          have S8 := hide (show ∀ u ∈ [Value.int .i64 s, .int .i64 y, .int .u64 W], u.oneCell' = true by intro u hu; simp at hu; rcases hu with rfl | rfl | rfl <;> rfl)
          have VX8 := hide (Box.more (show Box (wr.drew) (w.heap.size + 1) 24 #[.int .i64 0, .slice none 0 0] from VX.out) (.cells #[.int .i64 s, .int .i64 y, .int .u64 W] 47))
          have XX8 := hide (Box.more (show Box (wr.drew) w.heap.size 24 #[.int .i64 size, .slice A L.length c] from (X0.out.below KA.out : Box wr w.heap.size 24 _)) (.cells #[.int .i64 s, .int .i64 y, .int .u64 W] 47))
          have K8 := hide (bal (below_drewN KA.out 1) (.cells #[.int .i64 s, .int .i64 y, .int .u64 W] 47))
          by_cases hfull : (M1.length : Int) = size
          · have hd : decide (size ≤ (M1.length : Int)) = true := decide_eq_true (by omega)
            have FS := hide (show shed size M1 = M1.drop 1 by unfold shed; rw [if_pos hfull])
            have EQ := hide (show shed size (L.filter qf) ++ [(s, y, W)] = M1.drop 1 ++ [(s, y, W)] by rw [← HM1.out, FS.out])
            obtain ⟨n, hn⟩ : ∃ n, M1.length = n + 1 := ⟨M1.length - 1, by have := HZ.out.1; omega⟩
            obtain ⟨g, rfl, hB, hcc, hmm, hrow⟩ := OW.out.row (by rintro rfl; simp at hn)
            have hLEN : (M1.drop 1 ++ [(s, y, W)]).length = n + 1 := by rw [List.length_append, List.length_drop, hn]; rfl
            have HLEN := hide hLEN
            rw [hn] at hd hcc
            have hle : size ≤ (n : Int) + 1 := by rw [hn] at hfull; omega
            have R8 := hide (RowT.below (show RowT (wr.drew) g c' M1 from hrow) (bal (brefl _) (.cells #[.int .i64 s, .int .i64 y, .int .u64 W] 47)))
            have HOG := hide OW.out.mine.ts
            have hn' := hide hn
            have hc1 : 1 ≤ c' := by omega
            have hn1 : (1 : Int) ≤ (n : Int) + 1 := by omega
            have NG := hide (R8.out.ne VX8.out)
            have KG := hide (show W0.heap.size ≤ g from Nat.le_trans K2.out.size hB)
            unfold maxLen at hmm
            by_cases hroom : n + 1 ≤ c' - 1
            · have hne : ¬ c' = 1 := by omega
              have s3 : Hid (∀ t, t < [Value.int .i64 s, .int .i64 y, .int .u64 W].length → (((wr.drew).alloc (.cells #[.int .i64 s, .int .i64 y, .int .u64 W] 47)).cell? ⟨g, 3 + n * 3 + t, none⟩).isSome = true ∧ ((wr.drew).alloc (.cells #[.int .i64 s, .int .i64 y, .int .u64 W] 47)).frozen? ⟨g, 3 + n * 3 + t, none⟩ = false) := by
                intro t ht
                obtain ⟨cur, h1, h2, h3⟩ := R8.out
                refine ⟨?_, R8.out.frozen _⟩
                rw [cell_of_row _ g _ cur 47 (0, 0) h1]
                have ht3 : t < 3 := ht
                have : 3 + n * 3 + t < cur.size := by omega
                simp [this]
              have P8 := hide (RowT.push1 (s, y, W) R8.out hn (by omega))
              have G8 := hide (setCells_grown g [Value.int .i64 s, .int .i64 y, .int .u64 W] (3 + n * 3) ((wr.drew).alloc (.cells #[.int .i64 s, .int .i64 y, .int .u64 W] 47)))
              obtain ⟨w5, hw5⟩ : ∃ w5, w5 = ((wr.drew).alloc (.cells #[.int .i64 s, .int .i64 y, .int .u64 W] 47)).setCells g (3 + n * 3) [Value.int .i64 s, .int .i64 y, .int .u64 W] := ⟨_, rfl⟩
              have P9 := hide (show Own47 w5 (some ⟨g, 3, none⟩) (M1.drop 1 ++ [(s, y, W)]) by rw [hw5]; exact P8.out)
              rw [← hw5] at G8
              have V9 := hide (VX8.out.grown G8.out (fun e => NG.out (by injection e)))
              have K9 := hide (K8.out.trans (grown_below G8.out KG.out K8.out.size))
              have X9 := hide (XX8.out.grown G8.out (fun e => R8.out.ne XX8.out (by injection e)))
              have xx0 := X9.out.cell 0
              simp at xx0
              have HW5 := hide (show w5 = ((wr.alloc (.cells #[.int .i64 s, .int .i64 y, .int .u64 W] 47)).drew).setCells g (3 + n * 3) [Value.int .i64 s, .int .i64 y, .int .u64 W] from hw5)
              have o0 := V9.out.cell 0
              have o1 := V9.out.cell 1
              have of0 := V9.out.frozen 0
              have of1 := V9.out.frozen 1
              simp at o0 o1
              clear hw5 hrow hfull hB
              go_wp2
              go_region_law (refine step_append_room rfl (.tmp 79) (.tmp 81) 22 rfl 47 i0 3 Try.underlying22 hi0 hz1 g 3 n (c' - 1) (by simp [Act.eval]) ⟨wr.heap.size, 0, none⟩ 1 1 [.int .i64 s, .int .i64 y, .int .u64 W] (by simp [Act.eval]) rfl NW8.out S8.out (by omega) s3.out ?_; rw [← HW5.out])
              all_goals
                go_wp2
                exact ret_tlb2 Try.results23 rfl rfl rfl ((V9.out.put 0 (.int .i64 size)).put 1 (.slice (some ⟨g, 3, none⟩) (n + 1) (c' - 1))) (by rw [EQ.out, HLEN.out]; exact ⟨some ⟨g, 3, none⟩, c' - 1, rfl, hroom, (P9.out.boxset V9.out 0 _).boxset (V9.out.put 0 (.int .i64 size)) 1 _, bset (bset (btrans K0.out K9.out) (by simp <;> omega) _) (by simp <;> omega) _⟩)
            · have hcn : c' - 1 < n + 1 := by omega
              have hts := HOG.out
              obtain ⟨AA, hAA, hold⟩ : ∃ AA : Addr, (if c' = 1 then some (⟨g, 0, none⟩ : Addr) else some ⟨g, 3, none⟩) = some AA ∧ Hid (∀ t u, (tcs (M1.drop 1))[t]? = some u → ((wr.drew).alloc (.cells #[.int .i64 s, .int .i64 y, .int .u64 W] 47)).cell? (AA.add t) = some u) := by
                by_cases h1 : c' = 1
                · refine ⟨⟨g, 0, none⟩, by simp [h1], fun t u hu => ?_⟩
                  have hz : M1.drop 1 = [] := List.eq_nil_of_length_eq_zero (by rw [List.length_drop, hn]; omega)
                  rw [hz] at hu
                  simp [tcs] at hu
                · refine ⟨⟨g, 3, none⟩, by simp [h1], fun t u hu => ?_⟩
                  have hts2 : Ts ((wr.drew).alloc (.cells #[.int .i64 s, .int .i64 y, .int .u64 W] 47)) (some ⟨g, 0, none⟩) M1 := Ts.below (show Ts (wr.drew) (some ⟨g, 0, none⟩) M1 from hts) (bal (brefl _) _)
                  have h2 := ts_news hts2 (3 + t) u (by rw [tcs_drop, List.getElem?_drop] at hu; exact hu)
                  have a1 : (⟨g, 0, none⟩ : Addr).add (3 + t) = ⟨g, 3 + t, none⟩ := by unfold Addr.add; split <;> simp_all
                  have a2 : (⟨g, 3, none⟩ : Addr).add t = ⟨g, 3 + t, none⟩ := by unfold Addr.add; split <;> simp_all
                  rw [a1] at h2
                  rw [a2]; exact h2
              have hlo := hide (show (tcs (M1.drop 1)).length = n * 3 by rw [tcs_length, List.length_drop, hn]; rfl)
              have hold2 := hide (show ∀ b : Addr, some AA = some b → ∀ j u, (tcs (M1.drop 1))[j]? = some u → ((wr.drew).alloc (.cells #[.int .i64 s, .int .i64 y, .int .u64 W] 47)).cell? (b.add j) = some u from fun b hb => (Option.some.inj hb) ▸ hold.out)
              have hnn := hide (show some AA = none → n = 0 ∧ c' - 1 = 0 from fun h => by cases h)
              clear hts hrow hfull hB
              go_wp2
              go_region_law (refine step_append_grows rfl (.tmp 79) (.tmp 81) 22 rfl 47 i0 _ 3 24 Try.underlying22 hi0 hz0 hz1 hz2 rfl (by omega) (some AA) n (c' - 1) (tcs (M1.drop 1)) (by simp [Act.eval]) hnn.out hlo.out hold2.out ⟨wr.heap.size, 0, none⟩ 1 1 [.int .i64 s, .int .i64 y, .int .u64 W] (by simp [Act.eval]) rfl NW8.out S8.out hcn (by simp only [maxLen]; omega) (by omega) ?_; intro v4 w4 hown4 hg4; obtain ⟨A4, n4, rfl⟩ := row_form hown4; have HO4 := hide hown4; have V9 := hide (VX8.out.grown hg4 (Option.some_ne_none _)); have xx0 := (XX8.out.grown hg4 (Option.some_ne_none _)).cell 0; simp at xx0; have K9 := hide (K8.out.trans (show Below W0.heap.size _ w4 from ⟨hg4.os, hg4.tape, hg4.output, hg4.size, fun k hk => hg4.block k (Nat.lt_of_lt_of_le hk K8.out.size) (Option.some_ne_none _)⟩)); clear hown4 hg4; have o0 := V9.out.cell 0; have o1 := V9.out.cell 1; have of0 := V9.out.frozen 0; have of1 := V9.out.frozen 1; simp at o0 o1)
              all_goals
                go_wp2
                have OF := hide (show OwnR 0 (M1.drop 1 ++ [(s, y, W)]) A4 n4 w4 from OwnR.mono (by unfold OwnR; rw [tcs_append, hLEN]; exact HO4.out) (Nat.zero_le _))
                have OC := OF.out.cap
                rw [hLEN] at OC
                exact ret_tlb2 Try.results23 rfl rfl rfl ((V9.out.put 0 (.int .i64 size)).put 1 (.slice A4 (n + 1) n4)) (by rw [EQ.out, HLEN.out]; exact ⟨A4, n4, rfl, OC, (OF.out.o47.boxset V9.out 0 _).boxset (V9.out.put 0 (.int .i64 size)) 1 _, bset (bset (btrans K0.out K9.out) (by simp <;> omega) _) (by simp <;> omega) _⟩)
          · have hd : decide (size ≤ (M1.length : Int)) = false := decide_eq_false (by have := HZ.out.2; omega)
            have FS := hide (show shed size M1 = M1 by unfold shed; rw [if_neg hfull])
            have EQ := hide (show shed size (L.filter qf) ++ [(s, y, W)] = M1 ++ [(s, y, W)] by rw [← HM1.out, FS.out])
            have hLEN : (M1 ++ [(s, y, W)]).length = M1.length + 1 := by rw [List.length_append]; rfl
            have HLEN := hide hLEN
            have OWN8 := hide (World.ownsRow.alloc (show World.ownsRow (wr.drew) W2.heap.size 47 3 (.slice A' M1.length c') M1.length (tcs M1) from OW.out) (.cells #[.int .i64 s, .int .i64 y, .int .u64 W] 47))
            have NE8 := hide (OwnR.boxne (L := M1) (show OwnR W2.heap.size M1 A' c' _ from OWN8.out) VX8.out)
            have NX8 := hide (OwnR.boxne (L := M1) (show OwnR W2.heap.size M1 A' c' _ from OWN8.out) XX8.out)
            have K88 := hide (bal (below_drewN HB.out 1) (.cells #[.int .i64 s, .int .i64 y, .int .u64 W] 47))
            have hml16 : M1.length ≤ 16 := by omega
            clear hfull
            go_wp2
            go_region_law (refine step_append_own rfl (.tmp 79) (.tmp 81) 22 rfl W2.heap.size 47 i0 _ 3 24 Try.underlying22 hi0 hz0 hz1 hz2 rfl (by omega) (.slice A' M1.length c') M1.length (tcs M1) rfl (by exact OWN8.out) ⟨wr.heap.size, 0, none⟩ 1 1 [.int .i64 s, .int .i64 y, .int .u64 W] rfl rfl (by exact NW8.out) (by exact S8.out) (by simp only [maxLen]; omega) (by omega) (by exact K88.out.size) ?_; intro v4 w4 hown4 hg4; obtain ⟨A4, n4, rfl⟩ := row_form hown4; have HO4 := hide hown4; have V9 := hide (VX8.out.grown hg4 NE8.out); have xx0 := (XX8.out.grown hg4 NX8.out).cell 0; simp at xx0; have HBL := hide (show Below W2.heap.size W2 w4 from K88.out.trans (row_below OWN8.out hg4 (Nat.le_refl _) K88.out.size)); clear hown4 hg4; have o0 := V9.out.cell 0; have o1 := V9.out.cell 1; have of0 := V9.out.frozen 0; have of1 := V9.out.frozen 1; simp at o0 o1)
            all_goals
              go_wp2
              have OF := hide (show OwnR W2.heap.size (M1 ++ [(s, y, W)]) A4 n4 w4 by unfold OwnR; rw [tcs_append, hLEN]; exact HO4.out)
              have OC := OF.out.cap
              rw [hLEN] at OC
              exact ret_tlb2 Try.results23 rfl rfl rfl ((V9.out.put 0 (.int .i64 size)).put 1 (.slice A4 (M1.length + 1) n4)) (by rw [EQ.out, HLEN.out]; exact ⟨A4, n4, rfl, OC, (OF.out.o47.boxset V9.out 0 _).boxset (V9.out.put 0 (.int .i64 size)) 1 _, bset (bset (btrans K0.out (btrans K2.out HBL.out)) (by simp <;> omega) _) (by simp <;> omega) _⟩)
  · have hd : (chkT size L != 0) = true := by simpa using hk
    have HE : fillE size L s p W = chkT size L := by rw [fillE_place (by rw [placeE_bad hk]; exact hk), placeE_bad hk]
    rw [HE, resS_er hk, resM_er hk]
    generalize chkT size L = er at *
    clear hk hW0 h HE hp hW T1
    go_enter Try.func23, Try.ntmps23
    go_wp2_with fail
    rw [← HW.out]
    refine C.out.mono ?_
    rintro e w1 ⟨rfl, hb1⟩
    have K := hide hb1
    have V2 := hide (V0.out.below K.out)
    have v0 := V2.out.cell 0
    have v1 := V2.out.cell 1
    have f0 := V2.out.frozen 0
    have f1 := V2.out.frozen 1
    simp at v0 v1
    clear hb1
    go_wp2
    exact ret_tlb2 Try.results23 rfl rfl rfl ((V2.out.put 0 (.int .i64 0)).put 1 (.slice none 0 0)) (TlbQ.bad rfl (bset (bset (btrans K0.out K.out) (by simp <;> omega) _) (by simp <;> omega) _))
end Go.Proofs.Ythoeolaleeogbaa.Tb
