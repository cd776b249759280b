import Derived.Test.YthoeolaleeogbaaRLk
namespace Go.Proofs.Ythoeolaleeogbaa.Tb
open Go Go.RowKit Go.Proofs.Ythoeolaleeogbaa.Pt
set_option linter.unusedVariables false

set_option maxHeartbeats 8000000 in
set_option maxRecDepth 100000 in
theorem rinv_any (size : Int) (A : Option Addr) (L : List Te) (c : Nat) (s p : Int) (w : World) (h : TlbIn w A L c) (hp : inP p) :
    Calls Try.prog 25 #[.agg #[.int .i64 size, .slice A L.length c], .int .i64 s, .int .i64 p] w (TlbQ (resS size (placeE size L s p)) (resM (invL L s p) (placeE size L s p)) (placeE size L s p) w) := by
  obtain ⟨W0, hW0⟩ : ∃ W0, W0 = (w.alloc (.cells #[.int .i64 size, .slice A L.length c] 24)).alloc (.cells #[.int .i64 0, .slice none 0 0] 24) := ⟨_, rfl⟩
  have K0 := hide (show Below w.heap.size w W0 by rw [hW0]; exact bal (bal (brefl w) _) _)
  have X0 := hide (show Box W0 w.heap.size 24 #[.int .i64 size, .slice A L.length c] by rw [hW0]; exact (Box.new w _ _).more _)
  have V0 := hide (show Box W0 (w.heap.size + 1) 24 #[.int .i64 0, .slice none 0 0] by rw [hW0]; exact Box.new2 _ _ _ _)
  have T0 := hide (h.below K0.out)
  have C := hide (rcheck_any size A L c W0 T0.out)
  have HW := hide hW0
  have HI := hide h.inw
  have S1 := hide (fun w => rspace_any s w)
  have S2 := hide (fun w => rpage_any p w)
  unfold TlbQ
  by_cases hk : chkT size L = 0
  · rw [hk] at C
    have HNN := hide (ok_nonneg hk)
    have hn : L.length ≤ 16 := by obtain ⟨a, b, _⟩ := chkT_ok.1 hk; omega
    cases hs : spB s
    · have HE : placeE size L s p = 2 := placeE_sp hk (by rw [okSP_eq, hs]; rfl)
      rw [hs] at S1
      rw [HE]
      have e1 : resS size 2 = 0 := rfl
      have e2 : resM (invL L s p) 2 = [] := rfl
      rw [e1, e2]
      clear HE e1 e2 hk hW0 h
      go_enter Try.func25, Try.ntmps25
      go_wp2_with fail
      rw [← HW.out]
      refine C.out.mono ?_
      rintro e w1 ⟨rfl, hb1⟩
      have K := hide hb1
      have V2 := hide (V0.out.below K.out)
      have v0 := V2.out.cell 0
      have v1 := V2.out.cell 1
      have f0 := V2.out.frozen 0
      have f1 := V2.out.frozen 1
      simp at v0 v1
      clear hb1
      go_wp2_with ((go_at_call 45; refine (S1.out _).mono ?_; rintro e w' ⟨rfl, rfl⟩))
      exact ret_tlb2 Try.results25 rfl rfl rfl ((V2.out.put 0 (.int .i64 0)).put 1 (.slice none 0 0)) ⟨none, 0, rfl, Nat.le_refl _, fun h => absurd rfl h, bset (bset (btrans K0.out K.out) (by simp <;> omega) _) (by simp <;> omega) _⟩
    rw [hs] at S1
    cases hpg : pgB p
    · have HE : placeE size L s p = 2 := placeE_sp hk (by rw [okSP_eq, hs, hpg]; rfl)
      rw [hpg] at S2
      rw [HE]
      have e1 : resS size 2 = 0 := rfl
      have e2 : resM (invL L s p) 2 = [] := rfl
      rw [e1, e2]
      clear HE e1 e2 hk hW0 h
      go_enter Try.func25, Try.ntmps25
      go_wp2_with fail
      rw [← HW.out]
      refine C.out.mono ?_
      rintro e w1 ⟨rfl, hb1⟩
      have K := hide hb1
      have V2 := hide (V0.out.below K.out)
      have v0 := V2.out.cell 0
      have v1 := V2.out.cell 1
      have f0 := V2.out.frozen 0
      have f1 := V2.out.frozen 1
      simp at v0 v1
      clear hb1
      go_wp2_with (first | (go_at_call 45; refine (S1.out _).mono ?_; rintro e w' ⟨rfl, rfl⟩) | (go_at_call 46; refine (S2.out _).mono ?_; rintro e w2 ⟨rfl, rfl⟩))
      exact ret_tlb2 Try.results25 rfl rfl rfl ((V2.out.put 0 (.int .i64 0)).put 1 (.slice none 0 0)) ⟨none, 0, rfl, Nat.le_refl _, fun h => absurd rfl h, bset (bset (btrans K0.out K.out) (by simp <;> omega) _) (by simp <;> omega) _⟩
    rw [hpg] at S2
    have HE : placeE size L s p = 0 := placeE_ok hk (by rw [okSP_eq, hs, hpg]; rfl)
    have e1 : resS size 0 = size := rfl
    have e2 : resM (invL L s p) 0 = invL L s p := rfl
    rw [HE, e1, e2]
    obtain ⟨i0, hi0, hz0, hz1, hz2⟩ := info_parts info47
    clear HE e1 e2 hk hW0 h hs hpg
    go_enter Try.func25, Try.ntmps25
    go_wp2_with fail
    rw [← HW.out]
    refine C.out.mono ?_
    rintro e w1 ⟨rfl, hb1⟩
    have x0 := (X0.out.below hb1).cell 0
    have x1 := (X0.out.below hb1).cell 1
    simp at x0 x1
    have K1 := hide hb1
    have hlx := Nat.lt_of_lt_of_le X0.out.lt hb1.size
    clear hb1
    go_wp2_with (first | (go_at_call 45; refine (S1.out _).mono ?_; rintro e w' ⟨rfl, rfl⟩) | (go_at_call 46; refine (S2.out _).mono ?_; rintro e w2 ⟨rfl, rfl⟩))
    obtain ⟨W2, hW2⟩ : ∃ W2, W2 = w1.alloc (.cells #[.int .i64 size, .slice none 0 0] 24) := ⟨_, rfl⟩
    have OUT2 := hide (show Box W2 w1.heap.size 24 #[.int .i64 size, .slice none 0 0] by rw [hW2]; exact Box.new _ _ _)
    have KW2 := hide (show Below w1.heap.size w1 W2 by rw [hW2]; exact bal (brefl _) _)
    rw [← hW2]
    clear hW2 x0 x1 hlx
    go_loopw [10] (fun i wr => ∃ (k : Nat) (A' : Option Addr) (c' : Nat), k ≤ L.length ∧ i = .int .i64 k ∧ Hid (Box wr w1.heap.size 24 #[.int .i64 size, .slice A' ((L.take k).filter (fun e => !cov e s p)).length c']) ∧ Hid (OwnR w1.heap.size ((L.take k).filter (fun e => !cov e s p)) A' c' wr) ∧ Hid (Below w1.heap.size w1 wr)) (fun i _ => L.length - (intOf i).toNat)
    case atStart => exact ⟨0, none, 0, Nat.zero_le _, rfl, OUT2, hide (own_nil _ _), KW2⟩
    case round =>
      obtain ⟨k, A', c', hk, rfl, BX, OW, HB⟩ := hrel
      have KA := hide (btrans K1.out HB.out)
      have x1 := (X0.out.below KA.out).cell 1
      simp at x1
      by_cases hlt : k < L.length
      · obtain ⟨b, off, rfl, hbl, hcs⟩ := T0.out.ts.cells KA.out hlt
        obtain ⟨c0, c1, c2⟩ := hcs k hlt
        have CE := hide (fun (W : World) (hW : Below W0.heap.size W0 W) => show W.cell? ⟨w.heap.size, 1, none⟩ = some (.slice (some ⟨b, off, none⟩) L.length c) ∧ W.cell? ⟨b, off + k * 3, none⟩ = some (.int .i64 (teAt L k).1) ∧ W.cell? ⟨b, off + k * 3 + 1, none⟩ = some (.int .i64 (teAt L k).2.1) ∧ W.cell? ⟨b, off + k * 3 + 2, none⟩ = some (.int .u64 (teAt L k).2.2) by
          obtain ⟨b', off', e, _, hc⟩ := T0.out.ts.cells hW hlt
          injection e with e
          injection e with e1 e2
          subst e1 e2
          exact ⟨(X0.out.below hW).cell 1, hc k hlt⟩)
        have hk0 : (0 : Int) ≤ (k : Int) := by omega
        have hkl : (k : Int) < (L.length : Int) := by omega
        have FN := hide (filter_next (q := (fun e => !cov e s p)) hlt)
        have hml : ((L.take k).filter (fun e => !cov e s p)).length ≤ 16 := Nat.le_trans (List.length_filter_le _ _) (by rw [List.length_take]; omega)
        generalize (L.take k).filter (fun e => !cov e s p) = M1 at *
        have CH := hide (fun w => hits_any (teAt L k) s p w (HNN.out _ (teAt_mem hlt)) hp (HI.out _ (teAt_mem hlt)))
        unfold tv at CH
        cases hc : cov (teAt L k) s p
        · rw [hc] at CH
          have FN2 := hide (show (L.take (k + 1)).filter (fun e => !cov e s p) = M1 ++ [teAt L k] by rw [FN.out, hc]; rfl)
          clear hcs hc FN
          go_wp2_with fail
          refine (CH.out _).mono ?_
          rintro e w3 ⟨rfl, hb3⟩
          have OWN2 := hide (OwnR.below OW.out hb3)
          have OUTK := hide (BX.out.below hb3)
          have KB2 := hide (btrans HB.out hb3)
          have KA2 := hide (btrans KA.out hb3)
          obtain ⟨x1, c0, c1, c2⟩ := CE.out _ KA2.out
          have p0 := OUTK.out.cell 0
          have p1 := OUTK.out.cell 1
          have pf1 := OUTK.out.frozen 1
          simp at p0 p1
          obtain ⟨⟨z0, z1, z2⟩, hz⟩ : ∃ z, z = teAt L k := ⟨_, rfl⟩
          rw [← hz] at FN2 c0 c1 c2
          simp only at c0 c1 c2
          clear hb3 hz CH
          go_wp2
          have lt1 := OUTK.out.lt
          have lt2 := Nat.lt_of_lt_of_le X0.out.lt (Nat.le_trans K1.out.size KB2.out.size)
          have lt3 := Nat.lt_of_lt_of_le hbl (Nat.le_trans K1.out.size KB2.out.size)
          have OWN8 := hide (show ((w3.drew).alloc (.cells #[.int .i64 z0, .int .i64 z1, .int .u64 z2] 47)).ownsRow w1.heap.size 47 3 (.slice A' M1.length c') M1.length (tcs M1) from World.ownsRow.alloc (show World.ownsRow (w3.drew) _ _ _ _ _ _ from OWN2.out) _)
          have OUT8 := hide (Box.more (show Box (w3.drew) w1.heap.size 24 #[.int .i64 size, .slice A' M1.length c'] from OUTK.out) (.cells #[.int .i64 z0, .int .i64 z1, .int .u64 z2] 47))
          have NE8 := hide (OwnR.boxne (L := M1) (show OwnR w1.heap.size M1 A' c' _ from OWN8.out) OUT8.out)
          have K8 := hide (bal (below_drewN KB2.out 1) (.cells #[.int .i64 z0, .int .i64 z1, .int .u64 z2] 47))
          have NW8 := hide (cell_three_new (w3.drew) (.int .i64 z0) (.int .i64 z1) (.int .u64 z2) 47)
          have S8 := hide (show ∀ u ∈ [Value.int .i64 z0, .int .i64 z1, .int .u64 z2], u.oneCell' = true by intro u hu; simp at hu; rcases hu with rfl | rfl | rfl <;> rfl)
          go_region_law (refine step_append_own rfl (.tmp 46) (.tmp 52) 22 rfl w1.heap.size 47 i0 _ 3 24 Try.underlying22 hi0 hz0 hz1 hz2 rfl (by omega) (.slice A' M1.length c') M1.length (tcs M1) rfl (by exact OWN8.out) ⟨w3.heap.size, 0, none⟩ 1 1 [.int .i64 z0, .int .i64 z1, .int .u64 z2] rfl rfl (by exact NW8.out) (by exact S8.out) (by simp only [maxLen]; omega) (by omega) (by exact K8.out.size) ?_; intro v4 w4 hown4 hg4; obtain ⟨A4, n4, rfl⟩ := row_form hown4; have HO4 := hide hown4; have OUT4 := hide (Box.grown OUT8.out hg4 NE8.out); have HBL := hide (show Below w1.heap.size w1 w4 from K8.out.trans (row_below OWN8.out hg4 (Nat.le_refl _) K8.out.size)); clear hown4 hg4; have o0 := OUT4.out.cell 0; have o1 := OUT4.out.cell 1; have of1 := OUT4.out.frozen 1; simp at o0 o1)
          all_goals
            go_wp2
            go_roundw
            case rel => exact ⟨k + 1, A4, n4, by omega, by go_num, by rw [FN2.out, show (M1 ++ [(z0, z1, z2)]).length = M1.length + 1 by rw [List.length_append]; rfl]; exact hide (OUT4.out.put 1 (.slice A4 (M1.length + 1) n4)), by rw [FN2.out]; exact hide (OwnR.boxset (by unfold OwnR; rw [tcs_append, show (M1 ++ [(z0, z1, z2)]).length = M1.length + 1 by rw [List.length_append]; rfl]; exact HO4.out) OUT4.out 1 _), hide (bset HBL.out (Nat.le_refl _) _)⟩
            case measure => simp [intOf]; omega
        · rw [hc] at CH
          have FN2 := hide (show (L.take (k + 1)).filter (fun e => !cov e s p) = M1 by rw [FN.out, hc]; simp)
          clear hcs hc FN
          go_wp2_with fail
          refine (CH.out _).mono ?_
          rintro e w3 ⟨rfl, hb3⟩
          have OWN2 := hide (OwnR.below OW.out hb3)
          have OUTK := hide (BX.out.below hb3)
          have KB2 := hide (btrans HB.out hb3)
          clear hb3 CH x1 c0 c1 c2
          go_wp2
          go_roundw
          case rel => exact ⟨k + 1, A', c', by omega, by go_num, by rw [FN2.out]; exact OUTK, by rw [FN2.out]; exact OWN2, KB2⟩
          case measure => simp [intOf]; omega
      · have hkl : ¬ (k : Int) < (L.length : Int) := by omega
        have ek : L.take k = L := List.take_of_length_le (by omega)
        rw [ek] at BX OW
        have e3 : L.filter (fun e => !cov e s p) = invL L s p := rfl
        rw [e3] at BX OW
        obtain ⟨MF, hMF⟩ : ∃ MF, MF = invL L s p := ⟨_, rfl⟩
        rw [← hMF] at BX OW
        have HMF := hide hMF
        clear hMF
        have y0 := BX.out.cell 0
        have y1 := BX.out.cell 1
        simp at y0 y1
        have VX := hide (Box.below (w' := wr) (V0.out.below K1.out) (HB.out))
        have v0 := VX.out.cell 0
        have v1 := VX.out.cell 1
        have f0 := VX.out.frozen 0
        have f1 := VX.out.frozen 1
        simp at v0 v1
        clear ek e3
        go_wp2
        have OF := hide ((OW.out.o47.boxset VX.out 0 (.int .i64 size)).boxset (VX.out.put 0 (.int .i64 size)) 1 (.slice A' MF.length c'))
        exact ret_tlb2 Try.results25 rfl rfl rfl ((VX.out.put 0 (.int .i64 size)).put 1 (.slice A' MF.length c')) (by rw [← HMF.out]; exact ⟨A', c', rfl, OW.out.cap, OF.out, bset (bset (btrans K0.out KA.out) (by simp <;> omega) _) (by simp <;> omega) _⟩)
  · have hd : (chkT size L != 0) = true := by simpa using hk
    have HE : placeE size L s p = chkT size L := placeE_bad hk
    rw [HE, resS_er hk, resM_er hk]
    generalize chkT size L = er at *
    clear hk hW0 h HE
    go_enter Try.func25, Try.ntmps25
    go_wp2_with fail
    rw [← HW.out]
    refine C.out.mono ?_
    rintro e w1 ⟨rfl, hb1⟩
    have K := hide hb1
    have V2 := hide (V0.out.below K.out)
    have v0 := V2.out.cell 0
    have v1 := V2.out.cell 1
    have f0 := V2.out.frozen 0
    have f1 := V2.out.frozen 1
    simp at v0 v1
    clear hb1
    go_wp2
    exact ret_tlb2 Try.results25 rfl rfl rfl ((V2.out.put 0 (.int .i64 0)).put 1 (.slice none 0 0)) ⟨none, 0, rfl, Nat.le_refl _, fun h => absurd rfl h, bset (bset (btrans K0.out K.out) (by simp <;> omega) _) (by simp <;> omega) _⟩

set_option maxHeartbeats 8000000 in
set_option maxRecDepth 100000 in
theorem rflush_any (size : Int) (A : Option Addr) (L : List Te) (c : Nat) (s : Int) (w : World) (h : TlbIn w A L c) :
    Calls Try.prog 27 #[.agg #[.int .i64 size, .slice A L.length c], .int .i64 s] w (TlbQ (resS size (flE size L s)) (resM (flL L s) (flE size L s)) (flE size L s) w) := by
  obtain ⟨W0, hW0⟩ : ∃ W0, W0 = (w.alloc (.cells #[.int .i64 size, .slice A L.length c] 24)).alloc (.cells #[.int .i64 0, .slice none 0 0] 24) := ⟨_, rfl⟩
  have K0 := hide (show Below w.heap.size w W0 by rw [hW0]; exact bal (bal (brefl w) _) _)
  have X0 := hide (show Box W0 w.heap.size 24 #[.int .i64 size, .slice A L.length c] by rw [hW0]; exact (Box.new w _ _).more _)
  have V0 := hide (show Box W0 (w.heap.size + 1) 24 #[.int .i64 0, .slice none 0 0] by rw [hW0]; exact Box.new2 _ _ _ _)
  have T0 := hide (h.below K0.out)
  have C := hide (rcheck_any size A L c W0 T0.out)
  have HW := hide hW0
  have HI := hide h.inw
  have S1 := hide (fun w => rspace_any s w)

  unfold TlbQ
  by_cases hk : chkT size L = 0
  · rw [hk] at C
    have HNN := hide (ok_nonneg hk)
    have hn : L.length ≤ 16 := by obtain ⟨a, b, _⟩ := chkT_ok.1 hk; omega
    have fe : flE size L s = if spB s = false then 2 else 0 := by unfold flE; rw [if_neg (by simpa using hk)]; rfl
    cases hs : spB s
    · have HE : flE size L s = 2 := by rw [fe, hs]; rfl
      rw [hs] at S1
      rw [HE]
      have e1 : resS size 2 = 0 := rfl
      have e2 : resM (flL L s) 2 = [] := rfl
      rw [e1, e2]
      clear HE e1 e2 hk hW0 h
      go_enter Try.func27, Try.ntmps27
      go_wp2_with fail
      rw [← HW.out]
      refine C.out.mono ?_
      rintro e w1 ⟨rfl, hb1⟩
      have K := hide hb1
      have V2 := hide (V0.out.below K.out)
      have v0 := V2.out.cell 0
      have v1 := V2.out.cell 1
      have f0 := V2.out.frozen 0
      have f1 := V2.out.frozen 1
      simp at v0 v1
      clear hb1
      go_wp2_with ((go_at_call 45; refine (S1.out _).mono ?_; rintro e w' ⟨rfl, rfl⟩))
      exact ret_tlb2 Try.results27 rfl rfl rfl ((V2.out.put 0 (.int .i64 0)).put 1 (.slice none 0 0)) ⟨none, 0, rfl, Nat.le_refl _, fun h => absurd rfl h, bset (bset (btrans K0.out K.out) (by simp <;> omega) _) (by simp <;> omega) _⟩
    rw [hs] at S1
    have HE : flE size L s = 0 := by rw [fe, hs]; rfl
    have e1 : resS size 0 = size := rfl
    have e2 : resM (flL L s) 0 = flL L s := rfl
    rw [HE, e1, e2]
    obtain ⟨i0, hi0, hz0, hz1, hz2⟩ := info_parts info47
    clear HE e1 e2 hk hW0 h hs fe
    go_enter Try.func27, Try.ntmps27
    go_wp2_with fail
    rw [← HW.out]
    refine C.out.mono ?_
    rintro e w1 ⟨rfl, hb1⟩
    have x0 := (X0.out.below hb1).cell 0
    have x1 := (X0.out.below hb1).cell 1
    simp at x0 x1
    have K1 := hide hb1
    have hlx := Nat.lt_of_lt_of_le X0.out.lt hb1.size
    clear hb1
    go_wp2_with (first | (go_at_call 45; refine (S1.out _).mono ?_; rintro e w' ⟨rfl, rfl⟩))
    obtain ⟨W2, hW2⟩ : ∃ W2, W2 = w1.alloc (.cells #[.int .i64 size, .slice none 0 0] 24) := ⟨_, rfl⟩
    have OUT2 := hide (show Box W2 w1.heap.size 24 #[.int .i64 size, .slice none 0 0] by rw [hW2]; exact Box.new _ _ _)
    have KW2 := hide (show Below w1.heap.size w1 W2 by rw [hW2]; exact bal (brefl _) _)
    rw [← hW2]
    clear hW2 x0 x1 hlx
    go_loopw [8] (fun i wr => ∃ (k : Nat) (A' : Option Addr) (c' : Nat), k ≤ L.length ∧ i = .int .i64 k ∧ Hid (Box wr w1.heap.size 24 #[.int .i64 size, .slice A' ((L.take k).filter (fun e => !(e.1 == s))).length c']) ∧ Hid (OwnR w1.heap.size ((L.take k).filter (fun e => !(e.1 == s))) A' c' wr) ∧ Hid (Below w1.heap.size w1 wr)) (fun i _ => L.length - (intOf i).toNat)
    case atStart => exact ⟨0, none, 0, Nat.zero_le _, rfl, OUT2, hide (own_nil _ _), KW2⟩
    case round =>
      obtain ⟨k, A', c', hk, rfl, BX, OW, HB⟩ := hrel
      have KA := hide (btrans K1.out HB.out)
      have x1 := (X0.out.below KA.out).cell 1
      simp at x1
      by_cases hlt : k < L.length
      · obtain ⟨b, off, rfl, hbl, hcs⟩ := T0.out.ts.cells KA.out hlt
        obtain ⟨c0, c1, c2⟩ := hcs k hlt
        have CE := hide (fun (W : World) (hW : Below W0.heap.size W0 W) => show W.cell? ⟨w.heap.size, 1, none⟩ = some (.slice (some ⟨b, off, none⟩) L.length c) ∧ W.cell? ⟨b, off + k * 3, none⟩ = some (.int .i64 (teAt L k).1) ∧ W.cell? ⟨b, off + k * 3 + 1, none⟩ = some (.int .i64 (teAt L k).2.1) ∧ W.cell? ⟨b, off + k * 3 + 2, none⟩ = some (.int .u64 (teAt L k).2.2) by
          obtain ⟨b', off', e, _, hc⟩ := T0.out.ts.cells hW hlt
          injection e with e
          injection e with e1 e2
          subst e1 e2
          exact ⟨(X0.out.below hW).cell 1, hc k hlt⟩)
        have hk0 : (0 : Int) ≤ (k : Int) := by omega
        have hkl : (k : Int) < (L.length : Int) := by omega
        have FN := hide (filter_next (q := (fun e => !(e.1 == s))) hlt)
        have hml : ((L.take k).filter (fun e => !(e.1 == s))).length ≤ 16 := Nat.le_trans (List.length_filter_le _ _) (by rw [List.length_take]; omega)
        generalize (L.take k).filter (fun e => !(e.1 == s)) = M1 at *
        by_cases hc : (teAt L k).1 = s
        · have hd : ((teAt L k).1 != s) = false := by simpa using hc
          have FN2 := hide (show (L.take (k + 1)).filter (fun e => !(e.1 == s)) = M1 by rw [FN.out]; simp [hc])
          generalize (teAt L k).1 = z0 at *
          clear hcs hc FN CE
          go_wp2
          go_roundw
          case rel => exact ⟨k + 1, A', c', by omega, by go_num, by rw [FN2.out]; exact BX, by rw [FN2.out]; exact OW, HB⟩
          case measure => simp [intOf]; omega
        · have hd : ((teAt L k).1 != s) = true := by simpa using hc
          have FN2 := hide (show (L.take (k + 1)).filter (fun e => !(e.1 == s)) = M1 ++ [teAt L k] by rw [FN.out]; simp [hc])
          have OWN2 := OW
          have OUTK := BX
          have KB2 := HB
          have p0 := OUTK.out.cell 0
          have p1 := OUTK.out.cell 1
          have pf1 := OUTK.out.frozen 1
          simp at p0 p1
          obtain ⟨⟨z0, z1, z2⟩, hz⟩ : ∃ z, z = teAt L k := ⟨_, rfl⟩
          rw [← hz] at FN2 c0 c1 c2 hd
          simp only at c0 c1 c2 hd
          clear hz hcs hc FN CE
          go_wp2
          have lt1 := OUTK.out.lt
          have lt2 := Nat.lt_of_lt_of_le X0.out.lt (Nat.le_trans K1.out.size KB2.out.size)
          have lt3 := Nat.lt_of_lt_of_le hbl (Nat.le_trans K1.out.size KB2.out.size)
          have OWN8 := hide (show ((wr.drew).alloc (.cells #[.int .i64 z0, .int .i64 z1, .int .u64 z2] 47)).ownsRow w1.heap.size 47 3 (.slice A' M1.length c') M1.length (tcs M1) from World.ownsRow.alloc (show World.ownsRow (wr.drew) _ _ _ _ _ _ from OWN2.out) _)
          have OUT8 := hide (Box.more (show Box (wr.drew) w1.heap.size 24 #[.int .i64 size, .slice A' M1.length c'] from OUTK.out) (.cells #[.int .i64 z0, .int .i64 z1, .int .u64 z2] 47))
          have NE8 := hide (OwnR.boxne (L := M1) (show OwnR w1.heap.size M1 A' c' _ from OWN8.out) OUT8.out)
          have K8 := hide (bal (below_drewN KB2.out 1) (.cells #[.int .i64 z0, .int .i64 z1, .int .u64 z2] 47))
          have NW8 := hide (cell_three_new (wr.drew) (.int .i64 z0) (.int .i64 z1) (.int .u64 z2) 47)
          have S8 := hide (show ∀ u ∈ [Value.int .i64 z0, .int .i64 z1, .int .u64 z2], u.oneCell' = true by intro u hu; simp at hu; rcases hu with rfl | rfl | rfl <;> rfl)
          go_region_law (refine step_append_own rfl (.tmp 38) (.tmp 44) 22 rfl w1.heap.size 47 i0 _ 3 24 Try.underlying22 hi0 hz0 hz1 hz2 rfl (by omega) (.slice A' M1.length c') M1.length (tcs M1) rfl (by exact OWN8.out) ⟨wr.heap.size, 0, none⟩ 1 1 [.int .i64 z0, .int .i64 z1, .int .u64 z2] rfl rfl (by exact NW8.out) (by exact S8.out) (by simp only [maxLen]; omega) (by omega) (by exact K8.out.size) ?_; intro v4 w4 hown4 hg4; obtain ⟨A4, n4, rfl⟩ := row_form hown4; have HO4 := hide hown4; have OUT4 := hide (Box.grown OUT8.out hg4 NE8.out); have HBL := hide (show Below w1.heap.size w1 w4 from K8.out.trans (row_below OWN8.out hg4 (Nat.le_refl _) K8.out.size)); clear hown4 hg4; have o0 := OUT4.out.cell 0; have o1 := OUT4.out.cell 1; have of1 := OUT4.out.frozen 1; simp at o0 o1)
          all_goals
            go_wp2
            go_roundw
            case rel => exact ⟨k + 1, A4, n4, by omega, by go_num, by rw [FN2.out, show (M1 ++ [(z0, z1, z2)]).length = M1.length + 1 by rw [List.length_append]; rfl]; exact hide (OUT4.out.put 1 (.slice A4 (M1.length + 1) n4)), by rw [FN2.out]; exact hide (OwnR.boxset (by unfold OwnR; rw [tcs_append, show (M1 ++ [(z0, z1, z2)]).length = M1.length + 1 by rw [List.length_append]; rfl]; exact HO4.out) OUT4.out 1 _), hide (bset HBL.out (Nat.le_refl _) _)⟩
            case measure => simp [intOf]; omega
      · have hkl : ¬ (k : Int) < (L.length : Int) := by omega
        have ek : L.take k = L := List.take_of_length_le (by omega)
        rw [ek] at BX OW
        have e3 : L.filter (fun e => !(e.1 == s)) = flL L s := rfl
        rw [e3] at BX OW
        obtain ⟨MF, hMF⟩ : ∃ MF, MF = flL L s := ⟨_, rfl⟩
        rw [← hMF] at BX OW
        have HMF := hide hMF
        clear hMF
        have y0 := BX.out.cell 0
        have y1 := BX.out.cell 1
        simp at y0 y1
        have VX := hide (Box.below (w' := wr) (V0.out.below K1.out) (HB.out))
        have v0 := VX.out.cell 0
        have v1 := VX.out.cell 1
        have f0 := VX.out.frozen 0
        have f1 := VX.out.frozen 1
        simp at v0 v1
        clear ek e3
        go_wp2
        have OF := hide ((OW.out.o47.boxset VX.out 0 (.int .i64 size)).boxset (VX.out.put 0 (.int .i64 size)) 1 (.slice A' MF.length c'))
        exact ret_tlb2 Try.results27 rfl rfl rfl ((VX.out.put 0 (.int .i64 size)).put 1 (.slice A' MF.length c')) (by rw [← HMF.out]; exact ⟨A', c', rfl, OW.out.cap, OF.out, bset (bset (btrans K0.out KA.out) (by simp <;> omega) _) (by simp <;> omega) _⟩)
  · have hd : (chkT size L != 0) = true := by simpa using hk
    have HE : flE size L s = chkT size L := by unfold flE; rw [if_pos hk]
    rw [HE, resS_er hk, resM_er hk]
    generalize chkT size L = er at *
    clear hk hW0 h HE
    go_enter Try.func27, Try.ntmps27
    go_wp2_with fail
    rw [← HW.out]
    refine C.out.mono ?_
    rintro e w1 ⟨rfl, hb1⟩
    have K := hide hb1
    have V2 := hide (V0.out.below K.out)
    have v0 := V2.out.cell 0
    have v1 := V2.out.cell 1
    have f0 := V2.out.frozen 0
    have f1 := V2.out.frozen 1
    simp at v0 v1
    clear hb1
    go_wp2
    exact ret_tlb2 Try.results27 rfl rfl rfl ((V2.out.put 0 (.int .i64 0)).put 1 (.slice none 0 0)) ⟨none, 0, rfl, Nat.le_refl _, fun h => absurd rfl h, bset (bset (btrans K0.out K.out) (by simp <;> omega) _) (by simp <;> omega) _⟩

end Go.Proofs.Ythoeolaleeogbaa.Tb
