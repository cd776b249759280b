import Derived.Test.YtkcopcmoaloecaaT14b
namespace Go.Proofs.Ytkcopcmoaloecaa.Fp
open Go Go.RowKit
set_option linter.unusedVariables false
set_option linter.unusedSimpArgs false
set_option maxRecDepth 100000 in
set_option maxHeartbeats 16000000 in
theorem after_any (wr rg : Bool) (pr : Int) (sh fi be bu : Bool) (en : Int) (wb tr ow on ca ba di fu : Bool) (mi : Int) (w : World) : Calls Try.prog 15 #[.agg #[.bool wr, .bool rg, .int .i64 pr, .bool sh, .bool fi, .bool be, .bool bu, .int .i64 en, .bool wb, .bool tr, .bool ow, .bool on, .bool ca, .bool ba, .bool di, .bool fu, .int .i64 mi]] w fun e w' => e = .returned (.tuple #[fV (afE ⟨wr, rg, pr, sh, fi, be, bu, en, wb, tr, ow, on, ca, ba, di, fu, mi⟩), .bool (dnE ⟨wr, rg, pr, sh, fi, be, bu, en, wb, tr, ow, on, ca, ba, di, fu, mi⟩), .int .i64 (chk ⟨wr, rg, pr, sh, fi, be, bu, en, wb, tr, ow, on, ca, ba, di, fu, mi⟩)]) ∧ Below w.heap.size w w' := by
  have CP := fun w => plan_any wr rg pr sh fi be bu en wb tr ow on ca ba di fu mi w
  unfold PlR at CP
  have CR := fun ac er wa ke us w => carry_any wr rg pr sh fi be bu en wb tr ow on ca ba di fu mi ac er wa ke us w
  obtain ⟨ch, hch⟩ : ∃ n, n = chk ⟨wr, rg, pr, sh, fi, be, bu, en, wb, tr, ow, on, ca, ba, di, fu, mi⟩ := ⟨_, rfl⟩
  obtain ⟨q, hq⟩ : ∃ n, n = plE ⟨wr, rg, pr, sh, fi, be, bu, en, wb, tr, ow, on, ca, ba, di, fu, mi⟩ := ⟨_, rfl⟩
  obtain ⟨D, hD⟩ : ∃ n, n = afE ⟨wr, rg, pr, sh, fi, be, bu, en, wb, tr, ow, on, ca, ba, di, fu, mi⟩ := ⟨_, rfl⟩
  obtain ⟨bb, hbb⟩ : ∃ n, n = dnE ⟨wr, rg, pr, sh, fi, be, bu, en, wb, tr, ow, on, ca, ba, di, fu, mi⟩ := ⟨_, rfl⟩
  rw [← hq, ← hch] at CP
  have H0 := hide (show ch ≠ 0 → q = p0 ∧ D = c0 ∧ bb = false from fun h => by
    rw [hch] at h
    refine ⟨by rw [hq]; unfold plE; rw [if_neg h], by rw [hD]; unfold afE; rw [if_neg h], by rw [hbb]; unfold dnE; rw [decide_eq_false h]; rfl⟩)
  have H1 := hide (show ch = 0 → D = cr ⟨wr, rg, pr, sh, fi, be, bu, en, wb, tr, ow, on, ca, ba, di, fu, mi⟩ q ∧ bb = decide (D = ⟨wr, rg, pr, sh, fi, be, bu, en, wb, tr, ow, on, ca, ba, di, fu, mi⟩) from fun h => by
    rw [hch] at h
    have e1 : plE ⟨wr, rg, pr, sh, fi, be, bu, en, wb, tr, ow, on, ca, ba, di, fu, mi⟩ = pl ⟨wr, rg, pr, sh, fi, be, bu, en, wb, tr, ow, on, ca, ba, di, fu, mi⟩ := by unfold plE; rw [if_pos h]
    have e2 : afE ⟨wr, rg, pr, sh, fi, be, bu, en, wb, tr, ow, on, ca, ba, di, fu, mi⟩ = nx ⟨wr, rg, pr, sh, fi, be, bu, en, wb, tr, ow, on, ca, ba, di, fu, mi⟩ := by unfold afE; rw [if_pos h]
    refine ⟨by rw [hD, hq, e1, e2]; rfl, ?_⟩
    rw [hbb, hD, e2, nx_iff h]
    unfold dnE
    rw [decide_eq_true h]
    rfl)
  rw [← hD, ← hbb, ← hch]
  clear hq hch hD hbb
  replace CP := hide CP
  have s0 := hide (S2.new w ⟨wr, rg, pr, sh, fi, be, bu, en, wb, tr, ow, on, ca, ba, di, fu, mi⟩)
  go_enter Try.func15, Try.ntmps15
  go_upto_region 1 with fail
  obtain ⟨W0, hW0⟩ : ∃ W0, W0 = (w.alloc (.cells (fC ⟨wr, rg, pr, sh, fi, be, bu, en, wb, tr, ow, on, ca, ba, di, fu, mi⟩) 23)).alloc (.cells (fC c0) 23) := ⟨_, rfl⟩
  obtain ⟨g2, hg2⟩ : ∃ g2, g2 = w.heap.size := ⟨_, rfl⟩
  rw [← hW0, ← hg2] at s0
  unfold fC c0 at hW0
  dsimp only at hW0
  rw [← hW0, ← hg2]
  clear hW0 hg2
  go_wp2_with (refine wpList_load_row rfl 23 _ rfl g2 rfl 23 _ (0, 0) _ s0.out.X Try.underlying23 rfl (by kernel_rfl) ?_)
  refine (CP.out _).mono ?_
  rintro e w1 ⟨rfl, hb⟩
  have s1 := hide (s0.out.below hb)
  clear hb s0 CP
  obtain ⟨ac, er, wa, ke, us⟩ := q
  unfold pV
  dsimp only
  go_upto_region 2 with fail
  have M := bal (brefl w1) (.cells (pC ⟨ac, er, wa, ke, us⟩) 28)
  have s2 := hide (s1.out.below M)
  have Y := hide (show PB (w1.alloc (.cells (pC ⟨ac, er, wa, ke, us⟩) 28)) w1.heap.size ⟨ac, er, wa, ke, us⟩ from Box.new w1 28 _)
  have L3 := hide (show g2 + 1 < w1.heap.size from s1.out.Z.lt)
  obtain ⟨g3, hg3⟩ : ∃ g3, g3 = w1.heap.size := ⟨_, rfl⟩
  obtain ⟨w2, hw2⟩ : ∃ w2, w2 = w1.alloc (.cells (pC ⟨ac, er, wa, ke, us⟩) 28) := ⟨_, rfl⟩
  rw [← hw2] at s2 Y
  rw [← hg3] at Y
  unfold pC at hw2
  dsimp only at hw2
  rw [← hw2, ← hg3]
  clear hw2 hg3 M s1 L3
  by_cases hc : ch = 0
  rotate_left 1
  · obtain ⟨-, rfl, rfl⟩ := H0.out hc
    clear H0 H1 CR
    have hb : (ch != 0) = true := bne_iff_ne.2 hc
    go_wp2_with (refine wpList_store_row rfl 23 _ _ rfl (g2 + 1) (fC c0) rfl rfl 23 _ s2.out.Z (by kernel_rfl) rfl (by kernel_rfl) ?_)
    exact ret_cbi (c := c0) rfl rfl rfl rfl rfl (s2.out.ret c0).Z ⟨rfl, (s2.out.ret c0).K⟩
  obtain ⟨e1, e2⟩ := H1.out hc
  subst hc
  replace CR := fun w => CR ac er wa ke us w
  rw [← e1] at CR
  have E2 := hide e2
  replace CR := hide CR
  clear H0 H1 e1 e2
  obtain ⟨z0, z1, z2, z3, z4⟩ := Y.out.cells
  go_wp2_with (refine wpList_load_row rfl 23 _ rfl g2 rfl 23 _ (0, 0) _ s2.out.X Try.underlying23 rfl (by kernel_rfl) ?_)
  refine (CR.out _).mono ?_
  rintro e w3 ⟨rfl, hb⟩
  have s3 := hide (s2.out.below hb)
  clear hb s2 CR z0 z1 z2 z3 z4 Y
  go_upto_region 5 with (first | (refine wpList_load_row rfl 23 _ rfl g2 rfl 23 _ (0, 0) _ s3.out.X Try.underlying23 rfl (by kernel_rfl) ?_) | (refine wpList_store_row rfl 23 _ _ rfl w3.heap.size (fC D) rfl rfl 23 _ (Box.new w3 23 _) (by kernel_rfl) rfl (by kernel_rfl) ?_))
  have L3 := hide (show g2 + 1 < w3.heap.size from s3.out.Z.lt)
  have T7 := hide (show CB ((w3.alloc (.cells (fC c0) 23)).setRow w3.heap.size (fC D)) w3.heap.size D from box_row (Box.new w3 23 _))
  have s4 := hide (show S2 w ((w3.alloc (.cells (fC c0) 23)).setRow w3.heap.size (fC D)) g2 (g2 + 1) ⟨wr, rg, pr, sh, fi, be, bu, en, wb, tr, ow, on, ca, ba, di, fu, mi⟩ c0 from s3.out.below (row_below2 (bal (brefl w3) _) (Nat.le_refl _)))
  obtain ⟨g4, hg4⟩ : ∃ g4, g4 = w3.heap.size := ⟨_, rfl⟩
  rw [← hg4] at L3
  obtain ⟨w4, hw4⟩ : ∃ w4, w4 = (w3.alloc (.cells (fC c0) 23)).setRow w3.heap.size (fC D) := ⟨_, rfl⟩
  rw [← hw4] at T7 s4
  rw [← hg4] at T7
  unfold fC c0 at hw4
  dsimp only at hw4
  unfold fC
  dsimp only
  rw [← hw4, ← hg4]
  clear hw4 hg4 s3
  replace T7 := hide (T7.out.below (show Below w4.heap.size w4 w4.drew from below_drewN (brefl _) 1))
  replace s4 := hide (s4.out.below (show Below w4.heap.size w4 w4.drew from below_drewN (brefl _) 1))
  refine wp_region_noPanic ?_
  refine wp_region_held_drew (S := (fun W => CB W g4 D ∧ CB W g2 ⟨wr, rg, pr, sh, fi, be, bu, en, wb, tr, ow, on, ca, ba, di, fu, mi⟩)) (by kernel_rfl) ?_ (fun hHeld => ?_)
  · exact ⟨T7.out, s4.out.X⟩
  refine wpAnyH_take (i := 0) (oi := ⟨some 20, _, _, _, _, _⟩) (v := .agg (fC D)) rfl (by kernel_rfl) (by kernel_rfl) (by kernel_rfl) (fun _ _ _ h => h) (Or.inl ⟨by kernel_rfl, fun w hSw => ex_load _ rfl rfl hSw.1⟩) (by assumption) ?_
  (try simp only [Act.put, List.setIfInBounds_toArray, List.set_cons_succ, List.set_cons_zero])
  refine wpAnyH_take (i := 1) (oi := ⟨some 21, _, _, _, _, _⟩) (v := .agg (fC D)) rfl (by kernel_rfl) (by kernel_rfl) (by kernel_rfl) (fun _ _ _ h => h) (Or.inl ⟨by kernel_rfl, fun w hSw => ex_load _ rfl rfl hSw.1⟩) (by assumption) ?_
  (try simp only [Act.put, List.setIfInBounds_toArray, List.set_cons_succ, List.set_cons_zero])
  refine wpAnyH_take (i := 2) (oi := ⟨some 22, _, _, _, _, _⟩) (v := .agg (fC ⟨wr, rg, pr, sh, fi, be, bu, en, wb, tr, ow, on, ca, ba, di, fu, mi⟩)) rfl (by kernel_rfl) (by kernel_rfl) (by kernel_rfl) (fun _ _ _ h => h) (Or.inl ⟨by kernel_rfl, fun w hSw => ex_load _ rfl rfl hSw.2⟩) (by assumption) ?_
  (try simp only [Act.put, List.setIfInBounds_toArray, List.set_cons_succ, List.set_cons_zero])
  refine wpAnyH_take (i := 3) (oi := ⟨some 23, _, _, _, _, _⟩) (v := .bool (decide (D = ⟨wr, rg, pr, sh, fi, be, bu, en, wb, tr, ow, on, ca, ba, di, fu, mi⟩))) rfl (by kernel_rfl) (by kernel_rfl) (by kernel_rfl) (fun _ _ _ h => h) (Or.inl ⟨by kernel_rfl, fun w hSw => ex_eql D ⟨wr, rg, pr, sh, fi, be, bu, en, wb, tr, ow, on, ca, ba, di, fu, mi⟩ _ _ rfl rfl rfl w⟩) (by assumption) ?_
  (try simp only [Act.put, List.setIfInBounds_toArray, List.set_cons_succ, List.set_cons_zero])
  have s5 := hide (s4.out.ret D)
  have T8 := hide (show CB (w4.drew.setRow (g2 + 1) (fC D)) g4 D from box_row_far T7.out (by have := L3.out; omega))
  refine wpAnyH_ready (rs := [4]) (by kernel_rfl) (by simp) ?_
  refine AllReadyH.cons (o := ⟨none, _, _, _, _, _⟩) rfl (fun K' hK => ?_) AllReadyH.nil
  refine wp_store_row 23 _ _ rfl (g2 + 1) (fC D) rfl rfl 23 _ s4.out.Z (by kernel_rfl) rfl (by kernel_rfl) ?_
  refine hK.out _ _ ?_ (fun hHeld => ?_)
  · exact ⟨T8.out, s5.out.X⟩
  clear hK K'
  (try simp only [Act.put, List.setIfInBounds_toArray, List.set_cons_succ, List.set_cons_zero])
  refine wpAnyH_take (i := 5) (oi := ⟨some 3, _, _, _, _, _⟩) (v := ?_) rfl (by kernel_rfl) (by kernel_rfl) (by kernel_rfl) (fun _ _ _ h => h) (Or.inl ⟨by kernel_rfl, ?_⟩) (by assumption) ?_
  rotate_left 1
  · (intro w hSw; (try dsimp only at hSw); go_simp) <;> (with_reducible rfl)
  (try simp only [Act.put, List.setIfInBounds_toArray, List.set_cons_succ, List.set_cons_zero])
  refine wpAnyH_take (i := 6) (oi := ⟨some 4, _, _, _, _, _⟩) (v := ?_) rfl (by kernel_rfl) (by kernel_rfl) (by kernel_rfl) (fun _ _ _ h => h) (Or.inl ⟨by kernel_rfl, ?_⟩) (by assumption) ?_
  rotate_left 1
  · (intro w hSw; (try dsimp only at hSw); go_simp) <;> (with_reducible rfl)
  (try simp only [Act.put, List.setIfInBounds_toArray, List.set_cons_succ, List.set_cons_zero])
  refine wpAnyH_done (by kernel_rfl) ?_ _
  refine NoPanic.normal ?_
  rw [← E2.out]
  go_wp2
  exact ret_cbi (c := D) rfl rfl rfl rfl rfl s5.out.Z ⟨rfl, s5.out.K⟩
end Go.Proofs.Ytkcopcmoaloecaa.Fp
