import Derived.Test.YtkcopcmoaloecaaT7
namespace Go.Proofs.Ytkcopcmoaloecaa.Fp
open Go Go.RowKit
set_option linter.unusedVariables false
set_option linter.unusedSimpArgs false
theorem bal3 (w : World) (a b c : Obj) : Below w.heap.size w (((w.alloc a).alloc b).alloc c) := bal (bal2 w a b) c
theorem S2.new3 (w : World) (c : Fc) (p : P5) : S2 w (((w.alloc (.cells (fC c) 23)).alloc (.cells (pC p) 28)).alloc (.cells (fC c0) 23)) w.heap.size (w.heap.size + 2) c c0 :=
  ⟨bal3 w _ _ _, Nat.le_refl _, by omega, by omega, Box.more (Box.more (Box.new w 23 _) _) _, Box.new3 w _ _ 23 _⟩
theorem new3_p (w : World) (c : Fc) (p : P5) : PB (((w.alloc (.cells (fC c) 23)).alloc (.cells (pC p) 28)).alloc (.cells (fC c0) 23)) (w.heap.size + 1) p := Box.more (Box.new2 w _ 28 _) _
theorem S2.below {w W W' : World} {g h : Nat} {c d : Fc} (s : S2 w W g h c d) (hb : Below W.heap.size W W') : S2 w W' g h c d :=
  ⟨btrans s.K hb, s.lg, s.lh, s.ne, s.X.below hb, s.Z.below hb⟩
set_option maxRecDepth 100000 in
set_option maxHeartbeats 16000000 in
theorem carry_any (wr rg : Bool) (pr : Int) (sh fi be bu : Bool) (en : Int) (wb tr ow on ca ba di fu : Bool) (mi : Int) (ac er wa ke us : Int) (w : World) : Calls Try.prog 29 #[.agg #[.bool wr, .bool rg, .int .i64 pr, .bool sh, .bool fi, .bool be, .bool bu, .int .i64 en, .bool wb, .bool tr, .bool ow, .bool on, .bool ca, .bool ba, .bool di, .bool fu, .int .i64 mi], .agg #[.int .i64 ac, .int .i64 er, .int .i64 wa, .int .i64 ke, .int .i64 us]] w fun e w' => e = .returned (fV (cr ⟨wr, rg, pr, sh, fi, be, bu, en, wb, tr, ow, on, ca, ba, di, fu, mi⟩ ⟨ac, er, wa, ke, us⟩)) ∧ Below w.heap.size w w' := by
  by_cases a2 : ac = 2
  · subst a2
    have e1 : cr ⟨wr, rg, pr, sh, fi, be, bu, en, wb, tr, ow, on, ca, ba, di, fu, mi⟩ ⟨2, er, wa, ke, us⟩ = aw ⟨wr, rg, pr, sh, fi, be, bu, en, wb, tr, ow, on, ca, ba, di, fu, mi⟩ wa := rfl
    rw [e1]
    clear e1
    have AW := fun w => awaited_any wr rg pr sh fi be bu en wb tr ow on ca ba di fu mi wa w
    obtain ⟨d, hd⟩ : ∃ d, d = aw ⟨wr, rg, pr, sh, fi, be, bu, en, wb, tr, ow, on, ca, ba, di, fu, mi⟩ wa := ⟨_, rfl⟩
    rw [← hd] at AW
    rw [← hd]
    clear hd
    replace AW := hide AW
    have s0 := hide (S2.new3 w ⟨wr, rg, pr, sh, fi, be, bu, en, wb, tr, ow, on, ca, ba, di, fu, mi⟩ ⟨2, er, wa, ke, us⟩)
    have Y := hide (new3_p w ⟨wr, rg, pr, sh, fi, be, bu, en, wb, tr, ow, on, ca, ba, di, fu, mi⟩ ⟨2, er, wa, ke, us⟩)
    go_enter Try.func29, Try.ntmps29
    go_upto_region 1 with fail
    obtain ⟨W0, hW0⟩ : ∃ W0, W0 = ((w.alloc (.cells (fC ⟨wr, rg, pr, sh, fi, be, bu, en, wb, tr, ow, on, ca, ba, di, fu, mi⟩) 23)).alloc (.cells (pC ⟨2, er, wa, ke, us⟩) 28)).alloc (.cells (fC c0) 23) := ⟨_, rfl⟩
    obtain ⟨g2, hg2⟩ : ∃ g2, g2 = w.heap.size := ⟨_, rfl⟩
    rw [← hW0, ← hg2] at s0 Y
    unfold fC c0 pC at hW0
    dsimp only at hW0
    rw [← hW0, ← hg2]
    clear hW0 hg2
    obtain ⟨x0, x1, x2, x3, x4, x5, x6, x7, x8, x9, x10, x11, x12, x13, x14, x15, x16⟩ := s0.out.X.cells
    obtain ⟨y0, y1, y2, y3, y4, y5, y6, y7, y8, y9, y10, y11, y12, y13, y14, y15, y16⟩ := s0.out.X.free
    obtain ⟨z0, z1, z2, z3, z4⟩ := Y.out.cells
    go_wp2_with (refine wpList_load_row rfl 23 _ rfl g2 rfl 23 _ (0, 0) _ s0.out.X Try.underlying23 rfl (by kernel_rfl) ?_)
    refine (AW.out _).mono ?_
    rintro e w1 ⟨rfl, hb⟩
    have s1 := hide (s0.out.below hb)
    clear hb x0 x1 x2 x3 x4 x5 x6 x7 x8 x9 x10 x11 x12 x13 x14 x15 x16 y0 y1 y2 y3 y4 y5 y6 y7 y8 y9 y10 y11 y12 y13 y14 y15 y16 z0 z1 z2 z3 z4
    have s2 := hide (s1.out.ret d)
    go_wp2_with (first | (refine wpList_load_row rfl 23 _ rfl g2 rfl 23 _ (0, 0) _ s1.out.X Try.underlying23 rfl (by kernel_rfl) ?_) | (refine wpList_store_row rfl 23 _ _ rfl (g2 + 2) (fC d) rfl rfl 23 _ s1.out.Z (by kernel_rfl) rfl (by kernel_rfl) ?_))
    exact ret_c1 rfl rfl rfl s2.out.Z ⟨rfl, s2.out.K⟩
  by_cases a8 : ac = 8
  · subst a8
    have s0 := hide (S2.new3 w ⟨wr, rg, pr, sh, fi, be, bu, en, wb, tr, ow, on, ca, ba, di, fu, mi⟩ ⟨8, er, wa, ke, us⟩)
    have Y := hide (new3_p w ⟨wr, rg, pr, sh, fi, be, bu, en, wb, tr, ow, on, ca, ba, di, fu, mi⟩ ⟨8, er, wa, ke, us⟩)
    go_enter Try.func29, Try.ntmps29
    go_upto_region 1 with fail
    obtain ⟨W0, hW0⟩ : ∃ W0, W0 = ((w.alloc (.cells (fC ⟨wr, rg, pr, sh, fi, be, bu, en, wb, tr, ow, on, ca, ba, di, fu, mi⟩) 23)).alloc (.cells (pC ⟨8, er, wa, ke, us⟩) 28)).alloc (.cells (fC c0) 23) := ⟨_, rfl⟩
    obtain ⟨g2, hg2⟩ : ∃ g2, g2 = w.heap.size := ⟨_, rfl⟩
    rw [← hW0, ← hg2] at s0 Y
    unfold fC c0 pC at hW0
    dsimp only at hW0
    rw [← hW0, ← hg2]
    clear hW0 hg2
    obtain ⟨x0, x1, x2, x3, x4, x5, x6, x7, x8, x9, x10, x11, x12, x13, x14, x15, x16⟩ := s0.out.X.cells
    obtain ⟨y0, y1, y2, y3, y4, y5, y6, y7, y8, y9, y10, y11, y12, y13, y14, y15, y16⟩ := s0.out.X.free
    obtain ⟨z0, z1, z2, z3, z4⟩ := Y.out.cells
    have s1 := hide (s0.out.put 8 (.bool true) ⟨wr, rg, pr, sh, fi, be, bu, en, true, tr, ow, on, ca, ba, di, fu, mi⟩ rfl)
    go_wp2_with (first | (refine wpList_load_row rfl 23 _ rfl g2 rfl 23 _ (0, 0) _ s1.out.X Try.underlying23 rfl (by kernel_rfl) ?_) | (refine wpList_store_row rfl 23 _ _ rfl (g2 + 2) (fC ⟨wr, rg, pr, sh, fi, be, bu, en, true, tr, ow, on, ca, ba, di, fu, mi⟩) rfl rfl 23 _ s1.out.Z (by kernel_rfl) rfl (by kernel_rfl) ?_))
    exact ret_c1 rfl rfl rfl (s1.out.ret _).Z ⟨rfl, (s1.out.ret _).K⟩
  by_cases a7 : ac = 7
  · subst a7
    have s0 := hide (S2.new3 w ⟨wr, rg, pr, sh, fi, be, bu, en, wb, tr, ow, on, ca, ba, di, fu, mi⟩ ⟨7, er, wa, ke, us⟩)
    have Y := hide (new3_p w ⟨wr, rg, pr, sh, fi, be, bu, en, wb, tr, ow, on, ca, ba, di, fu, mi⟩ ⟨7, er, wa, ke, us⟩)
    go_enter Try.func29, Try.ntmps29
    go_upto_region 1 with fail
    obtain ⟨W0, hW0⟩ : ∃ W0, W0 = ((w.alloc (.cells (fC ⟨wr, rg, pr, sh, fi, be, bu, en, wb, tr, ow, on, ca, ba, di, fu, mi⟩) 23)).alloc (.cells (pC ⟨7, er, wa, ke, us⟩) 28)).alloc (.cells (fC c0) 23) := ⟨_, rfl⟩
    obtain ⟨g2, hg2⟩ : ∃ g2, g2 = w.heap.size := ⟨_, rfl⟩
    rw [← hW0, ← hg2] at s0 Y
    unfold fC c0 pC at hW0
    dsimp only at hW0
    rw [← hW0, ← hg2]
    clear hW0 hg2
    obtain ⟨x0, x1, x2, x3, x4, x5, x6, x7, x8, x9, x10, x11, x12, x13, x14, x15, x16⟩ := s0.out.X.cells
    obtain ⟨y0, y1, y2, y3, y4, y5, y6, y7, y8, y9, y10, y11, y12, y13, y14, y15, y16⟩ := s0.out.X.free
    obtain ⟨z0, z1, z2, z3, z4⟩ := Y.out.cells
    have s1 := hide (s0.out.put 14 (.bool true) ⟨wr, rg, pr, sh, fi, be, bu, en, wb, tr, ow, on, ca, ba, true, fu, mi⟩ rfl)
    have s2 := hide (s1.out.put 8 (.bool true) ⟨wr, rg, pr, sh, fi, be, bu, en, true, tr, ow, on, ca, ba, true, fu, mi⟩ rfl)
    go_wp2_with (first | (refine wpList_load_row rfl 23 _ rfl g2 rfl 23 _ (0, 0) _ s2.out.X Try.underlying23 rfl (by kernel_rfl) ?_) | (refine wpList_store_row rfl 23 _ _ rfl (g2 + 2) (fC ⟨wr, rg, pr, sh, fi, be, bu, en, true, tr, ow, on, ca, ba, true, fu, mi⟩) rfl rfl 23 _ s2.out.Z (by kernel_rfl) rfl (by kernel_rfl) ?_))
    exact ret_c1 rfl rfl rfl (s2.out.ret _).Z ⟨rfl, (s2.out.ret _).K⟩
  by_cases a9 : ac = 9
  · subst a9
    have s0 := hide (S2.new3 w ⟨wr, rg, pr, sh, fi, be, bu, en, wb, tr, ow, on, ca, ba, di, fu, mi⟩ ⟨9, er, wa, ke, us⟩)
    have Y := hide (new3_p w ⟨wr, rg, pr, sh, fi, be, bu, en, wb, tr, ow, on, ca, ba, di, fu, mi⟩ ⟨9, er, wa, ke, us⟩)
    go_enter Try.func29, Try.ntmps29
    go_upto_region 1 with fail
    obtain ⟨W0, hW0⟩ : ∃ W0, W0 = ((w.alloc (.cells (fC ⟨wr, rg, pr, sh, fi, be, bu, en, wb, tr, ow, on, ca, ba, di, fu, mi⟩) 23)).alloc (.cells (pC ⟨9, er, wa, ke, us⟩) 28)).alloc (.cells (fC c0) 23) := ⟨_, rfl⟩
    obtain ⟨g2, hg2⟩ : ∃ g2, g2 = w.heap.size := ⟨_, rfl⟩
    rw [← hW0, ← hg2] at s0 Y
    unfold fC c0 pC at hW0
    dsimp only at hW0
    rw [← hW0, ← hg2]
    clear hW0 hg2
    obtain ⟨x0, x1, x2, x3, x4, x5, x6, x7, x8, x9, x10, x11, x12, x13, x14, x15, x16⟩ := s0.out.X.cells
    obtain ⟨y0, y1, y2, y3, y4, y5, y6, y7, y8, y9, y10, y11, y12, y13, y14, y15, y16⟩ := s0.out.X.free
    obtain ⟨z0, z1, z2, z3, z4⟩ := Y.out.cells
    have s1 := hide (s0.out.put 10 (.bool true) ⟨wr, rg, pr, sh, fi, be, bu, en, wb, tr, true, on, ca, ba, di, fu, mi⟩ rfl)
    have s2 := hide (s1.out.put 11 (.bool true) ⟨wr, rg, pr, sh, fi, be, bu, en, wb, tr, true, true, ca, ba, di, fu, mi⟩ rfl)
    have s3 := hide (s2.out.put 8 (.bool true) ⟨wr, rg, pr, sh, fi, be, bu, en, true, tr, true, true, ca, ba, di, fu, mi⟩ rfl)
    go_wp2_with (first | (refine wpList_load_row rfl 23 _ rfl g2 rfl 23 _ (0, 0) _ s3.out.X Try.underlying23 rfl (by kernel_rfl) ?_) | (refine wpList_store_row rfl 23 _ _ rfl (g2 + 2) (fC ⟨wr, rg, pr, sh, fi, be, bu, en, true, tr, true, true, ca, ba, di, fu, mi⟩) rfl rfl 23 _ s3.out.Z (by kernel_rfl) rfl (by kernel_rfl) ?_))
    exact ret_c1 rfl rfl rfl (s3.out.ret _).Z ⟨rfl, (s3.out.ret _).K⟩
  by_cases a10 : ac = 10
  · subst a10
    cases on
    · have e1 : cr ⟨wr, rg, pr, sh, fi, be, bu, en, wb, tr, ow, false, ca, ba, di, fu, mi⟩ ⟨10, er, wa, ke, us⟩ = ⟨wr, rg, pr, sh, fi, be, bu, 1, false, tr, ow, false, false, ba, di, fu, mi⟩ := by simp [cr]
      rw [e1]
      clear e1
      have s0 := hide (S2.new3 w ⟨wr, rg, pr, sh, fi, be, bu, en, wb, tr, ow, false, ca, ba, di, fu, mi⟩ ⟨10, er, wa, ke, us⟩)
      have Y := hide (new3_p w ⟨wr, rg, pr, sh, fi, be, bu, en, wb, tr, ow, false, ca, ba, di, fu, mi⟩ ⟨10, er, wa, ke, us⟩)
      go_enter Try.func29, Try.ntmps29
      go_upto_region 1 with fail
      obtain ⟨W0, hW0⟩ : ∃ W0, W0 = ((w.alloc (.cells (fC ⟨wr, rg, pr, sh, fi, be, bu, en, wb, tr, ow, false, ca, ba, di, fu, mi⟩) 23)).alloc (.cells (pC ⟨10, er, wa, ke, us⟩) 28)).alloc (.cells (fC c0) 23) := ⟨_, rfl⟩
      obtain ⟨g2, hg2⟩ : ∃ g2, g2 = w.heap.size := ⟨_, rfl⟩
      rw [← hW0, ← hg2] at s0 Y
      unfold fC c0 pC at hW0
      dsimp only at hW0
      rw [← hW0, ← hg2]
      clear hW0 hg2
      obtain ⟨x0, x1, x2, x3, x4, x5, x6, x7, x8, x9, x10, x11, x12, x13, x14, x15, x16⟩ := s0.out.X.cells
      obtain ⟨y0, y1, y2, y3, y4, y5, y6, y7, y8, y9, y10, y11, y12, y13, y14, y15, y16⟩ := s0.out.X.free
      obtain ⟨z0, z1, z2, z3, z4⟩ := Y.out.cells
      have s1 := hide (s0.out.put 7 (.int .i64 1) ⟨wr, rg, pr, sh, fi, be, bu, 1, wb, tr, ow, false, ca, ba, di, fu, mi⟩ rfl)
      have s2 := hide (s1.out.put 12 (.bool false) ⟨wr, rg, pr, sh, fi, be, bu, 1, wb, tr, ow, false, false, ba, di, fu, mi⟩ rfl)
      have s3 := hide (s2.out.put 8 (.bool false) ⟨wr, rg, pr, sh, fi, be, bu, 1, false, tr, ow, false, false, ba, di, fu, mi⟩ rfl)
      go_wp2_with (first | (refine wpList_load_row rfl 23 _ rfl g2 rfl 23 _ (0, 0) _ s3.out.X Try.underlying23 rfl (by kernel_rfl) ?_) | (refine wpList_store_row rfl 23 _ _ rfl (g2 + 2) (fC ⟨wr, rg, pr, sh, fi, be, bu, 1, false, tr, ow, false, false, ba, di, fu, mi⟩) rfl rfl 23 _ s3.out.Z (by kernel_rfl) rfl (by kernel_rfl) ?_))
      exact ret_c1 rfl rfl rfl (s3.out.ret _).Z ⟨rfl, (s3.out.ret _).K⟩
    · obtain ⟨q, hq⟩ : ∃ q, q = cwB ⟨wr, rg, pr, sh, fi, be, bu, en, wb, tr, ow, true, ca, ba, di, fu, mi⟩ := ⟨_, rfl⟩
      have CW := fun w => cw_any wr rg pr sh fi be bu en wb tr ow true ca ba di fu mi w
      rw [← hq] at CW
      replace CW := hide CW
      have e1 : cr ⟨wr, rg, pr, sh, fi, be, bu, en, wb, tr, ow, true, ca, ba, di, fu, mi⟩ ⟨10, er, wa, ke, us⟩ = ⟨wr, rg, pr, sh, fi, be, bu, 1, q, tr, ow, true, false, ba, di, fu, mi⟩ := by simp [cr, hq]
      rw [e1]
      clear e1 hq
      have s0 := hide (S2.new3 w ⟨wr, rg, pr, sh, fi, be, bu, en, wb, tr, ow, true, ca, ba, di, fu, mi⟩ ⟨10, er, wa, ke, us⟩)
      have Y := hide (new3_p w ⟨wr, rg, pr, sh, fi, be, bu, en, wb, tr, ow, true, ca, ba, di, fu, mi⟩ ⟨10, er, wa, ke, us⟩)
      go_enter Try.func29, Try.ntmps29
      go_upto_region 1 with fail
      obtain ⟨W0, hW0⟩ : ∃ W0, W0 = ((w.alloc (.cells (fC ⟨wr, rg, pr, sh, fi, be, bu, en, wb, tr, ow, true, ca, ba, di, fu, mi⟩) 23)).alloc (.cells (pC ⟨10, er, wa, ke, us⟩) 28)).alloc (.cells (fC c0) 23) := ⟨_, rfl⟩
      obtain ⟨g2, hg2⟩ : ∃ g2, g2 = w.heap.size := ⟨_, rfl⟩
      rw [← hW0, ← hg2] at s0 Y
      unfold fC c0 pC at hW0
      dsimp only at hW0
      rw [← hW0, ← hg2]
      clear hW0 hg2
      obtain ⟨x0, x1, x2, x3, x4, x5, x6, x7, x8, x9, x10, x11, x12, x13, x14, x15, x16⟩ := s0.out.X.cells
      obtain ⟨y0, y1, y2, y3, y4, y5, y6, y7, y8, y9, y10, y11, y12, y13, y14, y15, y16⟩ := s0.out.X.free
      obtain ⟨z0, z1, z2, z3, z4⟩ := Y.out.cells
      go_wp2_with (refine load_g (by kernel_rfl) 23 _ rfl g2 rfl 23 _ (0, 0) _ s0.out.X Try.underlying23 rfl (by kernel_rfl) ?_)
      refine (CW.out _).mono ?_
      rintro e w1 ⟨rfl, hb⟩
      have s1 := hide (s0.out.below hb)
      clear hb x0 x1 x2 x3 x4 x5 x6 x7 x8 x9 x10 x11 x12 x13 x14 x15 x16 y0 y1 y2 y3 y4 y5 y6 y7 y8 y9 y10 y11 y12 y13 y14 y15 y16 z0 z1 z2 z3 z4
      obtain ⟨x0, x1, x2, x3, x4, x5, x6, x7, x8, x9, x10, x11, x12, x13, x14, x15, x16⟩ := s1.out.X.cells
      obtain ⟨y0, y1, y2, y3, y4, y5, y6, y7, y8, y9, y10, y11, y12, y13, y14, y15, y16⟩ := s1.out.X.free
      have s2 := hide (s1.out.put 7 (.int .i64 1) ⟨wr, rg, pr, sh, fi, be, bu, 1, wb, tr, ow, true, ca, ba, di, fu, mi⟩ rfl)
      have s3 := hide (s2.out.put 12 (.bool false) ⟨wr, rg, pr, sh, fi, be, bu, 1, wb, tr, ow, true, false, ba, di, fu, mi⟩ rfl)
      have s4 := hide (s3.out.put 8 (.bool q) ⟨wr, rg, pr, sh, fi, be, bu, 1, q, tr, ow, true, false, ba, di, fu, mi⟩ rfl)
      go_wp2_with (first | (refine wpList_load_row rfl 23 _ rfl g2 rfl 23 _ (0, 0) _ s4.out.X Try.underlying23 rfl (by kernel_rfl) ?_) | (refine wpList_store_row rfl 23 _ _ rfl (g2 + 2) (fC ⟨wr, rg, pr, sh, fi, be, bu, 1, q, tr, ow, true, false, ba, di, fu, mi⟩) rfl rfl 23 _ s4.out.Z (by kernel_rfl) rfl (by kernel_rfl) ?_))
      exact ret_c1 rfl rfl rfl (s4.out.ret _).Z ⟨rfl, (s4.out.ret _).K⟩
  by_cases a3 : ac = 3
  · subst a3
    obtain ⟨q, hq⟩ : ∃ q, q = cwB ⟨wr, rg, pr, sh, fi, be, bu, 1, wb, tr, ow, on, ca, ba, di, fu, 0⟩ := ⟨_, rfl⟩
    have CW := fun w => cw_any wr rg pr sh fi be bu 1 wb tr ow on ca ba di fu 0 w
    rw [← hq] at CW
    replace CW := hide CW
    have e1 : cr ⟨wr, rg, pr, sh, fi, be, bu, en, wb, tr, ow, on, ca, ba, di, fu, mi⟩ ⟨3, er, wa, ke, us⟩ = ⟨wr, rg, pr, sh, fi, be, bu, 1, q, tr, true, true, ca, ba, di, fu, 0⟩ := by rw [hq]; rfl
    rw [e1]
    clear e1 hq
    have s0 := hide (S2.new3 w ⟨wr, rg, pr, sh, fi, be, bu, en, wb, tr, ow, on, ca, ba, di, fu, mi⟩ ⟨3, er, wa, ke, us⟩)
    have Y := hide (new3_p w ⟨wr, rg, pr, sh, fi, be, bu, en, wb, tr, ow, on, ca, ba, di, fu, mi⟩ ⟨3, er, wa, ke, us⟩)
    go_enter Try.func29, Try.ntmps29
    go_upto_region 1 with fail
    obtain ⟨W0, hW0⟩ : ∃ W0, W0 = ((w.alloc (.cells (fC ⟨wr, rg, pr, sh, fi, be, bu, en, wb, tr, ow, on, ca, ba, di, fu, mi⟩) 23)).alloc (.cells (pC ⟨3, er, wa, ke, us⟩) 28)).alloc (.cells (fC c0) 23) := ⟨_, rfl⟩
    obtain ⟨g2, hg2⟩ : ∃ g2, g2 = w.heap.size := ⟨_, rfl⟩
    rw [← hW0, ← hg2] at s0 Y
    unfold fC c0 pC at hW0
    dsimp only at hW0
    rw [← hW0, ← hg2]
    clear hW0 hg2
    obtain ⟨x0, x1, x2, x3, x4, x5, x6, x7, x8, x9, x10, x11, x12, x13, x14, x15, x16⟩ := s0.out.X.cells
    obtain ⟨y0, y1, y2, y3, y4, y5, y6, y7, y8, y9, y10, y11, y12, y13, y14, y15, y16⟩ := s0.out.X.free
    obtain ⟨z0, z1, z2, z3, z4⟩ := Y.out.cells
    have s1 := hide (s0.out.put 7 (.int .i64 1) ⟨wr, rg, pr, sh, fi, be, bu, 1, wb, tr, ow, on, ca, ba, di, fu, mi⟩ rfl)
    have s2 := hide (s1.out.put 16 (.int .i64 0) ⟨wr, rg, pr, sh, fi, be, bu, 1, wb, tr, ow, on, ca, ba, di, fu, 0⟩ rfl)
    go_wp2_with (refine wpList_load_row rfl 23 _ rfl g2 rfl 23 _ (0, 0) _ s2.out.X Try.underlying23 rfl (by kernel_rfl) ?_)
    refine (CW.out _).mono ?_
    rintro e w1 ⟨rfl, hb⟩
    have s3 := hide (s2.out.below hb)
    clear hb s0 s1 s2 x0 x1 x2 x3 x4 x5 x6 x7 x8 x9 x10 x11 x12 x13 x14 x15 x16 y0 y1 y2 y3 y4 y5 y6 y7 y8 y9 y10 y11 y12 y13 y14 y15 y16 z0 z1 z2 z3 z4
    obtain ⟨x0, x1, x2, x3, x4, x5, x6, x7, x8, x9, x10, x11, x12, x13, x14, x15, x16⟩ := s3.out.X.cells
    obtain ⟨y0, y1, y2, y3, y4, y5, y6, y7, y8, y9, y10, y11, y12, y13, y14, y15, y16⟩ := s3.out.X.free
    have s4 := hide (s3.out.put 10 (.bool true) ⟨wr, rg, pr, sh, fi, be, bu, 1, wb, tr, true, on, ca, ba, di, fu, 0⟩ rfl)
    have s5 := hide (s4.out.put 11 (.bool true) ⟨wr, rg, pr, sh, fi, be, bu, 1, wb, tr, true, true, ca, ba, di, fu, 0⟩ rfl)
    have s6 := hide (s5.out.put 8 (.bool q) ⟨wr, rg, pr, sh, fi, be, bu, 1, q, tr, true, true, ca, ba, di, fu, 0⟩ rfl)
    go_wp2_with (first | (refine wpList_load_row rfl 23 _ rfl g2 rfl 23 _ (0, 0) _ s6.out.X Try.underlying23 rfl (by kernel_rfl) ?_) | (refine wpList_store_row rfl 23 _ _ rfl (g2 + 2) (fC ⟨wr, rg, pr, sh, fi, be, bu, 1, q, tr, true, true, ca, ba, di, fu, 0⟩) rfl rfl 23 _ s6.out.Z (by kernel_rfl) rfl (by kernel_rfl) ?_))
    exact ret_c1 rfl rfl rfl (s6.out.ret _).Z ⟨rfl, (s6.out.ret _).K⟩
  by_cases a6 : ac = 6
  · subst a6
    have s0 := hide (S2.new3 w ⟨wr, rg, pr, sh, fi, be, bu, en, wb, tr, ow, on, ca, ba, di, fu, mi⟩ ⟨6, er, wa, ke, us⟩)
    have Y := hide (new3_p w ⟨wr, rg, pr, sh, fi, be, bu, en, wb, tr, ow, on, ca, ba, di, fu, mi⟩ ⟨6, er, wa, ke, us⟩)
    go_enter Try.func29, Try.ntmps29
    go_upto_region 1 with fail
    obtain ⟨W0, hW0⟩ : ∃ W0, W0 = ((w.alloc (.cells (fC ⟨wr, rg, pr, sh, fi, be, bu, en, wb, tr, ow, on, ca, ba, di, fu, mi⟩) 23)).alloc (.cells (pC ⟨6, er, wa, ke, us⟩) 28)).alloc (.cells (fC c0) 23) := ⟨_, rfl⟩
    obtain ⟨g2, hg2⟩ : ∃ g2, g2 = w.heap.size := ⟨_, rfl⟩
    rw [← hW0, ← hg2] at s0 Y
    unfold fC c0 pC at hW0
    dsimp only at hW0
    rw [← hW0, ← hg2]
    clear hW0 hg2
    obtain ⟨x0, x1, x2, x3, x4, x5, x6, x7, x8, x9, x10, x11, x12, x13, x14, x15, x16⟩ := s0.out.X.cells
    obtain ⟨y0, y1, y2, y3, y4, y5, y6, y7, y8, y9, y10, y11, y12, y13, y14, y15, y16⟩ := s0.out.X.free
    obtain ⟨z0, z1, z2, z3, z4⟩ := Y.out.cells
    have s1 := hide (s0.out.put 7 (.int .i64 1) ⟨wr, rg, pr, sh, fi, be, bu, 1, wb, tr, ow, on, ca, ba, di, fu, mi⟩ rfl)
    have s2 := hide (s1.out.put 16 (.int .i64 0) ⟨wr, rg, pr, sh, fi, be, bu, 1, wb, tr, ow, on, ca, ba, di, fu, 0⟩ rfl)
    have s3 := hide (s2.out.put 12 (.bool false) ⟨wr, rg, pr, sh, fi, be, bu, 1, wb, tr, ow, on, false, ba, di, fu, 0⟩ rfl)
    go_wp2_with (first | (refine wpList_load_row rfl 23 _ rfl g2 rfl 23 _ (0, 0) _ s3.out.X Try.underlying23 rfl (by kernel_rfl) ?_) | (refine wpList_store_row rfl 23 _ _ rfl (g2 + 2) (fC ⟨wr, rg, pr, sh, fi, be, bu, 1, wb, tr, ow, on, false, ba, di, fu, 0⟩) rfl rfl 23 _ s3.out.Z (by kernel_rfl) rfl (by kernel_rfl) ?_))
    exact ret_c1 rfl rfl rfl (s3.out.ret _).Z ⟨rfl, (s3.out.ret _).K⟩
  by_cases a11 : ac = 11
  · subst a11
    have s0 := hide (S2.new3 w ⟨wr, rg, pr, sh, fi, be, bu, en, wb, tr, ow, on, ca, ba, di, fu, mi⟩ ⟨11, er, wa, ke, us⟩)
    have Y := hide (new3_p w ⟨wr, rg, pr, sh, fi, be, bu, en, wb, tr, ow, on, ca, ba, di, fu, mi⟩ ⟨11, er, wa, ke, us⟩)
    go_enter Try.func29, Try.ntmps29
    go_upto_region 1 with fail
    obtain ⟨W0, hW0⟩ : ∃ W0, W0 = ((w.alloc (.cells (fC ⟨wr, rg, pr, sh, fi, be, bu, en, wb, tr, ow, on, ca, ba, di, fu, mi⟩) 23)).alloc (.cells (pC ⟨11, er, wa, ke, us⟩) 28)).alloc (.cells (fC c0) 23) := ⟨_, rfl⟩
    obtain ⟨g2, hg2⟩ : ∃ g2, g2 = w.heap.size := ⟨_, rfl⟩
    rw [← hW0, ← hg2] at s0 Y
    unfold fC c0 pC at hW0
    dsimp only at hW0
    rw [← hW0, ← hg2]
    clear hW0 hg2
    obtain ⟨x0, x1, x2, x3, x4, x5, x6, x7, x8, x9, x10, x11, x12, x13, x14, x15, x16⟩ := s0.out.X.cells
    obtain ⟨y0, y1, y2, y3, y4, y5, y6, y7, y8, y9, y10, y11, y12, y13, y14, y15, y16⟩ := s0.out.X.free
    obtain ⟨z0, z1, z2, z3, z4⟩ := Y.out.cells
    have s1 := hide (s0.out.put 12 (.bool true) ⟨wr, rg, pr, sh, fi, be, bu, en, wb, tr, ow, on, true, ba, di, fu, mi⟩ rfl)
    go_wp2_with (first | (refine wpList_load_row rfl 23 _ rfl g2 rfl 23 _ (0, 0) _ s1.out.X Try.underlying23 rfl (by kernel_rfl) ?_) | (refine wpList_store_row rfl 23 _ _ rfl (g2 + 2) (fC ⟨wr, rg, pr, sh, fi, be, bu, en, wb, tr, ow, on, true, ba, di, fu, mi⟩) rfl rfl 23 _ s1.out.Z (by kernel_rfl) rfl (by kernel_rfl) ?_))
    exact ret_c1 rfl rfl rfl (s1.out.ret _).Z ⟨rfl, (s1.out.ret _).K⟩
  by_cases a4 : ac = 4
  · subst a4
    have s0 := hide (S2.new3 w ⟨wr, rg, pr, sh, fi, be, bu, en, wb, tr, ow, on, ca, ba, di, fu, mi⟩ ⟨4, er, wa, ke, us⟩)
    have Y := hide (new3_p w ⟨wr, rg, pr, sh, fi, be, bu, en, wb, tr, ow, on, ca, ba, di, fu, mi⟩ ⟨4, er, wa, ke, us⟩)
    go_enter Try.func29, Try.ntmps29
    go_upto_region 1 with fail
    obtain ⟨W0, hW0⟩ : ∃ W0, W0 = ((w.alloc (.cells (fC ⟨wr, rg, pr, sh, fi, be, bu, en, wb, tr, ow, on, ca, ba, di, fu, mi⟩) 23)).alloc (.cells (pC ⟨4, er, wa, ke, us⟩) 28)).alloc (.cells (fC c0) 23) := ⟨_, rfl⟩
    obtain ⟨g2, hg2⟩ : ∃ g2, g2 = w.heap.size := ⟨_, rfl⟩
    rw [← hW0, ← hg2] at s0 Y
    unfold fC c0 pC at hW0
    dsimp only at hW0
    rw [← hW0, ← hg2]
    clear hW0 hg2
    obtain ⟨x0, x1, x2, x3, x4, x5, x6, x7, x8, x9, x10, x11, x12, x13, x14, x15, x16⟩ := s0.out.X.cells
    obtain ⟨y0, y1, y2, y3, y4, y5, y6, y7, y8, y9, y10, y11, y12, y13, y14, y15, y16⟩ := s0.out.X.free
    obtain ⟨z0, z1, z2, z3, z4⟩ := Y.out.cells
    have s1 := hide (s0.out.put 12 (.bool true) ⟨wr, rg, pr, sh, fi, be, bu, en, wb, tr, ow, on, true, ba, di, fu, mi⟩ rfl)
    go_wp2_with (first | (refine wpList_load_row rfl 23 _ rfl g2 rfl 23 _ (0, 0) _ s1.out.X Try.underlying23 rfl (by kernel_rfl) ?_) | (refine wpList_store_row rfl 23 _ _ rfl (g2 + 2) (fC ⟨wr, rg, pr, sh, fi, be, bu, en, wb, tr, ow, on, true, ba, di, fu, mi⟩) rfl rfl 23 _ s1.out.Z (by kernel_rfl) rfl (by kernel_rfl) ?_))
    exact ret_c1 rfl rfl rfl (s1.out.ret _).Z ⟨rfl, (s1.out.ret _).K⟩
  by_cases a5 : ac = 5
  · subst a5
    have s0 := hide (S2.new3 w ⟨wr, rg, pr, sh, fi, be, bu, en, wb, tr, ow, on, ca, ba, di, fu, mi⟩ ⟨5, er, wa, ke, us⟩)
    have Y := hide (new3_p w ⟨wr, rg, pr, sh, fi, be, bu, en, wb, tr, ow, on, ca, ba, di, fu, mi⟩ ⟨5, er, wa, ke, us⟩)
    go_enter Try.func29, Try.ntmps29
    go_upto_region 1 with fail
    obtain ⟨W0, hW0⟩ : ∃ W0, W0 = ((w.alloc (.cells (fC ⟨wr, rg, pr, sh, fi, be, bu, en, wb, tr, ow, on, ca, ba, di, fu, mi⟩) 23)).alloc (.cells (pC ⟨5, er, wa, ke, us⟩) 28)).alloc (.cells (fC c0) 23) := ⟨_, rfl⟩
    obtain ⟨g2, hg2⟩ : ∃ g2, g2 = w.heap.size := ⟨_, rfl⟩
    rw [← hW0, ← hg2] at s0 Y
    unfold fC c0 pC at hW0
    dsimp only at hW0
    rw [← hW0, ← hg2]
    clear hW0 hg2
    obtain ⟨x0, x1, x2, x3, x4, x5, x6, x7, x8, x9, x10, x11, x12, x13, x14, x15, x16⟩ := s0.out.X.cells
    obtain ⟨y0, y1, y2, y3, y4, y5, y6, y7, y8, y9, y10, y11, y12, y13, y14, y15, y16⟩ := s0.out.X.free
    obtain ⟨z0, z1, z2, z3, z4⟩ := Y.out.cells
    have s1 := hide (s0.out.put 12 (.bool true) ⟨wr, rg, pr, sh, fi, be, bu, en, wb, tr, ow, on, true, ba, di, fu, mi⟩ rfl)
    go_wp2_with (first | (refine wpList_load_row rfl 23 _ rfl g2 rfl 23 _ (0, 0) _ s1.out.X Try.underlying23 rfl (by kernel_rfl) ?_) | (refine wpList_store_row rfl 23 _ _ rfl (g2 + 2) (fC ⟨wr, rg, pr, sh, fi, be, bu, en, wb, tr, ow, on, true, ba, di, fu, mi⟩) rfl rfl 23 _ s1.out.Z (by kernel_rfl) rfl (by kernel_rfl) ?_))
    exact ret_c1 rfl rfl rfl (s1.out.ret _).Z ⟨rfl, (s1.out.ret _).K⟩
  have e0 : cr ⟨wr, rg, pr, sh, fi, be, bu, en, wb, tr, ow, on, ca, ba, di, fu, mi⟩ ⟨ac, er, wa, ke, us⟩ = ⟨wr, rg, pr, sh, fi, be, bu, en, wb, tr, ow, on, ca, ba, di, fu, mi⟩ := by simp [cr, a2, a8, a7, a9, a10, a3, a6, a11, a4, a5]
  rw [e0]
  clear e0
  have s0 := hide (S2.new3 w ⟨wr, rg, pr, sh, fi, be, bu, en, wb, tr, ow, on, ca, ba, di, fu, mi⟩ ⟨ac, er, wa, ke, us⟩)
  have Y := hide (new3_p w ⟨wr, rg, pr, sh, fi, be, bu, en, wb, tr, ow, on, ca, ba, di, fu, mi⟩ ⟨ac, er, wa, ke, us⟩)
  go_enter Try.func29, Try.ntmps29
  go_upto_region 1 with fail
  obtain ⟨W0, hW0⟩ : ∃ W0, W0 = ((w.alloc (.cells (fC ⟨wr, rg, pr, sh, fi, be, bu, en, wb, tr, ow, on, ca, ba, di, fu, mi⟩) 23)).alloc (.cells (pC ⟨ac, er, wa, ke, us⟩) 28)).alloc (.cells (fC c0) 23) := ⟨_, rfl⟩
  obtain ⟨g2, hg2⟩ : ∃ g2, g2 = w.heap.size := ⟨_, rfl⟩
  rw [← hW0, ← hg2] at s0 Y
  unfold fC c0 pC at hW0
  dsimp only at hW0
  rw [← hW0, ← hg2]
  clear hW0 hg2
  obtain ⟨x0, x1, x2, x3, x4, x5, x6, x7, x8, x9, x10, x11, x12, x13, x14, x15, x16⟩ := s0.out.X.cells
  obtain ⟨y0, y1, y2, y3, y4, y5, y6, y7, y8, y9, y10, y11, y12, y13, y14, y15, y16⟩ := s0.out.X.free
  obtain ⟨z0, z1, z2, z3, z4⟩ := Y.out.cells
  go_wp2_with (first | (refine wpList_load_row rfl 23 _ rfl g2 rfl 23 _ (0, 0) _ s0.out.X Try.underlying23 rfl (by kernel_rfl) ?_) | (refine wpList_store_row rfl 23 _ _ rfl (g2 + 2) (fC ⟨wr, rg, pr, sh, fi, be, bu, en, wb, tr, ow, on, ca, ba, di, fu, mi⟩) rfl rfl 23 _ s0.out.Z (by kernel_rfl) rfl (by kernel_rfl) ?_))
  exact ret_c1 rfl rfl rfl (s0.out.ret _).Z ⟨rfl, (s0.out.ret _).K⟩
end Go.Proofs.Ytkcopcmoaloecaa.Fp
