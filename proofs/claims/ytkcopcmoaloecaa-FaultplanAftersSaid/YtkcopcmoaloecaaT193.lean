import Derived.Test.YtkcopcmoaloecaaT19a
import Derived.Test.YtkcopcmoaloecaaT17
namespace Go.Proofs.Ytkcopcmoaloecaa.Fp
open Go Go.RowKit
set_option linter.unusedVariables false
set_option linter.unusedSimpArgs false
set_option maxRecDepth 100000 in
set_option maxHeartbeats 8000000 in
theorem ra_10f (wr : Bool) (rg : Bool) (pr : Int) (sh : Bool) (fi : Bool) (be : Bool) (bu : Bool) (en : Int) (wb : Bool) (tr : Bool) (ow : Bool) (ca : Bool) (ba : Bool) (di : Bool) (fu : Bool) (mi : Int) (w : World) (CP : Hid (∀ w, Calls Try.prog 14 #[.agg #[.bool wr, .bool rg, .int .i64 pr, .bool sh, .bool fi, .bool be, .bool bu, .int .i64 en, .bool wb, .bool tr, .bool ow, .bool false, .bool ca, .bool ba, .bool di, .bool fu, .int .i64 mi]] w fun e w' => e = .returned (.tuple #[.agg #[.int .i64 10, .int .i64 0, .int .i64 0, .int .i64 0, .int .i64 0], .int .i64 0]) ∧ Below w.heap.size w w')) :
    Calls Try.prog 16 #[.agg #[.bool wr, .bool rg, .int .i64 pr, .bool sh, .bool fi, .bool be, .bool bu, .int .i64 en, .bool wb, .bool tr, .bool ow, .bool false, .bool ca, .bool ba, .bool di, .bool fu, .int .i64 mi]] w fun e w' => e = .returned (.tuple #[fV ⟨wr, rg, pr, sh, fi, be, bu, 1, false, tr, ow, false, false, ba, di, fu, mi⟩, .bool false, .int .i64 0]) ∧ Below w.heap.size w w' := by
  have s0 := hide (S2.new w ⟨wr, rg, pr, sh, fi, be, bu, en, wb, tr, ow, false, ca, ba, di, fu, mi⟩)
  go_enter Try.func16, Try.ntmps16
  go_upto_region 1 with fail
  obtain ⟨W0, hW0⟩ : ∃ W0, W0 = (w.alloc (.cells (fC ⟨wr, rg, pr, sh, fi, be, bu, en, wb, tr, ow, false, ca, ba, di, fu, mi⟩) 23)).alloc (.cells (fC c0) 23) := ⟨_, rfl⟩
  obtain ⟨g2, hg2⟩ : ∃ g2, g2 = w.heap.size := ⟨_, rfl⟩
  rw [← hW0, ← hg2] at s0
  unfold fC c0 at hW0
  dsimp only at hW0
  rw [← hW0, ← hg2]
  clear hW0 hg2
  go_wp2_with (refine wpList_load_row rfl 23 _ rfl g2 rfl 23 _ (0, 0) _ s0.out.X Try.underlying23 rfl (by kernel_rfl) ?_)
  refine (CP.out _).mono ?_
  rintro e w1 ⟨rfl, hb⟩
  have s1 := hide (s0.out.below hb)
  clear hb s0 CP
  go_upto_region 2 with fail
  have M : Below w1.heap.size w1 (w1.alloc (.cells #[.int .i64 10, .int .i64 0, .int .i64 0, .int .i64 0, .int .i64 0] 28)) := bal (brefl w1) _
  have s2 := hide (s1.out.below M)
  have Y := hide (show PB (w1.alloc (.cells #[.int .i64 10, .int .i64 0, .int .i64 0, .int .i64 0, .int .i64 0] 28)) w1.heap.size ⟨10, 0, 0, 0, 0⟩ from Box.new w1 28 _)
  obtain ⟨g3, hg3⟩ : ∃ g3, g3 = w1.heap.size := ⟨_, rfl⟩
  obtain ⟨w2, hw2⟩ : ∃ w2, w2 = w1.alloc (.cells #[.int .i64 10, .int .i64 0, .int .i64 0, .int .i64 0, .int .i64 0] 28) := ⟨_, rfl⟩
  rw [← hw2] at s2 Y
  rw [← hg3] at Y
  rw [← hw2, ← hg3]
  clear hw2 hg3 M s1
  obtain ⟨z0, z1, z2, z3, z4⟩ := Y.out.cells
  obtain ⟨x0, x1, x2, x3, x4, x5, x6, x7, x8, x9, x10, x11, x12, x13, x14, x15, x16⟩ := s2.out.X.cells
  obtain ⟨y0, y1, y2, y3, y4, y5, y6, y7, y8, y9, y10, y11, y12, y13, y14, y15, y16⟩ := s2.out.X.free
  have s3 := hide (s2.out.put 7 (.int .i64 1) ⟨wr, rg, pr, sh, fi, be, bu, 1, wb, tr, ow, false, ca, ba, di, fu, mi⟩ rfl)
  have s4 := hide (s3.out.put 12 (.bool false) ⟨wr, rg, pr, sh, fi, be, bu, 1, wb, tr, ow, false, false, ba, di, fu, mi⟩ rfl)
  have s5 := hide (s4.out.put 8 (.bool false) ⟨wr, rg, pr, sh, fi, be, bu, 1, false, tr, ow, false, false, ba, di, fu, mi⟩ rfl)
  go_upto_region 23 with fail
  clear x0 x1 x2 x3 x4 x5 x6 x7 x8 x9 x10 x11 x12 x13 x14 x15 x16 y0 y1 y2 y3 y4 y5 y6 y7 y8 y9 y10 y11 y12 y13 y14 y15 y16
  try clear z0 z1 z2 z3 z4
  go_wp2_with (first | (refine wpList_load_row rfl 23 _ rfl g2 rfl 23 _ (0, 0) _ s5.out.X Try.underlying23 rfl (by kernel_rfl) ?_) | (refine wpList_store_row rfl 23 _ _ rfl (g2 + 1) (fC ⟨wr, rg, pr, sh, fi, be, bu, 1, false, tr, ow, false, false, ba, di, fu, mi⟩) rfl rfl 23 _ s5.out.Z (by kernel_rfl) rfl (by kernel_rfl) ?_))
  exact ret_cbi (c := ⟨wr, rg, pr, sh, fi, be, bu, 1, false, tr, ow, false, false, ba, di, fu, mi⟩) rfl rfl rfl rfl rfl (s5.out.ret ⟨wr, rg, pr, sh, fi, be, bu, 1, false, tr, ow, false, false, ba, di, fu, mi⟩).Z ⟨rfl, (s5.out.ret ⟨wr, rg, pr, sh, fi, be, bu, 1, false, tr, ow, false, false, ba, di, fu, mi⟩).K⟩
set_option maxRecDepth 100000 in
set_option maxHeartbeats 8000000 in
theorem ra_10t (wr : Bool) (rg : Bool) (pr : Int) (sh : Bool) (fi : Bool) (be : Bool) (bu : Bool) (en : Int) (wb : Bool) (tr : Bool) (ow : Bool) (ca : Bool) (ba : Bool) (di : Bool) (fu : Bool) (mi : Int) (q : Bool) (hq : q = cwB ⟨wr, rg, pr, sh, fi, be, bu, en, wb, tr, ow, true, ca, ba, di, fu, mi⟩) (w : World) (CP : Hid (∀ w, Calls Try.prog 14 #[.agg #[.bool wr, .bool rg, .int .i64 pr, .bool sh, .bool fi, .bool be, .bool bu, .int .i64 en, .bool wb, .bool tr, .bool ow, .bool true, .bool ca, .bool ba, .bool di, .bool fu, .int .i64 mi]] w fun e w' => e = .returned (.tuple #[.agg #[.int .i64 10, .int .i64 0, .int .i64 0, .int .i64 0, .int .i64 0], .int .i64 0]) ∧ Below w.heap.size w w')) :
    Calls Try.prog 16 #[.agg #[.bool wr, .bool rg, .int .i64 pr, .bool sh, .bool fi, .bool be, .bool bu, .int .i64 en, .bool wb, .bool tr, .bool ow, .bool true, .bool ca, .bool ba, .bool di, .bool fu, .int .i64 mi]] w fun e w' => e = .returned (.tuple #[fV ⟨wr, rg, pr, sh, fi, be, bu, 1, q, tr, ow, true, false, ba, di, fu, mi⟩, .bool false, .int .i64 0]) ∧ Below w.heap.size w w' := by
  have CW := fun w => rcw_any wr rg pr sh fi be bu en wb tr ow true ca ba di fu mi w
  rw [← hq] at CW
  replace CW := hide CW
  clear hq
  have s0 := hide (S2.new w ⟨wr, rg, pr, sh, fi, be, bu, en, wb, tr, ow, true, ca, ba, di, fu, mi⟩)
  go_enter Try.func16, Try.ntmps16
  go_upto_region 1 with fail
  obtain ⟨W0, hW0⟩ : ∃ W0, W0 = (w.alloc (.cells (fC ⟨wr, rg, pr, sh, fi, be, bu, en, wb, tr, ow, true, ca, ba, di, fu, mi⟩) 23)).alloc (.cells (fC c0) 23) := ⟨_, rfl⟩
  obtain ⟨g2, hg2⟩ : ∃ g2, g2 = w.heap.size := ⟨_, rfl⟩
  rw [← hW0, ← hg2] at s0
  unfold fC c0 at hW0
  dsimp only at hW0
  rw [← hW0, ← hg2]
  clear hW0 hg2
  go_wp2_with (refine wpList_load_row rfl 23 _ rfl g2 rfl 23 _ (0, 0) _ s0.out.X Try.underlying23 rfl (by kernel_rfl) ?_)
  refine (CP.out _).mono ?_
  rintro e w1 ⟨rfl, hb⟩
  have s1 := hide (s0.out.below hb)
  clear hb s0 CP
  go_upto_region 2 with fail
  have M : Below w1.heap.size w1 (w1.alloc (.cells #[.int .i64 10, .int .i64 0, .int .i64 0, .int .i64 0, .int .i64 0] 28)) := bal (brefl w1) _
  have s2 := hide (s1.out.below M)
  have Y := hide (show PB (w1.alloc (.cells #[.int .i64 10, .int .i64 0, .int .i64 0, .int .i64 0, .int .i64 0] 28)) w1.heap.size ⟨10, 0, 0, 0, 0⟩ from Box.new w1 28 _)
  obtain ⟨g3, hg3⟩ : ∃ g3, g3 = w1.heap.size := ⟨_, rfl⟩
  obtain ⟨w2, hw2⟩ : ∃ w2, w2 = w1.alloc (.cells #[.int .i64 10, .int .i64 0, .int .i64 0, .int .i64 0, .int .i64 0] 28) := ⟨_, rfl⟩
  rw [← hw2] at s2 Y
  rw [← hg3] at Y
  rw [← hw2, ← hg3]
  clear hw2 hg3 M s1
  obtain ⟨z0, z1, z2, z3, z4⟩ := Y.out.cells
  obtain ⟨x0, x1, x2, x3, x4, x5, x6, x7, x8, x9, x10, x11, x12, x13, x14, x15, x16⟩ := s2.out.X.cells
  obtain ⟨y0, y1, y2, y3, y4, y5, y6, y7, y8, y9, y10, y11, y12, y13, y14, y15, y16⟩ := s2.out.X.free
  go_wp2_with (refine load_g (by kernel_rfl) 23 _ rfl g2 rfl 23 _ (0, 0) _ s2.out.X Try.underlying23 rfl (by kernel_rfl) ?_)
  refine (CW.out _).mono ?_
  rintro e w3 ⟨rfl, hb⟩
  have s3 := hide (s2.out.below hb)
  clear hb s2
  clear x0 x1 x2 x3 x4 x5 x6 x7 x8 x9 x10 x11 x12 x13 x14 x15 x16 y0 y1 y2 y3 y4 y5 y6 y7 y8 y9 y10 y11 y12 y13 y14 y15 y16 z0 z1 z2 z3 z4
  obtain ⟨x0, x1, x2, x3, x4, x5, x6, x7, x8, x9, x10, x11, x12, x13, x14, x15, x16⟩ := s3.out.X.cells
  obtain ⟨y0, y1, y2, y3, y4, y5, y6, y7, y8, y9, y10, y11, y12, y13, y14, y15, y16⟩ := s3.out.X.free
  have s4 := hide (s3.out.put 7 (.int .i64 1) ⟨wr, rg, pr, sh, fi, be, bu, 1, wb, tr, ow, true, ca, ba, di, fu, mi⟩ rfl)
  have s5 := hide (s4.out.put 12 (.bool false) ⟨wr, rg, pr, sh, fi, be, bu, 1, wb, tr, ow, true, false, ba, di, fu, mi⟩ rfl)
  have s6 := hide (s5.out.put 8 (.bool q) ⟨wr, rg, pr, sh, fi, be, bu, 1, q, tr, ow, true, false, ba, di, fu, mi⟩ rfl)
  go_upto_region 23 with fail
  clear x0 x1 x2 x3 x4 x5 x6 x7 x8 x9 x10 x11 x12 x13 x14 x15 x16 y0 y1 y2 y3 y4 y5 y6 y7 y8 y9 y10 y11 y12 y13 y14 y15 y16
  try clear z0 z1 z2 z3 z4
  go_wp2_with (first | (refine wpList_load_row rfl 23 _ rfl g2 rfl 23 _ (0, 0) _ s6.out.X Try.underlying23 rfl (by kernel_rfl) ?_) | (refine wpList_store_row rfl 23 _ _ rfl (g2 + 1) (fC ⟨wr, rg, pr, sh, fi, be, bu, 1, q, tr, ow, true, false, ba, di, fu, mi⟩) rfl rfl 23 _ s6.out.Z (by kernel_rfl) rfl (by kernel_rfl) ?_))
  exact ret_cbi (c := ⟨wr, rg, pr, sh, fi, be, bu, 1, q, tr, ow, true, false, ba, di, fu, mi⟩) rfl rfl rfl rfl rfl (s6.out.ret ⟨wr, rg, pr, sh, fi, be, bu, 1, q, tr, ow, true, false, ba, di, fu, mi⟩).Z ⟨rfl, (s6.out.ret ⟨wr, rg, pr, sh, fi, be, bu, 1, q, tr, ow, true, false, ba, di, fu, mi⟩).K⟩
set_option maxRecDepth 100000 in
set_option maxHeartbeats 8000000 in
theorem ra_12 (wr : Bool) (rg : Bool) (pr : Int) (sh : Bool) (fi : Bool) (be : Bool) (bu : Bool) (en : Int) (wb : Bool) (tr : Bool) (ow : Bool) (on : Bool) (ca : Bool) (ba : Bool) (di : Bool) (fu : Bool) (mi : Int) (q : Bool) (hq : q = cwB ⟨wr, rg, pr, sh, fi, be, bu, en, wb, tr, ow, on, ca, ba, di, fu, mi⟩) (w : World) (CP : Hid (∀ w, Calls Try.prog 14 #[.agg #[.bool wr, .bool rg, .int .i64 pr, .bool sh, .bool fi, .bool be, .bool bu, .int .i64 en, .bool wb, .bool tr, .bool ow, .bool on, .bool ca, .bool ba, .bool di, .bool fu, .int .i64 mi]] w fun e w' => e = .returned (.tuple #[.agg #[.int .i64 3, .int .i64 0, .int .i64 0, .int .i64 mi, .int .i64 1], .int .i64 0]) ∧ Below w.heap.size w w')) :
    Calls Try.prog 16 #[.agg #[.bool wr, .bool rg, .int .i64 pr, .bool sh, .bool fi, .bool be, .bool bu, .int .i64 en, .bool wb, .bool tr, .bool ow, .bool on, .bool ca, .bool ba, .bool di, .bool fu, .int .i64 mi]] w fun e w' => e = .returned (.tuple #[fV ⟨wr, rg, pr, sh, fi, be, bu, 1, q, tr, true, true, ca, ba, di, fu, 0⟩, .bool false, .int .i64 0]) ∧ Below w.heap.size w w' := by
  have CW := fun w => rcw_any wr rg pr sh fi be bu en wb tr ow on ca ba di fu mi w
  rw [← hq] at CW
  replace CW := hide CW
  clear hq
  have s0 := hide (S2.new w ⟨wr, rg, pr, sh, fi, be, bu, en, wb, tr, ow, on, ca, ba, di, fu, mi⟩)
  go_enter Try.func16, Try.ntmps16
  go_upto_region 1 with fail
  obtain ⟨W0, hW0⟩ : ∃ W0, W0 = (w.alloc (.cells (fC ⟨wr, rg, pr, sh, fi, be, bu, en, wb, tr, ow, on, ca, ba, di, fu, mi⟩) 23)).alloc (.cells (fC c0) 23) := ⟨_, rfl⟩
  obtain ⟨g2, hg2⟩ : ∃ g2, g2 = w.heap.size := ⟨_, rfl⟩
  rw [← hW0, ← hg2] at s0
  unfold fC c0 at hW0
  dsimp only at hW0
  rw [← hW0, ← hg2]
  clear hW0 hg2
  go_wp2_with (refine wpList_load_row rfl 23 _ rfl g2 rfl 23 _ (0, 0) _ s0.out.X Try.underlying23 rfl (by kernel_rfl) ?_)
  refine (CP.out _).mono ?_
  rintro e w1 ⟨rfl, hb⟩
  have s1 := hide (s0.out.below hb)
  clear hb s0 CP
  go_upto_region 2 with fail
  have M : Below w1.heap.size w1 (w1.alloc (.cells #[.int .i64 3, .int .i64 0, .int .i64 0, .int .i64 mi, .int .i64 1] 28)) := bal (brefl w1) _
  have s2 := hide (s1.out.below M)
  have Y := hide (show PB (w1.alloc (.cells #[.int .i64 3, .int .i64 0, .int .i64 0, .int .i64 mi, .int .i64 1] 28)) w1.heap.size ⟨3, 0, 0, mi, 1⟩ from Box.new w1 28 _)
  obtain ⟨g3, hg3⟩ : ∃ g3, g3 = w1.heap.size := ⟨_, rfl⟩
  obtain ⟨w2, hw2⟩ : ∃ w2, w2 = w1.alloc (.cells #[.int .i64 3, .int .i64 0, .int .i64 0, .int .i64 mi, .int .i64 1] 28) := ⟨_, rfl⟩
  rw [← hw2] at s2 Y
  rw [← hg3] at Y
  rw [← hw2, ← hg3]
  clear hw2 hg3 M s1
  obtain ⟨z0, z1, z2, z3, z4⟩ := Y.out.cells
  go_wp2_with (refine wpList_load_row rfl 23 _ rfl g2 rfl 23 _ (0, 0) _ s2.out.X Try.underlying23 rfl (by kernel_rfl) ?_)
  refine (CW.out _).mono ?_
  rintro e w3 ⟨rfl, hb⟩
  have s3 := hide (s2.out.below hb)
  clear hb s2 z0 z1 z2 z3 z4
  obtain ⟨x0, x1, x2, x3, x4, x5, x6, x7, x8, x9, x10, x11, x12, x13, x14, x15, x16⟩ := s3.out.X.cells
  obtain ⟨y0, y1, y2, y3, y4, y5, y6, y7, y8, y9, y10, y11, y12, y13, y14, y15, y16⟩ := s3.out.X.free
  have s4 := hide (s3.out.put 7 (.int .i64 1) ⟨wr, rg, pr, sh, fi, be, bu, 1, wb, tr, ow, on, ca, ba, di, fu, mi⟩ rfl)
  have s5 := hide (s4.out.put 16 (.int .i64 0) ⟨wr, rg, pr, sh, fi, be, bu, 1, wb, tr, ow, on, ca, ba, di, fu, 0⟩ rfl)
  have s6 := hide (s5.out.put 10 (.bool true) ⟨wr, rg, pr, sh, fi, be, bu, 1, wb, tr, true, on, ca, ba, di, fu, 0⟩ rfl)
  have s7 := hide (s6.out.put 11 (.bool true) ⟨wr, rg, pr, sh, fi, be, bu, 1, wb, tr, true, true, ca, ba, di, fu, 0⟩ rfl)
  have s8 := hide (s7.out.put 8 (.bool q) ⟨wr, rg, pr, sh, fi, be, bu, 1, q, tr, true, true, ca, ba, di, fu, 0⟩ rfl)
  go_upto_region 23 with fail
  clear x0 x1 x2 x3 x4 x5 x6 x7 x8 x9 x10 x11 x12 x13 x14 x15 x16 y0 y1 y2 y3 y4 y5 y6 y7 y8 y9 y10 y11 y12 y13 y14 y15 y16
  try clear z0 z1 z2 z3 z4
  go_wp2_with (first | (refine wpList_load_row rfl 23 _ rfl g2 rfl 23 _ (0, 0) _ s8.out.X Try.underlying23 rfl (by kernel_rfl) ?_) | (refine wpList_store_row rfl 23 _ _ rfl (g2 + 1) (fC ⟨wr, rg, pr, sh, fi, be, bu, 1, q, tr, true, true, ca, ba, di, fu, 0⟩) rfl rfl 23 _ s8.out.Z (by kernel_rfl) rfl (by kernel_rfl) ?_))
  exact ret_cbi (c := ⟨wr, rg, pr, sh, fi, be, bu, 1, q, tr, true, true, ca, ba, di, fu, 0⟩) rfl rfl rfl rfl rfl (s8.out.ret ⟨wr, rg, pr, sh, fi, be, bu, 1, q, tr, true, true, ca, ba, di, fu, 0⟩).Z ⟨rfl, (s8.out.ret ⟨wr, rg, pr, sh, fi, be, bu, 1, q, tr, true, true, ca, ba, di, fu, 0⟩).K⟩
end Go.Proofs.Ytkcopcmoaloecaa.Fp
