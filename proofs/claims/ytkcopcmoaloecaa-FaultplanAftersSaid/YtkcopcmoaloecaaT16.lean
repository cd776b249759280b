import Derived.Test.YtkcopcmoaloecaaT13
namespace Go.Proofs.Ytkcopcmoaloecaa.Fp
open Go Go.RowKit
set_option linter.unusedVariables false
set_option linter.unusedSimpArgs false
/-- what write answers -/
def wrP (c : Fc) : P5 := bif c.ow && c.on then ⟨8, 0, 0, 0, 0⟩ else bif c.ow || !c.sh then ⟨9, 0, 0, 0, 1⟩ else bif !c.di && c.fu then ⟨2, 0, 5, 0, 0⟩ else ⟨7, 0, 0, 0, 0⟩
set_option maxRecDepth 100000 in
set_option maxHeartbeats 8000000 in
theorem write_any (wr rg : Bool) (pr : Int) (sh fi be bu : Bool) (en : Int) (wb tr ow on ca ba di fu : Bool) (mi : Int) (w : World) : Calls Try.prog 28 #[.agg #[.bool wr, .bool rg, .int .i64 pr, .bool sh, .bool fi, .bool be, .bool bu, .int .i64 en, .bool wb, .bool tr, .bool ow, .bool on, .bool ca, .bool ba, .bool di, .bool fu, .int .i64 mi]] w fun e w' => e = .returned (.tuple #[pV (wrP ⟨wr, rg, pr, sh, fi, be, bu, en, wb, tr, ow, on, ca, ba, di, fu, mi⟩), .int .i64 0]) ∧ Below w.heap.size w w' := by
  cases ow
  · cases sh
    · have s0 := hide (S3.new w ⟨wr, rg, pr, false, fi, be, bu, en, wb, tr, false, on, ca, ba, di, fu, mi⟩)
      go_enter Try.func28, Try.ntmps28
      go_upto_region 1 with fail
      obtain ⟨W0, hW0⟩ : ∃ W0, W0 = (w.alloc (.cells (fC ⟨wr, rg, pr, false, fi, be, bu, en, wb, tr, false, on, ca, ba, di, fu, mi⟩) 23)).alloc (.cells (pC p0) 28) := ⟨_, rfl⟩
      obtain ⟨g2, hg2⟩ : ∃ g2, g2 = w.heap.size := ⟨_, rfl⟩
      rw [← hW0, ← hg2] at s0
      unfold fC pC p0 at hW0
      dsimp only at hW0
      rw [← hW0, ← hg2]
      clear hW0 hg2
      obtain ⟨x0, x1, x2, x3, x4, x5, x6, x7, x8, x9, x10, x11, x12, x13, x14, x15, x16⟩ := s0.out.X.cells
      go_wp2_with fail
      refine (rplan_any 9 0 1 _).mono ?_
      rintro e w1 ⟨rfl, hb⟩
      have s9 := hide (s0.out.below hb)
      clear hb
      go_wp2_with (refine wpList_store_row rfl 28 _ _ rfl (g2 + 1) (pC ⟨9, 0, 0, 0, 1⟩) rfl rfl 28 _ s9.out.Z (by kernel_rfl) rfl (by kernel_rfl) ?_)
      exact ret_pi (p := ⟨9, 0, 0, 0, 1⟩) rfl rfl rfl rfl (S3.ret s9.out (⟨9, 0, 0, 0, 1⟩ : P5)).Z ⟨rfl, (S3.ret s9.out (⟨9, 0, 0, 0, 1⟩ : P5)).K⟩
    · cases di
      · cases fu
        · have s0 := hide (S3.new w ⟨wr, rg, pr, true, fi, be, bu, en, wb, tr, false, on, ca, ba, false, false, mi⟩)
          go_enter Try.func28, Try.ntmps28
          go_upto_region 1 with fail
          obtain ⟨W0, hW0⟩ : ∃ W0, W0 = (w.alloc (.cells (fC ⟨wr, rg, pr, true, fi, be, bu, en, wb, tr, false, on, ca, ba, false, false, mi⟩) 23)).alloc (.cells (pC p0) 28) := ⟨_, rfl⟩
          obtain ⟨g2, hg2⟩ : ∃ g2, g2 = w.heap.size := ⟨_, rfl⟩
          rw [← hW0, ← hg2] at s0
          unfold fC pC p0 at hW0
          dsimp only at hW0
          rw [← hW0, ← hg2]
          clear hW0 hg2
          obtain ⟨x0, x1, x2, x3, x4, x5, x6, x7, x8, x9, x10, x11, x12, x13, x14, x15, x16⟩ := s0.out.X.cells
          go_wp2_with fail
          refine (rplan_any 7 0 0 _).mono ?_
          rintro e w1 ⟨rfl, hb⟩
          have s9 := hide (s0.out.below hb)
          clear hb
          go_wp2_with (refine wpList_store_row rfl 28 _ _ rfl (g2 + 1) (pC ⟨7, 0, 0, 0, 0⟩) rfl rfl 28 _ s9.out.Z (by kernel_rfl) rfl (by kernel_rfl) ?_)
          exact ret_pi (p := ⟨7, 0, 0, 0, 0⟩) rfl rfl rfl rfl (S3.ret s9.out (⟨7, 0, 0, 0, 0⟩ : P5)).Z ⟨rfl, (S3.ret s9.out (⟨7, 0, 0, 0, 0⟩ : P5)).K⟩
        · have s0 := hide (S3.new w ⟨wr, rg, pr, true, fi, be, bu, en, wb, tr, false, on, ca, ba, false, true, mi⟩)
          go_enter Try.func28, Try.ntmps28
          go_upto_region 1 with fail
          obtain ⟨W0, hW0⟩ : ∃ W0, W0 = (w.alloc (.cells (fC ⟨wr, rg, pr, true, fi, be, bu, en, wb, tr, false, on, ca, ba, false, true, mi⟩) 23)).alloc (.cells (pC p0) 28) := ⟨_, rfl⟩
          obtain ⟨g2, hg2⟩ : ∃ g2, g2 = w.heap.size := ⟨_, rfl⟩
          rw [← hW0, ← hg2] at s0
          unfold fC pC p0 at hW0
          dsimp only at hW0
          rw [← hW0, ← hg2]
          clear hW0 hg2
          obtain ⟨x0, x1, x2, x3, x4, x5, x6, x7, x8, x9, x10, x11, x12, x13, x14, x15, x16⟩ := s0.out.X.cells
          go_wp2_with fail
          refine (rwait_any 5 _).mono ?_
          rintro e w1 ⟨rfl, hb⟩
          have s9 := hide (s0.out.below hb)
          clear hb
          go_wp2_with (refine wpList_store_row rfl 28 _ _ rfl (g2 + 1) (pC ⟨2, 0, 5, 0, 0⟩) rfl rfl 28 _ s9.out.Z (by kernel_rfl) rfl (by kernel_rfl) ?_)
          exact ret_pi (p := ⟨2, 0, 5, 0, 0⟩) rfl rfl rfl rfl (S3.ret s9.out (⟨2, 0, 5, 0, 0⟩ : P5)).Z ⟨rfl, (S3.ret s9.out (⟨2, 0, 5, 0, 0⟩ : P5)).K⟩
      · have s0 := hide (S3.new w ⟨wr, rg, pr, true, fi, be, bu, en, wb, tr, false, on, ca, ba, true, fu, mi⟩)
        go_enter Try.func28, Try.ntmps28
        go_upto_region 1 with fail
        obtain ⟨W0, hW0⟩ : ∃ W0, W0 = (w.alloc (.cells (fC ⟨wr, rg, pr, true, fi, be, bu, en, wb, tr, false, on, ca, ba, true, fu, mi⟩) 23)).alloc (.cells (pC p0) 28) := ⟨_, rfl⟩
        obtain ⟨g2, hg2⟩ : ∃ g2, g2 = w.heap.size := ⟨_, rfl⟩
        rw [← hW0, ← hg2] at s0
        unfold fC pC p0 at hW0
        dsimp only at hW0
        rw [← hW0, ← hg2]
        clear hW0 hg2
        obtain ⟨x0, x1, x2, x3, x4, x5, x6, x7, x8, x9, x10, x11, x12, x13, x14, x15, x16⟩ := s0.out.X.cells
        go_wp2_with fail
        refine (rplan_any 7 0 0 _).mono ?_
        rintro e w1 ⟨rfl, hb⟩
        have s9 := hide (s0.out.below hb)
        clear hb
        go_wp2_with (refine wpList_store_row rfl 28 _ _ rfl (g2 + 1) (pC ⟨7, 0, 0, 0, 0⟩) rfl rfl 28 _ s9.out.Z (by kernel_rfl) rfl (by kernel_rfl) ?_)
        exact ret_pi (p := ⟨7, 0, 0, 0, 0⟩) rfl rfl rfl rfl (S3.ret s9.out (⟨7, 0, 0, 0, 0⟩ : P5)).Z ⟨rfl, (S3.ret s9.out (⟨7, 0, 0, 0, 0⟩ : P5)).K⟩
  · cases on
    · have s0 := hide (S3.new w ⟨wr, rg, pr, sh, fi, be, bu, en, wb, tr, true, false, ca, ba, di, fu, mi⟩)
      go_enter Try.func28, Try.ntmps28
      go_upto_region 1 with fail
      obtain ⟨W0, hW0⟩ : ∃ W0, W0 = (w.alloc (.cells (fC ⟨wr, rg, pr, sh, fi, be, bu, en, wb, tr, true, false, ca, ba, di, fu, mi⟩) 23)).alloc (.cells (pC p0) 28) := ⟨_, rfl⟩
      obtain ⟨g2, hg2⟩ : ∃ g2, g2 = w.heap.size := ⟨_, rfl⟩
      rw [← hW0, ← hg2] at s0
      unfold fC pC p0 at hW0
      dsimp only at hW0
      rw [← hW0, ← hg2]
      clear hW0 hg2
      obtain ⟨x0, x1, x2, x3, x4, x5, x6, x7, x8, x9, x10, x11, x12, x13, x14, x15, x16⟩ := s0.out.X.cells
      go_wp2_with fail
      refine (rplan_any 9 0 1 _).mono ?_
      rintro e w1 ⟨rfl, hb⟩
      have s9 := hide (s0.out.below hb)
      clear hb
      go_wp2_with (refine wpList_store_row rfl 28 _ _ rfl (g2 + 1) (pC ⟨9, 0, 0, 0, 1⟩) rfl rfl 28 _ s9.out.Z (by kernel_rfl) rfl (by kernel_rfl) ?_)
      exact ret_pi (p := ⟨9, 0, 0, 0, 1⟩) rfl rfl rfl rfl (S3.ret s9.out (⟨9, 0, 0, 0, 1⟩ : P5)).Z ⟨rfl, (S3.ret s9.out (⟨9, 0, 0, 0, 1⟩ : P5)).K⟩
    · have s0 := hide (S3.new w ⟨wr, rg, pr, sh, fi, be, bu, en, wb, tr, true, true, ca, ba, di, fu, mi⟩)
      go_enter Try.func28, Try.ntmps28
      go_upto_region 1 with fail
      obtain ⟨W0, hW0⟩ : ∃ W0, W0 = (w.alloc (.cells (fC ⟨wr, rg, pr, sh, fi, be, bu, en, wb, tr, true, true, ca, ba, di, fu, mi⟩) 23)).alloc (.cells (pC p0) 28) := ⟨_, rfl⟩
      obtain ⟨g2, hg2⟩ : ∃ g2, g2 = w.heap.size := ⟨_, rfl⟩
      rw [← hW0, ← hg2] at s0
      unfold fC pC p0 at hW0
      dsimp only at hW0
      rw [← hW0, ← hg2]
      clear hW0 hg2
      obtain ⟨x0, x1, x2, x3, x4, x5, x6, x7, x8, x9, x10, x11, x12, x13, x14, x15, x16⟩ := s0.out.X.cells
      go_wp2_with fail
      refine (rplan_any 8 0 0 _).mono ?_
      rintro e w1 ⟨rfl, hb⟩
      have s9 := hide (s0.out.below hb)
      clear hb
      go_wp2_with (refine wpList_store_row rfl 28 _ _ rfl (g2 + 1) (pC ⟨8, 0, 0, 0, 0⟩) rfl rfl 28 _ s9.out.Z (by kernel_rfl) rfl (by kernel_rfl) ?_)
      exact ret_pi (p := ⟨8, 0, 0, 0, 0⟩) rfl rfl rfl rfl (S3.ret s9.out (⟨8, 0, 0, 0, 0⟩ : P5)).Z ⟨rfl, (S3.ret s9.out (⟨8, 0, 0, 0, 0⟩ : P5)).K⟩
end Go.Proofs.Ytkcopcmoaloecaa.Fp
