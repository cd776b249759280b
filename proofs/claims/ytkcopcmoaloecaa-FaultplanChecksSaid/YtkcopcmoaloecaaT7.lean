import Derived.Test.YtkcopcmoaloecaaT5
import Derived.Laws.Tables
namespace Go.Proofs.Ytkcopcmoaloecaa.Fp
open Go Go.RowKit
set_option linter.unusedVariables false
set_option linter.unusedSimpArgs false
theorem bal2 (w : World) (a b : Obj) : Below w.heap.size w ((w.alloc a).alloc b) := bal (bal (brefl w) a) b
theorem ret_c1 {fn : Func} {a : Act} {W : World} {g k : Nat} {c : Fc} {Q : Ending → World → Prop} (hr : fn.results = #[.cell k 23]) (h2 : a.tmps.getD k undef = .pointer (some ⟨g, 0, none⟩)) (hd : a.defers = [])
    (hE : CB W g c) (hq : Q (.returned (fV c)) W) : bodyPost Try.prog fn Q .ret a W :=
  bodyPost_ret (results_cell_row hr _ W g 23 _ (0, 0) _ h2 hE Try.underlying23 rfl (by kernel_rfl)) hd hq
/-- a case in a box, and the box of the result -/
structure S2 (w W : World) (g h : Nat) (c d : Fc) : Prop where
  K : Below w.heap.size w W
  lg : w.heap.size ≤ g
  lh : w.heap.size ≤ h
  ne : g ≠ h
  X : CB W g c
  Z : CB W h d
theorem S2.put {w W : World} {g h : Nat} {c d : Fc} (s : S2 w W g h c d) (i : Nat) (u : Value) (c' : Fc) (e : fC c' = (fC c).setIfInBounds i u) : S2 w (W.setCell ⟨g, i, none⟩ u) g h c' d :=
  ⟨bset s.K s.lg u, s.lg, s.lh, s.ne, by unfold CB; rw [e]; exact Box.put s.X i u, Box.far s.Z s.ne.symm u⟩
theorem S2.ret {w W : World} {g h : Nat} {c d : Fc} (s : S2 w W g h c d) (x : Fc) : S2 w (W.setRow h (fC x)) g h c x :=
  ⟨row_below2 s.K s.lh, s.lg, s.lh, s.ne, box_row_far s.X s.ne, box_row s.Z⟩
theorem S2.new (w : World) (c : Fc) : S2 w ((w.alloc (.cells (fC c) 23)).alloc (.cells (fC c0) 23)) w.heap.size (w.heap.size + 1) c c0 :=
  ⟨bal2 w _ _, Nat.le_refl _, Nat.le_succ _, (Nat.succ_ne_self _).symm, Box.more (Box.new w 23 _) _, Box.new2 w _ 23 _⟩
set_option maxHeartbeats 8000000 in
theorem awaited_any (wr rg : Bool) (pr : Int) (sh fi be bu : Bool) (en : Int) (wb tr ow on ca ba di fu : Bool) (mi : Int) (x : Int) (w : World) : Calls Try.prog 51 #[.agg #[.bool wr, .bool rg, .int .i64 pr, .bool sh, .bool fi, .bool be, .bool bu, .int .i64 en, .bool wb, .bool tr, .bool ow, .bool on, .bool ca, .bool ba, .bool di, .bool fu, .int .i64 mi], .int .i64 x] w fun e w' => e = .returned (fV (aw ⟨wr, rg, pr, sh, fi, be, bu, en, wb, tr, ow, on, ca, ba, di, fu, mi⟩ x)) ∧ Below w.heap.size w w' := by
  by_cases h4 : x = 4
  · subst h4
    have s0 := hide (S2.new w ⟨wr, rg, pr, sh, fi, be, bu, en, wb, tr, ow, on, ca, ba, di, fu, mi⟩)
    go_enter Try.func51, Try.ntmps51
    go_upto_region 1 with fail
    obtain ⟨W0, hW0⟩ : ∃ W0, W0 = (w.alloc (.cells (fC ⟨wr, rg, pr, sh, fi, be, bu, en, wb, tr, ow, on, ca, ba, di, fu, mi⟩) 23)).alloc (.cells (fC c0) 23) := ⟨_, rfl⟩
    obtain ⟨g2, hg2⟩ : ∃ g2, g2 = w.heap.size := ⟨_, rfl⟩
    rw [← hW0, ← hg2] at s0
    unfold fC c0 at hW0
    dsimp only at hW0
    rw [← hW0, ← hg2]
    clear hW0 hg2
    obtain ⟨x0, x1, x2, x3, x4, x5, x6, x7, x8, x9, x10, x11, x12, x13, x14, x15, x16⟩ := s0.out.X.cells
    obtain ⟨y0, y1, y2, y3, y4, y5, y6, y7, y8, y9, y10, y11, y12, y13, y14, y15, y16⟩ := s0.out.X.free
    have s1 := hide (s0.out.put 6 (.bool false) ⟨wr, rg, pr, sh, fi, be, false, en, wb, tr, ow, on, ca, ba, di, fu, mi⟩ rfl)
    go_wp2_with (first | (refine wpList_load_row rfl 23 _ rfl g2 rfl 23 _ (0, 0) _ s1.out.X Try.underlying23 rfl (by kernel_rfl) ?_) | (refine wpList_store_row rfl 23 _ _ rfl (g2 + 1) (fC ⟨wr, rg, pr, sh, fi, be, false, en, wb, tr, ow, on, ca, ba, di, fu, mi⟩) rfl rfl 23 _ s1.out.Z (by kernel_rfl) rfl (by kernel_rfl) ?_))
    exact ret_c1 rfl rfl rfl (s1.out.ret _).Z ⟨rfl, (s1.out.ret _).K⟩
  by_cases h3 : x = 3
  · subst h3
    by_cases h5 : en = 3
    · subst h5
      have s0 := hide (S2.new w ⟨wr, rg, pr, sh, fi, be, bu, 3, wb, tr, ow, on, ca, ba, di, fu, mi⟩)
      go_enter Try.func51, Try.ntmps51
      go_upto_region 1 with fail
      obtain ⟨W0, hW0⟩ : ∃ W0, W0 = (w.alloc (.cells (fC ⟨wr, rg, pr, sh, fi, be, bu, 3, wb, tr, ow, on, ca, ba, di, fu, mi⟩) 23)).alloc (.cells (fC c0) 23) := ⟨_, rfl⟩
      obtain ⟨g2, hg2⟩ : ∃ g2, g2 = w.heap.size := ⟨_, rfl⟩
      rw [← hW0, ← hg2] at s0
      unfold fC c0 at hW0
      dsimp only at hW0
      rw [← hW0, ← hg2]
      clear hW0 hg2
      obtain ⟨x0, x1, x2, x3, x4, x5, x6, x7, x8, x9, x10, x11, x12, x13, x14, x15, x16⟩ := s0.out.X.cells
      obtain ⟨y0, y1, y2, y3, y4, y5, y6, y7, y8, y9, y10, y11, y12, y13, y14, y15, y16⟩ := s0.out.X.free
      have s1 := hide (s0.out.put 9 (.bool false) ⟨wr, rg, pr, sh, fi, be, bu, 3, wb, false, ow, on, ca, ba, di, fu, mi⟩ rfl)
      have s2 := hide (s1.out.put 7 (.int .i64 1) ⟨wr, rg, pr, sh, fi, be, bu, 1, wb, false, ow, on, ca, ba, di, fu, mi⟩ rfl)
      go_wp2_with (first | (refine wpList_load_row rfl 23 _ rfl g2 rfl 23 _ (0, 0) _ s2.out.X Try.underlying23 rfl (by kernel_rfl) ?_) | (refine wpList_store_row rfl 23 _ _ rfl (g2 + 1) (fC ⟨wr, rg, pr, sh, fi, be, bu, 1, wb, false, ow, on, ca, ba, di, fu, mi⟩) rfl rfl 23 _ s2.out.Z (by kernel_rfl) rfl (by kernel_rfl) ?_))
      exact ret_c1 rfl rfl rfl (s2.out.ret _).Z ⟨rfl, (s2.out.ret _).K⟩
    have e0 : aw ⟨wr, rg, pr, sh, fi, be, bu, en, wb, tr, ow, on, ca, ba, di, fu, mi⟩ 3 = ⟨wr, rg, pr, sh, fi, be, bu, en, wb, false, ow, on, ca, ba, di, fu, mi⟩ := by simp [aw, h5]
    rw [e0]
    clear e0
    have s0 := hide (S2.new w ⟨wr, rg, pr, sh, fi, be, bu, en, wb, tr, ow, on, ca, ba, di, fu, mi⟩)
    go_enter Try.func51, Try.ntmps51
    go_upto_region 1 with fail
    obtain ⟨W0, hW0⟩ : ∃ W0, W0 = (w.alloc (.cells (fC ⟨wr, rg, pr, sh, fi, be, bu, en, wb, tr, ow, on, ca, ba, di, fu, mi⟩) 23)).alloc (.cells (fC c0) 23) := ⟨_, rfl⟩
    obtain ⟨g2, hg2⟩ : ∃ g2, g2 = w.heap.size := ⟨_, rfl⟩
    rw [← hW0, ← hg2] at s0
    unfold fC c0 at hW0
    dsimp only at hW0
    rw [← hW0, ← hg2]
    clear hW0 hg2
    obtain ⟨x0, x1, x2, x3, x4, x5, x6, x7, x8, x9, x10, x11, x12, x13, x14, x15, x16⟩ := s0.out.X.cells
    obtain ⟨y0, y1, y2, y3, y4, y5, y6, y7, y8, y9, y10, y11, y12, y13, y14, y15, y16⟩ := s0.out.X.free
    have s1 := hide (s0.out.put 9 (.bool false) ⟨wr, rg, pr, sh, fi, be, bu, en, wb, false, ow, on, ca, ba, di, fu, mi⟩ rfl)
    go_wp2_with (first | (refine wpList_load_row rfl 23 _ rfl g2 rfl 23 _ (0, 0) _ s1.out.X Try.underlying23 rfl (by kernel_rfl) ?_) | (refine wpList_store_row rfl 23 _ _ rfl (g2 + 1) (fC ⟨wr, rg, pr, sh, fi, be, bu, en, wb, false, ow, on, ca, ba, di, fu, mi⟩) rfl rfl 23 _ s1.out.Z (by kernel_rfl) rfl (by kernel_rfl) ?_))
    exact ret_c1 rfl rfl rfl (s1.out.ret _).Z ⟨rfl, (s1.out.ret _).K⟩
  by_cases h5 : x = 5
  · subst h5
    have s0 := hide (S2.new w ⟨wr, rg, pr, sh, fi, be, bu, en, wb, tr, ow, on, ca, ba, di, fu, mi⟩)
    go_enter Try.func51, Try.ntmps51
    go_upto_region 1 with fail
    obtain ⟨W0, hW0⟩ : ∃ W0, W0 = (w.alloc (.cells (fC ⟨wr, rg, pr, sh, fi, be, bu, en, wb, tr, ow, on, ca, ba, di, fu, mi⟩) 23)).alloc (.cells (fC c0) 23) := ⟨_, rfl⟩
    obtain ⟨g2, hg2⟩ : ∃ g2, g2 = w.heap.size := ⟨_, rfl⟩
    rw [← hW0, ← hg2] at s0
    unfold fC c0 at hW0
    dsimp only at hW0
    rw [← hW0, ← hg2]
    clear hW0 hg2
    obtain ⟨x0, x1, x2, x3, x4, x5, x6, x7, x8, x9, x10, x11, x12, x13, x14, x15, x16⟩ := s0.out.X.cells
    obtain ⟨y0, y1, y2, y3, y4, y5, y6, y7, y8, y9, y10, y11, y12, y13, y14, y15, y16⟩ := s0.out.X.free
    have s1 := hide (s0.out.put 15 (.bool false) ⟨wr, rg, pr, sh, fi, be, bu, en, wb, tr, ow, on, ca, ba, di, false, mi⟩ rfl)
    go_wp2_with (first | (refine wpList_load_row rfl 23 _ rfl g2 rfl 23 _ (0, 0) _ s1.out.X Try.underlying23 rfl (by kernel_rfl) ?_) | (refine wpList_store_row rfl 23 _ _ rfl (g2 + 1) (fC ⟨wr, rg, pr, sh, fi, be, bu, en, wb, tr, ow, on, ca, ba, di, false, mi⟩) rfl rfl 23 _ s1.out.Z (by kernel_rfl) rfl (by kernel_rfl) ?_))
    exact ret_c1 rfl rfl rfl (s1.out.ret _).Z ⟨rfl, (s1.out.ret _).K⟩
  have e0 : aw ⟨wr, rg, pr, sh, fi, be, bu, en, wb, tr, ow, on, ca, ba, di, fu, mi⟩ x = ⟨wr, rg, pr, sh, fi, be, bu, en, wb, tr, ow, on, ca, ba, di, fu, mi⟩ := by simp [aw, h3, h4, h5]
  rw [e0]
  clear e0
  have s0 := hide (S2.new w ⟨wr, rg, pr, sh, fi, be, bu, en, wb, tr, ow, on, ca, ba, di, fu, mi⟩)
  go_enter Try.func51, Try.ntmps51
  go_upto_region 1 with fail
  obtain ⟨W0, hW0⟩ : ∃ W0, W0 = (w.alloc (.cells (fC ⟨wr, rg, pr, sh, fi, be, bu, en, wb, tr, ow, on, ca, ba, di, fu, mi⟩) 23)).alloc (.cells (fC c0) 23) := ⟨_, rfl⟩
  obtain ⟨g2, hg2⟩ : ∃ g2, g2 = w.heap.size := ⟨_, rfl⟩
  rw [← hW0, ← hg2] at s0
  unfold fC c0 at hW0
  dsimp only at hW0
  rw [← hW0, ← hg2]
  clear hW0 hg2
  obtain ⟨x0, x1, x2, x3, x4, x5, x6, x7, x8, x9, x10, x11, x12, x13, x14, x15, x16⟩ := s0.out.X.cells
  obtain ⟨y0, y1, y2, y3, y4, y5, y6, y7, y8, y9, y10, y11, y12, y13, y14, y15, y16⟩ := s0.out.X.free
  go_wp2_with (first | (refine wpList_load_row rfl 23 _ rfl g2 rfl 23 _ (0, 0) _ s0.out.X Try.underlying23 rfl (by kernel_rfl) ?_) | (refine wpList_store_row rfl 23 _ _ rfl (g2 + 1) (fC ⟨wr, rg, pr, sh, fi, be, bu, en, wb, tr, ow, on, ca, ba, di, fu, mi⟩) rfl rfl 23 _ s0.out.Z (by kernel_rfl) rfl (by kernel_rfl) ?_))
  exact ret_c1 rfl rfl rfl (s0.out.ret _).Z ⟨rfl, (s0.out.ret _).K⟩
end Go.Proofs.Ytkcopcmoaloecaa.Fp
