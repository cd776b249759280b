import Derived.Test.YtimclgmajhhheaaR3
namespace Go.Proofs.Ytimclgmajhhheaa.Rg
open Go Go.RowKit Ac
set_option linter.unusedVariables false
set_option linter.unusedSimpArgs false
theorem RB.set0 {w : World} {g : Nat} {st pg pr fl fi ix : Int} (h : RB w g ⟨st, pg, pr, fl, fi, ix⟩) (z : Int) : RB (w.setCell ⟨g, 0, none⟩ (.int .i64 z)) g ⟨z, pg, pr, fl, fi, ix⟩ := Box.put h 0 _
theorem RB.set1 {w : World} {g : Nat} {st pg pr fl fi ix : Int} (h : RB w g ⟨st, pg, pr, fl, fi, ix⟩) (z : Int) : RB (w.setCell ⟨g, 1, none⟩ (.int .i64 z)) g ⟨st, z, pr, fl, fi, ix⟩ := Box.put h 1 _
theorem RB.set3 {w : World} {g : Nat} {st pg pr fl fi ix : Int} (h : RB w g ⟨st, pg, pr, fl, fi, ix⟩) (z : Int) : RB (w.setCell ⟨g, 3, none⟩ (.int .i64 z)) g ⟨st, pg, pr, z, fi, ix⟩ := Box.put h 3 _
theorem RB.set5 {w : World} {g : Nat} {st pg pr fl fi ix : Int} (h : RB w g ⟨st, pg, pr, fl, fi, ix⟩) (z : Int) : RB (w.setCell ⟨g, 5, none⟩ (.int .i64 z)) g ⟨st, pg, pr, fl, fi, z⟩ := Box.put h 5 _
structure S5 (w0 w : World) (g b c : Nat) (x y z u t : R6) : Prop where
  k : Below w0.heap.size w0 w
  hg : w0.heap.size ≤ g
  h9 : g + 3 ≤ b
  h10 : g + 3 ≤ c
  hne : b ≠ c
  X : RB w g x
  Y : RB w (g + 1) y
  Z : RB w (g + 2) z
  U : RB w b u
  T : RB w c t
section
variable {w0 w w' : World} {g b c : Nat} {x y z u t u' : R6}
theorem S5.below (h : S5 w0 w g b c x y z u t) (hb : Below w.heap.size w w') : S5 w0 w' g b c x y z u t := ⟨btrans h.k hb, h.hg, h.h9, h.h10, h.hne, h.X.below hb, h.Y.below hb, h.Z.below hb, h.U.below hb, h.T.below hb⟩
theorem S5.setU (h : S5 w0 w g b c x y z u t) {i : Nat} {v : Value} (hU : RB (w.setCell ⟨b, i, none⟩ v) b u') : S5 w0 (w.setCell ⟨b, i, none⟩ v) g b c x y z u' t :=
  ⟨bset h.k (by have := h.hg; have := h.h9; show w0.heap.size ≤ b; omega) _, h.hg, h.h9, h.h10, h.hne, Box.far h.X (by have := h.h9; omega) _, Box.far h.Y (by have := h.h9; omega) _, Box.far h.Z (by have := h.h9; omega) _, hU, Box.far h.T (Ne.symm h.hne) _⟩
theorem S5.setT (h : S5 w0 w g b c x y z u t) {i : Nat} {v : Value} (hT : RB (w.setCell ⟨c, i, none⟩ v) c u') : S5 w0 (w.setCell ⟨c, i, none⟩ v) g b c x y z u u' :=
  ⟨bset h.k (by have := h.hg; have := h.h10; show w0.heap.size ≤ c; omega) _, h.hg, h.h9, h.h10, h.hne, Box.far h.X (by have := h.h10; omega) _, Box.far h.Y (by have := h.h10; omega) _, Box.far h.Z (by have := h.h10; omega) _, Box.far h.U h.hne _, hT⟩
end
theorem nog_g {f : Int} (h : f / 2 % 2 = 1) : nog f = f - 2 := by unfold nog; omega
theorem nog_n {f : Int} (h : ¬ f / 2 % 2 = 1) : nog f = f := by unfold nog; omega
set_option maxRecDepth 100000 in
set_option maxHeartbeats 8000000 in
theorem rsplit_any (st pg pr fl fi ix : Int) (w : World) (hp : pg ≤ 9223372036854775807) (p : Int) : Calls Try.prog 56 #[.agg #[.int .i64 st, .int .i64 pg, .int .i64 pr, .int .i64 fl, .int .i64 fi, .int .i64 ix], .int .i64 p] w (A3 (spA ⟨st, pg, pr, fl, fi, ix⟩ p) (spB ⟨st, pg, pr, fl, fi, ix⟩ p) (spE ⟨st, pg, pr, fl, fi, ix⟩ p) w) := by
  unfold A3
  have X := hide (show RB (((w.alloc (.cells #[.int .i64 st, .int .i64 pg, .int .i64 pr, .int .i64 fl, .int .i64 fi, .int .i64 ix] 58)).alloc (.cells #[.int .i64 0, .int .i64 0, .int .i64 0, .int .i64 0, .int .i64 0, .int .i64 0] 58)).alloc (.cells #[.int .i64 0, .int .i64 0, .int .i64 0, .int .i64 0, .int .i64 0, .int .i64 0] 58)) w.heap.size ⟨st, pg, pr, fl, fi, ix⟩ from Box.more (Box.more (Box.new w 58 #[.int .i64 st, .int .i64 pg, .int .i64 pr, .int .i64 fl, .int .i64 fi, .int .i64 ix]) (.cells #[.int .i64 0, .int .i64 0, .int .i64 0, .int .i64 0, .int .i64 0, .int .i64 0] 58)) (.cells #[.int .i64 0, .int .i64 0, .int .i64 0, .int .i64 0, .int .i64 0, .int .i64 0] 58))
  have Y := hide (show RB (((w.alloc (.cells #[.int .i64 st, .int .i64 pg, .int .i64 pr, .int .i64 fl, .int .i64 fi, .int .i64 ix] 58)).alloc (.cells #[.int .i64 0, .int .i64 0, .int .i64 0, .int .i64 0, .int .i64 0, .int .i64 0] 58)).alloc (.cells #[.int .i64 0, .int .i64 0, .int .i64 0, .int .i64 0, .int .i64 0, .int .i64 0] 58)) (w.heap.size + 1) ⟨0, 0, 0, 0, 0, 0⟩ from Box.more (Box.new2 w (.cells #[.int .i64 st, .int .i64 pg, .int .i64 pr, .int .i64 fl, .int .i64 fi, .int .i64 ix] 58) 58 #[.int .i64 0, .int .i64 0, .int .i64 0, .int .i64 0, .int .i64 0, .int .i64 0]) (.cells #[.int .i64 0, .int .i64 0, .int .i64 0, .int .i64 0, .int .i64 0, .int .i64 0] 58))
  have Z := hide (show RB (((w.alloc (.cells #[.int .i64 st, .int .i64 pg, .int .i64 pr, .int .i64 fl, .int .i64 fi, .int .i64 ix] 58)).alloc (.cells #[.int .i64 0, .int .i64 0, .int .i64 0, .int .i64 0, .int .i64 0, .int .i64 0] 58)).alloc (.cells #[.int .i64 0, .int .i64 0, .int .i64 0, .int .i64 0, .int .i64 0, .int .i64 0] 58)) (w.heap.size + 2) ⟨0, 0, 0, 0, 0, 0⟩ from Box.new3 w (.cells #[.int .i64 st, .int .i64 pg, .int .i64 pr, .int .i64 fl, .int .i64 fi, .int .i64 ix] 58) (.cells #[.int .i64 0, .int .i64 0, .int .i64 0, .int .i64 0, .int .i64 0, .int .i64 0] 58) 58 #[.int .i64 0, .int .i64 0, .int .i64 0, .int .i64 0, .int .i64 0, .int .i64 0])
  have K := hide (show Below w.heap.size w (((w.alloc (.cells #[.int .i64 st, .int .i64 pg, .int .i64 pr, .int .i64 fl, .int .i64 fi, .int .i64 ix] 58)).alloc (.cells #[.int .i64 0, .int .i64 0, .int .i64 0, .int .i64 0, .int .i64 0, .int .i64 0] 58)).alloc (.cells #[.int .i64 0, .int .i64 0, .int .i64 0, .int .i64 0, .int .i64 0, .int .i64 0] 58)) from bal3 w _ _ _)
  obtain ⟨W0, hW0⟩ : ∃ W0, W0 = ((w.alloc (.cells #[.int .i64 st, .int .i64 pg, .int .i64 pr, .int .i64 fl, .int .i64 fi, .int .i64 ix] 58)).alloc (.cells #[.int .i64 0, .int .i64 0, .int .i64 0, .int .i64 0, .int .i64 0, .int .i64 0] 58)).alloc (.cells #[.int .i64 0, .int .i64 0, .int .i64 0, .int .i64 0, .int .i64 0, .int .i64 0] 58) := ⟨_, rfl⟩
  rw [← hW0] at X Y Z K
  obtain ⟨g2, hg2⟩ : ∃ g2, g2 = w.heap.size := ⟨_, rfl⟩
  have HG := hide (show w.heap.size ≤ g2 by omega)
  rw [← hg2] at X Y Z
  have HW := hide hW0
  have HB := hide hg2
  clear hW0 hg2
  have Ca := hide (fun w => rcheck_any st pg pr fl fi ix w hp)
  by_cases ha : ckE ⟨st, pg, pr, fl, fi, ix⟩ = 0
  rotate_left 1
  · have E := hide (spE_a (p := p) ha)
    have ha2 := ne_bool ha
    generalize ckE ⟨st, pg, pr, fl, fi, ix⟩ = ca at *
    clear ha
    go_enter Try.func56, Try.ntmps56
    go_upto_region 1 with fail
    rw [← HW.out, ← HB.out]
    clear HW HB
    try clear x0 x1 x2 x3 x4 x5
    obtain ⟨x0, x1, x2, x3, x4, x5⟩ := X.out.cells
    try clear y0 y1 y2 y3 y4 y5
    obtain ⟨y0, y1, y2, y3, y4, y5⟩ := Y.out.cells
    try clear z0 z1 z2 z3 z4 z5
    obtain ⟨z0, z1, z2, z3, z4, z5⟩ := Z.out.cells
    go_wp2_with fail
    refine (Ca.out _).mono ?_
    rintro e w2 ⟨rfl, hb⟩
    replace K := hide (btrans K.out hb)
    replace X := hide (X.out.below hb)
    replace Y := hide (Y.out.below hb)
    replace Z := hide (Z.out.below hb)
    clear hb
    try clear x0 x1 x2 x3 x4 x5
    obtain ⟨x0, x1, x2, x3, x4, x5⟩ := X.out.cells
    try clear y0 y1 y2 y3 y4 y5
    obtain ⟨y0, y1, y2, y3, y4, y5⟩ := Y.out.cells
    try clear z0 z1 z2 z3 z4 z5
    obtain ⟨z0, z1, z2, z3, z4, z5⟩ := Z.out.cells
    obtain ⟨f0, f1, f2, f3, f4, f5⟩ := Z.out.free
    obtain ⟨q0, q1, q2, q3, q4, q5⟩ := Y.out.free
    go_wp2
    exact ret_r3 rfl rfl rfl rfl rfl (RB.far6 (RB.put6 Y.out) (by omega)) (RB.put6 (RB.far6 Z.out (by omega))) E.out ⟨rfl, bset6 (bset6 K.out (Nat.le_trans HG.out (Nat.le_add_right _ 1))) (Nat.le_trans HG.out (Nat.le_add_right _ 2))⟩
  have A0 := hide ha
  rw [ha] at Ca
  clear ha
  have hk := ok_iff.1 A0.out
  have o1 := hk.1.1
  have o2 := hk.2.1
  have o3 := hk.2.2.1
  have f0 := hk.1.2.1
  have f1 := hk.1.2.2.1
  have o4 := hk.2.2.2
  have o6 := hk.1.2.2.2.1
  dsimp only at o1 o2 o3 o4 f0 f1 o6
  have F2 := fun w => flag2 st pg pr fl fi ix w f0 f1
  by_cases h1 : p ≤ st
  · have E := hide (spE_b (p := p) A0.out (fun h => by dsimp only at h; omega))
    clear A0 hk o4 F2
    go_enter Try.func56, Try.ntmps56
    go_upto_region 1 with fail
    rw [← HW.out, ← HB.out]
    clear HW HB
    try clear x0 x1 x2 x3 x4 x5
    obtain ⟨x0, x1, x2, x3, x4, x5⟩ := X.out.cells
    try clear y0 y1 y2 y3 y4 y5
    obtain ⟨y0, y1, y2, y3, y4, y5⟩ := Y.out.cells
    try clear z0 z1 z2 z3 z4 z5
    obtain ⟨z0, z1, z2, z3, z4, z5⟩ := Z.out.cells
    go_wp2_with fail
    refine (Ca.out _).mono ?_
    rintro e w2 ⟨rfl, hb⟩
    replace K := hide (btrans K.out hb)
    replace X := hide (X.out.below hb)
    replace Y := hide (Y.out.below hb)
    replace Z := hide (Z.out.below hb)
    clear hb
    try clear x0 x1 x2 x3 x4 x5
    obtain ⟨x0, x1, x2, x3, x4, x5⟩ := X.out.cells
    try clear y0 y1 y2 y3 y4 y5
    obtain ⟨y0, y1, y2, y3, y4, y5⟩ := Y.out.cells
    try clear z0 z1 z2 z3 z4 z5
    obtain ⟨z0, z1, z2, z3, z4, z5⟩ := Z.out.cells
    obtain ⟨f0, f1, f2, f3, f4, f5⟩ := Z.out.free
    obtain ⟨q0, q1, q2, q3, q4, q5⟩ := Y.out.free
    go_wp2
    exact ret_r3 rfl rfl rfl rfl rfl (RB.far6 (RB.put6 Y.out) (by omega)) (RB.put6 (RB.far6 Z.out (by omega))) E.out ⟨rfl, bset6 (bset6 K.out (Nat.le_trans HG.out (Nat.le_add_right _ 1))) (Nat.le_trans HG.out (Nat.le_add_right _ 2))⟩
  by_cases h2 : st + pg ≤ p
  · have E := hide (spE_b (p := p) A0.out (fun h => by dsimp only at h; omega))
    clear A0 hk o4 F2
    go_enter Try.func56, Try.ntmps56
    go_upto_region 1 with fail
    rw [← HW.out, ← HB.out]
    clear HW HB
    try clear x0 x1 x2 x3 x4 x5
    obtain ⟨x0, x1, x2, x3, x4, x5⟩ := X.out.cells
    try clear y0 y1 y2 y3 y4 y5
    obtain ⟨y0, y1, y2, y3, y4, y5⟩ := Y.out.cells
    try clear z0 z1 z2 z3 z4 z5
    obtain ⟨z0, z1, z2, z3, z4, z5⟩ := Z.out.cells
    go_wp2_with fail
    refine (Ca.out _).mono ?_
    rintro e w2 ⟨rfl, hb⟩
    replace K := hide (btrans K.out hb)
    replace X := hide (X.out.below hb)
    replace Y := hide (Y.out.below hb)
    replace Z := hide (Z.out.below hb)
    clear hb
    try clear x0 x1 x2 x3 x4 x5
    obtain ⟨x0, x1, x2, x3, x4, x5⟩ := X.out.cells
    try clear y0 y1 y2 y3 y4 y5
    obtain ⟨y0, y1, y2, y3, y4, y5⟩ := Y.out.cells
    try clear z0 z1 z2 z3 z4 z5
    obtain ⟨z0, z1, z2, z3, z4, z5⟩ := Z.out.cells
    obtain ⟨f0, f1, f2, f3, f4, f5⟩ := Z.out.free
    obtain ⟨q0, q1, q2, q3, q4, q5⟩ := Y.out.free
    go_wp2
    exact ret_r3 rfl rfl rfl rfl rfl (RB.far6 (RB.put6 Y.out) (by omega)) (RB.put6 (RB.far6 Z.out (by omega))) E.out ⟨rfl, bset6 (bset6 K.out (Nat.le_trans HG.out (Nat.le_add_right _ 1))) (Nat.le_trans HG.out (Nat.le_add_right _ 2))⟩
  have E := spE_0 A0.out (show st < p ∧ p < st + pg by omega)
  unfold lowR uppR at E
  dsimp only at E
  clear A0 hk
  by_cases h4 : fi = -1
  · rw [if_pos h4] at E
    have h5 : fi < 0 := by omega
    clear o4
    replace h4 := hide h4
    by_cases h6 : fl / 2 % 2 = 1
    · rw [nog_g h6] at E
      rw [decide_eq_true h6] at F2
      replace E := hide E
      replace F2 := hide F2
      have f2 : 2 ≤ fl := by omega
      replace h6 := hide h6
      have HS := hide (show g2 + 3 ≤ W0.heap.size by rw [HW.out, HB.out]; simp)
      go_enter Try.func56, Try.ntmps56
      go_upto_region 1 with fail
      rw [← HW.out, ← HB.out]
      clear HW HB
      try clear x0 x1 x2 x3 x4 x5
      obtain ⟨x0, x1, x2, x3, x4, x5⟩ := X.out.cells
      try clear y0 y1 y2 y3 y4 y5
      obtain ⟨y0, y1, y2, y3, y4, y5⟩ := Y.out.cells
      try clear z0 z1 z2 z3 z4 z5
      obtain ⟨z0, z1, z2, z3, z4, z5⟩ := Z.out.cells
      go_wp2_with fail
      refine (Ca.out _).mono ?_
      rintro e w2 ⟨rfl, hb⟩
      replace K := hide (btrans K.out hb)
      replace X := hide (X.out.below hb)
      replace Y := hide (Y.out.below hb)
      replace Z := hide (Z.out.below hb)
      replace HS := hide (Nat.le_trans HS.out hb.size)
      clear hb
      try clear x0 x1 x2 x3 x4 x5
      obtain ⟨x0, x1, x2, x3, x4, x5⟩ := X.out.cells
      try clear y0 y1 y2 y3 y4 y5
      obtain ⟨y0, y1, y2, y3, y4, y5⟩ := Y.out.cells
      try clear z0 z1 z2 z3 z4 z5
      obtain ⟨z0, z1, z2, z3, z4, z5⟩ := Z.out.cells
      go_upto_region 7 with fail
      replace K := hide (show Below w.heap.size w w2.drew from btrans K.out (below_drewN (brefl _) 1))
      replace X := hide X.out.drew
      replace Y := hide Y.out.drew
      replace Z := hide Z.out.drew
      replace HS := hide (show g2 + 3 ≤ w2.drew.heap.size from HS.out)
      clear x0 x1 x2 x3 x4 x5 y0 y1 y2 y3 y4 y5 z0 z1 z2 z3 z4 z5
      refine wp_region_noPanic ?_
      refine wp_region_held_drew (S := (fun W => W.cell? ⟨g2, 0, none⟩ = some (.int .i64 st) ∧ W.cell? ⟨g2, 1, none⟩ = some (.int .i64 pg) ∧ W.cell? ⟨g2, 2, none⟩ = some (.int .i64 pr) ∧ W.cell? ⟨g2, 3, none⟩ = some (.int .i64 fl) ∧ W.cell? ⟨g2, 4, none⟩ = some (.int .i64 fi) ∧ W.cell? ⟨g2, 5, none⟩ = some (.int .i64 ix))) (by kernel_rfl) ?_ (fun hHeld => ?_)
      · exact X.out.cells
      generalize w2.drew = w4 at *
      refine wpAnyH_take (i := 0) (oi := ⟨some 37, _, _, _, _, _⟩) (v := ?_) rfl (by kernel_rfl) (by kernel_rfl) (by kernel_rfl) (fun _ _ _ h => h) (Or.inl ⟨by kernel_rfl, ?_⟩) (by assumption) ?_
      rotate_left 1
      · (intro w hSw; (try dsimp only at hSw); go_simp) <;> (with_reducible rfl)
      (try simp only [Act.put, List.setIfInBounds_toArray, List.set_cons_succ, List.set_cons_zero])
      refine wpAnyH_take (i := 1) (oi := ⟨some 38, _, _, _, _, _⟩) (v := ?_) rfl (by kernel_rfl) (by kernel_rfl) (by kernel_rfl) (fun _ _ _ h => h) (Or.inl ⟨by kernel_rfl, ?_⟩) (by assumption) ?_
      rotate_left 1
      · (intro w hSw; (try dsimp only at hSw); go_simp) <;> (with_reducible rfl)
      (try simp only [Act.put, List.setIfInBounds_toArray, List.set_cons_succ, List.set_cons_zero])
      refine wpAnyH_ready (rs := [2, 3]) (by kernel_rfl) (by simp) ?_
      refine AllReadyH.cons (o := ⟨some 9, _, _, _, _, _⟩) rfl (fun K' hK => ?_) ?_
      · go_simp
        have U := hide (RB.new w4 0 0 0 0 0 0)
        have M := bal (brefl w4) (.cells #[.int .i64 0, .int .i64 0, .int .i64 0, .int .i64 0, .int .i64 0, .int .i64 0] 58)
        have HC0 := HS.out
        replace K := hide (btrans K.out M)
        replace X := hide (X.out.below M)
        replace Y := hide (Y.out.below M)
        replace Z := hide (Z.out.below M)
        replace HS := hide (Nat.le_trans HS.out M.size)
        obtain ⟨b9, hcb⟩ : ∃ q, q = w4.heap.size := ⟨_, rfl⟩
        have H9 := hide (show g2 + 3 ≤ b9 by omega)
        rw [← hcb] at U ⊢
        clear hcb HC0 M
        generalize w4.alloc (.cells #[.int .i64 0, .int .i64 0, .int .i64 0, .int .i64 0, .int .i64 0, .int .i64 0] 58) = wa at *
        refine hK.out _ _ ?_ (fun hHeld => ?_)
        · exact X.out.cells
        clear hK K'
        (try simp only [Act.put, List.setIfInBounds_toArray, List.set_cons_succ, List.set_cons_zero])
        refine wpAnyH_ready (rs := [3]) (by kernel_rfl) (by simp) ?_
        refine AllReadyH.cons (o := ⟨some 10, _, _, _, _, _⟩) rfl (fun K' hK => ?_) AllReadyH.nil
        go_simp
        have T := hide (RB.new wa 0 0 0 0 0 0)
        have M := bal (brefl wa) (.cells #[.int .i64 0, .int .i64 0, .int .i64 0, .int .i64 0, .int .i64 0, .int .i64 0] 58)
        have HC0 := HS.out
        have LU := U.out.lt
        replace K := hide (btrans K.out M)
        replace X := hide (X.out.below M)
        replace Y := hide (Y.out.below M)
        replace Z := hide (Z.out.below M)
        replace U := hide (U.out.below M)
        replace HS := hide (Nat.le_trans HS.out M.size)
        obtain ⟨b10, hcb⟩ : ∃ q, q = wa.heap.size := ⟨_, rfl⟩
        have H10 := hide (show g2 + 3 ≤ b10 by omega)
        have HN := hide (show b9 ≠ b10 by omega)
        rw [← hcb] at T ⊢
        clear hcb HC0 M LU
        generalize wa.alloc (.cells #[.int .i64 0, .int .i64 0, .int .i64 0, .int .i64 0, .int .i64 0, .int .i64 0] 58) = wb at *
        refine hK.out _ _ ?_ (fun hHeld => ?_)
        · exact X.out.cells
        clear hK K'
        (try simp only [Act.put, List.setIfInBounds_toArray, List.set_cons_succ, List.set_cons_zero])
        refine wpAnyH_ready (rs := [4]) (by kernel_rfl) (by simp) ?_
        refine AllReadyH.cons (o := ⟨none, _, _, _, _, _⟩) rfl (fun K' hK => ?_) AllReadyH.nil
        obtain ⟨c0, c1, c2, c3, c4, c5⟩ := RB.cells U.out
        obtain ⟨q0, q1, q2, q3, q4, q5⟩ := RB.free U.out
        go_simp
        have i9 := H9.out
        have iN := HN.out
        have iG := HG.out
        replace K := hide (show Below w.heap.size w ((((((wb.setCell ⟨b9, 0, none⟩ (.int .i64 st)).setCell ⟨b9, 1, none⟩ (.int .i64 pg)).setCell ⟨b9, 2, none⟩ (.int .i64 pr)).setCell ⟨b9, 3, none⟩ (.int .i64 fl)).setCell ⟨b9, 4, none⟩ (.int .i64 fi)).setCell ⟨b9, 5, none⟩ (.int .i64 ix)) from bset6 K.out (by omega))
        replace X := hide (show RB ((((((wb.setCell ⟨b9, 0, none⟩ (.int .i64 st)).setCell ⟨b9, 1, none⟩ (.int .i64 pg)).setCell ⟨b9, 2, none⟩ (.int .i64 pr)).setCell ⟨b9, 3, none⟩ (.int .i64 fl)).setCell ⟨b9, 4, none⟩ (.int .i64 fi)).setCell ⟨b9, 5, none⟩ (.int .i64 ix)) g2 ⟨st, pg, pr, fl, fi, ix⟩ from RB.far6 X.out (by omega))
        replace Y := hide (show RB ((((((wb.setCell ⟨b9, 0, none⟩ (.int .i64 st)).setCell ⟨b9, 1, none⟩ (.int .i64 pg)).setCell ⟨b9, 2, none⟩ (.int .i64 pr)).setCell ⟨b9, 3, none⟩ (.int .i64 fl)).setCell ⟨b9, 4, none⟩ (.int .i64 fi)).setCell ⟨b9, 5, none⟩ (.int .i64 ix)) (g2 + 1) ⟨0, 0, 0, 0, 0, 0⟩ from RB.far6 Y.out (by omega))
        replace Z := hide (show RB ((((((wb.setCell ⟨b9, 0, none⟩ (.int .i64 st)).setCell ⟨b9, 1, none⟩ (.int .i64 pg)).setCell ⟨b9, 2, none⟩ (.int .i64 pr)).setCell ⟨b9, 3, none⟩ (.int .i64 fl)).setCell ⟨b9, 4, none⟩ (.int .i64 fi)).setCell ⟨b9, 5, none⟩ (.int .i64 ix)) (g2 + 2) ⟨0, 0, 0, 0, 0, 0⟩ from RB.far6 Z.out (by omega))
        replace T := hide (show RB ((((((wb.setCell ⟨b9, 0, none⟩ (.int .i64 st)).setCell ⟨b9, 1, none⟩ (.int .i64 pg)).setCell ⟨b9, 2, none⟩ (.int .i64 pr)).setCell ⟨b9, 3, none⟩ (.int .i64 fl)).setCell ⟨b9, 4, none⟩ (.int .i64 fi)).setCell ⟨b9, 5, none⟩ (.int .i64 ix)) b10 ⟨0, 0, 0, 0, 0, 0⟩ from RB.far6 T.out (by omega))
        replace U := hide (show RB ((((((wb.setCell ⟨b9, 0, none⟩ (.int .i64 st)).setCell ⟨b9, 1, none⟩ (.int .i64 pg)).setCell ⟨b9, 2, none⟩ (.int .i64 pr)).setCell ⟨b9, 3, none⟩ (.int .i64 fl)).setCell ⟨b9, 4, none⟩ (.int .i64 fi)).setCell ⟨b9, 5, none⟩ (.int .i64 ix)) b9 ⟨st, pg, pr, fl, fi, ix⟩ from RB.put6 U.out)
        clear c0 c1 c2 c3 c4 c5 q0 q1 q2 q3 q4 q5 i9 iN iG
        generalize ((((((wb.setCell ⟨b9, 0, none⟩ (.int .i64 st)).setCell ⟨b9, 1, none⟩ (.int .i64 pg)).setCell ⟨b9, 2, none⟩ (.int .i64 pr)).setCell ⟨b9, 3, none⟩ (.int .i64 fl)).setCell ⟨b9, 4, none⟩ (.int .i64 fi)).setCell ⟨b9, 5, none⟩ (.int .i64 ix)) = wu at *
        refine hK.out _ _ ?_ (fun hHeld => ?_)
        · exact X.out.cells
        clear hK K'
        (try simp only [Act.put, List.setIfInBounds_toArray, List.set_cons_succ, List.set_cons_zero])
        refine wpAnyH_ready (rs := [5]) (by kernel_rfl) (by simp) ?_
        refine AllReadyH.cons (o := ⟨none, _, _, _, _, _⟩) rfl (fun K' hK => ?_) AllReadyH.nil
        obtain ⟨c0, c1, c2, c3, c4, c5⟩ := RB.cells T.out
        obtain ⟨q0, q1, q2, q3, q4, q5⟩ := RB.free T.out
        go_simp
        have i9 := H10.out
        have iN := HN.out
        have iG := HG.out
        replace K := hide (show Below w.heap.size w ((((((wu.setCell ⟨b10, 0, none⟩ (.int .i64 st)).setCell ⟨b10, 1, none⟩ (.int .i64 pg)).setCell ⟨b10, 2, none⟩ (.int .i64 pr)).setCell ⟨b10, 3, none⟩ (.int .i64 fl)).setCell ⟨b10, 4, none⟩ (.int .i64 fi)).setCell ⟨b10, 5, none⟩ (.int .i64 ix)) from bset6 K.out (by omega))
        replace X := hide (show RB ((((((wu.setCell ⟨b10, 0, none⟩ (.int .i64 st)).setCell ⟨b10, 1, none⟩ (.int .i64 pg)).setCell ⟨b10, 2, none⟩ (.int .i64 pr)).setCell ⟨b10, 3, none⟩ (.int .i64 fl)).setCell ⟨b10, 4, none⟩ (.int .i64 fi)).setCell ⟨b10, 5, none⟩ (.int .i64 ix)) g2 ⟨st, pg, pr, fl, fi, ix⟩ from RB.far6 X.out (by omega))
        replace Y := hide (show RB ((((((wu.setCell ⟨b10, 0, none⟩ (.int .i64 st)).setCell ⟨b10, 1, none⟩ (.int .i64 pg)).setCell ⟨b10, 2, none⟩ (.int .i64 pr)).setCell ⟨b10, 3, none⟩ (.int .i64 fl)).setCell ⟨b10, 4, none⟩ (.int .i64 fi)).setCell ⟨b10, 5, none⟩ (.int .i64 ix)) (g2 + 1) ⟨0, 0, 0, 0, 0, 0⟩ from RB.far6 Y.out (by omega))
        replace Z := hide (show RB ((((((wu.setCell ⟨b10, 0, none⟩ (.int .i64 st)).setCell ⟨b10, 1, none⟩ (.int .i64 pg)).setCell ⟨b10, 2, none⟩ (.int .i64 pr)).setCell ⟨b10, 3, none⟩ (.int .i64 fl)).setCell ⟨b10, 4, none⟩ (.int .i64 fi)).setCell ⟨b10, 5, none⟩ (.int .i64 ix)) (g2 + 2) ⟨0, 0, 0, 0, 0, 0⟩ from RB.far6 Z.out (by omega))
        replace U := hide (show RB ((((((wu.setCell ⟨b10, 0, none⟩ (.int .i64 st)).setCell ⟨b10, 1, none⟩ (.int .i64 pg)).setCell ⟨b10, 2, none⟩ (.int .i64 pr)).setCell ⟨b10, 3, none⟩ (.int .i64 fl)).setCell ⟨b10, 4, none⟩ (.int .i64 fi)).setCell ⟨b10, 5, none⟩ (.int .i64 ix)) b9 ⟨st, pg, pr, fl, fi, ix⟩ from RB.far6 U.out (by omega))
        replace T := hide (show RB ((((((wu.setCell ⟨b10, 0, none⟩ (.int .i64 st)).setCell ⟨b10, 1, none⟩ (.int .i64 pg)).setCell ⟨b10, 2, none⟩ (.int .i64 pr)).setCell ⟨b10, 3, none⟩ (.int .i64 fl)).setCell ⟨b10, 4, none⟩ (.int .i64 fi)).setCell ⟨b10, 5, none⟩ (.int .i64 ix)) b10 ⟨st, pg, pr, fl, fi, ix⟩ from RB.put6 T.out)
        clear c0 c1 c2 c3 c4 c5 q0 q1 q2 q3 q4 q5 i9 iN iG
        generalize ((((((wu.setCell ⟨b10, 0, none⟩ (.int .i64 st)).setCell ⟨b10, 1, none⟩ (.int .i64 pg)).setCell ⟨b10, 2, none⟩ (.int .i64 pr)).setCell ⟨b10, 3, none⟩ (.int .i64 fl)).setCell ⟨b10, 4, none⟩ (.int .i64 fi)).setCell ⟨b10, 5, none⟩ (.int .i64 ix)) = wv at *
        refine hK.out _ _ ?_ (fun hHeld => ?_)
        · exact X.out.cells
        clear hK K'
        (try simp only [Act.put, List.setIfInBounds_toArray, List.set_cons_succ, List.set_cons_zero])
        refine wpAnyH_done (by kernel_rfl) ?_ _
        refine NoPanic.normal ?_
        have Q : Hid (S5 w wv g2 b9 b10 ⟨st, pg, pr, fl, fi, ix⟩ ⟨0, 0, 0, 0, 0, 0⟩ ⟨0, 0, 0, 0, 0, 0⟩ ⟨st, pg, pr, fl, fi, ix⟩ ⟨st, pg, pr, fl, fi, ix⟩) := hide ⟨K.out, HG.out, H9.out, H10.out, HN.out, X.out, Y.out, Z.out, U.out, T.out⟩
        clear K HG H9 H10 HN X Y Z U T HS
        try clear x0 x1 x2 x3 x4 x5
        try clear u0 u1 u2 u3 u4 u5
        try clear t0 t1 t2 t3 t4 t5
        try clear p0 p1 p2 p3 p4 p5
        try clear s0 s1 s2 s3 s4 s5
        obtain ⟨x0, x1, x2, x3, x4, x5⟩ := Q.out.X.cells
        obtain ⟨u0, u1, u2, u3, u4, u5⟩ := Q.out.U.cells
        obtain ⟨t0, t1, t2, t3, t4, t5⟩ := Q.out.T.cells
        obtain ⟨p0, p1, p2, p3, p4, p5⟩ := Q.out.U.free
        obtain ⟨s0, s1, s2, s3, s4, s5⟩ := Q.out.T.free
        go_upto_region 9 with fail
        replace Q := hide (Q.out.setU (RB.set1 Q.out.U (p - st)))
        generalize wv.setCell ⟨b9, 1, none⟩ (.int .i64 (p - st)) = v1 at *
        try clear x0 x1 x2 x3 x4 x5
        try clear u0 u1 u2 u3 u4 u5
        try clear t0 t1 t2 t3 t4 t5
        try clear p0 p1 p2 p3 p4 p5
        try clear s0 s1 s2 s3 s4 s5
        obtain ⟨x0, x1, x2, x3, x4, x5⟩ := Q.out.X.cells
        obtain ⟨u0, u1, u2, u3, u4, u5⟩ := Q.out.U.cells
        obtain ⟨t0, t1, t2, t3, t4, t5⟩ := Q.out.T.cells
        obtain ⟨p0, p1, p2, p3, p4, p5⟩ := Q.out.U.free
        obtain ⟨s0, s1, s2, s3, s4, s5⟩ := Q.out.T.free
        go_upto_region 10 with fail
        replace Q := hide (Q.out.setT (RB.set0 Q.out.T (p)))
        generalize v1.setCell ⟨b10, 0, none⟩ (.int .i64 (p)) = v2 at *
        try clear x0 x1 x2 x3 x4 x5
        try clear u0 u1 u2 u3 u4 u5
        try clear t0 t1 t2 t3 t4 t5
        try clear p0 p1 p2 p3 p4 p5
        try clear s0 s1 s2 s3 s4 s5
        obtain ⟨x0, x1, x2, x3, x4, x5⟩ := Q.out.X.cells
        obtain ⟨u0, u1, u2, u3, u4, u5⟩ := Q.out.U.cells
        obtain ⟨t0, t1, t2, t3, t4, t5⟩ := Q.out.T.cells
        obtain ⟨p0, p1, p2, p3, p4, p5⟩ := Q.out.U.free
        obtain ⟨s0, s1, s2, s3, s4, s5⟩ := Q.out.T.free
        go_upto_region 11 with fail
        replace Q := hide (Q.out.setT (RB.set1 Q.out.T (pg - (p - st))))
        generalize v2.setCell ⟨b10, 1, none⟩ (.int .i64 (pg - (p - st))) = v3 at *
        try clear x0 x1 x2 x3 x4 x5
        try clear u0 u1 u2 u3 u4 u5
        try clear t0 t1 t2 t3 t4 t5
        try clear p0 p1 p2 p3 p4 p5
        try clear s0 s1 s2 s3 s4 s5
        obtain ⟨x0, x1, x2, x3, x4, x5⟩ := Q.out.X.cells
        obtain ⟨u0, u1, u2, u3, u4, u5⟩ := Q.out.U.cells
        obtain ⟨t0, t1, t2, t3, t4, t5⟩ := Q.out.T.cells
        obtain ⟨p0, p1, p2, p3, p4, p5⟩ := Q.out.U.free
        obtain ⟨s0, s1, s2, s3, s4, s5⟩ := Q.out.T.free
        go_wp2_with fail
        refine (F2.out _).mono ?_
        rintro e v5 ⟨rfl, hb⟩
        replace Q := hide (Q.out.below hb)
        clear hb
        try clear x0 x1 x2 x3 x4 x5
        try clear u0 u1 u2 u3 u4 u5
        try clear t0 t1 t2 t3 t4 t5
        try clear p0 p1 p2 p3 p4 p5
        try clear s0 s1 s2 s3 s4 s5
        obtain ⟨x0, x1, x2, x3, x4, x5⟩ := Q.out.X.cells
        obtain ⟨u0, u1, u2, u3, u4, u5⟩ := Q.out.U.cells
        obtain ⟨t0, t1, t2, t3, t4, t5⟩ := Q.out.T.cells
        obtain ⟨p0, p1, p2, p3, p4, p5⟩ := Q.out.U.free
        obtain ⟨s0, s1, s2, s3, s4, s5⟩ := Q.out.T.free
        go_upto_region 15 with fail
        replace Q := hide (Q.out.setT (RB.set3 Q.out.T (fl - 2)))
        generalize v5.setCell ⟨b10, 3, none⟩ (.int .i64 (fl - 2)) = v6 at *
        try clear x0 x1 x2 x3 x4 x5
        try clear u0 u1 u2 u3 u4 u5
        try clear t0 t1 t2 t3 t4 t5
        try clear p0 p1 p2 p3 p4 p5
        try clear s0 s1 s2 s3 s4 s5
        obtain ⟨x0, x1, x2, x3, x4, x5⟩ := Q.out.X.cells
        obtain ⟨u0, u1, u2, u3, u4, u5⟩ := Q.out.U.cells
        obtain ⟨t0, t1, t2, t3, t4, t5⟩ := Q.out.T.cells
        obtain ⟨p0, p1, p2, p3, p4, p5⟩ := Q.out.U.free
        obtain ⟨s0, s1, s2, s3, s4, s5⟩ := Q.out.T.free
        try clear x0 x1 x2 x3 x4 x5
        try clear u0 u1 u2 u3 u4 u5
        try clear t0 t1 t2 t3 t4 t5
        try clear p0 p1 p2 p3 p4 p5
        try clear s0 s1 s2 s3 s4 s5
        replace Q := hide (Q.out.below (show Below v6.heap.size v6 v6.drew from below_drewN (brefl _) 1))
        have K := hide Q.out.k
        have HG := hide Q.out.hg
        have H9 := hide Q.out.h9
        have H10 := hide Q.out.h10
        have Y := hide Q.out.Y
        have Z := hide Q.out.Z
        have U := hide Q.out.U
        have T := hide Q.out.T
        clear Q
        refine wp_region_noPanic ?_
        refine wp_region_held_drew (S := (fun W => W.cell? ⟨b9, 0, none⟩ = some (.int .i64 st) ∧ W.cell? ⟨b9, 1, none⟩ = some (.int .i64 (p - st)) ∧ W.cell? ⟨b9, 2, none⟩ = some (.int .i64 pr) ∧ W.cell? ⟨b9, 3, none⟩ = some (.int .i64 fl) ∧ W.cell? ⟨b9, 4, none⟩ = some (.int .i64 fi) ∧ W.cell? ⟨b9, 5, none⟩ = some (.int .i64 ix) ∧ W.cell? ⟨b10, 0, none⟩ = some (.int .i64 p) ∧ W.cell? ⟨b10, 1, none⟩ = some (.int .i64 (pg - (p - st))) ∧ W.cell? ⟨b10, 2, none⟩ = some (.int .i64 pr) ∧ W.cell? ⟨b10, 3, none⟩ = some (.int .i64 (fl - 2)) ∧ W.cell? ⟨b10, 4, none⟩ = some (.int .i64 fi) ∧ W.cell? ⟨b10, 5, none⟩ = some (.int .i64 ix))) (by kernel_rfl) ?_ (fun hHeld => ?_)
        · (obtain ⟨u0, u1, u2, u3, u4, u5⟩ := RB.cells U.out; obtain ⟨t0, t1, t2, t3, t4, t5⟩ := RB.cells T.out; exact ⟨u0, u1, u2, u3, u4, u5, t0, t1, t2, t3, t4, t5⟩)
        generalize v6.drew = ww at *
        refine wpAnyH_take (i := 0) (oi := ⟨some 62, _, _, _, _, _⟩) (v := ?_) rfl (by kernel_rfl) (by kernel_rfl) (by kernel_rfl) (fun _ _ _ h => h) (Or.inl ⟨by kernel_rfl, ?_⟩) (by assumption) ?_
        rotate_left 1
        · (intro w hSw; (try dsimp only at hSw); go_simp) <;> (with_reducible rfl)
        (try simp only [Act.put, List.setIfInBounds_toArray, List.set_cons_succ, List.set_cons_zero])
        refine wpAnyH_take (i := 1) (oi := ⟨some 63, _, _, _, _, _⟩) (v := ?_) rfl (by kernel_rfl) (by kernel_rfl) (by kernel_rfl) (fun _ _ _ h => h) (Or.inl ⟨by kernel_rfl, ?_⟩) (by assumption) ?_
        rotate_left 1
        · (intro w hSw; (try dsimp only at hSw); go_simp) <;> (with_reducible rfl)
        (try simp only [Act.put, List.setIfInBounds_toArray, List.set_cons_succ, List.set_cons_zero])
        refine wpAnyH_ready (rs := [2]) (by kernel_rfl) (by simp) ?_
        refine AllReadyH.cons (o := ⟨none, _, _, _, _, _⟩) rfl (fun K' hK => ?_) AllReadyH.nil
        obtain ⟨c0, c1, c2, c3, c4, c5⟩ := RB.cells Y.out
        obtain ⟨q0, q1, q2, q3, q4, q5⟩ := RB.free Y.out
        go_simp
        have i9 := H9.out
        have i10 := H10.out
        have iG := HG.out
        replace K := hide (show Below w.heap.size w ((((((ww.setCell ⟨g2 + 1, 0, none⟩ (.int .i64 st)).setCell ⟨g2 + 1, 1, none⟩ (.int .i64 (p - st))).setCell ⟨g2 + 1, 2, none⟩ (.int .i64 pr)).setCell ⟨g2 + 1, 3, none⟩ (.int .i64 fl)).setCell ⟨g2 + 1, 4, none⟩ (.int .i64 fi)).setCell ⟨g2 + 1, 5, none⟩ (.int .i64 ix)) from bset6 K.out (by omega))
        replace Z := hide (show RB ((((((ww.setCell ⟨g2 + 1, 0, none⟩ (.int .i64 st)).setCell ⟨g2 + 1, 1, none⟩ (.int .i64 (p - st))).setCell ⟨g2 + 1, 2, none⟩ (.int .i64 pr)).setCell ⟨g2 + 1, 3, none⟩ (.int .i64 fl)).setCell ⟨g2 + 1, 4, none⟩ (.int .i64 fi)).setCell ⟨g2 + 1, 5, none⟩ (.int .i64 ix)) (g2 + 2) ⟨0, 0, 0, 0, 0, 0⟩ from RB.far6 Z.out (by omega))
        replace U := hide (show RB ((((((ww.setCell ⟨g2 + 1, 0, none⟩ (.int .i64 st)).setCell ⟨g2 + 1, 1, none⟩ (.int .i64 (p - st))).setCell ⟨g2 + 1, 2, none⟩ (.int .i64 pr)).setCell ⟨g2 + 1, 3, none⟩ (.int .i64 fl)).setCell ⟨g2 + 1, 4, none⟩ (.int .i64 fi)).setCell ⟨g2 + 1, 5, none⟩ (.int .i64 ix)) b9 ⟨st, p - st, pr, fl, fi, ix⟩ from RB.far6 U.out (by omega))
        replace T := hide (show RB ((((((ww.setCell ⟨g2 + 1, 0, none⟩ (.int .i64 st)).setCell ⟨g2 + 1, 1, none⟩ (.int .i64 (p - st))).setCell ⟨g2 + 1, 2, none⟩ (.int .i64 pr)).setCell ⟨g2 + 1, 3, none⟩ (.int .i64 fl)).setCell ⟨g2 + 1, 4, none⟩ (.int .i64 fi)).setCell ⟨g2 + 1, 5, none⟩ (.int .i64 ix)) b10 ⟨p, pg - (p - st), pr, fl - 2, fi, ix⟩ from RB.far6 T.out (by omega))
        replace Y := hide (show RB ((((((ww.setCell ⟨g2 + 1, 0, none⟩ (.int .i64 st)).setCell ⟨g2 + 1, 1, none⟩ (.int .i64 (p - st))).setCell ⟨g2 + 1, 2, none⟩ (.int .i64 pr)).setCell ⟨g2 + 1, 3, none⟩ (.int .i64 fl)).setCell ⟨g2 + 1, 4, none⟩ (.int .i64 fi)).setCell ⟨g2 + 1, 5, none⟩ (.int .i64 ix)) (g2 + 1) ⟨st, p - st, pr, fl, fi, ix⟩ from RB.put6 Y.out)
        clear c0 c1 c2 c3 c4 c5 q0 q1 q2 q3 q4 q5 i9 i10 iG
        generalize ((((((ww.setCell ⟨g2 + 1, 0, none⟩ (.int .i64 st)).setCell ⟨g2 + 1, 1, none⟩ (.int .i64 (p - st))).setCell ⟨g2 + 1, 2, none⟩ (.int .i64 pr)).setCell ⟨g2 + 1, 3, none⟩ (.int .i64 fl)).setCell ⟨g2 + 1, 4, none⟩ (.int .i64 fi)).setCell ⟨g2 + 1, 5, none⟩ (.int .i64 ix)) = wy at *
        refine hK.out _ _ ?_ (fun hHeld => ?_)
        · (obtain ⟨u0, u1, u2, u3, u4, u5⟩ := RB.cells U.out; obtain ⟨t0, t1, t2, t3, t4, t5⟩ := RB.cells T.out; exact ⟨u0, u1, u2, u3, u4, u5, t0, t1, t2, t3, t4, t5⟩)
        clear hK K'
        (try simp only [Act.put, List.setIfInBounds_toArray, List.set_cons_succ, List.set_cons_zero])
        refine wpAnyH_ready (rs := [3]) (by kernel_rfl) (by simp) ?_
        refine AllReadyH.cons (o := ⟨none, _, _, _, _, _⟩) rfl (fun K' hK => ?_) AllReadyH.nil
        obtain ⟨c0, c1, c2, c3, c4, c5⟩ := RB.cells Z.out
        obtain ⟨q0, q1, q2, q3, q4, q5⟩ := RB.free Z.out
        go_simp
        have i9 := H9.out
        have i10 := H10.out
        have iG := HG.out
        replace K := hide (show Below w.heap.size w ((((((wy.setCell ⟨g2 + 2, 0, none⟩ (.int .i64 p)).setCell ⟨g2 + 2, 1, none⟩ (.int .i64 (pg - (p - st)))).setCell ⟨g2 + 2, 2, none⟩ (.int .i64 pr)).setCell ⟨g2 + 2, 3, none⟩ (.int .i64 (fl - 2))).setCell ⟨g2 + 2, 4, none⟩ (.int .i64 fi)).setCell ⟨g2 + 2, 5, none⟩ (.int .i64 ix)) from bset6 K.out (by omega))
        replace Y := hide (show RB ((((((wy.setCell ⟨g2 + 2, 0, none⟩ (.int .i64 p)).setCell ⟨g2 + 2, 1, none⟩ (.int .i64 (pg - (p - st)))).setCell ⟨g2 + 2, 2, none⟩ (.int .i64 pr)).setCell ⟨g2 + 2, 3, none⟩ (.int .i64 (fl - 2))).setCell ⟨g2 + 2, 4, none⟩ (.int .i64 fi)).setCell ⟨g2 + 2, 5, none⟩ (.int .i64 ix)) (g2 + 1) ⟨st, p - st, pr, fl, fi, ix⟩ from RB.far6 Y.out (by omega))
        replace U := hide (show RB ((((((wy.setCell ⟨g2 + 2, 0, none⟩ (.int .i64 p)).setCell ⟨g2 + 2, 1, none⟩ (.int .i64 (pg - (p - st)))).setCell ⟨g2 + 2, 2, none⟩ (.int .i64 pr)).setCell ⟨g2 + 2, 3, none⟩ (.int .i64 (fl - 2))).setCell ⟨g2 + 2, 4, none⟩ (.int .i64 fi)).setCell ⟨g2 + 2, 5, none⟩ (.int .i64 ix)) b9 ⟨st, p - st, pr, fl, fi, ix⟩ from RB.far6 U.out (by omega))
        replace T := hide (show RB ((((((wy.setCell ⟨g2 + 2, 0, none⟩ (.int .i64 p)).setCell ⟨g2 + 2, 1, none⟩ (.int .i64 (pg - (p - st)))).setCell ⟨g2 + 2, 2, none⟩ (.int .i64 pr)).setCell ⟨g2 + 2, 3, none⟩ (.int .i64 (fl - 2))).setCell ⟨g2 + 2, 4, none⟩ (.int .i64 fi)).setCell ⟨g2 + 2, 5, none⟩ (.int .i64 ix)) b10 ⟨p, pg - (p - st), pr, fl - 2, fi, ix⟩ from RB.far6 T.out (by omega))
        replace Z := hide (show RB ((((((wy.setCell ⟨g2 + 2, 0, none⟩ (.int .i64 p)).setCell ⟨g2 + 2, 1, none⟩ (.int .i64 (pg - (p - st)))).setCell ⟨g2 + 2, 2, none⟩ (.int .i64 pr)).setCell ⟨g2 + 2, 3, none⟩ (.int .i64 (fl - 2))).setCell ⟨g2 + 2, 4, none⟩ (.int .i64 fi)).setCell ⟨g2 + 2, 5, none⟩ (.int .i64 ix)) (g2 + 2) ⟨p, pg - (p - st), pr, fl - 2, fi, ix⟩ from RB.put6 Z.out)
        clear c0 c1 c2 c3 c4 c5 q0 q1 q2 q3 q4 q5 i9 i10 iG
        generalize ((((((wy.setCell ⟨g2 + 2, 0, none⟩ (.int .i64 p)).setCell ⟨g2 + 2, 1, none⟩ (.int .i64 (pg - (p - st)))).setCell ⟨g2 + 2, 2, none⟩ (.int .i64 pr)).setCell ⟨g2 + 2, 3, none⟩ (.int .i64 (fl - 2))).setCell ⟨g2 + 2, 4, none⟩ (.int .i64 fi)).setCell ⟨g2 + 2, 5, none⟩ (.int .i64 ix)) = wz at *
        refine hK.out _ _ ?_ (fun hHeld => ?_)
        · (obtain ⟨u0, u1, u2, u3, u4, u5⟩ := RB.cells U.out; obtain ⟨t0, t1, t2, t3, t4, t5⟩ := RB.cells T.out; exact ⟨u0, u1, u2, u3, u4, u5, t0, t1, t2, t3, t4, t5⟩)
        clear hK K'
        (try simp only [Act.put, List.setIfInBounds_toArray, List.set_cons_succ, List.set_cons_zero])
        refine wpAnyH_take (i := 4) (oi := ⟨some 6, _, _, _, _, _⟩) (v := ?_) rfl (by kernel_rfl) (by kernel_rfl) (by kernel_rfl) (fun _ _ _ h => h) (Or.inl ⟨by kernel_rfl, ?_⟩) (by assumption) ?_
        rotate_left 1
        · (intro w hSw; (try dsimp only at hSw); go_simp) <;> (with_reducible rfl)
        (try simp only [Act.put, List.setIfInBounds_toArray, List.set_cons_succ, List.set_cons_zero])
        refine wpAnyH_done (by kernel_rfl) ?_ _
        refine NoPanic.normal ?_
        go_wp2
        exact ret_r3 rfl rfl rfl rfl rfl Y.out Z.out E.out ⟨rfl, K.out⟩
      refine AllReadyH.cons (o := ⟨some 10, _, _, _, _, _⟩) rfl (fun K' hK => ?_) AllReadyH.nil
      go_simp
      have T := hide (RB.new w4 0 0 0 0 0 0)
      have M := bal (brefl w4) (.cells #[.int .i64 0, .int .i64 0, .int .i64 0, .int .i64 0, .int .i64 0, .int .i64 0] 58)
      have HC0 := HS.out
      replace K := hide (btrans K.out M)
      replace X := hide (X.out.below M)
      replace Y := hide (Y.out.below M)
      replace Z := hide (Z.out.below M)
      replace HS := hide (Nat.le_trans HS.out M.size)
      obtain ⟨b10, hcb⟩ : ∃ q, q = w4.heap.size := ⟨_, rfl⟩
      have H10 := hide (show g2 + 3 ≤ b10 by omega)
      rw [← hcb] at T ⊢
      clear hcb HC0 M
      generalize w4.alloc (.cells #[.int .i64 0, .int .i64 0, .int .i64 0, .int .i64 0, .int .i64 0, .int .i64 0] 58) = wb at *
      refine hK.out _ _ ?_ (fun hHeld => ?_)
      · exact X.out.cells
      clear hK K'
      (try simp only [Act.put, List.setIfInBounds_toArray, List.set_cons_succ, List.set_cons_zero])
      refine wpAnyH_ready (rs := [2]) (by kernel_rfl) (by simp) ?_
      refine AllReadyH.cons (o := ⟨some 9, _, _, _, _, _⟩) rfl (fun K' hK => ?_) AllReadyH.nil
      go_simp
      have U := hide (RB.new wb 0 0 0 0 0 0)
      have M := bal (brefl wb) (.cells #[.int .i64 0, .int .i64 0, .int .i64 0, .int .i64 0, .int .i64 0, .int .i64 0] 58)
      have HC0 := HS.out
      have LT := T.out.lt
      replace K := hide (btrans K.out M)
      replace X := hide (X.out.below M)
      replace Y := hide (Y.out.below M)
      replace Z := hide (Z.out.below M)
      replace T := hide (T.out.below M)
      replace HS := hide (Nat.le_trans HS.out M.size)
      obtain ⟨b9, hcb⟩ : ∃ q, q = wb.heap.size := ⟨_, rfl⟩
      have H9 := hide (show g2 + 3 ≤ b9 by omega)
      have HN := hide (show b9 ≠ b10 by omega)
      rw [← hcb] at U ⊢
      clear hcb HC0 M LT
      generalize wb.alloc (.cells #[.int .i64 0, .int .i64 0, .int .i64 0, .int .i64 0, .int .i64 0, .int .i64 0] 58) = wa at *
      refine hK.out _ _ ?_ (fun hHeld => ?_)
      · exact X.out.cells
      clear hK K'
      (try simp only [Act.put, List.setIfInBounds_toArray, List.set_cons_succ, List.set_cons_zero])
      refine wpAnyH_ready (rs := [4]) (by kernel_rfl) (by simp) ?_
      refine AllReadyH.cons (o := ⟨none, _, _, _, _, _⟩) rfl (fun K' hK => ?_) AllReadyH.nil
      obtain ⟨c0, c1, c2, c3, c4, c5⟩ := RB.cells U.out
      obtain ⟨q0, q1, q2, q3, q4, q5⟩ := RB.free U.out
      go_simp
      have i9 := H9.out
      have iN := HN.out
      have iG := HG.out
      replace K := hide (show Below w.heap.size w ((((((wa.setCell ⟨b9, 0, none⟩ (.int .i64 st)).setCell ⟨b9, 1, none⟩ (.int .i64 pg)).setCell ⟨b9, 2, none⟩ (.int .i64 pr)).setCell ⟨b9, 3, none⟩ (.int .i64 fl)).setCell ⟨b9, 4, none⟩ (.int .i64 fi)).setCell ⟨b9, 5, none⟩ (.int .i64 ix)) from bset6 K.out (by omega))
      replace X := hide (show RB ((((((wa.setCell ⟨b9, 0, none⟩ (.int .i64 st)).setCell ⟨b9, 1, none⟩ (.int .i64 pg)).setCell ⟨b9, 2, none⟩ (.int .i64 pr)).setCell ⟨b9, 3, none⟩ (.int .i64 fl)).setCell ⟨b9, 4, none⟩ (.int .i64 fi)).setCell ⟨b9, 5, none⟩ (.int .i64 ix)) g2 ⟨st, pg, pr, fl, fi, ix⟩ from RB.far6 X.out (by omega))
      replace Y := hide (show RB ((((((wa.setCell ⟨b9, 0, none⟩ (.int .i64 st)).setCell ⟨b9, 1, none⟩ (.int .i64 pg)).setCell ⟨b9, 2, none⟩ (.int .i64 pr)).setCell ⟨b9, 3, none⟩ (.int .i64 fl)).setCell ⟨b9, 4, none⟩ (.int .i64 fi)).setCell ⟨b9, 5, none⟩ (.int .i64 ix)) (g2 + 1) ⟨0, 0, 0, 0, 0, 0⟩ from RB.far6 Y.out (by omega))
      replace Z := hide (show RB ((((((wa.setCell ⟨b9, 0, none⟩ (.int .i64 st)).setCell ⟨b9, 1, none⟩ (.int .i64 pg)).setCell ⟨b9, 2, none⟩ (.int .i64 pr)).setCell ⟨b9, 3, none⟩ (.int .i64 fl)).setCell ⟨b9, 4, none⟩ (.int .i64 fi)).setCell ⟨b9, 5, none⟩ (.int .i64 ix)) (g2 + 2) ⟨0, 0, 0, 0, 0, 0⟩ from RB.far6 Z.out (by omega))
      replace T := hide (show RB ((((((wa.setCell ⟨b9, 0, none⟩ (.int .i64 st)).setCell ⟨b9, 1, none⟩ (.int .i64 pg)).setCell ⟨b9, 2, none⟩ (.int .i64 pr)).setCell ⟨b9, 3, none⟩ (.int .i64 fl)).setCell ⟨b9, 4, none⟩ (.int .i64 fi)).setCell ⟨b9, 5, none⟩ (.int .i64 ix)) b10 ⟨0, 0, 0, 0, 0, 0⟩ from RB.far6 T.out (by omega))
      replace U := hide (show RB ((((((wa.setCell ⟨b9, 0, none⟩ (.int .i64 st)).setCell ⟨b9, 1, none⟩ (.int .i64 pg)).setCell ⟨b9, 2, none⟩ (.int .i64 pr)).setCell ⟨b9, 3, none⟩ (.int .i64 fl)).setCell ⟨b9, 4, none⟩ (.int .i64 fi)).setCell ⟨b9, 5, none⟩ (.int .i64 ix)) b9 ⟨st, pg, pr, fl, fi, ix⟩ from RB.put6 U.out)
      clear c0 c1 c2 c3 c4 c5 q0 q1 q2 q3 q4 q5 i9 iN iG
      generalize ((((((wa.setCell ⟨b9, 0, none⟩ (.int .i64 st)).setCell ⟨b9, 1, none⟩ (.int .i64 pg)).setCell ⟨b9, 2, none⟩ (.int .i64 pr)).setCell ⟨b9, 3, none⟩ (.int .i64 fl)).setCell ⟨b9, 4, none⟩ (.int .i64 fi)).setCell ⟨b9, 5, none⟩ (.int .i64 ix)) = wu at *
      refine hK.out _ _ ?_ (fun hHeld => ?_)
      · exact X.out.cells
      clear hK K'
      (try simp only [Act.put, List.setIfInBounds_toArray, List.set_cons_succ, List.set_cons_zero])
      refine wpAnyH_ready (rs := [5]) (by kernel_rfl) (by simp) ?_
      refine AllReadyH.cons (o := ⟨none, _, _, _, _, _⟩) rfl (fun K' hK => ?_) AllReadyH.nil
      obtain ⟨c0, c1, c2, c3, c4, c5⟩ := RB.cells T.out
      obtain ⟨q0, q1, q2, q3, q4, q5⟩ := RB.free T.out
      go_simp
      have i9 := H10.out
      have iN := HN.out
      have iG := HG.out
      replace K := hide (show Below w.heap.size w ((((((wu.setCell ⟨b10, 0, none⟩ (.int .i64 st)).setCell ⟨b10, 1, none⟩ (.int .i64 pg)).setCell ⟨b10, 2, none⟩ (.int .i64 pr)).setCell ⟨b10, 3, none⟩ (.int .i64 fl)).setCell ⟨b10, 4, none⟩ (.int .i64 fi)).setCell ⟨b10, 5, none⟩ (.int .i64 ix)) from bset6 K.out (by omega))
      replace X := hide (show RB ((((((wu.setCell ⟨b10, 0, none⟩ (.int .i64 st)).setCell ⟨b10, 1, none⟩ (.int .i64 pg)).setCell ⟨b10, 2, none⟩ (.int .i64 pr)).setCell ⟨b10, 3, none⟩ (.int .i64 fl)).setCell ⟨b10, 4, none⟩ (.int .i64 fi)).setCell ⟨b10, 5, none⟩ (.int .i64 ix)) g2 ⟨st, pg, pr, fl, fi, ix⟩ from RB.far6 X.out (by omega))
      replace Y := hide (show RB ((((((wu.setCell ⟨b10, 0, none⟩ (.int .i64 st)).setCell ⟨b10, 1, none⟩ (.int .i64 pg)).setCell ⟨b10, 2, none⟩ (.int .i64 pr)).setCell ⟨b10, 3, none⟩ (.int .i64 fl)).setCell ⟨b10, 4, none⟩ (.int .i64 fi)).setCell ⟨b10, 5, none⟩ (.int .i64 ix)) (g2 + 1) ⟨0, 0, 0, 0, 0, 0⟩ from RB.far6 Y.out (by omega))
      replace Z := hide (show RB ((((((wu.setCell ⟨b10, 0, none⟩ (.int .i64 st)).setCell ⟨b10, 1, none⟩ (.int .i64 pg)).setCell ⟨b10, 2, none⟩ (.int .i64 pr)).setCell ⟨b10, 3, none⟩ (.int .i64 fl)).setCell ⟨b10, 4, none⟩ (.int .i64 fi)).setCell ⟨b10, 5, none⟩ (.int .i64 ix)) (g2 + 2) ⟨0, 0, 0, 0, 0, 0⟩ from RB.far6 Z.out (by omega))
      replace U := hide (show RB ((((((wu.setCell ⟨b10, 0, none⟩ (.int .i64 st)).setCell ⟨b10, 1, none⟩ (.int .i64 pg)).setCell ⟨b10, 2, none⟩ (.int .i64 pr)).setCell ⟨b10, 3, none⟩ (.int .i64 fl)).setCell ⟨b10, 4, none⟩ (.int .i64 fi)).setCell ⟨b10, 5, none⟩ (.int .i64 ix)) b9 ⟨st, pg, pr, fl, fi, ix⟩ from RB.far6 U.out (by omega))
      replace T := hide (show RB ((((((wu.setCell ⟨b10, 0, none⟩ (.int .i64 st)).setCell ⟨b10, 1, none⟩ (.int .i64 pg)).setCell ⟨b10, 2, none⟩ (.int .i64 pr)).setCell ⟨b10, 3, none⟩ (.int .i64 fl)).setCell ⟨b10, 4, none⟩ (.int .i64 fi)).setCell ⟨b10, 5, none⟩ (.int .i64 ix)) b10 ⟨st, pg, pr, fl, fi, ix⟩ from RB.put6 T.out)
      clear c0 c1 c2 c3 c4 c5 q0 q1 q2 q3 q4 q5 i9 iN iG
      generalize ((((((wu.setCell ⟨b10, 0, none⟩ (.int .i64 st)).setCell ⟨b10, 1, none⟩ (.int .i64 pg)).setCell ⟨b10, 2, none⟩ (.int .i64 pr)).setCell ⟨b10, 3, none⟩ (.int .i64 fl)).setCell ⟨b10, 4, none⟩ (.int .i64 fi)).setCell ⟨b10, 5, none⟩ (.int .i64 ix)) = wv at *
      refine hK.out _ _ ?_ (fun hHeld => ?_)
      · exact X.out.cells
      clear hK K'
      (try simp only [Act.put, List.setIfInBounds_toArray, List.set_cons_succ, List.set_cons_zero])
      refine wpAnyH_done (by kernel_rfl) ?_ _
      refine NoPanic.normal ?_
      have Q : Hid (S5 w wv g2 b9 b10 ⟨st, pg, pr, fl, fi, ix⟩ ⟨0, 0, 0, 0, 0, 0⟩ ⟨0, 0, 0, 0, 0, 0⟩ ⟨st, pg, pr, fl, fi, ix⟩ ⟨st, pg, pr, fl, fi, ix⟩) := hide ⟨K.out, HG.out, H9.out, H10.out, HN.out, X.out, Y.out, Z.out, U.out, T.out⟩
      clear K HG H9 H10 HN X Y Z U T HS
      try clear x0 x1 x2 x3 x4 x5
      try clear u0 u1 u2 u3 u4 u5
      try clear t0 t1 t2 t3 t4 t5
      try clear p0 p1 p2 p3 p4 p5
      try clear s0 s1 s2 s3 s4 s5
      obtain ⟨x0, x1, x2, x3, x4, x5⟩ := Q.out.X.cells
      obtain ⟨u0, u1, u2, u3, u4, u5⟩ := Q.out.U.cells
      obtain ⟨t0, t1, t2, t3, t4, t5⟩ := Q.out.T.cells
      obtain ⟨p0, p1, p2, p3, p4, p5⟩ := Q.out.U.free
      obtain ⟨s0, s1, s2, s3, s4, s5⟩ := Q.out.T.free
      go_upto_region 9 with fail
      replace Q := hide (Q.out.setU (RB.set1 Q.out.U (p - st)))
      generalize wv.setCell ⟨b9, 1, none⟩ (.int .i64 (p - st)) = v1 at *
      try clear x0 x1 x2 x3 x4 x5
      try clear u0 u1 u2 u3 u4 u5
      try clear t0 t1 t2 t3 t4 t5
      try clear p0 p1 p2 p3 p4 p5
      try clear s0 s1 s2 s3 s4 s5
      obtain ⟨x0, x1, x2, x3, x4, x5⟩ := Q.out.X.cells
      obtain ⟨u0, u1, u2, u3, u4, u5⟩ := Q.out.U.cells
      obtain ⟨t0, t1, t2, t3, t4, t5⟩ := Q.out.T.cells
      obtain ⟨p0, p1, p2, p3, p4, p5⟩ := Q.out.U.free
      obtain ⟨s0, s1, s2, s3, s4, s5⟩ := Q.out.T.free
      go_upto_region 10 with fail
      replace Q := hide (Q.out.setT (RB.set0 Q.out.T (p)))
      generalize v1.setCell ⟨b10, 0, none⟩ (.int .i64 (p)) = v2 at *
      try clear x0 x1 x2 x3 x4 x5
      try clear u0 u1 u2 u3 u4 u5
      try clear t0 t1 t2 t3 t4 t5
      try clear p0 p1 p2 p3 p4 p5
      try clear s0 s1 s2 s3 s4 s5
      obtain ⟨x0, x1, x2, x3, x4, x5⟩ := Q.out.X.cells
      obtain ⟨u0, u1, u2, u3, u4, u5⟩ := Q.out.U.cells
      obtain ⟨t0, t1, t2, t3, t4, t5⟩ := Q.out.T.cells
      obtain ⟨p0, p1, p2, p3, p4, p5⟩ := Q.out.U.free
      obtain ⟨s0, s1, s2, s3, s4, s5⟩ := Q.out.T.free
      go_upto_region 11 with fail
      replace Q := hide (Q.out.setT (RB.set1 Q.out.T (pg - (p - st))))
      generalize v2.setCell ⟨b10, 1, none⟩ (.int .i64 (pg - (p - st))) = v3 at *
      try clear x0 x1 x2 x3 x4 x5
      try clear u0 u1 u2 u3 u4 u5
      try clear t0 t1 t2 t3 t4 t5
      try clear p0 p1 p2 p3 p4 p5
      try clear s0 s1 s2 s3 s4 s5
      obtain ⟨x0, x1, x2, x3, x4, x5⟩ := Q.out.X.cells
      obtain ⟨u0, u1, u2, u3, u4, u5⟩ := Q.out.U.cells
      obtain ⟨t0, t1, t2, t3, t4, t5⟩ := Q.out.T.cells
      obtain ⟨p0, p1, p2, p3, p4, p5⟩ := Q.out.U.free
      obtain ⟨s0, s1, s2, s3, s4, s5⟩ := Q.out.T.free
      go_wp2_with fail
      refine (F2.out _).mono ?_
      rintro e v5 ⟨rfl, hb⟩
      replace Q := hide (Q.out.below hb)
      clear hb
      try clear x0 x1 x2 x3 x4 x5
      try clear u0 u1 u2 u3 u4 u5
      try clear t0 t1 t2 t3 t4 t5
      try clear p0 p1 p2 p3 p4 p5
      try clear s0 s1 s2 s3 s4 s5
      obtain ⟨x0, x1, x2, x3, x4, x5⟩ := Q.out.X.cells
      obtain ⟨u0, u1, u2, u3, u4, u5⟩ := Q.out.U.cells
      obtain ⟨t0, t1, t2, t3, t4, t5⟩ := Q.out.T.cells
      obtain ⟨p0, p1, p2, p3, p4, p5⟩ := Q.out.U.free
      obtain ⟨s0, s1, s2, s3, s4, s5⟩ := Q.out.T.free
      go_upto_region 15 with fail
      replace Q := hide (Q.out.setT (RB.set3 Q.out.T (fl - 2)))
      generalize v5.setCell ⟨b10, 3, none⟩ (.int .i64 (fl - 2)) = v6 at *
      try clear x0 x1 x2 x3 x4 x5
      try clear u0 u1 u2 u3 u4 u5
      try clear t0 t1 t2 t3 t4 t5
      try clear p0 p1 p2 p3 p4 p5
      try clear s0 s1 s2 s3 s4 s5
      obtain ⟨x0, x1, x2, x3, x4, x5⟩ := Q.out.X.cells
      obtain ⟨u0, u1, u2, u3, u4, u5⟩ := Q.out.U.cells
      obtain ⟨t0, t1, t2, t3, t4, t5⟩ := Q.out.T.cells
      obtain ⟨p0, p1, p2, p3, p4, p5⟩ := Q.out.U.free
      obtain ⟨s0, s1, s2, s3, s4, s5⟩ := Q.out.T.free
      try clear x0 x1 x2 x3 x4 x5
      try clear u0 u1 u2 u3 u4 u5
      try clear t0 t1 t2 t3 t4 t5
      try clear p0 p1 p2 p3 p4 p5
      try clear s0 s1 s2 s3 s4 s5
      replace Q := hide (Q.out.below (show Below v6.heap.size v6 v6.drew from below_drewN (brefl _) 1))
      have K := hide Q.out.k
      have HG := hide Q.out.hg
      have H9 := hide Q.out.h9
      have H10 := hide Q.out.h10
      have Y := hide Q.out.Y
      have Z := hide Q.out.Z
      have U := hide Q.out.U
      have T := hide Q.out.T
      clear Q
      refine wp_region_noPanic ?_
      refine wp_region_held_drew (S := (fun W => W.cell? ⟨b9, 0, none⟩ = some (.int .i64 st) ∧ W.cell? ⟨b9, 1, none⟩ = some (.int .i64 (p - st)) ∧ W.cell? ⟨b9, 2, none⟩ = some (.int .i64 pr) ∧ W.cell? ⟨b9, 3, none⟩ = some (.int .i64 fl) ∧ W.cell? ⟨b9, 4, none⟩ = some (.int .i64 fi) ∧ W.cell? ⟨b9, 5, none⟩ = some (.int .i64 ix) ∧ W.cell? ⟨b10, 0, none⟩ = some (.int .i64 p) ∧ W.cell? ⟨b10, 1, none⟩ = some (.int .i64 (pg - (p - st))) ∧ W.cell? ⟨b10, 2, none⟩ = some (.int .i64 pr) ∧ W.cell? ⟨b10, 3, none⟩ = some (.int .i64 (fl - 2)) ∧ W.cell? ⟨b10, 4, none⟩ = some (.int .i64 fi) ∧ W.cell? ⟨b10, 5, none⟩ = some (.int .i64 ix))) (by kernel_rfl) ?_ (fun hHeld => ?_)
      · (obtain ⟨u0, u1, u2, u3, u4, u5⟩ := RB.cells U.out; obtain ⟨t0, t1, t2, t3, t4, t5⟩ := RB.cells T.out; exact ⟨u0, u1, u2, u3, u4, u5, t0, t1, t2, t3, t4, t5⟩)
      generalize v6.drew = ww at *
      refine wpAnyH_take (i := 0) (oi := ⟨some 62, _, _, _, _, _⟩) (v := ?_) rfl (by kernel_rfl) (by kernel_rfl) (by kernel_rfl) (fun _ _ _ h => h) (Or.inl ⟨by kernel_rfl, ?_⟩) (by assumption) ?_
      rotate_left 1
      · (intro w hSw; (try dsimp only at hSw); go_simp) <;> (with_reducible rfl)
      (try simp only [Act.put, List.setIfInBounds_toArray, List.set_cons_succ, List.set_cons_zero])
      refine wpAnyH_take (i := 1) (oi := ⟨some 63, _, _, _, _, _⟩) (v := ?_) rfl (by kernel_rfl) (by kernel_rfl) (by kernel_rfl) (fun _ _ _ h => h) (Or.inl ⟨by kernel_rfl, ?_⟩) (by assumption) ?_
      rotate_left 1
      · (intro w hSw; (try dsimp only at hSw); go_simp) <;> (with_reducible rfl)
      (try simp only [Act.put, List.setIfInBounds_toArray, List.set_cons_succ, List.set_cons_zero])
      refine wpAnyH_ready (rs := [2]) (by kernel_rfl) (by simp) ?_
      refine AllReadyH.cons (o := ⟨none, _, _, _, _, _⟩) rfl (fun K' hK => ?_) AllReadyH.nil
      obtain ⟨c0, c1, c2, c3, c4, c5⟩ := RB.cells Y.out
      obtain ⟨q0, q1, q2, q3, q4, q5⟩ := RB.free Y.out
      go_simp
      have i9 := H9.out
      have i10 := H10.out
      have iG := HG.out
      replace K := hide (show Below w.heap.size w ((((((ww.setCell ⟨g2 + 1, 0, none⟩ (.int .i64 st)).setCell ⟨g2 + 1, 1, none⟩ (.int .i64 (p - st))).setCell ⟨g2 + 1, 2, none⟩ (.int .i64 pr)).setCell ⟨g2 + 1, 3, none⟩ (.int .i64 fl)).setCell ⟨g2 + 1, 4, none⟩ (.int .i64 fi)).setCell ⟨g2 + 1, 5, none⟩ (.int .i64 ix)) from bset6 K.out (by omega))
      replace Z := hide (show RB ((((((ww.setCell ⟨g2 + 1, 0, none⟩ (.int .i64 st)).setCell ⟨g2 + 1, 1, none⟩ (.int .i64 (p - st))).setCell ⟨g2 + 1, 2, none⟩ (.int .i64 pr)).setCell ⟨g2 + 1, 3, none⟩ (.int .i64 fl)).setCell ⟨g2 + 1, 4, none⟩ (.int .i64 fi)).setCell ⟨g2 + 1, 5, none⟩ (.int .i64 ix)) (g2 + 2) ⟨0, 0, 0, 0, 0, 0⟩ from RB.far6 Z.out (by omega))
      replace U := hide (show RB ((((((ww.setCell ⟨g2 + 1, 0, none⟩ (.int .i64 st)).setCell ⟨g2 + 1, 1, none⟩ (.int .i64 (p - st))).setCell ⟨g2 + 1, 2, none⟩ (.int .i64 pr)).setCell ⟨g2 + 1, 3, none⟩ (.int .i64 fl)).setCell ⟨g2 + 1, 4, none⟩ (.int .i64 fi)).setCell ⟨g2 + 1, 5, none⟩ (.int .i64 ix)) b9 ⟨st, p - st, pr, fl, fi, ix⟩ from RB.far6 U.out (by omega))
      replace T := hide (show RB ((((((ww.setCell ⟨g2 + 1, 0, none⟩ (.int .i64 st)).setCell ⟨g2 + 1, 1, none⟩ (.int .i64 (p - st))).setCell ⟨g2 + 1, 2, none⟩ (.int .i64 pr)).setCell ⟨g2 + 1, 3, none⟩ (.int .i64 fl)).setCell ⟨g2 + 1, 4, none⟩ (.int .i64 fi)).setCell ⟨g2 + 1, 5, none⟩ (.int .i64 ix)) b10 ⟨p, pg - (p - st), pr, fl - 2, fi, ix⟩ from RB.far6 T.out (by omega))
      replace Y := hide (show RB ((((((ww.setCell ⟨g2 + 1, 0, none⟩ (.int .i64 st)).setCell ⟨g2 + 1, 1, none⟩ (.int .i64 (p - st))).setCell ⟨g2 + 1, 2, none⟩ (.int .i64 pr)).setCell ⟨g2 + 1, 3, none⟩ (.int .i64 fl)).setCell ⟨g2 + 1, 4, none⟩ (.int .i64 fi)).setCell ⟨g2 + 1, 5, none⟩ (.int .i64 ix)) (g2 + 1) ⟨st, p - st, pr, fl, fi, ix⟩ from RB.put6 Y.out)
      clear c0 c1 c2 c3 c4 c5 q0 q1 q2 q3 q4 q5 i9 i10 iG
      generalize ((((((ww.setCell ⟨g2 + 1, 0, none⟩ (.int .i64 st)).setCell ⟨g2 + 1, 1, none⟩ (.int .i64 (p - st))).setCell ⟨g2 + 1, 2, none⟩ (.int .i64 pr)).setCell ⟨g2 + 1, 3, none⟩ (.int .i64 fl)).setCell ⟨g2 + 1, 4, none⟩ (.int .i64 fi)).setCell ⟨g2 + 1, 5, none⟩ (.int .i64 ix)) = wy at *
      refine hK.out _ _ ?_ (fun hHeld => ?_)
      · (obtain ⟨u0, u1, u2, u3, u4, u5⟩ := RB.cells U.out; obtain ⟨t0, t1, t2, t3, t4, t5⟩ := RB.cells T.out; exact ⟨u0, u1, u2, u3, u4, u5, t0, t1, t2, t3, t4, t5⟩)
      clear hK K'
      (try simp only [Act.put, List.setIfInBounds_toArray, List.set_cons_succ, List.set_cons_zero])
      refine wpAnyH_ready (rs := [3]) (by kernel_rfl) (by simp) ?_
      refine AllReadyH.cons (o := ⟨none, _, _, _, _, _⟩) rfl (fun K' hK => ?_) AllReadyH.nil
      obtain ⟨c0, c1, c2, c3, c4, c5⟩ := RB.cells Z.out
      obtain ⟨q0, q1, q2, q3, q4, q5⟩ := RB.free Z.out
      go_simp
      have i9 := H9.out
      have i10 := H10.out
      have iG := HG.out
      replace K := hide (show Below w.heap.size w ((((((wy.setCell ⟨g2 + 2, 0, none⟩ (.int .i64 p)).setCell ⟨g2 + 2, 1, none⟩ (.int .i64 (pg - (p - st)))).setCell ⟨g2 + 2, 2, none⟩ (.int .i64 pr)).setCell ⟨g2 + 2, 3, none⟩ (.int .i64 (fl - 2))).setCell ⟨g2 + 2, 4, none⟩ (.int .i64 fi)).setCell ⟨g2 + 2, 5, none⟩ (.int .i64 ix)) from bset6 K.out (by omega))
      replace Y := hide (show RB ((((((wy.setCell ⟨g2 + 2, 0, none⟩ (.int .i64 p)).setCell ⟨g2 + 2, 1, none⟩ (.int .i64 (pg - (p - st)))).setCell ⟨g2 + 2, 2, none⟩ (.int .i64 pr)).setCell ⟨g2 + 2, 3, none⟩ (.int .i64 (fl - 2))).setCell ⟨g2 + 2, 4, none⟩ (.int .i64 fi)).setCell ⟨g2 + 2, 5, none⟩ (.int .i64 ix)) (g2 + 1) ⟨st, p - st, pr, fl, fi, ix⟩ from RB.far6 Y.out (by omega))
      replace U := hide (show RB ((((((wy.setCell ⟨g2 + 2, 0, none⟩ (.int .i64 p)).setCell ⟨g2 + 2, 1, none⟩ (.int .i64 (pg - (p - st)))).setCell ⟨g2 + 2, 2, none⟩ (.int .i64 pr)).setCell ⟨g2 + 2, 3, none⟩ (.int .i64 (fl - 2))).setCell ⟨g2 + 2, 4, none⟩ (.int .i64 fi)).setCell ⟨g2 + 2, 5, none⟩ (.int .i64 ix)) b9 ⟨st, p - st, pr, fl, fi, ix⟩ from RB.far6 U.out (by omega))
      replace T := hide (show RB ((((((wy.setCell ⟨g2 + 2, 0, none⟩ (.int .i64 p)).setCell ⟨g2 + 2, 1, none⟩ (.int .i64 (pg - (p - st)))).setCell ⟨g2 + 2, 2, none⟩ (.int .i64 pr)).setCell ⟨g2 + 2, 3, none⟩ (.int .i64 (fl - 2))).setCell ⟨g2 + 2, 4, none⟩ (.int .i64 fi)).setCell ⟨g2 + 2, 5, none⟩ (.int .i64 ix)) b10 ⟨p, pg - (p - st), pr, fl - 2, fi, ix⟩ from RB.far6 T.out (by omega))
      replace Z := hide (show RB ((((((wy.setCell ⟨g2 + 2, 0, none⟩ (.int .i64 p)).setCell ⟨g2 + 2, 1, none⟩ (.int .i64 (pg - (p - st)))).setCell ⟨g2 + 2, 2, none⟩ (.int .i64 pr)).setCell ⟨g2 + 2, 3, none⟩ (.int .i64 (fl - 2))).setCell ⟨g2 + 2, 4, none⟩ (.int .i64 fi)).setCell ⟨g2 + 2, 5, none⟩ (.int .i64 ix)) (g2 + 2) ⟨p, pg - (p - st), pr, fl - 2, fi, ix⟩ from RB.put6 Z.out)
      clear c0 c1 c2 c3 c4 c5 q0 q1 q2 q3 q4 q5 i9 i10 iG
      generalize ((((((wy.setCell ⟨g2 + 2, 0, none⟩ (.int .i64 p)).setCell ⟨g2 + 2, 1, none⟩ (.int .i64 (pg - (p - st)))).setCell ⟨g2 + 2, 2, none⟩ (.int .i64 pr)).setCell ⟨g2 + 2, 3, none⟩ (.int .i64 (fl - 2))).setCell ⟨g2 + 2, 4, none⟩ (.int .i64 fi)).setCell ⟨g2 + 2, 5, none⟩ (.int .i64 ix)) = wz at *
      refine hK.out _ _ ?_ (fun hHeld => ?_)
      · (obtain ⟨u0, u1, u2, u3, u4, u5⟩ := RB.cells U.out; obtain ⟨t0, t1, t2, t3, t4, t5⟩ := RB.cells T.out; exact ⟨u0, u1, u2, u3, u4, u5, t0, t1, t2, t3, t4, t5⟩)
      clear hK K'
      (try simp only [Act.put, List.setIfInBounds_toArray, List.set_cons_succ, List.set_cons_zero])
      refine wpAnyH_take (i := 4) (oi := ⟨some 6, _, _, _, _, _⟩) (v := ?_) rfl (by kernel_rfl) (by kernel_rfl) (by kernel_rfl) (fun _ _ _ h => h) (Or.inl ⟨by kernel_rfl, ?_⟩) (by assumption) ?_
      rotate_left 1
      · (intro w hSw; (try dsimp only at hSw); go_simp) <;> (with_reducible rfl)
      (try simp only [Act.put, List.setIfInBounds_toArray, List.set_cons_succ, List.set_cons_zero])
      refine wpAnyH_done (by kernel_rfl) ?_ _
      refine NoPanic.normal ?_
      go_wp2
      exact ret_r3 rfl rfl rfl rfl rfl Y.out Z.out E.out ⟨rfl, K.out⟩
    · rw [nog_n h6] at E
      rw [decide_eq_false h6] at F2
      replace E := hide E
      replace F2 := hide F2
      replace h6 := hide h6
      have HS := hide (show g2 + 3 ≤ W0.heap.size by rw [HW.out, HB.out]; simp)
      go_enter Try.func56, Try.ntmps56
      go_upto_region 1 with fail
      rw [← HW.out, ← HB.out]
      clear HW HB
      try clear x0 x1 x2 x3 x4 x5
      obtain ⟨x0, x1, x2, x3, x4, x5⟩ := X.out.cells
      try clear y0 y1 y2 y3 y4 y5
      obtain ⟨y0, y1, y2, y3, y4, y5⟩ := Y.out.cells
      try clear z0 z1 z2 z3 z4 z5
      obtain ⟨z0, z1, z2, z3, z4, z5⟩ := Z.out.cells
      go_wp2_with fail
      refine (Ca.out _).mono ?_
      rintro e w2 ⟨rfl, hb⟩
      replace K := hide (btrans K.out hb)
      replace X := hide (X.out.below hb)
      replace Y := hide (Y.out.below hb)
      replace Z := hide (Z.out.below hb)
      replace HS := hide (Nat.le_trans HS.out hb.size)
      clear hb
      try clear x0 x1 x2 x3 x4 x5
      obtain ⟨x0, x1, x2, x3, x4, x5⟩ := X.out.cells
      try clear y0 y1 y2 y3 y4 y5
      obtain ⟨y0, y1, y2, y3, y4, y5⟩ := Y.out.cells
      try clear z0 z1 z2 z3 z4 z5
      obtain ⟨z0, z1, z2, z3, z4, z5⟩ := Z.out.cells
      go_upto_region 7 with fail
      replace K := hide (show Below w.heap.size w w2.drew from btrans K.out (below_drewN (brefl _) 1))
      replace X := hide X.out.drew
      replace Y := hide Y.out.drew
      replace Z := hide Z.out.drew
      replace HS := hide (show g2 + 3 ≤ w2.drew.heap.size from HS.out)
      clear x0 x1 x2 x3 x4 x5 y0 y1 y2 y3 y4 y5 z0 z1 z2 z3 z4 z5
      refine wp_region_noPanic ?_
      refine wp_region_held_drew (S := (fun W => W.cell? ⟨g2, 0, none⟩ = some (.int .i64 st) ∧ W.cell? ⟨g2, 1, none⟩ = some (.int .i64 pg) ∧ W.cell? ⟨g2, 2, none⟩ = some (.int .i64 pr) ∧ W.cell? ⟨g2, 3, none⟩ = some (.int .i64 fl) ∧ W.cell? ⟨g2, 4, none⟩ = some (.int .i64 fi) ∧ W.cell? ⟨g2, 5, none⟩ = some (.int .i64 ix))) (by kernel_rfl) ?_ (fun hHeld => ?_)
      · exact X.out.cells
      generalize w2.drew = w4 at *
      refine wpAnyH_take (i := 0) (oi := ⟨some 37, _, _, _, _, _⟩) (v := ?_) rfl (by kernel_rfl) (by kernel_rfl) (by kernel_rfl) (fun _ _ _ h => h) (Or.inl ⟨by kernel_rfl, ?_⟩) (by assumption) ?_
      rotate_left 1
      · (intro w hSw; (try dsimp only at hSw); go_simp) <;> (with_reducible rfl)
      (try simp only [Act.put, List.setIfInBounds_toArray, List.set_cons_succ, List.set_cons_zero])
      refine wpAnyH_take (i := 1) (oi := ⟨some 38, _, _, _, _, _⟩) (v := ?_) rfl (by kernel_rfl) (by kernel_rfl) (by kernel_rfl) (fun _ _ _ h => h) (Or.inl ⟨by kernel_rfl, ?_⟩) (by assumption) ?_
      rotate_left 1
      · (intro w hSw; (try dsimp only at hSw); go_simp) <;> (with_reducible rfl)
      (try simp only [Act.put, List.setIfInBounds_toArray, List.set_cons_succ, List.set_cons_zero])
      refine wpAnyH_ready (rs := [2, 3]) (by kernel_rfl) (by simp) ?_
      refine AllReadyH.cons (o := ⟨some 9, _, _, _, _, _⟩) rfl (fun K' hK => ?_) ?_
      · go_simp
        have U := hide (RB.new w4 0 0 0 0 0 0)
        have M := bal (brefl w4) (.cells #[.int .i64 0, .int .i64 0, .int .i64 0, .int .i64 0, .int .i64 0, .int .i64 0] 58)
        have HC0 := HS.out
        replace K := hide (btrans K.out M)
        replace X := hide (X.out.below M)
        replace Y := hide (Y.out.below M)
        replace Z := hide (Z.out.below M)
        replace HS := hide (Nat.le_trans HS.out M.size)
        obtain ⟨b9, hcb⟩ : ∃ q, q = w4.heap.size := ⟨_, rfl⟩
        have H9 := hide (show g2 + 3 ≤ b9 by omega)
        rw [← hcb] at U ⊢
        clear hcb HC0 M
        generalize w4.alloc (.cells #[.int .i64 0, .int .i64 0, .int .i64 0, .int .i64 0, .int .i64 0, .int .i64 0] 58) = wa at *
        refine hK.out _ _ ?_ (fun hHeld => ?_)
        · exact X.out.cells
        clear hK K'
        (try simp only [Act.put, List.setIfInBounds_toArray, List.set_cons_succ, List.set_cons_zero])
        refine wpAnyH_ready (rs := [3]) (by kernel_rfl) (by simp) ?_
        refine AllReadyH.cons (o := ⟨some 10, _, _, _, _, _⟩) rfl (fun K' hK => ?_) AllReadyH.nil
        go_simp
        have T := hide (RB.new wa 0 0 0 0 0 0)
        have M := bal (brefl wa) (.cells #[.int .i64 0, .int .i64 0, .int .i64 0, .int .i64 0, .int .i64 0, .int .i64 0] 58)
        have HC0 := HS.out
        have LU := U.out.lt
        replace K := hide (btrans K.out M)
        replace X := hide (X.out.below M)
        replace Y := hide (Y.out.below M)
        replace Z := hide (Z.out.below M)
        replace U := hide (U.out.below M)
        replace HS := hide (Nat.le_trans HS.out M.size)
        obtain ⟨b10, hcb⟩ : ∃ q, q = wa.heap.size := ⟨_, rfl⟩
        have H10 := hide (show g2 + 3 ≤ b10 by omega)
        have HN := hide (show b9 ≠ b10 by omega)
        rw [← hcb] at T ⊢
        clear hcb HC0 M LU
        generalize wa.alloc (.cells #[.int .i64 0, .int .i64 0, .int .i64 0, .int .i64 0, .int .i64 0, .int .i64 0] 58) = wb at *
        refine hK.out _ _ ?_ (fun hHeld => ?_)
        · exact X.out.cells
        clear hK K'
        (try simp only [Act.put, List.setIfInBounds_toArray, List.set_cons_succ, List.set_cons_zero])
        refine wpAnyH_ready (rs := [4]) (by kernel_rfl) (by simp) ?_
        refine AllReadyH.cons (o := ⟨none, _, _, _, _, _⟩) rfl (fun K' hK => ?_) AllReadyH.nil
        obtain ⟨c0, c1, c2, c3, c4, c5⟩ := RB.cells U.out
        obtain ⟨q0, q1, q2, q3, q4, q5⟩ := RB.free U.out
        go_simp
        have i9 := H9.out
        have iN := HN.out
        have iG := HG.out
        replace K := hide (show Below w.heap.size w ((((((wb.setCell ⟨b9, 0, none⟩ (.int .i64 st)).setCell ⟨b9, 1, none⟩ (.int .i64 pg)).setCell ⟨b9, 2, none⟩ (.int .i64 pr)).setCell ⟨b9, 3, none⟩ (.int .i64 fl)).setCell ⟨b9, 4, none⟩ (.int .i64 fi)).setCell ⟨b9, 5, none⟩ (.int .i64 ix)) from bset6 K.out (by omega))
        replace X := hide (show RB ((((((wb.setCell ⟨b9, 0, none⟩ (.int .i64 st)).setCell ⟨b9, 1, none⟩ (.int .i64 pg)).setCell ⟨b9, 2, none⟩ (.int .i64 pr)).setCell ⟨b9, 3, none⟩ (.int .i64 fl)).setCell ⟨b9, 4, none⟩ (.int .i64 fi)).setCell ⟨b9, 5, none⟩ (.int .i64 ix)) g2 ⟨st, pg, pr, fl, fi, ix⟩ from RB.far6 X.out (by omega))
        replace Y := hide (show RB ((((((wb.setCell ⟨b9, 0, none⟩ (.int .i64 st)).setCell ⟨b9, 1, none⟩ (.int .i64 pg)).setCell ⟨b9, 2, none⟩ (.int .i64 pr)).setCell ⟨b9, 3, none⟩ (.int .i64 fl)).setCell ⟨b9, 4, none⟩ (.int .i64 fi)).setCell ⟨b9, 5, none⟩ (.int .i64 ix)) (g2 + 1) ⟨0, 0, 0, 0, 0, 0⟩ from RB.far6 Y.out (by omega))
        replace Z := hide (show RB ((((((wb.setCell ⟨b9, 0, none⟩ (.int .i64 st)).setCell ⟨b9, 1, none⟩ (.int .i64 pg)).setCell ⟨b9, 2, none⟩ (.int .i64 pr)).setCell ⟨b9, 3, none⟩ (.int .i64 fl)).setCell ⟨b9, 4, none⟩ (.int .i64 fi)).setCell ⟨b9, 5, none⟩ (.int .i64 ix)) (g2 + 2) ⟨0, 0, 0, 0, 0, 0⟩ from RB.far6 Z.out (by omega))
        replace T := hide (show RB ((((((wb.setCell ⟨b9, 0, none⟩ (.int .i64 st)).setCell ⟨b9, 1, none⟩ (.int .i64 pg)).setCell ⟨b9, 2, none⟩ (.int .i64 pr)).setCell ⟨b9, 3, none⟩ (.int .i64 fl)).setCell ⟨b9, 4, none⟩ (.int .i64 fi)).setCell ⟨b9, 5, none⟩ (.int .i64 ix)) b10 ⟨0, 0, 0, 0, 0, 0⟩ from RB.far6 T.out (by omega))
        replace U := hide (show RB ((((((wb.setCell ⟨b9, 0, none⟩ (.int .i64 st)).setCell ⟨b9, 1, none⟩ (.int .i64 pg)).setCell ⟨b9, 2, none⟩ (.int .i64 pr)).setCell ⟨b9, 3, none⟩ (.int .i64 fl)).setCell ⟨b9, 4, none⟩ (.int .i64 fi)).setCell ⟨b9, 5, none⟩ (.int .i64 ix)) b9 ⟨st, pg, pr, fl, fi, ix⟩ from RB.put6 U.out)
        clear c0 c1 c2 c3 c4 c5 q0 q1 q2 q3 q4 q5 i9 iN iG
        generalize ((((((wb.setCell ⟨b9, 0, none⟩ (.int .i64 st)).setCell ⟨b9, 1, none⟩ (.int .i64 pg)).setCell ⟨b9, 2, none⟩ (.int .i64 pr)).setCell ⟨b9, 3, none⟩ (.int .i64 fl)).setCell ⟨b9, 4, none⟩ (.int .i64 fi)).setCell ⟨b9, 5, none⟩ (.int .i64 ix)) = wu at *
        refine hK.out _ _ ?_ (fun hHeld => ?_)
        · exact X.out.cells
        clear hK K'
        (try simp only [Act.put, List.setIfInBounds_toArray, List.set_cons_succ, List.set_cons_zero])
        refine wpAnyH_ready (rs := [5]) (by kernel_rfl) (by simp) ?_
        refine AllReadyH.cons (o := ⟨none, _, _, _, _, _⟩) rfl (fun K' hK => ?_) AllReadyH.nil
        obtain ⟨c0, c1, c2, c3, c4, c5⟩ := RB.cells T.out
        obtain ⟨q0, q1, q2, q3, q4, q5⟩ := RB.free T.out
        go_simp
        have i9 := H10.out
        have iN := HN.out
        have iG := HG.out
        replace K := hide (show Below w.heap.size w ((((((wu.setCell ⟨b10, 0, none⟩ (.int .i64 st)).setCell ⟨b10, 1, none⟩ (.int .i64 pg)).setCell ⟨b10, 2, none⟩ (.int .i64 pr)).setCell ⟨b10, 3, none⟩ (.int .i64 fl)).setCell ⟨b10, 4, none⟩ (.int .i64 fi)).setCell ⟨b10, 5, none⟩ (.int .i64 ix)) from bset6 K.out (by omega))
        replace X := hide (show RB ((((((wu.setCell ⟨b10, 0, none⟩ (.int .i64 st)).setCell ⟨b10, 1, none⟩ (.int .i64 pg)).setCell ⟨b10, 2, none⟩ (.int .i64 pr)).setCell ⟨b10, 3, none⟩ (.int .i64 fl)).setCell ⟨b10, 4, none⟩ (.int .i64 fi)).setCell ⟨b10, 5, none⟩ (.int .i64 ix)) g2 ⟨st, pg, pr, fl, fi, ix⟩ from RB.far6 X.out (by omega))
        replace Y := hide (show RB ((((((wu.setCell ⟨b10, 0, none⟩ (.int .i64 st)).setCell ⟨b10, 1, none⟩ (.int .i64 pg)).setCell ⟨b10, 2, none⟩ (.int .i64 pr)).setCell ⟨b10, 3, none⟩ (.int .i64 fl)).setCell ⟨b10, 4, none⟩ (.int .i64 fi)).setCell ⟨b10, 5, none⟩ (.int .i64 ix)) (g2 + 1) ⟨0, 0, 0, 0, 0, 0⟩ from RB.far6 Y.out (by omega))
        replace Z := hide (show RB ((((((wu.setCell ⟨b10, 0, none⟩ (.int .i64 st)).setCell ⟨b10, 1, none⟩ (.int .i64 pg)).setCell ⟨b10, 2, none⟩ (.int .i64 pr)).setCell ⟨b10, 3, none⟩ (.int .i64 fl)).setCell ⟨b10, 4, none⟩ (.int .i64 fi)).setCell ⟨b10, 5, none⟩ (.int .i64 ix)) (g2 + 2) ⟨0, 0, 0, 0, 0, 0⟩ from RB.far6 Z.out (by omega))
        replace U := hide (show RB ((((((wu.setCell ⟨b10, 0, none⟩ (.int .i64 st)).setCell ⟨b10, 1, none⟩ (.int .i64 pg)).setCell ⟨b10, 2, none⟩ (.int .i64 pr)).setCell ⟨b10, 3, none⟩ (.int .i64 fl)).setCell ⟨b10, 4, none⟩ (.int .i64 fi)).setCell ⟨b10, 5, none⟩ (.int .i64 ix)) b9 ⟨st, pg, pr, fl, fi, ix⟩ from RB.far6 U.out (by omega))
        replace T := hide (show RB ((((((wu.setCell ⟨b10, 0, none⟩ (.int .i64 st)).setCell ⟨b10, 1, none⟩ (.int .i64 pg)).setCell ⟨b10, 2, none⟩ (.int .i64 pr)).setCell ⟨b10, 3, none⟩ (.int .i64 fl)).setCell ⟨b10, 4, none⟩ (.int .i64 fi)).setCell ⟨b10, 5, none⟩ (.int .i64 ix)) b10 ⟨st, pg, pr, fl, fi, ix⟩ from RB.put6 T.out)
        clear c0 c1 c2 c3 c4 c5 q0 q1 q2 q3 q4 q5 i9 iN iG
        generalize ((((((wu.setCell ⟨b10, 0, none⟩ (.int .i64 st)).setCell ⟨b10, 1, none⟩ (.int .i64 pg)).setCell ⟨b10, 2, none⟩ (.int .i64 pr)).setCell ⟨b10, 3, none⟩ (.int .i64 fl)).setCell ⟨b10, 4, none⟩ (.int .i64 fi)).setCell ⟨b10, 5, none⟩ (.int .i64 ix)) = wv at *
        refine hK.out _ _ ?_ (fun hHeld => ?_)
        · exact X.out.cells
        clear hK K'
        (try simp only [Act.put, List.setIfInBounds_toArray, List.set_cons_succ, List.set_cons_zero])
        refine wpAnyH_done (by kernel_rfl) ?_ _
        refine NoPanic.normal ?_
        have Q : Hid (S5 w wv g2 b9 b10 ⟨st, pg, pr, fl, fi, ix⟩ ⟨0, 0, 0, 0, 0, 0⟩ ⟨0, 0, 0, 0, 0, 0⟩ ⟨st, pg, pr, fl, fi, ix⟩ ⟨st, pg, pr, fl, fi, ix⟩) := hide ⟨K.out, HG.out, H9.out, H10.out, HN.out, X.out, Y.out, Z.out, U.out, T.out⟩
        clear K HG H9 H10 HN X Y Z U T HS
        try clear x0 x1 x2 x3 x4 x5
        try clear u0 u1 u2 u3 u4 u5
        try clear t0 t1 t2 t3 t4 t5
        try clear p0 p1 p2 p3 p4 p5
        try clear s0 s1 s2 s3 s4 s5
        obtain ⟨x0, x1, x2, x3, x4, x5⟩ := Q.out.X.cells
        obtain ⟨u0, u1, u2, u3, u4, u5⟩ := Q.out.U.cells
        obtain ⟨t0, t1, t2, t3, t4, t5⟩ := Q.out.T.cells
        obtain ⟨p0, p1, p2, p3, p4, p5⟩ := Q.out.U.free
        obtain ⟨s0, s1, s2, s3, s4, s5⟩ := Q.out.T.free
        go_upto_region 9 with fail
        replace Q := hide (Q.out.setU (RB.set1 Q.out.U (p - st)))
        generalize wv.setCell ⟨b9, 1, none⟩ (.int .i64 (p - st)) = v1 at *
        try clear x0 x1 x2 x3 x4 x5
        try clear u0 u1 u2 u3 u4 u5
        try clear t0 t1 t2 t3 t4 t5
        try clear p0 p1 p2 p3 p4 p5
        try clear s0 s1 s2 s3 s4 s5
        obtain ⟨x0, x1, x2, x3, x4, x5⟩ := Q.out.X.cells
        obtain ⟨u0, u1, u2, u3, u4, u5⟩ := Q.out.U.cells
        obtain ⟨t0, t1, t2, t3, t4, t5⟩ := Q.out.T.cells
        obtain ⟨p0, p1, p2, p3, p4, p5⟩ := Q.out.U.free
        obtain ⟨s0, s1, s2, s3, s4, s5⟩ := Q.out.T.free
        go_upto_region 10 with fail
        replace Q := hide (Q.out.setT (RB.set0 Q.out.T (p)))
        generalize v1.setCell ⟨b10, 0, none⟩ (.int .i64 (p)) = v2 at *
        try clear x0 x1 x2 x3 x4 x5
        try clear u0 u1 u2 u3 u4 u5
        try clear t0 t1 t2 t3 t4 t5
        try clear p0 p1 p2 p3 p4 p5
        try clear s0 s1 s2 s3 s4 s5
        obtain ⟨x0, x1, x2, x3, x4, x5⟩ := Q.out.X.cells
        obtain ⟨u0, u1, u2, u3, u4, u5⟩ := Q.out.U.cells
        obtain ⟨t0, t1, t2, t3, t4, t5⟩ := Q.out.T.cells
        obtain ⟨p0, p1, p2, p3, p4, p5⟩ := Q.out.U.free
        obtain ⟨s0, s1, s2, s3, s4, s5⟩ := Q.out.T.free
        go_upto_region 11 with fail
        replace Q := hide (Q.out.setT (RB.set1 Q.out.T (pg - (p - st))))
        generalize v2.setCell ⟨b10, 1, none⟩ (.int .i64 (pg - (p - st))) = v3 at *
        try clear x0 x1 x2 x3 x4 x5
        try clear u0 u1 u2 u3 u4 u5
        try clear t0 t1 t2 t3 t4 t5
        try clear p0 p1 p2 p3 p4 p5
        try clear s0 s1 s2 s3 s4 s5
        obtain ⟨x0, x1, x2, x3, x4, x5⟩ := Q.out.X.cells
        obtain ⟨u0, u1, u2, u3, u4, u5⟩ := Q.out.U.cells
        obtain ⟨t0, t1, t2, t3, t4, t5⟩ := Q.out.T.cells
        obtain ⟨p0, p1, p2, p3, p4, p5⟩ := Q.out.U.free
        obtain ⟨s0, s1, s2, s3, s4, s5⟩ := Q.out.T.free
        go_wp2_with fail
        refine (F2.out _).mono ?_
        rintro e v5 ⟨rfl, hb⟩
        replace Q := hide (Q.out.below hb)
        clear hb
        try clear x0 x1 x2 x3 x4 x5
        try clear u0 u1 u2 u3 u4 u5
        try clear t0 t1 t2 t3 t4 t5
        try clear p0 p1 p2 p3 p4 p5
        try clear s0 s1 s2 s3 s4 s5
        obtain ⟨x0, x1, x2, x3, x4, x5⟩ := Q.out.X.cells
        obtain ⟨u0, u1, u2, u3, u4, u5⟩ := Q.out.U.cells
        obtain ⟨t0, t1, t2, t3, t4, t5⟩ := Q.out.T.cells
        obtain ⟨p0, p1, p2, p3, p4, p5⟩ := Q.out.U.free
        obtain ⟨s0, s1, s2, s3, s4, s5⟩ := Q.out.T.free
        go_upto_region 15 with fail
        try clear x0 x1 x2 x3 x4 x5
        try clear u0 u1 u2 u3 u4 u5
        try clear t0 t1 t2 t3 t4 t5
        try clear p0 p1 p2 p3 p4 p5
        try clear s0 s1 s2 s3 s4 s5
        replace Q := hide (Q.out.below (show Below v5.heap.size v5 v5.drew from below_drewN (brefl _) 1))
        have K := hide Q.out.k
        have HG := hide Q.out.hg
        have H9 := hide Q.out.h9
        have H10 := hide Q.out.h10
        have Y := hide Q.out.Y
        have Z := hide Q.out.Z
        have U := hide Q.out.U
        have T := hide Q.out.T
        clear Q
        refine wp_region_noPanic ?_
        refine wp_region_held_drew (S := (fun W => W.cell? ⟨b9, 0, none⟩ = some (.int .i64 st) ∧ W.cell? ⟨b9, 1, none⟩ = some (.int .i64 (p - st)) ∧ W.cell? ⟨b9, 2, none⟩ = some (.int .i64 pr) ∧ W.cell? ⟨b9, 3, none⟩ = some (.int .i64 fl) ∧ W.cell? ⟨b9, 4, none⟩ = some (.int .i64 fi) ∧ W.cell? ⟨b9, 5, none⟩ = some (.int .i64 ix) ∧ W.cell? ⟨b10, 0, none⟩ = some (.int .i64 p) ∧ W.cell? ⟨b10, 1, none⟩ = some (.int .i64 (pg - (p - st))) ∧ W.cell? ⟨b10, 2, none⟩ = some (.int .i64 pr) ∧ W.cell? ⟨b10, 3, none⟩ = some (.int .i64 fl) ∧ W.cell? ⟨b10, 4, none⟩ = some (.int .i64 fi) ∧ W.cell? ⟨b10, 5, none⟩ = some (.int .i64 ix))) (by kernel_rfl) ?_ (fun hHeld => ?_)
        · (obtain ⟨u0, u1, u2, u3, u4, u5⟩ := RB.cells U.out; obtain ⟨t0, t1, t2, t3, t4, t5⟩ := RB.cells T.out; exact ⟨u0, u1, u2, u3, u4, u5, t0, t1, t2, t3, t4, t5⟩)
        generalize v5.drew = ww at *
        refine wpAnyH_take (i := 0) (oi := ⟨some 62, _, _, _, _, _⟩) (v := ?_) rfl (by kernel_rfl) (by kernel_rfl) (by kernel_rfl) (fun _ _ _ h => h) (Or.inl ⟨by kernel_rfl, ?_⟩) (by assumption) ?_
        rotate_left 1
        · (intro w hSw; (try dsimp only at hSw); go_simp) <;> (with_reducible rfl)
        (try simp only [Act.put, List.setIfInBounds_toArray, List.set_cons_succ, List.set_cons_zero])
        refine wpAnyH_take (i := 1) (oi := ⟨some 63, _, _, _, _, _⟩) (v := ?_) rfl (by kernel_rfl) (by kernel_rfl) (by kernel_rfl) (fun _ _ _ h => h) (Or.inl ⟨by kernel_rfl, ?_⟩) (by assumption) ?_
        rotate_left 1
        · (intro w hSw; (try dsimp only at hSw); go_simp) <;> (with_reducible rfl)
        (try simp only [Act.put, List.setIfInBounds_toArray, List.set_cons_succ, List.set_cons_zero])
        refine wpAnyH_ready (rs := [2]) (by kernel_rfl) (by simp) ?_
        refine AllReadyH.cons (o := ⟨none, _, _, _, _, _⟩) rfl (fun K' hK => ?_) AllReadyH.nil
        obtain ⟨c0, c1, c2, c3, c4, c5⟩ := RB.cells Y.out
        obtain ⟨q0, q1, q2, q3, q4, q5⟩ := RB.free Y.out
        go_simp
        have i9 := H9.out
        have i10 := H10.out
        have iG := HG.out
        replace K := hide (show Below w.heap.size w ((((((ww.setCell ⟨g2 + 1, 0, none⟩ (.int .i64 st)).setCell ⟨g2 + 1, 1, none⟩ (.int .i64 (p - st))).setCell ⟨g2 + 1, 2, none⟩ (.int .i64 pr)).setCell ⟨g2 + 1, 3, none⟩ (.int .i64 fl)).setCell ⟨g2 + 1, 4, none⟩ (.int .i64 fi)).setCell ⟨g2 + 1, 5, none⟩ (.int .i64 ix)) from bset6 K.out (by omega))
        replace Z := hide (show RB ((((((ww.setCell ⟨g2 + 1, 0, none⟩ (.int .i64 st)).setCell ⟨g2 + 1, 1, none⟩ (.int .i64 (p - st))).setCell ⟨g2 + 1, 2, none⟩ (.int .i64 pr)).setCell ⟨g2 + 1, 3, none⟩ (.int .i64 fl)).setCell ⟨g2 + 1, 4, none⟩ (.int .i64 fi)).setCell ⟨g2 + 1, 5, none⟩ (.int .i64 ix)) (g2 + 2) ⟨0, 0, 0, 0, 0, 0⟩ from RB.far6 Z.out (by omega))
        replace U := hide (show RB ((((((ww.setCell ⟨g2 + 1, 0, none⟩ (.int .i64 st)).setCell ⟨g2 + 1, 1, none⟩ (.int .i64 (p - st))).setCell ⟨g2 + 1, 2, none⟩ (.int .i64 pr)).setCell ⟨g2 + 1, 3, none⟩ (.int .i64 fl)).setCell ⟨g2 + 1, 4, none⟩ (.int .i64 fi)).setCell ⟨g2 + 1, 5, none⟩ (.int .i64 ix)) b9 ⟨st, p - st, pr, fl, fi, ix⟩ from RB.far6 U.out (by omega))
        replace T := hide (show RB ((((((ww.setCell ⟨g2 + 1, 0, none⟩ (.int .i64 st)).setCell ⟨g2 + 1, 1, none⟩ (.int .i64 (p - st))).setCell ⟨g2 + 1, 2, none⟩ (.int .i64 pr)).setCell ⟨g2 + 1, 3, none⟩ (.int .i64 fl)).setCell ⟨g2 + 1, 4, none⟩ (.int .i64 fi)).setCell ⟨g2 + 1, 5, none⟩ (.int .i64 ix)) b10 ⟨p, pg - (p - st), pr, fl, fi, ix⟩ from RB.far6 T.out (by omega))
        replace Y := hide (show RB ((((((ww.setCell ⟨g2 + 1, 0, none⟩ (.int .i64 st)).setCell ⟨g2 + 1, 1, none⟩ (.int .i64 (p - st))).setCell ⟨g2 + 1, 2, none⟩ (.int .i64 pr)).setCell ⟨g2 + 1, 3, none⟩ (.int .i64 fl)).setCell ⟨g2 + 1, 4, none⟩ (.int .i64 fi)).setCell ⟨g2 + 1, 5, none⟩ (.int .i64 ix)) (g2 + 1) ⟨st, p - st, pr, fl, fi, ix⟩ from RB.put6 Y.out)
        clear c0 c1 c2 c3 c4 c5 q0 q1 q2 q3 q4 q5 i9 i10 iG
        generalize ((((((ww.setCell ⟨g2 + 1, 0, none⟩ (.int .i64 st)).setCell ⟨g2 + 1, 1, none⟩ (.int .i64 (p - st))).setCell ⟨g2 + 1, 2, none⟩ (.int .i64 pr)).setCell ⟨g2 + 1, 3, none⟩ (.int .i64 fl)).setCell ⟨g2 + 1, 4, none⟩ (.int .i64 fi)).setCell ⟨g2 + 1, 5, none⟩ (.int .i64 ix)) = wy at *
        refine hK.out _ _ ?_ (fun hHeld => ?_)
        · (obtain ⟨u0, u1, u2, u3, u4, u5⟩ := RB.cells U.out; obtain ⟨t0, t1, t2, t3, t4, t5⟩ := RB.cells T.out; exact ⟨u0, u1, u2, u3, u4, u5, t0, t1, t2, t3, t4, t5⟩)
        clear hK K'
        (try simp only [Act.put, List.setIfInBounds_toArray, List.set_cons_succ, List.set_cons_zero])
        refine wpAnyH_ready (rs := [3]) (by kernel_rfl) (by simp) ?_
        refine AllReadyH.cons (o := ⟨none, _, _, _, _, _⟩) rfl (fun K' hK => ?_) AllReadyH.nil
        obtain ⟨c0, c1, c2, c3, c4, c5⟩ := RB.cells Z.out
        obtain ⟨q0, q1, q2, q3, q4, q5⟩ := RB.free Z.out
        go_simp
        have i9 := H9.out
        have i10 := H10.out
        have iG := HG.out
        replace K := hide (show Below w.heap.size w ((((((wy.setCell ⟨g2 + 2, 0, none⟩ (.int .i64 p)).setCell ⟨g2 + 2, 1, none⟩ (.int .i64 (pg - (p - st)))).setCell ⟨g2 + 2, 2, none⟩ (.int .i64 pr)).setCell ⟨g2 + 2, 3, none⟩ (.int .i64 fl)).setCell ⟨g2 + 2, 4, none⟩ (.int .i64 fi)).setCell ⟨g2 + 2, 5, none⟩ (.int .i64 ix)) from bset6 K.out (by omega))
        replace Y := hide (show RB ((((((wy.setCell ⟨g2 + 2, 0, none⟩ (.int .i64 p)).setCell ⟨g2 + 2, 1, none⟩ (.int .i64 (pg - (p - st)))).setCell ⟨g2 + 2, 2, none⟩ (.int .i64 pr)).setCell ⟨g2 + 2, 3, none⟩ (.int .i64 fl)).setCell ⟨g2 + 2, 4, none⟩ (.int .i64 fi)).setCell ⟨g2 + 2, 5, none⟩ (.int .i64 ix)) (g2 + 1) ⟨st, p - st, pr, fl, fi, ix⟩ from RB.far6 Y.out (by omega))
        replace U := hide (show RB ((((((wy.setCell ⟨g2 + 2, 0, none⟩ (.int .i64 p)).setCell ⟨g2 + 2, 1, none⟩ (.int .i64 (pg - (p - st)))).setCell ⟨g2 + 2, 2, none⟩ (.int .i64 pr)).setCell ⟨g2 + 2, 3, none⟩ (.int .i64 fl)).setCell ⟨g2 + 2, 4, none⟩ (.int .i64 fi)).setCell ⟨g2 + 2, 5, none⟩ (.int .i64 ix)) b9 ⟨st, p - st, pr, fl, fi, ix⟩ from RB.far6 U.out (by omega))
        replace T := hide (show RB ((((((wy.setCell ⟨g2 + 2, 0, none⟩ (.int .i64 p)).setCell ⟨g2 + 2, 1, none⟩ (.int .i64 (pg - (p - st)))).setCell ⟨g2 + 2, 2, none⟩ (.int .i64 pr)).setCell ⟨g2 + 2, 3, none⟩ (.int .i64 fl)).setCell ⟨g2 + 2, 4, none⟩ (.int .i64 fi)).setCell ⟨g2 + 2, 5, none⟩ (.int .i64 ix)) b10 ⟨p, pg - (p - st), pr, fl, fi, ix⟩ from RB.far6 T.out (by omega))
        replace Z := hide (show RB ((((((wy.setCell ⟨g2 + 2, 0, none⟩ (.int .i64 p)).setCell ⟨g2 + 2, 1, none⟩ (.int .i64 (pg - (p - st)))).setCell ⟨g2 + 2, 2, none⟩ (.int .i64 pr)).setCell ⟨g2 + 2, 3, none⟩ (.int .i64 fl)).setCell ⟨g2 + 2, 4, none⟩ (.int .i64 fi)).setCell ⟨g2 + 2, 5, none⟩ (.int .i64 ix)) (g2 + 2) ⟨p, pg - (p - st), pr, fl, fi, ix⟩ from RB.put6 Z.out)
        clear c0 c1 c2 c3 c4 c5 q0 q1 q2 q3 q4 q5 i9 i10 iG
        generalize ((((((wy.setCell ⟨g2 + 2, 0, none⟩ (.int .i64 p)).setCell ⟨g2 + 2, 1, none⟩ (.int .i64 (pg - (p - st)))).setCell ⟨g2 + 2, 2, none⟩ (.int .i64 pr)).setCell ⟨g2 + 2, 3, none⟩ (.int .i64 fl)).setCell ⟨g2 + 2, 4, none⟩ (.int .i64 fi)).setCell ⟨g2 + 2, 5, none⟩ (.int .i64 ix)) = wz at *
        refine hK.out _ _ ?_ (fun hHeld => ?_)
        · (obtain ⟨u0, u1, u2, u3, u4, u5⟩ := RB.cells U.out; obtain ⟨t0, t1, t2, t3, t4, t5⟩ := RB.cells T.out; exact ⟨u0, u1, u2, u3, u4, u5, t0, t1, t2, t3, t4, t5⟩)
        clear hK K'
        (try simp only [Act.put, List.setIfInBounds_toArray, List.set_cons_succ, List.set_cons_zero])
        refine wpAnyH_take (i := 4) (oi := ⟨some 6, _, _, _, _, _⟩) (v := ?_) rfl (by kernel_rfl) (by kernel_rfl) (by kernel_rfl) (fun _ _ _ h => h) (Or.inl ⟨by kernel_rfl, ?_⟩) (by assumption) ?_
        rotate_left 1
        · (intro w hSw; (try dsimp only at hSw); go_simp) <;> (with_reducible rfl)
        (try simp only [Act.put, List.setIfInBounds_toArray, List.set_cons_succ, List.set_cons_zero])
        refine wpAnyH_done (by kernel_rfl) ?_ _
        refine NoPanic.normal ?_
        go_wp2
        exact ret_r3 rfl rfl rfl rfl rfl Y.out Z.out E.out ⟨rfl, K.out⟩
      refine AllReadyH.cons (o := ⟨some 10, _, _, _, _, _⟩) rfl (fun K' hK => ?_) AllReadyH.nil
      go_simp
      have T := hide (RB.new w4 0 0 0 0 0 0)
      have M := bal (brefl w4) (.cells #[.int .i64 0, .int .i64 0, .int .i64 0, .int .i64 0, .int .i64 0, .int .i64 0] 58)
      have HC0 := HS.out
      replace K := hide (btrans K.out M)
      replace X := hide (X.out.below M)
      replace Y := hide (Y.out.below M)
      replace Z := hide (Z.out.below M)
      replace HS := hide (Nat.le_trans HS.out M.size)
      obtain ⟨b10, hcb⟩ : ∃ q, q = w4.heap.size := ⟨_, rfl⟩
      have H10 := hide (show g2 + 3 ≤ b10 by omega)
      rw [← hcb] at T ⊢
      clear hcb HC0 M
      generalize w4.alloc (.cells #[.int .i64 0, .int .i64 0, .int .i64 0, .int .i64 0, .int .i64 0, .int .i64 0] 58) = wb at *
      refine hK.out _ _ ?_ (fun hHeld => ?_)
      · exact X.out.cells
      clear hK K'
      (try simp only [Act.put, List.setIfInBounds_toArray, List.set_cons_succ, List.set_cons_zero])
      refine wpAnyH_ready (rs := [2]) (by kernel_rfl) (by simp) ?_
      refine AllReadyH.cons (o := ⟨some 9, _, _, _, _, _⟩) rfl (fun K' hK => ?_) AllReadyH.nil
      go_simp
      have U := hide (RB.new wb 0 0 0 0 0 0)
      have M := bal (brefl wb) (.cells #[.int .i64 0, .int .i64 0, .int .i64 0, .int .i64 0, .int .i64 0, .int .i64 0] 58)
      have HC0 := HS.out
      have LT := T.out.lt
      replace K := hide (btrans K.out M)
      replace X := hide (X.out.below M)
      replace Y := hide (Y.out.below M)
      replace Z := hide (Z.out.below M)
      replace T := hide (T.out.below M)
      replace HS := hide (Nat.le_trans HS.out M.size)
      obtain ⟨b9, hcb⟩ : ∃ q, q = wb.heap.size := ⟨_, rfl⟩
      have H9 := hide (show g2 + 3 ≤ b9 by omega)
      have HN := hide (show b9 ≠ b10 by omega)
      rw [← hcb] at U ⊢
      clear hcb HC0 M LT
      generalize wb.alloc (.cells #[.int .i64 0, .int .i64 0, .int .i64 0, .int .i64 0, .int .i64 0, .int .i64 0] 58) = wa at *
      refine hK.out _ _ ?_ (fun hHeld => ?_)
      · exact X.out.cells
      clear hK K'
      (try simp only [Act.put, List.setIfInBounds_toArray, List.set_cons_succ, List.set_cons_zero])
      refine wpAnyH_ready (rs := [4]) (by kernel_rfl) (by simp) ?_
      refine AllReadyH.cons (o := ⟨none, _, _, _, _, _⟩) rfl (fun K' hK => ?_) AllReadyH.nil
      obtain ⟨c0, c1, c2, c3, c4, c5⟩ := RB.cells U.out
      obtain ⟨q0, q1, q2, q3, q4, q5⟩ := RB.free U.out
      go_simp
      have i9 := H9.out
      have iN := HN.out
      have iG := HG.out
      replace K := hide (show Below w.heap.size w ((((((wa.setCell ⟨b9, 0, none⟩ (.int .i64 st)).setCell ⟨b9, 1, none⟩ (.int .i64 pg)).setCell ⟨b9, 2, none⟩ (.int .i64 pr)).setCell ⟨b9, 3, none⟩ (.int .i64 fl)).setCell ⟨b9, 4, none⟩ (.int .i64 fi)).setCell ⟨b9, 5, none⟩ (.int .i64 ix)) from bset6 K.out (by omega))
      replace X := hide (show RB ((((((wa.setCell ⟨b9, 0, none⟩ (.int .i64 st)).setCell ⟨b9, 1, none⟩ (.int .i64 pg)).setCell ⟨b9, 2, none⟩ (.int .i64 pr)).setCell ⟨b9, 3, none⟩ (.int .i64 fl)).setCell ⟨b9, 4, none⟩ (.int .i64 fi)).setCell ⟨b9, 5, none⟩ (.int .i64 ix)) g2 ⟨st, pg, pr, fl, fi, ix⟩ from RB.far6 X.out (by omega))
      replace Y := hide (show RB ((((((wa.setCell ⟨b9, 0, none⟩ (.int .i64 st)).setCell ⟨b9, 1, none⟩ (.int .i64 pg)).setCell ⟨b9, 2, none⟩ (.int .i64 pr)).setCell ⟨b9, 3, none⟩ (.int .i64 fl)).setCell ⟨b9, 4, none⟩ (.int .i64 fi)).setCell ⟨b9, 5, none⟩ (.int .i64 ix)) (g2 + 1) ⟨0, 0, 0, 0, 0, 0⟩ from RB.far6 Y.out (by omega))
      replace Z := hide (show RB ((((((wa.setCell ⟨b9, 0, none⟩ (.int .i64 st)).setCell ⟨b9, 1, none⟩ (.int .i64 pg)).setCell ⟨b9, 2, none⟩ (.int .i64 pr)).setCell ⟨b9, 3, none⟩ (.int .i64 fl)).setCell ⟨b9, 4, none⟩ (.int .i64 fi)).setCell ⟨b9, 5, none⟩ (.int .i64 ix)) (g2 + 2) ⟨0, 0, 0, 0, 0, 0⟩ from RB.far6 Z.out (by omega))
      replace T := hide (show RB ((((((wa.setCell ⟨b9, 0, none⟩ (.int .i64 st)).setCell ⟨b9, 1, none⟩ (.int .i64 pg)).setCell ⟨b9, 2, none⟩ (.int .i64 pr)).setCell ⟨b9, 3, none⟩ (.int .i64 fl)).setCell ⟨b9, 4, none⟩ (.int .i64 fi)).setCell ⟨b9, 5, none⟩ (.int .i64 ix)) b10 ⟨0, 0, 0, 0, 0, 0⟩ from RB.far6 T.out (by omega))
      replace U := hide (show RB ((((((wa.setCell ⟨b9, 0, none⟩ (.int .i64 st)).setCell ⟨b9, 1, none⟩ (.int .i64 pg)).setCell ⟨b9, 2, none⟩ (.int .i64 pr)).setCell ⟨b9, 3, none⟩ (.int .i64 fl)).setCell ⟨b9, 4, none⟩ (.int .i64 fi)).setCell ⟨b9, 5, none⟩ (.int .i64 ix)) b9 ⟨st, pg, pr, fl, fi, ix⟩ from RB.put6 U.out)
      clear c0 c1 c2 c3 c4 c5 q0 q1 q2 q3 q4 q5 i9 iN iG
      generalize ((((((wa.setCell ⟨b9, 0, none⟩ (.int .i64 st)).setCell ⟨b9, 1, none⟩ (.int .i64 pg)).setCell ⟨b9, 2, none⟩ (.int .i64 pr)).setCell ⟨b9, 3, none⟩ (.int .i64 fl)).setCell ⟨b9, 4, none⟩ (.int .i64 fi)).setCell ⟨b9, 5, none⟩ (.int .i64 ix)) = wu at *
      refine hK.out _ _ ?_ (fun hHeld => ?_)
      · exact X.out.cells
      clear hK K'
      (try simp only [Act.put, List.setIfInBounds_toArray, List.set_cons_succ, List.set_cons_zero])
      refine wpAnyH_ready (rs := [5]) (by kernel_rfl) (by simp) ?_
      refine AllReadyH.cons (o := ⟨none, _, _, _, _, _⟩) rfl (fun K' hK => ?_) AllReadyH.nil
      obtain ⟨c0, c1, c2, c3, c4, c5⟩ := RB.cells T.out
      obtain ⟨q0, q1, q2, q3, q4, q5⟩ := RB.free T.out
      go_simp
      have i9 := H10.out
      have iN := HN.out
      have iG := HG.out
      replace K := hide (show Below w.heap.size w ((((((wu.setCell ⟨b10, 0, none⟩ (.int .i64 st)).setCell ⟨b10, 1, none⟩ (.int .i64 pg)).setCell ⟨b10, 2, none⟩ (.int .i64 pr)).setCell ⟨b10, 3, none⟩ (.int .i64 fl)).setCell ⟨b10, 4, none⟩ (.int .i64 fi)).setCell ⟨b10, 5, none⟩ (.int .i64 ix)) from bset6 K.out (by omega))
      replace X := hide (show RB ((((((wu.setCell ⟨b10, 0, none⟩ (.int .i64 st)).setCell ⟨b10, 1, none⟩ (.int .i64 pg)).setCell ⟨b10, 2, none⟩ (.int .i64 pr)).setCell ⟨b10, 3, none⟩ (.int .i64 fl)).setCell ⟨b10, 4, none⟩ (.int .i64 fi)).setCell ⟨b10, 5, none⟩ (.int .i64 ix)) g2 ⟨st, pg, pr, fl, fi, ix⟩ from RB.far6 X.out (by omega))
      replace Y := hide (show RB ((((((wu.setCell ⟨b10, 0, none⟩ (.int .i64 st)).setCell ⟨b10, 1, none⟩ (.int .i64 pg)).setCell ⟨b10, 2, none⟩ (.int .i64 pr)).setCell ⟨b10, 3, none⟩ (.int .i64 fl)).setCell ⟨b10, 4, none⟩ (.int .i64 fi)).setCell ⟨b10, 5, none⟩ (.int .i64 ix)) (g2 + 1) ⟨0, 0, 0, 0, 0, 0⟩ from RB.far6 Y.out (by omega))
      replace Z := hide (show RB ((((((wu.setCell ⟨b10, 0, none⟩ (.int .i64 st)).setCell ⟨b10, 1, none⟩ (.int .i64 pg)).setCell ⟨b10, 2, none⟩ (.int .i64 pr)).setCell ⟨b10, 3, none⟩ (.int .i64 fl)).setCell ⟨b10, 4, none⟩ (.int .i64 fi)).setCell ⟨b10, 5, none⟩ (.int .i64 ix)) (g2 + 2) ⟨0, 0, 0, 0, 0, 0⟩ from RB.far6 Z.out (by omega))
      replace U := hide (show RB ((((((wu.setCell ⟨b10, 0, none⟩ (.int .i64 st)).setCell ⟨b10, 1, none⟩ (.int .i64 pg)).setCell ⟨b10, 2, none⟩ (.int .i64 pr)).setCell ⟨b10, 3, none⟩ (.int .i64 fl)).setCell ⟨b10, 4, none⟩ (.int .i64 fi)).setCell ⟨b10, 5, none⟩ (.int .i64 ix)) b9 ⟨st, pg, pr, fl, fi, ix⟩ from RB.far6 U.out (by omega))
      replace T := hide (show RB ((((((wu.setCell ⟨b10, 0, none⟩ (.int .i64 st)).setCell ⟨b10, 1, none⟩ (.int .i64 pg)).setCell ⟨b10, 2, none⟩ (.int .i64 pr)).setCell ⟨b10, 3, none⟩ (.int .i64 fl)).setCell ⟨b10, 4, none⟩ (.int .i64 fi)).setCell ⟨b10, 5, none⟩ (.int .i64 ix)) b10 ⟨st, pg, pr, fl, fi, ix⟩ from RB.put6 T.out)
      clear c0 c1 c2 c3 c4 c5 q0 q1 q2 q3 q4 q5 i9 iN iG
      generalize ((((((wu.setCell ⟨b10, 0, none⟩ (.int .i64 st)).setCell ⟨b10, 1, none⟩ (.int .i64 pg)).setCell ⟨b10, 2, none⟩ (.int .i64 pr)).setCell ⟨b10, 3, none⟩ (.int .i64 fl)).setCell ⟨b10, 4, none⟩ (.int .i64 fi)).setCell ⟨b10, 5, none⟩ (.int .i64 ix)) = wv at *
      refine hK.out _ _ ?_ (fun hHeld => ?_)
      · exact X.out.cells
      clear hK K'
      (try simp only [Act.put, List.setIfInBounds_toArray, List.set_cons_succ, List.set_cons_zero])
      refine wpAnyH_done (by kernel_rfl) ?_ _
      refine NoPanic.normal ?_
      have Q : Hid (S5 w wv g2 b9 b10 ⟨st, pg, pr, fl, fi, ix⟩ ⟨0, 0, 0, 0, 0, 0⟩ ⟨0, 0, 0, 0, 0, 0⟩ ⟨st, pg, pr, fl, fi, ix⟩ ⟨st, pg, pr, fl, fi, ix⟩) := hide ⟨K.out, HG.out, H9.out, H10.out, HN.out, X.out, Y.out, Z.out, U.out, T.out⟩
      clear K HG H9 H10 HN X Y Z U T HS
      try clear x0 x1 x2 x3 x4 x5
      try clear u0 u1 u2 u3 u4 u5
      try clear t0 t1 t2 t3 t4 t5
      try clear p0 p1 p2 p3 p4 p5
      try clear s0 s1 s2 s3 s4 s5
      obtain ⟨x0, x1, x2, x3, x4, x5⟩ := Q.out.X.cells
      obtain ⟨u0, u1, u2, u3, u4, u5⟩ := Q.out.U.cells
      obtain ⟨t0, t1, t2, t3, t4, t5⟩ := Q.out.T.cells
      obtain ⟨p0, p1, p2, p3, p4, p5⟩ := Q.out.U.free
      obtain ⟨s0, s1, s2, s3, s4, s5⟩ := Q.out.T.free
      go_upto_region 9 with fail
      replace Q := hide (Q.out.setU (RB.set1 Q.out.U (p - st)))
      generalize wv.setCell ⟨b9, 1, none⟩ (.int .i64 (p - st)) = v1 at *
      try clear x0 x1 x2 x3 x4 x5
      try clear u0 u1 u2 u3 u4 u5
      try clear t0 t1 t2 t3 t4 t5
      try clear p0 p1 p2 p3 p4 p5
      try clear s0 s1 s2 s3 s4 s5
      obtain ⟨x0, x1, x2, x3, x4, x5⟩ := Q.out.X.cells
      obtain ⟨u0, u1, u2, u3, u4, u5⟩ := Q.out.U.cells
      obtain ⟨t0, t1, t2, t3, t4, t5⟩ := Q.out.T.cells
      obtain ⟨p0, p1, p2, p3, p4, p5⟩ := Q.out.U.free
      obtain ⟨s0, s1, s2, s3, s4, s5⟩ := Q.out.T.free
      go_upto_region 10 with fail
      replace Q := hide (Q.out.setT (RB.set0 Q.out.T (p)))
      generalize v1.setCell ⟨b10, 0, none⟩ (.int .i64 (p)) = v2 at *
      try clear x0 x1 x2 x3 x4 x5
      try clear u0 u1 u2 u3 u4 u5
      try clear t0 t1 t2 t3 t4 t5
      try clear p0 p1 p2 p3 p4 p5
      try clear s0 s1 s2 s3 s4 s5
      obtain ⟨x0, x1, x2, x3, x4, x5⟩ := Q.out.X.cells
      obtain ⟨u0, u1, u2, u3, u4, u5⟩ := Q.out.U.cells
      obtain ⟨t0, t1, t2, t3, t4, t5⟩ := Q.out.T.cells
      obtain ⟨p0, p1, p2, p3, p4, p5⟩ := Q.out.U.free
      obtain ⟨s0, s1, s2, s3, s4, s5⟩ := Q.out.T.free
      go_upto_region 11 with fail
      replace Q := hide (Q.out.setT (RB.set1 Q.out.T (pg - (p - st))))
      generalize v2.setCell ⟨b10, 1, none⟩ (.int .i64 (pg - (p - st))) = v3 at *
      try clear x0 x1 x2 x3 x4 x5
      try clear u0 u1 u2 u3 u4 u5
      try clear t0 t1 t2 t3 t4 t5
      try clear p0 p1 p2 p3 p4 p5
      try clear s0 s1 s2 s3 s4 s5
      obtain ⟨x0, x1, x2, x3, x4, x5⟩ := Q.out.X.cells
      obtain ⟨u0, u1, u2, u3, u4, u5⟩ := Q.out.U.cells
      obtain ⟨t0, t1, t2, t3, t4, t5⟩ := Q.out.T.cells
      obtain ⟨p0, p1, p2, p3, p4, p5⟩ := Q.out.U.free
      obtain ⟨s0, s1, s2, s3, s4, s5⟩ := Q.out.T.free
      go_wp2_with fail
      refine (F2.out _).mono ?_
      rintro e v5 ⟨rfl, hb⟩
      replace Q := hide (Q.out.below hb)
      clear hb
      try clear x0 x1 x2 x3 x4 x5
      try clear u0 u1 u2 u3 u4 u5
      try clear t0 t1 t2 t3 t4 t5
      try clear p0 p1 p2 p3 p4 p5
      try clear s0 s1 s2 s3 s4 s5
      obtain ⟨x0, x1, x2, x3, x4, x5⟩ := Q.out.X.cells
      obtain ⟨u0, u1, u2, u3, u4, u5⟩ := Q.out.U.cells
      obtain ⟨t0, t1, t2, t3, t4, t5⟩ := Q.out.T.cells
      obtain ⟨p0, p1, p2, p3, p4, p5⟩ := Q.out.U.free
      obtain ⟨s0, s1, s2, s3, s4, s5⟩ := Q.out.T.free
      go_upto_region 15 with fail
      try clear x0 x1 x2 x3 x4 x5
      try clear u0 u1 u2 u3 u4 u5
      try clear t0 t1 t2 t3 t4 t5
      try clear p0 p1 p2 p3 p4 p5
      try clear s0 s1 s2 s3 s4 s5
      replace Q := hide (Q.out.below (show Below v5.heap.size v5 v5.drew from below_drewN (brefl _) 1))
      have K := hide Q.out.k
      have HG := hide Q.out.hg
      have H9 := hide Q.out.h9
      have H10 := hide Q.out.h10
      have Y := hide Q.out.Y
      have Z := hide Q.out.Z
      have U := hide Q.out.U
      have T := hide Q.out.T
      clear Q
      refine wp_region_noPanic ?_
      refine wp_region_held_drew (S := (fun W => W.cell? ⟨b9, 0, none⟩ = some (.int .i64 st) ∧ W.cell? ⟨b9, 1, none⟩ = some (.int .i64 (p - st)) ∧ W.cell? ⟨b9, 2, none⟩ = some (.int .i64 pr) ∧ W.cell? ⟨b9, 3, none⟩ = some (.int .i64 fl) ∧ W.cell? ⟨b9, 4, none⟩ = some (.int .i64 fi) ∧ W.cell? ⟨b9, 5, none⟩ = some (.int .i64 ix) ∧ W.cell? ⟨b10, 0, none⟩ = some (.int .i64 p) ∧ W.cell? ⟨b10, 1, none⟩ = some (.int .i64 (pg - (p - st))) ∧ W.cell? ⟨b10, 2, none⟩ = some (.int .i64 pr) ∧ W.cell? ⟨b10, 3, none⟩ = some (.int .i64 fl) ∧ W.cell? ⟨b10, 4, none⟩ = some (.int .i64 fi) ∧ W.cell? ⟨b10, 5, none⟩ = some (.int .i64 ix))) (by kernel_rfl) ?_ (fun hHeld => ?_)
      · (obtain ⟨u0, u1, u2, u3, u4, u5⟩ := RB.cells U.out; obtain ⟨t0, t1, t2, t3, t4, t5⟩ := RB.cells T.out; exact ⟨u0, u1, u2, u3, u4, u5, t0, t1, t2, t3, t4, t5⟩)
      generalize v5.drew = ww at *
      refine wpAnyH_take (i := 0) (oi := ⟨some 62, _, _, _, _, _⟩) (v := ?_) rfl (by kernel_rfl) (by kernel_rfl) (by kernel_rfl) (fun _ _ _ h => h) (Or.inl ⟨by kernel_rfl, ?_⟩) (by assumption) ?_
      rotate_left 1
      · (intro w hSw; (try dsimp only at hSw); go_simp) <;> (with_reducible rfl)
      (try simp only [Act.put, List.setIfInBounds_toArray, List.set_cons_succ, List.set_cons_zero])
      refine wpAnyH_take (i := 1) (oi := ⟨some 63, _, _, _, _, _⟩) (v := ?_) rfl (by kernel_rfl) (by kernel_rfl) (by kernel_rfl) (fun _ _ _ h => h) (Or.inl ⟨by kernel_rfl, ?_⟩) (by assumption) ?_
      rotate_left 1
      · (intro w hSw; (try dsimp only at hSw); go_simp) <;> (with_reducible rfl)
      (try simp only [Act.put, List.setIfInBounds_toArray, List.set_cons_succ, List.set_cons_zero])
      refine wpAnyH_ready (rs := [2]) (by kernel_rfl) (by simp) ?_
      refine AllReadyH.cons (o := ⟨none, _, _, _, _, _⟩) rfl (fun K' hK => ?_) AllReadyH.nil
      obtain ⟨c0, c1, c2, c3, c4, c5⟩ := RB.cells Y.out
      obtain ⟨q0, q1, q2, q3, q4, q5⟩ := RB.free Y.out
      go_simp
      have i9 := H9.out
      have i10 := H10.out
      have iG := HG.out
      replace K := hide (show Below w.heap.size w ((((((ww.setCell ⟨g2 + 1, 0, none⟩ (.int .i64 st)).setCell ⟨g2 + 1, 1, none⟩ (.int .i64 (p - st))).setCell ⟨g2 + 1, 2, none⟩ (.int .i64 pr)).setCell ⟨g2 + 1, 3, none⟩ (.int .i64 fl)).setCell ⟨g2 + 1, 4, none⟩ (.int .i64 fi)).setCell ⟨g2 + 1, 5, none⟩ (.int .i64 ix)) from bset6 K.out (by omega))
      replace Z := hide (show RB ((((((ww.setCell ⟨g2 + 1, 0, none⟩ (.int .i64 st)).setCell ⟨g2 + 1, 1, none⟩ (.int .i64 (p - st))).setCell ⟨g2 + 1, 2, none⟩ (.int .i64 pr)).setCell ⟨g2 + 1, 3, none⟩ (.int .i64 fl)).setCell ⟨g2 + 1, 4, none⟩ (.int .i64 fi)).setCell ⟨g2 + 1, 5, none⟩ (.int .i64 ix)) (g2 + 2) ⟨0, 0, 0, 0, 0, 0⟩ from RB.far6 Z.out (by omega))
      replace U := hide (show RB ((((((ww.setCell ⟨g2 + 1, 0, none⟩ (.int .i64 st)).setCell ⟨g2 + 1, 1, none⟩ (.int .i64 (p - st))).setCell ⟨g2 + 1, 2, none⟩ (.int .i64 pr)).setCell ⟨g2 + 1, 3, none⟩ (.int .i64 fl)).setCell ⟨g2 + 1, 4, none⟩ (.int .i64 fi)).setCell ⟨g2 + 1, 5, none⟩ (.int .i64 ix)) b9 ⟨st, p - st, pr, fl, fi, ix⟩ from RB.far6 U.out (by omega))
      replace T := hide (show RB ((((((ww.setCell ⟨g2 + 1, 0, none⟩ (.int .i64 st)).setCell ⟨g2 + 1, 1, none⟩ (.int .i64 (p - st))).setCell ⟨g2 + 1, 2, none⟩ (.int .i64 pr)).setCell ⟨g2 + 1, 3, none⟩ (.int .i64 fl)).setCell ⟨g2 + 1, 4, none⟩ (.int .i64 fi)).setCell ⟨g2 + 1, 5, none⟩ (.int .i64 ix)) b10 ⟨p, pg - (p - st), pr, fl, fi, ix⟩ from RB.far6 T.out (by omega))
      replace Y := hide (show RB ((((((ww.setCell ⟨g2 + 1, 0, none⟩ (.int .i64 st)).setCell ⟨g2 + 1, 1, none⟩ (.int .i64 (p - st))).setCell ⟨g2 + 1, 2, none⟩ (.int .i64 pr)).setCell ⟨g2 + 1, 3, none⟩ (.int .i64 fl)).setCell ⟨g2 + 1, 4, none⟩ (.int .i64 fi)).setCell ⟨g2 + 1, 5, none⟩ (.int .i64 ix)) (g2 + 1) ⟨st, p - st, pr, fl, fi, ix⟩ from RB.put6 Y.out)
      clear c0 c1 c2 c3 c4 c5 q0 q1 q2 q3 q4 q5 i9 i10 iG
      generalize ((((((ww.setCell ⟨g2 + 1, 0, none⟩ (.int .i64 st)).setCell ⟨g2 + 1, 1, none⟩ (.int .i64 (p - st))).setCell ⟨g2 + 1, 2, none⟩ (.int .i64 pr)).setCell ⟨g2 + 1, 3, none⟩ (.int .i64 fl)).setCell ⟨g2 + 1, 4, none⟩ (.int .i64 fi)).setCell ⟨g2 + 1, 5, none⟩ (.int .i64 ix)) = wy at *
      refine hK.out _ _ ?_ (fun hHeld => ?_)
      · (obtain ⟨u0, u1, u2, u3, u4, u5⟩ := RB.cells U.out; obtain ⟨t0, t1, t2, t3, t4, t5⟩ := RB.cells T.out; exact ⟨u0, u1, u2, u3, u4, u5, t0, t1, t2, t3, t4, t5⟩)
      clear hK K'
      (try simp only [Act.put, List.setIfInBounds_toArray, List.set_cons_succ, List.set_cons_zero])
      refine wpAnyH_ready (rs := [3]) (by kernel_rfl) (by simp) ?_
      refine AllReadyH.cons (o := ⟨none, _, _, _, _, _⟩) rfl (fun K' hK => ?_) AllReadyH.nil
      obtain ⟨c0, c1, c2, c3, c4, c5⟩ := RB.cells Z.out
      obtain ⟨q0, q1, q2, q3, q4, q5⟩ := RB.free Z.out
      go_simp
      have i9 := H9.out
      have i10 := H10.out
      have iG := HG.out
      replace K := hide (show Below w.heap.size w ((((((wy.setCell ⟨g2 + 2, 0, none⟩ (.int .i64 p)).setCell ⟨g2 + 2, 1, none⟩ (.int .i64 (pg - (p - st)))).setCell ⟨g2 + 2, 2, none⟩ (.int .i64 pr)).setCell ⟨g2 + 2, 3, none⟩ (.int .i64 fl)).setCell ⟨g2 + 2, 4, none⟩ (.int .i64 fi)).setCell ⟨g2 + 2, 5, none⟩ (.int .i64 ix)) from bset6 K.out (by omega))
      replace Y := hide (show RB ((((((wy.setCell ⟨g2 + 2, 0, none⟩ (.int .i64 p)).setCell ⟨g2 + 2, 1, none⟩ (.int .i64 (pg - (p - st)))).setCell ⟨g2 + 2, 2, none⟩ (.int .i64 pr)).setCell ⟨g2 + 2, 3, none⟩ (.int .i64 fl)).setCell ⟨g2 + 2, 4, none⟩ (.int .i64 fi)).setCell ⟨g2 + 2, 5, none⟩ (.int .i64 ix)) (g2 + 1) ⟨st, p - st, pr, fl, fi, ix⟩ from RB.far6 Y.out (by omega))
      replace U := hide (show RB ((((((wy.setCell ⟨g2 + 2, 0, none⟩ (.int .i64 p)).setCell ⟨g2 + 2, 1, none⟩ (.int .i64 (pg - (p - st)))).setCell ⟨g2 + 2, 2, none⟩ (.int .i64 pr)).setCell ⟨g2 + 2, 3, none⟩ (.int .i64 fl)).setCell ⟨g2 + 2, 4, none⟩ (.int .i64 fi)).setCell ⟨g2 + 2, 5, none⟩ (.int .i64 ix)) b9 ⟨st, p - st, pr, fl, fi, ix⟩ from RB.far6 U.out (by omega))
      replace T := hide (show RB ((((((wy.setCell ⟨g2 + 2, 0, none⟩ (.int .i64 p)).setCell ⟨g2 + 2, 1, none⟩ (.int .i64 (pg - (p - st)))).setCell ⟨g2 + 2, 2, none⟩ (.int .i64 pr)).setCell ⟨g2 + 2, 3, none⟩ (.int .i64 fl)).setCell ⟨g2 + 2, 4, none⟩ (.int .i64 fi)).setCell ⟨g2 + 2, 5, none⟩ (.int .i64 ix)) b10 ⟨p, pg - (p - st), pr, fl, fi, ix⟩ from RB.far6 T.out (by omega))
      replace Z := hide (show RB ((((((wy.setCell ⟨g2 + 2, 0, none⟩ (.int .i64 p)).setCell ⟨g2 + 2, 1, none⟩ (.int .i64 (pg - (p - st)))).setCell ⟨g2 + 2, 2, none⟩ (.int .i64 pr)).setCell ⟨g2 + 2, 3, none⟩ (.int .i64 fl)).setCell ⟨g2 + 2, 4, none⟩ (.int .i64 fi)).setCell ⟨g2 + 2, 5, none⟩ (.int .i64 ix)) (g2 + 2) ⟨p, pg - (p - st), pr, fl, fi, ix⟩ from RB.put6 Z.out)
      clear c0 c1 c2 c3 c4 c5 q0 q1 q2 q3 q4 q5 i9 i10 iG
      generalize ((((((wy.setCell ⟨g2 + 2, 0, none⟩ (.int .i64 p)).setCell ⟨g2 + 2, 1, none⟩ (.int .i64 (pg - (p - st)))).setCell ⟨g2 + 2, 2, none⟩ (.int .i64 pr)).setCell ⟨g2 + 2, 3, none⟩ (.int .i64 fl)).setCell ⟨g2 + 2, 4, none⟩ (.int .i64 fi)).setCell ⟨g2 + 2, 5, none⟩ (.int .i64 ix)) = wz at *
      refine hK.out _ _ ?_ (fun hHeld => ?_)
      · (obtain ⟨u0, u1, u2, u3, u4, u5⟩ := RB.cells U.out; obtain ⟨t0, t1, t2, t3, t4, t5⟩ := RB.cells T.out; exact ⟨u0, u1, u2, u3, u4, u5, t0, t1, t2, t3, t4, t5⟩)
      clear hK K'
      (try simp only [Act.put, List.setIfInBounds_toArray, List.set_cons_succ, List.set_cons_zero])
      refine wpAnyH_take (i := 4) (oi := ⟨some 6, _, _, _, _, _⟩) (v := ?_) rfl (by kernel_rfl) (by kernel_rfl) (by kernel_rfl) (fun _ _ _ h => h) (Or.inl ⟨by kernel_rfl, ?_⟩) (by assumption) ?_
      rotate_left 1
      · (intro w hSw; (try dsimp only at hSw); go_simp) <;> (with_reducible rfl)
      (try simp only [Act.put, List.setIfInBounds_toArray, List.set_cons_succ, List.set_cons_zero])
      refine wpAnyH_done (by kernel_rfl) ?_ _
      refine NoPanic.normal ?_
      go_wp2
      exact ret_r3 rfl rfl rfl rfl rfl Y.out Z.out E.out ⟨rfl, K.out⟩
  · rw [if_neg h4] at E
    have h5 : ¬ fi < 0 := by omega
    have o5 := o4.2 h4
    clear o4
    replace h4 := hide h4
    by_cases h6 : fl / 2 % 2 = 1
    · rw [nog_g h6] at E
      rw [decide_eq_true h6] at F2
      replace E := hide E
      replace F2 := hide F2
      have f2 : 2 ≤ fl := by omega
      replace h6 := hide h6
      have HS := hide (show g2 + 3 ≤ W0.heap.size by rw [HW.out, HB.out]; simp)
      go_enter Try.func56, Try.ntmps56
      go_upto_region 1 with fail
      rw [← HW.out, ← HB.out]
      clear HW HB
      try clear x0 x1 x2 x3 x4 x5
      obtain ⟨x0, x1, x2, x3, x4, x5⟩ := X.out.cells
      try clear y0 y1 y2 y3 y4 y5
      obtain ⟨y0, y1, y2, y3, y4, y5⟩ := Y.out.cells
      try clear z0 z1 z2 z3 z4 z5
      obtain ⟨z0, z1, z2, z3, z4, z5⟩ := Z.out.cells
      go_wp2_with fail
      refine (Ca.out _).mono ?_
      rintro e w2 ⟨rfl, hb⟩
      replace K := hide (btrans K.out hb)
      replace X := hide (X.out.below hb)
      replace Y := hide (Y.out.below hb)
      replace Z := hide (Z.out.below hb)
      replace HS := hide (Nat.le_trans HS.out hb.size)
      clear hb
      try clear x0 x1 x2 x3 x4 x5
      obtain ⟨x0, x1, x2, x3, x4, x5⟩ := X.out.cells
      try clear y0 y1 y2 y3 y4 y5
      obtain ⟨y0, y1, y2, y3, y4, y5⟩ := Y.out.cells
      try clear z0 z1 z2 z3 z4 z5
      obtain ⟨z0, z1, z2, z3, z4, z5⟩ := Z.out.cells
      go_upto_region 7 with fail
      replace K := hide (show Below w.heap.size w w2.drew from btrans K.out (below_drewN (brefl _) 1))
      replace X := hide X.out.drew
      replace Y := hide Y.out.drew
      replace Z := hide Z.out.drew
      replace HS := hide (show g2 + 3 ≤ w2.drew.heap.size from HS.out)
      clear x0 x1 x2 x3 x4 x5 y0 y1 y2 y3 y4 y5 z0 z1 z2 z3 z4 z5
      refine wp_region_noPanic ?_
      refine wp_region_held_drew (S := (fun W => W.cell? ⟨g2, 0, none⟩ = some (.int .i64 st) ∧ W.cell? ⟨g2, 1, none⟩ = some (.int .i64 pg) ∧ W.cell? ⟨g2, 2, none⟩ = some (.int .i64 pr) ∧ W.cell? ⟨g2, 3, none⟩ = some (.int .i64 fl) ∧ W.cell? ⟨g2, 4, none⟩ = some (.int .i64 fi) ∧ W.cell? ⟨g2, 5, none⟩ = some (.int .i64 ix))) (by kernel_rfl) ?_ (fun hHeld => ?_)
      · exact X.out.cells
      generalize w2.drew = w4 at *
      refine wpAnyH_take (i := 0) (oi := ⟨some 37, _, _, _, _, _⟩) (v := ?_) rfl (by kernel_rfl) (by kernel_rfl) (by kernel_rfl) (fun _ _ _ h => h) (Or.inl ⟨by kernel_rfl, ?_⟩) (by assumption) ?_
      rotate_left 1
      · (intro w hSw; (try dsimp only at hSw); go_simp) <;> (with_reducible rfl)
      (try simp only [Act.put, List.setIfInBounds_toArray, List.set_cons_succ, List.set_cons_zero])
      refine wpAnyH_take (i := 1) (oi := ⟨some 38, _, _, _, _, _⟩) (v := ?_) rfl (by kernel_rfl) (by kernel_rfl) (by kernel_rfl) (fun _ _ _ h => h) (Or.inl ⟨by kernel_rfl, ?_⟩) (by assumption) ?_
      rotate_left 1
      · (intro w hSw; (try dsimp only at hSw); go_simp) <;> (with_reducible rfl)
      (try simp only [Act.put, List.setIfInBounds_toArray, List.set_cons_succ, List.set_cons_zero])
      refine wpAnyH_ready (rs := [2, 3]) (by kernel_rfl) (by simp) ?_
      refine AllReadyH.cons (o := ⟨some 9, _, _, _, _, _⟩) rfl (fun K' hK => ?_) ?_
      · go_simp
        have U := hide (RB.new w4 0 0 0 0 0 0)
        have M := bal (brefl w4) (.cells #[.int .i64 0, .int .i64 0, .int .i64 0, .int .i64 0, .int .i64 0, .int .i64 0] 58)
        have HC0 := HS.out
        replace K := hide (btrans K.out M)
        replace X := hide (X.out.below M)
        replace Y := hide (Y.out.below M)
        replace Z := hide (Z.out.below M)
        replace HS := hide (Nat.le_trans HS.out M.size)
        obtain ⟨b9, hcb⟩ : ∃ q, q = w4.heap.size := ⟨_, rfl⟩
        have H9 := hide (show g2 + 3 ≤ b9 by omega)
        rw [← hcb] at U ⊢
        clear hcb HC0 M
        generalize w4.alloc (.cells #[.int .i64 0, .int .i64 0, .int .i64 0, .int .i64 0, .int .i64 0, .int .i64 0] 58) = wa at *
        refine hK.out _ _ ?_ (fun hHeld => ?_)
        · exact X.out.cells
        clear hK K'
        (try simp only [Act.put, List.setIfInBounds_toArray, List.set_cons_succ, List.set_cons_zero])
        refine wpAnyH_ready (rs := [3]) (by kernel_rfl) (by simp) ?_
        refine AllReadyH.cons (o := ⟨some 10, _, _, _, _, _⟩) rfl (fun K' hK => ?_) AllReadyH.nil
        go_simp
        have T := hide (RB.new wa 0 0 0 0 0 0)
        have M := bal (brefl wa) (.cells #[.int .i64 0, .int .i64 0, .int .i64 0, .int .i64 0, .int .i64 0, .int .i64 0] 58)
        have HC0 := HS.out
        have LU := U.out.lt
        replace K := hide (btrans K.out M)
        replace X := hide (X.out.below M)
        replace Y := hide (Y.out.below M)
        replace Z := hide (Z.out.below M)
        replace U := hide (U.out.below M)
        replace HS := hide (Nat.le_trans HS.out M.size)
        obtain ⟨b10, hcb⟩ : ∃ q, q = wa.heap.size := ⟨_, rfl⟩
        have H10 := hide (show g2 + 3 ≤ b10 by omega)
        have HN := hide (show b9 ≠ b10 by omega)
        rw [← hcb] at T ⊢
        clear hcb HC0 M LU
        generalize wa.alloc (.cells #[.int .i64 0, .int .i64 0, .int .i64 0, .int .i64 0, .int .i64 0, .int .i64 0] 58) = wb at *
        refine hK.out _ _ ?_ (fun hHeld => ?_)
        · exact X.out.cells
        clear hK K'
        (try simp only [Act.put, List.setIfInBounds_toArray, List.set_cons_succ, List.set_cons_zero])
        refine wpAnyH_ready (rs := [4]) (by kernel_rfl) (by simp) ?_
        refine AllReadyH.cons (o := ⟨none, _, _, _, _, _⟩) rfl (fun K' hK => ?_) AllReadyH.nil
        obtain ⟨c0, c1, c2, c3, c4, c5⟩ := RB.cells U.out
        obtain ⟨q0, q1, q2, q3, q4, q5⟩ := RB.free U.out
        go_simp
        have i9 := H9.out
        have iN := HN.out
        have iG := HG.out
        replace K := hide (show Below w.heap.size w ((((((wb.setCell ⟨b9, 0, none⟩ (.int .i64 st)).setCell ⟨b9, 1, none⟩ (.int .i64 pg)).setCell ⟨b9, 2, none⟩ (.int .i64 pr)).setCell ⟨b9, 3, none⟩ (.int .i64 fl)).setCell ⟨b9, 4, none⟩ (.int .i64 fi)).setCell ⟨b9, 5, none⟩ (.int .i64 ix)) from bset6 K.out (by omega))
        replace X := hide (show RB ((((((wb.setCell ⟨b9, 0, none⟩ (.int .i64 st)).setCell ⟨b9, 1, none⟩ (.int .i64 pg)).setCell ⟨b9, 2, none⟩ (.int .i64 pr)).setCell ⟨b9, 3, none⟩ (.int .i64 fl)).setCell ⟨b9, 4, none⟩ (.int .i64 fi)).setCell ⟨b9, 5, none⟩ (.int .i64 ix)) g2 ⟨st, pg, pr, fl, fi, ix⟩ from RB.far6 X.out (by omega))
        replace Y := hide (show RB ((((((wb.setCell ⟨b9, 0, none⟩ (.int .i64 st)).setCell ⟨b9, 1, none⟩ (.int .i64 pg)).setCell ⟨b9, 2, none⟩ (.int .i64 pr)).setCell ⟨b9, 3, none⟩ (.int .i64 fl)).setCell ⟨b9, 4, none⟩ (.int .i64 fi)).setCell ⟨b9, 5, none⟩ (.int .i64 ix)) (g2 + 1) ⟨0, 0, 0, 0, 0, 0⟩ from RB.far6 Y.out (by omega))
        replace Z := hide (show RB ((((((wb.setCell ⟨b9, 0, none⟩ (.int .i64 st)).setCell ⟨b9, 1, none⟩ (.int .i64 pg)).setCell ⟨b9, 2, none⟩ (.int .i64 pr)).setCell ⟨b9, 3, none⟩ (.int .i64 fl)).setCell ⟨b9, 4, none⟩ (.int .i64 fi)).setCell ⟨b9, 5, none⟩ (.int .i64 ix)) (g2 + 2) ⟨0, 0, 0, 0, 0, 0⟩ from RB.far6 Z.out (by omega))
        replace T := hide (show RB ((((((wb.setCell ⟨b9, 0, none⟩ (.int .i64 st)).setCell ⟨b9, 1, none⟩ (.int .i64 pg)).setCell ⟨b9, 2, none⟩ (.int .i64 pr)).setCell ⟨b9, 3, none⟩ (.int .i64 fl)).setCell ⟨b9, 4, none⟩ (.int .i64 fi)).setCell ⟨b9, 5, none⟩ (.int .i64 ix)) b10 ⟨0, 0, 0, 0, 0, 0⟩ from RB.far6 T.out (by omega))
        replace U := hide (show RB ((((((wb.setCell ⟨b9, 0, none⟩ (.int .i64 st)).setCell ⟨b9, 1, none⟩ (.int .i64 pg)).setCell ⟨b9, 2, none⟩ (.int .i64 pr)).setCell ⟨b9, 3, none⟩ (.int .i64 fl)).setCell ⟨b9, 4, none⟩ (.int .i64 fi)).setCell ⟨b9, 5, none⟩ (.int .i64 ix)) b9 ⟨st, pg, pr, fl, fi, ix⟩ from RB.put6 U.out)
        clear c0 c1 c2 c3 c4 c5 q0 q1 q2 q3 q4 q5 i9 iN iG
        generalize ((((((wb.setCell ⟨b9, 0, none⟩ (.int .i64 st)).setCell ⟨b9, 1, none⟩ (.int .i64 pg)).setCell ⟨b9, 2, none⟩ (.int .i64 pr)).setCell ⟨b9, 3, none⟩ (.int .i64 fl)).setCell ⟨b9, 4, none⟩ (.int .i64 fi)).setCell ⟨b9, 5, none⟩ (.int .i64 ix)) = wu at *
        refine hK.out _ _ ?_ (fun hHeld => ?_)
        · exact X.out.cells
        clear hK K'
        (try simp only [Act.put, List.setIfInBounds_toArray, List.set_cons_succ, List.set_cons_zero])
        refine wpAnyH_ready (rs := [5]) (by kernel_rfl) (by simp) ?_
        refine AllReadyH.cons (o := ⟨none, _, _, _, _, _⟩) rfl (fun K' hK => ?_) AllReadyH.nil
        obtain ⟨c0, c1, c2, c3, c4, c5⟩ := RB.cells T.out
        obtain ⟨q0, q1, q2, q3, q4, q5⟩ := RB.free T.out
        go_simp
        have i9 := H10.out
        have iN := HN.out
        have iG := HG.out
        replace K := hide (show Below w.heap.size w ((((((wu.setCell ⟨b10, 0, none⟩ (.int .i64 st)).setCell ⟨b10, 1, none⟩ (.int .i64 pg)).setCell ⟨b10, 2, none⟩ (.int .i64 pr)).setCell ⟨b10, 3, none⟩ (.int .i64 fl)).setCell ⟨b10, 4, none⟩ (.int .i64 fi)).setCell ⟨b10, 5, none⟩ (.int .i64 ix)) from bset6 K.out (by omega))
        replace X := hide (show RB ((((((wu.setCell ⟨b10, 0, none⟩ (.int .i64 st)).setCell ⟨b10, 1, none⟩ (.int .i64 pg)).setCell ⟨b10, 2, none⟩ (.int .i64 pr)).setCell ⟨b10, 3, none⟩ (.int .i64 fl)).setCell ⟨b10, 4, none⟩ (.int .i64 fi)).setCell ⟨b10, 5, none⟩ (.int .i64 ix)) g2 ⟨st, pg, pr, fl, fi, ix⟩ from RB.far6 X.out (by omega))
        replace Y := hide (show RB ((((((wu.setCell ⟨b10, 0, none⟩ (.int .i64 st)).setCell ⟨b10, 1, none⟩ (.int .i64 pg)).setCell ⟨b10, 2, none⟩ (.int .i64 pr)).setCell ⟨b10, 3, none⟩ (.int .i64 fl)).setCell ⟨b10, 4, none⟩ (.int .i64 fi)).setCell ⟨b10, 5, none⟩ (.int .i64 ix)) (g2 + 1) ⟨0, 0, 0, 0, 0, 0⟩ from RB.far6 Y.out (by omega))
        replace Z := hide (show RB ((((((wu.setCell ⟨b10, 0, none⟩ (.int .i64 st)).setCell ⟨b10, 1, none⟩ (.int .i64 pg)).setCell ⟨b10, 2, none⟩ (.int .i64 pr)).setCell ⟨b10, 3, none⟩ (.int .i64 fl)).setCell ⟨b10, 4, none⟩ (.int .i64 fi)).setCell ⟨b10, 5, none⟩ (.int .i64 ix)) (g2 + 2) ⟨0, 0, 0, 0, 0, 0⟩ from RB.far6 Z.out (by omega))
        replace U := hide (show RB ((((((wu.setCell ⟨b10, 0, none⟩ (.int .i64 st)).setCell ⟨b10, 1, none⟩ (.int .i64 pg)).setCell ⟨b10, 2, none⟩ (.int .i64 pr)).setCell ⟨b10, 3, none⟩ (.int .i64 fl)).setCell ⟨b10, 4, none⟩ (.int .i64 fi)).setCell ⟨b10, 5, none⟩ (.int .i64 ix)) b9 ⟨st, pg, pr, fl, fi, ix⟩ from RB.far6 U.out (by omega))
        replace T := hide (show RB ((((((wu.setCell ⟨b10, 0, none⟩ (.int .i64 st)).setCell ⟨b10, 1, none⟩ (.int .i64 pg)).setCell ⟨b10, 2, none⟩ (.int .i64 pr)).setCell ⟨b10, 3, none⟩ (.int .i64 fl)).setCell ⟨b10, 4, none⟩ (.int .i64 fi)).setCell ⟨b10, 5, none⟩ (.int .i64 ix)) b10 ⟨st, pg, pr, fl, fi, ix⟩ from RB.put6 T.out)
        clear c0 c1 c2 c3 c4 c5 q0 q1 q2 q3 q4 q5 i9 iN iG
        generalize ((((((wu.setCell ⟨b10, 0, none⟩ (.int .i64 st)).setCell ⟨b10, 1, none⟩ (.int .i64 pg)).setCell ⟨b10, 2, none⟩ (.int .i64 pr)).setCell ⟨b10, 3, none⟩ (.int .i64 fl)).setCell ⟨b10, 4, none⟩ (.int .i64 fi)).setCell ⟨b10, 5, none⟩ (.int .i64 ix)) = wv at *
        refine hK.out _ _ ?_ (fun hHeld => ?_)
        · exact X.out.cells
        clear hK K'
        (try simp only [Act.put, List.setIfInBounds_toArray, List.set_cons_succ, List.set_cons_zero])
        refine wpAnyH_done (by kernel_rfl) ?_ _
        refine NoPanic.normal ?_
        have Q : Hid (S5 w wv g2 b9 b10 ⟨st, pg, pr, fl, fi, ix⟩ ⟨0, 0, 0, 0, 0, 0⟩ ⟨0, 0, 0, 0, 0, 0⟩ ⟨st, pg, pr, fl, fi, ix⟩ ⟨st, pg, pr, fl, fi, ix⟩) := hide ⟨K.out, HG.out, H9.out, H10.out, HN.out, X.out, Y.out, Z.out, U.out, T.out⟩
        clear K HG H9 H10 HN X Y Z U T HS
        try clear x0 x1 x2 x3 x4 x5
        try clear u0 u1 u2 u3 u4 u5
        try clear t0 t1 t2 t3 t4 t5
        try clear p0 p1 p2 p3 p4 p5
        try clear s0 s1 s2 s3 s4 s5
        obtain ⟨x0, x1, x2, x3, x4, x5⟩ := Q.out.X.cells
        obtain ⟨u0, u1, u2, u3, u4, u5⟩ := Q.out.U.cells
        obtain ⟨t0, t1, t2, t3, t4, t5⟩ := Q.out.T.cells
        obtain ⟨p0, p1, p2, p3, p4, p5⟩ := Q.out.U.free
        obtain ⟨s0, s1, s2, s3, s4, s5⟩ := Q.out.T.free
        go_upto_region 9 with fail
        replace Q := hide (Q.out.setU (RB.set1 Q.out.U (p - st)))
        generalize wv.setCell ⟨b9, 1, none⟩ (.int .i64 (p - st)) = v1 at *
        try clear x0 x1 x2 x3 x4 x5
        try clear u0 u1 u2 u3 u4 u5
        try clear t0 t1 t2 t3 t4 t5
        try clear p0 p1 p2 p3 p4 p5
        try clear s0 s1 s2 s3 s4 s5
        obtain ⟨x0, x1, x2, x3, x4, x5⟩ := Q.out.X.cells
        obtain ⟨u0, u1, u2, u3, u4, u5⟩ := Q.out.U.cells
        obtain ⟨t0, t1, t2, t3, t4, t5⟩ := Q.out.T.cells
        obtain ⟨p0, p1, p2, p3, p4, p5⟩ := Q.out.U.free
        obtain ⟨s0, s1, s2, s3, s4, s5⟩ := Q.out.T.free
        go_upto_region 10 with fail
        replace Q := hide (Q.out.setT (RB.set0 Q.out.T (p)))
        generalize v1.setCell ⟨b10, 0, none⟩ (.int .i64 (p)) = v2 at *
        try clear x0 x1 x2 x3 x4 x5
        try clear u0 u1 u2 u3 u4 u5
        try clear t0 t1 t2 t3 t4 t5
        try clear p0 p1 p2 p3 p4 p5
        try clear s0 s1 s2 s3 s4 s5
        obtain ⟨x0, x1, x2, x3, x4, x5⟩ := Q.out.X.cells
        obtain ⟨u0, u1, u2, u3, u4, u5⟩ := Q.out.U.cells
        obtain ⟨t0, t1, t2, t3, t4, t5⟩ := Q.out.T.cells
        obtain ⟨p0, p1, p2, p3, p4, p5⟩ := Q.out.U.free
        obtain ⟨s0, s1, s2, s3, s4, s5⟩ := Q.out.T.free
        go_upto_region 11 with fail
        replace Q := hide (Q.out.setT (RB.set1 Q.out.T (pg - (p - st))))
        generalize v2.setCell ⟨b10, 1, none⟩ (.int .i64 (pg - (p - st))) = v3 at *
        try clear x0 x1 x2 x3 x4 x5
        try clear u0 u1 u2 u3 u4 u5
        try clear t0 t1 t2 t3 t4 t5
        try clear p0 p1 p2 p3 p4 p5
        try clear s0 s1 s2 s3 s4 s5
        obtain ⟨x0, x1, x2, x3, x4, x5⟩ := Q.out.X.cells
        obtain ⟨u0, u1, u2, u3, u4, u5⟩ := Q.out.U.cells
        obtain ⟨t0, t1, t2, t3, t4, t5⟩ := Q.out.T.cells
        obtain ⟨p0, p1, p2, p3, p4, p5⟩ := Q.out.U.free
        obtain ⟨s0, s1, s2, s3, s4, s5⟩ := Q.out.T.free
        go_upto_region 13 with fail
        replace Q := hide (Q.out.setT (RB.set5 Q.out.T (ix + (p - st))))
        generalize v3.setCell ⟨b10, 5, none⟩ (.int .i64 (ix + (p - st))) = v4 at *
        try clear x0 x1 x2 x3 x4 x5
        try clear u0 u1 u2 u3 u4 u5
        try clear t0 t1 t2 t3 t4 t5
        try clear p0 p1 p2 p3 p4 p5
        try clear s0 s1 s2 s3 s4 s5
        obtain ⟨x0, x1, x2, x3, x4, x5⟩ := Q.out.X.cells
        obtain ⟨u0, u1, u2, u3, u4, u5⟩ := Q.out.U.cells
        obtain ⟨t0, t1, t2, t3, t4, t5⟩ := Q.out.T.cells
        obtain ⟨p0, p1, p2, p3, p4, p5⟩ := Q.out.U.free
        obtain ⟨s0, s1, s2, s3, s4, s5⟩ := Q.out.T.free
        go_wp2_with fail
        refine (F2.out _).mono ?_
        rintro e v5 ⟨rfl, hb⟩
        replace Q := hide (Q.out.below hb)
        clear hb
        try clear x0 x1 x2 x3 x4 x5
        try clear u0 u1 u2 u3 u4 u5
        try clear t0 t1 t2 t3 t4 t5
        try clear p0 p1 p2 p3 p4 p5
        try clear s0 s1 s2 s3 s4 s5
        obtain ⟨x0, x1, x2, x3, x4, x5⟩ := Q.out.X.cells
        obtain ⟨u0, u1, u2, u3, u4, u5⟩ := Q.out.U.cells
        obtain ⟨t0, t1, t2, t3, t4, t5⟩ := Q.out.T.cells
        obtain ⟨p0, p1, p2, p3, p4, p5⟩ := Q.out.U.free
        obtain ⟨s0, s1, s2, s3, s4, s5⟩ := Q.out.T.free
        go_upto_region 15 with fail
        replace Q := hide (Q.out.setT (RB.set3 Q.out.T (fl - 2)))
        generalize v5.setCell ⟨b10, 3, none⟩ (.int .i64 (fl - 2)) = v6 at *
        try clear x0 x1 x2 x3 x4 x5
        try clear u0 u1 u2 u3 u4 u5
        try clear t0 t1 t2 t3 t4 t5
        try clear p0 p1 p2 p3 p4 p5
        try clear s0 s1 s2 s3 s4 s5
        obtain ⟨x0, x1, x2, x3, x4, x5⟩ := Q.out.X.cells
        obtain ⟨u0, u1, u2, u3, u4, u5⟩ := Q.out.U.cells
        obtain ⟨t0, t1, t2, t3, t4, t5⟩ := Q.out.T.cells
        obtain ⟨p0, p1, p2, p3, p4, p5⟩ := Q.out.U.free
        obtain ⟨s0, s1, s2, s3, s4, s5⟩ := Q.out.T.free
        try clear x0 x1 x2 x3 x4 x5
        try clear u0 u1 u2 u3 u4 u5
        try clear t0 t1 t2 t3 t4 t5
        try clear p0 p1 p2 p3 p4 p5
        try clear s0 s1 s2 s3 s4 s5
        replace Q := hide (Q.out.below (show Below v6.heap.size v6 v6.drew from below_drewN (brefl _) 1))
        have K := hide Q.out.k
        have HG := hide Q.out.hg
        have H9 := hide Q.out.h9
        have H10 := hide Q.out.h10
        have Y := hide Q.out.Y
        have Z := hide Q.out.Z
        have U := hide Q.out.U
        have T := hide Q.out.T
        clear Q
        refine wp_region_noPanic ?_
        refine wp_region_held_drew (S := (fun W => W.cell? ⟨b9, 0, none⟩ = some (.int .i64 st) ∧ W.cell? ⟨b9, 1, none⟩ = some (.int .i64 (p - st)) ∧ W.cell? ⟨b9, 2, none⟩ = some (.int .i64 pr) ∧ W.cell? ⟨b9, 3, none⟩ = some (.int .i64 fl) ∧ W.cell? ⟨b9, 4, none⟩ = some (.int .i64 fi) ∧ W.cell? ⟨b9, 5, none⟩ = some (.int .i64 ix) ∧ W.cell? ⟨b10, 0, none⟩ = some (.int .i64 p) ∧ W.cell? ⟨b10, 1, none⟩ = some (.int .i64 (pg - (p - st))) ∧ W.cell? ⟨b10, 2, none⟩ = some (.int .i64 pr) ∧ W.cell? ⟨b10, 3, none⟩ = some (.int .i64 (fl - 2)) ∧ W.cell? ⟨b10, 4, none⟩ = some (.int .i64 fi) ∧ W.cell? ⟨b10, 5, none⟩ = some (.int .i64 (ix + (p - st))))) (by kernel_rfl) ?_ (fun hHeld => ?_)
        · (obtain ⟨u0, u1, u2, u3, u4, u5⟩ := RB.cells U.out; obtain ⟨t0, t1, t2, t3, t4, t5⟩ := RB.cells T.out; exact ⟨u0, u1, u2, u3, u4, u5, t0, t1, t2, t3, t4, t5⟩)
        generalize v6.drew = ww at *
        refine wpAnyH_take (i := 0) (oi := ⟨some 62, _, _, _, _, _⟩) (v := ?_) rfl (by kernel_rfl) (by kernel_rfl) (by kernel_rfl) (fun _ _ _ h => h) (Or.inl ⟨by kernel_rfl, ?_⟩) (by assumption) ?_
        rotate_left 1
        · (intro w hSw; (try dsimp only at hSw); go_simp) <;> (with_reducible rfl)
        (try simp only [Act.put, List.setIfInBounds_toArray, List.set_cons_succ, List.set_cons_zero])
        refine wpAnyH_take (i := 1) (oi := ⟨some 63, _, _, _, _, _⟩) (v := ?_) rfl (by kernel_rfl) (by kernel_rfl) (by kernel_rfl) (fun _ _ _ h => h) (Or.inl ⟨by kernel_rfl, ?_⟩) (by assumption) ?_
        rotate_left 1
        · (intro w hSw; (try dsimp only at hSw); go_simp) <;> (with_reducible rfl)
        (try simp only [Act.put, List.setIfInBounds_toArray, List.set_cons_succ, List.set_cons_zero])
        refine wpAnyH_ready (rs := [2]) (by kernel_rfl) (by simp) ?_
        refine AllReadyH.cons (o := ⟨none, _, _, _, _, _⟩) rfl (fun K' hK => ?_) AllReadyH.nil
        obtain ⟨c0, c1, c2, c3, c4, c5⟩ := RB.cells Y.out
        obtain ⟨q0, q1, q2, q3, q4, q5⟩ := RB.free Y.out
        go_simp
        have i9 := H9.out
        have i10 := H10.out
        have iG := HG.out
        replace K := hide (show Below w.heap.size w ((((((ww.setCell ⟨g2 + 1, 0, none⟩ (.int .i64 st)).setCell ⟨g2 + 1, 1, none⟩ (.int .i64 (p - st))).setCell ⟨g2 + 1, 2, none⟩ (.int .i64 pr)).setCell ⟨g2 + 1, 3, none⟩ (.int .i64 fl)).setCell ⟨g2 + 1, 4, none⟩ (.int .i64 fi)).setCell ⟨g2 + 1, 5, none⟩ (.int .i64 ix)) from bset6 K.out (by omega))
        replace Z := hide (show RB ((((((ww.setCell ⟨g2 + 1, 0, none⟩ (.int .i64 st)).setCell ⟨g2 + 1, 1, none⟩ (.int .i64 (p - st))).setCell ⟨g2 + 1, 2, none⟩ (.int .i64 pr)).setCell ⟨g2 + 1, 3, none⟩ (.int .i64 fl)).setCell ⟨g2 + 1, 4, none⟩ (.int .i64 fi)).setCell ⟨g2 + 1, 5, none⟩ (.int .i64 ix)) (g2 + 2) ⟨0, 0, 0, 0, 0, 0⟩ from RB.far6 Z.out (by omega))
        replace U := hide (show RB ((((((ww.setCell ⟨g2 + 1, 0, none⟩ (.int .i64 st)).setCell ⟨g2 + 1, 1, none⟩ (.int .i64 (p - st))).setCell ⟨g2 + 1, 2, none⟩ (.int .i64 pr)).setCell ⟨g2 + 1, 3, none⟩ (.int .i64 fl)).setCell ⟨g2 + 1, 4, none⟩ (.int .i64 fi)).setCell ⟨g2 + 1, 5, none⟩ (.int .i64 ix)) b9 ⟨st, p - st, pr, fl, fi, ix⟩ from RB.far6 U.out (by omega))
        replace T := hide (show RB ((((((ww.setCell ⟨g2 + 1, 0, none⟩ (.int .i64 st)).setCell ⟨g2 + 1, 1, none⟩ (.int .i64 (p - st))).setCell ⟨g2 + 1, 2, none⟩ (.int .i64 pr)).setCell ⟨g2 + 1, 3, none⟩ (.int .i64 fl)).setCell ⟨g2 + 1, 4, none⟩ (.int .i64 fi)).setCell ⟨g2 + 1, 5, none⟩ (.int .i64 ix)) b10 ⟨p, pg - (p - st), pr, fl - 2, fi, ix + (p - st)⟩ from RB.far6 T.out (by omega))
        replace Y := hide (show RB ((((((ww.setCell ⟨g2 + 1, 0, none⟩ (.int .i64 st)).setCell ⟨g2 + 1, 1, none⟩ (.int .i64 (p - st))).setCell ⟨g2 + 1, 2, none⟩ (.int .i64 pr)).setCell ⟨g2 + 1, 3, none⟩ (.int .i64 fl)).setCell ⟨g2 + 1, 4, none⟩ (.int .i64 fi)).setCell ⟨g2 + 1, 5, none⟩ (.int .i64 ix)) (g2 + 1) ⟨st, p - st, pr, fl, fi, ix⟩ from RB.put6 Y.out)
        clear c0 c1 c2 c3 c4 c5 q0 q1 q2 q3 q4 q5 i9 i10 iG
        generalize ((((((ww.setCell ⟨g2 + 1, 0, none⟩ (.int .i64 st)).setCell ⟨g2 + 1, 1, none⟩ (.int .i64 (p - st))).setCell ⟨g2 + 1, 2, none⟩ (.int .i64 pr)).setCell ⟨g2 + 1, 3, none⟩ (.int .i64 fl)).setCell ⟨g2 + 1, 4, none⟩ (.int .i64 fi)).setCell ⟨g2 + 1, 5, none⟩ (.int .i64 ix)) = wy at *
        refine hK.out _ _ ?_ (fun hHeld => ?_)
        · (obtain ⟨u0, u1, u2, u3, u4, u5⟩ := RB.cells U.out; obtain ⟨t0, t1, t2, t3, t4, t5⟩ := RB.cells T.out; exact ⟨u0, u1, u2, u3, u4, u5, t0, t1, t2, t3, t4, t5⟩)
        clear hK K'
        (try simp only [Act.put, List.setIfInBounds_toArray, List.set_cons_succ, List.set_cons_zero])
        refine wpAnyH_ready (rs := [3]) (by kernel_rfl) (by simp) ?_
        refine AllReadyH.cons (o := ⟨none, _, _, _, _, _⟩) rfl (fun K' hK => ?_) AllReadyH.nil
        obtain ⟨c0, c1, c2, c3, c4, c5⟩ := RB.cells Z.out
        obtain ⟨q0, q1, q2, q3, q4, q5⟩ := RB.free Z.out
        go_simp
        have i9 := H9.out
        have i10 := H10.out
        have iG := HG.out
        replace K := hide (show Below w.heap.size w ((((((wy.setCell ⟨g2 + 2, 0, none⟩ (.int .i64 p)).setCell ⟨g2 + 2, 1, none⟩ (.int .i64 (pg - (p - st)))).setCell ⟨g2 + 2, 2, none⟩ (.int .i64 pr)).setCell ⟨g2 + 2, 3, none⟩ (.int .i64 (fl - 2))).setCell ⟨g2 + 2, 4, none⟩ (.int .i64 fi)).setCell ⟨g2 + 2, 5, none⟩ (.int .i64 (ix + (p - st)))) from bset6 K.out (by omega))
        replace Y := hide (show RB ((((((wy.setCell ⟨g2 + 2, 0, none⟩ (.int .i64 p)).setCell ⟨g2 + 2, 1, none⟩ (.int .i64 (pg - (p - st)))).setCell ⟨g2 + 2, 2, none⟩ (.int .i64 pr)).setCell ⟨g2 + 2, 3, none⟩ (.int .i64 (fl - 2))).setCell ⟨g2 + 2, 4, none⟩ (.int .i64 fi)).setCell ⟨g2 + 2, 5, none⟩ (.int .i64 (ix + (p - st)))) (g2 + 1) ⟨st, p - st, pr, fl, fi, ix⟩ from RB.far6 Y.out (by omega))
        replace U := hide (show RB ((((((wy.setCell ⟨g2 + 2, 0, none⟩ (.int .i64 p)).setCell ⟨g2 + 2, 1, none⟩ (.int .i64 (pg - (p - st)))).setCell ⟨g2 + 2, 2, none⟩ (.int .i64 pr)).setCell ⟨g2 + 2, 3, none⟩ (.int .i64 (fl - 2))).setCell ⟨g2 + 2, 4, none⟩ (.int .i64 fi)).setCell ⟨g2 + 2, 5, none⟩ (.int .i64 (ix + (p - st)))) b9 ⟨st, p - st, pr, fl, fi, ix⟩ from RB.far6 U.out (by omega))
        replace T := hide (show RB ((((((wy.setCell ⟨g2 + 2, 0, none⟩ (.int .i64 p)).setCell ⟨g2 + 2, 1, none⟩ (.int .i64 (pg - (p - st)))).setCell ⟨g2 + 2, 2, none⟩ (.int .i64 pr)).setCell ⟨g2 + 2, 3, none⟩ (.int .i64 (fl - 2))).setCell ⟨g2 + 2, 4, none⟩ (.int .i64 fi)).setCell ⟨g2 + 2, 5, none⟩ (.int .i64 (ix + (p - st)))) b10 ⟨p, pg - (p - st), pr, fl - 2, fi, ix + (p - st)⟩ from RB.far6 T.out (by omega))
        replace Z := hide (show RB ((((((wy.setCell ⟨g2 + 2, 0, none⟩ (.int .i64 p)).setCell ⟨g2 + 2, 1, none⟩ (.int .i64 (pg - (p - st)))).setCell ⟨g2 + 2, 2, none⟩ (.int .i64 pr)).setCell ⟨g2 + 2, 3, none⟩ (.int .i64 (fl - 2))).setCell ⟨g2 + 2, 4, none⟩ (.int .i64 fi)).setCell ⟨g2 + 2, 5, none⟩ (.int .i64 (ix + (p - st)))) (g2 + 2) ⟨p, pg - (p - st), pr, fl - 2, fi, ix + (p - st)⟩ from RB.put6 Z.out)
        clear c0 c1 c2 c3 c4 c5 q0 q1 q2 q3 q4 q5 i9 i10 iG
        generalize ((((((wy.setCell ⟨g2 + 2, 0, none⟩ (.int .i64 p)).setCell ⟨g2 + 2, 1, none⟩ (.int .i64 (pg - (p - st)))).setCell ⟨g2 + 2, 2, none⟩ (.int .i64 pr)).setCell ⟨g2 + 2, 3, none⟩ (.int .i64 (fl - 2))).setCell ⟨g2 + 2, 4, none⟩ (.int .i64 fi)).setCell ⟨g2 + 2, 5, none⟩ (.int .i64 (ix + (p - st)))) = wz at *
        refine hK.out _ _ ?_ (fun hHeld => ?_)
        · (obtain ⟨u0, u1, u2, u3, u4, u5⟩ := RB.cells U.out; obtain ⟨t0, t1, t2, t3, t4, t5⟩ := RB.cells T.out; exact ⟨u0, u1, u2, u3, u4, u5, t0, t1, t2, t3, t4, t5⟩)
        clear hK K'
        (try simp only [Act.put, List.setIfInBounds_toArray, List.set_cons_succ, List.set_cons_zero])
        refine wpAnyH_take (i := 4) (oi := ⟨some 6, _, _, _, _, _⟩) (v := ?_) rfl (by kernel_rfl) (by kernel_rfl) (by kernel_rfl) (fun _ _ _ h => h) (Or.inl ⟨by kernel_rfl, ?_⟩) (by assumption) ?_
        rotate_left 1
        · (intro w hSw; (try dsimp only at hSw); go_simp) <;> (with_reducible rfl)
        (try simp only [Act.put, List.setIfInBounds_toArray, List.set_cons_succ, List.set_cons_zero])
        refine wpAnyH_done (by kernel_rfl) ?_ _
        refine NoPanic.normal ?_
        go_wp2
        exact ret_r3 rfl rfl rfl rfl rfl Y.out Z.out E.out ⟨rfl, K.out⟩
      refine AllReadyH.cons (o := ⟨some 10, _, _, _, _, _⟩) rfl (fun K' hK => ?_) AllReadyH.nil
      go_simp
      have T := hide (RB.new w4 0 0 0 0 0 0)
      have M := bal (brefl w4) (.cells #[.int .i64 0, .int .i64 0, .int .i64 0, .int .i64 0, .int .i64 0, .int .i64 0] 58)
      have HC0 := HS.out
      replace K := hide (btrans K.out M)
      replace X := hide (X.out.below M)
      replace Y := hide (Y.out.below M)
      replace Z := hide (Z.out.below M)
      replace HS := hide (Nat.le_trans HS.out M.size)
      obtain ⟨b10, hcb⟩ : ∃ q, q = w4.heap.size := ⟨_, rfl⟩
      have H10 := hide (show g2 + 3 ≤ b10 by omega)
      rw [← hcb] at T ⊢
      clear hcb HC0 M
      generalize w4.alloc (.cells #[.int .i64 0, .int .i64 0, .int .i64 0, .int .i64 0, .int .i64 0, .int .i64 0] 58) = wb at *
      refine hK.out _ _ ?_ (fun hHeld => ?_)
      · exact X.out.cells
      clear hK K'
      (try simp only [Act.put, List.setIfInBounds_toArray, List.set_cons_succ, List.set_cons_zero])
      refine wpAnyH_ready (rs := [2]) (by kernel_rfl) (by simp) ?_
      refine AllReadyH.cons (o := ⟨some 9, _, _, _, _, _⟩) rfl (fun K' hK => ?_) AllReadyH.nil
      go_simp
      have U := hide (RB.new wb 0 0 0 0 0 0)
      have M := bal (brefl wb) (.cells #[.int .i64 0, .int .i64 0, .int .i64 0, .int .i64 0, .int .i64 0, .int .i64 0] 58)
      have HC0 := HS.out
      have LT := T.out.lt
      replace K := hide (btrans K.out M)
      replace X := hide (X.out.below M)
      replace Y := hide (Y.out.below M)
      replace Z := hide (Z.out.below M)
      replace T := hide (T.out.below M)
      replace HS := hide (Nat.le_trans HS.out M.size)
      obtain ⟨b9, hcb⟩ : ∃ q, q = wb.heap.size := ⟨_, rfl⟩
      have H9 := hide (show g2 + 3 ≤ b9 by omega)
      have HN := hide (show b9 ≠ b10 by omega)
      rw [← hcb] at U ⊢
      clear hcb HC0 M LT
      generalize wb.alloc (.cells #[.int .i64 0, .int .i64 0, .int .i64 0, .int .i64 0, .int .i64 0, .int .i64 0] 58) = wa at *
      refine hK.out _ _ ?_ (fun hHeld => ?_)
      · exact X.out.cells
      clear hK K'
      (try simp only [Act.put, List.setIfInBounds_toArray, List.set_cons_succ, List.set_cons_zero])
      refine wpAnyH_ready (rs := [4]) (by kernel_rfl) (by simp) ?_
      refine AllReadyH.cons (o := ⟨none, _, _, _, _, _⟩) rfl (fun K' hK => ?_) AllReadyH.nil
      obtain ⟨c0, c1, c2, c3, c4, c5⟩ := RB.cells U.out
      obtain ⟨q0, q1, q2, q3, q4, q5⟩ := RB.free U.out
      go_simp
      have i9 := H9.out
      have iN := HN.out
      have iG := HG.out
      replace K := hide (show Below w.heap.size w ((((((wa.setCell ⟨b9, 0, none⟩ (.int .i64 st)).setCell ⟨b9, 1, none⟩ (.int .i64 pg)).setCell ⟨b9, 2, none⟩ (.int .i64 pr)).setCell ⟨b9, 3, none⟩ (.int .i64 fl)).setCell ⟨b9, 4, none⟩ (.int .i64 fi)).setCell ⟨b9, 5, none⟩ (.int .i64 ix)) from bset6 K.out (by omega))
      replace X := hide (show RB ((((((wa.setCell ⟨b9, 0, none⟩ (.int .i64 st)).setCell ⟨b9, 1, none⟩ (.int .i64 pg)).setCell ⟨b9, 2, none⟩ (.int .i64 pr)).setCell ⟨b9, 3, none⟩ (.int .i64 fl)).setCell ⟨b9, 4, none⟩ (.int .i64 fi)).setCell ⟨b9, 5, none⟩ (.int .i64 ix)) g2 ⟨st, pg, pr, fl, fi, ix⟩ from RB.far6 X.out (by omega))
      replace Y := hide (show RB ((((((wa.setCell ⟨b9, 0, none⟩ (.int .i64 st)).setCell ⟨b9, 1, none⟩ (.int .i64 pg)).setCell ⟨b9, 2, none⟩ (.int .i64 pr)).setCell ⟨b9, 3, none⟩ (.int .i64 fl)).setCell ⟨b9, 4, none⟩ (.int .i64 fi)).setCell ⟨b9, 5, none⟩ (.int .i64 ix)) (g2 + 1) ⟨0, 0, 0, 0, 0, 0⟩ from RB.far6 Y.out (by omega))
      replace Z := hide (show RB ((((((wa.setCell ⟨b9, 0, none⟩ (.int .i64 st)).setCell ⟨b9, 1, none⟩ (.int .i64 pg)).setCell ⟨b9, 2, none⟩ (.int .i64 pr)).setCell ⟨b9, 3, none⟩ (.int .i64 fl)).setCell ⟨b9, 4, none⟩ (.int .i64 fi)).setCell ⟨b9, 5, none⟩ (.int .i64 ix)) (g2 + 2) ⟨0, 0, 0, 0, 0, 0⟩ from RB.far6 Z.out (by omega))
      replace T := hide (show RB ((((((wa.setCell ⟨b9, 0, none⟩ (.int .i64 st)).setCell ⟨b9, 1, none⟩ (.int .i64 pg)).setCell ⟨b9, 2, none⟩ (.int .i64 pr)).setCell ⟨b9, 3, none⟩ (.int .i64 fl)).setCell ⟨b9, 4, none⟩ (.int .i64 fi)).setCell ⟨b9, 5, none⟩ (.int .i64 ix)) b10 ⟨0, 0, 0, 0, 0, 0⟩ from RB.far6 T.out (by omega))
      replace U := hide (show RB ((((((wa.setCell ⟨b9, 0, none⟩ (.int .i64 st)).setCell ⟨b9, 1, none⟩ (.int .i64 pg)).setCell ⟨b9, 2, none⟩ (.int .i64 pr)).setCell ⟨b9, 3, none⟩ (.int .i64 fl)).setCell ⟨b9, 4, none⟩ (.int .i64 fi)).setCell ⟨b9, 5, none⟩ (.int .i64 ix)) b9 ⟨st, pg, pr, fl, fi, ix⟩ from RB.put6 U.out)
      clear c0 c1 c2 c3 c4 c5 q0 q1 q2 q3 q4 q5 i9 iN iG
      generalize ((((((wa.setCell ⟨b9, 0, none⟩ (.int .i64 st)).setCell ⟨b9, 1, none⟩ (.int .i64 pg)).setCell ⟨b9, 2, none⟩ (.int .i64 pr)).setCell ⟨b9, 3, none⟩ (.int .i64 fl)).setCell ⟨b9, 4, none⟩ (.int .i64 fi)).setCell ⟨b9, 5, none⟩ (.int .i64 ix)) = wu at *
      refine hK.out _ _ ?_ (fun hHeld => ?_)
      · exact X.out.cells
      clear hK K'
      (try simp only [Act.put, List.setIfInBounds_toArray, List.set_cons_succ, List.set_cons_zero])
      refine wpAnyH_ready (rs := [5]) (by kernel_rfl) (by simp) ?_
      refine AllReadyH.cons (o := ⟨none, _, _, _, _, _⟩) rfl (fun K' hK => ?_) AllReadyH.nil
      obtain ⟨c0, c1, c2, c3, c4, c5⟩ := RB.cells T.out
      obtain ⟨q0, q1, q2, q3, q4, q5⟩ := RB.free T.out
      go_simp
      have i9 := H10.out
      have iN := HN.out
      have iG := HG.out
      replace K := hide (show Below w.heap.size w ((((((wu.setCell ⟨b10, 0, none⟩ (.int .i64 st)).setCell ⟨b10, 1, none⟩ (.int .i64 pg)).setCell ⟨b10, 2, none⟩ (.int .i64 pr)).setCell ⟨b10, 3, none⟩ (.int .i64 fl)).setCell ⟨b10, 4, none⟩ (.int .i64 fi)).setCell ⟨b10, 5, none⟩ (.int .i64 ix)) from bset6 K.out (by omega))
      replace X := hide (show RB ((((((wu.setCell ⟨b10, 0, none⟩ (.int .i64 st)).setCell ⟨b10, 1, none⟩ (.int .i64 pg)).setCell ⟨b10, 2, none⟩ (.int .i64 pr)).setCell ⟨b10, 3, none⟩ (.int .i64 fl)).setCell ⟨b10, 4, none⟩ (.int .i64 fi)).setCell ⟨b10, 5, none⟩ (.int .i64 ix)) g2 ⟨st, pg, pr, fl, fi, ix⟩ from RB.far6 X.out (by omega))
      replace Y := hide (show RB ((((((wu.setCell ⟨b10, 0, none⟩ (.int .i64 st)).setCell ⟨b10, 1, none⟩ (.int .i64 pg)).setCell ⟨b10, 2, none⟩ (.int .i64 pr)).setCell ⟨b10, 3, none⟩ (.int .i64 fl)).setCell ⟨b10, 4, none⟩ (.int .i64 fi)).setCell ⟨b10, 5, none⟩ (.int .i64 ix)) (g2 + 1) ⟨0, 0, 0, 0, 0, 0⟩ from RB.far6 Y.out (by omega))
      replace Z := hide (show RB ((((((wu.setCell ⟨b10, 0, none⟩ (.int .i64 st)).setCell ⟨b10, 1, none⟩ (.int .i64 pg)).setCell ⟨b10, 2, none⟩ (.int .i64 pr)).setCell ⟨b10, 3, none⟩ (.int .i64 fl)).setCell ⟨b10, 4, none⟩ (.int .i64 fi)).setCell ⟨b10, 5, none⟩ (.int .i64 ix)) (g2 + 2) ⟨0, 0, 0, 0, 0, 0⟩ from RB.far6 Z.out (by omega))
      replace U := hide (show RB ((((((wu.setCell ⟨b10, 0, none⟩ (.int .i64 st)).setCell ⟨b10, 1, none⟩ (.int .i64 pg)).setCell ⟨b10, 2, none⟩ (.int .i64 pr)).setCell ⟨b10, 3, none⟩ (.int .i64 fl)).setCell ⟨b10, 4, none⟩ (.int .i64 fi)).setCell ⟨b10, 5, none⟩ (.int .i64 ix)) b9 ⟨st, pg, pr, fl, fi, ix⟩ from RB.far6 U.out (by omega))
      replace T := hide (show RB ((((((wu.setCell ⟨b10, 0, none⟩ (.int .i64 st)).setCell ⟨b10, 1, none⟩ (.int .i64 pg)).setCell ⟨b10, 2, none⟩ (.int .i64 pr)).setCell ⟨b10, 3, none⟩ (.int .i64 fl)).setCell ⟨b10, 4, none⟩ (.int .i64 fi)).setCell ⟨b10, 5, none⟩ (.int .i64 ix)) b10 ⟨st, pg, pr, fl, fi, ix⟩ from RB.put6 T.out)
      clear c0 c1 c2 c3 c4 c5 q0 q1 q2 q3 q4 q5 i9 iN iG
      generalize ((((((wu.setCell ⟨b10, 0, none⟩ (.int .i64 st)).setCell ⟨b10, 1, none⟩ (.int .i64 pg)).setCell ⟨b10, 2, none⟩ (.int .i64 pr)).setCell ⟨b10, 3, none⟩ (.int .i64 fl)).setCell ⟨b10, 4, none⟩ (.int .i64 fi)).setCell ⟨b10, 5, none⟩ (.int .i64 ix)) = wv at *
      refine hK.out _ _ ?_ (fun hHeld => ?_)
      · exact X.out.cells
      clear hK K'
      (try simp only [Act.put, List.setIfInBounds_toArray, List.set_cons_succ, List.set_cons_zero])
      refine wpAnyH_done (by kernel_rfl) ?_ _
      refine NoPanic.normal ?_
      have Q : Hid (S5 w wv g2 b9 b10 ⟨st, pg, pr, fl, fi, ix⟩ ⟨0, 0, 0, 0, 0, 0⟩ ⟨0, 0, 0, 0, 0, 0⟩ ⟨st, pg, pr, fl, fi, ix⟩ ⟨st, pg, pr, fl, fi, ix⟩) := hide ⟨K.out, HG.out, H9.out, H10.out, HN.out, X.out, Y.out, Z.out, U.out, T.out⟩
      clear K HG H9 H10 HN X Y Z U T HS
      try clear x0 x1 x2 x3 x4 x5
      try clear u0 u1 u2 u3 u4 u5
      try clear t0 t1 t2 t3 t4 t5
      try clear p0 p1 p2 p3 p4 p5
      try clear s0 s1 s2 s3 s4 s5
      obtain ⟨x0, x1, x2, x3, x4, x5⟩ := Q.out.X.cells
      obtain ⟨u0, u1, u2, u3, u4, u5⟩ := Q.out.U.cells
      obtain ⟨t0, t1, t2, t3, t4, t5⟩ := Q.out.T.cells
      obtain ⟨p0, p1, p2, p3, p4, p5⟩ := Q.out.U.free
      obtain ⟨s0, s1, s2, s3, s4, s5⟩ := Q.out.T.free
      go_upto_region 9 with fail
      replace Q := hide (Q.out.setU (RB.set1 Q.out.U (p - st)))
      generalize wv.setCell ⟨b9, 1, none⟩ (.int .i64 (p - st)) = v1 at *
      try clear x0 x1 x2 x3 x4 x5
      try clear u0 u1 u2 u3 u4 u5
      try clear t0 t1 t2 t3 t4 t5
      try clear p0 p1 p2 p3 p4 p5
      try clear s0 s1 s2 s3 s4 s5
      obtain ⟨x0, x1, x2, x3, x4, x5⟩ := Q.out.X.cells
      obtain ⟨u0, u1, u2, u3, u4, u5⟩ := Q.out.U.cells
      obtain ⟨t0, t1, t2, t3, t4, t5⟩ := Q.out.T.cells
      obtain ⟨p0, p1, p2, p3, p4, p5⟩ := Q.out.U.free
      obtain ⟨s0, s1, s2, s3, s4, s5⟩ := Q.out.T.free
      go_upto_region 10 with fail
      replace Q := hide (Q.out.setT (RB.set0 Q.out.T (p)))
      generalize v1.setCell ⟨b10, 0, none⟩ (.int .i64 (p)) = v2 at *
      try clear x0 x1 x2 x3 x4 x5
      try clear u0 u1 u2 u3 u4 u5
      try clear t0 t1 t2 t3 t4 t5
      try clear p0 p1 p2 p3 p4 p5
      try clear s0 s1 s2 s3 s4 s5
      obtain ⟨x0, x1, x2, x3, x4, x5⟩ := Q.out.X.cells
      obtain ⟨u0, u1, u2, u3, u4, u5⟩ := Q.out.U.cells
      obtain ⟨t0, t1, t2, t3, t4, t5⟩ := Q.out.T.cells
      obtain ⟨p0, p1, p2, p3, p4, p5⟩ := Q.out.U.free
      obtain ⟨s0, s1, s2, s3, s4, s5⟩ := Q.out.T.free
      go_upto_region 11 with fail
      replace Q := hide (Q.out.setT (RB.set1 Q.out.T (pg - (p - st))))
      generalize v2.setCell ⟨b10, 1, none⟩ (.int .i64 (pg - (p - st))) = v3 at *
      try clear x0 x1 x2 x3 x4 x5
      try clear u0 u1 u2 u3 u4 u5
      try clear t0 t1 t2 t3 t4 t5
      try clear p0 p1 p2 p3 p4 p5
      try clear s0 s1 s2 s3 s4 s5
      obtain ⟨x0, x1, x2, x3, x4, x5⟩ := Q.out.X.cells
      obtain ⟨u0, u1, u2, u3, u4, u5⟩ := Q.out.U.cells
      obtain ⟨t0, t1, t2, t3, t4, t5⟩ := Q.out.T.cells
      obtain ⟨p0, p1, p2, p3, p4, p5⟩ := Q.out.U.free
      obtain ⟨s0, s1, s2, s3, s4, s5⟩ := Q.out.T.free
      go_upto_region 13 with fail
      replace Q := hide (Q.out.setT (RB.set5 Q.out.T (ix + (p - st))))
      generalize v3.setCell ⟨b10, 5, none⟩ (.int .i64 (ix + (p - st))) = v4 at *
      try clear x0 x1 x2 x3 x4 x5
      try clear u0 u1 u2 u3 u4 u5
      try clear t0 t1 t2 t3 t4 t5
      try clear p0 p1 p2 p3 p4 p5
      try clear s0 s1 s2 s3 s4 s5
      obtain ⟨x0, x1, x2, x3, x4, x5⟩ := Q.out.X.cells
      obtain ⟨u0, u1, u2, u3, u4, u5⟩ := Q.out.U.cells
      obtain ⟨t0, t1, t2, t3, t4, t5⟩ := Q.out.T.cells
      obtain ⟨p0, p1, p2, p3, p4, p5⟩ := Q.out.U.free
      obtain ⟨s0, s1, s2, s3, s4, s5⟩ := Q.out.T.free
      go_wp2_with fail
      refine (F2.out _).mono ?_
      rintro e v5 ⟨rfl, hb⟩
      replace Q := hide (Q.out.below hb)
      clear hb
      try clear x0 x1 x2 x3 x4 x5
      try clear u0 u1 u2 u3 u4 u5
      try clear t0 t1 t2 t3 t4 t5
      try clear p0 p1 p2 p3 p4 p5
      try clear s0 s1 s2 s3 s4 s5
      obtain ⟨x0, x1, x2, x3, x4, x5⟩ := Q.out.X.cells
      obtain ⟨u0, u1, u2, u3, u4, u5⟩ := Q.out.U.cells
      obtain ⟨t0, t1, t2, t3, t4, t5⟩ := Q.out.T.cells
      obtain ⟨p0, p1, p2, p3, p4, p5⟩ := Q.out.U.free
      obtain ⟨s0, s1, s2, s3, s4, s5⟩ := Q.out.T.free
      go_upto_region 15 with fail
      replace Q := hide (Q.out.setT (RB.set3 Q.out.T (fl - 2)))
      generalize v5.setCell ⟨b10, 3, none⟩ (.int .i64 (fl - 2)) = v6 at *
      try clear x0 x1 x2 x3 x4 x5
      try clear u0 u1 u2 u3 u4 u5
      try clear t0 t1 t2 t3 t4 t5
      try clear p0 p1 p2 p3 p4 p5
      try clear s0 s1 s2 s3 s4 s5
      obtain ⟨x0, x1, x2, x3, x4, x5⟩ := Q.out.X.cells
      obtain ⟨u0, u1, u2, u3, u4, u5⟩ := Q.out.U.cells
      obtain ⟨t0, t1, t2, t3, t4, t5⟩ := Q.out.T.cells
      obtain ⟨p0, p1, p2, p3, p4, p5⟩ := Q.out.U.free
      obtain ⟨s0, s1, s2, s3, s4, s5⟩ := Q.out.T.free
      try clear x0 x1 x2 x3 x4 x5
      try clear u0 u1 u2 u3 u4 u5
      try clear t0 t1 t2 t3 t4 t5
      try clear p0 p1 p2 p3 p4 p5
      try clear s0 s1 s2 s3 s4 s5
      replace Q := hide (Q.out.below (show Below v6.heap.size v6 v6.drew from below_drewN (brefl _) 1))
      have K := hide Q.out.k
      have HG := hide Q.out.hg
      have H9 := hide Q.out.h9
      have H10 := hide Q.out.h10
      have Y := hide Q.out.Y
      have Z := hide Q.out.Z
      have U := hide Q.out.U
      have T := hide Q.out.T
      clear Q
      refine wp_region_noPanic ?_
      refine wp_region_held_drew (S := (fun W => W.cell? ⟨b9, 0, none⟩ = some (.int .i64 st) ∧ W.cell? ⟨b9, 1, none⟩ = some (.int .i64 (p - st)) ∧ W.cell? ⟨b9, 2, none⟩ = some (.int .i64 pr) ∧ W.cell? ⟨b9, 3, none⟩ = some (.int .i64 fl) ∧ W.cell? ⟨b9, 4, none⟩ = some (.int .i64 fi) ∧ W.cell? ⟨b9, 5, none⟩ = some (.int .i64 ix) ∧ W.cell? ⟨b10, 0, none⟩ = some (.int .i64 p) ∧ W.cell? ⟨b10, 1, none⟩ = some (.int .i64 (pg - (p - st))) ∧ W.cell? ⟨b10, 2, none⟩ = some (.int .i64 pr) ∧ W.cell? ⟨b10, 3, none⟩ = some (.int .i64 (fl - 2)) ∧ W.cell? ⟨b10, 4, none⟩ = some (.int .i64 fi) ∧ W.cell? ⟨b10, 5, none⟩ = some (.int .i64 (ix + (p - st))))) (by kernel_rfl) ?_ (fun hHeld => ?_)
      · (obtain ⟨u0, u1, u2, u3, u4, u5⟩ := RB.cells U.out; obtain ⟨t0, t1, t2, t3, t4, t5⟩ := RB.cells T.out; exact ⟨u0, u1, u2, u3, u4, u5, t0, t1, t2, t3, t4, t5⟩)
      generalize v6.drew = ww at *
      refine wpAnyH_take (i := 0) (oi := ⟨some 62, _, _, _, _, _⟩) (v := ?_) rfl (by kernel_rfl) (by kernel_rfl) (by kernel_rfl) (fun _ _ _ h => h) (Or.inl ⟨by kernel_rfl, ?_⟩) (by assumption) ?_
      rotate_left 1
      · (intro w hSw; (try dsimp only at hSw); go_simp) <;> (with_reducible rfl)
      (try simp only [Act.put, List.setIfInBounds_toArray, List.set_cons_succ, List.set_cons_zero])
      refine wpAnyH_take (i := 1) (oi := ⟨some 63, _, _, _, _, _⟩) (v := ?_) rfl (by kernel_rfl) (by kernel_rfl) (by kernel_rfl) (fun _ _ _ h => h) (Or.inl ⟨by kernel_rfl, ?_⟩) (by assumption) ?_
      rotate_left 1
      · (intro w hSw; (try dsimp only at hSw); go_simp) <;> (with_reducible rfl)
      (try simp only [Act.put, List.setIfInBounds_toArray, List.set_cons_succ, List.set_cons_zero])
      refine wpAnyH_ready (rs := [2]) (by kernel_rfl) (by simp) ?_
      refine AllReadyH.cons (o := ⟨none, _, _, _, _, _⟩) rfl (fun K' hK => ?_) AllReadyH.nil
      obtain ⟨c0, c1, c2, c3, c4, c5⟩ := RB.cells Y.out
      obtain ⟨q0, q1, q2, q3, q4, q5⟩ := RB.free Y.out
      go_simp
      have i9 := H9.out
      have i10 := H10.out
      have iG := HG.out
      replace K := hide (show Below w.heap.size w ((((((ww.setCell ⟨g2 + 1, 0, none⟩ (.int .i64 st)).setCell ⟨g2 + 1, 1, none⟩ (.int .i64 (p - st))).setCell ⟨g2 + 1, 2, none⟩ (.int .i64 pr)).setCell ⟨g2 + 1, 3, none⟩ (.int .i64 fl)).setCell ⟨g2 + 1, 4, none⟩ (.int .i64 fi)).setCell ⟨g2 + 1, 5, none⟩ (.int .i64 ix)) from bset6 K.out (by omega))
      replace Z := hide (show RB ((((((ww.setCell ⟨g2 + 1, 0, none⟩ (.int .i64 st)).setCell ⟨g2 + 1, 1, none⟩ (.int .i64 (p - st))).setCell ⟨g2 + 1, 2, none⟩ (.int .i64 pr)).setCell ⟨g2 + 1, 3, none⟩ (.int .i64 fl)).setCell ⟨g2 + 1, 4, none⟩ (.int .i64 fi)).setCell ⟨g2 + 1, 5, none⟩ (.int .i64 ix)) (g2 + 2) ⟨0, 0, 0, 0, 0, 0⟩ from RB.far6 Z.out (by omega))
      replace U := hide (show RB ((((((ww.setCell ⟨g2 + 1, 0, none⟩ (.int .i64 st)).setCell ⟨g2 + 1, 1, none⟩ (.int .i64 (p - st))).setCell ⟨g2 + 1, 2, none⟩ (.int .i64 pr)).setCell ⟨g2 + 1, 3, none⟩ (.int .i64 fl)).setCell ⟨g2 + 1, 4, none⟩ (.int .i64 fi)).setCell ⟨g2 + 1, 5, none⟩ (.int .i64 ix)) b9 ⟨st, p - st, pr, fl, fi, ix⟩ from RB.far6 U.out (by omega))
      replace T := hide (show RB ((((((ww.setCell ⟨g2 + 1, 0, none⟩ (.int .i64 st)).setCell ⟨g2 + 1, 1, none⟩ (.int .i64 (p - st))).setCell ⟨g2 + 1, 2, none⟩ (.int .i64 pr)).setCell ⟨g2 + 1, 3, none⟩ (.int .i64 fl)).setCell ⟨g2 + 1, 4, none⟩ (.int .i64 fi)).setCell ⟨g2 + 1, 5, none⟩ (.int .i64 ix)) b10 ⟨p, pg - (p - st), pr, fl - 2, fi, ix + (p - st)⟩ from RB.far6 T.out (by omega))
      replace Y := hide (show RB ((((((ww.setCell ⟨g2 + 1, 0, none⟩ (.int .i64 st)).setCell ⟨g2 + 1, 1, none⟩ (.int .i64 (p - st))).setCell ⟨g2 + 1, 2, none⟩ (.int .i64 pr)).setCell ⟨g2 + 1, 3, none⟩ (.int .i64 fl)).setCell ⟨g2 + 1, 4, none⟩ (.int .i64 fi)).setCell ⟨g2 + 1, 5, none⟩ (.int .i64 ix)) (g2 + 1) ⟨st, p - st, pr, fl, fi, ix⟩ from RB.put6 Y.out)
      clear c0 c1 c2 c3 c4 c5 q0 q1 q2 q3 q4 q5 i9 i10 iG
      generalize ((((((ww.setCell ⟨g2 + 1, 0, none⟩ (.int .i64 st)).setCell ⟨g2 + 1, 1, none⟩ (.int .i64 (p - st))).setCell ⟨g2 + 1, 2, none⟩ (.int .i64 pr)).setCell ⟨g2 + 1, 3, none⟩ (.int .i64 fl)).setCell ⟨g2 + 1, 4, none⟩ (.int .i64 fi)).setCell ⟨g2 + 1, 5, none⟩ (.int .i64 ix)) = wy at *
      refine hK.out _ _ ?_ (fun hHeld => ?_)
      · (obtain ⟨u0, u1, u2, u3, u4, u5⟩ := RB.cells U.out; obtain ⟨t0, t1, t2, t3, t4, t5⟩ := RB.cells T.out; exact ⟨u0, u1, u2, u3, u4, u5, t0, t1, t2, t3, t4, t5⟩)
      clear hK K'
      (try simp only [Act.put, List.setIfInBounds_toArray, List.set_cons_succ, List.set_cons_zero])
      refine wpAnyH_ready (rs := [3]) (by kernel_rfl) (by simp) ?_
      refine AllReadyH.cons (o := ⟨none, _, _, _, _, _⟩) rfl (fun K' hK => ?_) AllReadyH.nil
      obtain ⟨c0, c1, c2, c3, c4, c5⟩ := RB.cells Z.out
      obtain ⟨q0, q1, q2, q3, q4, q5⟩ := RB.free Z.out
      go_simp
      have i9 := H9.out
      have i10 := H10.out
      have iG := HG.out
      replace K := hide (show Below w.heap.size w ((((((wy.setCell ⟨g2 + 2, 0, none⟩ (.int .i64 p)).setCell ⟨g2 + 2, 1, none⟩ (.int .i64 (pg - (p - st)))).setCell ⟨g2 + 2, 2, none⟩ (.int .i64 pr)).setCell ⟨g2 + 2, 3, none⟩ (.int .i64 (fl - 2))).setCell ⟨g2 + 2, 4, none⟩ (.int .i64 fi)).setCell ⟨g2 + 2, 5, none⟩ (.int .i64 (ix + (p - st)))) from bset6 K.out (by omega))
      replace Y := hide (show RB ((((((wy.setCell ⟨g2 + 2, 0, none⟩ (.int .i64 p)).setCell ⟨g2 + 2, 1, none⟩ (.int .i64 (pg - (p - st)))).setCell ⟨g2 + 2, 2, none⟩ (.int .i64 pr)).setCell ⟨g2 + 2, 3, none⟩ (.int .i64 (fl - 2))).setCell ⟨g2 + 2, 4, none⟩ (.int .i64 fi)).setCell ⟨g2 + 2, 5, none⟩ (.int .i64 (ix + (p - st)))) (g2 + 1) ⟨st, p - st, pr, fl, fi, ix⟩ from RB.far6 Y.out (by omega))
      replace U := hide (show RB ((((((wy.setCell ⟨g2 + 2, 0, none⟩ (.int .i64 p)).setCell ⟨g2 + 2, 1, none⟩ (.int .i64 (pg - (p - st)))).setCell ⟨g2 + 2, 2, none⟩ (.int .i64 pr)).setCell ⟨g2 + 2, 3, none⟩ (.int .i64 (fl - 2))).setCell ⟨g2 + 2, 4, none⟩ (.int .i64 fi)).setCell ⟨g2 + 2, 5, none⟩ (.int .i64 (ix + (p - st)))) b9 ⟨st, p - st, pr, fl, fi, ix⟩ from RB.far6 U.out (by omega))
      replace T := hide (show RB ((((((wy.setCell ⟨g2 + 2, 0, none⟩ (.int .i64 p)).setCell ⟨g2 + 2, 1, none⟩ (.int .i64 (pg - (p - st)))).setCell ⟨g2 + 2, 2, none⟩ (.int .i64 pr)).setCell ⟨g2 + 2, 3, none⟩ (.int .i64 (fl - 2))).setCell ⟨g2 + 2, 4, none⟩ (.int .i64 fi)).setCell ⟨g2 + 2, 5, none⟩ (.int .i64 (ix + (p - st)))) b10 ⟨p, pg - (p - st), pr, fl - 2, fi, ix + (p - st)⟩ from RB.far6 T.out (by omega))
      replace Z := hide (show RB ((((((wy.setCell ⟨g2 + 2, 0, none⟩ (.int .i64 p)).setCell ⟨g2 + 2, 1, none⟩ (.int .i64 (pg - (p - st)))).setCell ⟨g2 + 2, 2, none⟩ (.int .i64 pr)).setCell ⟨g2 + 2, 3, none⟩ (.int .i64 (fl - 2))).setCell ⟨g2 + 2, 4, none⟩ (.int .i64 fi)).setCell ⟨g2 + 2, 5, none⟩ (.int .i64 (ix + (p - st)))) (g2 + 2) ⟨p, pg - (p - st), pr, fl - 2, fi, ix + (p - st)⟩ from RB.put6 Z.out)
      clear c0 c1 c2 c3 c4 c5 q0 q1 q2 q3 q4 q5 i9 i10 iG
      generalize ((((((wy.setCell ⟨g2 + 2, 0, none⟩ (.int .i64 p)).setCell ⟨g2 + 2, 1, none⟩ (.int .i64 (pg - (p - st)))).setCell ⟨g2 + 2, 2, none⟩ (.int .i64 pr)).setCell ⟨g2 + 2, 3, none⟩ (.int .i64 (fl - 2))).setCell ⟨g2 + 2, 4, none⟩ (.int .i64 fi)).setCell ⟨g2 + 2, 5, none⟩ (.int .i64 (ix + (p - st)))) = wz at *
      refine hK.out _ _ ?_ (fun hHeld => ?_)
      · (obtain ⟨u0, u1, u2, u3, u4, u5⟩ := RB.cells U.out; obtain ⟨t0, t1, t2, t3, t4, t5⟩ := RB.cells T.out; exact ⟨u0, u1, u2, u3, u4, u5, t0, t1, t2, t3, t4, t5⟩)
      clear hK K'
      (try simp only [Act.put, List.setIfInBounds_toArray, List.set_cons_succ, List.set_cons_zero])
      refine wpAnyH_take (i := 4) (oi := ⟨some 6, _, _, _, _, _⟩) (v := ?_) rfl (by kernel_rfl) (by kernel_rfl) (by kernel_rfl) (fun _ _ _ h => h) (Or.inl ⟨by kernel_rfl, ?_⟩) (by assumption) ?_
      rotate_left 1
      · (intro w hSw; (try dsimp only at hSw); go_simp) <;> (with_reducible rfl)
      (try simp only [Act.put, List.setIfInBounds_toArray, List.set_cons_succ, List.set_cons_zero])
      refine wpAnyH_done (by kernel_rfl) ?_ _
      refine NoPanic.normal ?_
      go_wp2
      exact ret_r3 rfl rfl rfl rfl rfl Y.out Z.out E.out ⟨rfl, K.out⟩
    · rw [nog_n h6] at E
      rw [decide_eq_false h6] at F2
      replace E := hide E
      replace F2 := hide F2
      replace h6 := hide h6
      have HS := hide (show g2 + 3 ≤ W0.heap.size by rw [HW.out, HB.out]; simp)
      go_enter Try.func56, Try.ntmps56
      go_upto_region 1 with fail
      rw [← HW.out, ← HB.out]
      clear HW HB
      try clear x0 x1 x2 x3 x4 x5
      obtain ⟨x0, x1, x2, x3, x4, x5⟩ := X.out.cells
      try clear y0 y1 y2 y3 y4 y5
      obtain ⟨y0, y1, y2, y3, y4, y5⟩ := Y.out.cells
      try clear z0 z1 z2 z3 z4 z5
      obtain ⟨z0, z1, z2, z3, z4, z5⟩ := Z.out.cells
      go_wp2_with fail
      refine (Ca.out _).mono ?_
      rintro e w2 ⟨rfl, hb⟩
      replace K := hide (btrans K.out hb)
      replace X := hide (X.out.below hb)
      replace Y := hide (Y.out.below hb)
      replace Z := hide (Z.out.below hb)
      replace HS := hide (Nat.le_trans HS.out hb.size)
      clear hb
      try clear x0 x1 x2 x3 x4 x5
      obtain ⟨x0, x1, x2, x3, x4, x5⟩ := X.out.cells
      try clear y0 y1 y2 y3 y4 y5
      obtain ⟨y0, y1, y2, y3, y4, y5⟩ := Y.out.cells
      try clear z0 z1 z2 z3 z4 z5
      obtain ⟨z0, z1, z2, z3, z4, z5⟩ := Z.out.cells
      go_upto_region 7 with fail
      replace K := hide (show Below w.heap.size w w2.drew from btrans K.out (below_drewN (brefl _) 1))
      replace X := hide X.out.drew
      replace Y := hide Y.out.drew
      replace Z := hide Z.out.drew
      replace HS := hide (show g2 + 3 ≤ w2.drew.heap.size from HS.out)
      clear x0 x1 x2 x3 x4 x5 y0 y1 y2 y3 y4 y5 z0 z1 z2 z3 z4 z5
      refine wp_region_noPanic ?_
      refine wp_region_held_drew (S := (fun W => W.cell? ⟨g2, 0, none⟩ = some (.int .i64 st) ∧ W.cell? ⟨g2, 1, none⟩ = some (.int .i64 pg) ∧ W.cell? ⟨g2, 2, none⟩ = some (.int .i64 pr) ∧ W.cell? ⟨g2, 3, none⟩ = some (.int .i64 fl) ∧ W.cell? ⟨g2, 4, none⟩ = some (.int .i64 fi) ∧ W.cell? ⟨g2, 5, none⟩ = some (.int .i64 ix))) (by kernel_rfl) ?_ (fun hHeld => ?_)
      · exact X.out.cells
      generalize w2.drew = w4 at *
      refine wpAnyH_take (i := 0) (oi := ⟨some 37, _, _, _, _, _⟩) (v := ?_) rfl (by kernel_rfl) (by kernel_rfl) (by kernel_rfl) (fun _ _ _ h => h) (Or.inl ⟨by kernel_rfl, ?_⟩) (by assumption) ?_
      rotate_left 1
      · (intro w hSw; (try dsimp only at hSw); go_simp) <;> (with_reducible rfl)
      (try simp only [Act.put, List.setIfInBounds_toArray, List.set_cons_succ, List.set_cons_zero])
      refine wpAnyH_take (i := 1) (oi := ⟨some 38, _, _, _, _, _⟩) (v := ?_) rfl (by kernel_rfl) (by kernel_rfl) (by kernel_rfl) (fun _ _ _ h => h) (Or.inl ⟨by kernel_rfl, ?_⟩) (by assumption) ?_
      rotate_left 1
      · (intro w hSw; (try dsimp only at hSw); go_simp) <;> (with_reducible rfl)
      (try simp only [Act.put, List.setIfInBounds_toArray, List.set_cons_succ, List.set_cons_zero])
      refine wpAnyH_ready (rs := [2, 3]) (by kernel_rfl) (by simp) ?_
      refine AllReadyH.cons (o := ⟨some 9, _, _, _, _, _⟩) rfl (fun K' hK => ?_) ?_
      · go_simp
        have U := hide (RB.new w4 0 0 0 0 0 0)
        have M := bal (brefl w4) (.cells #[.int .i64 0, .int .i64 0, .int .i64 0, .int .i64 0, .int .i64 0, .int .i64 0] 58)
        have HC0 := HS.out
        replace K := hide (btrans K.out M)
        replace X := hide (X.out.below M)
        replace Y := hide (Y.out.below M)
        replace Z := hide (Z.out.below M)
        replace HS := hide (Nat.le_trans HS.out M.size)
        obtain ⟨b9, hcb⟩ : ∃ q, q = w4.heap.size := ⟨_, rfl⟩
        have H9 := hide (show g2 + 3 ≤ b9 by omega)
        rw [← hcb] at U ⊢
        clear hcb HC0 M
        generalize w4.alloc (.cells #[.int .i64 0, .int .i64 0, .int .i64 0, .int .i64 0, .int .i64 0, .int .i64 0] 58) = wa at *
        refine hK.out _ _ ?_ (fun hHeld => ?_)
        · exact X.out.cells
        clear hK K'
        (try simp only [Act.put, List.setIfInBounds_toArray, List.set_cons_succ, List.set_cons_zero])
        refine wpAnyH_ready (rs := [3]) (by kernel_rfl) (by simp) ?_
        refine AllReadyH.cons (o := ⟨some 10, _, _, _, _, _⟩) rfl (fun K' hK => ?_) AllReadyH.nil
        go_simp
        have T := hide (RB.new wa 0 0 0 0 0 0)
        have M := bal (brefl wa) (.cells #[.int .i64 0, .int .i64 0, .int .i64 0, .int .i64 0, .int .i64 0, .int .i64 0] 58)
        have HC0 := HS.out
        have LU := U.out.lt
        replace K := hide (btrans K.out M)
        replace X := hide (X.out.below M)
        replace Y := hide (Y.out.below M)
        replace Z := hide (Z.out.below M)
        replace U := hide (U.out.below M)
        replace HS := hide (Nat.le_trans HS.out M.size)
        obtain ⟨b10, hcb⟩ : ∃ q, q = wa.heap.size := ⟨_, rfl⟩
        have H10 := hide (show g2 + 3 ≤ b10 by omega)
        have HN := hide (show b9 ≠ b10 by omega)
        rw [← hcb] at T ⊢
        clear hcb HC0 M LU
        generalize wa.alloc (.cells #[.int .i64 0, .int .i64 0, .int .i64 0, .int .i64 0, .int .i64 0, .int .i64 0] 58) = wb at *
        refine hK.out _ _ ?_ (fun hHeld => ?_)
        · exact X.out.cells
        clear hK K'
        (try simp only [Act.put, List.setIfInBounds_toArray, List.set_cons_succ, List.set_cons_zero])
        refine wpAnyH_ready (rs := [4]) (by kernel_rfl) (by simp) ?_
        refine AllReadyH.cons (o := ⟨none, _, _, _, _, _⟩) rfl (fun K' hK => ?_) AllReadyH.nil
        obtain ⟨c0, c1, c2, c3, c4, c5⟩ := RB.cells U.out
        obtain ⟨q0, q1, q2, q3, q4, q5⟩ := RB.free U.out
        go_simp
        have i9 := H9.out
        have iN := HN.out
        have iG := HG.out
        replace K := hide (show Below w.heap.size w ((((((wb.setCell ⟨b9, 0, none⟩ (.int .i64 st)).setCell ⟨b9, 1, none⟩ (.int .i64 pg)).setCell ⟨b9, 2, none⟩ (.int .i64 pr)).setCell ⟨b9, 3, none⟩ (.int .i64 fl)).setCell ⟨b9, 4, none⟩ (.int .i64 fi)).setCell ⟨b9, 5, none⟩ (.int .i64 ix)) from bset6 K.out (by omega))
        replace X := hide (show RB ((((((wb.setCell ⟨b9, 0, none⟩ (.int .i64 st)).setCell ⟨b9, 1, none⟩ (.int .i64 pg)).setCell ⟨b9, 2, none⟩ (.int .i64 pr)).setCell ⟨b9, 3, none⟩ (.int .i64 fl)).setCell ⟨b9, 4, none⟩ (.int .i64 fi)).setCell ⟨b9, 5, none⟩ (.int .i64 ix)) g2 ⟨st, pg, pr, fl, fi, ix⟩ from RB.far6 X.out (by omega))
        replace Y := hide (show RB ((((((wb.setCell ⟨b9, 0, none⟩ (.int .i64 st)).setCell ⟨b9, 1, none⟩ (.int .i64 pg)).setCell ⟨b9, 2, none⟩ (.int .i64 pr)).setCell ⟨b9, 3, none⟩ (.int .i64 fl)).setCell ⟨b9, 4, none⟩ (.int .i64 fi)).setCell ⟨b9, 5, none⟩ (.int .i64 ix)) (g2 + 1) ⟨0, 0, 0, 0, 0, 0⟩ from RB.far6 Y.out (by omega))
        replace Z := hide (show RB ((((((wb.setCell ⟨b9, 0, none⟩ (.int .i64 st)).setCell ⟨b9, 1, none⟩ (.int .i64 pg)).setCell ⟨b9, 2, none⟩ (.int .i64 pr)).setCell ⟨b9, 3, none⟩ (.int .i64 fl)).setCell ⟨b9, 4, none⟩ (.int .i64 fi)).setCell ⟨b9, 5, none⟩ (.int .i64 ix)) (g2 + 2) ⟨0, 0, 0, 0, 0, 0⟩ from RB.far6 Z.out (by omega))
        replace T := hide (show RB ((((((wb.setCell ⟨b9, 0, none⟩ (.int .i64 st)).setCell ⟨b9, 1, none⟩ (.int .i64 pg)).setCell ⟨b9, 2, none⟩ (.int .i64 pr)).setCell ⟨b9, 3, none⟩ (.int .i64 fl)).setCell ⟨b9, 4, none⟩ (.int .i64 fi)).setCell ⟨b9, 5, none⟩ (.int .i64 ix)) b10 ⟨0, 0, 0, 0, 0, 0⟩ from RB.far6 T.out (by omega))
        replace U := hide (show RB ((((((wb.setCell ⟨b9, 0, none⟩ (.int .i64 st)).setCell ⟨b9, 1, none⟩ (.int .i64 pg)).setCell ⟨b9, 2, none⟩ (.int .i64 pr)).setCell ⟨b9, 3, none⟩ (.int .i64 fl)).setCell ⟨b9, 4, none⟩ (.int .i64 fi)).setCell ⟨b9, 5, none⟩ (.int .i64 ix)) b9 ⟨st, pg, pr, fl, fi, ix⟩ from RB.put6 U.out)
        clear c0 c1 c2 c3 c4 c5 q0 q1 q2 q3 q4 q5 i9 iN iG
        generalize ((((((wb.setCell ⟨b9, 0, none⟩ (.int .i64 st)).setCell ⟨b9, 1, none⟩ (.int .i64 pg)).setCell ⟨b9, 2, none⟩ (.int .i64 pr)).setCell ⟨b9, 3, none⟩ (.int .i64 fl)).setCell ⟨b9, 4, none⟩ (.int .i64 fi)).setCell ⟨b9, 5, none⟩ (.int .i64 ix)) = wu at *
        refine hK.out _ _ ?_ (fun hHeld => ?_)
        · exact X.out.cells
        clear hK K'
        (try simp only [Act.put, List.setIfInBounds_toArray, List.set_cons_succ, List.set_cons_zero])
        refine wpAnyH_ready (rs := [5]) (by kernel_rfl) (by simp) ?_
        refine AllReadyH.cons (o := ⟨none, _, _, _, _, _⟩) rfl (fun K' hK => ?_) AllReadyH.nil
        obtain ⟨c0, c1, c2, c3, c4, c5⟩ := RB.cells T.out
        obtain ⟨q0, q1, q2, q3, q4, q5⟩ := RB.free T.out
        go_simp
        have i9 := H10.out
        have iN := HN.out
        have iG := HG.out
        replace K := hide (show Below w.heap.size w ((((((wu.setCell ⟨b10, 0, none⟩ (.int .i64 st)).setCell ⟨b10, 1, none⟩ (.int .i64 pg)).setCell ⟨b10, 2, none⟩ (.int .i64 pr)).setCell ⟨b10, 3, none⟩ (.int .i64 fl)).setCell ⟨b10, 4, none⟩ (.int .i64 fi)).setCell ⟨b10, 5, none⟩ (.int .i64 ix)) from bset6 K.out (by omega))
        replace X := hide (show RB ((((((wu.setCell ⟨b10, 0, none⟩ (.int .i64 st)).setCell ⟨b10, 1, none⟩ (.int .i64 pg)).setCell ⟨b10, 2, none⟩ (.int .i64 pr)).setCell ⟨b10, 3, none⟩ (.int .i64 fl)).setCell ⟨b10, 4, none⟩ (.int .i64 fi)).setCell ⟨b10, 5, none⟩ (.int .i64 ix)) g2 ⟨st, pg, pr, fl, fi, ix⟩ from RB.far6 X.out (by omega))
        replace Y := hide (show RB ((((((wu.setCell ⟨b10, 0, none⟩ (.int .i64 st)).setCell ⟨b10, 1, none⟩ (.int .i64 pg)).setCell ⟨b10, 2, none⟩ (.int .i64 pr)).setCell ⟨b10, 3, none⟩ (.int .i64 fl)).setCell ⟨b10, 4, none⟩ (.int .i64 fi)).setCell ⟨b10, 5, none⟩ (.int .i64 ix)) (g2 + 1) ⟨0, 0, 0, 0, 0, 0⟩ from RB.far6 Y.out (by omega))
        replace Z := hide (show RB ((((((wu.setCell ⟨b10, 0, none⟩ (.int .i64 st)).setCell ⟨b10, 1, none⟩ (.int .i64 pg)).setCell ⟨b10, 2, none⟩ (.int .i64 pr)).setCell ⟨b10, 3, none⟩ (.int .i64 fl)).setCell ⟨b10, 4, none⟩ (.int .i64 fi)).setCell ⟨b10, 5, none⟩ (.int .i64 ix)) (g2 + 2) ⟨0, 0, 0, 0, 0, 0⟩ from RB.far6 Z.out (by omega))
        replace U := hide (show RB ((((((wu.setCell ⟨b10, 0, none⟩ (.int .i64 st)).setCell ⟨b10, 1, none⟩ (.int .i64 pg)).setCell ⟨b10, 2, none⟩ (.int .i64 pr)).setCell ⟨b10, 3, none⟩ (.int .i64 fl)).setCell ⟨b10, 4, none⟩ (.int .i64 fi)).setCell ⟨b10, 5, none⟩ (.int .i64 ix)) b9 ⟨st, pg, pr, fl, fi, ix⟩ from RB.far6 U.out (by omega))
        replace T := hide (show RB ((((((wu.setCell ⟨b10, 0, none⟩ (.int .i64 st)).setCell ⟨b10, 1, none⟩ (.int .i64 pg)).setCell ⟨b10, 2, none⟩ (.int .i64 pr)).setCell ⟨b10, 3, none⟩ (.int .i64 fl)).setCell ⟨b10, 4, none⟩ (.int .i64 fi)).setCell ⟨b10, 5, none⟩ (.int .i64 ix)) b10 ⟨st, pg, pr, fl, fi, ix⟩ from RB.put6 T.out)
        clear c0 c1 c2 c3 c4 c5 q0 q1 q2 q3 q4 q5 i9 iN iG
        generalize ((((((wu.setCell ⟨b10, 0, none⟩ (.int .i64 st)).setCell ⟨b10, 1, none⟩ (.int .i64 pg)).setCell ⟨b10, 2, none⟩ (.int .i64 pr)).setCell ⟨b10, 3, none⟩ (.int .i64 fl)).setCell ⟨b10, 4, none⟩ (.int .i64 fi)).setCell ⟨b10, 5, none⟩ (.int .i64 ix)) = wv at *
        refine hK.out _ _ ?_ (fun hHeld => ?_)
        · exact X.out.cells
        clear hK K'
        (try simp only [Act.put, List.setIfInBounds_toArray, List.set_cons_succ, List.set_cons_zero])
        refine wpAnyH_done (by kernel_rfl) ?_ _
        refine NoPanic.normal ?_
        have Q : Hid (S5 w wv g2 b9 b10 ⟨st, pg, pr, fl, fi, ix⟩ ⟨0, 0, 0, 0, 0, 0⟩ ⟨0, 0, 0, 0, 0, 0⟩ ⟨st, pg, pr, fl, fi, ix⟩ ⟨st, pg, pr, fl, fi, ix⟩) := hide ⟨K.out, HG.out, H9.out, H10.out, HN.out, X.out, Y.out, Z.out, U.out, T.out⟩
        clear K HG H9 H10 HN X Y Z U T HS
        try clear x0 x1 x2 x3 x4 x5
        try clear u0 u1 u2 u3 u4 u5
        try clear t0 t1 t2 t3 t4 t5
        try clear p0 p1 p2 p3 p4 p5
        try clear s0 s1 s2 s3 s4 s5
        obtain ⟨x0, x1, x2, x3, x4, x5⟩ := Q.out.X.cells
        obtain ⟨u0, u1, u2, u3, u4, u5⟩ := Q.out.U.cells
        obtain ⟨t0, t1, t2, t3, t4, t5⟩ := Q.out.T.cells
        obtain ⟨p0, p1, p2, p3, p4, p5⟩ := Q.out.U.free
        obtain ⟨s0, s1, s2, s3, s4, s5⟩ := Q.out.T.free
        go_upto_region 9 with fail
        replace Q := hide (Q.out.setU (RB.set1 Q.out.U (p - st)))
        generalize wv.setCell ⟨b9, 1, none⟩ (.int .i64 (p - st)) = v1 at *
        try clear x0 x1 x2 x3 x4 x5
        try clear u0 u1 u2 u3 u4 u5
        try clear t0 t1 t2 t3 t4 t5
        try clear p0 p1 p2 p3 p4 p5
        try clear s0 s1 s2 s3 s4 s5
        obtain ⟨x0, x1, x2, x3, x4, x5⟩ := Q.out.X.cells
        obtain ⟨u0, u1, u2, u3, u4, u5⟩ := Q.out.U.cells
        obtain ⟨t0, t1, t2, t3, t4, t5⟩ := Q.out.T.cells
        obtain ⟨p0, p1, p2, p3, p4, p5⟩ := Q.out.U.free
        obtain ⟨s0, s1, s2, s3, s4, s5⟩ := Q.out.T.free
        go_upto_region 10 with fail
        replace Q := hide (Q.out.setT (RB.set0 Q.out.T (p)))
        generalize v1.setCell ⟨b10, 0, none⟩ (.int .i64 (p)) = v2 at *
        try clear x0 x1 x2 x3 x4 x5
        try clear u0 u1 u2 u3 u4 u5
        try clear t0 t1 t2 t3 t4 t5
        try clear p0 p1 p2 p3 p4 p5
        try clear s0 s1 s2 s3 s4 s5
        obtain ⟨x0, x1, x2, x3, x4, x5⟩ := Q.out.X.cells
        obtain ⟨u0, u1, u2, u3, u4, u5⟩ := Q.out.U.cells
        obtain ⟨t0, t1, t2, t3, t4, t5⟩ := Q.out.T.cells
        obtain ⟨p0, p1, p2, p3, p4, p5⟩ := Q.out.U.free
        obtain ⟨s0, s1, s2, s3, s4, s5⟩ := Q.out.T.free
        go_upto_region 11 with fail
        replace Q := hide (Q.out.setT (RB.set1 Q.out.T (pg - (p - st))))
        generalize v2.setCell ⟨b10, 1, none⟩ (.int .i64 (pg - (p - st))) = v3 at *
        try clear x0 x1 x2 x3 x4 x5
        try clear u0 u1 u2 u3 u4 u5
        try clear t0 t1 t2 t3 t4 t5
        try clear p0 p1 p2 p3 p4 p5
        try clear s0 s1 s2 s3 s4 s5
        obtain ⟨x0, x1, x2, x3, x4, x5⟩ := Q.out.X.cells
        obtain ⟨u0, u1, u2, u3, u4, u5⟩ := Q.out.U.cells
        obtain ⟨t0, t1, t2, t3, t4, t5⟩ := Q.out.T.cells
        obtain ⟨p0, p1, p2, p3, p4, p5⟩ := Q.out.U.free
        obtain ⟨s0, s1, s2, s3, s4, s5⟩ := Q.out.T.free
        go_upto_region 13 with fail
        replace Q := hide (Q.out.setT (RB.set5 Q.out.T (ix + (p - st))))
        generalize v3.setCell ⟨b10, 5, none⟩ (.int .i64 (ix + (p - st))) = v4 at *
        try clear x0 x1 x2 x3 x4 x5
        try clear u0 u1 u2 u3 u4 u5
        try clear t0 t1 t2 t3 t4 t5
        try clear p0 p1 p2 p3 p4 p5
        try clear s0 s1 s2 s3 s4 s5
        obtain ⟨x0, x1, x2, x3, x4, x5⟩ := Q.out.X.cells
        obtain ⟨u0, u1, u2, u3, u4, u5⟩ := Q.out.U.cells
        obtain ⟨t0, t1, t2, t3, t4, t5⟩ := Q.out.T.cells
        obtain ⟨p0, p1, p2, p3, p4, p5⟩ := Q.out.U.free
        obtain ⟨s0, s1, s2, s3, s4, s5⟩ := Q.out.T.free
        go_wp2_with fail
        refine (F2.out _).mono ?_
        rintro e v5 ⟨rfl, hb⟩
        replace Q := hide (Q.out.below hb)
        clear hb
        try clear x0 x1 x2 x3 x4 x5
        try clear u0 u1 u2 u3 u4 u5
        try clear t0 t1 t2 t3 t4 t5
        try clear p0 p1 p2 p3 p4 p5
        try clear s0 s1 s2 s3 s4 s5
        obtain ⟨x0, x1, x2, x3, x4, x5⟩ := Q.out.X.cells
        obtain ⟨u0, u1, u2, u3, u4, u5⟩ := Q.out.U.cells
        obtain ⟨t0, t1, t2, t3, t4, t5⟩ := Q.out.T.cells
        obtain ⟨p0, p1, p2, p3, p4, p5⟩ := Q.out.U.free
        obtain ⟨s0, s1, s2, s3, s4, s5⟩ := Q.out.T.free
        go_upto_region 15 with fail
        try clear x0 x1 x2 x3 x4 x5
        try clear u0 u1 u2 u3 u4 u5
        try clear t0 t1 t2 t3 t4 t5
        try clear p0 p1 p2 p3 p4 p5
        try clear s0 s1 s2 s3 s4 s5
        replace Q := hide (Q.out.below (show Below v5.heap.size v5 v5.drew from below_drewN (brefl _) 1))
        have K := hide Q.out.k
        have HG := hide Q.out.hg
        have H9 := hide Q.out.h9
        have H10 := hide Q.out.h10
        have Y := hide Q.out.Y
        have Z := hide Q.out.Z
        have U := hide Q.out.U
        have T := hide Q.out.T
        clear Q
        refine wp_region_noPanic ?_
        refine wp_region_held_drew (S := (fun W => W.cell? ⟨b9, 0, none⟩ = some (.int .i64 st) ∧ W.cell? ⟨b9, 1, none⟩ = some (.int .i64 (p - st)) ∧ W.cell? ⟨b9, 2, none⟩ = some (.int .i64 pr) ∧ W.cell? ⟨b9, 3, none⟩ = some (.int .i64 fl) ∧ W.cell? ⟨b9, 4, none⟩ = some (.int .i64 fi) ∧ W.cell? ⟨b9, 5, none⟩ = some (.int .i64 ix) ∧ W.cell? ⟨b10, 0, none⟩ = some (.int .i64 p) ∧ W.cell? ⟨b10, 1, none⟩ = some (.int .i64 (pg - (p - st))) ∧ W.cell? ⟨b10, 2, none⟩ = some (.int .i64 pr) ∧ W.cell? ⟨b10, 3, none⟩ = some (.int .i64 fl) ∧ W.cell? ⟨b10, 4, none⟩ = some (.int .i64 fi) ∧ W.cell? ⟨b10, 5, none⟩ = some (.int .i64 (ix + (p - st))))) (by kernel_rfl) ?_ (fun hHeld => ?_)
        · (obtain ⟨u0, u1, u2, u3, u4, u5⟩ := RB.cells U.out; obtain ⟨t0, t1, t2, t3, t4, t5⟩ := RB.cells T.out; exact ⟨u0, u1, u2, u3, u4, u5, t0, t1, t2, t3, t4, t5⟩)
        generalize v5.drew = ww at *
        refine wpAnyH_take (i := 0) (oi := ⟨some 62, _, _, _, _, _⟩) (v := ?_) rfl (by kernel_rfl) (by kernel_rfl) (by kernel_rfl) (fun _ _ _ h => h) (Or.inl ⟨by kernel_rfl, ?_⟩) (by assumption) ?_
        rotate_left 1
        · (intro w hSw; (try dsimp only at hSw); go_simp) <;> (with_reducible rfl)
        (try simp only [Act.put, List.setIfInBounds_toArray, List.set_cons_succ, List.set_cons_zero])
        refine wpAnyH_take (i := 1) (oi := ⟨some 63, _, _, _, _, _⟩) (v := ?_) rfl (by kernel_rfl) (by kernel_rfl) (by kernel_rfl) (fun _ _ _ h => h) (Or.inl ⟨by kernel_rfl, ?_⟩) (by assumption) ?_
        rotate_left 1
        · (intro w hSw; (try dsimp only at hSw); go_simp) <;> (with_reducible rfl)
        (try simp only [Act.put, List.setIfInBounds_toArray, List.set_cons_succ, List.set_cons_zero])
        refine wpAnyH_ready (rs := [2]) (by kernel_rfl) (by simp) ?_
        refine AllReadyH.cons (o := ⟨none, _, _, _, _, _⟩) rfl (fun K' hK => ?_) AllReadyH.nil
        obtain ⟨c0, c1, c2, c3, c4, c5⟩ := RB.cells Y.out
        obtain ⟨q0, q1, q2, q3, q4, q5⟩ := RB.free Y.out
        go_simp
        have i9 := H9.out
        have i10 := H10.out
        have iG := HG.out
        replace K := hide (show Below w.heap.size w ((((((ww.setCell ⟨g2 + 1, 0, none⟩ (.int .i64 st)).setCell ⟨g2 + 1, 1, none⟩ (.int .i64 (p - st))).setCell ⟨g2 + 1, 2, none⟩ (.int .i64 pr)).setCell ⟨g2 + 1, 3, none⟩ (.int .i64 fl)).setCell ⟨g2 + 1, 4, none⟩ (.int .i64 fi)).setCell ⟨g2 + 1, 5, none⟩ (.int .i64 ix)) from bset6 K.out (by omega))
        replace Z := hide (show RB ((((((ww.setCell ⟨g2 + 1, 0, none⟩ (.int .i64 st)).setCell ⟨g2 + 1, 1, none⟩ (.int .i64 (p - st))).setCell ⟨g2 + 1, 2, none⟩ (.int .i64 pr)).setCell ⟨g2 + 1, 3, none⟩ (.int .i64 fl)).setCell ⟨g2 + 1, 4, none⟩ (.int .i64 fi)).setCell ⟨g2 + 1, 5, none⟩ (.int .i64 ix)) (g2 + 2) ⟨0, 0, 0, 0, 0, 0⟩ from RB.far6 Z.out (by omega))
        replace U := hide (show RB ((((((ww.setCell ⟨g2 + 1, 0, none⟩ (.int .i64 st)).setCell ⟨g2 + 1, 1, none⟩ (.int .i64 (p - st))).setCell ⟨g2 + 1, 2, none⟩ (.int .i64 pr)).setCell ⟨g2 + 1, 3, none⟩ (.int .i64 fl)).setCell ⟨g2 + 1, 4, none⟩ (.int .i64 fi)).setCell ⟨g2 + 1, 5, none⟩ (.int .i64 ix)) b9 ⟨st, p - st, pr, fl, fi, ix⟩ from RB.far6 U.out (by omega))
        replace T := hide (show RB ((((((ww.setCell ⟨g2 + 1, 0, none⟩ (.int .i64 st)).setCell ⟨g2 + 1, 1, none⟩ (.int .i64 (p - st))).setCell ⟨g2 + 1, 2, none⟩ (.int .i64 pr)).setCell ⟨g2 + 1, 3, none⟩ (.int .i64 fl)).setCell ⟨g2 + 1, 4, none⟩ (.int .i64 fi)).setCell ⟨g2 + 1, 5, none⟩ (.int .i64 ix)) b10 ⟨p, pg - (p - st), pr, fl, fi, ix + (p - st)⟩ from RB.far6 T.out (by omega))
        replace Y := hide (show RB ((((((ww.setCell ⟨g2 + 1, 0, none⟩ (.int .i64 st)).setCell ⟨g2 + 1, 1, none⟩ (.int .i64 (p - st))).setCell ⟨g2 + 1, 2, none⟩ (.int .i64 pr)).setCell ⟨g2 + 1, 3, none⟩ (.int .i64 fl)).setCell ⟨g2 + 1, 4, none⟩ (.int .i64 fi)).setCell ⟨g2 + 1, 5, none⟩ (.int .i64 ix)) (g2 + 1) ⟨st, p - st, pr, fl, fi, ix⟩ from RB.put6 Y.out)
        clear c0 c1 c2 c3 c4 c5 q0 q1 q2 q3 q4 q5 i9 i10 iG
        generalize ((((((ww.setCell ⟨g2 + 1, 0, none⟩ (.int .i64 st)).setCell ⟨g2 + 1, 1, none⟩ (.int .i64 (p - st))).setCell ⟨g2 + 1, 2, none⟩ (.int .i64 pr)).setCell ⟨g2 + 1, 3, none⟩ (.int .i64 fl)).setCell ⟨g2 + 1, 4, none⟩ (.int .i64 fi)).setCell ⟨g2 + 1, 5, none⟩ (.int .i64 ix)) = wy at *
        refine hK.out _ _ ?_ (fun hHeld => ?_)
        · (obtain ⟨u0, u1, u2, u3, u4, u5⟩ := RB.cells U.out; obtain ⟨t0, t1, t2, t3, t4, t5⟩ := RB.cells T.out; exact ⟨u0, u1, u2, u3, u4, u5, t0, t1, t2, t3, t4, t5⟩)
        clear hK K'
        (try simp only [Act.put, List.setIfInBounds_toArray, List.set_cons_succ, List.set_cons_zero])
        refine wpAnyH_ready (rs := [3]) (by kernel_rfl) (by simp) ?_
        refine AllReadyH.cons (o := ⟨none, _, _, _, _, _⟩) rfl (fun K' hK => ?_) AllReadyH.nil
        obtain ⟨c0, c1, c2, c3, c4, c5⟩ := RB.cells Z.out
        obtain ⟨q0, q1, q2, q3, q4, q5⟩ := RB.free Z.out
        go_simp
        have i9 := H9.out
        have i10 := H10.out
        have iG := HG.out
        replace K := hide (show Below w.heap.size w ((((((wy.setCell ⟨g2 + 2, 0, none⟩ (.int .i64 p)).setCell ⟨g2 + 2, 1, none⟩ (.int .i64 (pg - (p - st)))).setCell ⟨g2 + 2, 2, none⟩ (.int .i64 pr)).setCell ⟨g2 + 2, 3, none⟩ (.int .i64 fl)).setCell ⟨g2 + 2, 4, none⟩ (.int .i64 fi)).setCell ⟨g2 + 2, 5, none⟩ (.int .i64 (ix + (p - st)))) from bset6 K.out (by omega))
        replace Y := hide (show RB ((((((wy.setCell ⟨g2 + 2, 0, none⟩ (.int .i64 p)).setCell ⟨g2 + 2, 1, none⟩ (.int .i64 (pg - (p - st)))).setCell ⟨g2 + 2, 2, none⟩ (.int .i64 pr)).setCell ⟨g2 + 2, 3, none⟩ (.int .i64 fl)).setCell ⟨g2 + 2, 4, none⟩ (.int .i64 fi)).setCell ⟨g2 + 2, 5, none⟩ (.int .i64 (ix + (p - st)))) (g2 + 1) ⟨st, p - st, pr, fl, fi, ix⟩ from RB.far6 Y.out (by omega))
        replace U := hide (show RB ((((((wy.setCell ⟨g2 + 2, 0, none⟩ (.int .i64 p)).setCell ⟨g2 + 2, 1, none⟩ (.int .i64 (pg - (p - st)))).setCell ⟨g2 + 2, 2, none⟩ (.int .i64 pr)).setCell ⟨g2 + 2, 3, none⟩ (.int .i64 fl)).setCell ⟨g2 + 2, 4, none⟩ (.int .i64 fi)).setCell ⟨g2 + 2, 5, none⟩ (.int .i64 (ix + (p - st)))) b9 ⟨st, p - st, pr, fl, fi, ix⟩ from RB.far6 U.out (by omega))
        replace T := hide (show RB ((((((wy.setCell ⟨g2 + 2, 0, none⟩ (.int .i64 p)).setCell ⟨g2 + 2, 1, none⟩ (.int .i64 (pg - (p - st)))).setCell ⟨g2 + 2, 2, none⟩ (.int .i64 pr)).setCell ⟨g2 + 2, 3, none⟩ (.int .i64 fl)).setCell ⟨g2 + 2, 4, none⟩ (.int .i64 fi)).setCell ⟨g2 + 2, 5, none⟩ (.int .i64 (ix + (p - st)))) b10 ⟨p, pg - (p - st), pr, fl, fi, ix + (p - st)⟩ from RB.far6 T.out (by omega))
        replace Z := hide (show RB ((((((wy.setCell ⟨g2 + 2, 0, none⟩ (.int .i64 p)).setCell ⟨g2 + 2, 1, none⟩ (.int .i64 (pg - (p - st)))).setCell ⟨g2 + 2, 2, none⟩ (.int .i64 pr)).setCell ⟨g2 + 2, 3, none⟩ (.int .i64 fl)).setCell ⟨g2 + 2, 4, none⟩ (.int .i64 fi)).setCell ⟨g2 + 2, 5, none⟩ (.int .i64 (ix + (p - st)))) (g2 + 2) ⟨p, pg - (p - st), pr, fl, fi, ix + (p - st)⟩ from RB.put6 Z.out)
        clear c0 c1 c2 c3 c4 c5 q0 q1 q2 q3 q4 q5 i9 i10 iG
        generalize ((((((wy.setCell ⟨g2 + 2, 0, none⟩ (.int .i64 p)).setCell ⟨g2 + 2, 1, none⟩ (.int .i64 (pg - (p - st)))).setCell ⟨g2 + 2, 2, none⟩ (.int .i64 pr)).setCell ⟨g2 + 2, 3, none⟩ (.int .i64 fl)).setCell ⟨g2 + 2, 4, none⟩ (.int .i64 fi)).setCell ⟨g2 + 2, 5, none⟩ (.int .i64 (ix + (p - st)))) = wz at *
        refine hK.out _ _ ?_ (fun hHeld => ?_)
        · (obtain ⟨u0, u1, u2, u3, u4, u5⟩ := RB.cells U.out; obtain ⟨t0, t1, t2, t3, t4, t5⟩ := RB.cells T.out; exact ⟨u0, u1, u2, u3, u4, u5, t0, t1, t2, t3, t4, t5⟩)
        clear hK K'
        (try simp only [Act.put, List.setIfInBounds_toArray, List.set_cons_succ, List.set_cons_zero])
        refine wpAnyH_take (i := 4) (oi := ⟨some 6, _, _, _, _, _⟩) (v := ?_) rfl (by kernel_rfl) (by kernel_rfl) (by kernel_rfl) (fun _ _ _ h => h) (Or.inl ⟨by kernel_rfl, ?_⟩) (by assumption) ?_
        rotate_left 1
        · (intro w hSw; (try dsimp only at hSw); go_simp) <;> (with_reducible rfl)
        (try simp only [Act.put, List.setIfInBounds_toArray, List.set_cons_succ, List.set_cons_zero])
        refine wpAnyH_done (by kernel_rfl) ?_ _
        refine NoPanic.normal ?_
        go_wp2
        exact ret_r3 rfl rfl rfl rfl rfl Y.out Z.out E.out ⟨rfl, K.out⟩
      refine AllReadyH.cons (o := ⟨some 10, _, _, _, _, _⟩) rfl (fun K' hK => ?_) AllReadyH.nil
      go_simp
      have T := hide (RB.new w4 0 0 0 0 0 0)
      have M := bal (brefl w4) (.cells #[.int .i64 0, .int .i64 0, .int .i64 0, .int .i64 0, .int .i64 0, .int .i64 0] 58)
      have HC0 := HS.out
      replace K := hide (btrans K.out M)
      replace X := hide (X.out.below M)
      replace Y := hide (Y.out.below M)
      replace Z := hide (Z.out.below M)
      replace HS := hide (Nat.le_trans HS.out M.size)
      obtain ⟨b10, hcb⟩ : ∃ q, q = w4.heap.size := ⟨_, rfl⟩
      have H10 := hide (show g2 + 3 ≤ b10 by omega)
      rw [← hcb] at T ⊢
      clear hcb HC0 M
      generalize w4.alloc (.cells #[.int .i64 0, .int .i64 0, .int .i64 0, .int .i64 0, .int .i64 0, .int .i64 0] 58) = wb at *
      refine hK.out _ _ ?_ (fun hHeld => ?_)
      · exact X.out.cells
      clear hK K'
      (try simp only [Act.put, List.setIfInBounds_toArray, List.set_cons_succ, List.set_cons_zero])
      refine wpAnyH_ready (rs := [2]) (by kernel_rfl) (by simp) ?_
      refine AllReadyH.cons (o := ⟨some 9, _, _, _, _, _⟩) rfl (fun K' hK => ?_) AllReadyH.nil
      go_simp
      have U := hide (RB.new wb 0 0 0 0 0 0)
      have M := bal (brefl wb) (.cells #[.int .i64 0, .int .i64 0, .int .i64 0, .int .i64 0, .int .i64 0, .int .i64 0] 58)
      have HC0 := HS.out
      have LT := T.out.lt
      replace K := hide (btrans K.out M)
      replace X := hide (X.out.below M)
      replace Y := hide (Y.out.below M)
      replace Z := hide (Z.out.below M)
      replace T := hide (T.out.below M)
      replace HS := hide (Nat.le_trans HS.out M.size)
      obtain ⟨b9, hcb⟩ : ∃ q, q = wb.heap.size := ⟨_, rfl⟩
      have H9 := hide (show g2 + 3 ≤ b9 by omega)
      have HN := hide (show b9 ≠ b10 by omega)
      rw [← hcb] at U ⊢
      clear hcb HC0 M LT
      generalize wb.alloc (.cells #[.int .i64 0, .int .i64 0, .int .i64 0, .int .i64 0, .int .i64 0, .int .i64 0] 58) = wa at *
      refine hK.out _ _ ?_ (fun hHeld => ?_)
      · exact X.out.cells
      clear hK K'
      (try simp only [Act.put, List.setIfInBounds_toArray, List.set_cons_succ, List.set_cons_zero])
      refine wpAnyH_ready (rs := [4]) (by kernel_rfl) (by simp) ?_
      refine AllReadyH.cons (o := ⟨none, _, _, _, _, _⟩) rfl (fun K' hK => ?_) AllReadyH.nil
      obtain ⟨c0, c1, c2, c3, c4, c5⟩ := RB.cells U.out
      obtain ⟨q0, q1, q2, q3, q4, q5⟩ := RB.free U.out
      go_simp
      have i9 := H9.out
      have iN := HN.out
      have iG := HG.out
      replace K := hide (show Below w.heap.size w ((((((wa.setCell ⟨b9, 0, none⟩ (.int .i64 st)).setCell ⟨b9, 1, none⟩ (.int .i64 pg)).setCell ⟨b9, 2, none⟩ (.int .i64 pr)).setCell ⟨b9, 3, none⟩ (.int .i64 fl)).setCell ⟨b9, 4, none⟩ (.int .i64 fi)).setCell ⟨b9, 5, none⟩ (.int .i64 ix)) from bset6 K.out (by omega))
      replace X := hide (show RB ((((((wa.setCell ⟨b9, 0, none⟩ (.int .i64 st)).setCell ⟨b9, 1, none⟩ (.int .i64 pg)).setCell ⟨b9, 2, none⟩ (.int .i64 pr)).setCell ⟨b9, 3, none⟩ (.int .i64 fl)).setCell ⟨b9, 4, none⟩ (.int .i64 fi)).setCell ⟨b9, 5, none⟩ (.int .i64 ix)) g2 ⟨st, pg, pr, fl, fi, ix⟩ from RB.far6 X.out (by omega))
      replace Y := hide (show RB ((((((wa.setCell ⟨b9, 0, none⟩ (.int .i64 st)).setCell ⟨b9, 1, none⟩ (.int .i64 pg)).setCell ⟨b9, 2, none⟩ (.int .i64 pr)).setCell ⟨b9, 3, none⟩ (.int .i64 fl)).setCell ⟨b9, 4, none⟩ (.int .i64 fi)).setCell ⟨b9, 5, none⟩ (.int .i64 ix)) (g2 + 1) ⟨0, 0, 0, 0, 0, 0⟩ from RB.far6 Y.out (by omega))
      replace Z := hide (show RB ((((((wa.setCell ⟨b9, 0, none⟩ (.int .i64 st)).setCell ⟨b9, 1, none⟩ (.int .i64 pg)).setCell ⟨b9, 2, none⟩ (.int .i64 pr)).setCell ⟨b9, 3, none⟩ (.int .i64 fl)).setCell ⟨b9, 4, none⟩ (.int .i64 fi)).setCell ⟨b9, 5, none⟩ (.int .i64 ix)) (g2 + 2) ⟨0, 0, 0, 0, 0, 0⟩ from RB.far6 Z.out (by omega))
      replace T := hide (show RB ((((((wa.setCell ⟨b9, 0, none⟩ (.int .i64 st)).setCell ⟨b9, 1, none⟩ (.int .i64 pg)).setCell ⟨b9, 2, none⟩ (.int .i64 pr)).setCell ⟨b9, 3, none⟩ (.int .i64 fl)).setCell ⟨b9, 4, none⟩ (.int .i64 fi)).setCell ⟨b9, 5, none⟩ (.int .i64 ix)) b10 ⟨0, 0, 0, 0, 0, 0⟩ from RB.far6 T.out (by omega))
      replace U := hide (show RB ((((((wa.setCell ⟨b9, 0, none⟩ (.int .i64 st)).setCell ⟨b9, 1, none⟩ (.int .i64 pg)).setCell ⟨b9, 2, none⟩ (.int .i64 pr)).setCell ⟨b9, 3, none⟩ (.int .i64 fl)).setCell ⟨b9, 4, none⟩ (.int .i64 fi)).setCell ⟨b9, 5, none⟩ (.int .i64 ix)) b9 ⟨st, pg, pr, fl, fi, ix⟩ from RB.put6 U.out)
      clear c0 c1 c2 c3 c4 c5 q0 q1 q2 q3 q4 q5 i9 iN iG
      generalize ((((((wa.setCell ⟨b9, 0, none⟩ (.int .i64 st)).setCell ⟨b9, 1, none⟩ (.int .i64 pg)).setCell ⟨b9, 2, none⟩ (.int .i64 pr)).setCell ⟨b9, 3, none⟩ (.int .i64 fl)).setCell ⟨b9, 4, none⟩ (.int .i64 fi)).setCell ⟨b9, 5, none⟩ (.int .i64 ix)) = wu at *
      refine hK.out _ _ ?_ (fun hHeld => ?_)
      · exact X.out.cells
      clear hK K'
      (try simp only [Act.put, List.setIfInBounds_toArray, List.set_cons_succ, List.set_cons_zero])
      refine wpAnyH_ready (rs := [5]) (by kernel_rfl) (by simp) ?_
      refine AllReadyH.cons (o := ⟨none, _, _, _, _, _⟩) rfl (fun K' hK => ?_) AllReadyH.nil
      obtain ⟨c0, c1, c2, c3, c4, c5⟩ := RB.cells T.out
      obtain ⟨q0, q1, q2, q3, q4, q5⟩ := RB.free T.out
      go_simp
      have i9 := H10.out
      have iN := HN.out
      have iG := HG.out
      replace K := hide (show Below w.heap.size w ((((((wu.setCell ⟨b10, 0, none⟩ (.int .i64 st)).setCell ⟨b10, 1, none⟩ (.int .i64 pg)).setCell ⟨b10, 2, none⟩ (.int .i64 pr)).setCell ⟨b10, 3, none⟩ (.int .i64 fl)).setCell ⟨b10, 4, none⟩ (.int .i64 fi)).setCell ⟨b10, 5, none⟩ (.int .i64 ix)) from bset6 K.out (by omega))
      replace X := hide (show RB ((((((wu.setCell ⟨b10, 0, none⟩ (.int .i64 st)).setCell ⟨b10, 1, none⟩ (.int .i64 pg)).setCell ⟨b10, 2, none⟩ (.int .i64 pr)).setCell ⟨b10, 3, none⟩ (.int .i64 fl)).setCell ⟨b10, 4, none⟩ (.int .i64 fi)).setCell ⟨b10, 5, none⟩ (.int .i64 ix)) g2 ⟨st, pg, pr, fl, fi, ix⟩ from RB.far6 X.out (by omega))
      replace Y := hide (show RB ((((((wu.setCell ⟨b10, 0, none⟩ (.int .i64 st)).setCell ⟨b10, 1, none⟩ (.int .i64 pg)).setCell ⟨b10, 2, none⟩ (.int .i64 pr)).setCell ⟨b10, 3, none⟩ (.int .i64 fl)).setCell ⟨b10, 4, none⟩ (.int .i64 fi)).setCell ⟨b10, 5, none⟩ (.int .i64 ix)) (g2 + 1) ⟨0, 0, 0, 0, 0, 0⟩ from RB.far6 Y.out (by omega))
      replace Z := hide (show RB ((((((wu.setCell ⟨b10, 0, none⟩ (.int .i64 st)).setCell ⟨b10, 1, none⟩ (.int .i64 pg)).setCell ⟨b10, 2, none⟩ (.int .i64 pr)).setCell ⟨b10, 3, none⟩ (.int .i64 fl)).setCell ⟨b10, 4, none⟩ (.int .i64 fi)).setCell ⟨b10, 5, none⟩ (.int .i64 ix)) (g2 + 2) ⟨0, 0, 0, 0, 0, 0⟩ from RB.far6 Z.out (by omega))
      replace U := hide (show RB ((((((wu.setCell ⟨b10, 0, none⟩ (.int .i64 st)).setCell ⟨b10, 1, none⟩ (.int .i64 pg)).setCell ⟨b10, 2, none⟩ (.int .i64 pr)).setCell ⟨b10, 3, none⟩ (.int .i64 fl)).setCell ⟨b10, 4, none⟩ (.int .i64 fi)).setCell ⟨b10, 5, none⟩ (.int .i64 ix)) b9 ⟨st, pg, pr, fl, fi, ix⟩ from RB.far6 U.out (by omega))
      replace T := hide (show RB ((((((wu.setCell ⟨b10, 0, none⟩ (.int .i64 st)).setCell ⟨b10, 1, none⟩ (.int .i64 pg)).setCell ⟨b10, 2, none⟩ (.int .i64 pr)).setCell ⟨b10, 3, none⟩ (.int .i64 fl)).setCell ⟨b10, 4, none⟩ (.int .i64 fi)).setCell ⟨b10, 5, none⟩ (.int .i64 ix)) b10 ⟨st, pg, pr, fl, fi, ix⟩ from RB.put6 T.out)
      clear c0 c1 c2 c3 c4 c5 q0 q1 q2 q3 q4 q5 i9 iN iG
      generalize ((((((wu.setCell ⟨b10, 0, none⟩ (.int .i64 st)).setCell ⟨b10, 1, none⟩ (.int .i64 pg)).setCell ⟨b10, 2, none⟩ (.int .i64 pr)).setCell ⟨b10, 3, none⟩ (.int .i64 fl)).setCell ⟨b10, 4, none⟩ (.int .i64 fi)).setCell ⟨b10, 5, none⟩ (.int .i64 ix)) = wv at *
      refine hK.out _ _ ?_ (fun hHeld => ?_)
      · exact X.out.cells
      clear hK K'
      (try simp only [Act.put, List.setIfInBounds_toArray, List.set_cons_succ, List.set_cons_zero])
      refine wpAnyH_done (by kernel_rfl) ?_ _
      refine NoPanic.normal ?_
      have Q : Hid (S5 w wv g2 b9 b10 ⟨st, pg, pr, fl, fi, ix⟩ ⟨0, 0, 0, 0, 0, 0⟩ ⟨0, 0, 0, 0, 0, 0⟩ ⟨st, pg, pr, fl, fi, ix⟩ ⟨st, pg, pr, fl, fi, ix⟩) := hide ⟨K.out, HG.out, H9.out, H10.out, HN.out, X.out, Y.out, Z.out, U.out, T.out⟩
      clear K HG H9 H10 HN X Y Z U T HS
      try clear x0 x1 x2 x3 x4 x5
      try clear u0 u1 u2 u3 u4 u5
      try clear t0 t1 t2 t3 t4 t5
      try clear p0 p1 p2 p3 p4 p5
      try clear s0 s1 s2 s3 s4 s5
      obtain ⟨x0, x1, x2, x3, x4, x5⟩ := Q.out.X.cells
      obtain ⟨u0, u1, u2, u3, u4, u5⟩ := Q.out.U.cells
      obtain ⟨t0, t1, t2, t3, t4, t5⟩ := Q.out.T.cells
      obtain ⟨p0, p1, p2, p3, p4, p5⟩ := Q.out.U.free
      obtain ⟨s0, s1, s2, s3, s4, s5⟩ := Q.out.T.free
      go_upto_region 9 with fail
      replace Q := hide (Q.out.setU (RB.set1 Q.out.U (p - st)))
      generalize wv.setCell ⟨b9, 1, none⟩ (.int .i64 (p - st)) = v1 at *
      try clear x0 x1 x2 x3 x4 x5
      try clear u0 u1 u2 u3 u4 u5
      try clear t0 t1 t2 t3 t4 t5
      try clear p0 p1 p2 p3 p4 p5
      try clear s0 s1 s2 s3 s4 s5
      obtain ⟨x0, x1, x2, x3, x4, x5⟩ := Q.out.X.cells
      obtain ⟨u0, u1, u2, u3, u4, u5⟩ := Q.out.U.cells
      obtain ⟨t0, t1, t2, t3, t4, t5⟩ := Q.out.T.cells
      obtain ⟨p0, p1, p2, p3, p4, p5⟩ := Q.out.U.free
      obtain ⟨s0, s1, s2, s3, s4, s5⟩ := Q.out.T.free
      go_upto_region 10 with fail
      replace Q := hide (Q.out.setT (RB.set0 Q.out.T (p)))
      generalize v1.setCell ⟨b10, 0, none⟩ (.int .i64 (p)) = v2 at *
      try clear x0 x1 x2 x3 x4 x5
      try clear u0 u1 u2 u3 u4 u5
      try clear t0 t1 t2 t3 t4 t5
      try clear p0 p1 p2 p3 p4 p5
      try clear s0 s1 s2 s3 s4 s5
      obtain ⟨x0, x1, x2, x3, x4, x5⟩ := Q.out.X.cells
      obtain ⟨u0, u1, u2, u3, u4, u5⟩ := Q.out.U.cells
      obtain ⟨t0, t1, t2, t3, t4, t5⟩ := Q.out.T.cells
      obtain ⟨p0, p1, p2, p3, p4, p5⟩ := Q.out.U.free
      obtain ⟨s0, s1, s2, s3, s4, s5⟩ := Q.out.T.free
      go_upto_region 11 with fail
      replace Q := hide (Q.out.setT (RB.set1 Q.out.T (pg - (p - st))))
      generalize v2.setCell ⟨b10, 1, none⟩ (.int .i64 (pg - (p - st))) = v3 at *
      try clear x0 x1 x2 x3 x4 x5
      try clear u0 u1 u2 u3 u4 u5
      try clear t0 t1 t2 t3 t4 t5
      try clear p0 p1 p2 p3 p4 p5
      try clear s0 s1 s2 s3 s4 s5
      obtain ⟨x0, x1, x2, x3, x4, x5⟩ := Q.out.X.cells
      obtain ⟨u0, u1, u2, u3, u4, u5⟩ := Q.out.U.cells
      obtain ⟨t0, t1, t2, t3, t4, t5⟩ := Q.out.T.cells
      obtain ⟨p0, p1, p2, p3, p4, p5⟩ := Q.out.U.free
      obtain ⟨s0, s1, s2, s3, s4, s5⟩ := Q.out.T.free
      go_upto_region 13 with fail
      replace Q := hide (Q.out.setT (RB.set5 Q.out.T (ix + (p - st))))
      generalize v3.setCell ⟨b10, 5, none⟩ (.int .i64 (ix + (p - st))) = v4 at *
      try clear x0 x1 x2 x3 x4 x5
      try clear u0 u1 u2 u3 u4 u5
      try clear t0 t1 t2 t3 t4 t5
      try clear p0 p1 p2 p3 p4 p5
      try clear s0 s1 s2 s3 s4 s5
      obtain ⟨x0, x1, x2, x3, x4, x5⟩ := Q.out.X.cells
      obtain ⟨u0, u1, u2, u3, u4, u5⟩ := Q.out.U.cells
      obtain ⟨t0, t1, t2, t3, t4, t5⟩ := Q.out.T.cells
      obtain ⟨p0, p1, p2, p3, p4, p5⟩ := Q.out.U.free
      obtain ⟨s0, s1, s2, s3, s4, s5⟩ := Q.out.T.free
      go_wp2_with fail
      refine (F2.out _).mono ?_
      rintro e v5 ⟨rfl, hb⟩
      replace Q := hide (Q.out.below hb)
      clear hb
      try clear x0 x1 x2 x3 x4 x5
      try clear u0 u1 u2 u3 u4 u5
      try clear t0 t1 t2 t3 t4 t5
      try clear p0 p1 p2 p3 p4 p5
      try clear s0 s1 s2 s3 s4 s5
      obtain ⟨x0, x1, x2, x3, x4, x5⟩ := Q.out.X.cells
      obtain ⟨u0, u1, u2, u3, u4, u5⟩ := Q.out.U.cells
      obtain ⟨t0, t1, t2, t3, t4, t5⟩ := Q.out.T.cells
      obtain ⟨p0, p1, p2, p3, p4, p5⟩ := Q.out.U.free
      obtain ⟨s0, s1, s2, s3, s4, s5⟩ := Q.out.T.free
      go_upto_region 15 with fail
      try clear x0 x1 x2 x3 x4 x5
      try clear u0 u1 u2 u3 u4 u5
      try clear t0 t1 t2 t3 t4 t5
      try clear p0 p1 p2 p3 p4 p5
      try clear s0 s1 s2 s3 s4 s5
      replace Q := hide (Q.out.below (show Below v5.heap.size v5 v5.drew from below_drewN (brefl _) 1))
      have K := hide Q.out.k
      have HG := hide Q.out.hg
      have H9 := hide Q.out.h9
      have H10 := hide Q.out.h10
      have Y := hide Q.out.Y
      have Z := hide Q.out.Z
      have U := hide Q.out.U
      have T := hide Q.out.T
      clear Q
      refine wp_region_noPanic ?_
      refine wp_region_held_drew (S := (fun W => W.cell? ⟨b9, 0, none⟩ = some (.int .i64 st) ∧ W.cell? ⟨b9, 1, none⟩ = some (.int .i64 (p - st)) ∧ W.cell? ⟨b9, 2, none⟩ = some (.int .i64 pr) ∧ W.cell? ⟨b9, 3, none⟩ = some (.int .i64 fl) ∧ W.cell? ⟨b9, 4, none⟩ = some (.int .i64 fi) ∧ W.cell? ⟨b9, 5, none⟩ = some (.int .i64 ix) ∧ W.cell? ⟨b10, 0, none⟩ = some (.int .i64 p) ∧ W.cell? ⟨b10, 1, none⟩ = some (.int .i64 (pg - (p - st))) ∧ W.cell? ⟨b10, 2, none⟩ = some (.int .i64 pr) ∧ W.cell? ⟨b10, 3, none⟩ = some (.int .i64 fl) ∧ W.cell? ⟨b10, 4, none⟩ = some (.int .i64 fi) ∧ W.cell? ⟨b10, 5, none⟩ = some (.int .i64 (ix + (p - st))))) (by kernel_rfl) ?_ (fun hHeld => ?_)
      · (obtain ⟨u0, u1, u2, u3, u4, u5⟩ := RB.cells U.out; obtain ⟨t0, t1, t2, t3, t4, t5⟩ := RB.cells T.out; exact ⟨u0, u1, u2, u3, u4, u5, t0, t1, t2, t3, t4, t5⟩)
      generalize v5.drew = ww at *
      refine wpAnyH_take (i := 0) (oi := ⟨some 62, _, _, _, _, _⟩) (v := ?_) rfl (by kernel_rfl) (by kernel_rfl) (by kernel_rfl) (fun _ _ _ h => h) (Or.inl ⟨by kernel_rfl, ?_⟩) (by assumption) ?_
      rotate_left 1
      · (intro w hSw; (try dsimp only at hSw); go_simp) <;> (with_reducible rfl)
      (try simp only [Act.put, List.setIfInBounds_toArray, List.set_cons_succ, List.set_cons_zero])
      refine wpAnyH_take (i := 1) (oi := ⟨some 63, _, _, _, _, _⟩) (v := ?_) rfl (by kernel_rfl) (by kernel_rfl) (by kernel_rfl) (fun _ _ _ h => h) (Or.inl ⟨by kernel_rfl, ?_⟩) (by assumption) ?_
      rotate_left 1
      · (intro w hSw; (try dsimp only at hSw); go_simp) <;> (with_reducible rfl)
      (try simp only [Act.put, List.setIfInBounds_toArray, List.set_cons_succ, List.set_cons_zero])
      refine wpAnyH_ready (rs := [2]) (by kernel_rfl) (by simp) ?_
      refine AllReadyH.cons (o := ⟨none, _, _, _, _, _⟩) rfl (fun K' hK => ?_) AllReadyH.nil
      obtain ⟨c0, c1, c2, c3, c4, c5⟩ := RB.cells Y.out
      obtain ⟨q0, q1, q2, q3, q4, q5⟩ := RB.free Y.out
      go_simp
      have i9 := H9.out
      have i10 := H10.out
      have iG := HG.out
      replace K := hide (show Below w.heap.size w ((((((ww.setCell ⟨g2 + 1, 0, none⟩ (.int .i64 st)).setCell ⟨g2 + 1, 1, none⟩ (.int .i64 (p - st))).setCell ⟨g2 + 1, 2, none⟩ (.int .i64 pr)).setCell ⟨g2 + 1, 3, none⟩ (.int .i64 fl)).setCell ⟨g2 + 1, 4, none⟩ (.int .i64 fi)).setCell ⟨g2 + 1, 5, none⟩ (.int .i64 ix)) from bset6 K.out (by omega))
      replace Z := hide (show RB ((((((ww.setCell ⟨g2 + 1, 0, none⟩ (.int .i64 st)).setCell ⟨g2 + 1, 1, none⟩ (.int .i64 (p - st))).setCell ⟨g2 + 1, 2, none⟩ (.int .i64 pr)).setCell ⟨g2 + 1, 3, none⟩ (.int .i64 fl)).setCell ⟨g2 + 1, 4, none⟩ (.int .i64 fi)).setCell ⟨g2 + 1, 5, none⟩ (.int .i64 ix)) (g2 + 2) ⟨0, 0, 0, 0, 0, 0⟩ from RB.far6 Z.out (by omega))
      replace U := hide (show RB ((((((ww.setCell ⟨g2 + 1, 0, none⟩ (.int .i64 st)).setCell ⟨g2 + 1, 1, none⟩ (.int .i64 (p - st))).setCell ⟨g2 + 1, 2, none⟩ (.int .i64 pr)).setCell ⟨g2 + 1, 3, none⟩ (.int .i64 fl)).setCell ⟨g2 + 1, 4, none⟩ (.int .i64 fi)).setCell ⟨g2 + 1, 5, none⟩ (.int .i64 ix)) b9 ⟨st, p - st, pr, fl, fi, ix⟩ from RB.far6 U.out (by omega))
      replace T := hide (show RB ((((((ww.setCell ⟨g2 + 1, 0, none⟩ (.int .i64 st)).setCell ⟨g2 + 1, 1, none⟩ (.int .i64 (p - st))).setCell ⟨g2 + 1, 2, none⟩ (.int .i64 pr)).setCell ⟨g2 + 1, 3, none⟩ (.int .i64 fl)).setCell ⟨g2 + 1, 4, none⟩ (.int .i64 fi)).setCell ⟨g2 + 1, 5, none⟩ (.int .i64 ix)) b10 ⟨p, pg - (p - st), pr, fl, fi, ix + (p - st)⟩ from RB.far6 T.out (by omega))
      replace Y := hide (show RB ((((((ww.setCell ⟨g2 + 1, 0, none⟩ (.int .i64 st)).setCell ⟨g2 + 1, 1, none⟩ (.int .i64 (p - st))).setCell ⟨g2 + 1, 2, none⟩ (.int .i64 pr)).setCell ⟨g2 + 1, 3, none⟩ (.int .i64 fl)).setCell ⟨g2 + 1, 4, none⟩ (.int .i64 fi)).setCell ⟨g2 + 1, 5, none⟩ (.int .i64 ix)) (g2 + 1) ⟨st, p - st, pr, fl, fi, ix⟩ from RB.put6 Y.out)
      clear c0 c1 c2 c3 c4 c5 q0 q1 q2 q3 q4 q5 i9 i10 iG
      generalize ((((((ww.setCell ⟨g2 + 1, 0, none⟩ (.int .i64 st)).setCell ⟨g2 + 1, 1, none⟩ (.int .i64 (p - st))).setCell ⟨g2 + 1, 2, none⟩ (.int .i64 pr)).setCell ⟨g2 + 1, 3, none⟩ (.int .i64 fl)).setCell ⟨g2 + 1, 4, none⟩ (.int .i64 fi)).setCell ⟨g2 + 1, 5, none⟩ (.int .i64 ix)) = wy at *
      refine hK.out _ _ ?_ (fun hHeld => ?_)
      · (obtain ⟨u0, u1, u2, u3, u4, u5⟩ := RB.cells U.out; obtain ⟨t0, t1, t2, t3, t4, t5⟩ := RB.cells T.out; exact ⟨u0, u1, u2, u3, u4, u5, t0, t1, t2, t3, t4, t5⟩)
      clear hK K'
      (try simp only [Act.put, List.setIfInBounds_toArray, List.set_cons_succ, List.set_cons_zero])
      refine wpAnyH_ready (rs := [3]) (by kernel_rfl) (by simp) ?_
      refine AllReadyH.cons (o := ⟨none, _, _, _, _, _⟩) rfl (fun K' hK => ?_) AllReadyH.nil
      obtain ⟨c0, c1, c2, c3, c4, c5⟩ := RB.cells Z.out
      obtain ⟨q0, q1, q2, q3, q4, q5⟩ := RB.free Z.out
      go_simp
      have i9 := H9.out
      have i10 := H10.out
      have iG := HG.out
      replace K := hide (show Below w.heap.size w ((((((wy.setCell ⟨g2 + 2, 0, none⟩ (.int .i64 p)).setCell ⟨g2 + 2, 1, none⟩ (.int .i64 (pg - (p - st)))).setCell ⟨g2 + 2, 2, none⟩ (.int .i64 pr)).setCell ⟨g2 + 2, 3, none⟩ (.int .i64 fl)).setCell ⟨g2 + 2, 4, none⟩ (.int .i64 fi)).setCell ⟨g2 + 2, 5, none⟩ (.int .i64 (ix + (p - st)))) from bset6 K.out (by omega))
      replace Y := hide (show RB ((((((wy.setCell ⟨g2 + 2, 0, none⟩ (.int .i64 p)).setCell ⟨g2 + 2, 1, none⟩ (.int .i64 (pg - (p - st)))).setCell ⟨g2 + 2, 2, none⟩ (.int .i64 pr)).setCell ⟨g2 + 2, 3, none⟩ (.int .i64 fl)).setCell ⟨g2 + 2, 4, none⟩ (.int .i64 fi)).setCell ⟨g2 + 2, 5, none⟩ (.int .i64 (ix + (p - st)))) (g2 + 1) ⟨st, p - st, pr, fl, fi, ix⟩ from RB.far6 Y.out (by omega))
      replace U := hide (show RB ((((((wy.setCell ⟨g2 + 2, 0, none⟩ (.int .i64 p)).setCell ⟨g2 + 2, 1, none⟩ (.int .i64 (pg - (p - st)))).setCell ⟨g2 + 2, 2, none⟩ (.int .i64 pr)).setCell ⟨g2 + 2, 3, none⟩ (.int .i64 fl)).setCell ⟨g2 + 2, 4, none⟩ (.int .i64 fi)).setCell ⟨g2 + 2, 5, none⟩ (.int .i64 (ix + (p - st)))) b9 ⟨st, p - st, pr, fl, fi, ix⟩ from RB.far6 U.out (by omega))
      replace T := hide (show RB ((((((wy.setCell ⟨g2 + 2, 0, none⟩ (.int .i64 p)).setCell ⟨g2 + 2, 1, none⟩ (.int .i64 (pg - (p - st)))).setCell ⟨g2 + 2, 2, none⟩ (.int .i64 pr)).setCell ⟨g2 + 2, 3, none⟩ (.int .i64 fl)).setCell ⟨g2 + 2, 4, none⟩ (.int .i64 fi)).setCell ⟨g2 + 2, 5, none⟩ (.int .i64 (ix + (p - st)))) b10 ⟨p, pg - (p - st), pr, fl, fi, ix + (p - st)⟩ from RB.far6 T.out (by omega))
      replace Z := hide (show RB ((((((wy.setCell ⟨g2 + 2, 0, none⟩ (.int .i64 p)).setCell ⟨g2 + 2, 1, none⟩ (.int .i64 (pg - (p - st)))).setCell ⟨g2 + 2, 2, none⟩ (.int .i64 pr)).setCell ⟨g2 + 2, 3, none⟩ (.int .i64 fl)).setCell ⟨g2 + 2, 4, none⟩ (.int .i64 fi)).setCell ⟨g2 + 2, 5, none⟩ (.int .i64 (ix + (p - st)))) (g2 + 2) ⟨p, pg - (p - st), pr, fl, fi, ix + (p - st)⟩ from RB.put6 Z.out)
      clear c0 c1 c2 c3 c4 c5 q0 q1 q2 q3 q4 q5 i9 i10 iG
      generalize ((((((wy.setCell ⟨g2 + 2, 0, none⟩ (.int .i64 p)).setCell ⟨g2 + 2, 1, none⟩ (.int .i64 (pg - (p - st)))).setCell ⟨g2 + 2, 2, none⟩ (.int .i64 pr)).setCell ⟨g2 + 2, 3, none⟩ (.int .i64 fl)).setCell ⟨g2 + 2, 4, none⟩ (.int .i64 fi)).setCell ⟨g2 + 2, 5, none⟩ (.int .i64 (ix + (p - st)))) = wz at *
      refine hK.out _ _ ?_ (fun hHeld => ?_)
      · (obtain ⟨u0, u1, u2, u3, u4, u5⟩ := RB.cells U.out; obtain ⟨t0, t1, t2, t3, t4, t5⟩ := RB.cells T.out; exact ⟨u0, u1, u2, u3, u4, u5, t0, t1, t2, t3, t4, t5⟩)
      clear hK K'
      (try simp only [Act.put, List.setIfInBounds_toArray, List.set_cons_succ, List.set_cons_zero])
      refine wpAnyH_take (i := 4) (oi := ⟨some 6, _, _, _, _, _⟩) (v := ?_) rfl (by kernel_rfl) (by kernel_rfl) (by kernel_rfl) (fun _ _ _ h => h) (Or.inl ⟨by kernel_rfl, ?_⟩) (by assumption) ?_
      rotate_left 1
      · (intro w hSw; (try dsimp only at hSw); go_simp) <;> (with_reducible rfl)
      (try simp only [Act.put, List.setIfInBounds_toArray, List.set_cons_succ, List.set_cons_zero])
      refine wpAnyH_done (by kernel_rfl) ?_ _
      refine NoPanic.normal ?_
      go_wp2
      exact ret_r3 rfl rfl rfl rfl rfl Y.out Z.out E.out ⟨rfl, K.out⟩
end Go.Proofs.Ytimclgmajhhheaa.Rg
