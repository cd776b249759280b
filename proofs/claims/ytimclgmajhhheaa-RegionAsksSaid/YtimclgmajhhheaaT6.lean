import Derived.Test.YtimclgmajhhheaaT5
namespace Go.Proofs.Ytimclgmajhhheaa.Rg
open Go Go.RowKit Ac
set_option linter.unusedVariables false
set_option linter.unusedSimpArgs false
theorem ret_r2 {fn : Func} {a : Act} {W : World} {g : Nat} {e e' : Int} {r r' : R6} {Q : Ending → World → Prop} (hr : fn.results = #[.cell 4 58, .tmp 5]) (h4 : a.tmps.getD 4 undef = .pointer (some ⟨g, 0, none⟩)) (h5 : a.tmps.getD 5 undef = .int .i64 e) (hd : a.defers = [])
    (hE : RB W g r) (he : r = r' ∧ e = e') (hq : Q (.returned (.tuple #[rV r', .int .i64 e'])) W) : bodyPost Try.prog fn Q .ret a W := by
  obtain ⟨rfl, rfl⟩ := he
  obtain ⟨st, pg, pr, fl, fi, ix⟩ := r
  obtain ⟨x0, x1, x2, x3, x4, x5⟩ := hE.cells
  simp only [Array.getD_eq_getD_getElem?] at h4 h5
  exact bodyPost_ret (v := .tuple #[rV ⟨st, pg, pr, fl, fi, ix⟩, .int .i64 e]) (by simp [results, hr, h4, h5, go_sem, x0, x1, x2, x3, x4, x5, rV]) hd hq
theorem mgE_a {a b : R6} (h : ckE a ≠ 0) : r0 = mgR a b ∧ ckE a = mgE a b := by
  have e : mgE a b = ckE a := if_neg h
  exact ⟨by unfold mgR; rw [e, if_neg h], e.symm⟩
theorem mgE_b {a b : R6} (h : ckE a = 0) (h2 : ckE b ≠ 0) : r0 = mgR a b ∧ ckE b = mgE a b := by
  have e : mgE a b = ckE b := by unfold mgE; rw [if_pos h, if_neg h2]
  exact ⟨by unfold mgR; rw [e, if_neg h2], e.symm⟩
theorem mgE_s {a b : R6} (h : ckE a = 0) (h2 : ckE b = 0) (h3 : mgB a b = false) : r0 = mgR a b ∧ 11 = mgE a b := by
  have e : mgE a b = 11 := by unfold mgE; rw [if_pos h, if_pos h2, h3]; rfl
  exact ⟨by unfold mgR; rw [e]; rfl, e.symm⟩
theorem mgE_0 {a b : R6} (h : ckE a = 0) (h2 : ckE b = 0) (h3 : mgB a b = true) : (⟨a.st, a.pg + b.pg, a.pr, a.fl, a.fi, a.ix⟩ : R6) = mgR a b ∧ 0 = mgE a b := by
  have e : mgE a b = 0 := by unfold mgE; rw [if_pos h, if_pos h2, if_pos h3]
  exact ⟨by unfold mgR; rw [e]; rfl, e.symm⟩
theorem ne_bool {z : Int} (h : z ≠ 0) : (z != 0) = true := bne_iff_ne.2 h
/-- what a function answers that gives a region and an error -/
def A2 (r : R6) (e : Int) (w : World) (en : Ending) (w' : World) : Prop := en = .returned (.tuple #[rV r, .int .i64 e]) ∧ Below w.heap.size w w'
theorem bal3 (w : World) (o1 o2 o3 : Obj) : Below w.heap.size w (((w.alloc o1).alloc o2).alloc o3) := bal (bal2 w o1 o2) o3
set_option maxRecDepth 100000 in
set_option maxHeartbeats 4000000 in
theorem merge_any (st pg pr fl fi ix st2 pg2 pr2 fl2 fi2 ix2 : Int) (w : World) (hp : pg ≤ 9223372036854775807) (hp2 : pg2 ≤ 9223372036854775807) : Calls Try.prog 51 #[.agg #[.int .i64 st, .int .i64 pg, .int .i64 pr, .int .i64 fl, .int .i64 fi, .int .i64 ix], .agg #[.int .i64 st2, .int .i64 pg2, .int .i64 pr2, .int .i64 fl2, .int .i64 fi2, .int .i64 ix2]] w (A2 (mgR ⟨st, pg, pr, fl, fi, ix⟩ ⟨st2, pg2, pr2, fl2, fi2, ix2⟩) (mgE ⟨st, pg, pr, fl, fi, ix⟩ ⟨st2, pg2, pr2, fl2, fi2, ix2⟩) w) := by
  unfold A2
  have X := hide (show RB (((w.alloc (.cells #[.int .i64 st, .int .i64 pg, .int .i64 pr, .int .i64 fl, .int .i64 fi, .int .i64 ix] 58)).alloc (.cells #[.int .i64 st2, .int .i64 pg2, .int .i64 pr2, .int .i64 fl2, .int .i64 fi2, .int .i64 ix2] 58)).alloc (.cells #[.int .i64 0, .int .i64 0, .int .i64 0, .int .i64 0, .int .i64 0, .int .i64 0] 58)) w.heap.size ⟨st, pg, pr, fl, fi, ix⟩ from Box.more (Box.more (Box.new w 58 #[.int .i64 st, .int .i64 pg, .int .i64 pr, .int .i64 fl, .int .i64 fi, .int .i64 ix]) (.cells #[.int .i64 st2, .int .i64 pg2, .int .i64 pr2, .int .i64 fl2, .int .i64 fi2, .int .i64 ix2] 58)) (.cells #[.int .i64 0, .int .i64 0, .int .i64 0, .int .i64 0, .int .i64 0, .int .i64 0] 58))
  have Y := hide (show RB (((w.alloc (.cells #[.int .i64 st, .int .i64 pg, .int .i64 pr, .int .i64 fl, .int .i64 fi, .int .i64 ix] 58)).alloc (.cells #[.int .i64 st2, .int .i64 pg2, .int .i64 pr2, .int .i64 fl2, .int .i64 fi2, .int .i64 ix2] 58)).alloc (.cells #[.int .i64 0, .int .i64 0, .int .i64 0, .int .i64 0, .int .i64 0, .int .i64 0] 58)) (w.heap.size + 1) ⟨st2, pg2, pr2, fl2, fi2, ix2⟩ from Box.more (Box.new2 w (.cells #[.int .i64 st, .int .i64 pg, .int .i64 pr, .int .i64 fl, .int .i64 fi, .int .i64 ix] 58) 58 #[.int .i64 st2, .int .i64 pg2, .int .i64 pr2, .int .i64 fl2, .int .i64 fi2, .int .i64 ix2]) (.cells #[.int .i64 0, .int .i64 0, .int .i64 0, .int .i64 0, .int .i64 0, .int .i64 0] 58))
  have Z := hide (show RB (((w.alloc (.cells #[.int .i64 st, .int .i64 pg, .int .i64 pr, .int .i64 fl, .int .i64 fi, .int .i64 ix] 58)).alloc (.cells #[.int .i64 st2, .int .i64 pg2, .int .i64 pr2, .int .i64 fl2, .int .i64 fi2, .int .i64 ix2] 58)).alloc (.cells #[.int .i64 0, .int .i64 0, .int .i64 0, .int .i64 0, .int .i64 0, .int .i64 0] 58)) (w.heap.size + 2) ⟨0, 0, 0, 0, 0, 0⟩ from Box.new3 w (.cells #[.int .i64 st, .int .i64 pg, .int .i64 pr, .int .i64 fl, .int .i64 fi, .int .i64 ix] 58) (.cells #[.int .i64 st2, .int .i64 pg2, .int .i64 pr2, .int .i64 fl2, .int .i64 fi2, .int .i64 ix2] 58) 58 #[.int .i64 0, .int .i64 0, .int .i64 0, .int .i64 0, .int .i64 0, .int .i64 0])
  have K := hide (show Below w.heap.size w (((w.alloc (.cells #[.int .i64 st, .int .i64 pg, .int .i64 pr, .int .i64 fl, .int .i64 fi, .int .i64 ix] 58)).alloc (.cells #[.int .i64 st2, .int .i64 pg2, .int .i64 pr2, .int .i64 fl2, .int .i64 fi2, .int .i64 ix2] 58)).alloc (.cells #[.int .i64 0, .int .i64 0, .int .i64 0, .int .i64 0, .int .i64 0, .int .i64 0] 58)) from bal3 w _ _ _)
  obtain ⟨W0, hW0⟩ : ∃ W0, W0 = ((w.alloc (.cells #[.int .i64 st, .int .i64 pg, .int .i64 pr, .int .i64 fl, .int .i64 fi, .int .i64 ix] 58)).alloc (.cells #[.int .i64 st2, .int .i64 pg2, .int .i64 pr2, .int .i64 fl2, .int .i64 fi2, .int .i64 ix2] 58)).alloc (.cells #[.int .i64 0, .int .i64 0, .int .i64 0, .int .i64 0, .int .i64 0, .int .i64 0] 58) := ⟨_, rfl⟩
  rw [← hW0] at X Y Z K
  obtain ⟨g2, hg2⟩ : ∃ g2, g2 = w.heap.size := ⟨_, rfl⟩
  have HG := hide (show w.heap.size ≤ g2 by omega)
  rw [← hg2] at X Y Z
  have HW := hide hW0
  have HB := hide hg2
  clear hW0 hg2
  have Ca := hide (fun w => check_any st pg pr fl fi ix w hp)
  have Cb := hide (fun w => check_any st2 pg2 pr2 fl2 fi2 ix2 w hp2)
  have Mg := hide (fun w => mgb_any st pg pr fl fi ix st2 pg2 pr2 fl2 fi2 ix2 w hp hp2)
  by_cases ha : ckE ⟨st, pg, pr, fl, fi, ix⟩ = 0
  rotate_left 1
  · have E := hide (mgE_a (b := ⟨st2, pg2, pr2, fl2, fi2, ix2⟩) ha)
    have ha2 := ne_bool ha
    generalize ckE ⟨st, pg, pr, fl, fi, ix⟩ = ca at *
    clear ha
    go_enter Try.func51, Try.ntmps51
    go_upto_region 1 with fail
    rw [← HW.out, ← HB.out]
    clear HW HB
    try clear x0 x1 x2 x3 x4 x5
    obtain ⟨x0, x1, x2, x3, x4, x5⟩ := X.out.cells
    try clear y0 y1 y2 y3 y4 y5
    obtain ⟨y0, y1, y2, y3, y4, y5⟩ := Y.out.cells
    try clear z0 z1 z2 z3 z4 z5
    obtain ⟨z0, z1, z2, z3, z4, z5⟩ := Z.out.cells
    go_wp2_with fail
    refine (Ca.out _).mono ?_
    rintro e w2 ⟨rfl, hb⟩
    replace K := hide (btrans K.out hb)
    replace X := hide (X.out.below hb)
    replace Y := hide (Y.out.below hb)
    replace Z := hide (Z.out.below hb)
    clear hb
    try clear x0 x1 x2 x3 x4 x5
    obtain ⟨x0, x1, x2, x3, x4, x5⟩ := X.out.cells
    try clear y0 y1 y2 y3 y4 y5
    obtain ⟨y0, y1, y2, y3, y4, y5⟩ := Y.out.cells
    try clear z0 z1 z2 z3 z4 z5
    obtain ⟨z0, z1, z2, z3, z4, z5⟩ := Z.out.cells
    obtain ⟨f0, f1, f2, f3, f4, f5⟩ := Z.out.free
    go_wp2
    exact ret_r2 rfl rfl rfl rfl (RB.put6 Z.out) E.out ⟨rfl, bset6 K.out (Nat.le_trans HG.out (Nat.le_add_right _ 2))⟩
  have A0 := hide ha
  rw [ha] at Ca
  clear ha
  by_cases hb2 : ckE ⟨st2, pg2, pr2, fl2, fi2, ix2⟩ = 0
  rotate_left 1
  · have E := hide (mgE_b A0.out hb2)
    have hb3 := ne_bool hb2
    clear A0
    generalize ckE ⟨st2, pg2, pr2, fl2, fi2, ix2⟩ = cb at *
    clear hb2
    go_enter Try.func51, Try.ntmps51
    go_upto_region 1 with fail
    rw [← HW.out, ← HB.out]
    clear HW HB
    try clear x0 x1 x2 x3 x4 x5
    obtain ⟨x0, x1, x2, x3, x4, x5⟩ := X.out.cells
    try clear y0 y1 y2 y3 y4 y5
    obtain ⟨y0, y1, y2, y3, y4, y5⟩ := Y.out.cells
    try clear z0 z1 z2 z3 z4 z5
    obtain ⟨z0, z1, z2, z3, z4, z5⟩ := Z.out.cells
    go_wp2_with fail
    refine (Ca.out _).mono ?_
    rintro e w2 ⟨rfl, hb⟩
    replace K := hide (btrans K.out hb)
    replace X := hide (X.out.below hb)
    replace Y := hide (Y.out.below hb)
    replace Z := hide (Z.out.below hb)
    clear hb
    try clear x0 x1 x2 x3 x4 x5
    obtain ⟨x0, x1, x2, x3, x4, x5⟩ := X.out.cells
    try clear y0 y1 y2 y3 y4 y5
    obtain ⟨y0, y1, y2, y3, y4, y5⟩ := Y.out.cells
    try clear z0 z1 z2 z3 z4 z5
    obtain ⟨z0, z1, z2, z3, z4, z5⟩ := Z.out.cells
    go_wp2_with fail
    refine (Cb.out _).mono ?_
    rintro e w3 ⟨rfl, hb⟩
    replace K := hide (btrans K.out hb)
    replace X := hide (X.out.below hb)
    replace Y := hide (Y.out.below hb)
    replace Z := hide (Z.out.below hb)
    clear hb
    try clear x0 x1 x2 x3 x4 x5
    obtain ⟨x0, x1, x2, x3, x4, x5⟩ := X.out.cells
    try clear y0 y1 y2 y3 y4 y5
    obtain ⟨y0, y1, y2, y3, y4, y5⟩ := Y.out.cells
    try clear z0 z1 z2 z3 z4 z5
    obtain ⟨z0, z1, z2, z3, z4, z5⟩ := Z.out.cells
    obtain ⟨f0, f1, f2, f3, f4, f5⟩ := Z.out.free
    go_wp2
    exact ret_r2 rfl rfl rfl rfl (RB.put6 Z.out) E.out ⟨rfl, bset6 K.out (Nat.le_trans HG.out (Nat.le_add_right _ 2))⟩
  have B0 := hide hb2
  rw [hb2] at Cb
  clear hb2
  by_cases hm : mgB ⟨st, pg, pr, fl, fi, ix⟩ ⟨st2, pg2, pr2, fl2, fi2, ix2⟩ = true
  rotate_left 1
  · rw [Bool.not_eq_true] at hm
    have E := hide (mgE_s A0.out B0.out hm)
    rw [hm] at Mg
    clear hm A0 B0
    go_enter Try.func51, Try.ntmps51
    go_upto_region 1 with fail
    rw [← HW.out, ← HB.out]
    clear HW HB
    try clear x0 x1 x2 x3 x4 x5
    obtain ⟨x0, x1, x2, x3, x4, x5⟩ := X.out.cells
    try clear y0 y1 y2 y3 y4 y5
    obtain ⟨y0, y1, y2, y3, y4, y5⟩ := Y.out.cells
    try clear z0 z1 z2 z3 z4 z5
    obtain ⟨z0, z1, z2, z3, z4, z5⟩ := Z.out.cells
    go_wp2_with fail
    refine (Ca.out _).mono ?_
    rintro e w2 ⟨rfl, hb⟩
    replace K := hide (btrans K.out hb)
    replace X := hide (X.out.below hb)
    replace Y := hide (Y.out.below hb)
    replace Z := hide (Z.out.below hb)
    clear hb
    try clear x0 x1 x2 x3 x4 x5
    obtain ⟨x0, x1, x2, x3, x4, x5⟩ := X.out.cells
    try clear y0 y1 y2 y3 y4 y5
    obtain ⟨y0, y1, y2, y3, y4, y5⟩ := Y.out.cells
    try clear z0 z1 z2 z3 z4 z5
    obtain ⟨z0, z1, z2, z3, z4, z5⟩ := Z.out.cells
    go_wp2_with fail
    refine (Cb.out _).mono ?_
    rintro e w3 ⟨rfl, hb⟩
    replace K := hide (btrans K.out hb)
    replace X := hide (X.out.below hb)
    replace Y := hide (Y.out.below hb)
    replace Z := hide (Z.out.below hb)
    clear hb
    try clear x0 x1 x2 x3 x4 x5
    obtain ⟨x0, x1, x2, x3, x4, x5⟩ := X.out.cells
    try clear y0 y1 y2 y3 y4 y5
    obtain ⟨y0, y1, y2, y3, y4, y5⟩ := Y.out.cells
    try clear z0 z1 z2 z3 z4 z5
    obtain ⟨z0, z1, z2, z3, z4, z5⟩ := Z.out.cells
    go_wp2_with fail
    refine (Mg.out _).mono ?_
    rintro e w4 ⟨rfl, hb⟩
    replace K := hide (btrans K.out hb)
    replace X := hide (X.out.below hb)
    replace Y := hide (Y.out.below hb)
    replace Z := hide (Z.out.below hb)
    clear hb
    try clear x0 x1 x2 x3 x4 x5
    obtain ⟨x0, x1, x2, x3, x4, x5⟩ := X.out.cells
    try clear y0 y1 y2 y3 y4 y5
    obtain ⟨y0, y1, y2, y3, y4, y5⟩ := Y.out.cells
    try clear z0 z1 z2 z3 z4 z5
    obtain ⟨z0, z1, z2, z3, z4, z5⟩ := Z.out.cells
    obtain ⟨f0, f1, f2, f3, f4, f5⟩ := Z.out.free
    go_wp2
    exact ret_r2 rfl rfl rfl rfl (RB.put6 Z.out) E.out ⟨rfl, bset6 K.out (Nat.le_trans HG.out (Nat.le_add_right _ 2))⟩
  have E := hide (mgE_0 A0.out B0.out hm)
  rw [hm] at Mg
  have k1 := (ok_of A0.out).2
  have k2 := (ok_of B0.out).2
  have l1 := (ok_of A0.out).1.1
  have l2 := (ok_of B0.out).1.1
  unfold rngd at k1 k2
  dsimp only at k1 k2 l1 l2
  have s1 : pg + pg2 ≤ 1024 := by omega
  have s2 : 0 ≤ pg + pg2 := by omega
  clear k1 k2
  clear hm A0 B0
  go_enter Try.func51, Try.ntmps51
  go_upto_region 1 with fail
  rw [← HW.out, ← HB.out]
  clear HW HB
  try clear x0 x1 x2 x3 x4 x5
  obtain ⟨x0, x1, x2, x3, x4, x5⟩ := X.out.cells
  try clear y0 y1 y2 y3 y4 y5
  obtain ⟨y0, y1, y2, y3, y4, y5⟩ := Y.out.cells
  try clear z0 z1 z2 z3 z4 z5
  obtain ⟨z0, z1, z2, z3, z4, z5⟩ := Z.out.cells
  go_wp2_with fail
  refine (Ca.out _).mono ?_
  rintro e w2 ⟨rfl, hb⟩
  replace K := hide (btrans K.out hb)
  replace X := hide (X.out.below hb)
  replace Y := hide (Y.out.below hb)
  replace Z := hide (Z.out.below hb)
  clear hb
  try clear x0 x1 x2 x3 x4 x5
  obtain ⟨x0, x1, x2, x3, x4, x5⟩ := X.out.cells
  try clear y0 y1 y2 y3 y4 y5
  obtain ⟨y0, y1, y2, y3, y4, y5⟩ := Y.out.cells
  try clear z0 z1 z2 z3 z4 z5
  obtain ⟨z0, z1, z2, z3, z4, z5⟩ := Z.out.cells
  go_wp2_with fail
  refine (Cb.out _).mono ?_
  rintro e w3 ⟨rfl, hb⟩
  replace K := hide (btrans K.out hb)
  replace X := hide (X.out.below hb)
  replace Y := hide (Y.out.below hb)
  replace Z := hide (Z.out.below hb)
  clear hb
  try clear x0 x1 x2 x3 x4 x5
  obtain ⟨x0, x1, x2, x3, x4, x5⟩ := X.out.cells
  try clear y0 y1 y2 y3 y4 y5
  obtain ⟨y0, y1, y2, y3, y4, y5⟩ := Y.out.cells
  try clear z0 z1 z2 z3 z4 z5
  obtain ⟨z0, z1, z2, z3, z4, z5⟩ := Z.out.cells
  go_wp2_with fail
  refine (Mg.out _).mono ?_
  rintro e w4 ⟨rfl, hb⟩
  replace K := hide (btrans K.out hb)
  replace X := hide (X.out.below hb)
  replace Y := hide (Y.out.below hb)
  replace Z := hide (Z.out.below hb)
  clear hb
  try clear x0 x1 x2 x3 x4 x5
  obtain ⟨x0, x1, x2, x3, x4, x5⟩ := X.out.cells
  try clear y0 y1 y2 y3 y4 y5
  obtain ⟨y0, y1, y2, y3, y4, y5⟩ := Y.out.cells
  try clear z0 z1 z2 z3 z4 z5
  obtain ⟨z0, z1, z2, z3, z4, z5⟩ := Z.out.cells
  obtain ⟨q0, q1, q2, q3, q4, q5⟩ := X.out.free
  go_upto_region 10 with fail
  replace X := hide (RB.put1 (z := pg + pg2) X.out)
  replace Z := hide (show RB (w4.setCell ⟨g2, 1, none⟩ (.int .i64 (pg + pg2))) (g2 + 2) ⟨0, 0, 0, 0, 0, 0⟩ from Box.far Z.out (by omega) _)
  replace K := hide (bset K.out (show w.heap.size ≤ g2 from HG.out) (p := ⟨g2, 1, none⟩) (.int .i64 (pg + pg2)))
  generalize w4.setCell ⟨g2, 1, none⟩ (.int .i64 (pg + pg2)) = w5 at *
  clear Y x0 x1 x2 x3 x4 x5 y0 y1 y2 y3 y4 y5 z0 z1 z2 z3 z4 z5 q0 q1 q2 q3 q4 q5
  try clear x0 x1 x2 x3 x4 x5
  obtain ⟨x0, x1, x2, x3, x4, x5⟩ := X.out.cells
  try clear z0 z1 z2 z3 z4 z5
  obtain ⟨z0, z1, z2, z3, z4, z5⟩ := Z.out.cells
  obtain ⟨f0, f1, f2, f3, f4, f5⟩ := Z.out.free
  go_wp2
  exact ret_r2 rfl rfl rfl rfl (RB.put6 Z.out) E.out ⟨rfl, bset6 K.out (Nat.le_trans HG.out (Nat.le_add_right _ 2))⟩
theorem ret_r3 {fn : Func} {a : Act} {W : World} {g g' : Nat} {e e' : Int} {r r' s s' : R6} {Q : Ending → World → Prop} (hr : fn.results = #[.cell 4 58, .cell 5 58, .tmp 6]) (h4 : a.tmps.getD 4 undef = .pointer (some ⟨g, 0, none⟩)) (h5 : a.tmps.getD 5 undef = .pointer (some ⟨g', 0, none⟩)) (h6 : a.tmps.getD 6 undef = .int .i64 e) (hd : a.defers = [])
    (hE : RB W g r) (hF : RB W g' s) (he : r = r' ∧ s = s' ∧ e = e') (hq : Q (.returned (.tuple #[rV r', rV s', .int .i64 e'])) W) : bodyPost Try.prog fn Q .ret a W := by
  obtain ⟨rfl, rfl, rfl⟩ := he
  obtain ⟨st, pg, pr, fl, fi, ix⟩ := r
  obtain ⟨st2, pg2, pr2, fl2, fi2, ix2⟩ := s
  obtain ⟨x0, x1, x2, x3, x4, x5⟩ := hE.cells
  obtain ⟨y0, y1, y2, y3, y4, y5⟩ := hF.cells
  simp only [Array.getD_eq_getD_getElem?] at h4 h5 h6
  exact bodyPost_ret (v := .tuple #[rV ⟨st, pg, pr, fl, fi, ix⟩, rV ⟨st2, pg2, pr2, fl2, fi2, ix2⟩, .int .i64 e]) (by simp [results, hr, h4, h5, h6, go_sem, x0, x1, x2, x3, x4, x5, y0, y1, y2, y3, y4, y5, rV]) hd hq
theorem spE_a {r : R6} {p : Int} (h : ckE r ≠ 0) : r0 = spA r p ∧ r0 = spB r p ∧ ckE r = spE r p := by
  have e : spE r p = ckE r := if_neg h
  exact ⟨by unfold spA; rw [e, if_neg h], by unfold spB; rw [e, if_neg h], e.symm⟩
theorem spE_b {r : R6} {p : Int} (h : ckE r = 0) (h2 : ¬ (r.st < p ∧ p < r.st + r.pg)) : r0 = spA r p ∧ r0 = spB r p ∧ 2 = spE r p := by
  have e : spE r p = 2 := by unfold spE; rw [if_pos h, if_neg h2]
  exact ⟨by unfold spA; rw [e]; rfl, by unfold spB; rw [e]; rfl, e.symm⟩
theorem spE_0 {r : R6} {p : Int} (h : ckE r = 0) (h2 : r.st < p ∧ p < r.st + r.pg) : lowR r p = spA r p ∧ uppR r p = spB r p ∧ 0 = spE r p := by
  have e : spE r p = 0 := by unfold spE; rw [if_pos h, if_pos h2]
  exact ⟨by unfold spA; rw [e]; rfl, by unfold spB; rw [e]; rfl, e.symm⟩
def A3 (r s : R6) (e : Int) (w : World) (en : Ending) (w' : World) : Prop := en = .returned (.tuple #[rV r, rV s, .int .i64 e]) ∧ Below w.heap.size w w'
set_option maxRecDepth 100000 in
set_option maxHeartbeats 4000000 in
theorem split_any (st pg pr fl fi ix : Int) (w : World) (hp : pg ≤ 9223372036854775807) (p : Int) : Calls Try.prog 55 #[.agg #[.int .i64 st, .int .i64 pg, .int .i64 pr, .int .i64 fl, .int .i64 fi, .int .i64 ix], .int .i64 p] w (A3 (spA ⟨st, pg, pr, fl, fi, ix⟩ p) (spB ⟨st, pg, pr, fl, fi, ix⟩ p) (spE ⟨st, pg, pr, fl, fi, ix⟩ p) w) := by
  unfold A3
  have X := hide (show RB (((w.alloc (.cells #[.int .i64 st, .int .i64 pg, .int .i64 pr, .int .i64 fl, .int .i64 fi, .int .i64 ix] 58)).alloc (.cells #[.int .i64 0, .int .i64 0, .int .i64 0, .int .i64 0, .int .i64 0, .int .i64 0] 58)).alloc (.cells #[.int .i64 0, .int .i64 0, .int .i64 0, .int .i64 0, .int .i64 0, .int .i64 0] 58)) w.heap.size ⟨st, pg, pr, fl, fi, ix⟩ from Box.more (Box.more (Box.new w 58 #[.int .i64 st, .int .i64 pg, .int .i64 pr, .int .i64 fl, .int .i64 fi, .int .i64 ix]) (.cells #[.int .i64 0, .int .i64 0, .int .i64 0, .int .i64 0, .int .i64 0, .int .i64 0] 58)) (.cells #[.int .i64 0, .int .i64 0, .int .i64 0, .int .i64 0, .int .i64 0, .int .i64 0] 58))
  have Y := hide (show RB (((w.alloc (.cells #[.int .i64 st, .int .i64 pg, .int .i64 pr, .int .i64 fl, .int .i64 fi, .int .i64 ix] 58)).alloc (.cells #[.int .i64 0, .int .i64 0, .int .i64 0, .int .i64 0, .int .i64 0, .int .i64 0] 58)).alloc (.cells #[.int .i64 0, .int .i64 0, .int .i64 0, .int .i64 0, .int .i64 0, .int .i64 0] 58)) (w.heap.size + 1) ⟨0, 0, 0, 0, 0, 0⟩ from Box.more (Box.new2 w (.cells #[.int .i64 st, .int .i64 pg, .int .i64 pr, .int .i64 fl, .int .i64 fi, .int .i64 ix] 58) 58 #[.int .i64 0, .int .i64 0, .int .i64 0, .int .i64 0, .int .i64 0, .int .i64 0]) (.cells #[.int .i64 0, .int .i64 0, .int .i64 0, .int .i64 0, .int .i64 0, .int .i64 0] 58))
  have Z := hide (show RB (((w.alloc (.cells #[.int .i64 st, .int .i64 pg, .int .i64 pr, .int .i64 fl, .int .i64 fi, .int .i64 ix] 58)).alloc (.cells #[.int .i64 0, .int .i64 0, .int .i64 0, .int .i64 0, .int .i64 0, .int .i64 0] 58)).alloc (.cells #[.int .i64 0, .int .i64 0, .int .i64 0, .int .i64 0, .int .i64 0, .int .i64 0] 58)) (w.heap.size + 2) ⟨0, 0, 0, 0, 0, 0⟩ from Box.new3 w (.cells #[.int .i64 st, .int .i64 pg, .int .i64 pr, .int .i64 fl, .int .i64 fi, .int .i64 ix] 58) (.cells #[.int .i64 0, .int .i64 0, .int .i64 0, .int .i64 0, .int .i64 0, .int .i64 0] 58) 58 #[.int .i64 0, .int .i64 0, .int .i64 0, .int .i64 0, .int .i64 0, .int .i64 0])
  have K := hide (show Below w.heap.size w (((w.alloc (.cells #[.int .i64 st, .int .i64 pg, .int .i64 pr, .int .i64 fl, .int .i64 fi, .int .i64 ix] 58)).alloc (.cells #[.int .i64 0, .int .i64 0, .int .i64 0, .int .i64 0, .int .i64 0, .int .i64 0] 58)).alloc (.cells #[.int .i64 0, .int .i64 0, .int .i64 0, .int .i64 0, .int .i64 0, .int .i64 0] 58)) from bal3 w _ _ _)
  obtain ⟨W0, hW0⟩ : ∃ W0, W0 = ((w.alloc (.cells #[.int .i64 st, .int .i64 pg, .int .i64 pr, .int .i64 fl, .int .i64 fi, .int .i64 ix] 58)).alloc (.cells #[.int .i64 0, .int .i64 0, .int .i64 0, .int .i64 0, .int .i64 0, .int .i64 0] 58)).alloc (.cells #[.int .i64 0, .int .i64 0, .int .i64 0, .int .i64 0, .int .i64 0, .int .i64 0] 58) := ⟨_, rfl⟩
  rw [← hW0] at X Y Z K
  obtain ⟨g2, hg2⟩ : ∃ g2, g2 = w.heap.size := ⟨_, rfl⟩
  have HG := hide (show w.heap.size ≤ g2 by omega)
  rw [← hg2] at X Y Z
  have HW := hide hW0
  have HB := hide hg2
  clear hW0 hg2
  have Ca := hide (fun w => check_any st pg pr fl fi ix w hp)
  by_cases ha : ckE ⟨st, pg, pr, fl, fi, ix⟩ = 0
  rotate_left 1
  · have E := hide (spE_a (p := p) ha)
    have ha2 := ne_bool ha
    generalize ckE ⟨st, pg, pr, fl, fi, ix⟩ = ca at *
    clear ha
    go_enter Try.func55, Try.ntmps55
    go_upto_region 1 with fail
    rw [← HW.out, ← HB.out]
    clear HW HB
    try clear x0 x1 x2 x3 x4 x5
    obtain ⟨x0, x1, x2, x3, x4, x5⟩ := X.out.cells
    try clear y0 y1 y2 y3 y4 y5
    obtain ⟨y0, y1, y2, y3, y4, y5⟩ := Y.out.cells
    try clear z0 z1 z2 z3 z4 z5
    obtain ⟨z0, z1, z2, z3, z4, z5⟩ := Z.out.cells
    go_wp2_with fail
    refine (Ca.out _).mono ?_
    rintro e w2 ⟨rfl, hb⟩
    replace K := hide (btrans K.out hb)
    replace X := hide (X.out.below hb)
    replace Y := hide (Y.out.below hb)
    replace Z := hide (Z.out.below hb)
    clear hb
    try clear x0 x1 x2 x3 x4 x5
    obtain ⟨x0, x1, x2, x3, x4, x5⟩ := X.out.cells
    try clear y0 y1 y2 y3 y4 y5
    obtain ⟨y0, y1, y2, y3, y4, y5⟩ := Y.out.cells
    try clear z0 z1 z2 z3 z4 z5
    obtain ⟨z0, z1, z2, z3, z4, z5⟩ := Z.out.cells
    obtain ⟨f0, f1, f2, f3, f4, f5⟩ := Z.out.free
    obtain ⟨q0, q1, q2, q3, q4, q5⟩ := Y.out.free
    go_wp2
    exact ret_r3 rfl rfl rfl rfl rfl (RB.far6 (RB.put6 Y.out) (by omega)) (RB.put6 (RB.far6 Z.out (by omega))) E.out ⟨rfl, bset6 (bset6 K.out (Nat.le_trans HG.out (Nat.le_add_right _ 1))) (Nat.le_trans HG.out (Nat.le_add_right _ 2))⟩
  have A0 := hide ha
  rw [ha] at Ca
  clear ha
  have hk := ok_iff.1 A0.out
  have Dv := hide (fun w => div_any st pg pr fl fi ix w hp p hk)
  unfold dvB at Dv
  by_cases hd : st < p ∧ p < st + pg
  rotate_left 1
  · have E := hide (spE_b A0.out hd)
    rw [decide_eq_false hd] at Dv
    clear hd A0 hk
    go_enter Try.func55, Try.ntmps55
    go_upto_region 1 with fail
    rw [← HW.out, ← HB.out]
    clear HW HB
    try clear x0 x1 x2 x3 x4 x5
    obtain ⟨x0, x1, x2, x3, x4, x5⟩ := X.out.cells
    try clear y0 y1 y2 y3 y4 y5
    obtain ⟨y0, y1, y2, y3, y4, y5⟩ := Y.out.cells
    try clear z0 z1 z2 z3 z4 z5
    obtain ⟨z0, z1, z2, z3, z4, z5⟩ := Z.out.cells
    go_wp2_with fail
    refine (Ca.out _).mono ?_
    rintro e w2 ⟨rfl, hb⟩
    replace K := hide (btrans K.out hb)
    replace X := hide (X.out.below hb)
    replace Y := hide (Y.out.below hb)
    replace Z := hide (Z.out.below hb)
    clear hb
    try clear x0 x1 x2 x3 x4 x5
    obtain ⟨x0, x1, x2, x3, x4, x5⟩ := X.out.cells
    try clear y0 y1 y2 y3 y4 y5
    obtain ⟨y0, y1, y2, y3, y4, y5⟩ := Y.out.cells
    try clear z0 z1 z2 z3 z4 z5
    obtain ⟨z0, z1, z2, z3, z4, z5⟩ := Z.out.cells
    go_wp2_with fail
    refine (Dv.out _).mono ?_
    rintro e w3 ⟨rfl, hb⟩
    replace K := hide (btrans K.out hb)
    replace X := hide (X.out.below hb)
    replace Y := hide (Y.out.below hb)
    replace Z := hide (Z.out.below hb)
    clear hb
    try clear x0 x1 x2 x3 x4 x5
    obtain ⟨x0, x1, x2, x3, x4, x5⟩ := X.out.cells
    try clear y0 y1 y2 y3 y4 y5
    obtain ⟨y0, y1, y2, y3, y4, y5⟩ := Y.out.cells
    try clear z0 z1 z2 z3 z4 z5
    obtain ⟨z0, z1, z2, z3, z4, z5⟩ := Z.out.cells
    obtain ⟨f0, f1, f2, f3, f4, f5⟩ := Z.out.free
    obtain ⟨q0, q1, q2, q3, q4, q5⟩ := Y.out.free
    go_wp2
    exact ret_r3 rfl rfl rfl rfl rfl (RB.far6 (RB.put6 Y.out) (by omega)) (RB.put6 (RB.far6 Z.out (by omega))) E.out ⟨rfl, bset6 (bset6 K.out (Nat.le_trans HG.out (Nat.le_add_right _ 1))) (Nat.le_trans HG.out (Nat.le_add_right _ 2))⟩
  have E := hide (spE_0 A0.out hd)
  rw [decide_eq_true hd] at Dv
  have o2 := hk.2.1
  have o3 := hk.2.2.1
  dsimp only at o2 o3
  have LO := hide (fun w => low_any st pg pr fl fi ix p w o2 hd.1 hd.2 o3)
  have UP := hide (fun w => upp_any st pg pr fl fi ix p w hk (by omega) (by omega))
  unfold lowR uppR at E
  dsimp only at E
  obtain ⟨up, hup⟩ : ∃ q, q = pg - (p - st) := ⟨_, rfl⟩
  obtain ⟨nf, hnf⟩ : ∃ q, q = nog fl := ⟨_, rfl⟩
  obtain ⟨ui, hui⟩ : ∃ q, q = if fi = -1 then ix else ix + (p - st) := ⟨_, rfl⟩
  rw [← hup, ← hnf, ← hui] at E UP
  clear hd A0 hk hup hnf hui
  go_enter Try.func55, Try.ntmps55
  go_upto_region 1 with fail
  rw [← HW.out, ← HB.out]
  clear HW HB
  try clear x0 x1 x2 x3 x4 x5
  obtain ⟨x0, x1, x2, x3, x4, x5⟩ := X.out.cells
  try clear y0 y1 y2 y3 y4 y5
  obtain ⟨y0, y1, y2, y3, y4, y5⟩ := Y.out.cells
  try clear z0 z1 z2 z3 z4 z5
  obtain ⟨z0, z1, z2, z3, z4, z5⟩ := Z.out.cells
  go_wp2_with fail
  refine (Ca.out _).mono ?_
  rintro e w2 ⟨rfl, hb⟩
  replace K := hide (btrans K.out hb)
  replace X := hide (X.out.below hb)
  replace Y := hide (Y.out.below hb)
  replace Z := hide (Z.out.below hb)
  clear hb
  try clear x0 x1 x2 x3 x4 x5
  obtain ⟨x0, x1, x2, x3, x4, x5⟩ := X.out.cells
  try clear y0 y1 y2 y3 y4 y5
  obtain ⟨y0, y1, y2, y3, y4, y5⟩ := Y.out.cells
  try clear z0 z1 z2 z3 z4 z5
  obtain ⟨z0, z1, z2, z3, z4, z5⟩ := Z.out.cells
  go_wp2_with fail
  refine (Dv.out _).mono ?_
  rintro e w3 ⟨rfl, hb⟩
  replace K := hide (btrans K.out hb)
  replace X := hide (X.out.below hb)
  replace Y := hide (Y.out.below hb)
  replace Z := hide (Z.out.below hb)
  clear hb
  try clear x0 x1 x2 x3 x4 x5
  obtain ⟨x0, x1, x2, x3, x4, x5⟩ := X.out.cells
  try clear y0 y1 y2 y3 y4 y5
  obtain ⟨y0, y1, y2, y3, y4, y5⟩ := Y.out.cells
  try clear z0 z1 z2 z3 z4 z5
  obtain ⟨z0, z1, z2, z3, z4, z5⟩ := Z.out.cells
  go_upto_region 6 with fail
  replace K := hide (show Below w.heap.size w w3.drew from btrans K.out (below_drewN (brefl _) 1))
  replace X := hide X.out.drew
  replace Y := hide Y.out.drew
  replace Z := hide Z.out.drew
  clear x0 x1 x2 x3 x4 x5 y0 y1 y2 y3 y4 y5 z0 z1 z2 z3 z4 z5
  refine wp_region_noPanic ?_
  refine wp_region_held_drew (S := (fun W => W.cell? ⟨g2, 0, none⟩ = some (.int .i64 st) ∧ W.cell? ⟨g2, 1, none⟩ = some (.int .i64 pg) ∧ W.cell? ⟨g2, 2, none⟩ = some (.int .i64 pr) ∧ W.cell? ⟨g2, 3, none⟩ = some (.int .i64 fl) ∧ W.cell? ⟨g2, 4, none⟩ = some (.int .i64 fi) ∧ W.cell? ⟨g2, 5, none⟩ = some (.int .i64 ix))) (by kernel_rfl) ?_ (fun hHeld => ?_)
  · exact X.out.cells
  generalize w3.drew = w4 at *
  refine wpAnyH_take (i := 0) (oi := ⟨some 21, _, _, _, _, _⟩) (v := ?_) rfl (by kernel_rfl) (by kernel_rfl) (by kernel_rfl) (fun _ _ _ h => h) (Or.inl ⟨by kernel_rfl, ?_⟩) (by assumption) ?_
  rotate_left 1
  · (intro w hSw; (try dsimp only at hSw); go_simp) <;> (with_reducible rfl)
  (try simp only [Act.put, List.setIfInBounds_toArray, List.set_cons_succ, List.set_cons_zero])
  refine wpAnyH_take (i := 1) (oi := ⟨some 22, _, _, _, _, _⟩) (v := ?_) rfl (by kernel_rfl) (by kernel_rfl) (by kernel_rfl) (fun _ _ _ h => h) (Or.inl ⟨by kernel_rfl, ?_⟩) (by assumption) ?_
  rotate_left 1
  · (intro w hSw; (try dsimp only at hSw); go_simp) <;> (with_reducible rfl)
  (try simp only [Act.put, List.setIfInBounds_toArray, List.set_cons_succ, List.set_cons_zero])
  refine wpAnyH_take (i := 3) (oi := ⟨some 24, _, _, _, _, _⟩) (v := ?_) rfl (by kernel_rfl) (by kernel_rfl) (by kernel_rfl) (fun _ _ _ h => h) (Or.inl ⟨by kernel_rfl, ?_⟩) (by assumption) ?_
  rotate_left 1
  · (intro w hSw; (try dsimp only at hSw); go_simp) <;> (with_reducible rfl)
  (try simp only [Act.put, List.setIfInBounds_toArray, List.set_cons_succ, List.set_cons_zero])
  refine wpAnyH_take (i := 4) (oi := ⟨some 25, _, _, _, _, _⟩) (v := ?_) rfl (by kernel_rfl) (by kernel_rfl) (by kernel_rfl) (fun _ _ _ h => h) (Or.inl ⟨by kernel_rfl, ?_⟩) (by assumption) ?_
  rotate_left 1
  · (intro w hSw; (try dsimp only at hSw); go_simp) <;> (with_reducible rfl)
  (try simp only [Act.put, List.setIfInBounds_toArray, List.set_cons_succ, List.set_cons_zero])
  refine wpAnyH_ready (rs := [2]) (by kernel_rfl) (by simp) ?_
  refine AllReadyH.cons (o := ⟨some 23, _, _, _, _, _⟩) rfl (fun K' hK => ?_) AllReadyH.nil
  go_simp
  refine (LO.out _).mono ?_
  rintro e wc ⟨rfl, hb⟩
  replace K := hide (btrans K.out hb)
  replace X := hide (X.out.below hb)
  replace Y := hide (Y.out.below hb)
  replace Z := hide (Z.out.below hb)
  clear hb
  refine hK.out _ _ ?_ (fun hHeld => ?_)
  · exact X.out.cells
  clear hK K'
  (try simp only [Act.put, List.setIfInBounds_toArray, List.set_cons_succ, List.set_cons_zero])
  refine wpAnyH_ready (rs := [5]) (by kernel_rfl) (by simp) ?_
  refine AllReadyH.cons (o := ⟨some 26, _, _, _, _, _⟩) rfl (fun K' hK => ?_) AllReadyH.nil
  go_simp
  refine (UP.out _).mono ?_
  rintro e wd ⟨rfl, hb⟩
  replace K := hide (btrans K.out hb)
  replace X := hide (X.out.below hb)
  replace Y := hide (Y.out.below hb)
  replace Z := hide (Z.out.below hb)
  clear hb
  refine hK.out _ _ ?_ (fun hHeld => ?_)
  · exact X.out.cells
  clear hK K'
  (try simp only [Act.put, List.setIfInBounds_toArray, List.set_cons_succ, List.set_cons_zero])
  refine wpAnyH_ready (rs := [6]) (by kernel_rfl) (by simp) ?_
  refine AllReadyH.cons (o := ⟨none, _, _, _, _, _⟩) rfl (fun K' hK => ?_) AllReadyH.nil
  obtain ⟨c0, c1, c2, c3, c4, c5⟩ := RB.cells Y.out
  obtain ⟨f0, f1, f2, f3, f4, f5⟩ := RB.free Y.out
  go_simp
  replace K := hide (show Below w.heap.size w ((((((wd.setCell ⟨g2 + 1, 0, none⟩ (.int .i64 st)).setCell ⟨g2 + 1, 1, none⟩ (.int .i64 (p - st))).setCell ⟨g2 + 1, 2, none⟩ (.int .i64 pr)).setCell ⟨g2 + 1, 3, none⟩ (.int .i64 fl)).setCell ⟨g2 + 1, 4, none⟩ (.int .i64 fi)).setCell ⟨g2 + 1, 5, none⟩ (.int .i64 ix)) from bset6 K.out (Nat.le_trans HG.out (Nat.le_add_right _ 1)))
  replace X := hide (show RB ((((((wd.setCell ⟨g2 + 1, 0, none⟩ (.int .i64 st)).setCell ⟨g2 + 1, 1, none⟩ (.int .i64 (p - st))).setCell ⟨g2 + 1, 2, none⟩ (.int .i64 pr)).setCell ⟨g2 + 1, 3, none⟩ (.int .i64 fl)).setCell ⟨g2 + 1, 4, none⟩ (.int .i64 fi)).setCell ⟨g2 + 1, 5, none⟩ (.int .i64 ix)) g2 ⟨st, pg, pr, fl, fi, ix⟩ from RB.far6 X.out (by omega))
  replace Z := hide (show RB ((((((wd.setCell ⟨g2 + 1, 0, none⟩ (.int .i64 st)).setCell ⟨g2 + 1, 1, none⟩ (.int .i64 (p - st))).setCell ⟨g2 + 1, 2, none⟩ (.int .i64 pr)).setCell ⟨g2 + 1, 3, none⟩ (.int .i64 fl)).setCell ⟨g2 + 1, 4, none⟩ (.int .i64 fi)).setCell ⟨g2 + 1, 5, none⟩ (.int .i64 ix)) (g2 + 2) ⟨0, 0, 0, 0, 0, 0⟩ from RB.far6 Z.out (by omega))
  replace Y := hide (show RB ((((((wd.setCell ⟨g2 + 1, 0, none⟩ (.int .i64 st)).setCell ⟨g2 + 1, 1, none⟩ (.int .i64 (p - st))).setCell ⟨g2 + 1, 2, none⟩ (.int .i64 pr)).setCell ⟨g2 + 1, 3, none⟩ (.int .i64 fl)).setCell ⟨g2 + 1, 4, none⟩ (.int .i64 fi)).setCell ⟨g2 + 1, 5, none⟩ (.int .i64 ix)) (g2 + 1) ⟨st, p - st, pr, fl, fi, ix⟩ from RB.put6 Y.out)
  clear c0 c1 c2 c3 c4 c5 f0 f1 f2 f3 f4 f5
  generalize ((((((wd.setCell ⟨g2 + 1, 0, none⟩ (.int .i64 st)).setCell ⟨g2 + 1, 1, none⟩ (.int .i64 (p - st))).setCell ⟨g2 + 1, 2, none⟩ (.int .i64 pr)).setCell ⟨g2 + 1, 3, none⟩ (.int .i64 fl)).setCell ⟨g2 + 1, 4, none⟩ (.int .i64 fi)).setCell ⟨g2 + 1, 5, none⟩ (.int .i64 ix)) = wa at *
  refine hK.out _ _ ?_ (fun hHeld => ?_)
  · exact X.out.cells
  clear hK K'
  (try simp only [Act.put, List.setIfInBounds_toArray, List.set_cons_succ, List.set_cons_zero])
  refine wpAnyH_ready (rs := [7]) (by kernel_rfl) (by simp) ?_
  refine AllReadyH.cons (o := ⟨none, _, _, _, _, _⟩) rfl (fun K' hK => ?_) AllReadyH.nil
  obtain ⟨c0, c1, c2, c3, c4, c5⟩ := RB.cells Z.out
  obtain ⟨f0, f1, f2, f3, f4, f5⟩ := RB.free Z.out
  go_simp
  replace K := hide (show Below w.heap.size w ((((((wa.setCell ⟨g2 + 2, 0, none⟩ (.int .i64 p)).setCell ⟨g2 + 2, 1, none⟩ (.int .i64 up)).setCell ⟨g2 + 2, 2, none⟩ (.int .i64 pr)).setCell ⟨g2 + 2, 3, none⟩ (.int .i64 nf)).setCell ⟨g2 + 2, 4, none⟩ (.int .i64 fi)).setCell ⟨g2 + 2, 5, none⟩ (.int .i64 ui)) from bset6 K.out (Nat.le_trans HG.out (Nat.le_add_right _ 2)))
  replace X := hide (show RB ((((((wa.setCell ⟨g2 + 2, 0, none⟩ (.int .i64 p)).setCell ⟨g2 + 2, 1, none⟩ (.int .i64 up)).setCell ⟨g2 + 2, 2, none⟩ (.int .i64 pr)).setCell ⟨g2 + 2, 3, none⟩ (.int .i64 nf)).setCell ⟨g2 + 2, 4, none⟩ (.int .i64 fi)).setCell ⟨g2 + 2, 5, none⟩ (.int .i64 ui)) g2 ⟨st, pg, pr, fl, fi, ix⟩ from RB.far6 X.out (by omega))
  replace Y := hide (show RB ((((((wa.setCell ⟨g2 + 2, 0, none⟩ (.int .i64 p)).setCell ⟨g2 + 2, 1, none⟩ (.int .i64 up)).setCell ⟨g2 + 2, 2, none⟩ (.int .i64 pr)).setCell ⟨g2 + 2, 3, none⟩ (.int .i64 nf)).setCell ⟨g2 + 2, 4, none⟩ (.int .i64 fi)).setCell ⟨g2 + 2, 5, none⟩ (.int .i64 ui)) (g2 + 1) ⟨st, p - st, pr, fl, fi, ix⟩ from RB.far6 Y.out (by omega))
  replace Z := hide (show RB ((((((wa.setCell ⟨g2 + 2, 0, none⟩ (.int .i64 p)).setCell ⟨g2 + 2, 1, none⟩ (.int .i64 up)).setCell ⟨g2 + 2, 2, none⟩ (.int .i64 pr)).setCell ⟨g2 + 2, 3, none⟩ (.int .i64 nf)).setCell ⟨g2 + 2, 4, none⟩ (.int .i64 fi)).setCell ⟨g2 + 2, 5, none⟩ (.int .i64 ui)) (g2 + 2) ⟨p, up, pr, nf, fi, ui⟩ from RB.put6 Z.out)
  clear c0 c1 c2 c3 c4 c5 f0 f1 f2 f3 f4 f5
  generalize ((((((wa.setCell ⟨g2 + 2, 0, none⟩ (.int .i64 p)).setCell ⟨g2 + 2, 1, none⟩ (.int .i64 up)).setCell ⟨g2 + 2, 2, none⟩ (.int .i64 pr)).setCell ⟨g2 + 2, 3, none⟩ (.int .i64 nf)).setCell ⟨g2 + 2, 4, none⟩ (.int .i64 fi)).setCell ⟨g2 + 2, 5, none⟩ (.int .i64 ui)) = wb at *
  refine hK.out _ _ ?_ (fun hHeld => ?_)
  · exact X.out.cells
  clear hK K'
  (try simp only [Act.put, List.setIfInBounds_toArray, List.set_cons_succ, List.set_cons_zero])
  refine wpAnyH_take (i := 8) (oi := ⟨some 6, _, _, _, _, _⟩) (v := ?_) rfl (by kernel_rfl) (by kernel_rfl) (by kernel_rfl) (fun _ _ _ h => h) (Or.inl ⟨by kernel_rfl, ?_⟩) (by assumption) ?_
  rotate_left 1
  · (intro w hSw; (try dsimp only at hSw); go_simp) <;> (with_reducible rfl)
  (try simp only [Act.put, List.setIfInBounds_toArray, List.set_cons_succ, List.set_cons_zero])
  refine wpAnyH_done (by kernel_rfl) ?_ _
  refine NoPanic.normal ?_
  go_wp2
  exact ret_r3 rfl rfl rfl rfl rfl Y.out Z.out E.out ⟨rfl, K.out⟩
end Go.Proofs.Ytimclgmajhhheaa.Rg
