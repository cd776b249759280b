import Derived.Test.YtimclgmajhhheaaR1
import Derived.Test.YtimclgmajhhheaaT7
namespace Go.Proofs.Ytimclgmajhhheaa.Rg
open Go Go.RowKit Ac
set_option linter.unusedVariables false
set_option linter.unusedSimpArgs false
theorem rend_any : FI 44 enD := by
  intro st pg pr fl fi ix w hp
  have K := hide (bal (brefl w) (.cells #[.int .i64 st, .int .i64 pg, .int .i64 pr, .int .i64 fl, .int .i64 fi, .int .i64 ix] 58))
  have X := hide (RB.new w st pg pr fl fi ix)
  have CK := hide (fun w => rcheck_any st pg pr fl fi ix w hp)
  by_cases hk : Ok ⟨st, pg, pr, fl, fi, ix⟩
  · have he : enD ⟨st, pg, pr, fl, fi, ix⟩ = st + pg := if_pos hk
    rw [he]
    rw [ok_iff.2 hk] at CK
    have o1 := hk.1.1
    have o2 := hk.2.1
    have o3 := hk.2.2.1
    have o4 := hk.2.2.2.2
    dsimp only at o1 o2 o3 o4
    clear he hk
    go_enter Try.func44, Try.ntmps44
    go_wp2_with fail
    refine (CK.out _).mono ?_
    rintro e w2 ⟨rfl, hb⟩
    replace K := hide (btrans K.out hb)
    replace X := hide (X.out.below hb)
    clear hb
    try clear x0 x1 x2 x3 x4 x5
    obtain ⟨x0, x1, x2, x3, x4, x5⟩ := X.out.cells
    go_wp2
    go_ret
    exact ⟨rfl, K.out⟩
  · have he : enD ⟨st, pg, pr, fl, fi, ix⟩ = 0 := if_neg hk
    rw [he]
    have hc2 : (ckE ⟨st, pg, pr, fl, fi, ix⟩ != 0) = true := bne_iff_ne.2 (fun h => hk (ok_iff.1 h))
    have hc3 : (ckE ⟨st, pg, pr, fl, fi, ix⟩ == 0) = false := beq_eq_false_iff_ne.2 (fun h => hk (ok_iff.1 h))
    generalize ckE ⟨st, pg, pr, fl, fi, ix⟩ = ca at *
    clear he hk
    go_enter Try.func44, Try.ntmps44
    go_wp2_with fail
    refine (CK.out _).mono ?_
    rintro e w2 ⟨rfl, hb⟩
    replace K := hide (btrans K.out hb)
    replace X := hide (X.out.below hb)
    clear hb
    try clear x0 x1 x2 x3 x4 x5
    obtain ⟨x0, x1, x2, x3, x4, x5⟩ := X.out.cells
    go_wp2
    go_ret
    exact ⟨rfl, K.out⟩
set_option maxHeartbeats 2000000 in
theorem rhas_any (st pg pr fl fi ix : Int) (w : World) (hp : pg ≤ 9223372036854775807) (p : Int) : Calls Try.prog 46 #[.agg #[.int .i64 st, .int .i64 pg, .int .i64 pr, .int .i64 fl, .int .i64 fi, .int .i64 ix], .int .i64 p] w fun e w' => e = .returned (.bool (hasB ⟨st, pg, pr, fl, fi, ix⟩ p)) ∧ Below w.heap.size w w' := by
  have K := hide (bal (brefl w) (.cells #[.int .i64 st, .int .i64 pg, .int .i64 pr, .int .i64 fl, .int .i64 fi, .int .i64 ix] 58))
  have X := hide (RB.new w st pg pr fl fi ix)
  have CK := hide (fun w => rcheck_any st pg pr fl fi ix w hp)
  by_cases hk : Ok ⟨st, pg, pr, fl, fi, ix⟩
  · rw [ok_iff.2 hk] at CK
    have o1 := hk.1.1
    have o2 := hk.2.1
    have o3 := hk.2.2.1
    have o4 := hk.2.2.2.2
    dsimp only at o1 o2 o3 o4
    have HB : hasB ⟨st, pg, pr, fl, fi, ix⟩ p = (decide (st ≤ p) && decide (p < st + pg)) := by unfold hasB; simp [hk]
    rw [HB]
    clear hk HB
    by_cases h1 : st ≤ p
    · go_enter Try.func46, Try.ntmps46
      go_wp2_with fail
      refine (CK.out _).mono ?_
      rintro e w2 ⟨rfl, hb⟩
      replace K := hide (btrans K.out hb)
      replace X := hide (X.out.below hb)
      clear hb
      try clear x0 x1 x2 x3 x4 x5
      obtain ⟨x0, x1, x2, x3, x4, x5⟩ := X.out.cells
      go_wp2
      go_ret
      exact ⟨ret_bool (by first | (simp [h1]; done) | (simp; omega)), K.out⟩
    · go_enter Try.func46, Try.ntmps46
      go_wp2_with fail
      refine (CK.out _).mono ?_
      rintro e w2 ⟨rfl, hb⟩
      replace K := hide (btrans K.out hb)
      replace X := hide (X.out.below hb)
      clear hb
      try clear x0 x1 x2 x3 x4 x5
      obtain ⟨x0, x1, x2, x3, x4, x5⟩ := X.out.cells
      go_wp2
      go_ret
      exact ⟨ret_bool (by first | (simp [h1]; done) | (simp; omega)), K.out⟩
  · have hc2 : (ckE ⟨st, pg, pr, fl, fi, ix⟩ != 0) = true := bne_iff_ne.2 (fun h => hk (ok_iff.1 h))
    have hc3 : (ckE ⟨st, pg, pr, fl, fi, ix⟩ == 0) = false := beq_eq_false_iff_ne.2 (fun h => hk (ok_iff.1 h))
    generalize ckE ⟨st, pg, pr, fl, fi, ix⟩ = ca at *
    have HB : hasB ⟨st, pg, pr, fl, fi, ix⟩ p = false := decide_eq_false (fun h => hk h.1)
    rw [HB]
    clear HB hk
    go_enter Try.func46, Try.ntmps46
    go_wp2_with fail
    refine (CK.out _).mono ?_
    rintro e w2 ⟨rfl, hb⟩
    replace K := hide (btrans K.out hb)
    replace X := hide (X.out.below hb)
    clear hb
    try clear x0 x1 x2 x3 x4 x5
    obtain ⟨x0, x1, x2, x3, x4, x5⟩ := X.out.cells
    go_wp2
    go_ret
    exact ⟨rfl, K.out⟩
set_option maxHeartbeats 2000000 in
theorem rpage_any (st pg pr fl fi ix : Int) (w : World) (hp : pg ≤ 9223372036854775807) (p : Int) : Calls Try.prog 50 #[.agg #[.int .i64 st, .int .i64 pg, .int .i64 pr, .int .i64 fl, .int .i64 fi, .int .i64 ix], .int .i64 p] w fun e w' => e = .returned (.int .i64 (pgE ⟨st, pg, pr, fl, fi, ix⟩ p)) ∧ Below w.heap.size w w' := by
  have K := hide (bal (brefl w) (.cells #[.int .i64 st, .int .i64 pg, .int .i64 pr, .int .i64 fl, .int .i64 fi, .int .i64 ix] 58))
  have X := hide (RB.new w st pg pr fl fi ix)
  have HS := hide (fun w => rhas_any st pg pr fl fi ix w hp p)
  unfold hasB at HS
  by_cases hk : Ok ⟨st, pg, pr, fl, fi, ix⟩ ∧ st ≤ p ∧ p < st + pg
  rotate_left 1
  · have hq : pgE ⟨st, pg, pr, fl, fi, ix⟩ p = -1 := if_neg (fun h => hk h.2)
    rw [hq]
    clear hq
    rw [decide_eq_false hk] at HS
    clear hk
    go_enter Try.func50, Try.ntmps50
    go_wp2_with fail
    refine (HS.out _).mono ?_
    rintro e w3 ⟨rfl, hb⟩
    replace K := hide (btrans K.out hb)
    replace X := hide (X.out.below hb)
    clear hb
    try clear x0 x1 x2 x3 x4 x5
    obtain ⟨x0, x1, x2, x3, x4, x5⟩ := X.out.cells
    go_wp2
    go_ret
    exact ⟨rfl, K.out⟩
  rw [decide_eq_true hk] at HS
  by_cases h4 : fi = -1
  · have hq : pgE ⟨st, pg, pr, fl, fi, ix⟩ p = -1 := if_neg (fun h => h.1 h4)
    rw [hq]
    clear hq
    subst h4
    have X := hide (RB.new w st pg pr fl (-1) ix)
    go_enter Try.func50, Try.ntmps50
    go_wp2_with fail
    refine (HS.out _).mono ?_
    rintro e w3 ⟨rfl, hb⟩
    replace K := hide (btrans K.out hb)
    replace X := hide (X.out.below hb)
    clear hb
    try clear x0 x1 x2 x3 x4 x5
    obtain ⟨x0, x1, x2, x3, x4, x5⟩ := X.out.cells
    go_wp2
    go_ret
    exact ⟨rfl, K.out⟩
  have hq : pgE ⟨st, pg, pr, fl, fi, ix⟩ p = ix + p - st := if_pos ⟨h4, hk⟩
  rw [hq]
  clear hq
  obtain ⟨hk, h5, h6⟩ := hk
  have o1 := hk.1.1
  have o2 := hk.2.1
  have o3 := hk.2.2.1
  have o4 := hk.2.2.2.2
  dsimp only at o1 o2 o3 o4
  have o5 := o4 h4
  have h7 : ¬ fi < 0 := by have := hk.1.2.2.2.1; dsimp only at this; omega
  replace h4 := hide h4
  clear o4 hk
  go_enter Try.func50, Try.ntmps50
  go_wp2_with fail
  refine (HS.out _).mono ?_
  rintro e w3 ⟨rfl, hb⟩
  replace K := hide (btrans K.out hb)
  replace X := hide (X.out.below hb)
  clear hb
  try clear x0 x1 x2 x3 x4 x5
  obtain ⟨x0, x1, x2, x3, x4, x5⟩ := X.out.cells
  go_wp2
  go_ret
  exact ⟨rfl, K.out⟩
set_option maxHeartbeats 2000000 in
theorem rperm_any (st pg pr fl fi ix : Int) (w : World) (hp : pg ≤ 9223372036854775807) (b : Bool) : Calls Try.prog 42 #[.agg #[.int .i64 st, .int .i64 pg, .int .i64 pr, .int .i64 fl, .int .i64 fi, .int .i64 ix], .bool b] w fun e w' => e = .returned (.bool (pmB ⟨st, pg, pr, fl, fi, ix⟩ b)) ∧ Below w.heap.size w w' := by
  have K := hide (bal (brefl w) (.cells #[.int .i64 st, .int .i64 pg, .int .i64 pr, .int .i64 fl, .int .i64 fi, .int .i64 ix] 58))
  have X := hide (RB.new w st pg pr fl fi ix)
  have CK := hide (fun w => rcheck_any st pg pr fl fi ix w hp)
  by_cases hk : Ok ⟨st, pg, pr, fl, fi, ix⟩
  · have hpr := hk.1.2.2.2.2.2.1
    dsimp only at hpr
    rw [ok_iff.2 hk] at CK
    have o1 := hk.1.1
    have o2 := hk.2.1
    have o3 := hk.2.2.1
    have o4 := hk.2.2.2.2
    dsimp only at o1 o2 o3 o4
    have hq : pmB ⟨st, pg, pr, fl, fi, ix⟩ b = (!b || decide (pr = 3)) := by unfold pmB; rw [decide_eq_true hk]; rfl
    rw [hq]
    clear hq hk
    rcases hpr with rfl | rfl
    · cases b
      · go_enter Try.func42, Try.ntmps42
        go_wp2_with fail
        refine (CK.out _).mono ?_
        rintro e w2 ⟨rfl, hb⟩
        replace K := hide (btrans K.out hb)
        replace X := hide (X.out.below hb)
        clear hb
        try clear x0 x1 x2 x3 x4 x5
        obtain ⟨x0, x1, x2, x3, x4, x5⟩ := X.out.cells
        go_wp2
        go_ret
        exact ⟨ret_bool (by simp), K.out⟩
      · go_enter Try.func42, Try.ntmps42
        go_wp2_with fail
        refine (CK.out _).mono ?_
        rintro e w2 ⟨rfl, hb⟩
        replace K := hide (btrans K.out hb)
        replace X := hide (X.out.below hb)
        clear hb
        try clear x0 x1 x2 x3 x4 x5
        obtain ⟨x0, x1, x2, x3, x4, x5⟩ := X.out.cells
        go_wp2
        go_ret
        exact ⟨ret_bool (by simp), K.out⟩
    · cases b
      · go_enter Try.func42, Try.ntmps42
        go_wp2_with fail
        refine (CK.out _).mono ?_
        rintro e w2 ⟨rfl, hb⟩
        replace K := hide (btrans K.out hb)
        replace X := hide (X.out.below hb)
        clear hb
        try clear x0 x1 x2 x3 x4 x5
        obtain ⟨x0, x1, x2, x3, x4, x5⟩ := X.out.cells
        go_wp2
        go_ret
        exact ⟨ret_bool (by simp), K.out⟩
      · go_enter Try.func42, Try.ntmps42
        go_wp2_with fail
        refine (CK.out _).mono ?_
        rintro e w2 ⟨rfl, hb⟩
        replace K := hide (btrans K.out hb)
        replace X := hide (X.out.below hb)
        clear hb
        try clear x0 x1 x2 x3 x4 x5
        obtain ⟨x0, x1, x2, x3, x4, x5⟩ := X.out.cells
        go_wp2
        go_ret
        exact ⟨ret_bool (by simp), K.out⟩
  · have hc2 : (ckE ⟨st, pg, pr, fl, fi, ix⟩ != 0) = true := bne_iff_ne.2 (fun h => hk (ok_iff.1 h))
    have hc3 : (ckE ⟨st, pg, pr, fl, fi, ix⟩ == 0) = false := beq_eq_false_iff_ne.2 (fun h => hk (ok_iff.1 h))
    generalize ckE ⟨st, pg, pr, fl, fi, ix⟩ = ca at *
    have hq : pmB ⟨st, pg, pr, fl, fi, ix⟩ b = false := by unfold pmB; rw [decide_eq_false hk]; rfl
    rw [hq]
    clear hq hk
    go_enter Try.func42, Try.ntmps42
    go_wp2_with fail
    refine (CK.out _).mono ?_
    rintro e w2 ⟨rfl, hb⟩
    replace K := hide (btrans K.out hb)
    replace X := hide (X.out.below hb)
    clear hb
    try clear x0 x1 x2 x3 x4 x5
    obtain ⟨x0, x1, x2, x3, x4, x5⟩ := X.out.cells
    go_wp2
    go_ret
    exact ⟨rfl, K.out⟩
set_option maxRecDepth 100000 in
set_option maxHeartbeats 4000000 in
theorem rmgb_any (st pg pr fl fi ix st2 pg2 pr2 fl2 fi2 ix2 : Int) (w : World) (hp : pg ≤ 9223372036854775807) (hp2 : pg2 ≤ 9223372036854775807) : Calls Try.prog 54 #[.agg #[.int .i64 st, .int .i64 pg, .int .i64 pr, .int .i64 fl, .int .i64 fi, .int .i64 ix], .agg #[.int .i64 st2, .int .i64 pg2, .int .i64 pr2, .int .i64 fl2, .int .i64 fi2, .int .i64 ix2]] w fun e w' => e = .returned (.bool (mgB ⟨st, pg, pr, fl, fi, ix⟩ ⟨st2, pg2, pr2, fl2, fi2, ix2⟩)) ∧ Below w.heap.size w w' := by
  have X := hide (show RB ((w.alloc (.cells #[.int .i64 st, .int .i64 pg, .int .i64 pr, .int .i64 fl, .int .i64 fi, .int .i64 ix] 58)).alloc (.cells #[.int .i64 st2, .int .i64 pg2, .int .i64 pr2, .int .i64 fl2, .int .i64 fi2, .int .i64 ix2] 58)) w.heap.size ⟨st, pg, pr, fl, fi, ix⟩ from Box.more (Box.new w 58 #[.int .i64 st, .int .i64 pg, .int .i64 pr, .int .i64 fl, .int .i64 fi, .int .i64 ix]) (.cells #[.int .i64 st2, .int .i64 pg2, .int .i64 pr2, .int .i64 fl2, .int .i64 fi2, .int .i64 ix2] 58))
  have Y := hide (show RB ((w.alloc (.cells #[.int .i64 st, .int .i64 pg, .int .i64 pr, .int .i64 fl, .int .i64 fi, .int .i64 ix] 58)).alloc (.cells #[.int .i64 st2, .int .i64 pg2, .int .i64 pr2, .int .i64 fl2, .int .i64 fi2, .int .i64 ix2] 58)) (w.heap.size + 1) ⟨st2, pg2, pr2, fl2, fi2, ix2⟩ from Box.new2 w (.cells #[.int .i64 st, .int .i64 pg, .int .i64 pr, .int .i64 fl, .int .i64 fi, .int .i64 ix] 58) 58 #[.int .i64 st2, .int .i64 pg2, .int .i64 pr2, .int .i64 fl2, .int .i64 fi2, .int .i64 ix2])
  have K := hide (show Below w.heap.size w ((w.alloc (.cells #[.int .i64 st, .int .i64 pg, .int .i64 pr, .int .i64 fl, .int .i64 fi, .int .i64 ix] 58)).alloc (.cells #[.int .i64 st2, .int .i64 pg2, .int .i64 pr2, .int .i64 fl2, .int .i64 fi2, .int .i64 ix2] 58)) from bal2 w _ _)
  obtain ⟨W0, hW0⟩ : ∃ W0, W0 = (w.alloc (.cells #[.int .i64 st, .int .i64 pg, .int .i64 pr, .int .i64 fl, .int .i64 fi, .int .i64 ix] 58)).alloc (.cells #[.int .i64 st2, .int .i64 pg2, .int .i64 pr2, .int .i64 fl2, .int .i64 fi2, .int .i64 ix2] 58) := ⟨_, rfl⟩
  rw [← hW0] at X Y K
  obtain ⟨g2, hg2⟩ : ∃ g2, g2 = w.heap.size := ⟨_, rfl⟩
  rw [← hg2] at X Y
  have HW := hide hW0
  have HB := hide hg2
  clear hW0 hg2
  have Ca := hide (fun w => rcheck_any st pg pr fl fi ix w hp)
  have Cb := hide (fun w => rcheck_any st2 pg2 pr2 fl2 fi2 ix2 w hp2)
  by_cases ha : Ok ⟨st, pg, pr, fl, fi, ix⟩
  rotate_left 1
  · have hq : mgB ⟨st, pg, pr, fl, fi, ix⟩ ⟨st2, pg2, pr2, fl2, fi2, ix2⟩ = false := decide_eq_false (fun h => ha h.1)
    rw [hq]
    clear hq
    have hc1 : (ckE ⟨st, pg, pr, fl, fi, ix⟩ != 0) = true := bne_iff_ne.2 (fun h => ha (ok_iff.1 h))
    generalize ckE ⟨st, pg, pr, fl, fi, ix⟩ = ca1 at *
    clear ha
    go_enter Try.func54, Try.ntmps54
    go_upto_region 1 with fail
    rw [← HW.out, ← HB.out]
    clear HW HB
    try clear x0 x1 x2 x3 x4 x5
    obtain ⟨x0, x1, x2, x3, x4, x5⟩ := X.out.cells
    try clear y0 y1 y2 y3 y4 y5
    obtain ⟨y0, y1, y2, y3, y4, y5⟩ := Y.out.cells
    go_wp2_with fail
    refine (Ca.out _).mono ?_
    rintro e w2 ⟨rfl, hb⟩
    replace K := hide (btrans K.out hb)
    replace X := hide (X.out.below hb)
    replace Y := hide (Y.out.below hb)
    clear hb
    try clear x0 x1 x2 x3 x4 x5
    obtain ⟨x0, x1, x2, x3, x4, x5⟩ := X.out.cells
    try clear y0 y1 y2 y3 y4 y5
    obtain ⟨y0, y1, y2, y3, y4, y5⟩ := Y.out.cells
    go_wp2
    go_ret
    exact ⟨rfl, K.out⟩
  rw [ok_iff.2 ha] at Ca
  by_cases hb2 : Ok ⟨st2, pg2, pr2, fl2, fi2, ix2⟩
  rotate_left 1
  · have hq : mgB ⟨st, pg, pr, fl, fi, ix⟩ ⟨st2, pg2, pr2, fl2, fi2, ix2⟩ = false := decide_eq_false (fun h => hb2 h.2.1)
    rw [hq]
    clear hq
    have hc2 : (ckE ⟨st2, pg2, pr2, fl2, fi2, ix2⟩ != 0) = true := bne_iff_ne.2 (fun h => hb2 (ok_iff.1 h))
    generalize ckE ⟨st2, pg2, pr2, fl2, fi2, ix2⟩ = ca2 at *
    clear hb2 ha
    go_enter Try.func54, Try.ntmps54
    go_upto_region 1 with fail
    rw [← HW.out, ← HB.out]
    clear HW HB
    try clear x0 x1 x2 x3 x4 x5
    obtain ⟨x0, x1, x2, x3, x4, x5⟩ := X.out.cells
    try clear y0 y1 y2 y3 y4 y5
    obtain ⟨y0, y1, y2, y3, y4, y5⟩ := Y.out.cells
    go_wp2_with fail
    refine (Ca.out _).mono ?_
    rintro e w2 ⟨rfl, hb⟩
    replace K := hide (btrans K.out hb)
    replace X := hide (X.out.below hb)
    replace Y := hide (Y.out.below hb)
    clear hb
    try clear x0 x1 x2 x3 x4 x5
    obtain ⟨x0, x1, x2, x3, x4, x5⟩ := X.out.cells
    try clear y0 y1 y2 y3 y4 y5
    obtain ⟨y0, y1, y2, y3, y4, y5⟩ := Y.out.cells
    go_wp2_with fail
    refine (Cb.out _).mono ?_
    rintro e w3 ⟨rfl, hb⟩
    replace K := hide (btrans K.out hb)
    replace X := hide (X.out.below hb)
    replace Y := hide (Y.out.below hb)
    clear hb
    try clear x0 x1 x2 x3 x4 x5
    obtain ⟨x0, x1, x2, x3, x4, x5⟩ := X.out.cells
    try clear y0 y1 y2 y3 y4 y5
    obtain ⟨y0, y1, y2, y3, y4, y5⟩ := Y.out.cells
    go_wp2
    go_ret
    exact ⟨rfl, K.out⟩
  rw [ok_iff.2 hb2] at Cb
  have o1 := ha.1.1
  have o2 := ha.2.1
  have o3 := ha.2.2.1
  have o4 := ha.2.2.2
  have f0 := ha.1.2.1
  have f1 := ha.1.2.2.1
  have f5 := ha.1.2.2.2.1
  have p4 := hb2.2.2.2
  dsimp only at o1 o2 o3 o4 p4 f0 f1 f5
  have F2 := fun w => flag2 st pg pr fl fi ix w f0 f1
  by_cases h3 : st + pg = st2
  rotate_left 1
  · have hq : mgB ⟨st, pg, pr, fl, fi, ix⟩ ⟨st2, pg2, pr2, fl2, fi2, ix2⟩ = false := decide_eq_false (fun h => h3 h.2.2.2.1)
    rw [hq]
    clear hq
    have e3 : (st + pg != st2) = true := bne_iff_ne.2 h3
    clear h3 F2
    clear ha hb2 o4 p4
    go_enter Try.func54, Try.ntmps54
    go_upto_region 1 with fail
    rw [← HW.out, ← HB.out]
    clear HW HB
    try clear x0 x1 x2 x3 x4 x5
    obtain ⟨x0, x1, x2, x3, x4, x5⟩ := X.out.cells
    try clear y0 y1 y2 y3 y4 y5
    obtain ⟨y0, y1, y2, y3, y4, y5⟩ := Y.out.cells
    go_wp2_with fail
    refine (Ca.out _).mono ?_
    rintro e w2 ⟨rfl, hb⟩
    replace K := hide (btrans K.out hb)
    replace X := hide (X.out.below hb)
    replace Y := hide (Y.out.below hb)
    clear hb
    try clear x0 x1 x2 x3 x4 x5
    obtain ⟨x0, x1, x2, x3, x4, x5⟩ := X.out.cells
    try clear y0 y1 y2 y3 y4 y5
    obtain ⟨y0, y1, y2, y3, y4, y5⟩ := Y.out.cells
    go_wp2_with fail
    refine (Cb.out _).mono ?_
    rintro e w3 ⟨rfl, hb⟩
    replace K := hide (btrans K.out hb)
    replace X := hide (X.out.below hb)
    replace Y := hide (Y.out.below hb)
    clear hb
    try clear x0 x1 x2 x3 x4 x5
    obtain ⟨x0, x1, x2, x3, x4, x5⟩ := X.out.cells
    try clear y0 y1 y2 y3 y4 y5
    obtain ⟨y0, y1, y2, y3, y4, y5⟩ := Y.out.cells
    go_wp2
    go_ret
    exact ⟨rfl, K.out⟩
  have e3 : (st + pg != st2) = false := bne_eq_false_iff_eq.2 h3
  by_cases h7 : fl / 2 % 2 = 1
  · have hq : mgB ⟨st, pg, pr, fl, fi, ix⟩ ⟨st2, pg2, pr2, fl2, fi2, ix2⟩ = false := decide_eq_false (fun h => (by have := h.2.2.1; dsimp only at this; omega))
    rw [hq]
    clear hq
    rw [decide_eq_true h7] at F2
    replace F2 := hide F2
    clear h3 h7
    clear ha hb2 o4 p4
    go_enter Try.func54, Try.ntmps54
    go_upto_region 1 with fail
    rw [← HW.out, ← HB.out]
    clear HW HB
    try clear x0 x1 x2 x3 x4 x5
    obtain ⟨x0, x1, x2, x3, x4, x5⟩ := X.out.cells
    try clear y0 y1 y2 y3 y4 y5
    obtain ⟨y0, y1, y2, y3, y4, y5⟩ := Y.out.cells
    go_wp2_with fail
    refine (Ca.out _).mono ?_
    rintro e w2 ⟨rfl, hb⟩
    replace K := hide (btrans K.out hb)
    replace X := hide (X.out.below hb)
    replace Y := hide (Y.out.below hb)
    clear hb
    try clear x0 x1 x2 x3 x4 x5
    obtain ⟨x0, x1, x2, x3, x4, x5⟩ := X.out.cells
    try clear y0 y1 y2 y3 y4 y5
    obtain ⟨y0, y1, y2, y3, y4, y5⟩ := Y.out.cells
    go_wp2_with fail
    refine (Cb.out _).mono ?_
    rintro e w3 ⟨rfl, hb⟩
    replace K := hide (btrans K.out hb)
    replace X := hide (X.out.below hb)
    replace Y := hide (Y.out.below hb)
    clear hb
    try clear x0 x1 x2 x3 x4 x5
    obtain ⟨x0, x1, x2, x3, x4, x5⟩ := X.out.cells
    try clear y0 y1 y2 y3 y4 y5
    obtain ⟨y0, y1, y2, y3, y4, y5⟩ := Y.out.cells
    go_wp2_with fail
    refine (F2.out _).mono ?_
    rintro e w4 ⟨rfl, hb⟩
    replace K := hide (btrans K.out hb)
    replace X := hide (X.out.below hb)
    replace Y := hide (Y.out.below hb)
    clear hb
    try clear x0 x1 x2 x3 x4 x5
    obtain ⟨x0, x1, x2, x3, x4, x5⟩ := X.out.cells
    try clear y0 y1 y2 y3 y4 y5
    obtain ⟨y0, y1, y2, y3, y4, y5⟩ := Y.out.cells
    go_wp2
    go_ret
    exact ⟨rfl, K.out⟩
  rw [decide_eq_false h7] at F2
  replace F2 := hide F2
  by_cases h4 : pr = pr2
  rotate_left 1
  · have hq : mgB ⟨st, pg, pr, fl, fi, ix⟩ ⟨st2, pg2, pr2, fl2, fi2, ix2⟩ = false := decide_eq_false (fun h => h4 h.2.2.2.2.1)
    rw [hq]
    clear hq
    have e4 : (pr != pr2) = true := bne_iff_ne.2 h4
    clear h4 h3 h7
    clear ha hb2 o4 p4
    go_enter Try.func54, Try.ntmps54
    go_upto_region 1 with fail
    rw [← HW.out, ← HB.out]
    clear HW HB
    try clear x0 x1 x2 x3 x4 x5
    obtain ⟨x0, x1, x2, x3, x4, x5⟩ := X.out.cells
    try clear y0 y1 y2 y3 y4 y5
    obtain ⟨y0, y1, y2, y3, y4, y5⟩ := Y.out.cells
    go_wp2_with fail
    refine (Ca.out _).mono ?_
    rintro e w2 ⟨rfl, hb⟩
    replace K := hide (btrans K.out hb)
    replace X := hide (X.out.below hb)
    replace Y := hide (Y.out.below hb)
    clear hb
    try clear x0 x1 x2 x3 x4 x5
    obtain ⟨x0, x1, x2, x3, x4, x5⟩ := X.out.cells
    try clear y0 y1 y2 y3 y4 y5
    obtain ⟨y0, y1, y2, y3, y4, y5⟩ := Y.out.cells
    go_wp2_with fail
    refine (Cb.out _).mono ?_
    rintro e w3 ⟨rfl, hb⟩
    replace K := hide (btrans K.out hb)
    replace X := hide (X.out.below hb)
    replace Y := hide (Y.out.below hb)
    clear hb
    try clear x0 x1 x2 x3 x4 x5
    obtain ⟨x0, x1, x2, x3, x4, x5⟩ := X.out.cells
    try clear y0 y1 y2 y3 y4 y5
    obtain ⟨y0, y1, y2, y3, y4, y5⟩ := Y.out.cells
    go_wp2_with fail
    refine (F2.out _).mono ?_
    rintro e w4 ⟨rfl, hb⟩
    replace K := hide (btrans K.out hb)
    replace X := hide (X.out.below hb)
    replace Y := hide (Y.out.below hb)
    clear hb
    try clear x0 x1 x2 x3 x4 x5
    obtain ⟨x0, x1, x2, x3, x4, x5⟩ := X.out.cells
    try clear y0 y1 y2 y3 y4 y5
    obtain ⟨y0, y1, y2, y3, y4, y5⟩ := Y.out.cells
    go_wp2
    go_ret
    exact ⟨rfl, K.out⟩
  have e4 : (pr != pr2) = false := bne_eq_false_iff_eq.2 h4
  by_cases h5 : fl = fl2
  rotate_left 1
  · have hq : mgB ⟨st, pg, pr, fl, fi, ix⟩ ⟨st2, pg2, pr2, fl2, fi2, ix2⟩ = false := decide_eq_false (fun h => h5 h.2.2.2.2.2.1)
    rw [hq]
    clear hq
    have e5 : (fl != fl2) = true := bne_iff_ne.2 h5
    clear h5 h3 h7 h4
    clear ha hb2 o4 p4
    go_enter Try.func54, Try.ntmps54
    go_upto_region 1 with fail
    rw [← HW.out, ← HB.out]
    clear HW HB
    try clear x0 x1 x2 x3 x4 x5
    obtain ⟨x0, x1, x2, x3, x4, x5⟩ := X.out.cells
    try clear y0 y1 y2 y3 y4 y5
    obtain ⟨y0, y1, y2, y3, y4, y5⟩ := Y.out.cells
    go_wp2_with fail
    refine (Ca.out _).mono ?_
    rintro e w2 ⟨rfl, hb⟩
    replace K := hide (btrans K.out hb)
    replace X := hide (X.out.below hb)
    replace Y := hide (Y.out.below hb)
    clear hb
    try clear x0 x1 x2 x3 x4 x5
    obtain ⟨x0, x1, x2, x3, x4, x5⟩ := X.out.cells
    try clear y0 y1 y2 y3 y4 y5
    obtain ⟨y0, y1, y2, y3, y4, y5⟩ := Y.out.cells
    go_wp2_with fail
    refine (Cb.out _).mono ?_
    rintro e w3 ⟨rfl, hb⟩
    replace K := hide (btrans K.out hb)
    replace X := hide (X.out.below hb)
    replace Y := hide (Y.out.below hb)
    clear hb
    try clear x0 x1 x2 x3 x4 x5
    obtain ⟨x0, x1, x2, x3, x4, x5⟩ := X.out.cells
    try clear y0 y1 y2 y3 y4 y5
    obtain ⟨y0, y1, y2, y3, y4, y5⟩ := Y.out.cells
    go_wp2_with fail
    refine (F2.out _).mono ?_
    rintro e w4 ⟨rfl, hb⟩
    replace K := hide (btrans K.out hb)
    replace X := hide (X.out.below hb)
    replace Y := hide (Y.out.below hb)
    clear hb
    try clear x0 x1 x2 x3 x4 x5
    obtain ⟨x0, x1, x2, x3, x4, x5⟩ := X.out.cells
    try clear y0 y1 y2 y3 y4 y5
    obtain ⟨y0, y1, y2, y3, y4, y5⟩ := Y.out.cells
    go_wp2
    go_ret
    exact ⟨rfl, K.out⟩
  have e5 : (fl != fl2) = false := bne_eq_false_iff_eq.2 h5
  by_cases h6 : fi = fi2
  rotate_left 1
  · have hq : mgB ⟨st, pg, pr, fl, fi, ix⟩ ⟨st2, pg2, pr2, fl2, fi2, ix2⟩ = false := decide_eq_false (fun h => h6 h.2.2.2.2.2.2.1)
    rw [hq]
    clear hq
    have e6 : (fi != fi2) = true := bne_iff_ne.2 h6
    clear h6 h3 h7 h4 h5
    clear ha hb2 o4 p4
    go_enter Try.func54, Try.ntmps54
    go_upto_region 1 with fail
    rw [← HW.out, ← HB.out]
    clear HW HB
    try clear x0 x1 x2 x3 x4 x5
    obtain ⟨x0, x1, x2, x3, x4, x5⟩ := X.out.cells
    try clear y0 y1 y2 y3 y4 y5
    obtain ⟨y0, y1, y2, y3, y4, y5⟩ := Y.out.cells
    go_wp2_with fail
    refine (Ca.out _).mono ?_
    rintro e w2 ⟨rfl, hb⟩
    replace K := hide (btrans K.out hb)
    replace X := hide (X.out.below hb)
    replace Y := hide (Y.out.below hb)
    clear hb
    try clear x0 x1 x2 x3 x4 x5
    obtain ⟨x0, x1, x2, x3, x4, x5⟩ := X.out.cells
    try clear y0 y1 y2 y3 y4 y5
    obtain ⟨y0, y1, y2, y3, y4, y5⟩ := Y.out.cells
    go_wp2_with fail
    refine (Cb.out _).mono ?_
    rintro e w3 ⟨rfl, hb⟩
    replace K := hide (btrans K.out hb)
    replace X := hide (X.out.below hb)
    replace Y := hide (Y.out.below hb)
    clear hb
    try clear x0 x1 x2 x3 x4 x5
    obtain ⟨x0, x1, x2, x3, x4, x5⟩ := X.out.cells
    try clear y0 y1 y2 y3 y4 y5
    obtain ⟨y0, y1, y2, y3, y4, y5⟩ := Y.out.cells
    go_wp2_with fail
    refine (F2.out _).mono ?_
    rintro e w4 ⟨rfl, hb⟩
    replace K := hide (btrans K.out hb)
    replace X := hide (X.out.below hb)
    replace Y := hide (Y.out.below hb)
    clear hb
    try clear x0 x1 x2 x3 x4 x5
    obtain ⟨x0, x1, x2, x3, x4, x5⟩ := X.out.cells
    try clear y0 y1 y2 y3 y4 y5
    obtain ⟨y0, y1, y2, y3, y4, y5⟩ := Y.out.cells
    go_wp2
    go_ret
    exact ⟨rfl, K.out⟩
  have e6 : (fi != fi2) = false := bne_eq_false_iff_eq.2 h6
  by_cases h8 : fi = -1
  · have hq : mgB ⟨st, pg, pr, fl, fi, ix⟩ ⟨st2, pg2, pr2, fl2, fi2, ix2⟩ = true := decide_eq_true ⟨ha, hb2, by dsimp only; omega, h3, h4, h5, h6, .inl h8⟩
    rw [hq]
    have e8 : fi < 0 := by omega
    clear hq h8 h3 h7 h4 h5 h6
    clear ha hb2 o4 p4
    go_enter Try.func54, Try.ntmps54
    go_upto_region 1 with fail
    rw [← HW.out, ← HB.out]
    clear HW HB
    try clear x0 x1 x2 x3 x4 x5
    obtain ⟨x0, x1, x2, x3, x4, x5⟩ := X.out.cells
    try clear y0 y1 y2 y3 y4 y5
    obtain ⟨y0, y1, y2, y3, y4, y5⟩ := Y.out.cells
    go_wp2_with fail
    refine (Ca.out _).mono ?_
    rintro e w2 ⟨rfl, hb⟩
    replace K := hide (btrans K.out hb)
    replace X := hide (X.out.below hb)
    replace Y := hide (Y.out.below hb)
    clear hb
    try clear x0 x1 x2 x3 x4 x5
    obtain ⟨x0, x1, x2, x3, x4, x5⟩ := X.out.cells
    try clear y0 y1 y2 y3 y4 y5
    obtain ⟨y0, y1, y2, y3, y4, y5⟩ := Y.out.cells
    go_wp2_with fail
    refine (Cb.out _).mono ?_
    rintro e w3 ⟨rfl, hb⟩
    replace K := hide (btrans K.out hb)
    replace X := hide (X.out.below hb)
    replace Y := hide (Y.out.below hb)
    clear hb
    try clear x0 x1 x2 x3 x4 x5
    obtain ⟨x0, x1, x2, x3, x4, x5⟩ := X.out.cells
    try clear y0 y1 y2 y3 y4 y5
    obtain ⟨y0, y1, y2, y3, y4, y5⟩ := Y.out.cells
    go_wp2_with fail
    refine (F2.out _).mono ?_
    rintro e w4 ⟨rfl, hb⟩
    replace K := hide (btrans K.out hb)
    replace X := hide (X.out.below hb)
    replace Y := hide (Y.out.below hb)
    clear hb
    try clear x0 x1 x2 x3 x4 x5
    obtain ⟨x0, x1, x2, x3, x4, x5⟩ := X.out.cells
    try clear y0 y1 y2 y3 y4 y5
    obtain ⟨y0, y1, y2, y3, y4, y5⟩ := Y.out.cells
    go_wp2
    go_ret
    exact ⟨rfl, K.out⟩
  have hq : mgB ⟨st, pg, pr, fl, fi, ix⟩ ⟨st2, pg2, pr2, fl2, fi2, ix2⟩ = decide (ix2 = ix + pg) := by
    unfold mgB
    rw [decide_eq_decide]
    constructor
    · intro h
      exact h.2.2.2.2.2.2.2.resolve_left h8
    · intro h
      exact ⟨ha, hb2, by dsimp only; omega, h3, h4, h5, h6, .inr h⟩
  rw [hq]
  have e8 : ¬ fi < 0 := by omega
  have o5 := o4.2 h8
  clear hq h8 h3 h7 h4 h5 h6
  clear ha hb2 o4 p4
  go_enter Try.func54, Try.ntmps54
  go_upto_region 1 with fail
  rw [← HW.out, ← HB.out]
  clear HW HB
  try clear x0 x1 x2 x3 x4 x5
  obtain ⟨x0, x1, x2, x3, x4, x5⟩ := X.out.cells
  try clear y0 y1 y2 y3 y4 y5
  obtain ⟨y0, y1, y2, y3, y4, y5⟩ := Y.out.cells
  go_wp2_with fail
  refine (Ca.out _).mono ?_
  rintro e w2 ⟨rfl, hb⟩
  replace K := hide (btrans K.out hb)
  replace X := hide (X.out.below hb)
  replace Y := hide (Y.out.below hb)
  clear hb
  try clear x0 x1 x2 x3 x4 x5
  obtain ⟨x0, x1, x2, x3, x4, x5⟩ := X.out.cells
  try clear y0 y1 y2 y3 y4 y5
  obtain ⟨y0, y1, y2, y3, y4, y5⟩ := Y.out.cells
  go_wp2_with fail
  refine (Cb.out _).mono ?_
  rintro e w3 ⟨rfl, hb⟩
  replace K := hide (btrans K.out hb)
  replace X := hide (X.out.below hb)
  replace Y := hide (Y.out.below hb)
  clear hb
  try clear x0 x1 x2 x3 x4 x5
  obtain ⟨x0, x1, x2, x3, x4, x5⟩ := X.out.cells
  try clear y0 y1 y2 y3 y4 y5
  obtain ⟨y0, y1, y2, y3, y4, y5⟩ := Y.out.cells
  go_wp2_with fail
  refine (F2.out _).mono ?_
  rintro e w4 ⟨rfl, hb⟩
  replace K := hide (btrans K.out hb)
  replace X := hide (X.out.below hb)
  replace Y := hide (Y.out.below hb)
  clear hb
  try clear x0 x1 x2 x3 x4 x5
  obtain ⟨x0, x1, x2, x3, x4, x5⟩ := X.out.cells
  try clear y0 y1 y2 y3 y4 y5
  obtain ⟨y0, y1, y2, y3, y4, y5⟩ := Y.out.cells
  go_wp2
  go_ret
  exact ⟨ret_bool (by rw [Bool.eq_iff_iff]; simp; intro h; omega), K.out⟩
set_option maxRecDepth 100000 in
set_option maxHeartbeats 4000000 in
theorem rmerge_any (st pg pr fl fi ix st2 pg2 pr2 fl2 fi2 ix2 : Int) (w : World) (hp : pg ≤ 9223372036854775807) (hp2 : pg2 ≤ 9223372036854775807) : Calls Try.prog 52 #[.agg #[.int .i64 st, .int .i64 pg, .int .i64 pr, .int .i64 fl, .int .i64 fi, .int .i64 ix], .agg #[.int .i64 st2, .int .i64 pg2, .int .i64 pr2, .int .i64 fl2, .int .i64 fi2, .int .i64 ix2]] w (A2 (mgR ⟨st, pg, pr, fl, fi, ix⟩ ⟨st2, pg2, pr2, fl2, fi2, ix2⟩) (mgE ⟨st, pg, pr, fl, fi, ix⟩ ⟨st2, pg2, pr2, fl2, fi2, ix2⟩) w) := by
  unfold A2
  have X := hide (show RB (((w.alloc (.cells #[.int .i64 st, .int .i64 pg, .int .i64 pr, .int .i64 fl, .int .i64 fi, .int .i64 ix] 58)).alloc (.cells #[.int .i64 st2, .int .i64 pg2, .int .i64 pr2, .int .i64 fl2, .int .i64 fi2, .int .i64 ix2] 58)).alloc (.cells #[.int .i64 0, .int .i64 0, .int .i64 0, .int .i64 0, .int .i64 0, .int .i64 0] 58)) w.heap.size ⟨st, pg, pr, fl, fi, ix⟩ from Box.more (Box.more (Box.new w 58 #[.int .i64 st, .int .i64 pg, .int .i64 pr, .int .i64 fl, .int .i64 fi, .int .i64 ix]) (.cells #[.int .i64 st2, .int .i64 pg2, .int .i64 pr2, .int .i64 fl2, .int .i64 fi2, .int .i64 ix2] 58)) (.cells #[.int .i64 0, .int .i64 0, .int .i64 0, .int .i64 0, .int .i64 0, .int .i64 0] 58))
  have Y := hide (show RB (((w.alloc (.cells #[.int .i64 st, .int .i64 pg, .int .i64 pr, .int .i64 fl, .int .i64 fi, .int .i64 ix] 58)).alloc (.cells #[.int .i64 st2, .int .i64 pg2, .int .i64 pr2, .int .i64 fl2, .int .i64 fi2, .int .i64 ix2] 58)).alloc (.cells #[.int .i64 0, .int .i64 0, .int .i64 0, .int .i64 0, .int .i64 0, .int .i64 0] 58)) (w.heap.size + 1) ⟨st2, pg2, pr2, fl2, fi2, ix2⟩ from Box.more (Box.new2 w (.cells #[.int .i64 st, .int .i64 pg, .int .i64 pr, .int .i64 fl, .int .i64 fi, .int .i64 ix] 58) 58 #[.int .i64 st2, .int .i64 pg2, .int .i64 pr2, .int .i64 fl2, .int .i64 fi2, .int .i64 ix2]) (.cells #[.int .i64 0, .int .i64 0, .int .i64 0, .int .i64 0, .int .i64 0, .int .i64 0] 58))
  have Z := hide (show RB (((w.alloc (.cells #[.int .i64 st, .int .i64 pg, .int .i64 pr, .int .i64 fl, .int .i64 fi, .int .i64 ix] 58)).alloc (.cells #[.int .i64 st2, .int .i64 pg2, .int .i64 pr2, .int .i64 fl2, .int .i64 fi2, .int .i64 ix2] 58)).alloc (.cells #[.int .i64 0, .int .i64 0, .int .i64 0, .int .i64 0, .int .i64 0, .int .i64 0] 58)) (w.heap.size + 2) ⟨0, 0, 0, 0, 0, 0⟩ from Box.new3 w (.cells #[.int .i64 st, .int .i64 pg, .int .i64 pr, .int .i64 fl, .int .i64 fi, .int .i64 ix] 58) (.cells #[.int .i64 st2, .int .i64 pg2, .int .i64 pr2, .int .i64 fl2, .int .i64 fi2, .int .i64 ix2] 58) 58 #[.int .i64 0, .int .i64 0, .int .i64 0, .int .i64 0, .int .i64 0, .int .i64 0])
  have K := hide (show Below w.heap.size w (((w.alloc (.cells #[.int .i64 st, .int .i64 pg, .int .i64 pr, .int .i64 fl, .int .i64 fi, .int .i64 ix] 58)).alloc (.cells #[.int .i64 st2, .int .i64 pg2, .int .i64 pr2, .int .i64 fl2, .int .i64 fi2, .int .i64 ix2] 58)).alloc (.cells #[.int .i64 0, .int .i64 0, .int .i64 0, .int .i64 0, .int .i64 0, .int .i64 0] 58)) from bal3 w _ _ _)
  obtain ⟨W0, hW0⟩ : ∃ W0, W0 = ((w.alloc (.cells #[.int .i64 st, .int .i64 pg, .int .i64 pr, .int .i64 fl, .int .i64 fi, .int .i64 ix] 58)).alloc (.cells #[.int .i64 st2, .int .i64 pg2, .int .i64 pr2, .int .i64 fl2, .int .i64 fi2, .int .i64 ix2] 58)).alloc (.cells #[.int .i64 0, .int .i64 0, .int .i64 0, .int .i64 0, .int .i64 0, .int .i64 0] 58) := ⟨_, rfl⟩
  rw [← hW0] at X Y Z K
  obtain ⟨g2, hg2⟩ : ∃ g2, g2 = w.heap.size := ⟨_, rfl⟩
  have HG := hide (show w.heap.size ≤ g2 by omega)
  rw [← hg2] at X Y Z
  have HW := hide hW0
  have HB := hide hg2
  clear hW0 hg2
  have Ca := hide (fun w => rcheck_any st pg pr fl fi ix w hp)
  have Cb := hide (fun w => rcheck_any st2 pg2 pr2 fl2 fi2 ix2 w hp2)
  have Mg := hide (fun w => rmgb_any st pg pr fl fi ix st2 pg2 pr2 fl2 fi2 ix2 w hp hp2)
  by_cases ha : ckE ⟨st, pg, pr, fl, fi, ix⟩ = 0
  rotate_left 1
  · have E := hide (mgE_a (b := ⟨st2, pg2, pr2, fl2, fi2, ix2⟩) ha)
    have ha2 := ne_bool ha
    generalize ckE ⟨st, pg, pr, fl, fi, ix⟩ = ca at *
    clear ha
    go_enter Try.func52, Try.ntmps52
    go_upto_region 1 with fail
    rw [← HW.out, ← HB.out]
    clear HW HB
    try clear x0 x1 x2 x3 x4 x5
    obtain ⟨x0, x1, x2, x3, x4, x5⟩ := X.out.cells
    try clear y0 y1 y2 y3 y4 y5
    obtain ⟨y0, y1, y2, y3, y4, y5⟩ := Y.out.cells
    try clear z0 z1 z2 z3 z4 z5
    obtain ⟨z0, z1, z2, z3, z4, z5⟩ := Z.out.cells
    go_wp2_with fail
    refine (Ca.out _).mono ?_
    rintro e w2 ⟨rfl, hb⟩
    replace K := hide (btrans K.out hb)
    replace X := hide (X.out.below hb)
    replace Y := hide (Y.out.below hb)
    replace Z := hide (Z.out.below hb)
    clear hb
    try clear x0 x1 x2 x3 x4 x5
    obtain ⟨x0, x1, x2, x3, x4, x5⟩ := X.out.cells
    try clear y0 y1 y2 y3 y4 y5
    obtain ⟨y0, y1, y2, y3, y4, y5⟩ := Y.out.cells
    try clear z0 z1 z2 z3 z4 z5
    obtain ⟨z0, z1, z2, z3, z4, z5⟩ := Z.out.cells
    obtain ⟨f0, f1, f2, f3, f4, f5⟩ := Z.out.free
    go_wp2
    exact ret_r2 rfl rfl rfl rfl (RB.put6 Z.out) E.out ⟨rfl, bset6 K.out (Nat.le_trans HG.out (Nat.le_add_right _ 2))⟩
  have A0 := hide ha
  rw [ha] at Ca
  clear ha
  by_cases hb2 : ckE ⟨st2, pg2, pr2, fl2, fi2, ix2⟩ = 0
  rotate_left 1
  · have E := hide (mgE_b A0.out hb2)
    have hb3 := ne_bool hb2
    clear A0
    generalize ckE ⟨st2, pg2, pr2, fl2, fi2, ix2⟩ = cb at *
    clear hb2
    go_enter Try.func52, Try.ntmps52
    go_upto_region 1 with fail
    rw [← HW.out, ← HB.out]
    clear HW HB
    try clear x0 x1 x2 x3 x4 x5
    obtain ⟨x0, x1, x2, x3, x4, x5⟩ := X.out.cells
    try clear y0 y1 y2 y3 y4 y5
    obtain ⟨y0, y1, y2, y3, y4, y5⟩ := Y.out.cells
    try clear z0 z1 z2 z3 z4 z5
    obtain ⟨z0, z1, z2, z3, z4, z5⟩ := Z.out.cells
    go_wp2_with fail
    refine (Ca.out _).mono ?_
    rintro e w2 ⟨rfl, hb⟩
    replace K := hide (btrans K.out hb)
    replace X := hide (X.out.below hb)
    replace Y := hide (Y.out.below hb)
    replace Z := hide (Z.out.below hb)
    clear hb
    try clear x0 x1 x2 x3 x4 x5
    obtain ⟨x0, x1, x2, x3, x4, x5⟩ := X.out.cells
    try clear y0 y1 y2 y3 y4 y5
    obtain ⟨y0, y1, y2, y3, y4, y5⟩ := Y.out.cells
    try clear z0 z1 z2 z3 z4 z5
    obtain ⟨z0, z1, z2, z3, z4, z5⟩ := Z.out.cells
    go_wp2_with fail
    refine (Cb.out _).mono ?_
    rintro e w3 ⟨rfl, hb⟩
    replace K := hide (btrans K.out hb)
    replace X := hide (X.out.below hb)
    replace Y := hide (Y.out.below hb)
    replace Z := hide (Z.out.below hb)
    clear hb
    try clear x0 x1 x2 x3 x4 x5
    obtain ⟨x0, x1, x2, x3, x4, x5⟩ := X.out.cells
    try clear y0 y1 y2 y3 y4 y5
    obtain ⟨y0, y1, y2, y3, y4, y5⟩ := Y.out.cells
    try clear z0 z1 z2 z3 z4 z5
    obtain ⟨z0, z1, z2, z3, z4, z5⟩ := Z.out.cells
    obtain ⟨f0, f1, f2, f3, f4, f5⟩ := Z.out.free
    go_wp2
    exact ret_r2 rfl rfl rfl rfl (RB.put6 Z.out) E.out ⟨rfl, bset6 K.out (Nat.le_trans HG.out (Nat.le_add_right _ 2))⟩
  have B0 := hide hb2
  rw [hb2] at Cb
  clear hb2
  by_cases hm : mgB ⟨st, pg, pr, fl, fi, ix⟩ ⟨st2, pg2, pr2, fl2, fi2, ix2⟩ = true
  rotate_left 1
  · rw [Bool.not_eq_true] at hm
    have E := hide (mgE_s A0.out B0.out hm)
    rw [hm] at Mg
    clear hm A0 B0
    go_enter Try.func52, Try.ntmps52
    go_upto_region 1 with fail
    rw [← HW.out, ← HB.out]
    clear HW HB
    try clear x0 x1 x2 x3 x4 x5
    obtain ⟨x0, x1, x2, x3, x4, x5⟩ := X.out.cells
    try clear y0 y1 y2 y3 y4 y5
    obtain ⟨y0, y1, y2, y3, y4, y5⟩ := Y.out.cells
    try clear z0 z1 z2 z3 z4 z5
    obtain ⟨z0, z1, z2, z3, z4, z5⟩ := Z.out.cells
    go_wp2_with fail
    refine (Ca.out _).mono ?_
    rintro e w2 ⟨rfl, hb⟩
    replace K := hide (btrans K.out hb)
    replace X := hide (X.out.below hb)
    replace Y := hide (Y.out.below hb)
    replace Z := hide (Z.out.below hb)
    clear hb
    try clear x0 x1 x2 x3 x4 x5
    obtain ⟨x0, x1, x2, x3, x4, x5⟩ := X.out.cells
    try clear y0 y1 y2 y3 y4 y5
    obtain ⟨y0, y1, y2, y3, y4, y5⟩ := Y.out.cells
    try clear z0 z1 z2 z3 z4 z5
    obtain ⟨z0, z1, z2, z3, z4, z5⟩ := Z.out.cells
    go_wp2_with fail
    refine (Cb.out _).mono ?_
    rintro e w3 ⟨rfl, hb⟩
    replace K := hide (btrans K.out hb)
    replace X := hide (X.out.below hb)
    replace Y := hide (Y.out.below hb)
    replace Z := hide (Z.out.below hb)
    clear hb
    try clear x0 x1 x2 x3 x4 x5
    obtain ⟨x0, x1, x2, x3, x4, x5⟩ := X.out.cells
    try clear y0 y1 y2 y3 y4 y5
    obtain ⟨y0, y1, y2, y3, y4, y5⟩ := Y.out.cells
    try clear z0 z1 z2 z3 z4 z5
    obtain ⟨z0, z1, z2, z3, z4, z5⟩ := Z.out.cells
    go_wp2_with fail
    refine (Mg.out _).mono ?_
    rintro e w4 ⟨rfl, hb⟩
    replace K := hide (btrans K.out hb)
    replace X := hide (X.out.below hb)
    replace Y := hide (Y.out.below hb)
    replace Z := hide (Z.out.below hb)
    clear hb
    try clear x0 x1 x2 x3 x4 x5
    obtain ⟨x0, x1, x2, x3, x4, x5⟩ := X.out.cells
    try clear y0 y1 y2 y3 y4 y5
    obtain ⟨y0, y1, y2, y3, y4, y5⟩ := Y.out.cells
    try clear z0 z1 z2 z3 z4 z5
    obtain ⟨z0, z1, z2, z3, z4, z5⟩ := Z.out.cells
    obtain ⟨f0, f1, f2, f3, f4, f5⟩ := Z.out.free
    go_wp2
    exact ret_r2 rfl rfl rfl rfl (RB.put6 Z.out) E.out ⟨rfl, bset6 K.out (Nat.le_trans HG.out (Nat.le_add_right _ 2))⟩
  have E := hide (mgE_0 A0.out B0.out hm)
  rw [hm] at Mg
  have k1 := (ok_of A0.out).2
  have k2 := (ok_of B0.out).2
  have l1 := (ok_of A0.out).1.1
  have l2 := (ok_of B0.out).1.1
  unfold rngd at k1 k2
  dsimp only at k1 k2 l1 l2
  have s1 : pg + pg2 ≤ 1024 := by omega
  have s2 : 0 ≤ pg + pg2 := by omega
  clear k1 k2
  clear hm A0 B0
  go_enter Try.func52, Try.ntmps52
  go_upto_region 1 with fail
  rw [← HW.out, ← HB.out]
  clear HW HB
  try clear x0 x1 x2 x3 x4 x5
  obtain ⟨x0, x1, x2, x3, x4, x5⟩ := X.out.cells
  try clear y0 y1 y2 y3 y4 y5
  obtain ⟨y0, y1, y2, y3, y4, y5⟩ := Y.out.cells
  try clear z0 z1 z2 z3 z4 z5
  obtain ⟨z0, z1, z2, z3, z4, z5⟩ := Z.out.cells
  go_wp2_with fail
  refine (Ca.out _).mono ?_
  rintro e w2 ⟨rfl, hb⟩
  replace K := hide (btrans K.out hb)
  replace X := hide (X.out.below hb)
  replace Y := hide (Y.out.below hb)
  replace Z := hide (Z.out.below hb)
  clear hb
  try clear x0 x1 x2 x3 x4 x5
  obtain ⟨x0, x1, x2, x3, x4, x5⟩ := X.out.cells
  try clear y0 y1 y2 y3 y4 y5
  obtain ⟨y0, y1, y2, y3, y4, y5⟩ := Y.out.cells
  try clear z0 z1 z2 z3 z4 z5
  obtain ⟨z0, z1, z2, z3, z4, z5⟩ := Z.out.cells
  go_wp2_with fail
  refine (Cb.out _).mono ?_
  rintro e w3 ⟨rfl, hb⟩
  replace K := hide (btrans K.out hb)
  replace X := hide (X.out.below hb)
  replace Y := hide (Y.out.below hb)
  replace Z := hide (Z.out.below hb)
  clear hb
  try clear x0 x1 x2 x3 x4 x5
  obtain ⟨x0, x1, x2, x3, x4, x5⟩ := X.out.cells
  try clear y0 y1 y2 y3 y4 y5
  obtain ⟨y0, y1, y2, y3, y4, y5⟩ := Y.out.cells
  try clear z0 z1 z2 z3 z4 z5
  obtain ⟨z0, z1, z2, z3, z4, z5⟩ := Z.out.cells
  go_wp2_with fail
  refine (Mg.out _).mono ?_
  rintro e w4 ⟨rfl, hb⟩
  replace K := hide (btrans K.out hb)
  replace X := hide (X.out.below hb)
  replace Y := hide (Y.out.below hb)
  replace Z := hide (Z.out.below hb)
  clear hb
  try clear x0 x1 x2 x3 x4 x5
  obtain ⟨x0, x1, x2, x3, x4, x5⟩ := X.out.cells
  try clear y0 y1 y2 y3 y4 y5
  obtain ⟨y0, y1, y2, y3, y4, y5⟩ := Y.out.cells
  try clear z0 z1 z2 z3 z4 z5
  obtain ⟨z0, z1, z2, z3, z4, z5⟩ := Z.out.cells
  obtain ⟨q0, q1, q2, q3, q4, q5⟩ := X.out.free
  go_upto_region 10 with fail
  replace X := hide (RB.put1 (z := pg + pg2) X.out)
  replace Z := hide (show RB (w4.setCell ⟨g2, 1, none⟩ (.int .i64 (pg + pg2))) (g2 + 2) ⟨0, 0, 0, 0, 0, 0⟩ from Box.far Z.out (by omega) _)
  replace K := hide (bset K.out (show w.heap.size ≤ g2 from HG.out) (p := ⟨g2, 1, none⟩) (.int .i64 (pg + pg2)))
  generalize w4.setCell ⟨g2, 1, none⟩ (.int .i64 (pg + pg2)) = w5 at *
  clear Y x0 x1 x2 x3 x4 x5 y0 y1 y2 y3 y4 y5 z0 z1 z2 z3 z4 z5 q0 q1 q2 q3 q4 q5
  try clear x0 x1 x2 x3 x4 x5
  obtain ⟨x0, x1, x2, x3, x4, x5⟩ := X.out.cells
  try clear z0 z1 z2 z3 z4 z5
  obtain ⟨z0, z1, z2, z3, z4, z5⟩ := Z.out.cells
  obtain ⟨f0, f1, f2, f3, f4, f5⟩ := Z.out.free
  go_wp2
  exact ret_r2 rfl rfl rfl rfl (RB.put6 Z.out) E.out ⟨rfl, bset6 K.out (Nat.le_trans HG.out (Nat.le_add_right _ 2))⟩
end Go.Proofs.Ytimclgmajhhheaa.Rg
