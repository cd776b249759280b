import Derived.Test.YtimclgmajhhheaaT1
namespace Go.Proofs.Ytimclgmajhhheaa.Rg
open Go Go.RowKit Ac
set_option linter.unusedVariables false
set_option linter.unusedSimpArgs false
set_option maxHeartbeats 2000000 in
theorem rng_any (st pg pr fl fi ix : Int) (w : World) (hp : pg ≤ 9223372036854775807) (h1 : 1 ≤ pg) : Calls Try.prog 90 #[.agg #[.int .i64 st, .int .i64 pg, .int .i64 pr, .int .i64 fl, .int .i64 fi, .int .i64 ix]] w fun e w' => e = .returned (.bool (decide (rngd ⟨st, pg, pr, fl, fi, ix⟩))) ∧ Below w.heap.size w w' := by
  have K := hide (bal (brefl w) (.cells #[.int .i64 st, .int .i64 pg, .int .i64 pr, .int .i64 fl, .int .i64 fi, .int .i64 ix] 58))
  by_cases h2 : st < 0
  · rw [decide_eq_false (show ¬ rngd ⟨st, pg, pr, fl, fi, ix⟩ from fun h => by unfold rngd at h; dsimp only at h; omega)]
    go_enter Try.func90, Try.ntmps90
    go_wp2
    go_ret
    exact ⟨rfl, K.out⟩
  have e0 : (512 - pg < st) ↔ 512 < st + pg := by omega
  by_cases h3 : 512 - pg < st
  · rw [decide_eq_false (show ¬ rngd ⟨st, pg, pr, fl, fi, ix⟩ from fun h => by unfold rngd at h; dsimp only at h; omega)]
    go_enter Try.func90, Try.ntmps90
    go_wp2
    go_ret
    exact ⟨rfl, K.out⟩
  have AN := anon_any st pg pr fl fi ix (w.alloc (.cells #[.int .i64 st, .int .i64 pg, .int .i64 pr, .int .i64 fl, .int .i64 fi, .int .i64 ix] 58)) hp
  unfold anB at AN
  dsimp only at AN
  by_cases h4 : fi = -1
  · subst h4
    have hq : decide (rngd ⟨st, pg, pr, fl, -1, ix⟩) = decide (ix = 0) := by rw [decide_eq_decide]; unfold rngd; dsimp only; omega
    rw [hq]
    rw [decide_eq_true rfl] at AN
    replace AN := hide AN
    clear hq
    have X := hide (RB.new w st pg pr fl (-1) ix)
    go_enter Try.func90, Try.ntmps90
    go_wp2_with fail
    refine (AN.out).mono ?_
    rintro e w2 ⟨rfl, hb⟩
    replace K := hide (btrans K.out hb)
    replace X := hide (X.out.below hb)
    clear hb
    try clear x0 x1 x2 x3 x4 x5
    obtain ⟨x0, x1, x2, x3, x4, x5⟩ := X.out.cells
    go_wp2
    go_ret
    exact ⟨ret_bool (by rw [Bool.eq_iff_iff]; simp), K.out⟩
  rw [decide_eq_false h4] at AN
  replace AN := hide AN
  by_cases h5 : ix < 0
  · rw [decide_eq_false (show ¬ rngd ⟨st, pg, pr, fl, fi, ix⟩ from fun h => by unfold rngd at h; dsimp only at h; omega)]
    clear h4
    have X := hide (RB.new w st pg pr fl fi ix)
    go_enter Try.func90, Try.ntmps90
    go_wp2_with fail
    refine (AN.out).mono ?_
    rintro e w2 ⟨rfl, hb⟩
    replace K := hide (btrans K.out hb)
    replace X := hide (X.out.below hb)
    clear hb
    try clear x0 x1 x2 x3 x4 x5
    obtain ⟨x0, x1, x2, x3, x4, x5⟩ := X.out.cells
    go_wp2
    go_ret
    exact ⟨rfl, K.out⟩
  have hq : decide (rngd ⟨st, pg, pr, fl, fi, ix⟩) = decide (ix ≤ 16 - pg) := by rw [decide_eq_decide]; unfold rngd; dsimp only; omega
  rw [hq]
  clear hq h4
  have h6 : pg ≤ 512 := by omega
  have h7 : 0 ≤ ix := by omega
  have X := hide (RB.new w st pg pr fl fi ix)
  go_enter Try.func90, Try.ntmps90
  go_wp2_with fail
  refine (AN.out).mono ?_
  rintro e w2 ⟨rfl, hb⟩
  replace K := hide (btrans K.out hb)
  replace X := hide (X.out.below hb)
  clear hb
  try clear x0 x1 x2 x3 x4 x5
  obtain ⟨x0, x1, x2, x3, x4, x5⟩ := X.out.cells
  go_wp2
  go_ret
  exact ⟨rfl, K.out⟩
theorem Hid.mp {p q : Prop} (h : Hid (p → q)) (x : p) : q := h.out x
set_option maxHeartbeats 2000000 in
theorem check_any : FI 38 ckE := by
  intro st pg pr fl fi ix w hp
  have K := hide (bal (brefl w) (.cells #[.int .i64 st, .int .i64 pg, .int .i64 pr, .int .i64 fl, .int .i64 fi, .int .i64 ix] 58))
  have X := hide (RB.new w st pg pr fl fi ix)
  have MN := hide (fun w => mean_any st pg pr fl fi ix w hp)
  unfold mnB at MN
  have G1 := fun w (h : 1 ≤ pg) => rng_any st pg pr fl fi ix w hp h
  by_cases h1 : mean ⟨st, pg, pr, fl, fi, ix⟩
  rotate_left 1
  · rw [ckE_1 h1]
    rw [decide_eq_false h1] at MN
    clear h1 G1
    go_enter Try.func38, Try.ntmps38
    go_wp2_with fail
    refine (MN.out _).mono ?_
    rintro e w2 ⟨rfl, hb⟩
    replace K := hide (btrans K.out hb)
    replace X := hide (X.out.below hb)
    clear hb
    try clear x0 x1 x2 x3 x4 x5
    obtain ⟨x0, x1, x2, x3, x4, x5⟩ := X.out.cells
    go_wp2
    go_ret
    exact ⟨rfl, K.out⟩
  have hg : 1 ≤ pg := h1.1
  have RG := hide (fun w => G1 w hg)
  rw [decide_eq_true h1] at MN
  by_cases h2 : rngd ⟨st, pg, pr, fl, fi, ix⟩
  · rw [ckE_0 h1 h2]
    rw [decide_eq_true h2] at RG
    clear h1 h2 G1 hg
    go_enter Try.func38, Try.ntmps38
    go_wp2_with fail
    refine (MN.out _).mono ?_
    rintro e w2 ⟨rfl, hb⟩
    replace K := hide (btrans K.out hb)
    replace X := hide (X.out.below hb)
    clear hb
    try clear x0 x1 x2 x3 x4 x5
    obtain ⟨x0, x1, x2, x3, x4, x5⟩ := X.out.cells
    go_wp2_with fail
    refine (RG.out _).mono ?_
    rintro e w3 ⟨rfl, hb⟩
    replace K := hide (btrans K.out hb)
    replace X := hide (X.out.below hb)
    clear hb
    try clear x0 x1 x2 x3 x4 x5
    obtain ⟨x0, x1, x2, x3, x4, x5⟩ := X.out.cells
    go_wp2
    go_ret
    exact ⟨rfl, K.out⟩
  · rw [ckE_2 h1 h2]
    rw [decide_eq_false h2] at RG
    clear h1 h2 G1 hg
    go_enter Try.func38, Try.ntmps38
    go_wp2_with fail
    refine (MN.out _).mono ?_
    rintro e w2 ⟨rfl, hb⟩
    replace K := hide (btrans K.out hb)
    replace X := hide (X.out.below hb)
    clear hb
    try clear x0 x1 x2 x3 x4 x5
    obtain ⟨x0, x1, x2, x3, x4, x5⟩ := X.out.cells
    go_wp2_with fail
    refine (RG.out _).mono ?_
    rintro e w3 ⟨rfl, hb⟩
    replace K := hide (btrans K.out hb)
    replace X := hide (X.out.below hb)
    clear hb
    try clear x0 x1 x2 x3 x4 x5
    obtain ⟨x0, x1, x2, x3, x4, x5⟩ := X.out.cells
    go_wp2
    go_ret
    exact ⟨rfl, K.out⟩
theorem valid_any : FB 92 vB := by
  intro st pg pr fl fi ix w hp
  have K := hide (bal (brefl w) (.cells #[.int .i64 st, .int .i64 pg, .int .i64 pr, .int .i64 fl, .int .i64 fi, .int .i64 ix] 58))
  have X := hide (RB.new w st pg pr fl fi ix)
  have CK := hide (fun w => check_any st pg pr fl fi ix w hp)
  have hv : vB ⟨st, pg, pr, fl, fi, ix⟩ = decide (ckE ⟨st, pg, pr, fl, fi, ix⟩ = 0) := by unfold vB; rw [decide_eq_decide]; exact ok_iff.symm
  rw [hv]
  clear hv
  generalize ckE ⟨st, pg, pr, fl, fi, ix⟩ = c at *
  go_enter Try.func92, Try.ntmps92
  go_wp2_with fail
  refine (CK.out _).mono ?_
  rintro e w2 ⟨rfl, hb⟩
  replace K := hide (btrans K.out hb)
  replace X := hide (X.out.below hb)
  clear hb
  try clear x0 x1 x2 x3 x4 x5
  obtain ⟨x0, x1, x2, x3, x4, x5⟩ := X.out.cells
  go_wp2
  go_ret
  exact ⟨ret_bool (by rw [Bool.eq_iff_iff]; simp), K.out⟩
theorem end_any : FI 43 enD := by
  intro st pg pr fl fi ix w hp
  have K := hide (bal (brefl w) (.cells #[.int .i64 st, .int .i64 pg, .int .i64 pr, .int .i64 fl, .int .i64 fi, .int .i64 ix] 58))
  have X := hide (RB.new w st pg pr fl fi ix)
  have Vv := hide (fun w => valid_any st pg pr fl fi ix w hp)
  unfold vB at Vv
  by_cases hk : Ok ⟨st, pg, pr, fl, fi, ix⟩
  · rw [decide_eq_true hk] at Vv
    have o1 := hk.1.1
    have o2 := hk.2.1
    have o3 := hk.2.2.1
    dsimp only at o1 o2 o3
    have he : enD ⟨st, pg, pr, fl, fi, ix⟩ = st + pg := if_pos hk
    rw [he]
    clear he hk
    go_enter Try.func43, Try.ntmps43
    go_wp2_with fail
    refine (Vv.out _).mono ?_
    rintro e w2 ⟨rfl, hb⟩
    replace K := hide (btrans K.out hb)
    replace X := hide (X.out.below hb)
    clear hb
    try clear x0 x1 x2 x3 x4 x5
    obtain ⟨x0, x1, x2, x3, x4, x5⟩ := X.out.cells
    go_wp2
    go_ret
    exact ⟨rfl, K.out⟩
  · rw [decide_eq_false hk] at Vv
    have he : enD ⟨st, pg, pr, fl, fi, ix⟩ = 0 := if_neg hk
    rw [he]
    clear he hk
    go_enter Try.func43, Try.ntmps43
    go_wp2_with fail
    refine (Vv.out _).mono ?_
    rintro e w2 ⟨rfl, hb⟩
    replace K := hide (btrans K.out hb)
    replace X := hide (X.out.below hb)
    clear hb
    try clear x0 x1 x2 x3 x4 x5
    obtain ⟨x0, x1, x2, x3, x4, x5⟩ := X.out.cells
    go_wp2
    go_ret
    exact ⟨rfl, K.out⟩
set_option maxHeartbeats 2000000 in
theorem has_any (st pg pr fl fi ix : Int) (w : World) (hp : pg ≤ 9223372036854775807) (p : Int) : Calls Try.prog 45 #[.agg #[.int .i64 st, .int .i64 pg, .int .i64 pr, .int .i64 fl, .int .i64 fi, .int .i64 ix], .int .i64 p] w fun e w' => e = .returned (.bool (hasB ⟨st, pg, pr, fl, fi, ix⟩ p)) ∧ Below w.heap.size w w' := by
  have K := hide (bal (brefl w) (.cells #[.int .i64 st, .int .i64 pg, .int .i64 pr, .int .i64 fl, .int .i64 fi, .int .i64 ix] 58))
  have X := hide (RB.new w st pg pr fl fi ix)
  have EN := hide (fun w => end_any st pg pr fl fi ix w hp)
  have Vv := hide (fun w => valid_any st pg pr fl fi ix w hp)
  unfold vB at Vv
  by_cases hk : Ok ⟨st, pg, pr, fl, fi, ix⟩
  · rw [decide_eq_true hk] at Vv
    have o1 := hk.1.1
    have o2 := hk.2.1
    have o3 := hk.2.2.1
    dsimp only at o1 o2 o3
    have he : enD ⟨st, pg, pr, fl, fi, ix⟩ = st + pg := if_pos hk
    rw [he] at EN
    have HB : hasB ⟨st, pg, pr, fl, fi, ix⟩ p = (decide (st ≤ p) && decide (p < st + pg)) := by unfold hasB; simp [hk]
    rw [HB]
    clear he hk HB
    by_cases h1 : st ≤ p
    · go_enter Try.func45, Try.ntmps45
      go_wp2_with fail
      refine (Vv.out _).mono ?_
      rintro e w2 ⟨rfl, hb⟩
      replace K := hide (btrans K.out hb)
      replace X := hide (X.out.below hb)
      clear hb
      try clear x0 x1 x2 x3 x4 x5
      obtain ⟨x0, x1, x2, x3, x4, x5⟩ := X.out.cells
      go_wp2_with fail
      refine (EN.out _).mono ?_
      rintro e w3 ⟨rfl, hb⟩
      replace K := hide (btrans K.out hb)
      replace X := hide (X.out.below hb)
      clear hb
      try clear x0 x1 x2 x3 x4 x5
      obtain ⟨x0, x1, x2, x3, x4, x5⟩ := X.out.cells
      go_wp2
      go_ret
      exact ⟨ret_bool (by first | (simp [h1]; done) | (simp; omega)), K.out⟩
    · go_enter Try.func45, Try.ntmps45
      go_wp2_with fail
      refine (Vv.out _).mono ?_
      rintro e w2 ⟨rfl, hb⟩
      replace K := hide (btrans K.out hb)
      replace X := hide (X.out.below hb)
      clear hb
      try clear x0 x1 x2 x3 x4 x5
      obtain ⟨x0, x1, x2, x3, x4, x5⟩ := X.out.cells
      go_wp2
      go_ret
      exact ⟨ret_bool (by first | (simp [h1]; done) | (simp; omega)), K.out⟩
  · rw [decide_eq_false hk] at Vv
    have HB : hasB ⟨st, pg, pr, fl, fi, ix⟩ p = false := decide_eq_false (fun h => hk h.1)
    rw [HB]
    clear HB hk
    go_enter Try.func45, Try.ntmps45
    go_wp2_with fail
    refine (Vv.out _).mono ?_
    rintro e w2 ⟨rfl, hb⟩
    replace K := hide (btrans K.out hb)
    replace X := hide (X.out.below hb)
    clear hb
    try clear x0 x1 x2 x3 x4 x5
    obtain ⟨x0, x1, x2, x3, x4, x5⟩ := X.out.cells
    go_wp2
    go_ret
    exact ⟨rfl, K.out⟩
set_option maxHeartbeats 2000000 in
theorem div_any (st pg pr fl fi ix : Int) (w : World) (hp : pg ≤ 9223372036854775807) (p : Int) (hk : Ok ⟨st, pg, pr, fl, fi, ix⟩) : Calls Try.prog 95 #[.agg #[.int .i64 st, .int .i64 pg, .int .i64 pr, .int .i64 fl, .int .i64 fi, .int .i64 ix], .int .i64 p] w fun e w' => e = .returned (.bool (dvB ⟨st, pg, pr, fl, fi, ix⟩ p)) ∧ Below w.heap.size w w' := by
  have K := hide (bal (brefl w) (.cells #[.int .i64 st, .int .i64 pg, .int .i64 pr, .int .i64 fl, .int .i64 fi, .int .i64 ix] 58))
  have X := hide (RB.new w st pg pr fl fi ix)
  have EN := hide (fun w => end_any st pg pr fl fi ix w hp)
  have o1 := hk.1.1
  have o2 := hk.2.1
  have o3 := hk.2.2.1
  dsimp only at o1 o2 o3
  have he : enD ⟨st, pg, pr, fl, fi, ix⟩ = st + pg := if_pos hk
  rw [he] at EN
  have HB : dvB ⟨st, pg, pr, fl, fi, ix⟩ p = (decide (st < p) && decide (p < st + pg)) := by unfold dvB; simp
  rw [HB]
  clear he hk HB
  by_cases h1 : st < p
  · go_enter Try.func95, Try.ntmps95
    go_wp2_with fail
    refine (EN.out _).mono ?_
    rintro e w3 ⟨rfl, hb⟩
    replace K := hide (btrans K.out hb)
    replace X := hide (X.out.below hb)
    clear hb
    try clear x0 x1 x2 x3 x4 x5
    obtain ⟨x0, x1, x2, x3, x4, x5⟩ := X.out.cells
    go_wp2
    go_ret
    exact ⟨ret_bool (by first | (simp [h1]; done) | (simp; omega)), K.out⟩
  · go_enter Try.func95, Try.ntmps95
    go_wp2
    go_ret
    exact ⟨ret_bool (by first | (simp [h1]; done) | (simp; omega)), K.out⟩
end Go.Proofs.Ytimclgmajhhheaa.Rg
