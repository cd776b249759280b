import Derived.Test.YtimclgmajhhheaaL1
namespace Go.Proofs.Ytimclgmajhhheaa.Rg
open Go Go.RowKit Ac
set_option linter.unusedVariables false
set_option linter.unusedSimpArgs false
theorem sp_no {r : R6} {p : Int} (h : spE r p ≠ 0) : spA r p = r0 ∧ spB r p = r0 := ⟨if_neg h, if_neg h⟩
theorem sp_ok {r : R6} {p : Int} (h : spE r p = 0) : Ok r ∧ r.st < p ∧ p < r.st + r.pg ∧ spA r p = lowR r p ∧ spB r p = uppR r p := by
  have h1 : ckE r = 0 := by
    unfold spE at h
    by_cases c : ckE r = 0
    · exact c
    · rw [if_neg c] at h; exact absurd h c
  have h2 : r.st < p ∧ p < r.st + r.pg := by
    unfold spE at h
    rw [if_pos h1] at h
    by_cases c : r.st < p ∧ p < r.st + r.pg
    · exact c
    · rw [if_neg c] at h; omega
  exact ⟨ok_iff.1 h1, h2.1, h2.2, if_pos h, if_pos h⟩
theorem lu_ov {r : R6} {p : Int} : ovB (lowR r p) (uppR r p) = false := decide_eq_false (fun h => by have := h.2.2.2; unfold lowR uppR at this; dsimp only at this; omega)
theorem lu_mg {r : R6} {p : Int} (h : Ok r) (h1 : r.st < p) (h2 : p < r.st + r.pg) : mgB (lowR r p) (uppR r p) = decide (r.fl / 2 % 2 = 0) := by
  have a := low_ok h h1 h2
  have b := upp_ok h h1 h2
  unfold mgB
  rw [decide_eq_decide]
  refine ⟨fun q => q.2.2.1, fun q => ⟨a, b, q, ?_⟩⟩
  unfold lowR uppR nog
  dsimp only
  refine ⟨by omega, rfl, by omega, rfl, ?_⟩
  by_cases c : r.fi = -1
  · exact .inl c
  · right; rw [if_neg c]
set_option maxRecDepth 100000 in
set_option maxHeartbeats 8000000 in
theorem law_back (st pg pr fl fi ix : Int) (p : Int) (w : World) (hp : pg ≤ 9223372036854775807) : Calls Try.prog 15 #[.agg #[.int .i64 st, .int .i64 pg, .int .i64 pr, .int .i64 fl, .int .i64 fi, .int .i64 ix], .int .i64 p] w fun e w' => e = .returned (.bool true) ∧ Below w.heap.size w w' := by
  have AWK := hide (fun w => awake_any w)
  have X := hide (RB.new w st pg pr fl fi ix)
  have K := hide (bal (brefl w) (.cells #[.int .i64 st, .int .i64 pg, .int .i64 pr, .int .i64 fl, .int .i64 fi, .int .i64 ix] 58))
  obtain ⟨W0, hW0⟩ : ∃ W0, W0 = w.alloc (.cells #[.int .i64 st, .int .i64 pg, .int .i64 pr, .int .i64 fl, .int .i64 fi, .int .i64 ix] 58) := ⟨_, rfl⟩
  rw [← hW0] at X K
  obtain ⟨g2, hg2⟩ : ∃ g2, g2 = w.heap.size := ⟨_, rfl⟩
  rw [← hg2] at X
  have HW := hide hW0
  have HB := hide hg2
  clear hW0 hg2
  have M1 := fun w => split_any st pg pr fl fi ix w hp p
  unfold A3 at M1
  by_cases he : spE ⟨st, pg, pr, fl, fi, ix⟩ p = 0
  rotate_left 1
  · have q := sp_no he
    rw [q.1, q.2] at M1
    have he2 := ne_bool he
    generalize spE ⟨st, pg, pr, fl, fi, ix⟩ p = se at *
    unfold rV r0 at M1
    dsimp only at M1
    replace M1 := hide M1
    clear q he
    go_enter Try.func15, Try.ntmps15
    go_upto_region 1 with fail
    rw [← HW.out, ← HB.out]
    clear HW HB
    try clear x0 x1 x2 x3 x4 x5
    obtain ⟨x0, x1, x2, x3, x4, x5⟩ := RB.cells X.out
    go_wp2_with fail
    refine (M1.out _).mono ?_
    rintro e w2 ⟨rfl, hb⟩
    replace K := hide (btrans K.out hb)
    replace X := hide (X.out.below hb)
    clear hb
    go_upto_region 2 with fail
    have M := bal2 w2 (.cells #[.int .i64 0, .int .i64 0, .int .i64 0, .int .i64 0, .int .i64 0, .int .i64 0] 58) (.cells #[.int .i64 0, .int .i64 0, .int .i64 0, .int .i64 0, .int .i64 0, .int .i64 0] 58)
    have MA : Hid (RB ((w2.alloc (.cells #[.int .i64 0, .int .i64 0, .int .i64 0, .int .i64 0, .int .i64 0, .int .i64 0] 58)).alloc (.cells #[.int .i64 0, .int .i64 0, .int .i64 0, .int .i64 0, .int .i64 0, .int .i64 0] 58)) w2.heap.size ⟨0, 0, 0, 0, 0, 0⟩) := hide (Box.more (RB.new w2 0 0 0 0 0 0) (.cells #[.int .i64 0, .int .i64 0, .int .i64 0, .int .i64 0, .int .i64 0, .int .i64 0] 58))
    have NA : Hid (RB ((w2.alloc (.cells #[.int .i64 0, .int .i64 0, .int .i64 0, .int .i64 0, .int .i64 0, .int .i64 0] 58)).alloc (.cells #[.int .i64 0, .int .i64 0, .int .i64 0, .int .i64 0, .int .i64 0, .int .i64 0] 58)) (w2.heap.size + 1) ⟨0, 0, 0, 0, 0, 0⟩) := hide (Box.new2 w2 (.cells #[.int .i64 0, .int .i64 0, .int .i64 0, .int .i64 0, .int .i64 0, .int .i64 0] 58) 58 #[.int .i64 0, .int .i64 0, .int .i64 0, .int .i64 0, .int .i64 0, .int .i64 0])
    replace K := hide (btrans K.out M)
    replace X := hide (X.out.below M)
    obtain ⟨b1, hbk⟩ : ∃ q, q = w2.heap.size := ⟨_, rfl⟩
    rw [← hbk] at MA NA ⊢
    clear hbk M
    generalize (w2.alloc (.cells #[.int .i64 0, .int .i64 0, .int .i64 0, .int .i64 0, .int .i64 0, .int .i64 0] 58)).alloc (.cells #[.int .i64 0, .int .i64 0, .int .i64 0, .int .i64 0, .int .i64 0, .int .i64 0] 58) = w3 at *
    try clear c0 c1 c2 c3 c4 c5
    obtain ⟨c0, c1, c2, c3, c4, c5⟩ := RB.cells MA.out
    try clear d0 d1 d2 d3 d4 d5
    obtain ⟨d0, d1, d2, d3, d4, d5⟩ := RB.cells NA.out
    go_wp2_with fail
    refine (AWK.out _).mono ?_
    rintro e w6 ⟨rfl, hb⟩
    replace K := hide (btrans K.out hb)
    clear hb
    go_wp2
    go_ret
    exact ⟨rfl, K.out⟩
  obtain ⟨hk, h1, h2, q1, q2⟩ := sp_ok he
  rw [q1, q2, he] at M1
  have ca := ok_iff.2 (low_ok hk h1 h2)
  have cb := ok_iff.2 (upp_ok hk h1 h2)
  have ov := lu_ov (r := ⟨st, pg, pr, fl, fi, ix⟩) (p := p)
  have mg := lu_mg hk h1 h2
  have o1 := hk.1.1
  have o2 := hk.2.1
  have o3 := hk.2.2.1
  have f0 := hk.1.2.1
  have f1 := hk.1.2.2.1
  dsimp only at o1 o2 o3 h1 h2 f0 f1
  clear q1 q2 he hk
  unfold lowR uppR at *
  dsimp only at ca cb ov mg M1
  obtain ⟨up, hup⟩ : ∃ q, q = pg - (p - st) := ⟨_, rfl⟩
  obtain ⟨nf, hnf⟩ : ∃ q, q = nog fl := ⟨_, rfl⟩
  obtain ⟨ui, hui⟩ : ∃ q, q = if fi = -1 then ix else ix + (p - st) := ⟨_, rfl⟩
  rw [← hup, ← hnf, ← hui] at M1 cb ov mg
  have hs : p - st + up = pg := by omega
  have hs2 : (p - st + up != pg) = false := by rw [hs]; simp
  have hu1 : up ≤ 512 := by omega
  have hu0 : 0 ≤ up := by omega
  have C1 := fun w => check_any st (p - st) pr fl fi ix w (by omega)
  have C2 := fun w => check_any p up pr nf fi ui w (by omega)
  have O1 := fun w => ovl_any st (p - st) pr fl fi ix p up pr nf fi ui w (by omega) (by omega)
  have B1 := fun w => mgb_any st (p - st) pr fl fi ix p up pr nf fi ui w (by omega) (by omega)
  have G1 := fun w => merge_any st (p - st) pr fl fi ix p up pr nf fi ui w (by omega) (by omega)
  rw [ca] at C1
  rw [cb] at C2
  rw [ov] at O1
  rw [mg] at B1
  replace C1 := hide C1
  replace C2 := hide C2
  replace O1 := hide O1
  unfold rV at M1
  dsimp only at M1
  replace M1 := hide M1
  have HS := hide hs
  clear hup hnf hui ov hs
  by_cases h6 : fl / 2 % 2 = 0
  rotate_left 1
  · rw [decide_eq_false h6] at B1
    replace B1 := hide B1
    have h7 : fl / 2 % 2 = 1 := by omega
    clear G1 ca cb mg h6 HS
    go_enter Try.func15, Try.ntmps15
    go_upto_region 1 with fail
    rw [← HW.out, ← HB.out]
    clear HW HB
    try clear x0 x1 x2 x3 x4 x5
    obtain ⟨x0, x1, x2, x3, x4, x5⟩ := RB.cells X.out
    go_wp2_with fail
    refine (M1.out _).mono ?_
    rintro e w2 ⟨rfl, hb⟩
    replace K := hide (btrans K.out hb)
    replace X := hide (X.out.below hb)
    clear hb
    go_upto_region 2 with fail
    have M := bal2 w2 (.cells #[.int .i64 st, .int .i64 (p - st), .int .i64 pr, .int .i64 fl, .int .i64 fi, .int .i64 ix] 58) (.cells #[.int .i64 p, .int .i64 up, .int .i64 pr, .int .i64 nf, .int .i64 fi, .int .i64 ui] 58)
    have MA : Hid (RB ((w2.alloc (.cells #[.int .i64 st, .int .i64 (p - st), .int .i64 pr, .int .i64 fl, .int .i64 fi, .int .i64 ix] 58)).alloc (.cells #[.int .i64 p, .int .i64 up, .int .i64 pr, .int .i64 nf, .int .i64 fi, .int .i64 ui] 58)) w2.heap.size ⟨st, (p - st), pr, fl, fi, ix⟩) := hide (Box.more (RB.new w2 st (p - st) pr fl fi ix) (.cells #[.int .i64 p, .int .i64 up, .int .i64 pr, .int .i64 nf, .int .i64 fi, .int .i64 ui] 58))
    have NA : Hid (RB ((w2.alloc (.cells #[.int .i64 st, .int .i64 (p - st), .int .i64 pr, .int .i64 fl, .int .i64 fi, .int .i64 ix] 58)).alloc (.cells #[.int .i64 p, .int .i64 up, .int .i64 pr, .int .i64 nf, .int .i64 fi, .int .i64 ui] 58)) (w2.heap.size + 1) ⟨p, up, pr, nf, fi, ui⟩) := hide (Box.new2 w2 (.cells #[.int .i64 st, .int .i64 (p - st), .int .i64 pr, .int .i64 fl, .int .i64 fi, .int .i64 ix] 58) 58 #[.int .i64 p, .int .i64 up, .int .i64 pr, .int .i64 nf, .int .i64 fi, .int .i64 ui])
    replace K := hide (btrans K.out M)
    replace X := hide (X.out.below M)
    obtain ⟨b1, hbk⟩ : ∃ q, q = w2.heap.size := ⟨_, rfl⟩
    rw [← hbk] at MA NA ⊢
    clear hbk M
    generalize (w2.alloc (.cells #[.int .i64 st, .int .i64 (p - st), .int .i64 pr, .int .i64 fl, .int .i64 fi, .int .i64 ix] 58)).alloc (.cells #[.int .i64 p, .int .i64 up, .int .i64 pr, .int .i64 nf, .int .i64 fi, .int .i64 ui] 58) = w3 at *
    try clear x0 x1 x2 x3 x4 x5
    obtain ⟨x0, x1, x2, x3, x4, x5⟩ := RB.cells X.out
    try clear c0 c1 c2 c3 c4 c5
    obtain ⟨c0, c1, c2, c3, c4, c5⟩ := RB.cells MA.out
    try clear d0 d1 d2 d3 d4 d5
    obtain ⟨d0, d1, d2, d3, d4, d5⟩ := RB.cells NA.out
    go_wp2_with fail
    refine (C1.out _).mono ?_
    rintro e w4 ⟨rfl, hb⟩
    replace K := hide (btrans K.out hb)
    replace X := hide (X.out.below hb)
    replace MA := hide (MA.out.below hb)
    replace NA := hide (NA.out.below hb)
    clear hb
    try clear x0 x1 x2 x3 x4 x5
    obtain ⟨x0, x1, x2, x3, x4, x5⟩ := RB.cells X.out
    try clear c0 c1 c2 c3 c4 c5
    obtain ⟨c0, c1, c2, c3, c4, c5⟩ := RB.cells MA.out
    try clear d0 d1 d2 d3 d4 d5
    obtain ⟨d0, d1, d2, d3, d4, d5⟩ := RB.cells NA.out
    go_wp2_with fail
    refine (C2.out _).mono ?_
    rintro e w5 ⟨rfl, hb⟩
    replace K := hide (btrans K.out hb)
    replace X := hide (X.out.below hb)
    replace MA := hide (MA.out.below hb)
    replace NA := hide (NA.out.below hb)
    clear hb
    try clear x0 x1 x2 x3 x4 x5
    obtain ⟨x0, x1, x2, x3, x4, x5⟩ := RB.cells X.out
    try clear c0 c1 c2 c3 c4 c5
    obtain ⟨c0, c1, c2, c3, c4, c5⟩ := RB.cells MA.out
    try clear d0 d1 d2 d3 d4 d5
    obtain ⟨d0, d1, d2, d3, d4, d5⟩ := RB.cells NA.out
    go_wp2_with fail
    refine (O1.out _).mono ?_
    rintro e w6 ⟨rfl, hb⟩
    replace K := hide (btrans K.out hb)
    replace X := hide (X.out.below hb)
    replace MA := hide (MA.out.below hb)
    replace NA := hide (NA.out.below hb)
    clear hb
    try clear x0 x1 x2 x3 x4 x5
    obtain ⟨x0, x1, x2, x3, x4, x5⟩ := RB.cells X.out
    try clear c0 c1 c2 c3 c4 c5
    obtain ⟨c0, c1, c2, c3, c4, c5⟩ := RB.cells MA.out
    try clear d0 d1 d2 d3 d4 d5
    obtain ⟨d0, d1, d2, d3, d4, d5⟩ := RB.cells NA.out
    go_wp2_with fail
    refine (B1.out _).mono ?_
    rintro e w7 ⟨rfl, hb⟩
    replace K := hide (btrans K.out hb)
    clear hb
    go_wp2_with fail
    refine (AWK.out _).mono ?_
    rintro e w8 ⟨rfl, hb⟩
    replace K := hide (btrans K.out hb)
    clear hb
    go_wp2
    go_ret
    exact ⟨rfl, K.out⟩
  rw [decide_eq_true h6] at B1 mg
  have ge := mgE_0 ca cb mg
  unfold A2 at G1
  rw [← ge.1, ← ge.2] at G1
  unfold rV at G1
  dsimp only at G1
  rw [HS.out] at G1
  replace B1 := hide B1
  replace G1 := hide G1
  clear ca cb mg HS ge
  go_enter Try.func15, Try.ntmps15
  go_upto_region 1 with fail
  rw [← HW.out, ← HB.out]
  clear HW HB
  try clear x0 x1 x2 x3 x4 x5
  obtain ⟨x0, x1, x2, x3, x4, x5⟩ := RB.cells X.out
  go_wp2_with fail
  refine (M1.out _).mono ?_
  rintro e w2 ⟨rfl, hb⟩
  replace K := hide (btrans K.out hb)
  replace X := hide (X.out.below hb)
  clear hb
  go_upto_region 2 with fail
  have M := bal2 w2 (.cells #[.int .i64 st, .int .i64 (p - st), .int .i64 pr, .int .i64 fl, .int .i64 fi, .int .i64 ix] 58) (.cells #[.int .i64 p, .int .i64 up, .int .i64 pr, .int .i64 nf, .int .i64 fi, .int .i64 ui] 58)
  have MA : Hid (RB ((w2.alloc (.cells #[.int .i64 st, .int .i64 (p - st), .int .i64 pr, .int .i64 fl, .int .i64 fi, .int .i64 ix] 58)).alloc (.cells #[.int .i64 p, .int .i64 up, .int .i64 pr, .int .i64 nf, .int .i64 fi, .int .i64 ui] 58)) w2.heap.size ⟨st, (p - st), pr, fl, fi, ix⟩) := hide (Box.more (RB.new w2 st (p - st) pr fl fi ix) (.cells #[.int .i64 p, .int .i64 up, .int .i64 pr, .int .i64 nf, .int .i64 fi, .int .i64 ui] 58))
  have NA : Hid (RB ((w2.alloc (.cells #[.int .i64 st, .int .i64 (p - st), .int .i64 pr, .int .i64 fl, .int .i64 fi, .int .i64 ix] 58)).alloc (.cells #[.int .i64 p, .int .i64 up, .int .i64 pr, .int .i64 nf, .int .i64 fi, .int .i64 ui] 58)) (w2.heap.size + 1) ⟨p, up, pr, nf, fi, ui⟩) := hide (Box.new2 w2 (.cells #[.int .i64 st, .int .i64 (p - st), .int .i64 pr, .int .i64 fl, .int .i64 fi, .int .i64 ix] 58) 58 #[.int .i64 p, .int .i64 up, .int .i64 pr, .int .i64 nf, .int .i64 fi, .int .i64 ui])
  replace K := hide (btrans K.out M)
  replace X := hide (X.out.below M)
  obtain ⟨b1, hbk⟩ : ∃ q, q = w2.heap.size := ⟨_, rfl⟩
  rw [← hbk] at MA NA ⊢
  clear hbk M
  generalize (w2.alloc (.cells #[.int .i64 st, .int .i64 (p - st), .int .i64 pr, .int .i64 fl, .int .i64 fi, .int .i64 ix] 58)).alloc (.cells #[.int .i64 p, .int .i64 up, .int .i64 pr, .int .i64 nf, .int .i64 fi, .int .i64 ui] 58) = w3 at *
  try clear x0 x1 x2 x3 x4 x5
  obtain ⟨x0, x1, x2, x3, x4, x5⟩ := RB.cells X.out
  try clear c0 c1 c2 c3 c4 c5
  obtain ⟨c0, c1, c2, c3, c4, c5⟩ := RB.cells MA.out
  try clear d0 d1 d2 d3 d4 d5
  obtain ⟨d0, d1, d2, d3, d4, d5⟩ := RB.cells NA.out
  go_wp2_with fail
  refine (C1.out _).mono ?_
  rintro e w4 ⟨rfl, hb⟩
  replace K := hide (btrans K.out hb)
  replace X := hide (X.out.below hb)
  replace MA := hide (MA.out.below hb)
  replace NA := hide (NA.out.below hb)
  clear hb
  try clear x0 x1 x2 x3 x4 x5
  obtain ⟨x0, x1, x2, x3, x4, x5⟩ := RB.cells X.out
  try clear c0 c1 c2 c3 c4 c5
  obtain ⟨c0, c1, c2, c3, c4, c5⟩ := RB.cells MA.out
  try clear d0 d1 d2 d3 d4 d5
  obtain ⟨d0, d1, d2, d3, d4, d5⟩ := RB.cells NA.out
  go_wp2_with fail
  refine (C2.out _).mono ?_
  rintro e w5 ⟨rfl, hb⟩
  replace K := hide (btrans K.out hb)
  replace X := hide (X.out.below hb)
  replace MA := hide (MA.out.below hb)
  replace NA := hide (NA.out.below hb)
  clear hb
  try clear x0 x1 x2 x3 x4 x5
  obtain ⟨x0, x1, x2, x3, x4, x5⟩ := RB.cells X.out
  try clear c0 c1 c2 c3 c4 c5
  obtain ⟨c0, c1, c2, c3, c4, c5⟩ := RB.cells MA.out
  try clear d0 d1 d2 d3 d4 d5
  obtain ⟨d0, d1, d2, d3, d4, d5⟩ := RB.cells NA.out
  go_wp2_with fail
  refine (O1.out _).mono ?_
  rintro e w6 ⟨rfl, hb⟩
  replace K := hide (btrans K.out hb)
  replace X := hide (X.out.below hb)
  replace MA := hide (MA.out.below hb)
  replace NA := hide (NA.out.below hb)
  clear hb
  try clear x0 x1 x2 x3 x4 x5
  obtain ⟨x0, x1, x2, x3, x4, x5⟩ := RB.cells X.out
  try clear c0 c1 c2 c3 c4 c5
  obtain ⟨c0, c1, c2, c3, c4, c5⟩ := RB.cells MA.out
  try clear d0 d1 d2 d3 d4 d5
  obtain ⟨d0, d1, d2, d3, d4, d5⟩ := RB.cells NA.out
  go_wp2_with fail
  refine (G1.out _).mono ?_
  rintro e w7 ⟨rfl, hb⟩
  replace K := hide (btrans K.out hb)
  replace X := hide (X.out.below hb)
  replace MA := hide (MA.out.below hb)
  replace NA := hide (NA.out.below hb)
  clear hb
  go_upto_region 9 with fail
  have M := bal (brefl w7) (.cells #[.int .i64 st, .int .i64 pg, .int .i64 pr, .int .i64 fl, .int .i64 fi, .int .i64 ix] 58)
  have MC : Hid (RB (w7.alloc (.cells #[.int .i64 st, .int .i64 pg, .int .i64 pr, .int .i64 fl, .int .i64 fi, .int .i64 ix] 58)) w7.heap.size ⟨st, pg, pr, fl, fi, ix⟩) := hide (RB.new w7 st pg pr fl fi ix)
  replace K := hide (btrans K.out M)
  replace X := hide (X.out.below M)
  replace MA := hide (MA.out.below M)
  replace NA := hide (NA.out.below M)
  obtain ⟨b4, hbk⟩ : ∃ q, q = w7.heap.size := ⟨_, rfl⟩
  rw [← hbk] at MC ⊢
  clear hbk M
  generalize w7.alloc (.cells #[.int .i64 st, .int .i64 pg, .int .i64 pr, .int .i64 fl, .int .i64 fi, .int .i64 ix] 58) = w8 at *
  try clear x0 x1 x2 x3 x4 x5
  obtain ⟨x0, x1, x2, x3, x4, x5⟩ := RB.cells X.out
  try clear c0 c1 c2 c3 c4 c5
  obtain ⟨c0, c1, c2, c3, c4, c5⟩ := RB.cells MA.out
  try clear d0 d1 d2 d3 d4 d5
  obtain ⟨d0, d1, d2, d3, d4, d5⟩ := RB.cells NA.out
  go_wp2_with fail
  refine (B1.out _).mono ?_
  rintro e w9 ⟨rfl, hb⟩
  replace K := hide (btrans K.out hb)
  replace X := hide (X.out.below hb)
  replace MC := hide (MC.out.below hb)
  clear hb
  try clear x0 x1 x2 x3 x4 x5
  obtain ⟨x0, x1, x2, x3, x4, x5⟩ := RB.cells X.out
  try clear c0 c1 c2 c3 c4 c5
  try clear d0 d1 d2 d3 d4 d5
  obtain ⟨c0, c1, c2, c3, c4, c5⟩ := RB.cells MC.out
  go_wp2_with fail
  refine (AWK.out _).mono ?_
  rintro e w10 ⟨rfl, hb⟩
  replace K := hide (btrans K.out hb)
  clear hb
  go_wp2
  go_ret
  exact ⟨rfl, K.out⟩
end Go.Proofs.Ytimclgmajhhheaa.Rg
