import Derived.Test.YtimclgmajhhheaaT4
import Derived.Laws.StructEq
namespace Go.Proofs.Ytimclgmajhhheaa.Rg
open Go Go.RowKit Ac
set_option linter.unusedVariables false
set_option linter.unusedSimpArgs false
theorem RB.far6 {w : World} {g b : Nat} {r : R6} {v0 v1 v2 v3 v4 v5 : Value} (h : RB w g r) (hne : g ≠ b) :
    RB ((((((w.setCell ⟨b, 0, none⟩ v0).setCell ⟨b, 1, none⟩ v1).setCell ⟨b, 2, none⟩ v2).setCell ⟨b, 3, none⟩ v3).setCell ⟨b, 4, none⟩ v4).setCell ⟨b, 5, none⟩ v5) g r :=
  Box.far (Box.far (Box.far (Box.far (Box.far (Box.far h hne _) hne _) hne _) hne _) hne _) hne _
theorem RB.drew {w : World} {g : Nat} {r : R6} (h : RB w g r) : RB w.drew g r := Box.below h (below_drewN (brefl _) 1)
theorem RB.put1 {w : World} {g : Nat} {st pg pr fl fi ix z : Int} (h : RB w g ⟨st, pg, pr, fl, fi, ix⟩) : RB (w.setCell ⟨g, 1, none⟩ (.int .i64 z)) g ⟨st, z, pr, fl, fi, ix⟩ := Box.put h 1 _
set_option maxRecDepth 100000 in
set_option maxHeartbeats 4000000 in
theorem mgb_any (st pg pr fl fi ix st2 pg2 pr2 fl2 fi2 ix2 : Int) (w : World) (hp : pg ≤ 9223372036854775807) (hp2 : pg2 ≤ 9223372036854775807) : Calls Try.prog 53 #[.agg #[.int .i64 st, .int .i64 pg, .int .i64 pr, .int .i64 fl, .int .i64 fi, .int .i64 ix], .agg #[.int .i64 st2, .int .i64 pg2, .int .i64 pr2, .int .i64 fl2, .int .i64 fi2, .int .i64 ix2]] w fun e w' => e = .returned (.bool (mgB ⟨st, pg, pr, fl, fi, ix⟩ ⟨st2, pg2, pr2, fl2, fi2, ix2⟩)) ∧ Below w.heap.size w w' := by
  have X := hide (show RB ((w.alloc (.cells #[.int .i64 st, .int .i64 pg, .int .i64 pr, .int .i64 fl, .int .i64 fi, .int .i64 ix] 58)).alloc (.cells #[.int .i64 st2, .int .i64 pg2, .int .i64 pr2, .int .i64 fl2, .int .i64 fi2, .int .i64 ix2] 58)) w.heap.size ⟨st, pg, pr, fl, fi, ix⟩ from Box.more (Box.new w 58 #[.int .i64 st, .int .i64 pg, .int .i64 pr, .int .i64 fl, .int .i64 fi, .int .i64 ix]) (.cells #[.int .i64 st2, .int .i64 pg2, .int .i64 pr2, .int .i64 fl2, .int .i64 fi2, .int .i64 ix2] 58))
  have Y := hide (show RB ((w.alloc (.cells #[.int .i64 st, .int .i64 pg, .int .i64 pr, .int .i64 fl, .int .i64 fi, .int .i64 ix] 58)).alloc (.cells #[.int .i64 st2, .int .i64 pg2, .int .i64 pr2, .int .i64 fl2, .int .i64 fi2, .int .i64 ix2] 58)) (w.heap.size + 1) ⟨st2, pg2, pr2, fl2, fi2, ix2⟩ from Box.new2 w (.cells #[.int .i64 st, .int .i64 pg, .int .i64 pr, .int .i64 fl, .int .i64 fi, .int .i64 ix] 58) 58 #[.int .i64 st2, .int .i64 pg2, .int .i64 pr2, .int .i64 fl2, .int .i64 fi2, .int .i64 ix2])
  have K := hide (show Below w.heap.size w ((w.alloc (.cells #[.int .i64 st, .int .i64 pg, .int .i64 pr, .int .i64 fl, .int .i64 fi, .int .i64 ix] 58)).alloc (.cells #[.int .i64 st2, .int .i64 pg2, .int .i64 pr2, .int .i64 fl2, .int .i64 fi2, .int .i64 ix2] 58)) from bal2 w _ _)
  have HS := hide (show w.heap.size + 2 ≤ ((w.alloc (.cells #[.int .i64 st, .int .i64 pg, .int .i64 pr, .int .i64 fl, .int .i64 fi, .int .i64 ix] 58)).alloc (.cells #[.int .i64 st2, .int .i64 pg2, .int .i64 pr2, .int .i64 fl2, .int .i64 fi2, .int .i64 ix2] 58)).heap.size by simp)
  obtain ⟨W0, hW0⟩ : ∃ W0, W0 = (w.alloc (.cells #[.int .i64 st, .int .i64 pg, .int .i64 pr, .int .i64 fl, .int .i64 fi, .int .i64 ix] 58)).alloc (.cells #[.int .i64 st2, .int .i64 pg2, .int .i64 pr2, .int .i64 fl2, .int .i64 fi2, .int .i64 ix2] 58) := ⟨_, rfl⟩
  rw [← hW0] at X Y K HS
  obtain ⟨g2, hg2⟩ : ∃ g2, g2 = w.heap.size := ⟨_, rfl⟩
  have HG := hide (show w.heap.size ≤ g2 by omega)
  rw [← hg2] at X Y HS
  have HW := hide hW0
  have HB := hide hg2
  clear hW0 hg2
  have Va := hide (fun w => valid_any st pg pr fl fi ix w hp)
  have Vb := hide (fun w => valid_any st2 pg2 pr2 fl2 fi2 ix2 w hp2)
  unfold vB at Va Vb
  by_cases ha : Ok ⟨st, pg, pr, fl, fi, ix⟩
  rotate_left 1
  · have hq : mgB ⟨st, pg, pr, fl, fi, ix⟩ ⟨st2, pg2, pr2, fl2, fi2, ix2⟩ = false := decide_eq_false (fun h => ha h.1)
    rw [hq]
    rw [decide_eq_false ha] at Va
    clear hq ha
    go_enter Try.func53, Try.ntmps53
    go_upto_region 1 with fail
    rw [← HW.out, ← HB.out]
    clear HW HB
    try clear x0 x1 x2 x3 x4 x5
    obtain ⟨x0, x1, x2, x3, x4, x5⟩ := X.out.cells
    try clear y0 y1 y2 y3 y4 y5
    obtain ⟨y0, y1, y2, y3, y4, y5⟩ := Y.out.cells
    go_wp2_with fail
    refine (Va.out _).mono ?_
    rintro e w2 ⟨rfl, hb⟩
    replace K := hide (btrans K.out hb)
    replace X := hide (X.out.below hb)
    replace Y := hide (Y.out.below hb)
    replace HS := hide (Nat.le_trans HS.out hb.size)
    clear hb
    try clear x0 x1 x2 x3 x4 x5
    obtain ⟨x0, x1, x2, x3, x4, x5⟩ := X.out.cells
    try clear y0 y1 y2 y3 y4 y5
    obtain ⟨y0, y1, y2, y3, y4, y5⟩ := Y.out.cells
    go_wp2
    go_ret
    exact ⟨rfl, K.out⟩
  rw [decide_eq_true ha] at Va
  by_cases hb2 : Ok ⟨st2, pg2, pr2, fl2, fi2, ix2⟩
  rotate_left 1
  · have hq : mgB ⟨st, pg, pr, fl, fi, ix⟩ ⟨st2, pg2, pr2, fl2, fi2, ix2⟩ = false := decide_eq_false (fun h => hb2 h.2.1)
    rw [hq]
    rw [decide_eq_false hb2] at Vb
    clear hq ha hb2
    go_enter Try.func53, Try.ntmps53
    go_upto_region 1 with fail
    rw [← HW.out, ← HB.out]
    clear HW HB
    try clear x0 x1 x2 x3 x4 x5
    obtain ⟨x0, x1, x2, x3, x4, x5⟩ := X.out.cells
    try clear y0 y1 y2 y3 y4 y5
    obtain ⟨y0, y1, y2, y3, y4, y5⟩ := Y.out.cells
    go_wp2_with fail
    refine (Va.out _).mono ?_
    rintro e w2 ⟨rfl, hb⟩
    replace K := hide (btrans K.out hb)
    replace X := hide (X.out.below hb)
    replace Y := hide (Y.out.below hb)
    replace HS := hide (Nat.le_trans HS.out hb.size)
    clear hb
    try clear x0 x1 x2 x3 x4 x5
    obtain ⟨x0, x1, x2, x3, x4, x5⟩ := X.out.cells
    try clear y0 y1 y2 y3 y4 y5
    obtain ⟨y0, y1, y2, y3, y4, y5⟩ := Y.out.cells
    go_wp2_with fail
    refine (Vb.out _).mono ?_
    rintro e w3 ⟨rfl, hb⟩
    replace K := hide (btrans K.out hb)
    replace X := hide (X.out.below hb)
    replace Y := hide (Y.out.below hb)
    replace HS := hide (Nat.le_trans HS.out hb.size)
    clear hb
    try clear x0 x1 x2 x3 x4 x5
    obtain ⟨x0, x1, x2, x3, x4, x5⟩ := X.out.cells
    try clear y0 y1 y2 y3 y4 y5
    obtain ⟨y0, y1, y2, y3, y4, y5⟩ := Y.out.cells
    go_wp2
    go_ret
    exact ⟨rfl, K.out⟩
  rw [decide_eq_true hb2] at Vb
  have b2 := and2_of ha.1.2.1 ha.1.2.2.1
  dsimp only at b2
  by_cases hf : fl / 2 % 2 = 0
  rotate_left 1
  · have hq : mgB ⟨st, pg, pr, fl, fi, ix⟩ ⟨st2, pg2, pr2, fl2, fi2, ix2⟩ = false := decide_eq_false (fun h => hf h.2.2.1)
    rw [hq]
    have b3 : (2 * (fl / 2 % 2) != 0) = true := bne_iff_ne.2 (by omega)
    clear hq ha hb2 hf
    go_enter Try.func53, Try.ntmps53
    go_upto_region 1 with fail
    rw [← HW.out, ← HB.out]
    clear HW HB
    try clear x0 x1 x2 x3 x4 x5
    obtain ⟨x0, x1, x2, x3, x4, x5⟩ := X.out.cells
    try clear y0 y1 y2 y3 y4 y5
    obtain ⟨y0, y1, y2, y3, y4, y5⟩ := Y.out.cells
    go_wp2_with fail
    refine (Va.out _).mono ?_
    rintro e w2 ⟨rfl, hb⟩
    replace K := hide (btrans K.out hb)
    replace X := hide (X.out.below hb)
    replace Y := hide (Y.out.below hb)
    replace HS := hide (Nat.le_trans HS.out hb.size)
    clear hb
    try clear x0 x1 x2 x3 x4 x5
    obtain ⟨x0, x1, x2, x3, x4, x5⟩ := X.out.cells
    try clear y0 y1 y2 y3 y4 y5
    obtain ⟨y0, y1, y2, y3, y4, y5⟩ := Y.out.cells
    go_wp2_with fail
    refine (Vb.out _).mono ?_
    rintro e w3 ⟨rfl, hb⟩
    replace K := hide (btrans K.out hb)
    replace X := hide (X.out.below hb)
    replace Y := hide (Y.out.below hb)
    replace HS := hide (Nat.le_trans HS.out hb.size)
    clear hb
    try clear x0 x1 x2 x3 x4 x5
    obtain ⟨x0, x1, x2, x3, x4, x5⟩ := X.out.cells
    try clear y0 y1 y2 y3 y4 y5
    obtain ⟨y0, y1, y2, y3, y4, y5⟩ := Y.out.cells
    go_wp2
    go_ret
    exact ⟨rfl, K.out⟩
  have b3 : (2 * (fl / 2 % 2) != 0) = false := by rw [hf]; rfl
  have hn : nog fl = fl := by unfold nog; omega
  obtain ⟨p, hpe⟩ : ∃ p, p = st + pg := ⟨_, rfl⟩
  have Ea := hide (fun w => end_any st pg pr fl fi ix w hp)
  have ea : enD ⟨st, pg, pr, fl, fi, ix⟩ = p := (if_pos ha).trans hpe.symm
  rw [ea] at Ea
  have h1 := ha.1.1
  dsimp only at h1
  have Ua := hide (fun w => upp_any st pg pr fl fi ix p w ha (by omega) (by omega))
  rw [hn] at Ua
  obtain ⟨qp, hqp⟩ : ∃ qp, qp = pg - (p - st) := ⟨_, rfl⟩
  obtain ⟨qi, hqi⟩ : ∃ qi, qi = if fi = -1 then ix else ix + (p - st) := ⟨_, rfl⟩
  rw [← hqp, ← hqi] at Ua
  have hq : mgB ⟨st, pg, pr, fl, fi, ix⟩ ⟨st2, pg2, pr2, fl2, fi2, ix2⟩ = decide (p = st2 ∧ pr = pr2 ∧ fl = fl2 ∧ fi = fi2 ∧ qi = ix2) := by
    unfold mgB
    rw [decide_eq_decide]
    have r1 := ha.2.2.2
    have r2 := hb2.2.2.2
    dsimp only at r1 r2 ⊢
    by_cases h4 : fi = -1
    · rw [if_pos h4] at hqi
      constructor
      · rintro ⟨_, _, _, a1, a2, a3, a4, a5⟩
        exact ⟨by omega, a2, a3, a4, by omega⟩
      · rintro ⟨a1, a2, a3, a4, a5⟩
        exact ⟨ha, hb2, hf, by omega, a2, a3, a4, .inl h4⟩
    · rw [if_neg h4] at hqi
      constructor
      · rintro ⟨_, _, _, a1, a2, a3, a4, a5⟩
        exact ⟨by omega, a2, a3, a4, by omega⟩
      · rintro ⟨a1, a2, a3, a4, a5⟩
        exact ⟨ha, hb2, hf, by omega, a2, a3, a4, .inr (by omega)⟩
  rw [hq]
  clear hq ha hb2 hf hn ea h1 hpe hqp hqi
  go_enter Try.func53, Try.ntmps53
  go_upto_region 1 with fail
  rw [← HW.out, ← HB.out]
  clear HW HB
  try clear x0 x1 x2 x3 x4 x5
  obtain ⟨x0, x1, x2, x3, x4, x5⟩ := X.out.cells
  try clear y0 y1 y2 y3 y4 y5
  obtain ⟨y0, y1, y2, y3, y4, y5⟩ := Y.out.cells
  go_wp2_with fail
  refine (Va.out _).mono ?_
  rintro e w2 ⟨rfl, hb⟩
  replace K := hide (btrans K.out hb)
  replace X := hide (X.out.below hb)
  replace Y := hide (Y.out.below hb)
  replace HS := hide (Nat.le_trans HS.out hb.size)
  clear hb
  try clear x0 x1 x2 x3 x4 x5
  obtain ⟨x0, x1, x2, x3, x4, x5⟩ := X.out.cells
  try clear y0 y1 y2 y3 y4 y5
  obtain ⟨y0, y1, y2, y3, y4, y5⟩ := Y.out.cells
  go_wp2_with fail
  refine (Vb.out _).mono ?_
  rintro e w3 ⟨rfl, hb⟩
  replace K := hide (btrans K.out hb)
  replace X := hide (X.out.below hb)
  replace Y := hide (Y.out.below hb)
  replace HS := hide (Nat.le_trans HS.out hb.size)
  clear hb
  try clear x0 x1 x2 x3 x4 x5
  obtain ⟨x0, x1, x2, x3, x4, x5⟩ := X.out.cells
  try clear y0 y1 y2 y3 y4 y5
  obtain ⟨y0, y1, y2, y3, y4, y5⟩ := Y.out.cells
  go_upto_region 3 with fail
  replace K := hide (show Below w.heap.size w w3.drew from btrans K.out (below_drewN (brefl _) 1))
  replace X := hide X.out.drew
  replace Y := hide Y.out.drew
  replace HS := hide (show g2 + 2 ≤ w3.drew.heap.size from HS.out)
  clear x0 x1 x2 x3 x4 x5 y0 y1 y2 y3 y4 y5
  refine wp_region_noPanic ?_
  refine wp_region_held_drew (S := (fun W => W.cell? ⟨g2, 0, none⟩ = some (.int .i64 st) ∧ W.cell? ⟨g2, 1, none⟩ = some (.int .i64 pg) ∧ W.cell? ⟨g2, 2, none⟩ = some (.int .i64 pr) ∧ W.cell? ⟨g2, 3, none⟩ = some (.int .i64 fl) ∧ W.cell? ⟨g2, 4, none⟩ = some (.int .i64 fi) ∧ W.cell? ⟨g2, 5, none⟩ = some (.int .i64 ix))) (by kernel_rfl) ?_ (fun hHeld => ?_)
  · exact X.out.cells
  generalize w3.drew = w4 at *
  refine wpAnyH_take (i := 0) (oi := ⟨some 20, _, _, _, _, _⟩) (v := ?_) rfl (by kernel_rfl) (by kernel_rfl) (by kernel_rfl) (fun _ _ _ h => h) (Or.inl ⟨by kernel_rfl, ?_⟩) (by assumption) ?_
  rotate_left 1
  · (intro w hSw; (try dsimp only at hSw); go_simp) <;> (with_reducible rfl)
  (try simp only [Act.put, List.setIfInBounds_toArray, List.set_cons_succ, List.set_cons_zero])
  refine wpAnyH_take (i := 1) (oi := ⟨some 21, _, _, _, _, _⟩) (v := ?_) rfl (by kernel_rfl) (by kernel_rfl) (by kernel_rfl) (fun _ _ _ h => h) (Or.inl ⟨by kernel_rfl, ?_⟩) (by assumption) ?_
  rotate_left 1
  · (intro w hSw; (try dsimp only at hSw); go_simp) <;> (with_reducible rfl)
  (try simp only [Act.put, List.setIfInBounds_toArray, List.set_cons_succ, List.set_cons_zero])
  refine wpAnyH_ready (rs := [2, 4]) (by kernel_rfl) (by simp) ?_
  refine AllReadyH.cons (o := ⟨some 22, _, _, _, _, _⟩) rfl (fun K' hK => ?_) ?_
  · go_simp
    refine (Ea.out _).mono ?_
    rintro e wc ⟨rfl, hb⟩
    replace K := hide (btrans K.out hb)
    replace X := hide (X.out.below hb)
    replace Y := hide (Y.out.below hb)
    replace HS := hide (Nat.le_trans HS.out (Below.size hb))
    clear hb
    refine hK.out _ _ ?_ (fun hHeld => ?_)
    · exact X.out.cells
    clear hK K'
    (try simp only [Act.put, List.setIfInBounds_toArray, List.set_cons_succ, List.set_cons_zero])
    refine wpAnyH_ready (rs := [3, 4]) (by kernel_rfl) (by simp) ?_
    refine AllReadyH.cons (o := ⟨some 23, _, _, _, _, _⟩) rfl (fun K' hK => ?_) ?_
    · go_simp
      refine (Ua.out _).mono ?_
      rintro e wd ⟨rfl, hb⟩
      replace K := hide (btrans K.out hb)
      replace X := hide (X.out.below hb)
      replace Y := hide (Y.out.below hb)
      replace HS := hide (Nat.le_trans HS.out (Below.size hb))
      clear hb
      refine hK.out _ _ ?_ (fun hHeld => ?_)
      · exact X.out.cells
      clear hK K'
      (try simp only [Act.put, List.setIfInBounds_toArray, List.set_cons_succ, List.set_cons_zero])
      refine wpAnyH_ready (rs := [4]) (by kernel_rfl) (by simp) ?_
      refine AllReadyH.cons (o := ⟨some 5, _, _, _, _, _⟩) rfl (fun K' hK => ?_) AllReadyH.nil
      go_simp
      have CB := hide (RB.new wd 0 0 0 0 0 0)
      have M := bal (brefl wd) (.cells #[.int .i64 0, .int .i64 0, .int .i64 0, .int .i64 0, .int .i64 0, .int .i64 0] 58)
      have HC0 := HS.out
      replace K := hide (btrans K.out M)
      replace X := hide (X.out.below M)
      replace Y := hide (Y.out.below M)
      replace HS := hide (Nat.le_trans HS.out (Below.size M))
      obtain ⟨cb, hcb⟩ : ∃ cb, cb = wd.heap.size := ⟨_, rfl⟩
      have HC := hide (show g2 + 2 ≤ cb by omega)
      rw [← hcb] at CB ⊢
      clear hcb HC0 M
      generalize wd.alloc (.cells #[.int .i64 0, .int .i64 0, .int .i64 0, .int .i64 0, .int .i64 0, .int .i64 0] 58) = wa at *
      refine hK.out _ _ ?_ (fun hHeld => ?_)
      · exact X.out.cells
      clear hK K'
      (try simp only [Act.put, List.setIfInBounds_toArray, List.set_cons_succ, List.set_cons_zero])
      refine wpAnyH_ready (rs := [5]) (by kernel_rfl) (by simp) ?_
      refine AllReadyH.cons (o := ⟨none, _, _, _, _, _⟩) rfl (fun K' hK => ?_) AllReadyH.nil
      obtain ⟨c0, c1, c2, c3, c4, c5⟩ := CB.out.cells
      obtain ⟨f0, f1, f2, f3, f4, f5⟩ := CB.out.free
      go_simp
      replace K := hide (show Below w.heap.size w ((((((wa.setCell ⟨cb, 0, none⟩ (.int .i64 p)).setCell ⟨cb, 1, none⟩ (.int .i64 qp)).setCell ⟨cb, 2, none⟩ (.int .i64 pr)).setCell ⟨cb, 3, none⟩ (.int .i64 fl)).setCell ⟨cb, 4, none⟩ (.int .i64 fi)).setCell ⟨cb, 5, none⟩ (.int .i64 qi)) from bset6 K.out (by have := HC.out; have := HG.out; omega))
      replace X := hide (show RB ((((((wa.setCell ⟨cb, 0, none⟩ (.int .i64 p)).setCell ⟨cb, 1, none⟩ (.int .i64 qp)).setCell ⟨cb, 2, none⟩ (.int .i64 pr)).setCell ⟨cb, 3, none⟩ (.int .i64 fl)).setCell ⟨cb, 4, none⟩ (.int .i64 fi)).setCell ⟨cb, 5, none⟩ (.int .i64 qi)) g2 ⟨st, pg, pr, fl, fi, ix⟩ from RB.far6 X.out (by have := HC.out; omega))
      replace Y := hide (show RB ((((((wa.setCell ⟨cb, 0, none⟩ (.int .i64 p)).setCell ⟨cb, 1, none⟩ (.int .i64 qp)).setCell ⟨cb, 2, none⟩ (.int .i64 pr)).setCell ⟨cb, 3, none⟩ (.int .i64 fl)).setCell ⟨cb, 4, none⟩ (.int .i64 fi)).setCell ⟨cb, 5, none⟩ (.int .i64 qi)) (g2 + 1) ⟨st2, pg2, pr2, fl2, fi2, ix2⟩ from RB.far6 Y.out (by have := HC.out; omega))
      replace CB := hide (show RB ((((((wa.setCell ⟨cb, 0, none⟩ (.int .i64 p)).setCell ⟨cb, 1, none⟩ (.int .i64 qp)).setCell ⟨cb, 2, none⟩ (.int .i64 pr)).setCell ⟨cb, 3, none⟩ (.int .i64 fl)).setCell ⟨cb, 4, none⟩ (.int .i64 fi)).setCell ⟨cb, 5, none⟩ (.int .i64 qi)) cb ⟨p, qp, pr, fl, fi, qi⟩ from RB.put6 CB.out)
      clear c0 c1 c2 c3 c4 c5 f0 f1 f2 f3 f4 f5
      generalize ((((((wa.setCell ⟨cb, 0, none⟩ (.int .i64 p)).setCell ⟨cb, 1, none⟩ (.int .i64 qp)).setCell ⟨cb, 2, none⟩ (.int .i64 pr)).setCell ⟨cb, 3, none⟩ (.int .i64 fl)).setCell ⟨cb, 4, none⟩ (.int .i64 fi)).setCell ⟨cb, 5, none⟩ (.int .i64 qi)) = wu at *
      refine hK.out _ _ ?_ (fun hHeld => ?_)
      · exact X.out.cells
      clear hK K'
      (try simp only [Act.put, List.setIfInBounds_toArray, List.set_cons_succ, List.set_cons_zero])
      refine wpAnyH_done (by kernel_rfl) ?_ _
      refine NoPanic.normal ?_
      obtain ⟨x0, x1, x2, x3, x4, x5⟩ := X.out.cells
      obtain ⟨y0, y1, y2, y3, y4, y5⟩ := Y.out.cells
      obtain ⟨c0, c1, c2, c3, c4, c5⟩ := CB.out.cells
      obtain ⟨f0, f1, f2, f3, f4, f5⟩ := CB.out.free
      go_upto_region 5 with fail
      replace Y := hide (show RB (wu.setCell ⟨cb, 1, none⟩ (.int .i64 pg2)) (g2 + 1) ⟨st2, pg2, pr2, fl2, fi2, ix2⟩ from Box.far Y.out (by have := HC.out; omega) _)
      replace CB := hide (RB.put1 (z := pg2) CB.out)
      replace K := hide (bset K.out (show w.heap.size ≤ cb by have := HC.out; have := HG.out; omega) (p := ⟨cb, 1, none⟩) (.int .i64 pg2))
      generalize wu.setCell ⟨cb, 1, none⟩ (.int .i64 pg2) = wv at *
      clear x0 x1 x2 x3 x4 x5 y0 y1 y2 y3 y4 y5 c0 c1 c2 c3 c4 c5 f0 f1 f2 f3 f4 f5 X
      obtain ⟨y0, y1, y2, y3, y4, y5⟩ := Y.out.cells
      obtain ⟨c0, c1, c2, c3, c4, c5⟩ := CB.out.cells
      go_wp2
      all_goals (go_ret; exact ⟨ret_bool (by symm; first | (rw [decide_eq_true_iff]; omega) | (rw [decide_eq_false_iff_not]; omega)), K.out⟩)
    refine AllReadyH.cons (o := ⟨some 5, _, _, _, _, _⟩) rfl (fun K' hK => ?_) AllReadyH.nil
    go_simp
    have CB := hide (RB.new wc 0 0 0 0 0 0)
    have M := bal (brefl wc) (.cells #[.int .i64 0, .int .i64 0, .int .i64 0, .int .i64 0, .int .i64 0, .int .i64 0] 58)
    have HC0 := HS.out
    replace K := hide (btrans K.out M)
    replace X := hide (X.out.below M)
    replace Y := hide (Y.out.below M)
    replace HS := hide (Nat.le_trans HS.out (Below.size M))
    obtain ⟨cb, hcb⟩ : ∃ cb, cb = wc.heap.size := ⟨_, rfl⟩
    have HC := hide (show g2 + 2 ≤ cb by omega)
    rw [← hcb] at CB ⊢
    clear hcb HC0 M
    generalize wc.alloc (.cells #[.int .i64 0, .int .i64 0, .int .i64 0, .int .i64 0, .int .i64 0, .int .i64 0] 58) = wa at *
    refine hK.out _ _ ?_ (fun hHeld => ?_)
    · exact X.out.cells
    clear hK K'
    (try simp only [Act.put, List.setIfInBounds_toArray, List.set_cons_succ, List.set_cons_zero])
    refine wpAnyH_ready (rs := [3]) (by kernel_rfl) (by simp) ?_
    refine AllReadyH.cons (o := ⟨some 23, _, _, _, _, _⟩) rfl (fun K' hK => ?_) AllReadyH.nil
    go_simp
    refine (Ua.out _).mono ?_
    rintro e wd ⟨rfl, hb⟩
    replace K := hide (btrans K.out hb)
    replace X := hide (X.out.below hb)
    replace Y := hide (Y.out.below hb)
    replace HS := hide (Nat.le_trans HS.out (Below.size hb))
    replace CB := hide (CB.out.below hb)
    clear hb
    refine hK.out _ _ ?_ (fun hHeld => ?_)
    · exact X.out.cells
    clear hK K'
    (try simp only [Act.put, List.setIfInBounds_toArray, List.set_cons_succ, List.set_cons_zero])
    refine wpAnyH_ready (rs := [5]) (by kernel_rfl) (by simp) ?_
    refine AllReadyH.cons (o := ⟨none, _, _, _, _, _⟩) rfl (fun K' hK => ?_) AllReadyH.nil
    obtain ⟨c0, c1, c2, c3, c4, c5⟩ := CB.out.cells
    obtain ⟨f0, f1, f2, f3, f4, f5⟩ := CB.out.free
    go_simp
    replace K := hide (show Below w.heap.size w ((((((wd.setCell ⟨cb, 0, none⟩ (.int .i64 p)).setCell ⟨cb, 1, none⟩ (.int .i64 qp)).setCell ⟨cb, 2, none⟩ (.int .i64 pr)).setCell ⟨cb, 3, none⟩ (.int .i64 fl)).setCell ⟨cb, 4, none⟩ (.int .i64 fi)).setCell ⟨cb, 5, none⟩ (.int .i64 qi)) from bset6 K.out (by have := HC.out; have := HG.out; omega))
    replace X := hide (show RB ((((((wd.setCell ⟨cb, 0, none⟩ (.int .i64 p)).setCell ⟨cb, 1, none⟩ (.int .i64 qp)).setCell ⟨cb, 2, none⟩ (.int .i64 pr)).setCell ⟨cb, 3, none⟩ (.int .i64 fl)).setCell ⟨cb, 4, none⟩ (.int .i64 fi)).setCell ⟨cb, 5, none⟩ (.int .i64 qi)) g2 ⟨st, pg, pr, fl, fi, ix⟩ from RB.far6 X.out (by have := HC.out; omega))
    replace Y := hide (show RB ((((((wd.setCell ⟨cb, 0, none⟩ (.int .i64 p)).setCell ⟨cb, 1, none⟩ (.int .i64 qp)).setCell ⟨cb, 2, none⟩ (.int .i64 pr)).setCell ⟨cb, 3, none⟩ (.int .i64 fl)).setCell ⟨cb, 4, none⟩ (.int .i64 fi)).setCell ⟨cb, 5, none⟩ (.int .i64 qi)) (g2 + 1) ⟨st2, pg2, pr2, fl2, fi2, ix2⟩ from RB.far6 Y.out (by have := HC.out; omega))
    replace CB := hide (show RB ((((((wd.setCell ⟨cb, 0, none⟩ (.int .i64 p)).setCell ⟨cb, 1, none⟩ (.int .i64 qp)).setCell ⟨cb, 2, none⟩ (.int .i64 pr)).setCell ⟨cb, 3, none⟩ (.int .i64 fl)).setCell ⟨cb, 4, none⟩ (.int .i64 fi)).setCell ⟨cb, 5, none⟩ (.int .i64 qi)) cb ⟨p, qp, pr, fl, fi, qi⟩ from RB.put6 CB.out)
    clear c0 c1 c2 c3 c4 c5 f0 f1 f2 f3 f4 f5
    generalize ((((((wd.setCell ⟨cb, 0, none⟩ (.int .i64 p)).setCell ⟨cb, 1, none⟩ (.int .i64 qp)).setCell ⟨cb, 2, none⟩ (.int .i64 pr)).setCell ⟨cb, 3, none⟩ (.int .i64 fl)).setCell ⟨cb, 4, none⟩ (.int .i64 fi)).setCell ⟨cb, 5, none⟩ (.int .i64 qi)) = wu at *
    refine hK.out _ _ ?_ (fun hHeld => ?_)
    · exact X.out.cells
    clear hK K'
    (try simp only [Act.put, List.setIfInBounds_toArray, List.set_cons_succ, List.set_cons_zero])
    refine wpAnyH_done (by kernel_rfl) ?_ _
    refine NoPanic.normal ?_
    obtain ⟨x0, x1, x2, x3, x4, x5⟩ := X.out.cells
    obtain ⟨y0, y1, y2, y3, y4, y5⟩ := Y.out.cells
    obtain ⟨c0, c1, c2, c3, c4, c5⟩ := CB.out.cells
    obtain ⟨f0, f1, f2, f3, f4, f5⟩ := CB.out.free
    go_upto_region 5 with fail
    replace Y := hide (show RB (wu.setCell ⟨cb, 1, none⟩ (.int .i64 pg2)) (g2 + 1) ⟨st2, pg2, pr2, fl2, fi2, ix2⟩ from Box.far Y.out (by have := HC.out; omega) _)
    replace CB := hide (RB.put1 (z := pg2) CB.out)
    replace K := hide (bset K.out (show w.heap.size ≤ cb by have := HC.out; have := HG.out; omega) (p := ⟨cb, 1, none⟩) (.int .i64 pg2))
    generalize wu.setCell ⟨cb, 1, none⟩ (.int .i64 pg2) = wv at *
    clear x0 x1 x2 x3 x4 x5 y0 y1 y2 y3 y4 y5 c0 c1 c2 c3 c4 c5 f0 f1 f2 f3 f4 f5 X
    obtain ⟨y0, y1, y2, y3, y4, y5⟩ := Y.out.cells
    obtain ⟨c0, c1, c2, c3, c4, c5⟩ := CB.out.cells
    go_wp2
    all_goals (go_ret; exact ⟨ret_bool (by symm; first | (rw [decide_eq_true_iff]; omega) | (rw [decide_eq_false_iff_not]; omega)), K.out⟩)
  refine AllReadyH.cons (o := ⟨some 5, _, _, _, _, _⟩) rfl (fun K' hK => ?_) AllReadyH.nil
  go_simp
  have CB := hide (RB.new w4 0 0 0 0 0 0)
  have M := bal (brefl w4) (.cells #[.int .i64 0, .int .i64 0, .int .i64 0, .int .i64 0, .int .i64 0, .int .i64 0] 58)
  have HC0 := HS.out
  replace K := hide (btrans K.out M)
  replace X := hide (X.out.below M)
  replace Y := hide (Y.out.below M)
  replace HS := hide (Nat.le_trans HS.out (Below.size M))
  obtain ⟨cb, hcb⟩ : ∃ cb, cb = w4.heap.size := ⟨_, rfl⟩
  have HC := hide (show g2 + 2 ≤ cb by omega)
  rw [← hcb] at CB ⊢
  clear hcb HC0 M
  generalize w4.alloc (.cells #[.int .i64 0, .int .i64 0, .int .i64 0, .int .i64 0, .int .i64 0, .int .i64 0] 58) = wa at *
  refine hK.out _ _ ?_ (fun hHeld => ?_)
  · exact X.out.cells
  clear hK K'
  (try simp only [Act.put, List.setIfInBounds_toArray, List.set_cons_succ, List.set_cons_zero])
  refine wpAnyH_ready (rs := [2]) (by kernel_rfl) (by simp) ?_
  refine AllReadyH.cons (o := ⟨some 22, _, _, _, _, _⟩) rfl (fun K' hK => ?_) AllReadyH.nil
  go_simp
  refine (Ea.out _).mono ?_
  rintro e wc ⟨rfl, hb⟩
  replace K := hide (btrans K.out hb)
  replace X := hide (X.out.below hb)
  replace Y := hide (Y.out.below hb)
  replace HS := hide (Nat.le_trans HS.out (Below.size hb))
  replace CB := hide (CB.out.below hb)
  clear hb
  refine hK.out _ _ ?_ (fun hHeld => ?_)
  · exact X.out.cells
  clear hK K'
  (try simp only [Act.put, List.setIfInBounds_toArray, List.set_cons_succ, List.set_cons_zero])
  refine wpAnyH_ready (rs := [3]) (by kernel_rfl) (by simp) ?_
  refine AllReadyH.cons (o := ⟨some 23, _, _, _, _, _⟩) rfl (fun K' hK => ?_) AllReadyH.nil
  go_simp
  refine (Ua.out _).mono ?_
  rintro e wd ⟨rfl, hb⟩
  replace K := hide (btrans K.out hb)
  replace X := hide (X.out.below hb)
  replace Y := hide (Y.out.below hb)
  replace HS := hide (Nat.le_trans HS.out (Below.size hb))
  replace CB := hide (CB.out.below hb)
  clear hb
  refine hK.out _ _ ?_ (fun hHeld => ?_)
  · exact X.out.cells
  clear hK K'
  (try simp only [Act.put, List.setIfInBounds_toArray, List.set_cons_succ, List.set_cons_zero])
  refine wpAnyH_ready (rs := [5]) (by kernel_rfl) (by simp) ?_
  refine AllReadyH.cons (o := ⟨none, _, _, _, _, _⟩) rfl (fun K' hK => ?_) AllReadyH.nil
  obtain ⟨c0, c1, c2, c3, c4, c5⟩ := CB.out.cells
  obtain ⟨f0, f1, f2, f3, f4, f5⟩ := CB.out.free
  go_simp
  replace K := hide (show Below w.heap.size w ((((((wd.setCell ⟨cb, 0, none⟩ (.int .i64 p)).setCell ⟨cb, 1, none⟩ (.int .i64 qp)).setCell ⟨cb, 2, none⟩ (.int .i64 pr)).setCell ⟨cb, 3, none⟩ (.int .i64 fl)).setCell ⟨cb, 4, none⟩ (.int .i64 fi)).setCell ⟨cb, 5, none⟩ (.int .i64 qi)) from bset6 K.out (by have := HC.out; have := HG.out; omega))
  replace X := hide (show RB ((((((wd.setCell ⟨cb, 0, none⟩ (.int .i64 p)).setCell ⟨cb, 1, none⟩ (.int .i64 qp)).setCell ⟨cb, 2, none⟩ (.int .i64 pr)).setCell ⟨cb, 3, none⟩ (.int .i64 fl)).setCell ⟨cb, 4, none⟩ (.int .i64 fi)).setCell ⟨cb, 5, none⟩ (.int .i64 qi)) g2 ⟨st, pg, pr, fl, fi, ix⟩ from RB.far6 X.out (by have := HC.out; omega))
  replace Y := hide (show RB ((((((wd.setCell ⟨cb, 0, none⟩ (.int .i64 p)).setCell ⟨cb, 1, none⟩ (.int .i64 qp)).setCell ⟨cb, 2, none⟩ (.int .i64 pr)).setCell ⟨cb, 3, none⟩ (.int .i64 fl)).setCell ⟨cb, 4, none⟩ (.int .i64 fi)).setCell ⟨cb, 5, none⟩ (.int .i64 qi)) (g2 + 1) ⟨st2, pg2, pr2, fl2, fi2, ix2⟩ from RB.far6 Y.out (by have := HC.out; omega))
  replace CB := hide (show RB ((((((wd.setCell ⟨cb, 0, none⟩ (.int .i64 p)).setCell ⟨cb, 1, none⟩ (.int .i64 qp)).setCell ⟨cb, 2, none⟩ (.int .i64 pr)).setCell ⟨cb, 3, none⟩ (.int .i64 fl)).setCell ⟨cb, 4, none⟩ (.int .i64 fi)).setCell ⟨cb, 5, none⟩ (.int .i64 qi)) cb ⟨p, qp, pr, fl, fi, qi⟩ from RB.put6 CB.out)
  clear c0 c1 c2 c3 c4 c5 f0 f1 f2 f3 f4 f5
  generalize ((((((wd.setCell ⟨cb, 0, none⟩ (.int .i64 p)).setCell ⟨cb, 1, none⟩ (.int .i64 qp)).setCell ⟨cb, 2, none⟩ (.int .i64 pr)).setCell ⟨cb, 3, none⟩ (.int .i64 fl)).setCell ⟨cb, 4, none⟩ (.int .i64 fi)).setCell ⟨cb, 5, none⟩ (.int .i64 qi)) = wu at *
  refine hK.out _ _ ?_ (fun hHeld => ?_)
  · exact X.out.cells
  clear hK K'
  (try simp only [Act.put, List.setIfInBounds_toArray, List.set_cons_succ, List.set_cons_zero])
  refine wpAnyH_done (by kernel_rfl) ?_ _
  refine NoPanic.normal ?_
  obtain ⟨x0, x1, x2, x3, x4, x5⟩ := X.out.cells
  obtain ⟨y0, y1, y2, y3, y4, y5⟩ := Y.out.cells
  obtain ⟨c0, c1, c2, c3, c4, c5⟩ := CB.out.cells
  obtain ⟨f0, f1, f2, f3, f4, f5⟩ := CB.out.free
  go_upto_region 5 with fail
  replace Y := hide (show RB (wu.setCell ⟨cb, 1, none⟩ (.int .i64 pg2)) (g2 + 1) ⟨st2, pg2, pr2, fl2, fi2, ix2⟩ from Box.far Y.out (by have := HC.out; omega) _)
  replace CB := hide (RB.put1 (z := pg2) CB.out)
  replace K := hide (bset K.out (show w.heap.size ≤ cb by have := HC.out; have := HG.out; omega) (p := ⟨cb, 1, none⟩) (.int .i64 pg2))
  generalize wu.setCell ⟨cb, 1, none⟩ (.int .i64 pg2) = wv at *
  clear x0 x1 x2 x3 x4 x5 y0 y1 y2 y3 y4 y5 c0 c1 c2 c3 c4 c5 f0 f1 f2 f3 f4 f5 X
  obtain ⟨y0, y1, y2, y3, y4, y5⟩ := Y.out.cells
  obtain ⟨c0, c1, c2, c3, c4, c5⟩ := CB.out.cells
  go_wp2
  all_goals (go_ret; exact ⟨ret_bool (by symm; first | (rw [decide_eq_true_iff]; omega) | (rw [decide_eq_false_iff_not]; omega)), K.out⟩)
end Go.Proofs.Ytimclgmajhhheaa.Rg
