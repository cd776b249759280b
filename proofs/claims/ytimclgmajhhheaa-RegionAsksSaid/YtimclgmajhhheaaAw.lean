import Derived.Test.YtimclgmajhhheaaR5
namespace Go.Proofs.Ytimclgmajhhheaa.Rg
open Go Go.RowKit Ac
set_option linter.unusedVariables false
set_option linter.unusedSimpArgs false
theorem a_sp : spA ⟨4, 6, 3, 1, 2, 5⟩ 7 = ⟨4, 3, 3, 1, 2, 5⟩ ∧ spB ⟨4, 6, 3, 1, 2, 5⟩ 7 = ⟨7, 3, 3, 1, 2, 8⟩ ∧ spE ⟨4, 6, 3, 1, 2, 5⟩ 7 = 0 := ⟨by kernel_rfl, by kernel_rfl, by kernel_rfl⟩
theorem a_mg : mgR ⟨4, 3, 3, 1, 2, 5⟩ ⟨7, 3, 3, 1, 2, 8⟩ = ⟨4, 6, 3, 1, 2, 5⟩ ∧ mgE ⟨4, 3, 3, 1, 2, 5⟩ ⟨7, 3, 3, 1, 2, 8⟩ = 0 := ⟨by kernel_rfl, by kernel_rfl⟩
theorem a_cu : cuL ⟨4, 6, 3, 1, 2, 5⟩ 5 2 = [⟨4, 1, 3, 1, 2, 5⟩, ⟨7, 3, 3, 1, 2, 8⟩] ∧ cuE ⟨4, 6, 3, 1, 2, 5⟩ 5 2 = 0 := ⟨by kernel_rfl, by kernel_rfl⟩
theorem a_su : spA ⟨500, 12, 1, 2, -1, 0⟩ 505 = ⟨500, 5, 1, 2, -1, 0⟩ ∧ spB ⟨500, 12, 1, 2, -1, 0⟩ 505 = ⟨505, 7, 1, 0, -1, 0⟩ ∧ spE ⟨500, 12, 1, 2, -1, 0⟩ 505 = 0 := ⟨by kernel_rfl, by kernel_rfl, by kernel_rfl⟩
theorem a_pg : pgE ⟨4, 6, 3, 1, 2, 5⟩ 7 = 8 := by kernel_rfl
theorem a_en : enD ⟨4, 6, 3, 1, 2, 5⟩ = 10 := by kernel_rfl
theorem a_pm : pmB ⟨4, 6, 3, 1, 2, 5⟩ true = true := by kernel_rfl
theorem a_c1 : ckE ⟨0, 1, 2, 0, -1, 0⟩ = 1 := by kernel_rfl
theorem a_c2 : ckE ⟨500, 13, 1, 0, -1, 0⟩ = 2 := by kernel_rfl
theorem Rs.at {w : World} {b off : Nat} {L : List R6} (h : Rs w (some ⟨b, off, none⟩) L) {k : Nat} (hk : k < L.length) :
    w.cell? ⟨b, off + k * 6, none⟩ = some (.int .i64 (rAt L k).st) ∧ w.cell? ⟨b, off + k * 6 + 1, none⟩ = some (.int .i64 (rAt L k).pg) ∧ w.cell? ⟨b, off + k * 6 + 2, none⟩ = some (.int .i64 (rAt L k).pr) ∧ w.cell? ⟨b, off + k * 6 + 3, none⟩ = some (.int .i64 (rAt L k).fl) ∧ w.cell? ⟨b, off + k * 6 + 4, none⟩ = some (.int .i64 (rAt L k).fi) ∧ w.cell? ⟨b, off + k * 6 + 5, none⟩ = some (.int .i64 (rAt L k).ix) := by
  obtain ⟨b', off', e, _, hc⟩ := h (by rintro rfl; simp at hk)
  injection e with e
  injection e with e1 e2
  subst e1 e2
  exact ⟨hc k hk 0 (by omega), hc k hk 1 (by omega), hc k hk 2 (by omega), hc k hk 3 (by omega), hc k hk 4 (by omega), hc k hk 5 (by omega)⟩
set_option maxRecDepth 100000 in
set_option maxHeartbeats 8000000 in
theorem awake_any (w : World) : Calls Try.prog 40 #[] w fun e w' => e = .returned (.bool true) ∧ Below w.heap.size w w' := by
  have K := hide (brefl w)
  have SP := fun w => split_any 4 6 3 1 2 5 w (by omega) 7
  unfold A3 at SP
  rw [a_sp.1, a_sp.2.1, a_sp.2.2] at SP
  unfold rV at SP
  dsimp only at SP
  replace SP := hide SP
  have SU := fun w => split_any 500 12 1 2 (-1) 0 w (by omega) 505
  unfold A3 at SU
  rw [a_su.1, a_su.2.1, a_su.2.2] at SU
  unfold rV at SU
  dsimp only at SU
  replace SU := hide SU
  have MG := fun w => merge_any 4 3 3 1 2 5 7 3 3 1 2 8 w (by omega) (by omega)
  unfold A2 at MG
  rw [a_mg.1, a_mg.2] at MG
  unfold rV at MG
  dsimp only at MG
  replace MG := hide MG
  have CU := fun w => cut_any 4 6 3 1 2 5 w (by omega) 5 2 (by omega)
  unfold CuR at CU
  rw [a_cu.1, a_cu.2] at CU
  replace CU := hide CU
  have PG := hide (fun w => page_any 4 6 3 1 2 5 w (by omega) 7)
  rw [a_pg] at PG
  have EN := hide (fun w => end_any 4 6 3 1 2 5 w (by omega))
  rw [a_en] at EN
  have PM := hide (fun w => perm_any 4 6 3 1 2 5 w (by omega) true)
  rw [a_pm] at PM
  have C1 := hide (fun w => check_any 0 1 2 0 (-1) 0 w (by omega))
  rw [a_c1] at C1
  have C2 := hide (fun w => check_any 500 13 1 0 (-1) 0 w (by omega))
  rw [a_c2] at C2
  go_enter Try.func40, Try.ntmps40
  go_upto_region 2 with fail
  have M := bal (brefl w) (.cells #[.int .i64 4, .int .i64 6, .int .i64 3, .int .i64 1, .int .i64 2, .int .i64 5] 58)
  have RR : Hid (RB (w.alloc (.cells #[.int .i64 4, .int .i64 6, .int .i64 3, .int .i64 1, .int .i64 2, .int .i64 5] 58)) w.heap.size ⟨4, 6, 3, 1, 2, 5⟩) := hide (RB.new w 4 6 3 1 2 5)
  replace K := hide (btrans K.out M)
  obtain ⟨b1, hbk⟩ : ∃ q, q = w.heap.size := ⟨_, rfl⟩
  rw [← hbk] at RR ⊢
  clear hbk M
  generalize w.alloc (.cells #[.int .i64 4, .int .i64 6, .int .i64 3, .int .i64 1, .int .i64 2, .int .i64 5] 58) = w1 at *
  try clear x0 x1 x2 x3 x4 x5
  obtain ⟨x0, x1, x2, x3, x4, x5⟩ := RB.cells RR.out
  go_wp2_with fail
  refine (SP.out _).mono ?_
  rintro e w2 ⟨rfl, hb⟩
  replace K := hide (btrans K.out hb)
  replace RR := hide (RR.out.below hb)
  clear hb
  try clear x0 x1 x2 x3 x4 x5
  obtain ⟨x0, x1, x2, x3, x4, x5⟩ := RB.cells RR.out
  go_upto_region 3 with fail
  have M := bal2 w2 (.cells #[.int .i64 4, .int .i64 3, .int .i64 3, .int .i64 1, .int .i64 2, .int .i64 5] 58) (.cells #[.int .i64 7, .int .i64 3, .int .i64 3, .int .i64 1, .int .i64 2, .int .i64 8] 58)
  have RA : Hid (RB ((w2.alloc (.cells #[.int .i64 4, .int .i64 3, .int .i64 3, .int .i64 1, .int .i64 2, .int .i64 5] 58)).alloc (.cells #[.int .i64 7, .int .i64 3, .int .i64 3, .int .i64 1, .int .i64 2, .int .i64 8] 58)) w2.heap.size ⟨4, 3, 3, 1, 2, 5⟩) := hide (Box.more (RB.new w2 4 3 3 1 2 5) (.cells #[.int .i64 7, .int .i64 3, .int .i64 3, .int .i64 1, .int .i64 2, .int .i64 8] 58))
  have RBB : Hid (RB ((w2.alloc (.cells #[.int .i64 4, .int .i64 3, .int .i64 3, .int .i64 1, .int .i64 2, .int .i64 5] 58)).alloc (.cells #[.int .i64 7, .int .i64 3, .int .i64 3, .int .i64 1, .int .i64 2, .int .i64 8] 58)) (w2.heap.size + 1) ⟨7, 3, 3, 1, 2, 8⟩) := hide (Box.new2 w2 (.cells #[.int .i64 4, .int .i64 3, .int .i64 3, .int .i64 1, .int .i64 2, .int .i64 5] 58) 58 #[.int .i64 7, .int .i64 3, .int .i64 3, .int .i64 1, .int .i64 2, .int .i64 8])
  replace K := hide (btrans K.out M)
  replace RR := hide (RR.out.below M)
  obtain ⟨b2, hbk⟩ : ∃ q, q = w2.heap.size := ⟨_, rfl⟩
  rw [← hbk] at RA RBB ⊢
  clear hbk M
  generalize (w2.alloc (.cells #[.int .i64 4, .int .i64 3, .int .i64 3, .int .i64 1, .int .i64 2, .int .i64 5] 58)).alloc (.cells #[.int .i64 7, .int .i64 3, .int .i64 3, .int .i64 1, .int .i64 2, .int .i64 8] 58) = w3 at *
  try clear x0 x1 x2 x3 x4 x5
  obtain ⟨x0, x1, x2, x3, x4, x5⟩ := RB.cells RR.out
  try clear y0 y1 y2 y3 y4 y5
  obtain ⟨y0, y1, y2, y3, y4, y5⟩ := RB.cells RA.out
  try clear z0 z1 z2 z3 z4 z5
  obtain ⟨z0, z1, z2, z3, z4, z5⟩ := RB.cells RBB.out
  go_wp2_with fail
  refine (MG.out _).mono ?_
  rintro e w4 ⟨rfl, hb⟩
  replace K := hide (btrans K.out hb)
  replace RR := hide (RR.out.below hb)
  replace RA := hide (RA.out.below hb)
  replace RBB := hide (RBB.out.below hb)
  clear hb
  try clear x0 x1 x2 x3 x4 x5
  obtain ⟨x0, x1, x2, x3, x4, x5⟩ := RB.cells RR.out
  try clear y0 y1 y2 y3 y4 y5
  obtain ⟨y0, y1, y2, y3, y4, y5⟩ := RB.cells RA.out
  try clear z0 z1 z2 z3 z4 z5
  obtain ⟨z0, z1, z2, z3, z4, z5⟩ := RB.cells RBB.out
  go_upto_region 4 with fail
  have M := bal (brefl w4) (.cells #[.int .i64 4, .int .i64 6, .int .i64 3, .int .i64 1, .int .i64 2, .int .i64 5] 58)
  have RM : Hid (RB (w4.alloc (.cells #[.int .i64 4, .int .i64 6, .int .i64 3, .int .i64 1, .int .i64 2, .int .i64 5] 58)) w4.heap.size ⟨4, 6, 3, 1, 2, 5⟩) := hide (RB.new w4 4 6 3 1 2 5)
  replace K := hide (btrans K.out M)
  replace RR := hide (RR.out.below M)
  replace RA := hide (RA.out.below M)
  replace RBB := hide (RBB.out.below M)
  obtain ⟨b3, hbk⟩ : ∃ q, q = w4.heap.size := ⟨_, rfl⟩
  rw [← hbk] at RM ⊢
  clear hbk M
  generalize w4.alloc (.cells #[.int .i64 4, .int .i64 6, .int .i64 3, .int .i64 1, .int .i64 2, .int .i64 5] 58) = w5 at *
  try clear x0 x1 x2 x3 x4 x5
  obtain ⟨x0, x1, x2, x3, x4, x5⟩ := RB.cells RR.out
  try clear y0 y1 y2 y3 y4 y5
  obtain ⟨y0, y1, y2, y3, y4, y5⟩ := RB.cells RM.out
  try clear z0 z1 z2 z3 z4 z5
  obtain ⟨z0, z1, z2, z3, z4, z5⟩ := RB.cells RBB.out
  go_wp2_with fail
  refine (CU.out _).mono ?_
  rintro e w6 ⟨A6, c6, rfl, hrs, hb⟩
  replace K := hide (btrans K.out hb)
  replace RR := hide (RR.out.below hb)
  replace RM := hide (RM.out.below hb)
  replace RBB := hide (RBB.out.below hb)
  have RS := hide hrs
  clear hrs
  clear hb
  try clear x0 x1 x2 x3 x4 x5
  obtain ⟨x0, x1, x2, x3, x4, x5⟩ := RB.cells RR.out
  try clear y0 y1 y2 y3 y4 y5
  obtain ⟨y0, y1, y2, y3, y4, y5⟩ := RB.cells RM.out
  try clear z0 z1 z2 z3 z4 z5
  obtain ⟨z0, z1, z2, z3, z4, z5⟩ := RB.cells RBB.out
  go_upto_region 6 with fail
  have M := bal (brefl w6) (.cells #[.int .i64 500, .int .i64 12, .int .i64 1, .int .i64 2, .int .i64 (-1), .int .i64 0] 58)
  have RT : Hid (RB (w6.alloc (.cells #[.int .i64 500, .int .i64 12, .int .i64 1, .int .i64 2, .int .i64 (-1), .int .i64 0] 58)) w6.heap.size ⟨500, 12, 1, 2, -1, 0⟩) := hide (RB.new w6 500 12 1 2 (-1) 0)
  replace K := hide (btrans K.out M)
  replace RR := hide (RR.out.below M)
  replace RM := hide (RM.out.below M)
  replace RBB := hide (RBB.out.below M)
  replace RS := hide (RS.out.below M)
  obtain ⟨b4, hbk⟩ : ∃ q, q = w6.heap.size := ⟨_, rfl⟩
  rw [← hbk] at RT ⊢
  clear hbk M
  generalize w6.alloc (.cells #[.int .i64 500, .int .i64 12, .int .i64 1, .int .i64 2, .int .i64 (-1), .int .i64 0] 58) = w7 at *
  try clear x0 x1 x2 x3 x4 x5
  obtain ⟨x0, x1, x2, x3, x4, x5⟩ := RB.cells RR.out
  try clear y0 y1 y2 y3 y4 y5
  obtain ⟨y0, y1, y2, y3, y4, y5⟩ := RB.cells RM.out
  try clear z0 z1 z2 z3 z4 z5
  obtain ⟨z0, z1, z2, z3, z4, z5⟩ := RB.cells RBB.out
  try clear t0 t1 t2 t3 t4 t5
  obtain ⟨t0, t1, t2, t3, t4, t5⟩ := RB.cells RT.out
  go_wp2_with fail
  refine (SU.out _).mono ?_
  rintro e w8 ⟨rfl, hb⟩
  replace K := hide (btrans K.out hb)
  replace RR := hide (RR.out.below hb)
  replace RM := hide (RM.out.below hb)
  replace RBB := hide (RBB.out.below hb)
  replace RS := hide (RS.out.below hb)
  clear hb
  go_upto_region 7 with fail
  have M := bal2 w8 (.cells #[.int .i64 500, .int .i64 5, .int .i64 1, .int .i64 2, .int .i64 (-1), .int .i64 0] 58) (.cells #[.int .i64 505, .int .i64 7, .int .i64 1, .int .i64 0, .int .i64 (-1), .int .i64 0] 58)
  have RL : Hid (RB ((w8.alloc (.cells #[.int .i64 500, .int .i64 5, .int .i64 1, .int .i64 2, .int .i64 (-1), .int .i64 0] 58)).alloc (.cells #[.int .i64 505, .int .i64 7, .int .i64 1, .int .i64 0, .int .i64 (-1), .int .i64 0] 58)) w8.heap.size ⟨500, 5, 1, 2, -1, 0⟩) := hide (Box.more (RB.new w8 500 5 1 2 (-1) 0) (.cells #[.int .i64 505, .int .i64 7, .int .i64 1, .int .i64 0, .int .i64 (-1), .int .i64 0] 58))
  have RU : Hid (RB ((w8.alloc (.cells #[.int .i64 500, .int .i64 5, .int .i64 1, .int .i64 2, .int .i64 (-1), .int .i64 0] 58)).alloc (.cells #[.int .i64 505, .int .i64 7, .int .i64 1, .int .i64 0, .int .i64 (-1), .int .i64 0] 58)) (w8.heap.size + 1) ⟨505, 7, 1, 0, -1, 0⟩) := hide (Box.new2 w8 (.cells #[.int .i64 500, .int .i64 5, .int .i64 1, .int .i64 2, .int .i64 (-1), .int .i64 0] 58) 58 #[.int .i64 505, .int .i64 7, .int .i64 1, .int .i64 0, .int .i64 (-1), .int .i64 0])
  replace K := hide (btrans K.out M)
  replace RR := hide (RR.out.below M)
  replace RM := hide (RM.out.below M)
  replace RBB := hide (RBB.out.below M)
  replace RS := hide (RS.out.below M)
  obtain ⟨b5, hbk⟩ : ∃ q, q = w8.heap.size := ⟨_, rfl⟩
  rw [← hbk] at RL RU ⊢
  clear hbk M
  generalize (w8.alloc (.cells #[.int .i64 500, .int .i64 5, .int .i64 1, .int .i64 2, .int .i64 (-1), .int .i64 0] 58)).alloc (.cells #[.int .i64 505, .int .i64 7, .int .i64 1, .int .i64 0, .int .i64 (-1), .int .i64 0] 58) = w8b at *
  try clear x0 x1 x2 x3 x4 x5
  obtain ⟨x0, x1, x2, x3, x4, x5⟩ := RB.cells RR.out
  try clear y0 y1 y2 y3 y4 y5
  obtain ⟨y0, y1, y2, y3, y4, y5⟩ := RB.cells RM.out
  try clear z0 z1 z2 z3 z4 z5
  obtain ⟨z0, z1, z2, z3, z4, z5⟩ := RB.cells RBB.out
  try clear t0 t1 t2 t3 t4 t5
  clear RT RL
  try clear x0 x1 x2 x3 x4 x5
  try clear y0 y1 y2 y3 y4 y5
  try clear z0 z1 z2 z3 z4 z5
  obtain ⟨bq, oq, eq6, _, _⟩ := RS.out (by simp)
  subst eq6
  replace K := hide (show Below w.heap.size w w8b.drew from btrans K.out (below_drewN (brefl _) 1))
  replace RR := hide (RR.out.below (show Below w8b.heap.size w8b w8b.drew from below_drewN (brefl _) 1))
  replace RM := hide (RM.out.below (show Below w8b.heap.size w8b w8b.drew from below_drewN (brefl _) 1))
  replace RBB := hide (RBB.out.below (show Below w8b.heap.size w8b w8b.drew from below_drewN (brefl _) 1))
  replace RU := hide (RU.out.below (show Below w8b.heap.size w8b w8b.drew from below_drewN (brefl _) 1))
  replace RS := hide (RS.out.below (show Below w8b.heap.size w8b w8b.drew from below_drewN (brefl _) 1))
  refine wp_region_noPanic ?_
  refine wp_region_held_drew (S := (fun W => (W.cell? ⟨b1, 0, none⟩ = some (.int .i64 4) ∧ W.cell? ⟨b1, 1, none⟩ = some (.int .i64 6) ∧ W.cell? ⟨b1, 2, none⟩ = some (.int .i64 3) ∧ W.cell? ⟨b1, 3, none⟩ = some (.int .i64 1) ∧ W.cell? ⟨b1, 4, none⟩ = some (.int .i64 2) ∧ W.cell? ⟨b1, 5, none⟩ = some (.int .i64 5)) ∧ (W.cell? ⟨b3, 0, none⟩ = some (.int .i64 4) ∧ W.cell? ⟨b3, 1, none⟩ = some (.int .i64 6) ∧ W.cell? ⟨b3, 2, none⟩ = some (.int .i64 3) ∧ W.cell? ⟨b3, 3, none⟩ = some (.int .i64 1) ∧ W.cell? ⟨b3, 4, none⟩ = some (.int .i64 2) ∧ W.cell? ⟨b3, 5, none⟩ = some (.int .i64 5)) ∧ (W.cell? ⟨(b2 + 1), 0, none⟩ = some (.int .i64 7) ∧ W.cell? ⟨(b2 + 1), 1, none⟩ = some (.int .i64 3) ∧ W.cell? ⟨(b2 + 1), 2, none⟩ = some (.int .i64 3) ∧ W.cell? ⟨(b2 + 1), 3, none⟩ = some (.int .i64 1) ∧ W.cell? ⟨(b2 + 1), 4, none⟩ = some (.int .i64 2) ∧ W.cell? ⟨(b2 + 1), 5, none⟩ = some (.int .i64 8)) ∧ (W.cell? ⟨(b5 + 1), 0, none⟩ = some (.int .i64 505) ∧ W.cell? ⟨(b5 + 1), 1, none⟩ = some (.int .i64 7) ∧ W.cell? ⟨(b5 + 1), 2, none⟩ = some (.int .i64 1) ∧ W.cell? ⟨(b5 + 1), 3, none⟩ = some (.int .i64 0) ∧ W.cell? ⟨(b5 + 1), 4, none⟩ = some (.int .i64 (-1)) ∧ W.cell? ⟨(b5 + 1), 5, none⟩ = some (.int .i64 0)) ∧ (W.cell? ⟨bq, oq + 6, none⟩ = some (.int .i64 7) ∧ W.cell? ⟨bq, oq + 6 + 1, none⟩ = some (.int .i64 3) ∧ W.cell? ⟨bq, oq + 6 + 2, none⟩ = some (.int .i64 3) ∧ W.cell? ⟨bq, oq + 6 + 3, none⟩ = some (.int .i64 1) ∧ W.cell? ⟨bq, oq + 6 + 4, none⟩ = some (.int .i64 2) ∧ W.cell? ⟨bq, oq + 6 + 5, none⟩ = some (.int .i64 8)))) (by kernel_rfl) ?_ (fun hHeld => ?_)
  · exact ⟨RB.cells RR.out, RB.cells RM.out, RB.cells RBB.out, RB.cells RU.out, Rs.at RS.out (k := 1) (by decide)⟩
  refine wpAnyH_take (i := 0) (oi := ⟨some 38, _, _, _, _, _⟩) (v := ?_) rfl (by kernel_rfl) (by kernel_rfl) (by kernel_rfl) (fun _ _ _ h => h) (Or.inl ⟨by kernel_rfl, ?_⟩) (by assumption) ?_
  rotate_left 1
  · (intro w hSw; (try dsimp only at hSw); go_simp) <;> (with_reducible rfl)
  (try simp only [Act.put, List.setIfInBounds_toArray, List.set_cons_succ, List.set_cons_zero])
  refine wpAnyH_take (i := 1) (oi := ⟨some 39, _, _, _, _, _⟩) (v := ?_) rfl (by kernel_rfl) (by kernel_rfl) (by kernel_rfl) (fun _ _ _ h => h) (Or.inl ⟨by kernel_rfl, ?_⟩) (by assumption) ?_
  rotate_left 1
  · (intro w hSw; (try dsimp only at hSw); go_simp) <;> (with_reducible rfl)
  (try simp only [Act.put, List.setIfInBounds_toArray, List.set_cons_succ, List.set_cons_zero])
  refine wpAnyH_take (i := 2) (oi := ⟨some 40, _, _, _, _, _⟩) (v := ?_) rfl (by kernel_rfl) (by kernel_rfl) (by kernel_rfl) (fun _ _ _ h => h) (Or.inl ⟨by kernel_rfl, ?_⟩) (by assumption) ?_
  rotate_left 1
  · (intro w hSw; (try dsimp only at hSw); go_simp) <;> (with_reducible rfl)
  (try simp only [Act.put, List.setIfInBounds_toArray, List.set_cons_succ, List.set_cons_zero])
  refine wpAnyH_take (i := 3) (oi := ⟨some 41, _, _, _, _, _⟩) (v := ?_) rfl (by kernel_rfl) (by kernel_rfl) (by kernel_rfl) (fun _ _ _ h => h) (Or.inl ⟨by kernel_rfl, ?_⟩) (by assumption) ?_
  rotate_left 1
  · (intro w hSw; (try dsimp only at hSw); go_simp) <;> (with_reducible rfl)
  (try simp only [Act.put, List.setIfInBounds_toArray, List.set_cons_succ, List.set_cons_zero])
  refine wpAnyH_take (i := 4) (oi := ⟨some 42, _, _, _, _, _⟩) (v := ?_) rfl (by kernel_rfl) (by kernel_rfl) (by kernel_rfl) (fun _ _ _ h => h) (Or.inl ⟨by kernel_rfl, ?_⟩) (by assumption) ?_
  rotate_left 1
  · (intro w hSw; (try dsimp only at hSw); go_simp) <;> (with_reducible rfl)
  (try simp only [Act.put, List.setIfInBounds_toArray, List.set_cons_succ, List.set_cons_zero])
  refine wpAnyH_take (i := 5) (oi := ⟨some 43, _, _, _, _, _⟩) (v := ?_) rfl (by kernel_rfl) (by kernel_rfl) (by kernel_rfl) (fun _ _ _ h => h) (Or.inl ⟨by kernel_rfl, ?_⟩) (by assumption) ?_
  rotate_left 1
  · (intro w hSw; (try dsimp only at hSw); go_simp) <;> (with_reducible rfl)
  (try simp only [Act.put, List.setIfInBounds_toArray, List.set_cons_succ, List.set_cons_zero])
  refine wpAnyH_take (i := 6) (oi := ⟨some 44, _, _, _, _, _⟩) (v := ?_) rfl (by kernel_rfl) (by kernel_rfl) (by kernel_rfl) (fun _ _ _ h => h) (Or.inl ⟨by kernel_rfl, ?_⟩) (by assumption) ?_
  rotate_left 1
  · (intro w hSw; (try dsimp only at hSw); go_simp) <;> (with_reducible rfl)
  (try simp only [Act.put, List.setIfInBounds_toArray, List.set_cons_succ, List.set_cons_zero])
  refine wpAnyH_take (i := 7) (oi := ⟨some 45, _, _, _, _, _⟩) (v := ?_) rfl (by kernel_rfl) (by kernel_rfl) (by kernel_rfl) (fun _ _ _ h => h) (Or.inl ⟨by kernel_rfl, ?_⟩) (by assumption) ?_
  rotate_left 1
  · (intro w hSw; (try dsimp only at hSw); go_simp) <;> (with_reducible rfl)
  (try simp only [Act.put, List.setIfInBounds_toArray, List.set_cons_succ, List.set_cons_zero])
  refine wpAnyH_take (i := 8) (oi := ⟨some 46, _, _, _, _, _⟩) (v := ?_) rfl (by kernel_rfl) (by kernel_rfl) (by kernel_rfl) (fun _ _ _ h => h) (Or.inl ⟨by kernel_rfl, ?_⟩) (by assumption) ?_
  rotate_left 1
  · (intro w hSw; (try dsimp only at hSw); go_simp) <;> (with_reducible rfl)
  (try simp only [Act.put, List.setIfInBounds_toArray, List.set_cons_succ, List.set_cons_zero])
  refine wpAnyH_take (i := 9) (oi := ⟨some 47, _, _, _, _, _⟩) (v := ?_) rfl (by kernel_rfl) (by kernel_rfl) (by kernel_rfl) (fun _ _ _ h => h) (Or.inl ⟨by kernel_rfl, ?_⟩) (by assumption) ?_
  rotate_left 1
  · (intro w hSw; (try dsimp only at hSw); go_simp) <;> (with_reducible rfl)
  (try simp only [Act.put, List.setIfInBounds_toArray, List.set_cons_succ, List.set_cons_zero])
  refine wpAnyH_take (i := 10) (oi := ⟨some 48, _, _, _, _, _⟩) (v := ?_) rfl (by kernel_rfl) (by kernel_rfl) (by kernel_rfl) (fun _ _ _ h => h) (Or.inl ⟨by kernel_rfl, ?_⟩) (by assumption) ?_
  rotate_left 1
  · (intro w hSw; (try dsimp only at hSw); go_simp) <;> (with_reducible rfl)
  (try simp only [Act.put, List.setIfInBounds_toArray, List.set_cons_succ, List.set_cons_zero])
  refine wpAnyH_take (i := 11) (oi := ⟨some 49, _, _, _, _, _⟩) (v := ?_) rfl (by kernel_rfl) (by kernel_rfl) (by kernel_rfl) (fun _ _ _ h => h) (Or.inl ⟨by kernel_rfl, ?_⟩) (by assumption) ?_
  rotate_left 1
  · (intro w hSw; (try dsimp only at hSw); go_simp) <;> (with_reducible rfl)
  (try simp only [Act.put, List.setIfInBounds_toArray, List.set_cons_succ, List.set_cons_zero])
  refine wpAnyH_take (i := 12) (oi := ⟨some 50, _, _, _, _, _⟩) (v := ?_) rfl (by kernel_rfl) (by kernel_rfl) (by kernel_rfl) (fun _ _ _ h => h) (Or.inl ⟨by kernel_rfl, ?_⟩) (by assumption) ?_
  rotate_left 1
  · (intro w hSw; (try dsimp only at hSw); go_simp) <;> (with_reducible rfl)
  (try simp only [Act.put, List.setIfInBounds_toArray, List.set_cons_succ, List.set_cons_zero])
  refine wpAnyH_take (i := 13) (oi := ⟨some 51, _, _, _, _, _⟩) (v := ?_) rfl (by kernel_rfl) (by kernel_rfl) (by kernel_rfl) (fun _ _ _ h => h) (Or.inl ⟨by kernel_rfl, ?_⟩) (by assumption) ?_
  rotate_left 1
  · (intro w hSw; (try dsimp only at hSw); go_simp) <;> (with_reducible rfl)
  (try simp only [Act.put, List.setIfInBounds_toArray, List.set_cons_succ, List.set_cons_zero])
  refine wpAnyH_take (i := 14) (oi := ⟨some 52, _, _, _, _, _⟩) (v := ?_) rfl (by kernel_rfl) (by kernel_rfl) (by kernel_rfl) (fun _ _ _ h => h) (Or.inl ⟨by kernel_rfl, ?_⟩) (by assumption) ?_
  rotate_left 1
  · (intro w hSw; (try dsimp only at hSw); go_simp) <;> (with_reducible rfl)
  (try simp only [Act.put, List.setIfInBounds_toArray, List.set_cons_succ, List.set_cons_zero])
  refine wpAnyH_take (i := 15) (oi := ⟨some 53, _, _, _, _, _⟩) (v := ?_) rfl (by kernel_rfl) (by kernel_rfl) (by kernel_rfl) (fun _ _ _ h => h) (Or.inl ⟨by kernel_rfl, ?_⟩) (by assumption) ?_
  rotate_left 1
  · (intro w hSw; (try dsimp only at hSw); go_simp) <;> (with_reducible rfl)
  (try simp only [Act.put, List.setIfInBounds_toArray, List.set_cons_succ, List.set_cons_zero])
  refine wpAnyH_take (i := 16) (oi := ⟨some 54, _, _, _, _, _⟩) (v := ?_) rfl (by kernel_rfl) (by kernel_rfl) (by kernel_rfl) (fun _ _ _ h => h) (Or.inl ⟨by kernel_rfl, ?_⟩) (by assumption) ?_
  rotate_left 1
  · (intro w hSw; (try dsimp only at hSw); go_simp) <;> (with_reducible rfl)
  (try simp only [Act.put, List.setIfInBounds_toArray, List.set_cons_succ, List.set_cons_zero])
  refine wpAnyH_take (i := 17) (oi := ⟨some 55, _, _, _, _, _⟩) (v := ?_) rfl (by kernel_rfl) (by kernel_rfl) (by kernel_rfl) (fun _ _ _ h => h) (Or.inl ⟨by kernel_rfl, ?_⟩) (by assumption) ?_
  rotate_left 1
  · (intro w hSw; (try dsimp only at hSw); go_simp) <;> (with_reducible rfl)
  (try simp only [Act.put, List.setIfInBounds_toArray, List.set_cons_succ, List.set_cons_zero])
  refine wpAnyH_take (i := 18) (oi := ⟨some 56, _, _, _, _, _⟩) (v := ?_) rfl (by kernel_rfl) (by kernel_rfl) (by kernel_rfl) (fun _ _ _ h => h) (Or.inl ⟨by kernel_rfl, ?_⟩) (by assumption) ?_
  rotate_left 1
  · (intro w hSw; (try dsimp only at hSw); go_simp) <;> (with_reducible rfl)
  (try simp only [Act.put, List.setIfInBounds_toArray, List.set_cons_succ, List.set_cons_zero])
  refine wpAnyH_take (i := 19) (oi := ⟨some 57, _, _, _, _, _⟩) (v := ?_) rfl (by kernel_rfl) (by kernel_rfl) (by kernel_rfl) (fun _ _ _ h => h) (Or.inl ⟨by kernel_rfl, ?_⟩) (by assumption) ?_
  rotate_left 1
  · (intro w hSw; (try dsimp only at hSw); go_simp) <;> (with_reducible rfl)
  (try simp only [Act.put, List.setIfInBounds_toArray, List.set_cons_succ, List.set_cons_zero])
  refine wpAnyH_take (i := 20) (oi := ⟨some 58, _, _, _, _, _⟩) (v := ?_) rfl (by kernel_rfl) (by kernel_rfl) (by kernel_rfl) (fun _ _ _ h => h) (Or.inl ⟨by kernel_rfl, ?_⟩) (by assumption) ?_
  rotate_left 1
  · (intro w hSw; (try dsimp only at hSw); go_simp) <;> (with_reducible rfl)
  (try simp only [Act.put, List.setIfInBounds_toArray, List.set_cons_succ, List.set_cons_zero])
  refine wpAnyH_ready (rs := [21]) (by kernel_rfl) (by simp) ?_
  refine AllReadyH.cons (o := _) rfl (fun K' hK => ?_) AllReadyH.nil
  go_simp
  refine (PG.out _).mono ?_
  rintro e w9 ⟨rfl, hb⟩
  replace K := hide (btrans K.out hb)
  replace RR := hide (RR.out.below hb)
  replace RM := hide (RM.out.below hb)
  replace RBB := hide (RBB.out.below hb)
  replace RU := hide (RU.out.below hb)
  replace RS := hide (RS.out.below hb)
  clear hb
  refine hK.out _ _ ?_ (fun hHeld => ?_)
  · exact ⟨RB.cells RR.out, RB.cells RM.out, RB.cells RBB.out, RB.cells RU.out, Rs.at RS.out (k := 1) (by decide)⟩
  clear hK K'
  (try simp only [Act.put, List.setIfInBounds_toArray, List.set_cons_succ, List.set_cons_zero])
  refine wpAnyH_take (i := 22) (oi := ⟨some 60, _, _, _, _, _⟩) (v := ?_) rfl (by kernel_rfl) (by kernel_rfl) (by kernel_rfl) (fun _ _ _ h => h) (Or.inl ⟨by kernel_rfl, ?_⟩) (by assumption) ?_
  rotate_left 1
  · (intro w hSw; (try dsimp only at hSw); go_simp) <;> (with_reducible rfl)
  (try simp only [Act.put, List.setIfInBounds_toArray, List.set_cons_succ, List.set_cons_zero])
  refine wpAnyH_take (i := 23) (oi := ⟨some 61, _, _, _, _, _⟩) (v := ?_) rfl (by kernel_rfl) (by kernel_rfl) (by kernel_rfl) (fun _ _ _ h => h) (Or.inl ⟨by kernel_rfl, ?_⟩) (by assumption) ?_
  rotate_left 1
  · (intro w hSw; (try dsimp only at hSw); go_simp) <;> (with_reducible rfl)
  (try simp only [Act.put, List.setIfInBounds_toArray, List.set_cons_succ, List.set_cons_zero])
  refine wpAnyH_take (i := 24) (oi := ⟨some 62, _, _, _, _, _⟩) (v := ?_) rfl (by kernel_rfl) (by kernel_rfl) (by kernel_rfl) (fun _ _ _ h => h) (Or.inl ⟨by kernel_rfl, ?_⟩) (by assumption) ?_
  rotate_left 1
  · (intro w hSw; (try dsimp only at hSw); go_simp) <;> (with_reducible rfl)
  (try simp only [Act.put, List.setIfInBounds_toArray, List.set_cons_succ, List.set_cons_zero])
  refine wpAnyH_take (i := 25) (oi := ⟨some 63, _, _, _, _, _⟩) (v := ?_) rfl (by kernel_rfl) (by kernel_rfl) (by kernel_rfl) (fun _ _ _ h => h) (Or.inl ⟨by kernel_rfl, ?_⟩) (by assumption) ?_
  rotate_left 1
  · (intro w hSw; (try dsimp only at hSw); go_simp) <;> (with_reducible rfl)
  (try simp only [Act.put, List.setIfInBounds_toArray, List.set_cons_succ, List.set_cons_zero])
  refine wpAnyH_ready (rs := [26]) (by kernel_rfl) (by simp) ?_
  refine AllReadyH.cons (o := _) rfl (fun K' hK => ?_) AllReadyH.nil
  go_simp
  refine (EN.out _).mono ?_
  rintro e w10 ⟨rfl, hb⟩
  replace K := hide (btrans K.out hb)
  replace RR := hide (RR.out.below hb)
  replace RM := hide (RM.out.below hb)
  replace RBB := hide (RBB.out.below hb)
  replace RU := hide (RU.out.below hb)
  replace RS := hide (RS.out.below hb)
  clear hb
  refine hK.out _ _ ?_ (fun hHeld => ?_)
  · exact ⟨RB.cells RR.out, RB.cells RM.out, RB.cells RBB.out, RB.cells RU.out, Rs.at RS.out (k := 1) (by decide)⟩
  clear hK K'
  (try simp only [Act.put, List.setIfInBounds_toArray, List.set_cons_succ, List.set_cons_zero])
  refine wpAnyH_take (i := 27) (oi := ⟨some 65, _, _, _, _, _⟩) (v := ?_) rfl (by kernel_rfl) (by kernel_rfl) (by kernel_rfl) (fun _ _ _ h => h) (Or.inl ⟨by kernel_rfl, ?_⟩) (by assumption) ?_
  rotate_left 1
  · (intro w hSw; (try dsimp only at hSw); go_simp) <;> (with_reducible rfl)
  (try simp only [Act.put, List.setIfInBounds_toArray, List.set_cons_succ, List.set_cons_zero])
  refine wpAnyH_take (i := 28) (oi := ⟨some 66, _, _, _, _, _⟩) (v := ?_) rfl (by kernel_rfl) (by kernel_rfl) (by kernel_rfl) (fun _ _ _ h => h) (Or.inl ⟨by kernel_rfl, ?_⟩) (by assumption) ?_
  rotate_left 1
  · (intro w hSw; (try dsimp only at hSw); go_simp) <;> (with_reducible rfl)
  (try simp only [Act.put, List.setIfInBounds_toArray, List.set_cons_succ, List.set_cons_zero])
  refine wpAnyH_take (i := 29) (oi := ⟨some 67, _, _, _, _, _⟩) (v := ?_) rfl (by kernel_rfl) (by kernel_rfl) (by kernel_rfl) (fun _ _ _ h => h) (Or.inl ⟨by kernel_rfl, ?_⟩) (by assumption) ?_
  rotate_left 1
  · (intro w hSw; (try dsimp only at hSw); go_simp) <;> (with_reducible rfl)
  (try simp only [Act.put, List.setIfInBounds_toArray, List.set_cons_succ, List.set_cons_zero])
  refine wpAnyH_take (i := 30) (oi := ⟨some 68, _, _, _, _, _⟩) (v := ?_) rfl (by kernel_rfl) (by kernel_rfl) (by kernel_rfl) (fun _ _ _ h => h) (Or.inl ⟨by kernel_rfl, ?_⟩) (by assumption) ?_
  rotate_left 1
  · (intro w hSw; (try dsimp only at hSw); go_simp) <;> (with_reducible rfl)
  (try simp only [Act.put, List.setIfInBounds_toArray, List.set_cons_succ, List.set_cons_zero])
  refine wpAnyH_ready (rs := [31]) (by kernel_rfl) (by simp) ?_
  refine AllReadyH.cons (o := _) rfl (fun K' hK => ?_) AllReadyH.nil
  go_simp
  refine (PM.out _).mono ?_
  rintro e w11 ⟨rfl, hb⟩
  replace K := hide (btrans K.out hb)
  replace RR := hide (RR.out.below hb)
  replace RM := hide (RM.out.below hb)
  replace RBB := hide (RBB.out.below hb)
  replace RU := hide (RU.out.below hb)
  replace RS := hide (RS.out.below hb)
  clear hb
  refine hK.out _ _ ?_ (fun hHeld => ?_)
  · exact ⟨RB.cells RR.out, RB.cells RM.out, RB.cells RBB.out, RB.cells RU.out, Rs.at RS.out (k := 1) (by decide)⟩
  clear hK K'
  (try simp only [Act.put, List.setIfInBounds_toArray, List.set_cons_succ, List.set_cons_zero])
  refine wpAnyH_take (i := 32) (oi := ⟨some 70, _, _, _, _, _⟩) (v := ?_) rfl (by kernel_rfl) (by kernel_rfl) (by kernel_rfl) (fun _ _ _ h => h) (Or.inl ⟨by kernel_rfl, ?_⟩) (by assumption) ?_
  rotate_left 1
  · (intro w hSw; (try dsimp only at hSw); go_simp) <;> (with_reducible rfl)
  (try simp only [Act.put, List.setIfInBounds_toArray, List.set_cons_succ, List.set_cons_zero])
  refine wpAnyH_take (i := 33) (oi := ⟨some 71, _, _, _, _, _⟩) (v := ?_) rfl (by kernel_rfl) (by kernel_rfl) (by kernel_rfl) (fun _ _ _ h => h) (Or.inl ⟨by kernel_rfl, ?_⟩) (by assumption) ?_
  rotate_left 1
  · (intro w hSw; (try dsimp only at hSw); go_simp) <;> (with_reducible rfl)
  (try simp only [Act.put, List.setIfInBounds_toArray, List.set_cons_succ, List.set_cons_zero])
  refine wpAnyH_take (i := 34) (oi := ⟨some 72, _, _, _, _, _⟩) (v := ?_) rfl (by kernel_rfl) (by kernel_rfl) (by kernel_rfl) (fun _ _ _ h => h) (Or.inl ⟨by kernel_rfl, ?_⟩) (by assumption) ?_
  rotate_left 1
  · (intro w hSw; (try dsimp only at hSw); go_simp) <;> (with_reducible rfl)
  (try simp only [Act.put, List.setIfInBounds_toArray, List.set_cons_succ, List.set_cons_zero])
  refine wpAnyH_take (i := 35) (oi := ⟨some 73, _, _, _, _, _⟩) (v := ?_) rfl (by kernel_rfl) (by kernel_rfl) (by kernel_rfl) (fun _ _ _ h => h) (Or.inl ⟨by kernel_rfl, ?_⟩) (by assumption) ?_
  rotate_left 1
  · (intro w hSw; (try dsimp only at hSw); go_simp) <;> (with_reducible rfl)
  (try simp only [Act.put, List.setIfInBounds_toArray, List.set_cons_succ, List.set_cons_zero])
  refine wpAnyH_take (i := 36) (oi := ⟨some 74, _, _, _, _, _⟩) (v := ?_) rfl (by kernel_rfl) (by kernel_rfl) (by kernel_rfl) (fun _ _ _ h => h) (Or.inl ⟨by kernel_rfl, ?_⟩) (by assumption) ?_
  rotate_left 1
  · (intro w hSw; (try dsimp only at hSw); go_simp) <;> (with_reducible rfl)
  (try simp only [Act.put, List.setIfInBounds_toArray, List.set_cons_succ, List.set_cons_zero])
  refine wpAnyH_take (i := 37) (oi := ⟨some 75, _, _, _, _, _⟩) (v := ?_) rfl (by kernel_rfl) (by kernel_rfl) (by kernel_rfl) (fun _ _ _ h => h) (Or.inl ⟨by kernel_rfl, ?_⟩) (by assumption) ?_
  rotate_left 1
  · (intro w hSw; (try dsimp only at hSw); go_simp) <;> (with_reducible rfl)
  (try simp only [Act.put, List.setIfInBounds_toArray, List.set_cons_succ, List.set_cons_zero])
  refine wpAnyH_take (i := 38) (oi := ⟨some 76, _, _, _, _, _⟩) (v := ?_) rfl (by kernel_rfl) (by kernel_rfl) (by kernel_rfl) (fun _ _ _ h => h) (Or.inl ⟨by kernel_rfl, ?_⟩) (by assumption) ?_
  rotate_left 1
  · (intro w hSw; (try dsimp only at hSw); go_simp) <;> (with_reducible rfl)
  (try simp only [Act.put, List.setIfInBounds_toArray, List.set_cons_succ, List.set_cons_zero])
  refine wpAnyH_take (i := 39) (oi := ⟨some 77, _, _, _, _, _⟩) (v := ?_) rfl (by kernel_rfl) (by kernel_rfl) (by kernel_rfl) (fun _ _ _ h => h) (Or.inl ⟨by kernel_rfl, ?_⟩) (by assumption) ?_
  rotate_left 1
  · (intro w hSw; (try dsimp only at hSw); go_simp) <;> (with_reducible rfl)
  (try simp only [Act.put, List.setIfInBounds_toArray, List.set_cons_succ, List.set_cons_zero])
  refine wpAnyH_take (i := 40) (oi := ⟨some 78, _, _, _, _, _⟩) (v := ?_) rfl (by kernel_rfl) (by kernel_rfl) (by kernel_rfl) (fun _ _ _ h => h) (Or.inl ⟨by kernel_rfl, ?_⟩) (by assumption) ?_
  rotate_left 1
  · (intro w hSw; (try dsimp only at hSw); go_simp) <;> (with_reducible rfl)
  (try simp only [Act.put, List.setIfInBounds_toArray, List.set_cons_succ, List.set_cons_zero])
  refine wpAnyH_take (i := 41) (oi := ⟨some 79, _, _, _, _, _⟩) (v := ?_) rfl (by kernel_rfl) (by kernel_rfl) (by kernel_rfl) (fun _ _ _ h => h) (Or.inl ⟨by kernel_rfl, ?_⟩) (by assumption) ?_
  rotate_left 1
  · (intro w hSw; (try dsimp only at hSw); go_simp) <;> (with_reducible rfl)
  (try simp only [Act.put, List.setIfInBounds_toArray, List.set_cons_succ, List.set_cons_zero])
  refine wpAnyH_take (i := 42) (oi := ⟨some 80, _, _, _, _, _⟩) (v := ?_) rfl (by kernel_rfl) (by kernel_rfl) (by kernel_rfl) (fun _ _ _ h => h) (Or.inl ⟨by kernel_rfl, ?_⟩) (by assumption) ?_
  rotate_left 1
  · (intro w hSw; (try dsimp only at hSw); go_simp) <;> (with_reducible rfl)
  (try simp only [Act.put, List.setIfInBounds_toArray, List.set_cons_succ, List.set_cons_zero])
  refine wpAnyH_take (i := 43) (oi := ⟨some 81, _, _, _, _, _⟩) (v := ?_) rfl (by kernel_rfl) (by kernel_rfl) (by kernel_rfl) (fun _ _ _ h => h) (Or.inl ⟨by kernel_rfl, ?_⟩) (by assumption) ?_
  rotate_left 1
  · (intro w hSw; (try dsimp only at hSw); go_simp) <;> (with_reducible rfl)
  (try simp only [Act.put, List.setIfInBounds_toArray, List.set_cons_succ, List.set_cons_zero])
  refine wpAnyH_take (i := 44) (oi := ⟨some 82, _, _, _, _, _⟩) (v := ?_) rfl (by kernel_rfl) (by kernel_rfl) (by kernel_rfl) (fun _ _ _ h => h) (Or.inl ⟨by kernel_rfl, ?_⟩) (by assumption) ?_
  rotate_left 1
  · (intro w hSw; (try dsimp only at hSw); go_simp) <;> (with_reducible rfl)
  (try simp only [Act.put, List.setIfInBounds_toArray, List.set_cons_succ, List.set_cons_zero])
  refine wpAnyH_take (i := 45) (oi := ⟨some 83, _, _, _, _, _⟩) (v := ?_) rfl (by kernel_rfl) (by kernel_rfl) (by kernel_rfl) (fun _ _ _ h => h) (Or.inl ⟨by kernel_rfl, ?_⟩) (by assumption) ?_
  rotate_left 1
  · (intro w hSw; (try dsimp only at hSw); go_simp) <;> (with_reducible rfl)
  (try simp only [Act.put, List.setIfInBounds_toArray, List.set_cons_succ, List.set_cons_zero])
  refine wpAnyH_take (i := 46) (oi := ⟨some 84, _, _, _, _, _⟩) (v := ?_) rfl (by kernel_rfl) (by kernel_rfl) (by kernel_rfl) (fun _ _ _ h => h) (Or.inl ⟨by kernel_rfl, ?_⟩) (by assumption) ?_
  rotate_left 1
  · (intro w hSw; (try dsimp only at hSw); go_simp) <;> (with_reducible rfl)
  (try simp only [Act.put, List.setIfInBounds_toArray, List.set_cons_succ, List.set_cons_zero])
  refine wpAnyH_take (i := 47) (oi := ⟨some 85, _, _, _, _, _⟩) (v := ?_) rfl (by kernel_rfl) (by kernel_rfl) (by kernel_rfl) (fun _ _ _ h => h) (Or.inl ⟨by kernel_rfl, ?_⟩) (by assumption) ?_
  rotate_left 1
  · (intro w hSw; (try dsimp only at hSw); go_simp) <;> (with_reducible rfl)
  (try simp only [Act.put, List.setIfInBounds_toArray, List.set_cons_succ, List.set_cons_zero])
  refine wpAnyH_take (i := 48) (oi := ⟨some 86, _, _, _, _, _⟩) (v := ?_) rfl (by kernel_rfl) (by kernel_rfl) (by kernel_rfl) (fun _ _ _ h => h) (Or.inl ⟨by kernel_rfl, ?_⟩) (by assumption) ?_
  rotate_left 1
  · (intro w hSw; (try dsimp only at hSw); go_simp) <;> (with_reducible rfl)
  (try simp only [Act.put, List.setIfInBounds_toArray, List.set_cons_succ, List.set_cons_zero])
  refine wpAnyH_take (i := 49) (oi := ⟨some 87, _, _, _, _, _⟩) (v := ?_) rfl (by kernel_rfl) (by kernel_rfl) (by kernel_rfl) (fun _ _ _ h => h) (Or.inl ⟨by kernel_rfl, ?_⟩) (by assumption) ?_
  rotate_left 1
  · (intro w hSw; (try dsimp only at hSw); go_simp) <;> (with_reducible rfl)
  (try simp only [Act.put, List.setIfInBounds_toArray, List.set_cons_succ, List.set_cons_zero])
  refine wpAnyH_take (i := 50) (oi := ⟨some 88, _, _, _, _, _⟩) (v := ?_) rfl (by kernel_rfl) (by kernel_rfl) (by kernel_rfl) (fun _ _ _ h => h) (Or.inl ⟨by kernel_rfl, ?_⟩) (by assumption) ?_
  rotate_left 1
  · (intro w hSw; (try dsimp only at hSw); go_simp) <;> (with_reducible rfl)
  (try simp only [Act.put, List.setIfInBounds_toArray, List.set_cons_succ, List.set_cons_zero])
  refine wpAnyH_take (i := 51) (oi := ⟨some 89, _, _, _, _, _⟩) (v := ?_) rfl (by kernel_rfl) (by kernel_rfl) (by kernel_rfl) (fun _ _ _ h => h) (Or.inl ⟨by kernel_rfl, ?_⟩) (by assumption) ?_
  rotate_left 1
  · (intro w hSw; (try dsimp only at hSw); go_simp) <;> (with_reducible rfl)
  (try simp only [Act.put, List.setIfInBounds_toArray, List.set_cons_succ, List.set_cons_zero])
  refine wpAnyH_take (i := 52) (oi := ⟨some 90, _, _, _, _, _⟩) (v := ?_) rfl (by kernel_rfl) (by kernel_rfl) (by kernel_rfl) (fun _ _ _ h => h) (Or.inl ⟨by kernel_rfl, ?_⟩) (by assumption) ?_
  rotate_left 1
  · (intro w hSw; (try dsimp only at hSw); go_simp) <;> (with_reducible rfl)
  (try simp only [Act.put, List.setIfInBounds_toArray, List.set_cons_succ, List.set_cons_zero])
  refine wpAnyH_take (i := 53) (oi := ⟨some 91, _, _, _, _, _⟩) (v := ?_) rfl (by kernel_rfl) (by kernel_rfl) (by kernel_rfl) (fun _ _ _ h => h) (Or.inl ⟨by kernel_rfl, ?_⟩) (by assumption) ?_
  rotate_left 1
  · (intro w hSw; (try dsimp only at hSw); go_simp) <;> (with_reducible rfl)
  (try simp only [Act.put, List.setIfInBounds_toArray, List.set_cons_succ, List.set_cons_zero])
  refine wpAnyH_take (i := 54) (oi := ⟨some 92, _, _, _, _, _⟩) (v := ?_) rfl (by kernel_rfl) (by kernel_rfl) (by kernel_rfl) (fun _ _ _ h => h) (Or.inl ⟨by kernel_rfl, ?_⟩) (by assumption) ?_
  rotate_left 1
  · (intro w hSw; (try dsimp only at hSw); go_simp) <;> (with_reducible rfl)
  (try simp only [Act.put, List.setIfInBounds_toArray, List.set_cons_succ, List.set_cons_zero])
  refine wpAnyH_take (i := 55) (oi := ⟨some 93, _, _, _, _, _⟩) (v := ?_) rfl (by kernel_rfl) (by kernel_rfl) (by kernel_rfl) (fun _ _ _ h => h) (Or.inl ⟨by kernel_rfl, ?_⟩) (by assumption) ?_
  rotate_left 1
  · (intro w hSw; (try dsimp only at hSw); go_simp) <;> (with_reducible rfl)
  (try simp only [Act.put, List.setIfInBounds_toArray, List.set_cons_succ, List.set_cons_zero])
  refine wpAnyH_take (i := 56) (oi := ⟨some 94, _, _, _, _, _⟩) (v := ?_) rfl (by kernel_rfl) (by kernel_rfl) (by kernel_rfl) (fun _ _ _ h => h) (Or.inl ⟨by kernel_rfl, ?_⟩) (by assumption) ?_
  rotate_left 1
  · (intro w hSw; (try dsimp only at hSw); go_simp) <;> (with_reducible rfl)
  (try simp only [Act.put, List.setIfInBounds_toArray, List.set_cons_succ, List.set_cons_zero])
  refine wpAnyH_ready (rs := [57]) (by kernel_rfl) (by simp) ?_
  refine AllReadyH.cons (o := _) rfl (fun K' hK => ?_) AllReadyH.nil
  go_simp
  refine (C1.out _).mono ?_
  rintro e w12 ⟨rfl, hb⟩
  replace K := hide (btrans K.out hb)
  replace RR := hide (RR.out.below hb)
  replace RM := hide (RM.out.below hb)
  replace RBB := hide (RBB.out.below hb)
  replace RU := hide (RU.out.below hb)
  replace RS := hide (RS.out.below hb)
  clear hb
  refine hK.out _ _ ?_ (fun hHeld => ?_)
  · exact ⟨RB.cells RR.out, RB.cells RM.out, RB.cells RBB.out, RB.cells RU.out, Rs.at RS.out (k := 1) (by decide)⟩
  clear hK K'
  (try simp only [Act.put, List.setIfInBounds_toArray, List.set_cons_succ, List.set_cons_zero])
  refine wpAnyH_take (i := 58) (oi := ⟨some 96, _, _, _, _, _⟩) (v := ?_) rfl (by kernel_rfl) (by kernel_rfl) (by kernel_rfl) (fun _ _ _ h => h) (Or.inl ⟨by kernel_rfl, ?_⟩) (by assumption) ?_
  rotate_left 1
  · (intro w hSw; (try dsimp only at hSw); go_simp) <;> (with_reducible rfl)
  (try simp only [Act.put, List.setIfInBounds_toArray, List.set_cons_succ, List.set_cons_zero])
  refine wpAnyH_take (i := 59) (oi := ⟨some 97, _, _, _, _, _⟩) (v := ?_) rfl (by kernel_rfl) (by kernel_rfl) (by kernel_rfl) (fun _ _ _ h => h) (Or.inl ⟨by kernel_rfl, ?_⟩) (by assumption) ?_
  rotate_left 1
  · (intro w hSw; (try dsimp only at hSw); go_simp) <;> (with_reducible rfl)
  (try simp only [Act.put, List.setIfInBounds_toArray, List.set_cons_succ, List.set_cons_zero])
  refine wpAnyH_take (i := 60) (oi := ⟨some 98, _, _, _, _, _⟩) (v := ?_) rfl (by kernel_rfl) (by kernel_rfl) (by kernel_rfl) (fun _ _ _ h => h) (Or.inl ⟨by kernel_rfl, ?_⟩) (by assumption) ?_
  rotate_left 1
  · (intro w hSw; (try dsimp only at hSw); go_simp) <;> (with_reducible rfl)
  (try simp only [Act.put, List.setIfInBounds_toArray, List.set_cons_succ, List.set_cons_zero])
  refine wpAnyH_take (i := 61) (oi := ⟨some 99, _, _, _, _, _⟩) (v := ?_) rfl (by kernel_rfl) (by kernel_rfl) (by kernel_rfl) (fun _ _ _ h => h) (Or.inl ⟨by kernel_rfl, ?_⟩) (by assumption) ?_
  rotate_left 1
  · (intro w hSw; (try dsimp only at hSw); go_simp) <;> (with_reducible rfl)
  (try simp only [Act.put, List.setIfInBounds_toArray, List.set_cons_succ, List.set_cons_zero])
  refine wpAnyH_ready (rs := [62]) (by kernel_rfl) (by simp) ?_
  refine AllReadyH.cons (o := _) rfl (fun K' hK => ?_) AllReadyH.nil
  go_simp
  refine (C2.out _).mono ?_
  rintro e w13 ⟨rfl, hb⟩
  replace K := hide (btrans K.out hb)
  replace RR := hide (RR.out.below hb)
  replace RM := hide (RM.out.below hb)
  replace RBB := hide (RBB.out.below hb)
  replace RU := hide (RU.out.below hb)
  replace RS := hide (RS.out.below hb)
  clear hb
  refine hK.out _ _ ?_ (fun hHeld => ?_)
  · exact ⟨RB.cells RR.out, RB.cells RM.out, RB.cells RBB.out, RB.cells RU.out, Rs.at RS.out (k := 1) (by decide)⟩
  clear hK K'
  (try simp only [Act.put, List.setIfInBounds_toArray, List.set_cons_succ, List.set_cons_zero])
  refine wpAnyH_take (i := 63) (oi := ⟨some 101, _, _, _, _, _⟩) (v := ?_) rfl (by kernel_rfl) (by kernel_rfl) (by kernel_rfl) (fun _ _ _ h => h) (Or.inl ⟨by kernel_rfl, ?_⟩) (by assumption) ?_
  rotate_left 1
  · (intro w hSw; (try dsimp only at hSw); go_simp) <;> (with_reducible rfl)
  (try simp only [Act.put, List.setIfInBounds_toArray, List.set_cons_succ, List.set_cons_zero])
  refine wpAnyH_take (i := 64) (oi := ⟨some 102, _, _, _, _, _⟩) (v := ?_) rfl (by kernel_rfl) (by kernel_rfl) (by kernel_rfl) (fun _ _ _ h => h) (Or.inl ⟨by kernel_rfl, ?_⟩) (by assumption) ?_
  rotate_left 1
  · (intro w hSw; (try dsimp only at hSw); go_simp) <;> (with_reducible rfl)
  (try simp only [Act.put, List.setIfInBounds_toArray, List.set_cons_succ, List.set_cons_zero])
  refine wpAnyH_take (i := 65) (oi := ⟨some 0, _, _, _, _, _⟩) (v := ?_) rfl (by kernel_rfl) (by kernel_rfl) (by kernel_rfl) (fun _ _ _ h => h) (Or.inl ⟨by kernel_rfl, ?_⟩) (by assumption) ?_
  rotate_left 1
  · (intro w hSw; (try dsimp only at hSw); go_simp) <;> (with_reducible rfl)
  (try simp only [Act.put, List.setIfInBounds_toArray, List.set_cons_succ, List.set_cons_zero])
  refine wpAnyH_done (by kernel_rfl) ?_ _
  refine NoPanic.normal ?_
  go_wp2
  go_ret
  exact ⟨rfl, K.out⟩
end Go.Proofs.Ytimclgmajhhheaa.Rg
