import Derived.Test.YtimclgmajhhheaaR2
namespace Go.Proofs.Ytimclgmajhhheaa.Rg
open Go Go.RowKit Ac
set_option linter.unusedVariables false
set_option linter.unusedSimpArgs false
set_option maxRecDepth 100000 in
set_option maxHeartbeats 4000000 in
theorem rovl_any (st pg pr fl fi ix st2 pg2 pr2 fl2 fi2 ix2 : Int) (w : World) (hp : pg ≤ 9223372036854775807) (hp2 : pg2 ≤ 9223372036854775807) : Calls Try.prog 48 #[.agg #[.int .i64 st, .int .i64 pg, .int .i64 pr, .int .i64 fl, .int .i64 fi, .int .i64 ix], .agg #[.int .i64 st2, .int .i64 pg2, .int .i64 pr2, .int .i64 fl2, .int .i64 fi2, .int .i64 ix2]] w fun e w' => e = .returned (.bool (ovB ⟨st, pg, pr, fl, fi, ix⟩ ⟨st2, pg2, pr2, fl2, fi2, ix2⟩)) ∧ Below w.heap.size w w' := by
  have X := hide (show RB ((w.alloc (.cells #[.int .i64 st, .int .i64 pg, .int .i64 pr, .int .i64 fl, .int .i64 fi, .int .i64 ix] 58)).alloc (.cells #[.int .i64 st2, .int .i64 pg2, .int .i64 pr2, .int .i64 fl2, .int .i64 fi2, .int .i64 ix2] 58)) w.heap.size ⟨st, pg, pr, fl, fi, ix⟩ from Box.more (Box.new w 58 #[.int .i64 st, .int .i64 pg, .int .i64 pr, .int .i64 fl, .int .i64 fi, .int .i64 ix]) (.cells #[.int .i64 st2, .int .i64 pg2, .int .i64 pr2, .int .i64 fl2, .int .i64 fi2, .int .i64 ix2] 58))
  have Y := hide (show RB ((w.alloc (.cells #[.int .i64 st, .int .i64 pg, .int .i64 pr, .int .i64 fl, .int .i64 fi, .int .i64 ix] 58)).alloc (.cells #[.int .i64 st2, .int .i64 pg2, .int .i64 pr2, .int .i64 fl2, .int .i64 fi2, .int .i64 ix2] 58)) (w.heap.size + 1) ⟨st2, pg2, pr2, fl2, fi2, ix2⟩ from Box.new2 w (.cells #[.int .i64 st, .int .i64 pg, .int .i64 pr, .int .i64 fl, .int .i64 fi, .int .i64 ix] 58) 58 #[.int .i64 st2, .int .i64 pg2, .int .i64 pr2, .int .i64 fl2, .int .i64 fi2, .int .i64 ix2])
  have K := hide (show Below w.heap.size w ((w.alloc (.cells #[.int .i64 st, .int .i64 pg, .int .i64 pr, .int .i64 fl, .int .i64 fi, .int .i64 ix] 58)).alloc (.cells #[.int .i64 st2, .int .i64 pg2, .int .i64 pr2, .int .i64 fl2, .int .i64 fi2, .int .i64 ix2] 58)) from bal2 w _ _)
  obtain ⟨W0, hW0⟩ : ∃ W0, W0 = (w.alloc (.cells #[.int .i64 st, .int .i64 pg, .int .i64 pr, .int .i64 fl, .int .i64 fi, .int .i64 ix] 58)).alloc (.cells #[.int .i64 st2, .int .i64 pg2, .int .i64 pr2, .int .i64 fl2, .int .i64 fi2, .int .i64 ix2] 58) := ⟨_, rfl⟩
  rw [← hW0] at X Y K
  obtain ⟨g2, hg2⟩ : ∃ g2, g2 = w.heap.size := ⟨_, rfl⟩
  rw [← hg2] at X Y
  have HW := hide hW0
  have HB := hide hg2
  clear hW0 hg2
  have Ca := hide (fun w => rcheck_any st pg pr fl fi ix w hp)
  have Cb := hide (fun w => rcheck_any st2 pg2 pr2 fl2 fi2 ix2 w hp2)
  by_cases ha : Ok ⟨st, pg, pr, fl, fi, ix⟩
  rotate_left 1
  · have hq : ovB ⟨st, pg, pr, fl, fi, ix⟩ ⟨st2, pg2, pr2, fl2, fi2, ix2⟩ = false := decide_eq_false (fun h => ha h.1)
    rw [hq]
    clear hq
    have hc1 : (ckE ⟨st, pg, pr, fl, fi, ix⟩ != 0) = true := bne_iff_ne.2 (fun h => ha (ok_iff.1 h))
    generalize ckE ⟨st, pg, pr, fl, fi, ix⟩ = ca1 at *
    clear ha
    go_enter Try.func48, Try.ntmps48
    go_upto_region 1 with fail
    rw [← HW.out, ← HB.out]
    clear HW HB
    try clear x0 x1 x2 x3 x4 x5
    obtain ⟨x0, x1, x2, x3, x4, x5⟩ := X.out.cells
    try clear y0 y1 y2 y3 y4 y5
    obtain ⟨y0, y1, y2, y3, y4, y5⟩ := Y.out.cells
    go_wp2_with fail
    refine (Ca.out _).mono ?_
    rintro e w2 ⟨rfl, hb⟩
    replace K := hide (btrans K.out hb)
    replace X := hide (X.out.below hb)
    replace Y := hide (Y.out.below hb)
    clear hb
    try clear x0 x1 x2 x3 x4 x5
    obtain ⟨x0, x1, x2, x3, x4, x5⟩ := X.out.cells
    try clear y0 y1 y2 y3 y4 y5
    obtain ⟨y0, y1, y2, y3, y4, y5⟩ := Y.out.cells
    go_wp2
    go_ret
    exact ⟨rfl, K.out⟩
  rw [ok_iff.2 ha] at Ca
  by_cases hb2 : Ok ⟨st2, pg2, pr2, fl2, fi2, ix2⟩
  rotate_left 1
  · have hq : ovB ⟨st, pg, pr, fl, fi, ix⟩ ⟨st2, pg2, pr2, fl2, fi2, ix2⟩ = false := decide_eq_false (fun h => hb2 h.2.1)
    rw [hq]
    clear hq
    have hc2 : (ckE ⟨st2, pg2, pr2, fl2, fi2, ix2⟩ != 0) = true := bne_iff_ne.2 (fun h => hb2 (ok_iff.1 h))
    generalize ckE ⟨st2, pg2, pr2, fl2, fi2, ix2⟩ = ca2 at *
    clear hb2 ha
    go_enter Try.func48, Try.ntmps48
    go_upto_region 1 with fail
    rw [← HW.out, ← HB.out]
    clear HW HB
    try clear x0 x1 x2 x3 x4 x5
    obtain ⟨x0, x1, x2, x3, x4, x5⟩ := X.out.cells
    try clear y0 y1 y2 y3 y4 y5
    obtain ⟨y0, y1, y2, y3, y4, y5⟩ := Y.out.cells
    go_wp2_with fail
    refine (Ca.out _).mono ?_
    rintro e w2 ⟨rfl, hb⟩
    replace K := hide (btrans K.out hb)
    replace X := hide (X.out.below hb)
    replace Y := hide (Y.out.below hb)
    clear hb
    try clear x0 x1 x2 x3 x4 x5
    obtain ⟨x0, x1, x2, x3, x4, x5⟩ := X.out.cells
    try clear y0 y1 y2 y3 y4 y5
    obtain ⟨y0, y1, y2, y3, y4, y5⟩ := Y.out.cells
    go_wp2_with fail
    refine (Cb.out _).mono ?_
    rintro e w3 ⟨rfl, hb⟩
    replace K := hide (btrans K.out hb)
    replace X := hide (X.out.below hb)
    replace Y := hide (Y.out.below hb)
    clear hb
    try clear x0 x1 x2 x3 x4 x5
    obtain ⟨x0, x1, x2, x3, x4, x5⟩ := X.out.cells
    try clear y0 y1 y2 y3 y4 y5
    obtain ⟨y0, y1, y2, y3, y4, y5⟩ := Y.out.cells
    go_wp2
    go_ret
    exact ⟨rfl, K.out⟩
  rw [ok_iff.2 hb2] at Cb
  have o1 := ha.1.1
  have o2 := ha.2.1
  have o3 := ha.2.2.1
  dsimp only at o1 o2 o3
  have hq : ovB ⟨st, pg, pr, fl, fi, ix⟩ ⟨st2, pg2, pr2, fl2, fi2, ix2⟩ = decide (st < st2 + pg2 ∧ st2 < st + pg) := by unfold ovB; simp [ha, hb2]
  rw [hq]
  obtain ⟨D, hD⟩ : ∃ D, D = decide (st < st2 + pg2 ∧ st2 < st + pg) := ⟨_, rfl⟩
  rw [← hD]
  have HD := hide hD
  clear hD
  have HS := hide (fun q w => rhas_any st2 pg2 pr2 fl2 fi2 ix2 w hp2 q)
  unfold hasB at HS
  have HH := fun (q : Int) => (show (Ok ⟨st2, pg2, pr2, fl2, fi2, ix2⟩ ∧ st2 ≤ q ∧ q < st2 + pg2) ↔ (st2 ≤ q ∧ q < st2 + pg2) from ⟨fun h => h.2, fun h => ⟨hb2, h⟩⟩)
  dsimp only at HS
  have l2 := hb2.1.1
  dsimp only at l2
  clear hq ha
  simp only [HH] at HS
  clear HH hb2
  go_enter Try.func48, Try.ntmps48
  go_upto_region 1 with fail
  rw [← HW.out, ← HB.out]
  clear HW HB
  try clear x0 x1 x2 x3 x4 x5
  obtain ⟨x0, x1, x2, x3, x4, x5⟩ := X.out.cells
  try clear y0 y1 y2 y3 y4 y5
  obtain ⟨y0, y1, y2, y3, y4, y5⟩ := Y.out.cells
  go_wp2_with fail
  refine (Ca.out _).mono ?_
  rintro e w2 ⟨rfl, hb⟩
  replace K := hide (btrans K.out hb)
  replace X := hide (X.out.below hb)
  replace Y := hide (Y.out.below hb)
  clear hb
  try clear x0 x1 x2 x3 x4 x5
  obtain ⟨x0, x1, x2, x3, x4, x5⟩ := X.out.cells
  try clear y0 y1 y2 y3 y4 y5
  obtain ⟨y0, y1, y2, y3, y4, y5⟩ := Y.out.cells
  go_wp2_with fail
  refine (Cb.out _).mono ?_
  rintro e w3 ⟨rfl, hb⟩
  replace K := hide (btrans K.out hb)
  replace X := hide (X.out.below hb)
  replace Y := hide (Y.out.below hb)
  clear hb
  try clear x0 x1 x2 x3 x4 x5
  obtain ⟨x0, x1, x2, x3, x4, x5⟩ := X.out.cells
  try clear y0 y1 y2 y3 y4 y5
  obtain ⟨y0, y1, y2, y3, y4, y5⟩ := Y.out.cells
  go_wp2
  clear x0 x1 x2 x3 x4 x5 y0 y1 y2 y3 y4 y5
  go_loopw [5] (fun i wr => ∃ q : Int, st ≤ q ∧ q ≤ st + pg ∧ i = .int .i64 q ∧ Hid (RB wr g2 ⟨st, pg, pr, fl, fi, ix⟩) ∧ Hid (RB wr (g2 + 1) ⟨st2, pg2, pr2, fl2, fi2, ix2⟩) ∧ Hid (Below w.heap.size w wr) ∧ Hid (∀ x, st ≤ x → x < q → ¬ (st2 ≤ x ∧ x < st2 + pg2))) (fun i _ => (st + pg - intOf i).toNat)
  case atStart => exact ⟨st, Int.le_refl _, by omega, rfl, X, Y, K, hide (fun x h h2 => by omega)⟩
  case round =>
    clear X Y K
    obtain ⟨q, hq0, hq1, rfl, X, Y, K, N⟩ := hrel
    try clear x0 x1 x2 x3 x4 x5
    obtain ⟨x0, x1, x2, x3, x4, x5⟩ := X.out.cells
    try clear y0 y1 y2 y3 y4 y5
    obtain ⟨y0, y1, y2, y3, y4, y5⟩ := Y.out.cells
    by_cases hlt : q < st + pg
    · have HQ := hide (fun w => HS.out q w)
      by_cases hin : st2 ≤ q ∧ q < st2 + pg2
      · rw [decide_eq_true hin] at HQ
        have E := hide (show true = D by rw [HD.out]; exact (decide_eq_true (by omega)).symm)
        clear hin
        go_wp2_with fail
        refine (HQ.out _).mono ?_
        rintro e w4 ⟨rfl, hb⟩
        replace K := hide (btrans K.out hb)
        replace X := hide (X.out.below hb)
        replace Y := hide (Y.out.below hb)
        clear hb
        try clear x0 x1 x2 x3 x4 x5
        obtain ⟨x0, x1, x2, x3, x4, x5⟩ := X.out.cells
        try clear y0 y1 y2 y3 y4 y5
        obtain ⟨y0, y1, y2, y3, y4, y5⟩ := Y.out.cells
        go_wp2
        go_ret
        exact ⟨ret_bool E.out, K.out⟩
      · have N2 := hide (fun x (h : st ≤ x) (h2 : x < q + 1) => (if e : x = q then e ▸ hin else N.out x h (by omega) : ¬ (st2 ≤ x ∧ x < st2 + pg2)))
        rw [decide_eq_false hin] at HQ
        clear hin N
        go_wp2_with fail
        refine (HQ.out _).mono ?_
        rintro e w4 ⟨rfl, hb⟩
        replace K := hide (btrans K.out hb)
        replace X := hide (X.out.below hb)
        replace Y := hide (Y.out.below hb)
        clear hb
        try clear x0 x1 x2 x3 x4 x5
        obtain ⟨x0, x1, x2, x3, x4, x5⟩ := X.out.cells
        try clear y0 y1 y2 y3 y4 y5
        obtain ⟨y0, y1, y2, y3, y4, y5⟩ := Y.out.cells
        go_wp2
        go_roundw
        case rel => exact ⟨q + 1, by omega, by omega, rfl, X, Y, K, N2⟩
        case measure => simp [intOf]; omega
    · have E := hide (show false = D by
        rw [HD.out]
        exact (decide_eq_false (fun h => by
          by_cases c : st ≤ st2
          · exact N.out st2 c (by omega) (by omega)
          · exact N.out st (by omega) (by omega) (by omega))).symm)
      clear N
      go_wp2
      go_ret
      exact ⟨ret_bool E.out, K.out⟩
set_option maxRecDepth 100000 in
set_option maxHeartbeats 4000000 in
theorem same_refl (A B : Option Addr) (c d : Nat) (L : List R6) (w : World) (hr : Rs w A L) (hs : Rs w B L) (hn : L.length ≤ 1000) :
    Calls Try.prog 59 #[.slice A L.length c, .slice B L.length d] w fun e w' => e = .returned (.bool true) ∧ Below w.heap.size w w' := by
  have HR := hide hr
  have HS := hide hs
  have K0 := hide (brefl w)
  clear hr hs
  go_enter Try.func59, Try.ntmps59
  go_wp2
  go_loopw [5] (fun i wr => ∃ k : Nat, k ≤ L.length ∧ i = .int .i64 k ∧ Hid (Below w.heap.size w wr)) (fun i _ => L.length - (intOf i).toNat)
  case atStart => exact ⟨0, Nat.zero_le _, rfl, K0⟩
  case round =>
    clear K0
    obtain ⟨k, hk, rfl, K⟩ := hrel
    by_cases hlt : k < L.length
    · obtain ⟨b, off, rfl, _, x0, x1, x2, x3, x4, x5⟩ := HR.out.cells K.out hlt
      obtain ⟨b', off', rfl, _, y0, y1, y2, y3, y4, y5⟩ := HS.out.cells K.out hlt
      have hk0 : (0 : Int) ≤ (k : Int) := by omega
      have hkl : (k : Int) < (L.length : Int) := by omega
      generalize (rAt L k).st = z0 at *
      generalize (rAt L k).pg = z1 at *
      generalize (rAt L k).pr = z2 at *
      generalize (rAt L k).fl = z3 at *
      generalize (rAt L k).fi = z4 at *
      generalize (rAt L k).ix = z5 at *
      go_wp2
      go_quiet (fail)
      generalize hwy : World.drewN wr _ = wy
      have hbq : Below wr.heap.size wr wy := by rw [← hwy]; exact below_drewN (brefl _) _
      replace K := hide (btrans K.out hbq)
      clear hwy hbq x0 x1 x2 x3 x4 x5 y0 y1 y2 y3 y4 y5
      go_wp2
      go_roundw
      case rel => exact ⟨k + 1, by omega, by go_num, K⟩
      case measure => simp [intOf]; omega
    · obtain rfl : k = L.length := by omega
      go_wp2
      go_ret
      exact ⟨rfl, K.out⟩
end Go.Proofs.Ytimclgmajhhheaa.Rg
