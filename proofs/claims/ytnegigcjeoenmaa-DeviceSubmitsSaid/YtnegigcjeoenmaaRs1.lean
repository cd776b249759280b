import Derived.Test.YtnegigcjeoenmaaRc2
import Derived.Test.YtnegigcjeoenmaaSb2
import Derived.Test.YtnegigcjeoenmaaCp1
namespace Go.Proofs.Ytnegigcjeoenmaa.Dv
open Go Go.RowKit
set_option linter.unusedVariables false
set_option maxHeartbeats 1500000 in
theorem rsubmit_err (v : Value) (D : Dev) (k b : Int) (u : Value) (l : By) (w : World) (h : DevIn w v D) (hB : Big D) (hu : IsBs w u l) (he : sbE D k b l.length ≠ 0) :
    Calls Try.prog 34 #[v, .int .i64 k, .int .i64 b, u] w (DvR3 zeroD 0 (sbE D k b l.length) w) := by
  obtain ⟨A, c, rfl, hc, hul⟩ := hu
  obtain ⟨Ab, cb, Ac, cc, Aq, cq, rfl, h1, h2, h3, rb, rc, rq⟩ := h
  obtain ⟨W0, hW0⟩ : ∃ W0, W0 = (w.alloc (.cells #[.int .i64 D.dep, .int .i64 D.nxt, .slice Ab D.bl.length cb, .slice Ac D.ca.length cc, .slice Aq D.qu.length cq] 28)).alloc (.cells #[.int .i64 0, .int .i64 0, .slice none 0 0, .slice none 0 0, .slice none 0 0] 28) := ⟨_, rfl⟩
  have K0 := hide (show Below w.heap.size w W0 by rw [hW0]; exact bal (bal (brefl w) _) _)
  have X := hide (show Box W0 w.heap.size 28 #[.int .i64 D.dep, .int .i64 D.nxt, .slice Ab D.bl.length cb, .slice Ac D.ca.length cc, .slice Aq D.qu.length cq] by rw [hW0]; exact (Box.new w 28 _).more _)
  have Y := hide (show Box W0 (w.heap.size + 1) 28 #[.int .i64 0, .int .i64 0, .slice none 0 0, .slice none 0 0, .slice none 0 0] by rw [hW0]; exact Box.new2 _ _ _ _)
  have IN := hide (show DevIn w (.agg #[.int .i64 D.dep, .int .i64 D.nxt, .slice Ab D.bl.length cb, .slice Ac D.ca.length cc, .slice Aq D.qu.length cq]) D from ⟨Ab, cb, Ac, cc, Aq, cq, rfl, h1, h2, h3, rb, rc, rq⟩)
  have C1 := hide (rcheck_any _ D W0 (IN.out.below K0.out) hB)
  have CQ := hide (fun W => rreq_any k b l.length D.bl.length W)
  have HW := hide hW0
  clear rb rc rq hW0 hul hB IN
  by_cases e1 : chk D = 0
  · rw [e1] at C1
    by_cases e2 : reqE D.bl.length k b l.length = 0
    · rw [e2] at CQ
      by_cases e3 : D.nxt = mx
      · have E := hide (show sbE D k b l.length = 9 by unfold sbE; rw [if_neg (fun h => h e1), if_neg (fun h => h e2), if_pos e3])
        rw [E.out]
        have hd : (D.nxt == 1099511627776) = true := by rw [e3]; decide
        clear e1 e2 e3 E he
        generalize D.dep = dep at *
        generalize D.nxt = nxt at *
        go_enter Try.func34, Try.ntmps34
        go_wp2_with fail
        rw [← HW.out]
        refine C1.out.mono ?_
        rintro e w1 ⟨rfl, hb⟩
        have K := hide hb
        clear hb
        obtain ⟨x0, x1, x2, x3, x4⟩ := box5_cells (W' := w1) (X.out.below K.out)
        go_wp2_with fail
        refine (CQ.out w1).mono ?_
        rintro e w2 ⟨rfl, rfl⟩
        have Y1 := hide (Y.out.below K.out)
        obtain ⟨r0, r1, r2, r3, r4⟩ := box5_cells (W' := w1) Y1.out
        have f0 := Y1.out.frozen 0
        have f1 := Y1.out.frozen 1
        have f2 := Y1.out.frozen 2
        have f3 := Y1.out.frozen 3
        have f4 := Y1.out.frozen 4
        go_wp2
        have KS := hide (kp_set5 (B := w.heap.size) Y1.out (Nat.le_succ _) (.int .i64 0) (.int .i64 0) (.slice none 0 0) (.slice none 0 0) (.slice none 0 0))
        exact ret_d3 Try.results34 rfl rfl rfl rfl (Y1.out.set5 _ _ _ _ _) ⟨_, rfl, DevOwn.zero _ _, (btrans K0.out K.out).trans KS.out.below⟩
      · have hd3 : (D.nxt == 1099511627776) = false := by have : D.nxt ≠ 1099511627776 := e3; simpa using this
        by_cases e4 : D.dep ≤ D.qu.length
        · have E := hide (show sbE D k b l.length = 8 by unfold sbE; rw [if_neg (fun h => h e1), if_neg (fun h => h e2), if_neg e3, if_pos e4])
          rw [E.out]
          clear e1 e2 e3 E he
          generalize D.dep = dep at *
          generalize D.nxt = nxt at *
          go_enter Try.func34, Try.ntmps34
          go_wp2_with fail
          rw [← HW.out]
          refine C1.out.mono ?_
          rintro e w1 ⟨rfl, hb⟩
          have K := hide hb
          clear hb
          obtain ⟨x0, x1, x2, x3, x4⟩ := box5_cells (W' := w1) (X.out.below K.out)
          go_wp2_with fail
          refine (CQ.out w1).mono ?_
          rintro e w2 ⟨rfl, rfl⟩
          have Y1 := hide (Y.out.below K.out)
          obtain ⟨r0, r1, r2, r3, r4⟩ := box5_cells (W' := w1) Y1.out
          have f0 := Y1.out.frozen 0
          have f1 := Y1.out.frozen 1
          have f2 := Y1.out.frozen 2
          have f3 := Y1.out.frozen 3
          have f4 := Y1.out.frozen 4
          go_wp2
          have KS := hide (kp_set5 (B := w.heap.size) Y1.out (Nat.le_succ _) (.int .i64 0) (.int .i64 0) (.slice none 0 0) (.slice none 0 0) (.slice none 0 0))
          exact ret_d3 Try.results34 rfl rfl rfl rfl (Y1.out.set5 _ _ _ _ _) ⟨_, rfl, DevOwn.zero _ _, (btrans K0.out K.out).trans KS.out.below⟩
        · exact absurd (show sbE D k b l.length = 0 by unfold sbE; rw [if_neg (fun h => h e1), if_neg (fun h => h e2), if_neg e3, if_neg e4]) he
    · have E := hide (show sbE D k b l.length = reqE D.bl.length k b l.length by unfold sbE; rw [if_neg (fun h => h e1), if_pos e2])
      rw [E.out]
      have hd : (reqE D.bl.length k b l.length != 0) = true := by simpa using e2
      clear e1 E he
      generalize reqE D.bl.length k b l.length = er at *
      clear e2
      generalize D.dep = dep at *
      generalize D.nxt = nxt at *
      go_enter Try.func34, Try.ntmps34
      go_wp2_with fail
      rw [← HW.out]
      refine C1.out.mono ?_
      rintro e w1 ⟨rfl, hb⟩
      have K := hide hb
      clear hb
      obtain ⟨x0, x1, x2, x3, x4⟩ := box5_cells (W' := w1) (X.out.below K.out)
      go_wp2_with fail
      refine (CQ.out w1).mono ?_
      rintro e w2 ⟨rfl, rfl⟩
      have Y1 := hide (Y.out.below K.out)
      obtain ⟨r0, r1, r2, r3, r4⟩ := box5_cells (W' := w1) Y1.out
      have f0 := Y1.out.frozen 0
      have f1 := Y1.out.frozen 1
      have f2 := Y1.out.frozen 2
      have f3 := Y1.out.frozen 3
      have f4 := Y1.out.frozen 4
      go_wp2
      have KS := hide (kp_set5 (B := w.heap.size) Y1.out (Nat.le_succ _) (.int .i64 0) (.int .i64 0) (.slice none 0 0) (.slice none 0 0) (.slice none 0 0))
      exact ret_d3 Try.results34 rfl rfl rfl rfl (Y1.out.set5 _ _ _ _ _) ⟨_, rfl, DevOwn.zero _ _, (btrans K0.out K.out).trans KS.out.below⟩
  · have E := hide (show sbE D k b l.length = chk D by unfold sbE; rw [if_pos e1])
    rw [E.out]
    have hd : (chk D != 0) = true := by simpa using e1
    clear E he CQ
    generalize chk D = er at *
    clear e1
    generalize D.dep = dep at *
    generalize D.nxt = nxt at *
    go_enter Try.func34, Try.ntmps34
    go_wp2_with fail
    rw [← HW.out]
    refine C1.out.mono ?_
    rintro e w1 ⟨rfl, hb⟩
    have K := hide hb
    clear hb
    have Y1 := hide (Y.out.below K.out)
    obtain ⟨r0, r1, r2, r3, r4⟩ := box5_cells (W' := w1) Y1.out
    have f0 := Y1.out.frozen 0
    have f1 := Y1.out.frozen 1
    have f2 := Y1.out.frozen 2
    have f3 := Y1.out.frozen 3
    have f4 := Y1.out.frozen 4
    go_wp2
    have KS := hide (kp_set5 (B := w.heap.size) Y1.out (Nat.le_succ _) (.int .i64 0) (.int .i64 0) (.slice none 0 0) (.slice none 0 0) (.slice none 0 0))
    exact ret_d3 Try.results34 rfl rfl rfl rfl (Y1.out.set5 _ _ _ _ _) ⟨_, rfl, DevOwn.zero _ _, (btrans K0.out K.out).trans KS.out.below⟩
end Go.Proofs.Ytnegigcjeoenmaa.Dv
