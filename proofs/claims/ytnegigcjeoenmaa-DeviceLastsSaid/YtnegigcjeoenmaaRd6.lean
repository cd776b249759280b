import Derived.Test.YtnegigcjeoenmaaRd5
namespace Go.Proofs.Ytnegigcjeoenmaa.Dv
open Go Go.RowKit
set_option linter.unusedVariables false
theorem chk_n {D : Dev} (h : D.nxt < 0 ∨ mx < D.nxt) : chk D = 2 := by unfold chk; rw [if_pos h]
theorem chk_b {D : Dev} (h : ¬ (D.nxt < 0 ∨ mx < D.nxt)) (h2 : nwE D.dep D.bl ≠ 0) : chk D = nwE D.dep D.bl := by unfold chk; rw [if_neg h, if_pos h2]
theorem chk_c {D : Dev} (h : ¬ (D.nxt < 0 ∨ mx < D.nxt)) (h2 : nwE D.dep D.bl = 0) (h3 : caE D.bl.length D.ca ≠ 0) : chk D = caE D.bl.length D.ca := by unfold chk; rw [if_neg h, if_neg (by simpa using h2), if_pos h3]
theorem chk_q {D : Dev} (h : ¬ (D.nxt < 0 ∨ mx < D.nxt)) (h2 : nwE D.dep D.bl = 0) (h3 : caE D.bl.length D.ca = 0) : chk D = if D.dep < D.qu.length then 8 else quE D.bl.length D.nxt D.qu := by unfold chk; rw [if_neg h, if_neg (by simpa using h2), if_neg (by simpa using h3)]
set_option maxHeartbeats 4000000 in
theorem check_any (v : Value) (D : Dev) (w : World) (h : DevIn w v D) (hB : Big D) :
    Calls Try.prog 16 #[v] w fun e w' => e = .returned (.int .i64 (chk D)) ∧ Below w.heap.size w w' := by
  obtain ⟨Ab, cb, Ac, cc, Aq, cq, rfl, h1, h2, h3, rb, rc, rq⟩ := h
  obtain ⟨W0, hW0⟩ : ∃ W0, W0 = w.alloc (.cells #[.int .i64 D.dep, .int .i64 D.nxt, .slice Ab D.bl.length cb, .slice Ac D.ca.length cc, .slice Aq D.qu.length cq] 28) := ⟨_, rfl⟩
  have K0 := hide (show Below w.heap.size w W0 by rw [hW0]; exact bal (brefl w) _)
  have X := hide (show Box W0 w.heap.size 28 #[.int .i64 D.dep, .int .i64 D.nxt, .slice Ab D.bl.length cb, .slice Ac D.ca.length cc, .slice Aq D.qu.length cq] by rw [hW0]; exact Box.new w 28 _)
  have RB := hide (rb.below K0.out)
  have RC := hide (rc.below K0.out)
  have RQ := hide (rq.below K0.out)
  by_cases g1 : D.nxt < 0
  · have E := hide (chk_n (.inl g1))
    have hd : decide (D.nxt < 0) = true := decide_eq_true g1
    generalize D.dep = dep at *
    generalize D.nxt = nxt at *
    clear rb rc rq RB RC RQ
    go_enter Try.func16, Try.ntmps16
    go_wp2
    rw [← hW0]
    go_ret
    exact ⟨ret_int E.out.symm, K0.out⟩
  have hd1 : decide (D.nxt < 0) = false := decide_eq_false g1
  by_cases g2 : mx < D.nxt
  · have E := hide (chk_n (.inr g2))
    have hd : decide ((1099511627776 : Int) < D.nxt) = true := decide_eq_true g2
    generalize D.dep = dep at *
    generalize D.nxt = nxt at *
    clear rb rc rq RB RC RQ g2
    go_enter Try.func16, Try.ntmps16
    go_wp2
    rw [← hW0]
    go_ret
    exact ⟨ret_int E.out.symm, K0.out⟩
  have hd2 : decide ((1099511627776 : Int) < D.nxt) = false := decide_eq_false g2
  have G := hide (show ¬ (D.nxt < 0 ∨ mx < D.nxt) from fun h => h.elim g1 g2)
  have C1 := hide (fun W (hb : Below W0.heap.size W0 W) => chkbl_any D.dep Ab D.bl cb W (RB.out.below hb) hB.bl)
  have C2 := hide (fun W (hb : Below W0.heap.size W0 W) => chkca_any D.dep D.nxt Ab D.bl.length cb Ac D.ca cc Aq D.qu.length cq W (RC.out.below hb) hB.ca)
  have C3 := hide (fun W (hb : Below W0.heap.size W0 W) => chkqu_any D.dep D.nxt Ab D.bl.length cb Ac D.ca.length cc Aq D.qu cq W (RQ.out.below hb) hB.qu)
  have HW := hide hW0
  clear rb rc rq RB RC RQ g1 g2 hB
  by_cases e1 : nwE D.dep D.bl = 0
  · have E1 := hide e1
    rw [e1] at C1
    by_cases e2 : caE D.bl.length D.ca = 0
    · have E := hide (chk_q G.out E1.out e2)
      rw [e2] at C2
      generalize (if D.dep < (D.qu.length : Int) then (8 : Int) else quE D.bl.length D.nxt D.qu) = er at *
      generalize D.dep = dep at *
      generalize D.nxt = nxt at *
      clear e1 e2 E1 G hW0
      go_enter Try.func16, Try.ntmps16
      go_wp2_with fail
      rw [← HW.out]
      refine (C1.out _ (brefl _)).mono ?_
      rintro e w1 ⟨rfl, rfl⟩
      obtain ⟨x0, x1⟩ : W0.cell? ⟨w.heap.size, 0, none⟩ = some (.int .i64 dep) ∧ W0.cell? ⟨w.heap.size, 1, none⟩ = some (.int .i64 nxt) := ⟨X.out.cell 0, X.out.cell 1⟩
      have x2 := X.out.cell 2
      have x3 := X.out.cell 3
      have x4 := X.out.cell 4
      simp at x2 x3 x4
      go_wp2_with fail
      refine (C2.out _ (brefl _)).mono ?_
      rintro e w1 ⟨rfl, hb⟩
      have K := hide hb
      clear hb x0 x1 x2 x3 x4
      have x0 := (X.out.below K.out).cell 0
      have x1 := (X.out.below K.out).cell 1
      have x2 := (X.out.below K.out).cell 2
      have x3 := (X.out.below K.out).cell 3
      have x4 := (X.out.below K.out).cell 4
      simp at x0 x1 x2 x3 x4
      go_wp2_with fail
      refine (C3.out _ K.out).mono ?_
      rintro e w2 ⟨rfl, hb⟩
      have K2 := hide hb
      clear hb x0 x1 x2 x3 x4
      go_wp2
      go_ret
      exact ⟨ret_int E.out.symm, btrans K0.out (btrans K.out K2.out)⟩
    · have E := hide (chk_c G.out E1.out e2)
      have hd : (caE D.bl.length D.ca != 0) = true := by simpa using e2
      generalize caE D.bl.length D.ca = er at *
      generalize D.dep = dep at *
      generalize D.nxt = nxt at *
      clear e1 e2 E1 G hW0
      go_enter Try.func16, Try.ntmps16
      go_wp2_with fail
      rw [← HW.out]
      refine (C1.out _ (brefl _)).mono ?_
      rintro e w1 ⟨rfl, rfl⟩
      obtain ⟨x0, x1⟩ : W0.cell? ⟨w.heap.size, 0, none⟩ = some (.int .i64 dep) ∧ W0.cell? ⟨w.heap.size, 1, none⟩ = some (.int .i64 nxt) := ⟨X.out.cell 0, X.out.cell 1⟩
      have x2 := X.out.cell 2
      have x3 := X.out.cell 3
      have x4 := X.out.cell 4
      simp at x2 x3 x4
      go_wp2_with fail
      refine (C2.out _ (brefl _)).mono ?_
      rintro e w1 ⟨rfl, hb⟩
      have K := hide hb
      clear hb x0 x1 x2 x3 x4
      go_wp2
      go_ret
      exact ⟨ret_int E.out.symm, btrans K0.out K.out⟩
  · have E := hide (chk_b G.out e1)
    have hd : (nwE D.dep D.bl != 0) = true := by simpa using e1
    generalize nwE D.dep D.bl = er at *
    generalize D.dep = dep at *
    generalize D.nxt = nxt at *
    clear e1 G hW0
    go_enter Try.func16, Try.ntmps16
    go_wp2_with fail
    rw [← HW.out]
    refine (C1.out _ (brefl _)).mono ?_
    rintro e w1 ⟨rfl, rfl⟩
    go_wp2
    go_ret
    exact ⟨ret_int E.out.symm, K0.out⟩
end Go.Proofs.Ytnegigcjeoenmaa.Dv
