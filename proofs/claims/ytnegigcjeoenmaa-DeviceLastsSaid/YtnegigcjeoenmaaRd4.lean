import Derived.Test.YtnegigcjeoenmaaRd3
namespace Go.Proofs.Ytnegigcjeoenmaa.Dv
open Go Go.RowKit
set_option linter.unusedVariables false
set_option maxHeartbeats 4000000 in
theorem chkrq_any (dep nxt : Int) (Ab : Option Addr) (nb cb : Nat) (Ac : Option Addr) (nc cc : Nat) (Aq : Option Addr) (nq cq : Nat) (i k b : Int) (A : Option Addr) (l : By) (c : Nat) (w : World) :
    Calls Try.prog 60 #[dv dep nxt Ab nb cb Ac nc cc Aq nq cq, .agg #[.int .i64 i, .int .i64 k, .int .i64 b, .slice A l.length c]] w fun e w' => e = .returned (.int .i64 (reqE nb k b l.length)) ∧ Below w.heap.size w w' := by
  obtain ⟨W0, hW0⟩ : ∃ W0, W0 = (w.alloc (.cells #[.int .i64 dep, .int .i64 nxt, .slice Ab nb cb, .slice Ac nc cc, .slice Aq nq cq] 28)).alloc (.cells #[.int .i64 i, .int .i64 k, .int .i64 b, .slice A l.length c] 39) := ⟨_, rfl⟩
  have K0 := hide (show Below w.heap.size w ((w.alloc (.cells #[.int .i64 dep, .int .i64 nxt, .slice Ab nb cb, .slice Ac nc cc, .slice Aq nq cq] 28)).alloc (.cells #[.int .i64 i, .int .i64 k, .int .i64 b, .slice A l.length c] 39)) from bal (bal (brefl w) _) _)
  have Y0 := hide (show Box W0 (w.heap.size + 1) 39 #[.int .i64 i, .int .i64 k, .int .i64 b, .slice A l.length c] by rw [hW0]; exact Box.new2 _ _ _ _)
  have IB := hide (fun w => isb_any dep nxt Ab nb cb (.slice Ac nc cc) (.slice Aq nq cq) b w)
  have HW := hide hW0
  by_cases k1 : k = 1
  · subst k1
    rw [← hW0] at K0
    clear hW0
    cases hq : inB nb b with
    | false =>
      rw [hq] at IB
      have E := hide (show reqE nb 1 b l.length = 2 by unfold reqE; rw [if_neg (by simp), if_pos (by rw [hq]; simp)])
      rw [E.out]
      clear E hq
      go_enter Try.func60, Try.ntmps60
      go_wp2_with fail
      rw [← HW.out]
      refine (IB.out _).mono ?_
      rintro e w1 ⟨rfl, hb⟩
      have K := hide hb
      have y0 := (Y0.out.below hb).cell 0
      have y1 := (Y0.out.below hb).cell 1
      have y2 := (Y0.out.below hb).cell 2
      have y3 := (Y0.out.below hb).cell 3
      simp at y0 y1 y2 y3
      clear hb
      go_wp2
      go_ret
      exact ⟨rfl, btrans K0.out K.out⟩
    | true =>
      rw [hq] at IB
      by_cases hl : l.length = 0
      · have hd : ¬ (0 : Int) < (l.length : Int) := by omega
        have hd2 : ¬ 0 < l.length := by omega
        have E := hide (show reqE nb 1 b l.length = 0 by unfold reqE; rw [if_neg (by simp), if_neg (by rw [hq]; simp), if_neg (by omega)])
        rw [E.out]
        clear E hq hl
        go_enter Try.func60, Try.ntmps60
        go_wp2_with fail
        rw [← HW.out]
        refine (IB.out _).mono ?_
        rintro e w1 ⟨rfl, hb⟩
        have K := hide hb
        have y0 := (Y0.out.below hb).cell 0
        have y1 := (Y0.out.below hb).cell 1
        have y2 := (Y0.out.below hb).cell 2
        have y3 := (Y0.out.below hb).cell 3
        simp at y0 y1 y2 y3
        clear hb
        go_wp2
        go_ret
        exact ⟨rfl, btrans K0.out K.out⟩
      · have hd : (0 : Int) < (l.length : Int) := by omega
        have hd2 : 0 < l.length := by omega
        have E := hide (show reqE nb 1 b l.length = 3 by unfold reqE; rw [if_neg (by simp), if_neg (by rw [hq]; simp), if_pos (by omega)])
        rw [E.out]
        clear E hq hl
        go_enter Try.func60, Try.ntmps60
        go_wp2_with fail
        rw [← HW.out]
        refine (IB.out _).mono ?_
        rintro e w1 ⟨rfl, hb⟩
        have K := hide hb
        have y0 := (Y0.out.below hb).cell 0
        have y1 := (Y0.out.below hb).cell 1
        have y2 := (Y0.out.below hb).cell 2
        have y3 := (Y0.out.below hb).cell 3
        simp at y0 y1 y2 y3
        clear hb
        go_wp2
        go_ret
        exact ⟨rfl, btrans K0.out K.out⟩
  by_cases k2 : k = 2
  · subst k2
    rw [← hW0] at K0
    clear hW0
    cases hq : inB nb b with
    | false =>
      rw [hq] at IB
      have E := hide (show reqE nb 2 b l.length = 2 by unfold reqE; rw [if_neg (by simp), if_pos (by rw [hq]; simp)])
      rw [E.out]
      clear E hq
      go_enter Try.func60, Try.ntmps60
      go_wp2_with fail
      rw [← HW.out]
      refine (IB.out _).mono ?_
      rintro e w1 ⟨rfl, hb⟩
      have K := hide hb
      have y0 := (Y0.out.below hb).cell 0
      have y1 := (Y0.out.below hb).cell 1
      have y2 := (Y0.out.below hb).cell 2
      have y3 := (Y0.out.below hb).cell 3
      simp at y0 y1 y2 y3
      clear hb
      go_wp2
      go_ret
      exact ⟨rfl, btrans K0.out K.out⟩
    | true =>
      rw [hq] at IB
      have NP := hide (fun w => nop_any A l c w)
      by_cases hl : l.length = 32
      · rw [show noP l = false by unfold noP; simpa using hl] at NP
        have E := hide (show reqE nb 2 b l.length = 0 by unfold reqE; rw [if_neg (by simp), if_neg (by rw [hq]; simp), if_neg (by omega)])
        rw [E.out]
        clear E hq hl
        go_enter Try.func60, Try.ntmps60
        go_wp2_with fail
        rw [← HW.out]
        refine (IB.out _).mono ?_
        rintro e w1 ⟨rfl, hb⟩
        have K := hide hb
        have y0 := (Y0.out.below hb).cell 0
        have y1 := (Y0.out.below hb).cell 1
        have y2 := (Y0.out.below hb).cell 2
        have y3 := (Y0.out.below hb).cell 3
        simp at y0 y1 y2 y3
        clear hb
        go_wp2_with (go_at_call 57; refine (NP.out _).mono ?_; rintro e w2 ⟨rfl, rfl⟩)
        go_ret
        exact ⟨rfl, btrans K0.out K.out⟩
      · rw [show noP l = true by unfold noP; simpa using hl] at NP
        have E := hide (show reqE nb 2 b l.length = 3 by unfold reqE; rw [if_neg (by simp), if_neg (by rw [hq]; simp), if_pos (by omega)])
        rw [E.out]
        clear E hq hl
        go_enter Try.func60, Try.ntmps60
        go_wp2_with fail
        rw [← HW.out]
        refine (IB.out _).mono ?_
        rintro e w1 ⟨rfl, hb⟩
        have K := hide hb
        have y0 := (Y0.out.below hb).cell 0
        have y1 := (Y0.out.below hb).cell 1
        have y2 := (Y0.out.below hb).cell 2
        have y3 := (Y0.out.below hb).cell 3
        simp at y0 y1 y2 y3
        clear hb
        go_wp2_with (go_at_call 57; refine (NP.out _).mono ?_; rintro e w2 ⟨rfl, rfl⟩)
        go_ret
        exact ⟨rfl, btrans K0.out K.out⟩
  by_cases k3 : k = 3
  · subst k3
    by_cases hb : b = 0
    · subst hb
      rw [← hW0] at K0
      clear hW0
      cases hq : inB nb 0 with
      | false =>
        rw [hq] at IB
        have E := hide (show reqE nb 3 0 l.length = 2 by unfold reqE; rw [if_neg (by simp), if_pos (by rw [hq]; simp)])
        rw [E.out]
        clear E hq
        go_enter Try.func60, Try.ntmps60
        go_wp2_with fail
        rw [← HW.out]
        refine (IB.out _).mono ?_
        rintro e w1 ⟨rfl, hb⟩
        have K := hide hb
        have y0 := (Y0.out.below hb).cell 0
        have y1 := (Y0.out.below hb).cell 1
        have y2 := (Y0.out.below hb).cell 2
        have y3 := (Y0.out.below hb).cell 3
        simp at y0 y1 y2 y3
        clear hb
        go_wp2
        go_ret
        exact ⟨rfl, btrans K0.out K.out⟩
      | true =>
        rw [hq] at IB
        by_cases hl : l.length = 0
        · have hd : ¬ (0 : Int) < (l.length : Int) := by omega
          have hd2 : ¬ 0 < l.length := by omega
          have E := hide (show reqE nb 3 0 l.length = 0 by unfold reqE; rw [if_neg (by simp), if_neg (by rw [hq]; simp), if_neg (by omega)])
          rw [E.out]
          clear E hq hl
          go_enter Try.func60, Try.ntmps60
          go_wp2_with fail
          rw [← HW.out]
          refine (IB.out _).mono ?_
          rintro e w1 ⟨rfl, hb⟩
          have K := hide hb
          have y0 := (Y0.out.below hb).cell 0
          have y1 := (Y0.out.below hb).cell 1
          have y2 := (Y0.out.below hb).cell 2
          have y3 := (Y0.out.below hb).cell 3
          simp at y0 y1 y2 y3
          clear hb
          go_wp2
          go_ret
          exact ⟨rfl, btrans K0.out K.out⟩
        · have hd : (0 : Int) < (l.length : Int) := by omega
          have hd2 : 0 < l.length := by omega
          have E := hide (show reqE nb 3 0 l.length = 3 by unfold reqE; rw [if_neg (by simp), if_neg (by rw [hq]; simp), if_pos (by omega)])
          rw [E.out]
          clear E hq hl
          go_enter Try.func60, Try.ntmps60
          go_wp2_with fail
          rw [← HW.out]
          refine (IB.out _).mono ?_
          rintro e w1 ⟨rfl, hb⟩
          have K := hide hb
          have y0 := (Y0.out.below hb).cell 0
          have y1 := (Y0.out.below hb).cell 1
          have y2 := (Y0.out.below hb).cell 2
          have y3 := (Y0.out.below hb).cell 3
          simp at y0 y1 y2 y3
          clear hb
          go_wp2
          go_ret
          exact ⟨rfl, btrans K0.out K.out⟩
    · have hd : (b != 0) = true := by simpa using hb
      clear hW0
      have E := hide (show reqE nb 3 b l.length = 2 by unfold reqE; rw [if_neg (by simp), if_pos (Or.inr ⟨rfl, hb⟩)])
      rw [E.out]
      clear E hb IB Y0 HW
      go_enter Try.func60, Try.ntmps60
      go_wp2
      go_ret
      exact ⟨rfl, K0.out⟩
  have h1 : (k != 1) = true := by simpa using k1
  have h2 : (k == 2) = false := by simpa using k2
  have h3 : (k == 3) = false := by simpa using k3
  clear hW0
  have E := hide (show reqE nb k b l.length = 1 by unfold reqE; rw [if_pos ⟨k1, k2, k3⟩])
  rw [E.out]
  clear E k1 k2 k3 IB Y0 HW
  go_enter Try.func60, Try.ntmps60
  go_wp2
  go_ret
  exact ⟨rfl, K0.out⟩
end Go.Proofs.Ytnegigcjeoenmaa.Dv
