import Derived.Test.YtnegigcjeoenmaaRc1
import Derived.Test.YtnegigcjeoenmaaLo1
namespace Go.Proofs.Ytnegigcjeoenmaa.Dv
open Go Go.RowKit
set_option linter.unusedVariables false
theorem losK_len0 (ca : List Ca) (qu : List Rq) : (losK ca qu 0).length = ca.length := by simp [losK]
set_option maxHeartbeats 2000000 in
theorem rchoices_any (v : Value) (D : Dev) (w : World) (h : DevIn w v D) (hB : Big D) : Calls Try.prog 24 #[v] w fun e w' => e = .returned (.int .i64 (chD D)) ∧ Below w.heap.size w w' := by
  obtain ⟨Ab, cb, Ac, cc, Aq, cq, rfl, h1, h2, h3, rb, rc, rq⟩ := h
  obtain ⟨W0, hW0⟩ : ∃ W0, W0 = w.alloc (.cells #[.int .i64 D.dep, .int .i64 D.nxt, .slice Ab D.bl.length cb, .slice Ac D.ca.length cc, .slice Aq D.qu.length cq] 28) := ⟨_, rfl⟩
  have K0 := hide (show Below w.heap.size w W0 by rw [hW0]; exact bal (brefl w) _)
  have X := hide (show Box W0 w.heap.size 28 #[.int .i64 D.dep, .int .i64 D.nxt, .slice Ab D.bl.length cb, .slice Ac D.ca.length cc, .slice Aq D.qu.length cq] by rw [hW0]; exact Box.new w 28 _)
  have IN := hide (show DevIn w (.agg #[.int .i64 D.dep, .int .i64 D.nxt, .slice Ab D.bl.length cb, .slice Ac D.ca.length cc, .slice Aq D.qu.length cq]) D from ⟨Ab, cb, Ac, cc, Aq, cq, rfl, h1, h2, h3, rb, rc, rq⟩)
  have IN0 := hide (IN.out.below K0.out)
  have RB := hide (rb.below K0.out)
  have RC := hide (rc.below K0.out)
  have RQ := hide (rq.below K0.out)
  have C1 := hide (rcheck_any _ D W0 IN0.out hB)
  have HW := hide hW0
  clear rb rc rq hW0
  by_cases e1 : chk D = 0
  · rw [e1] at C1
    have E := hide (show chD D = ((losK D.ca D.qu D.qu.length).length : Int) by unfold chD; rw [if_pos e1])
    rw [E.out]
    have hlc := (sm_ok e1).ca
    have hlq := (sm_ok e1).qu
    clear e1 E IN IN0
    go_enter Try.func24, Try.ntmps24
    go_wp2_with fail
    rw [← HW.out]
    refine C1.out.mono ?_
    rintro e w1 ⟨rfl, hb1⟩
    have K := hide hb1
    clear hb1
    obtain ⟨x0, x1, x2, x3, x4⟩ := box5_cells (W' := w1) (X.out.below K.out)
    go_upto_region 5 with fail
    go_loopw [3, 4] (fun n i wr => ∃ k : Nat, k ≤ D.qu.length ∧ i = .int .i64 k ∧ n = .int .i64 ((losK D.ca D.qu k).length : Nat) ∧ w1 = wr) (fun _ i _ => D.qu.length - (intOf i).toNat)
    case atStart => exact ⟨0, Nat.zero_le _, rfl, by rw [losK_len0], rfl⟩
    case round =>
      obtain ⟨k, hk, rfl, rfl, rfl⟩ := hrel
      by_cases hlt : k < D.qu.length
      · have hlt1 : (k : Int) < (D.qu.length : Int) := by omega
        have hlt2 : ¬ (D.qu.length : Int) ≤ (k : Int) := by omega
        have hk0 : (0 : Int) ≤ (k : Int) := by omega
        obtain ⟨bb, off, u, rfl, hbl, c0, c1, c2, c3, hv⟩ := RQ.out.cells K.out hlt
        have hMl := losK_len D.ca D.qu k
        by_cases hq : (qAt D.qu k).2.1 = 2
        · have hL := congrArg List.length (losK_hit (ca := D.ca) hlt hq)
          rw [List.length_append] at hL
          simp only [List.length_singleton] at hL
          rw [hq] at c1
          generalize (losK D.ca D.qu k).length = m at *
          go_wp2
          go_roundw
          case rel => exact ⟨k + 1, by omega, by go_num, by rw [hL]; go_num, by first | trivial | rfl⟩
          case measure => simp [intOf]; omega
        · have hL := congrArg List.length (losK_miss (ca := D.ca) hlt hq)
          have hd : ((qAt D.qu k).2.1 == 2) = false := by simpa using hq
          generalize (losK D.ca D.qu k).length = m at *
          go_wp2
          go_roundw
          case rel => exact ⟨k + 1, by omega, by go_num, by rw [hL], by first | trivial | rfl⟩
          case measure => simp [intOf]; omega
      · obtain rfl : k = D.qu.length := by omega
        go_wp2
        go_ret
        exact ⟨rfl, btrans K0.out K.out⟩
  · have E := hide (show chD D = 0 by unfold chD; rw [if_neg e1])
    rw [E.out]
    have hd : (chk D != 0) = true := by simpa using e1
    generalize chk D = er at *
    clear e1 E IN0 IN
    generalize D.dep = dep at *
    generalize D.nxt = nxt at *
    go_enter Try.func24, Try.ntmps24
    go_wp2_with fail
    rw [← HW.out]
    refine C1.out.mono ?_
    rintro e w1 ⟨rfl, hb1⟩
    have K := hide hb1
    clear hb1
    go_wp2
    go_ret
    exact ⟨rfl, btrans K0.out K.out⟩
end Go.Proofs.Ytnegigcjeoenmaa.Dv
