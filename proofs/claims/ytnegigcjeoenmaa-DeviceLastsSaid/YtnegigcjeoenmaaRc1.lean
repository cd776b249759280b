import Derived.Test.YtnegigcjeoenmaaCt1
import Derived.Test.YtnegigcjeoenmaaRf2
import Derived.Test.YtnegigcjeoenmaaMk1
import Derived.Test.YtnegigcjeoenmaaCl1
import Derived.Deep.DeepCutAuto
namespace Go.Proofs.Ytnegigcjeoenmaa.Dv
open Go Go.RowKit
set_option linter.unusedVariables false
set_option maxHeartbeats 2000000 in
theorem rdurable_any (v : Value) (D : Dev) (b : Int) (w : World) (h : DevIn w v D) (hB : Big D) : Calls Try.prog 22 #[v, .int .i64 b] w (ByR (duD D b) w) := by
  obtain ⟨Ab, cb, Ac, cc, Aq, cq, rfl, h1, h2, h3, rb, rc, rq⟩ := h
  obtain ⟨W0, hW0⟩ : ∃ W0, W0 = w.alloc (.cells #[.int .i64 D.dep, .int .i64 D.nxt, .slice Ab D.bl.length cb, .slice Ac D.ca.length cc, .slice Aq D.qu.length cq] 28) := ⟨_, rfl⟩
  have K0 := hide (show Below w.heap.size w W0 by rw [hW0]; exact bal (brefl w) _)
  have X := hide (show Box W0 w.heap.size 28 #[.int .i64 D.dep, .int .i64 D.nxt, .slice Ab D.bl.length cb, .slice Ac D.ca.length cc, .slice Aq D.qu.length cq] by rw [hW0]; exact Box.new w 28 _)
  have IN := hide (show DevIn w (.agg #[.int .i64 D.dep, .int .i64 D.nxt, .slice Ab D.bl.length cb, .slice Ac D.ca.length cc, .slice Aq D.qu.length cq]) D from ⟨Ab, cb, Ac, cc, Aq, cq, rfl, h1, h2, h3, rb, rc, rq⟩)
  have IN0 := hide (IN.out.below K0.out)
  have RB := hide (rb.below K0.out)
  have RC := hide (rc.below K0.out)
  have RQ := hide (rq.below K0.out)
  have C1 := hide (rcheck_any _ D W0 IN0.out hB)
  have HW := hide hW0
  have hl9 := hB.bl
  clear rb rc rq hW0
  by_cases e1 : chk D = 0
  · rw [e1] at C1
    by_cases e3 : b < 0
    · have E := hide (show duD D b = [] by unfold duD; rw [if_neg (fun h => by have := h.2; unfold inB at this; simp only [decide_eq_true_eq] at this; omega)])
      rw [E.out]
      clear e1 E
      generalize D.dep = dep at *
      generalize D.nxt = nxt at *
      go_enter Try.func22, Try.ntmps22
      go_wp2_with fail
      rw [← HW.out]
      refine C1.out.mono ?_
      rintro e w1 ⟨rfl, hb1⟩
      have K := hide hb1
      clear hb1
      go_wp2
      go_ret
      exact ⟨_, rfl, OwnBy.nil _, btrans K0.out K.out⟩
    have e4 : ¬ b < 0 := e3
    by_cases e5 : (D.bl.length : Int) ≤ b
    · have E := hide (show duD D b = [] by unfold duD; rw [if_neg (fun h => by have := h.2; unfold inB at this; simp only [decide_eq_true_eq] at this; omega)])
      rw [E.out]
      clear e1 E e3
      generalize D.dep = dep at *
      generalize D.nxt = nxt at *
      go_enter Try.func22, Try.ntmps22
      go_wp2_with fail
      rw [← HW.out]
      refine C1.out.mono ?_
      rintro e w1 ⟨rfl, hb1⟩
      have K := hide hb1
      clear hb1
      obtain ⟨x0, x1, x2, x3, x4⟩ := box5_cells (W' := w1) (X.out.below K.out)
      go_wp2
      go_ret
      exact ⟨_, rfl, OwnBy.nil _, btrans K0.out K.out⟩
    have e6 : ¬ (D.bl.length : Int) ≤ b := e5
    have e2 : inB D.bl.length b = true := by unfold inB; simp only [decide_eq_true_eq]; omega
    have E := hide (show duD D b = bAt D.bl b.toNat by unfold duD; rw [if_pos ⟨e1, e2⟩])
    rw [E.out]
    obtain ⟨n, rfl⟩ := Int.eq_ofNat_of_zero_le (by omega : 0 ≤ b)
    have hp : n < D.bl.length := by omega
    rw [show ((n : Int)).toNat = n from rfl]
    have HL := hide ((sm_ok e1).bb _ (bAt_mem hp))
    have hlb := (sm_ok e1).bl
    clear e1 e2 E e3 e5
    generalize D.dep = dep at *
    generalize D.nxt = nxt at *
    go_enter Try.func22, Try.ntmps22
    go_wp2_with fail
    rw [← HW.out]
    refine C1.out.mono ?_
    rintro e w1 ⟨rfl, hb1⟩
    have K := hide hb1
    clear hb1
    obtain ⟨x0, x1, x2, x3, x4⟩ := box5_cells (W' := w1) (X.out.below K.out)
    obtain ⟨bb, off, u, rfl, hlt, c0, hu⟩ := RB.out.cells K.out hp
    have CL := hide (rbytes_any u _ w1 hu HL.out)
    unfold ByR at CL
    obtain ⟨A1, d1, rfl⟩ := hu.form
    clear hu
    go_wp2_with fail
    refine CL.out.mono ?_
    rintro e w4 ⟨u4, rfl, ho, hb1⟩
    have HO := hide ho
    have K4 := hide (btrans K.out hb1)
    obtain ⟨A4, d4, rfl⟩ := ho.form
    clear hb1 ho
    go_wp2
    go_ret
    exact ⟨_, rfl, HO.out, btrans K0.out K4.out⟩
  · have E := hide (show duD D b = [] by unfold duD; rw [if_neg (fun h => e1 h.1)])
    rw [E.out]
    have hd : (chk D != 0) = true := by simpa using e1
    generalize chk D = er at *
    clear e1 E IN0 IN
    generalize D.dep = dep at *
    generalize D.nxt = nxt at *
    go_enter Try.func22, Try.ntmps22
    go_wp2_with fail
    rw [← HW.out]
    refine C1.out.mono ?_
    rintro e w1 ⟨rfl, hb1⟩
    have K := hide hb1
    clear hb1
    go_wp2
    go_ret
    exact ⟨_, rfl, OwnBy.nil _, btrans K0.out K.out⟩
theorem hit_at {L : List Ca} {b : Int} {k : Nat} (ha : Asc L) (hk : k < L.length) (e : (cAt L k).1 = b) : caP L b = k ∧ hitP L b = true := by
  have c : caP L b = k := caP_eq L b k (Nat.le_of_lt hk) (fun t ht => by have := ha t k ht hk; omega) (fun _ => by omega)
  exact ⟨c, by unfold hitP; rw [c]; simp [hk, e]⟩
theorem hit_no {L : List Ca} {b : Int} (h : ∀ k, k < L.length → (cAt L k).1 ≠ b) : hitP L b = false := by
  unfold hitP
  simp only [decide_eq_false_iff_not]
  exact fun x => h _ x.1 x.2
/-- what the reference's cached returns -/
def CaqR (D : Dev) (b : Int) (w : World) (e : Ending) (w' : World) : Prop := ∃ u, e = .returned (.tuple #[u, .bool (hitP D.ca b)]) ∧ OwnBy w' u (if hitP D.ca b = true then (cAt D.ca (caP D.ca b)).2 else []) ∧ Below w.heap.size w w'
set_option maxHeartbeats 2000000 in
theorem rcached_any (v : Value) (D : Dev) (b : Int) (w : World) (h : DevIn w v D) (hS : Sm D) (ha : Asc D.ca) : Calls Try.prog 47 #[v, .int .i64 b] w (CaqR D b w) := by
  obtain ⟨Ab, cb, Ac, cc, Aq, cq, rfl, h1, h2, h3, rb, rc, rq⟩ := h
  obtain ⟨W0, hW0⟩ : ∃ W0, W0 = w.alloc (.cells #[.int .i64 D.dep, .int .i64 D.nxt, .slice Ab D.bl.length cb, .slice Ac D.ca.length cc, .slice Aq D.qu.length cq] 28) := ⟨_, rfl⟩
  have K0 := hide (show Below w.heap.size w W0 by rw [hW0]; exact bal (brefl w) _)
  have X := hide (show Box W0 w.heap.size 28 #[.int .i64 D.dep, .int .i64 D.nxt, .slice Ab D.bl.length cb, .slice Ac D.ca.length cc, .slice Aq D.qu.length cq] by rw [hW0]; exact Box.new w 28 _)
  have IN := hide (show DevIn w (.agg #[.int .i64 D.dep, .int .i64 D.nxt, .slice Ab D.bl.length cb, .slice Ac D.ca.length cc, .slice Aq D.qu.length cq]) D from ⟨Ab, cb, Ac, cc, Aq, cq, rfl, h1, h2, h3, rb, rc, rq⟩)
  have IN0 := hide (IN.out.below K0.out)
  have RB := hide (rb.below K0.out)
  have RC := hide (rc.below K0.out)
  have RQ := hide (rq.below K0.out)
  have HW := hide hW0
  have hlc := hS.ca
  have HA := hide ha
  have HL := hide (fun k (hk : k < D.ca.length) => hS.cb _ (cAt_mem hk))
  clear rb rc rq hW0 ha
  obtain ⟨x0, x1, x2, x3, x4⟩ := box5_cells (W' := W0) X.out
  go_enter Try.func47, Try.ntmps47
  go_upto_region 2 with fail
  rw [← HW.out]
  clear HW
  go_loopw [6] (fun i wr => ∃ k : Nat, k ≤ D.ca.length ∧ i = .int .i64 k ∧ (∀ j, j < k → (cAt D.ca j).1 ≠ b) ∧ W0 = wr) (fun i _ => D.ca.length - (intOf i).toNat)
  case atStart => exact ⟨0, Nat.zero_le _, rfl, fun j hj => absurd hj (Nat.not_lt_zero _), rfl⟩
  case round =>
    obtain ⟨k, hk, rfl, HJ, rfl⟩ := hrel
    by_cases hlt : k < D.ca.length
    · have hlt1 : (k : Int) < (D.ca.length : Int) := by omega
      have hlt2 : ¬ (D.ca.length : Int) ≤ (k : Int) := by omega
      have hk0 : (0 : Int) ≤ (k : Int) := by omega
      obtain ⟨bb, off, u, rfl, hbl, c0, c1, hv⟩ := RC.out.cells (brefl W0) hlt
      by_cases hq : (cAt D.ca k).1 = b
      · obtain ⟨hp, hh⟩ := hit_at HA.out hlt hq
        have CL := hide (rbytes_any u _ W0 hv (HL.out k hlt))
        unfold ByR at CL
        obtain ⟨A', c', rfl, _, _⟩ := hv
        rw [hq] at c0
        go_wp2_with fail
        refine CL.out.mono ?_
        rintro e w4 ⟨u4, rfl, ho, hb1⟩
        have HO := hide ho
        obtain ⟨A4, d4, rfl⟩ := ho.form
        clear ho
        go_wp2
        go_ret2
        exact ⟨.slice A4 _ d4, by rw [hh]; rfl, by rw [hh, hp]; exact HO.out, btrans K0.out hb1⟩
      · have hd : ((cAt D.ca k).1 == b) = false := by simpa using hq
        go_wp2
        go_roundw
        case rel => exact ⟨k + 1, by omega, by go_num, fun j hj => by rcases Nat.lt_succ_iff_lt_or_eq.1 hj with h | rfl; exact HJ j h; exact hq, by first | trivial | rfl⟩
        case measure => simp [intOf]; omega
    · obtain rfl : k = D.ca.length := by omega
      have hh := hit_no HJ
      go_wp2
      go_ret2
      exact ⟨.slice none 0 0, by rw [hh]; rfl, by rw [hh]; exact OwnBy.nil _, K0.out⟩
set_option maxHeartbeats 2000000 in
theorem rcontentD_any (v : Value) (D : Dev) (b : Int) (w : World) (h : DevIn w v D) (hB : Big D) : Calls Try.prog 20 #[v, .int .i64 b] w (ByR (ctD D b) w) := by
  obtain ⟨Ab, cb, Ac, cc, Aq, cq, rfl, h1, h2, h3, rb, rc, rq⟩ := h
  obtain ⟨W0, hW0⟩ : ∃ W0, W0 = w.alloc (.cells #[.int .i64 D.dep, .int .i64 D.nxt, .slice Ab D.bl.length cb, .slice Ac D.ca.length cc, .slice Aq D.qu.length cq] 28) := ⟨_, rfl⟩
  have K0 := hide (show Below w.heap.size w W0 by rw [hW0]; exact bal (brefl w) _)
  have X := hide (show Box W0 w.heap.size 28 #[.int .i64 D.dep, .int .i64 D.nxt, .slice Ab D.bl.length cb, .slice Ac D.ca.length cc, .slice Aq D.qu.length cq] by rw [hW0]; exact Box.new w 28 _)
  have IN := hide (show DevIn w (.agg #[.int .i64 D.dep, .int .i64 D.nxt, .slice Ab D.bl.length cb, .slice Ac D.ca.length cc, .slice Aq D.qu.length cq]) D from ⟨Ab, cb, Ac, cc, Aq, cq, rfl, h1, h2, h3, rb, rc, rq⟩)
  have IN0 := hide (IN.out.below K0.out)
  have RB := hide (rb.below K0.out)
  have RC := hide (rc.below K0.out)
  have RQ := hide (rq.below K0.out)
  have C1 := hide (rcheck_any _ D W0 IN0.out hB)
  have HW := hide hW0
  have hl9 := hB.bl
  clear rb rc rq hW0
  by_cases e1 : chk D = 0
  · rw [e1] at C1
    by_cases e3 : b < 0
    · have E := hide (show ctD D b = [] by unfold ctD; rw [if_neg (fun h => by have := h.2; unfold inB at this; simp only [decide_eq_true_eq] at this; omega)])
      rw [E.out]
      clear e1 E
      generalize D.dep = dep at *
      generalize D.nxt = nxt at *
      go_enter Try.func20, Try.ntmps20
      go_wp2_with fail
      rw [← HW.out]
      refine C1.out.mono ?_
      rintro e w1 ⟨rfl, hb1⟩
      have K := hide hb1
      clear hb1
      go_wp2
      go_ret
      exact ⟨_, rfl, OwnBy.nil _, btrans K0.out K.out⟩
    have e4 : ¬ b < 0 := e3
    by_cases e5 : (D.bl.length : Int) ≤ b
    · have E := hide (show ctD D b = [] by unfold ctD; rw [if_neg (fun h => by have := h.2; unfold inB at this; simp only [decide_eq_true_eq] at this; omega)])
      rw [E.out]
      clear e1 E e3
      generalize D.dep = dep at *
      generalize D.nxt = nxt at *
      go_enter Try.func20, Try.ntmps20
      go_wp2_with fail
      rw [← HW.out]
      refine C1.out.mono ?_
      rintro e w1 ⟨rfl, hb1⟩
      have K := hide hb1
      clear hb1
      obtain ⟨x0, x1, x2, x3, x4⟩ := box5_cells (W' := w1) (X.out.below K.out)
      go_wp2
      go_ret
      exact ⟨_, rfl, OwnBy.nil _, btrans K0.out K.out⟩
    have e6 : ¬ (D.bl.length : Int) ≤ b := e5
    have e2 : inB D.bl.length b = true := by unfold inB; simp only [decide_eq_true_eq]; omega
    have E := hide (show ctD D b = contD D b by unfold ctD; rw [if_pos ⟨e1, e2⟩])
    rw [E.out]
    have CQ := hide (fun W (hb : Below W0.heap.size W0 W) => rcached_any _ D b W (IN0.out.below hb) (sm_ok e1) (asc_ok e1))
    unfold CaqR at CQ
    obtain ⟨n, rfl⟩ := Int.eq_ofNat_of_zero_le (by omega : 0 ≤ b)
    have hp : n < D.bl.length := by omega
    have HL := hide ((sm_ok e1).bb _ (bAt_mem hp))
    have hlb := (sm_ok e1).bl
    cases hh : hitP D.ca (n : Int) with
    | true =>
      rw [hh] at CQ
      simp only [if_true] at CQ
      have E2 := hide (show contD D (n : Int) = (cAt D.ca (caP D.ca (n : Int))).2 by unfold contD; rw [hh]; rfl)
      rw [E2.out]
      clear e1 e2 E e3 e5 hh E2
      generalize (cAt D.ca (caP D.ca (n : Int))).2 = l at *
      generalize D.dep = dep at *
      generalize D.nxt = nxt at *
      go_enter Try.func20, Try.ntmps20
      go_wp2_with fail
      rw [← HW.out]
      refine C1.out.mono ?_
      rintro e w1 ⟨rfl, hb1⟩
      have K := hide hb1
      clear hb1
      obtain ⟨x0, x1, x2, x3, x4⟩ := box5_cells (W' := w1) (X.out.below K.out)
      go_wp2_with fail
      refine (CQ.out _ K.out).mono ?_
      rintro e w4 ⟨u4, rfl, ho, hb1⟩
      have HO := hide ho
      have K4 := hide (btrans K.out hb1)
      obtain ⟨A4, d4, rfl⟩ := ho.form
      clear hb1 ho
      go_wp2
      go_ret
      exact ⟨_, rfl, HO.out, btrans K0.out K4.out⟩
    | false =>
      rw [hh] at CQ
      simp only [Bool.false_eq_true, if_false] at CQ
      have E2 := hide (show contD D (n : Int) = bAt D.bl n by unfold contD; rw [hh]; rfl)
      rw [E2.out]
      clear e1 e2 E e3 e5 hh E2
      generalize D.dep = dep at *
      generalize D.nxt = nxt at *
      go_enter Try.func20, Try.ntmps20
      go_wp2_with fail
      rw [← HW.out]
      refine C1.out.mono ?_
      rintro e w1 ⟨rfl, hb1⟩
      have K := hide hb1
      clear hb1
      obtain ⟨x0, x1, x2, x3, x4⟩ := box5_cells (W' := w1) (X.out.below K.out)
      go_wp2_with fail
      refine (CQ.out _ K.out).mono ?_
      rintro e w3 ⟨u4, rfl, ho, hb1⟩
      have K3 := hide (btrans K.out hb1)
      obtain ⟨A4, d4, rfl⟩ := ho.form
      clear hb1 ho x0 x1 x2 x3 x4
      obtain ⟨x0, x1, x2, x3, x4⟩ := box5_cells (W' := w3) (X.out.below K3.out)
      obtain ⟨bb, off, u, rfl, hlt, c0, hu⟩ := RB.out.cells K3.out hp
      have CL := hide (rbytes_any u _ w3 hu HL.out)
      unfold ByR at CL
      obtain ⟨A1, d1, rfl⟩ := hu.form
      clear hu
      go_wp2_with fail
      refine CL.out.mono ?_
      rintro e w4 ⟨u4, rfl, ho, hb1⟩
      have HO := hide ho
      have K4 := hide (btrans K3.out hb1)
      obtain ⟨A4, d4, rfl⟩ := ho.form
      clear hb1 ho
      go_wp2
      go_ret
      exact ⟨_, rfl, HO.out, btrans K0.out K4.out⟩
  · have E := hide (show ctD D b = [] by unfold ctD; rw [if_neg (fun h => e1 h.1)])
    rw [E.out]
    have hd : (chk D != 0) = true := by simpa using e1
    generalize chk D = er at *
    clear e1 E IN0 IN
    generalize D.dep = dep at *
    generalize D.nxt = nxt at *
    go_enter Try.func20, Try.ntmps20
    go_wp2_with fail
    rw [← HW.out]
    refine C1.out.mono ?_
    rintro e w1 ⟨rfl, hb1⟩
    have K := hide hb1
    clear hb1
    go_wp2
    go_ret
    exact ⟨_, rfl, OwnBy.nil _, btrans K0.out K.out⟩
end Go.Proofs.Ytnegigcjeoenmaa.Dv
