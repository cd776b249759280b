import Derived.Test.YtnegigcjeoenmaaNw1
namespace Go.Proofs.Ytnegigcjeoenmaa.Dv
open Go Go.RowKit
set_option linter.unusedVariables false
theorem chk_zero {D : Dev} (h : chk D = 0) : ¬ (D.nxt < 0 ∨ mx < D.nxt) ∧ nwE D.dep D.bl = 0 ∧ caE D.bl.length D.ca = 0 ∧ ¬ D.dep < (D.qu.length : Int) ∧ quE D.bl.length D.nxt D.qu = 0 := by
  by_cases a : D.nxt < 0 ∨ mx < D.nxt
  · rw [chk_n a] at h; exact absurd h (by decide)
  by_cases b : nwE D.dep D.bl = 0
  · by_cases c : caE D.bl.length D.ca = 0
    · rw [chk_q a b c] at h
      by_cases d : D.dep < (D.qu.length : Int)
      · rw [if_pos d] at h; exact absurd h (by decide)
      · rw [if_neg d] at h; exact ⟨a, b, c, d, h⟩
    · rw [chk_c a b c] at h; exact absurd h c
  · rw [chk_b a b] at h; exact absurd h b
theorem req_len {n : Nat} {k b : Int} {len : Nat} (h : reqE n k b len = 0) : len ≤ 32 ∧ inB n b = true := by
  unfold reqE at h
  by_cases c1 : k ≠ 1 ∧ k ≠ 2 ∧ k ≠ 3
  · rw [if_pos c1] at h; exact absurd h (by decide)
  rw [if_neg c1] at h
  by_cases c2 : inB n b = false ∨ (k = 3 ∧ b ≠ 0)
  · rw [if_pos c2] at h; exact absurd h (by decide)
  rw [if_neg c2] at h
  by_cases c3 : (k = 2 ∧ len ≠ 32) ∨ (k ≠ 2 ∧ len ≠ 0)
  · rw [if_pos c3] at h; exact absurd h (by decide)
  refine ⟨by omega, ?_⟩
  cases e : inB n b
  · exact absurd (.inl e) c2
  · rfl
theorem sm_ok {D : Dev} (h : chk D = 0) : Sm D := by
  obtain ⟨h1, h2, h3, h4, h5⟩ := chk_zero h
  obtain ⟨⟨d1, d2, d3, d4⟩, hb⟩ := nwE_ok h2
  have hq := firstBad_zero h5
  have hc1 : coE D.bl.length D.ca = 0 := by
    by_cases c : coE D.bl.length D.ca = 0
    · exact c
    · unfold caE at h3; rw [if_neg c] at h3; exact absurd h3 c
  have hc2 : cfE D.ca = 0 := by unfold caE at h3; rw [if_pos hc1] at h3; exact h3
  have ho := firstBad_zero hc1
  have hin : ∀ i, i < D.ca.length → 0 ≤ (cAt D.ca i).1 ∧ (cAt D.ca i).1 < D.bl.length ∧ (0 < i → (cAt D.ca (i - 1)).1 < (cAt D.ca i).1) := by
    intro i hi
    have := ho i hi
    by_cases c : inB D.bl.length (cAt D.ca i).1 = false ∨ (0 < i ∧ (cAt D.ca i).1 ≤ (cAt D.ca (i - 1)).1)
    · rw [if_pos c] at this; exact absurd this (by decide)
    · have hb : inB D.bl.length (cAt D.ca i).1 = true := by
        cases e : inB D.bl.length (cAt D.ca i).1
        · exact absurd (.inl e) c
        · rfl
      unfold inB at hb
      simp only [decide_eq_true_eq] at hb
      exact ⟨hb.1, hb.2, fun h0 => by omega⟩
  have hge : ∀ i, i < D.ca.length → (i : Int) ≤ (cAt D.ca i).1 := by
    intro i
    induction i with
    | zero => intro hi; exact (hin 0 hi).1
    | succ i ih =>
      intro hi
      have a := ih (by omega)
      have b := (hin (i + 1) hi).2.2 (by omega)
      simp only [Nat.add_sub_cancel] at b
      omega
  have hcl : D.ca.length ≤ 256 := by
    rcases Nat.eq_zero_or_pos D.ca.length with e | e
    · omega
    · have a := hge (D.ca.length - 1) (by omega)
      have b := (hin (D.ca.length - 1) (by omega)).2.1
      omega
  refine ⟨by omega, by omega, by omega, fun b hm => by rw [blE_len hb b hm]; omega, fun c hm => ?_, fun q hm => ?_⟩
  · rcases cfE_cases D.ca with ⟨_, hf⟩ | ⟨k, _, e, _⟩
    · obtain ⟨j, hj, rfl⟩ := List.mem_iff_getElem.1 hm
      have := hf j hj
      rw [cAt_get hj] at this
      unfold noP at this
      simp at this
      omega
    · rw [hc2] at e; exact absurd e (by decide)
  · obtain ⟨j, hj, rfl⟩ := List.mem_iff_getElem.1 hm
    have := hq j hj
    have hr : rqE D.bl.length (qAt D.qu j) = 0 := by
      by_cases c : rqE D.bl.length (qAt D.qu j) = 0
      · exact c
      · unfold q1E at this; rw [if_neg c] at this; exact absurd this c
    unfold rqE at hr
    rw [qAt_get hj] at hr
    have := (req_len hr).1
    omega
theorem sbE_c {D : Dev} {k b : Int} {len : Nat} (h : chk D ≠ 0) : sbE D k b len = chk D := by unfold sbE; rw [if_pos h]
theorem sbE_r {D : Dev} {k b : Int} {len : Nat} (h : chk D = 0) (h2 : reqE D.bl.length k b len ≠ 0) : sbE D k b len = reqE D.bl.length k b len := by unfold sbE; rw [if_neg (by simpa using h), if_pos h2]
theorem sbE_x {D : Dev} {k b : Int} {len : Nat} (h : chk D = 0) (h2 : reqE D.bl.length k b len = 0) (h3 : D.nxt = mx) : sbE D k b len = 9 := by unfold sbE; rw [if_neg (by simpa using h), if_neg (by simpa using h2), if_pos h3]
theorem sbE_f {D : Dev} {k b : Int} {len : Nat} (h : chk D = 0) (h2 : reqE D.bl.length k b len = 0) (h3 : D.nxt ≠ mx) (h4 : D.dep ≤ D.qu.length) : sbE D k b len = 8 := by unfold sbE; rw [if_neg (by simpa using h), if_neg (by simpa using h2), if_neg h3, if_pos h4]
theorem sbE_o {D : Dev} {k b : Int} {len : Nat} (h : chk D = 0) (h2 : reqE D.bl.length k b len = 0) (h3 : D.nxt ≠ mx) (h4 : ¬ D.dep ≤ D.qu.length) : sbE D k b len = 0 := by unfold sbE; rw [if_neg (by simpa using h), if_neg (by simpa using h2), if_neg h3, if_neg h4]
set_option maxHeartbeats 2000000 in
theorem chksub_any (v : Value) (D : Dev) (i k b : Int) (A : Option Addr) (l : By) (c : Nat) (w : World) (h : DevIn w v D) (hB : Big D) :
    Calls Try.prog 55 #[v, .agg #[.int .i64 i, .int .i64 k, .int .i64 b, .slice A l.length c]] w fun e w' => e = .returned (.int .i64 (sbE D k b l.length)) ∧ Below w.heap.size w w' := by
  obtain ⟨Ab, cb, Ac, cc, Aq, cq, rfl, h1, h2, h3, rb, rc, rq⟩ := h
  obtain ⟨W0, hW0⟩ : ∃ W0, W0 = (w.alloc (.cells #[.int .i64 D.dep, .int .i64 D.nxt, .slice Ab D.bl.length cb, .slice Ac D.ca.length cc, .slice Aq D.qu.length cq] 28)).alloc (.cells #[.int .i64 i, .int .i64 k, .int .i64 b, .slice A l.length c] 39) := ⟨_, rfl⟩
  have K0 := hide (show Below w.heap.size w W0 by rw [hW0]; exact bal (bal (brefl w) _) _)
  have X := hide (show Box W0 w.heap.size 28 #[.int .i64 D.dep, .int .i64 D.nxt, .slice Ab D.bl.length cb, .slice Ac D.ca.length cc, .slice Aq D.qu.length cq] by rw [hW0]; exact (Box.new w 28 _).more _)
  have Y := hide (show Box W0 (w.heap.size + 1) 39 #[.int .i64 i, .int .i64 k, .int .i64 b, .slice A l.length c] by rw [hW0]; exact Box.new2 _ _ _ _)
  have IN := hide (show DevIn w (.agg #[.int .i64 D.dep, .int .i64 D.nxt, .slice Ab D.bl.length cb, .slice Ac D.ca.length cc, .slice Aq D.qu.length cq]) D from ⟨Ab, cb, Ac, cc, Aq, cq, rfl, h1, h2, h3, rb, rc, rq⟩)
  have C1 := hide (fun W (hb : Below W0.heap.size W0 W) => check_any _ D W (IN.out.below (btrans K0.out hb)) hB)
  have C2 := hide (fun W => chkrq_any D.dep D.nxt Ab D.bl.length cb Ac D.ca.length cc Aq D.qu.length cq i k b A l c W)
  have HW := hide hW0
  clear rb rc rq IN hB hW0
  by_cases e1 : chk D = 0
  · have E1 := hide e1
    rw [e1] at C1
    have HZ := hide (chk_zero e1).2.2.2.1
    by_cases e2 : reqE D.bl.length k b l.length = 0
    · have E2 := hide e2
      rw [e2] at C2
      by_cases e3 : D.nxt = mx
      · have E := hide (sbE_x E1.out E2.out e3)
        have hd : (D.nxt == 1099511627776) = true := by rw [e3]; rfl
        rw [E.out]
        clear e1 e2 e3
        generalize D.nxt = nxt at *
        generalize D.dep = dep at *
        generalize l.length = len at *
        go_enter Try.func55, Try.ntmps55
        go_wp2_with fail
        rw [← HW.out]
        refine (C1.out _ (brefl _)).mono ?_
        rintro e w1 ⟨rfl, hb⟩
        have K := hide hb
        clear hb
        obtain ⟨x0, x1, x2, x3, x4⟩ := box5_cells (W' := w1) (X.out.below K.out)
        have y0 := (Y.out.below K.out).cell 0
        have y1 := (Y.out.below K.out).cell 1
        have y2 := (Y.out.below K.out).cell 2
        have y3 := (Y.out.below K.out).cell 3
        simp at y0 y1 y2 y3
        go_wp2_with fail
        refine (C2.out _).mono ?_
        rintro e w2 ⟨rfl, hb⟩
        have K2 := hide (btrans K.out hb)
        clear hb x0 x1 x2 x3 x4 y0 y1 y2 y3
        obtain ⟨x0, x1, x2, x3, x4⟩ := box5_cells (W' := w2) (X.out.below K2.out)
        go_wp2
        go_ret
        exact ⟨rfl, btrans K0.out K2.out⟩
      · have hd : (D.nxt == 1099511627776) = false := by rw [beq_eq_false_iff_ne]; exact e3
        by_cases e4 : D.dep ≤ (D.qu.length : Int)
        · have E := hide (sbE_f E1.out E2.out e3 e4)
          have hd2 : ((D.qu.length : Int) == D.dep) = true := by have := HZ.out; simp; omega
          rw [E.out]
          clear e1 e2 e3 e4
          generalize D.nxt = nxt at *
          generalize D.dep = dep at *
          generalize l.length = len at *
          go_enter Try.func55, Try.ntmps55
          go_wp2_with fail
          rw [← HW.out]
          refine (C1.out _ (brefl _)).mono ?_
          rintro e w1 ⟨rfl, hb⟩
          have K := hide hb
          clear hb
          obtain ⟨x0, x1, x2, x3, x4⟩ := box5_cells (W' := w1) (X.out.below K.out)
          have y0 := (Y.out.below K.out).cell 0
          have y1 := (Y.out.below K.out).cell 1
          have y2 := (Y.out.below K.out).cell 2
          have y3 := (Y.out.below K.out).cell 3
          simp at y0 y1 y2 y3
          go_wp2_with fail
          refine (C2.out _).mono ?_
          rintro e w2 ⟨rfl, hb⟩
          have K2 := hide (btrans K.out hb)
          clear hb x0 x1 x2 x3 x4 y0 y1 y2 y3
          obtain ⟨x0, x1, x2, x3, x4⟩ := box5_cells (W' := w2) (X.out.below K2.out)
          go_wp2
          go_ret
          exact ⟨rfl, btrans K0.out K2.out⟩
        · have E := hide (sbE_o E1.out E2.out e3 e4)
          have hd2 : ((D.qu.length : Int) == D.dep) = false := by simp; omega
          rw [E.out]
          clear e1 e2 e3 e4
          generalize D.nxt = nxt at *
          generalize D.dep = dep at *
          generalize l.length = len at *
          go_enter Try.func55, Try.ntmps55
          go_wp2_with fail
          rw [← HW.out]
          refine (C1.out _ (brefl _)).mono ?_
          rintro e w1 ⟨rfl, hb⟩
          have K := hide hb
          clear hb
          obtain ⟨x0, x1, x2, x3, x4⟩ := box5_cells (W' := w1) (X.out.below K.out)
          have y0 := (Y.out.below K.out).cell 0
          have y1 := (Y.out.below K.out).cell 1
          have y2 := (Y.out.below K.out).cell 2
          have y3 := (Y.out.below K.out).cell 3
          simp at y0 y1 y2 y3
          go_wp2_with fail
          refine (C2.out _).mono ?_
          rintro e w2 ⟨rfl, hb⟩
          have K2 := hide (btrans K.out hb)
          clear hb x0 x1 x2 x3 x4 y0 y1 y2 y3
          obtain ⟨x0, x1, x2, x3, x4⟩ := box5_cells (W' := w2) (X.out.below K2.out)
          go_wp2
          go_ret
          exact ⟨rfl, btrans K0.out K2.out⟩
    · have E := hide (sbE_r E1.out e2)
      rw [E.out]
      have hd : (reqE D.bl.length k b l.length != 0) = true := by simpa using e2
      generalize reqE D.bl.length k b l.length = er at *
      clear e1 e2 E
      generalize D.nxt = nxt at *
      generalize D.dep = dep at *
      generalize l.length = len at *
      go_enter Try.func55, Try.ntmps55
      go_wp2_with fail
      rw [← HW.out]
      refine (C1.out _ (brefl _)).mono ?_
      rintro e w1 ⟨rfl, hb⟩
      have K := hide hb
      clear hb
      obtain ⟨x0, x1, x2, x3, x4⟩ := box5_cells (W' := w1) (X.out.below K.out)
      have y0 := (Y.out.below K.out).cell 0
      have y1 := (Y.out.below K.out).cell 1
      have y2 := (Y.out.below K.out).cell 2
      have y3 := (Y.out.below K.out).cell 3
      simp at y0 y1 y2 y3
      go_wp2_with fail
      refine (C2.out _).mono ?_
      rintro e w2 ⟨rfl, hb⟩
      have K2 := hide (btrans K.out hb)
      clear hb x0 x1 x2 x3 x4 y0 y1 y2 y3
      obtain ⟨x0, x1, x2, x3, x4⟩ := box5_cells (W' := w2) (X.out.below K2.out)
      go_wp2
      go_ret
      exact ⟨rfl, btrans K0.out K2.out⟩
  · have E := hide (sbE_c (k := k) (b := b) (len := l.length) e1)
    rw [E.out]
    have hd : (chk D != 0) = true := by simpa using e1
    generalize chk D = er at *
    clear e1 E
    generalize D.nxt = nxt at *
    generalize D.dep = dep at *
    generalize l.length = len at *
    go_enter Try.func55, Try.ntmps55
    go_wp2_with fail
    rw [← HW.out]
    refine (C1.out _ (brefl _)).mono ?_
    rintro e w1 ⟨rfl, hb⟩
    have K := hide hb
    clear hb
    obtain ⟨x0, x1, x2, x3, x4⟩ := box5_cells (W' := w1) (X.out.below K.out)
    have y0 := (Y.out.below K.out).cell 0
    have y1 := (Y.out.below K.out).cell 1
    have y2 := (Y.out.below K.out).cell 2
    have y3 := (Y.out.below K.out).cell 3
    simp at y0 y1 y2 y3
    go_wp2
    go_ret
    exact ⟨rfl, btrans K0.out K.out⟩
end Go.Proofs.Ytnegigcjeoenmaa.Dv
