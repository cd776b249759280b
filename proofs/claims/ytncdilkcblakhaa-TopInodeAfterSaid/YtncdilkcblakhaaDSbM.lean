import Derived.Test.YtncdilkcblakhaaDNw1
namespace Go.Proofs.Ytncdilkcblakhaa.Dv
open Go Go.RowKit
set_option linter.unusedVariables false
theorem chk_zero {D : Dev} (h : chk D = 0) : ¬ (D.nxt < 0 ∨ mx < D.nxt) ∧ nwE D.dep D.bl = 0 ∧ caE D.bl.length D.ca = 0 ∧ ¬ D.dep < (D.qu.length : Int) ∧ quE D.bl.length D.nxt D.qu = 0 := by
  by_cases a : D.nxt < 0 ∨ mx < D.nxt
  · rw [chk_n a] at h; exact absurd h (by decide)
  by_cases b : nwE D.dep D.bl = 0
  · by_cases c : caE D.bl.length D.ca = 0
    · rw [chk_q a b c] at h
      by_cases d : D.dep < (D.qu.length : Int)
      · rw [if_pos d] at h; exact absurd h (by decide)
      · rw [if_neg d] at h; exact ⟨a, b, c, d, h⟩
    · rw [chk_c a b c] at h; exact absurd h c
  · rw [chk_b a b] at h; exact absurd h b
theorem req_len {n : Nat} {k b : Int} {len : Nat} (h : reqE n k b len = 0) : len ≤ 32 ∧ inB n b = true := by
  unfold reqE at h
  by_cases c1 : k ≠ 1 ∧ k ≠ 2 ∧ k ≠ 3
  · rw [if_pos c1] at h; exact absurd h (by decide)
  rw [if_neg c1] at h
  by_cases c2 : inB n b = false ∨ (k = 3 ∧ b ≠ 0)
  · rw [if_pos c2] at h; exact absurd h (by decide)
  rw [if_neg c2] at h
  by_cases c3 : (k = 2 ∧ len ≠ 32) ∨ (k ≠ 2 ∧ len ≠ 0)
  · rw [if_pos c3] at h; exact absurd h (by decide)
  refine ⟨by omega, ?_⟩
  cases e : inB n b
  · exact absurd (.inl e) c2
  · rfl
theorem sm_ok {D : Dev} (h : chk D = 0) : Sm D := by
  obtain ⟨h1, h2, h3, h4, h5⟩ := chk_zero h
  obtain ⟨⟨d1, d2, d3, d4⟩, hb⟩ := nwE_ok h2
  have hq := firstBad_zero h5
  have hc1 : coE D.bl.length D.ca = 0 := by
    by_cases c : coE D.bl.length D.ca = 0
    · exact c
    · unfold caE at h3; rw [if_neg c] at h3; exact absurd h3 c
  have hc2 : cfE D.ca = 0 := by unfold caE at h3; rw [if_pos hc1] at h3; exact h3
  have ho := firstBad_zero hc1
  have hin : ∀ i, i < D.ca.length → 0 ≤ (cAt D.ca i).1 ∧ (cAt D.ca i).1 < D.bl.length ∧ (0 < i → (cAt D.ca (i - 1)).1 < (cAt D.ca i).1) := by
    intro i hi
    have := ho i hi
    by_cases c : inB D.bl.length (cAt D.ca i).1 = false ∨ (0 < i ∧ (cAt D.ca i).1 ≤ (cAt D.ca (i - 1)).1)
    · rw [if_pos c] at this; exact absurd this (by decide)
    · have hb : inB D.bl.length (cAt D.ca i).1 = true := by
        cases e : inB D.bl.length (cAt D.ca i).1
        · exact absurd (.inl e) c
        · rfl
      unfold inB at hb
      simp only [decide_eq_true_eq] at hb
      exact ⟨hb.1, hb.2, fun h0 => by omega⟩
  have hge : ∀ i, i < D.ca.length → (i : Int) ≤ (cAt D.ca i).1 := by
    intro i
    induction i with
    | zero => intro hi; exact (hin 0 hi).1
    | succ i ih =>
      intro hi
      have a := ih (by omega)
      have b := (hin (i + 1) hi).2.2 (by omega)
      simp only [Nat.add_sub_cancel] at b
      omega
  have hcl : D.ca.length ≤ 256 := by
    rcases Nat.eq_zero_or_pos D.ca.length with e | e
    · omega
    · have a := hge (D.ca.length - 1) (by omega)
      have b := (hin (D.ca.length - 1) (by omega)).2.1
      omega
  refine ⟨by omega, by omega, by omega, fun b hm => by rw [blE_len hb b hm]; omega, fun c hm => ?_, fun q hm => ?_⟩
  · rcases cfE_cases D.ca with ⟨_, hf⟩ | ⟨k, _, e, _⟩
    · obtain ⟨j, hj, rfl⟩ := List.mem_iff_getElem.1 hm
      have := hf j hj
      rw [cAt_get hj] at this
      unfold noP at this
      simp at this
      omega
    · rw [hc2] at e; exact absurd e (by decide)
  · obtain ⟨j, hj, rfl⟩ := List.mem_iff_getElem.1 hm
    have := hq j hj
    have hr : rqE D.bl.length (qAt D.qu j) = 0 := by
      by_cases c : rqE D.bl.length (qAt D.qu j) = 0
      · exact c
      · unfold q1E at this; rw [if_neg c] at this; exact absurd this c
    unfold rqE at hr
    rw [qAt_get hj] at hr
    have := (req_len hr).1
    omega
theorem sbE_c {D : Dev} {k b : Int} {len : Nat} (h : chk D ≠ 0) : sbE D k b len = chk D := by unfold sbE; rw [if_pos h]
theorem sbE_r {D : Dev} {k b : Int} {len : Nat} (h : chk D = 0) (h2 : reqE D.bl.length k b len ≠ 0) : sbE D k b len = reqE D.bl.length k b len := by unfold sbE; rw [if_neg (by simpa using h), if_pos h2]
theorem sbE_x {D : Dev} {k b : Int} {len : Nat} (h : chk D = 0) (h2 : reqE D.bl.length k b len = 0) (h3 : D.nxt = mx) : sbE D k b len = 9 := by unfold sbE; rw [if_neg (by simpa using h), if_neg (by simpa using h2), if_pos h3]
theorem sbE_f {D : Dev} {k b : Int} {len : Nat} (h : chk D = 0) (h2 : reqE D.bl.length k b len = 0) (h3 : D.nxt ≠ mx) (h4 : D.dep ≤ D.qu.length) : sbE D k b len = 8 := by unfold sbE; rw [if_neg (by simpa using h), if_neg (by simpa using h2), if_neg h3, if_pos h4]
theorem sbE_o {D : Dev} {k b : Int} {len : Nat} (h : chk D = 0) (h2 : reqE D.bl.length k b len = 0) (h3 : D.nxt ≠ mx) (h4 : ¬ D.dep ≤ D.qu.length) : sbE D k b len = 0 := by unfold sbE; rw [if_neg (by simpa using h), if_neg (by simpa using h2), if_neg h3, if_neg h4]
set_option maxHeartbeats 2000000 in
theorem chksub_any (v : Value) (D : Dev) (i k b : Int) (A : Option Addr) (l : By) (c : Nat) (w : World) (h : DevIn w v D) (hB : Big D) :
    Calls Try.prog 44 #[v, .agg #[.int .i64 i, .int .i64 k, .int .i64 b, .slice A l.length c]] w fun e w' => e = .returned (.int .i64 (sbE D k b l.length)) ∧ Below w.heap.size w w' := by
  obtain ⟨Ab, cb, Ac, cc, Aq, cq, rfl, h1, h2, h3, rb, rc, rq⟩ := h
  obtain ⟨W0, hW0⟩ : ∃ W0, W0 = (w.alloc (.cells #[.int .i64 D.dep, .int .i64 D.nxt, .slice Ab D.bl.length cb, .slice Ac D.ca.length cc, .slice Aq D.qu.length cq] 57)).alloc (.cells #[.int .i64 i, .int .i64 k, .int .i64 b, .slice A l.length c] 67) := ⟨_, rfl⟩
  have K0 := hide (show Below w.heap.size w W0 by rw [hW0]; exact bal (bal (brefl w) _) _)
  have X := hide (show Box W0 w.heap.size 57 #[.int .i64 D.dep, .int .i64 D.nxt, .slice Ab D.bl.length cb, .slice Ac D.ca.length cc, .slice Aq D.qu.length cq] by rw [hW0]; exact (Box.new w 57 _).more _)
  have Y := hide (show Box W0 (w.heap.size + 1) 67 #[.int .i64 i, .int .i64 k, .int .i64 b, .slice A l.length c] by rw [hW0]; exact Box.new2 _ _ _ _)
  have IN := hide (show DevIn w (.agg #[.int .i64 D.dep, .int .i64 D.nxt, .slice Ab D.bl.length cb, .slice Ac D.ca.length cc, .slice Aq D.qu.length cq]) D from ⟨Ab, cb, Ac, cc, Aq, cq, rfl, h1, h2, h3, rb, rc, rq⟩)
  have C1 := hide (fun W (hb : Below W0.heap.size W0 W) => check_any _ D W (IN.out.below (btrans K0.out hb)) hB)
  have C2 := hide (fun W => chkrq_any D.dep D.nxt Ab D.bl.length cb Ac D.ca.length cc Aq D.qu.length cq i k b A l c W)
  have HW := hide hW0
  clear rb rc rq IN hB hW0
  by_cases e1 : chk D = 0
  · have E1 := hide e1
    rw [e1] at C1
    have HZ := hide (chk_zero e1).2.2.2.1
    by_cases e2 : reqE D.bl.length k b l.length = 0
    · have E2 := hide e2
      rw [e2] at C2
      by_cases e3 : D.nxt = mx
      · have E := hide (sbE_x E1.out E2.out e3)
        have hd : (D.nxt == 1099511627776) = true := by rw [e3]; rfl
        rw [E.out]
        clear e1 e2 e3
        generalize D.nxt = nxt at *
        generalize D.dep = dep at *
        generalize l.length = len at *
        go_enter Try.func44, Try.ntmps44
        go_wp2_with fail
        rw [← HW.out]
        refine (C1.out _ (brefl _)).mono ?_
        rintro e w1 ⟨rfl, hb⟩
        have K := hide hb
        clear hb
        obtain ⟨x0, x1, x2, x3, x4⟩ := box5_cells (W' := w1) (X.out.below K.out)
        have y0 := (Y.out.below K.out).cell 0
        have y1 := (Y.out.below K.out).cell 1
        have y2 := (Y.out.below K.out).cell 2
        have y3 := (Y.out.below K.out).cell 3
        simp at y0 y1 y2 y3
        go_wp2_with fail
        refine (C2.out _).mono ?_
        rintro e w2 ⟨rfl, hb⟩
        have K2 := hide (btrans K.out hb)
        clear hb x0 x1 x2 x3 x4 y0 y1 y2 y3
        obtain ⟨x0, x1, x2, x3, x4⟩ := box5_cells (W' := w2) (X.out.below K2.out)
        go_wp2
        go_ret
        exact ⟨rfl, btrans K0.out K2.out⟩
      · have hd : (D.nxt == 1099511627776) = false := by rw [beq_eq_false_iff_ne]; exact e3
        by_cases e4 : D.dep ≤ (D.qu.length : Int)
        · have E := hide (sbE_f E1.out E2.out e3 e4)
          have hd2 : ((D.qu.length : Int) == D.dep) = true := by have := HZ.out; simp; omega
          rw [E.out]
          clear e1 e2 e3 e4
          generalize D.nxt = nxt at *
          generalize D.dep = dep at *
          generalize l.length = len at *
          go_enter Try.func44, Try.ntmps44
          go_wp2_with fail
          rw [← HW.out]
          refine (C1.out _ (brefl _)).mono ?_
          rintro e w1 ⟨rfl, hb⟩
          have K := hide hb
          clear hb
          obtain ⟨x0, x1, x2, x3, x4⟩ := box5_cells (W' := w1) (X.out.below K.out)
          have y0 := (Y.out.below K.out).cell 0
          have y1 := (Y.out.below K.out).cell 1
          have y2 := (Y.out.below K.out).cell 2
          have y3 := (Y.out.below K.out).cell 3
          simp at y0 y1 y2 y3
          go_wp2_with fail
          refine (C2.out _).mono ?_
          rintro e w2 ⟨rfl, hb⟩
          have K2 := hide (btrans K.out hb)
          clear hb x0 x1 x2 x3 x4 y0 y1 y2 y3
          obtain ⟨x0, x1, x2, x3, x4⟩ := box5_cells (W' := w2) (X.out.below K2.out)
          go_wp2
          go_ret
          exact ⟨rfl, btrans K0.out K2.out⟩
        · have E := hide (sbE_o E1.out E2.out e3 e4)
          have hd2 : ((D.qu.length : Int) == D.dep) = false := by simp; omega
          rw [E.out]
          clear e1 e2 e3 e4
          generalize D.nxt = nxt at *
          generalize D.dep = dep at *
          generalize l.length = len at *
          go_enter Try.func44, Try.ntmps44
          go_wp2_with fail
          rw [← HW.out]
          refine (C1.out _ (brefl _)).mono ?_
          rintro e w1 ⟨rfl, hb⟩
          have K := hide hb
          clear hb
          obtain ⟨x0, x1, x2, x3, x4⟩ := box5_cells (W' := w1) (X.out.below K.out)
          have y0 := (Y.out.below K.out).cell 0
          have y1 := (Y.out.below K.out).cell 1
          have y2 := (Y.out.below K.out).cell 2
          have y3 := (Y.out.below K.out).cell 3
          simp at y0 y1 y2 y3
          go_wp2_with fail
          refine (C2.out _).mono ?_
          rintro e w2 ⟨rfl, hb⟩
          have K2 := hide (btrans K.out hb)
          clear hb x0 x1 x2 x3 x4 y0 y1 y2 y3
          obtain ⟨x0, x1, x2, x3, x4⟩ := box5_cells (W' := w2) (X.out.below K2.out)
          go_wp2
          go_ret
          exact ⟨rfl, btrans K0.out K2.out⟩
    · have E := hide (sbE_r E1.out e2)
      rw [E.out]
      have hd : (reqE D.bl.length k b l.length != 0) = true := by simpa using e2
      generalize reqE D.bl.length k b l.length = er at *
      clear e1 e2 E
      generalize D.nxt = nxt at *
      generalize D.dep = dep at *
      generalize l.length = len at *
      go_enter Try.func44, Try.ntmps44
      go_wp2_with fail
      rw [← HW.out]
      refine (C1.out _ (brefl _)).mono ?_
      rintro e w1 ⟨rfl, hb⟩
      have K := hide hb
      clear hb
      obtain ⟨x0, x1, x2, x3, x4⟩ := box5_cells (W' := w1) (X.out.below K.out)
      have y0 := (Y.out.below K.out).cell 0
      have y1 := (Y.out.below K.out).cell 1
      have y2 := (Y.out.below K.out).cell 2
      have y3 := (Y.out.below K.out).cell 3
      simp at y0 y1 y2 y3
      go_wp2_with fail
      refine (C2.out _).mono ?_
      rintro e w2 ⟨rfl, hb⟩
      have K2 := hide (btrans K.out hb)
      clear hb x0 x1 x2 x3 x4 y0 y1 y2 y3
      obtain ⟨x0, x1, x2, x3, x4⟩ := box5_cells (W' := w2) (X.out.below K2.out)
      go_wp2
      go_ret
      exact ⟨rfl, btrans K0.out K2.out⟩
  · have E := hide (sbE_c (k := k) (b := b) (len := l.length) e1)
    rw [E.out]
    have hd : (chk D != 0) = true := by simpa using e1
    generalize chk D = er at *
    clear e1 E
    generalize D.nxt = nxt at *
    generalize D.dep = dep at *
    generalize l.length = len at *
    go_enter Try.func44, Try.ntmps44
    go_wp2_with fail
    rw [← HW.out]
    refine (C1.out _ (brefl _)).mono ?_
    rintro e w1 ⟨rfl, hb⟩
    have K := hide hb
    clear hb
    obtain ⟨x0, x1, x2, x3, x4⟩ := box5_cells (W' := w1) (X.out.below K.out)
    have y0 := (Y.out.below K.out).cell 0
    have y1 := (Y.out.below K.out).cell 1
    have y2 := (Y.out.below K.out).cell 2
    have y3 := (Y.out.below K.out).cell 3
    simp at y0 y1 y2 y3
    go_wp2
    go_ret
    exact ⟨rfl, btrans K0.out K.out⟩
end Go.Proofs.Ytncdilkcblakhaa.Dv
namespace Go.Proofs.Ytncdilkcblakhaa.Dv
open Go Go.RowKit
set_option linter.unusedVariables false
theorem Cl.next {w W : World} {bs br bo : Nat} {src zer : Array Value} {d n : Int} {vb vc vq : Value} {LB : List By} {LC : List Ca} {LQ : List Rq} (h : Cl w bs br bo src zer d n vb vc vq LB LC LQ W) (hos : bs ≠ bo) (hor : br ≠ bo) (hwo : w.heap.size ≤ bo) (n2 : Int) : Cl w bs br bo src zer d n2 vb vc vq LB LC LQ (W.setCell ⟨bo, 1, none⟩ (.int .i64 n2)) := by
  have hk2 : Kp w.heap.size 57 W (W.setCell ⟨bo, 1, none⟩ (.int .i64 n2)) := Kp.boxset h.out hwo 1 _
  exact ⟨h.below.setCell hwo _, h.src.far hos _, h.res.far hor _, h.out.put 1 _, h.ob.kp hk2 (by decide) (by decide), h.oc.kp hk2 (by decide) (by decide), h.oq.kp hk2 (by decide) (by decide)⟩
theorem cell_far {W : World} {g b i : Nat} (hne : g ≠ b) (u : Value) (j : Nat) : (W.setCell ⟨b, i, none⟩ u).cell? ⟨g, j, none⟩ = W.cell? ⟨g, j, none⟩ := World.cell?_of_block (w := W) (heap_setCell_other W ⟨b, i, none⟩ g u hne)
theorem Box.far5 {W : World} {g b : Nat} {t : TypeId} {cs : Array Value} (h : Box W g t cs) (hne : g ≠ b) (x0 x1 x2 x3 x4 : Value) : Box (((((W.setCell ⟨b, 0, none⟩ x0).setCell ⟨b, 1, none⟩ x1).setCell ⟨b, 2, none⟩ x2).setCell ⟨b, 3, none⟩ x3).setCell ⟨b, 4, none⟩ x4) g t cs :=
  ((((h.far hne x0).far hne x1).far hne x2).far hne x3).far hne x4
theorem cell_far5 {W : World} {g b j : Nat} (hne : g ≠ b) (x0 x1 x2 x3 x4 : Value) : (((((W.setCell ⟨b, 0, none⟩ x0).setCell ⟨b, 1, none⟩ x1).setCell ⟨b, 2, none⟩ x2).setCell ⟨b, 3, none⟩ x3).setCell ⟨b, 4, none⟩ x4).cell? ⟨g, j, none⟩ = W.cell? ⟨g, j, none⟩ := by
  rw [cell_far hne, cell_far hne, cell_far hne, cell_far hne, cell_far hne]
set_option maxHeartbeats 1500000 in
set_option maxRecDepth 100000 in
theorem submit_any (v : Value) (D : Dev) (k b : Int) (u : Value) (l : By) (w : World) (h : DevIn w v D) (hB : Big D) (hu : IsBs w u l) :
    Calls Try.prog 30 #[v, .int .i64 k, .int .i64 b, u] w (DvR3 (if sbE D k b l.length = 0 then sbD D k b l else zeroD) (if sbE D k b l.length = 0 then D.nxt else 0) (sbE D k b l.length) w) := by
  obtain ⟨A, c, rfl, hc, hul⟩ := hu
  obtain ⟨Ab, cb, Ac, cc, Aq, cq, rfl, h1, h2, h3, rb, rc, rq⟩ := h
  obtain ⟨W0, hW0⟩ : ∃ W0, W0 = ((w.alloc (.cells #[.int .i64 D.dep, .int .i64 D.nxt, .slice Ab D.bl.length cb, .slice Ac D.ca.length cc, .slice Aq D.qu.length cq] 57)).alloc (.cells #[.int .i64 0, .int .i64 0, .slice none 0 0, .slice none 0 0, .slice none 0 0] 57)).alloc (.cells #[.int .i64 D.nxt, .int .i64 k, .int .i64 b, .slice A l.length c] 67) := ⟨_, rfl⟩
  have K0 := hide (show Below w.heap.size w W0 by rw [hW0]; exact bal (bal (bal (brefl w) _) _) _)
  have X := hide (show Box W0 w.heap.size 57 #[.int .i64 D.dep, .int .i64 D.nxt, .slice Ab D.bl.length cb, .slice Ac D.ca.length cc, .slice Aq D.qu.length cq] by rw [hW0]; exact ((Box.new w 57 _).more _).more _)
  have Y := hide (show Box W0 (w.heap.size + 1) 57 #[.int .i64 0, .int .i64 0, .slice none 0 0, .slice none 0 0, .slice none 0 0] by rw [hW0]; exact (Box.new2 _ _ _ _).more _)
  have Z := hide (show Box W0 (w.heap.size + 2) 67 #[.int .i64 D.nxt, .int .i64 k, .int .i64 b, .slice A l.length c] by rw [hW0]; exact Box.new3 _ _ _ _ _)
  have IN := hide (show DevIn w (.agg #[.int .i64 D.dep, .int .i64 D.nxt, .slice Ab D.bl.length cb, .slice Ac D.ca.length cc, .slice Aq D.qu.length cq]) D from ⟨Ab, cb, Ac, cc, Aq, cq, rfl, h1, h2, h3, rb, rc, rq⟩)
  have IU := hide (show IsBs w (.slice A l.length c) l from ⟨A, c, rfl, hc, hul⟩)
  have C1 := hide (fun W (hb : Below W0.heap.size W0 W) => chksub_any _ D D.nxt k b A l c W (IN.out.below (btrans K0.out hb)) hB)
  have HW := hide hW0
  clear rb rc rq hul
  by_cases e1 : sbE D k b l.length = 0
  · rw [if_pos e1, if_pos e1, e1]
    rw [e1] at C1
    have hk0 : chk D = 0 := by
      by_cases a : chk D = 0
      · exact a
      · rw [sbE_c a] at e1; exact e1
    have hr0 : reqE D.bl.length k b l.length = 0 := by
      by_cases a : reqE D.bl.length k b l.length = 0
      · exact a
      · rw [sbE_r hk0 a] at e1; exact e1
    have hl32 := (req_len hr0).1
    have hlq := (sm_ok hk0).qu
    have hnx : 0 ≤ D.nxt ∧ D.nxt ≤ 1099511627776 := by have := (chk_zero hk0).1; unfold mx at this; omega
    have hn0 := hnx.1
    have hn1 := hnx.2
    have CC := hide (fun W (hb : Below W0.heap.size W0 W) => clone_dev _ D W (IN.out.below (btrans K0.out hb)) (sm_ok hk0))
    unfold DvR at CC
    clear e1 hW0 hk0 hr0 hnx
    go_enter Try.func30, Try.ntmps30
    go_wp2_with fail
    rw [← HW.out]
    refine (C1.out _ (brefl _)).mono ?_
    rintro e w1 ⟨rfl, hb⟩
    have K := hide hb
    clear hb
    obtain ⟨x0, x1, x2, x3, x4⟩ := box5_cells (W' := w1) (X.out.below K.out)
    go_wp2_with fail
    refine (CC.out _ K.out).mono ?_
    rintro e w2 ⟨v2, rfl, ho, hb⟩
    obtain ⟨vb, vc, vq, rfl, ob, oc, oq⟩ := ho
    obtain ⟨E1, g1, rfl, _⟩ := ob.form
    obtain ⟨E2, g2, rfl, _⟩ := oc.form
    obtain ⟨Ao, co, rfl, _⟩ := oq.form
    have K2 := hide (btrans K.out hb)
    have NE := hide (row_own_ge oq.choose_spec.2.1 (k := w.heap.size + 2) (Nat.lt_of_lt_of_le Z.out.lt K.out.size))
    have hw1 : w.heap.size ≤ w1.heap.size := Nat.le_trans K0.out.size K.out.size
    have CL := hide (show Cl w w.heap.size (w.heap.size + 1) w2.heap.size #[.int .i64 D.dep, .int .i64 D.nxt, .slice Ab D.bl.length cb, .slice Ac D.ca.length cc, .slice Aq D.qu.length cq] #[.int .i64 0, .int .i64 0, .slice none 0 0, .slice none 0 0, .slice none 0 0] D.dep D.nxt (.slice E1 D.bl.length g1) (.slice E2 D.ca.length g2) (.slice Ao D.qu.length co) D.bl D.ca D.qu (w2.alloc (.cells #[.int .i64 D.dep, .int .i64 D.nxt, .slice E1 D.bl.length g1, .slice E2 D.ca.length g2, .slice Ao D.qu.length co] 57)) from
      ⟨bal (btrans K0.out K2.out) _, (X.out.below K2.out).more _, (Y.out.below K2.out).more _, Box.new _ _ _, (ob.mono hw1).below (bal (brefl _) _), (oc.mono hw1).below (bal (brefl _) _), (oq.mono hw1).below (bal (brefl _) _)⟩)
    have Z3 := hide ((Z.out.below K2.out).more (.cells #[.int .i64 D.dep, .int .i64 D.nxt, .slice E1 D.bl.length g1, .slice E2 D.ca.length g2, .slice Ao D.qu.length co] 57))
    have hzw : w.heap.size + 2 < w2.heap.size := Nat.lt_of_lt_of_le Z.out.lt K2.out.size
    have hos : w.heap.size ≠ w2.heap.size := by omega
    have hor : w.heap.size + 1 ≠ w2.heap.size := by omega
    have hoz : w.heap.size + 2 ≠ w2.heap.size := by omega
    have hwo : w.heap.size ≤ w2.heap.size := by omega
    have IU3 := hide (IU.out.below (bal (btrans K0.out K2.out) (.cells #[.int .i64 D.dep, .int .i64 D.nxt, .slice E1 D.bl.length g1, .slice E2 D.ca.length g2, .slice Ao D.qu.length co] 57)))
    obtain ⟨i0, hi0, hz0, hz1, hz2⟩ := info_parts info67
    clear ob oc oq hb x0 x1 x2 x3 x4
    go_wp2
    obtain ⟨bo, hbo⟩ : ∃ bo, bo = w2.heap.size := ⟨_, rfl⟩
    rw [← hbo] at CL hos hor hoz hwo hzw ⊢
    generalize w2.alloc (.cells #[.int .i64 D.dep, .int .i64 D.nxt, .slice E1 D.bl.length g1, .slice E2 D.ca.length g2, .slice Ao D.qu.length co] 57) = wz at *
    clear hbo
    have C := hide (fun W (hb : Below wz.heap.size wz W) => copyrq_any D.nxt k b _ l W (IU3.out.below hb) (by omega))
    unfold RqR at C
    have x2 := CL.out.out.cell 4
    simp at x2
    have KZ := hide (Kz.refl wz (.slice Ao D.qu.length co) bo).drew
    have CE := hide (fun (W : World) (h : Kz wz (.slice Ao D.qu.length co) bo W) => (⟨h.cell (Z3.out.cell 0) Z3.out.lt hoz NE.out, h.cell (Z3.out.cell 1) Z3.out.lt hoz NE.out, h.cell (Z3.out.cell 2) Z3.out.lt hoz NE.out, h.cell (Z3.out.cell 3) Z3.out.lt hoz NE.out⟩ : W.cell? ⟨w.heap.size + 2, 0, none⟩ = some (.int .i64 D.nxt) ∧ W.cell? ⟨w.heap.size + 2, 1, none⟩ = some (.int .i64 k) ∧ W.cell? ⟨w.heap.size + 2, 2, none⟩ = some (.int .i64 b) ∧ W.cell? ⟨w.heap.size + 2, 3, none⟩ = some (.slice A l.length c)))
    replace CL := hide CL.out.drew
    refine wp_region_noPanic ?_
    refine wp_region_held_drew (S := (fun W => W.cell? ⟨w.heap.size + 2, 0, none⟩ = some (.int .i64 D.nxt) ∧ W.cell? ⟨w.heap.size + 2, 1, none⟩ = some (.int .i64 k) ∧ W.cell? ⟨w.heap.size + 2, 2, none⟩ = some (.int .i64 b) ∧ W.cell? ⟨w.heap.size + 2, 3, none⟩ = some (.slice A l.length c))) (by kernel_rfl) ?_ (fun hHeld => ?_)
    · exact CE.out _ KZ.out
    refine wpAnyH_take (i := 0) (oi := ⟨some 29, _, _, _, _, _⟩) (v := ?_) rfl (by kernel_rfl) (by kernel_rfl) (by kernel_rfl) (fun _ _ _ h => h) (Or.inl ⟨by kernel_rfl, ?_⟩) (by assumption) ?_
    rotate_left 1
    · (intro w hSw; (try dsimp only at hSw); go_simp) <;> (with_reducible rfl)
    (try simp only [Act.put, List.setIfInBounds_toArray, List.set_cons_succ, List.set_cons_zero])
    refine wpAnyH_take (i := 2) (oi := ⟨some 31, _, _, _, _, _⟩) (v := ?_) rfl (by kernel_rfl) (by kernel_rfl) (by kernel_rfl) (fun _ _ _ h => h) (Or.inl ⟨by kernel_rfl, ?_⟩) (by assumption) ?_
    rotate_left 1
    · (intro w hSw; (try dsimp only at hSw); go_simp) <;> (with_reducible rfl)
    (try simp only [Act.put, List.setIfInBounds_toArray, List.set_cons_succ, List.set_cons_zero])
    refine wpAnyH_ready (rs := [1, 3]) (by kernel_rfl) (by simp) ?_
    refine AllReadyH.cons (o := ⟨some 30, _, _, _, _, _⟩) rfl (fun K' hK => ?_) ?_
    · go_simp
      refine hK.out _ _ ?_ (fun hHeld => ?_)
      · exact CE.out _ KZ.out
      clear hK K'
      (try simp only [Act.put, List.setIfInBounds_toArray, List.set_cons_succ, List.set_cons_zero])
      refine wpAnyH_ready (rs := [3]) (by kernel_rfl) (by simp) ?_
      refine AllReadyH.cons (o := ⟨some 32, _, _, _, _, _⟩) rfl (fun K' hK => ?_) AllReadyH.nil
      go_simp
      refine (C.out _ (below_drew (brefl _))).mono ?_
      rintro e w1 ⟨v1, rfl, ho, hb⟩
      obtain ⟨A1, d1, rfl⟩ := ho.form
      have HU := hide ho
      replace KZ := hide (KZ.out.below hb)
      replace CL := hide (CL.out.on hb)
      have y2 := CL.out.out.cell 4
      simp at y2
      clear ho hb
      refine hK.out _ _ ?_ (fun hHeld => ?_)
      · exact CE.out _ KZ.out
      clear hK K'
      (try simp only [Act.put, List.setIfInBounds_toArray, List.set_cons_succ, List.set_cons_zero])
      refine wpAnyH_ready (rs := [4]) (by kernel_rfl) (by simp) ?_
      refine AllReadyH.cons (o := ⟨some 33, _, _, _, _, _⟩) rfl (fun K' hK => ?_) AllReadyH.nil
      go_simp
      replace CL := hide (CL.out.alloc (.cells #[.int .i64 D.nxt, .int .i64 k, .int .i64 b, .slice A1 l.length d1] 67))
      replace KZ := hide (KZ.out.alloc (.cells #[.int .i64 D.nxt, .int .i64 k, .int .i64 b, .slice A1 l.length d1] 67))
      replace HU := hide (HU.out.below (bal (brefl _) (.cells #[.int .i64 D.nxt, .int .i64 k, .int .i64 b, .slice A1 l.length d1] 67)))
      have NW := hide (cell_row w1 #[.int .i64 D.nxt, .int .i64 k, .int .i64 b, .slice A1 l.length d1] 67)
      generalize w1.alloc (.cells #[.int .i64 D.nxt, .int .i64 k, .int .i64 b, .slice A1 l.length d1] 67) = w5 at *
      have y5 := CL.out.out.cell 4
      simp at y5
      refine hK.out _ _ ?_ (fun hHeld => ?_)
      · exact CE.out _ KZ.out
      clear hK K'
      (try simp only [Act.put, List.setIfInBounds_toArray, List.set_cons_succ, List.set_cons_zero])
      refine wpAnyH_ready (rs := [5]) (by kernel_rfl) (by simp) ?_
      refine AllReadyH.cons (o := ⟨some 34, _, _, _, _, _⟩) rfl (fun K' hK => ?_) AllReadyH.nil
      obtain ⟨R, hR, hrow, hro⟩ := CL.out.oq
      refine step_append_own rfl (.tmp 30) (.tmp 33) 55 rfl w.heap.size 67 i0 _ 4 48 Try.underlying55 hi0 hz0 hz1 hz2 rfl (by omega) (.slice Ao D.qu.length co) (D.qu.length) _ rfl hrow ⟨w1.heap.size, 0, none⟩ 1 1 [.int .i64 D.nxt, .int .i64 k, .int .i64 b, .slice A1 l.length d1] rfl rfl NW.out (by intro u hu; simp at hu; rcases hu with rfl | rfl | rfl | rfl <;> rfl) (by simp only [maxLen]; omega) (by omega) CL.out.below.size ?_
      intro v4 w4 hown4 hg4
      obtain ⟨A4, c4, rfl, _⟩ := row_form hown4
      have PU := hide (CL.out.pushQ hos hor hwo hR hro hrow HU.out hown4 hg4)
      replace KZ := hide (KZ.out.grown hg4)
      have OB := hide (CL.out.gq (kp_grown hrow hg4 CL.out.below.size))
      have o2 := OB.out.cell 4
      have of2 := OB.out.frozen 4
      simp at o2
      clear hown4 hg4 hrow hro hR OB
      (try simp only [Act.put, List.setIfInBounds_toArray, List.set_cons_succ, List.set_cons_zero])
      refine hK.out _ _ ?_ (fun hHeld => ?_)
      · exact CE.out _ KZ.out
      clear hK K'
      (try simp only [Act.put, List.setIfInBounds_toArray, List.set_cons_succ, List.set_cons_zero])
      refine wpAnyH_take (i := 6) (oi := ⟨some 35, _, _, _, _, _⟩) (v := ?_) rfl (by kernel_rfl) (by kernel_rfl) (by kernel_rfl) (fun _ _ _ h => h) (Or.inl ⟨by kernel_rfl, ?_⟩) (by assumption) ?_
      rotate_left 1
      · (intro w hSw; (try dsimp only at hSw); go_simp) <;> (with_reducible rfl)
      (try simp only [Act.put, List.setIfInBounds_toArray, List.set_cons_succ, List.set_cons_zero])
      refine wpAnyH_ready (rs := [7]) (by kernel_rfl) (by simp) ?_
      refine AllReadyH.cons (o := ⟨none, _, _, _, _, _⟩) rfl (fun K' hK => ?_) AllReadyH.nil
      go_simp
      replace KZ := hide (KZ.out.set 4 (.slice A4 (D.qu.length + 1) c4))
      refine hK.out _ _ ?_ (fun hHeld => ?_)
      · exact CE.out _ KZ.out
      clear hK K'
      (try simp only [Act.put, List.setIfInBounds_toArray, List.set_cons_succ, List.set_cons_zero])
      refine wpAnyH_done (by kernel_rfl) ?_ _
      refine NoPanic.normal ?_
      generalize w4.setCell ⟨bo, 4, none⟩ (.slice A4 (D.qu.length + 1) c4) = w6 at *
      have KZ6 := KZ
      obtain ⟨q0, q1, q2, q3⟩ := hHeld
      obtain ⟨o0, o1, o2, o3, o4⟩ := box5_cells (W' := w6) PU.out.out
      have of1 := PU.out.out.frozen 1
      obtain ⟨r0, r1, r2, r3, r4⟩ := box5_cells (W' := w6) PU.out.res
      have f0 := PU.out.res.frozen 0
      have f1 := PU.out.res.frozen 1
      have f2 := PU.out.res.frozen 2
      have f3 := PU.out.res.frozen 3
      have f4 := PU.out.res.frozen 4
      go_wp2
      have P7 := hide (PU.out.next hos hor hwo (D.nxt + 1))
      have q7 := (cell_far (W := w6) (b := bo) (i := 1) hoz (.int .i64 (D.nxt + 1)) 0).trans q0
      have Q7 := hide q7
      clear q0 q1 q2 q3 o0 o1 o2 o3 o4 of1 r0 r1 r2 r3 r4 f0 f1 f2 f3 f4 KZ6 KZ PU q7
      generalize w6.setCell ⟨bo, 1, none⟩ (.int .i64 (D.nxt + 1)) = w7 at *
      obtain ⟨r0, r1, r2, r3, r4⟩ := box5_cells (W' := w7) P7.out.res
      have f0 := P7.out.res.frozen 0
      have f1 := P7.out.res.frozen 1
      have f2 := P7.out.res.frozen 2
      have f3 := P7.out.res.frozen 3
      have f4 := P7.out.res.frozen 4
      have SA := hide (show (fun W => W.cell? ⟨bo, 0, none⟩ = some (.int .i64 D.dep) ∧ W.cell? ⟨bo, 1, none⟩ = some (.int .i64 (D.nxt + 1)) ∧ W.cell? ⟨bo, 2, none⟩ = some (.slice E1 D.bl.length g1) ∧ W.cell? ⟨bo, 3, none⟩ = some (.slice E2 D.ca.length g2) ∧ W.cell? ⟨bo, 4, none⟩ = some (.slice A4 (D.qu.length + 1) c4) ∧ W.cell? ⟨w.heap.size + 2, 0, none⟩ = some (.int .i64 D.nxt)) w7 from ⟨P7.out.out.cell 0, P7.out.out.cell 1, P7.out.out.cell 2, P7.out.out.cell 3, P7.out.out.cell 4, Q7.out⟩)
      have F5 := hide (P7.out.out.far5 hor.symm (.int .i64 D.dep) (.int .i64 (D.nxt + 1)) (.slice E1 D.bl.length g1) (.slice E2 D.ca.length g2) (.slice A4 (D.qu.length + 1) c4))
      have KS := hide (kp_set5 (B := w.heap.size) P7.out.res (Nat.le_succ _) (.int .i64 D.dep) (.int .i64 (D.nxt + 1)) (.slice E1 D.bl.length g1) (.slice E2 D.ca.length g2) (.slice A4 (D.qu.length + 1) c4))
      have R8 := hide (P7.out.res.set5 (.int .i64 D.dep) (.int .i64 (D.nxt + 1)) (.slice E1 D.bl.length g1) (.slice E2 D.ca.length g2) (.slice A4 (D.qu.length + 1) c4))
      have Q8 := hide ((cell_far5 (j := 0) (show w.heap.size + 2 ≠ w.heap.size + 1 by omega) (.int .i64 D.dep) (.int .i64 (D.nxt + 1)) (.slice E1 D.bl.length g1) (.slice E2 D.ca.length g2) (.slice A4 (D.qu.length + 1) c4)).trans Q7.out)
      obtain ⟨w8, hw8⟩ : ∃ w8, w8 = (((((w7.setCell ⟨w.heap.size + 1, 0, none⟩ (.int .i64 D.dep)).setCell ⟨w.heap.size + 1, 1, none⟩ (.int .i64 (D.nxt + 1))).setCell ⟨w.heap.size + 1, 2, none⟩ (.slice E1 D.bl.length g1)).setCell ⟨w.heap.size + 1, 3, none⟩ (.slice E2 D.ca.length g2)).setCell ⟨w.heap.size + 1, 4, none⟩ (.slice A4 (D.qu.length + 1) c4)) := ⟨_, rfl⟩
      rw [← hw8] at F5 KS R8 Q8
      have HW8 := hide hw8
      clear hw8
      have SB := hide (show (fun W => W.cell? ⟨bo, 0, none⟩ = some (.int .i64 D.dep) ∧ W.cell? ⟨bo, 1, none⟩ = some (.int .i64 (D.nxt + 1)) ∧ W.cell? ⟨bo, 2, none⟩ = some (.slice E1 D.bl.length g1) ∧ W.cell? ⟨bo, 3, none⟩ = some (.slice E2 D.ca.length g2) ∧ W.cell? ⟨bo, 4, none⟩ = some (.slice A4 (D.qu.length + 1) c4) ∧ W.cell? ⟨w.heap.size + 2, 0, none⟩ = some (.int .i64 D.nxt)) w8 from ⟨F5.out.cell 0, F5.out.cell 1, F5.out.cell 2, F5.out.cell 3, F5.out.cell 4, Q8.out⟩)
      refine wp_region_noPanic ?_
      refine wp_region_held_drew (S := (fun W => W.cell? ⟨bo, 0, none⟩ = some (.int .i64 D.dep) ∧ W.cell? ⟨bo, 1, none⟩ = some (.int .i64 (D.nxt + 1)) ∧ W.cell? ⟨bo, 2, none⟩ = some (.slice E1 D.bl.length g1) ∧ W.cell? ⟨bo, 3, none⟩ = some (.slice E2 D.ca.length g2) ∧ W.cell? ⟨bo, 4, none⟩ = some (.slice A4 (D.qu.length + 1) c4) ∧ W.cell? ⟨w.heap.size + 2, 0, none⟩ = some (.int .i64 D.nxt))) (by kernel_rfl) ?_ (fun hHeld => ?_)
      · exact SA.out
      refine wpAnyH_take (i := 0) (oi := ⟨some 40, _, _, _, _, _⟩) (v := ?_) rfl (by kernel_rfl) (by kernel_rfl) (by kernel_rfl) (fun _ _ _ h => h) (Or.inl ⟨by kernel_rfl, ?_⟩) (by assumption) ?_
      rotate_left 1
      · (intro w hSw; (try dsimp only at hSw); go_simp) <;> (with_reducible rfl)
      (try simp only [Act.put, List.setIfInBounds_toArray, List.set_cons_succ, List.set_cons_zero])
      refine wpAnyH_take (i := 1) (oi := ⟨some 41, _, _, _, _, _⟩) (v := ?_) rfl (by kernel_rfl) (by kernel_rfl) (by kernel_rfl) (fun _ _ _ h => h) (Or.inl ⟨by kernel_rfl, ?_⟩) (by assumption) ?_
      rotate_left 1
      · (intro w hSw; (try dsimp only at hSw); go_simp) <;> (with_reducible rfl)
      (try simp only [Act.put, List.setIfInBounds_toArray, List.set_cons_succ, List.set_cons_zero])
      refine wpAnyH_take (i := 2) (oi := ⟨some 42, _, _, _, _, _⟩) (v := ?_) rfl (by kernel_rfl) (by kernel_rfl) (by kernel_rfl) (fun _ _ _ h => h) (Or.inl ⟨by kernel_rfl, ?_⟩) (by assumption) ?_
      rotate_left 1
      · (intro w hSw; (try dsimp only at hSw); go_simp) <;> (with_reducible rfl)
      (try simp only [Act.put, List.setIfInBounds_toArray, List.set_cons_succ, List.set_cons_zero])
      refine wpAnyH_ready (rs := [3]) (by kernel_rfl) (by simp) ?_
      refine AllReadyH.cons (o := _) rfl (fun K' hK => ?_) AllReadyH.nil
      go_simp
      rw [← HW8.out]
      refine hK.out _ _ ?_ (fun hHeld => ?_)
      · exact SB.out
      clear hK K'
      (try simp only [Act.put, List.setIfInBounds_toArray, List.set_cons_succ, List.set_cons_zero])
      refine wpAnyH_take (i := 4) (oi := ⟨some 9, _, _, _, _, _⟩) (v := ?_) rfl (by kernel_rfl) (by kernel_rfl) (by kernel_rfl) (fun _ _ _ h => h) (Or.inl ⟨by kernel_rfl, ?_⟩) (by assumption) ?_
      rotate_left 1
      · (intro w hSw; (try dsimp only at hSw); go_simp) <;> (with_reducible rfl)
      (try simp only [Act.put, List.setIfInBounds_toArray, List.set_cons_succ, List.set_cons_zero])
      refine wpAnyH_take (i := 5) (oi := ⟨some 10, _, _, _, _, _⟩) (v := ?_) rfl (by kernel_rfl) (by kernel_rfl) (by kernel_rfl) (fun _ _ _ h => h) (Or.inl ⟨by kernel_rfl, ?_⟩) (by assumption) ?_
      rotate_left 1
      · (intro w hSw; (try dsimp only at hSw); go_simp) <;> (with_reducible rfl)
      (try simp only [Act.put, List.setIfInBounds_toArray, List.set_cons_succ, List.set_cons_zero])
      refine wpAnyH_done (by kernel_rfl) ?_ _
      refine NoPanic.normal ?_
      go_wp2
      have LQ := hide (show (D.qu ++ [(D.nxt, k, b, l)]).length = D.qu.length + 1 by simp)
      obtain ⟨vq, hvq⟩ : ∃ vq : Value, vq = .slice A4 (D.qu.length + 1) c4 := ⟨_, rfl⟩
      exact ret_d3 Try.results30 rfl rfl rfl rfl R8.out ⟨_, rfl, ⟨_, _, _, rfl, (P7.out.ob.kp KS.out (by decide) (by decide)).below (below_drew (brefl _)), (P7.out.oc.kp KS.out (by decide) (by decide)).below (below_drew (brefl _)), (P7.out.oq.kp KS.out (by decide) (by decide)).below (below_drew (brefl _))⟩, below_drew (P7.out.below.trans KS.out.below)⟩
    refine AllReadyH.cons (o := ⟨some 32, _, _, _, _, _⟩) rfl (fun K' hK => ?_) AllReadyH.nil
    go_simp
    refine (C.out _ (below_drew (brefl _))).mono ?_
    rintro e w1 ⟨v1, rfl, ho, hb⟩
    obtain ⟨A1, d1, rfl⟩ := ho.form
    have HU := hide ho
    replace KZ := hide (KZ.out.below hb)
    replace CL := hide (CL.out.on hb)
    have y2 := CL.out.out.cell 4
    simp at y2
    clear ho hb
    refine hK.out _ _ ?_ (fun hHeld => ?_)
    · exact CE.out _ KZ.out
    clear hK K'
    (try simp only [Act.put, List.setIfInBounds_toArray, List.set_cons_succ, List.set_cons_zero])
    refine wpAnyH_ready (rs := [1, 4]) (by kernel_rfl) (by simp) ?_
    refine AllReadyH.cons (o := ⟨some 30, _, _, _, _, _⟩) rfl (fun K' hK => ?_) ?_
    · go_simp
      refine hK.out _ _ ?_ (fun hHeld => ?_)
      · exact CE.out _ KZ.out
      clear hK K'
      (try simp only [Act.put, List.setIfInBounds_toArray, List.set_cons_succ, List.set_cons_zero])
      refine wpAnyH_ready (rs := [4]) (by kernel_rfl) (by simp) ?_
      refine AllReadyH.cons (o := ⟨some 33, _, _, _, _, _⟩) rfl (fun K' hK => ?_) AllReadyH.nil
      go_simp
      replace CL := hide (CL.out.alloc (.cells #[.int .i64 D.nxt, .int .i64 k, .int .i64 b, .slice A1 l.length d1] 67))
      replace KZ := hide (KZ.out.alloc (.cells #[.int .i64 D.nxt, .int .i64 k, .int .i64 b, .slice A1 l.length d1] 67))
      replace HU := hide (HU.out.below (bal (brefl _) (.cells #[.int .i64 D.nxt, .int .i64 k, .int .i64 b, .slice A1 l.length d1] 67)))
      have NW := hide (cell_row w1 #[.int .i64 D.nxt, .int .i64 k, .int .i64 b, .slice A1 l.length d1] 67)
      generalize w1.alloc (.cells #[.int .i64 D.nxt, .int .i64 k, .int .i64 b, .slice A1 l.length d1] 67) = w5 at *
      have y5 := CL.out.out.cell 4
      simp at y5
      refine hK.out _ _ ?_ (fun hHeld => ?_)
      · exact CE.out _ KZ.out
      clear hK K'
      (try simp only [Act.put, List.setIfInBounds_toArray, List.set_cons_succ, List.set_cons_zero])
      refine wpAnyH_ready (rs := [5]) (by kernel_rfl) (by simp) ?_
      refine AllReadyH.cons (o := ⟨some 34, _, _, _, _, _⟩) rfl (fun K' hK => ?_) AllReadyH.nil
      obtain ⟨R, hR, hrow, hro⟩ := CL.out.oq
      refine step_append_own rfl (.tmp 30) (.tmp 33) 55 rfl w.heap.size 67 i0 _ 4 48 Try.underlying55 hi0 hz0 hz1 hz2 rfl (by omega) (.slice Ao D.qu.length co) (D.qu.length) _ rfl hrow ⟨w1.heap.size, 0, none⟩ 1 1 [.int .i64 D.nxt, .int .i64 k, .int .i64 b, .slice A1 l.length d1] rfl rfl NW.out (by intro u hu; simp at hu; rcases hu with rfl | rfl | rfl | rfl <;> rfl) (by simp only [maxLen]; omega) (by omega) CL.out.below.size ?_
      intro v4 w4 hown4 hg4
      obtain ⟨A4, c4, rfl, _⟩ := row_form hown4
      have PU := hide (CL.out.pushQ hos hor hwo hR hro hrow HU.out hown4 hg4)
      replace KZ := hide (KZ.out.grown hg4)
      have OB := hide (CL.out.gq (kp_grown hrow hg4 CL.out.below.size))
      have o2 := OB.out.cell 4
      have of2 := OB.out.frozen 4
      simp at o2
      clear hown4 hg4 hrow hro hR OB
      (try simp only [Act.put, List.setIfInBounds_toArray, List.set_cons_succ, List.set_cons_zero])
      refine hK.out _ _ ?_ (fun hHeld => ?_)
      · exact CE.out _ KZ.out
      clear hK K'
      (try simp only [Act.put, List.setIfInBounds_toArray, List.set_cons_succ, List.set_cons_zero])
      refine wpAnyH_take (i := 6) (oi := ⟨some 35, _, _, _, _, _⟩) (v := ?_) rfl (by kernel_rfl) (by kernel_rfl) (by kernel_rfl) (fun _ _ _ h => h) (Or.inl ⟨by kernel_rfl, ?_⟩) (by assumption) ?_
      rotate_left 1
      · (intro w hSw; (try dsimp only at hSw); go_simp) <;> (with_reducible rfl)
      (try simp only [Act.put, List.setIfInBounds_toArray, List.set_cons_succ, List.set_cons_zero])
      refine wpAnyH_ready (rs := [7]) (by kernel_rfl) (by simp) ?_
      refine AllReadyH.cons (o := ⟨none, _, _, _, _, _⟩) rfl (fun K' hK => ?_) AllReadyH.nil
      go_simp
      replace KZ := hide (KZ.out.set 4 (.slice A4 (D.qu.length + 1) c4))
      refine hK.out _ _ ?_ (fun hHeld => ?_)
      · exact CE.out _ KZ.out
      clear hK K'
      (try simp only [Act.put, List.setIfInBounds_toArray, List.set_cons_succ, List.set_cons_zero])
      refine wpAnyH_done (by kernel_rfl) ?_ _
      refine NoPanic.normal ?_
      generalize w4.setCell ⟨bo, 4, none⟩ (.slice A4 (D.qu.length + 1) c4) = w6 at *
      have KZ6 := KZ
      obtain ⟨q0, q1, q2, q3⟩ := hHeld
      obtain ⟨o0, o1, o2, o3, o4⟩ := box5_cells (W' := w6) PU.out.out
      have of1 := PU.out.out.frozen 1
      obtain ⟨r0, r1, r2, r3, r4⟩ := box5_cells (W' := w6) PU.out.res
      have f0 := PU.out.res.frozen 0
      have f1 := PU.out.res.frozen 1
      have f2 := PU.out.res.frozen 2
      have f3 := PU.out.res.frozen 3
      have f4 := PU.out.res.frozen 4
      go_wp2
      have P7 := hide (PU.out.next hos hor hwo (D.nxt + 1))
      have q7 := (cell_far (W := w6) (b := bo) (i := 1) hoz (.int .i64 (D.nxt + 1)) 0).trans q0
      have Q7 := hide q7
      clear q0 q1 q2 q3 o0 o1 o2 o3 o4 of1 r0 r1 r2 r3 r4 f0 f1 f2 f3 f4 KZ6 KZ PU q7
      generalize w6.setCell ⟨bo, 1, none⟩ (.int .i64 (D.nxt + 1)) = w7 at *
      obtain ⟨r0, r1, r2, r3, r4⟩ := box5_cells (W' := w7) P7.out.res
      have f0 := P7.out.res.frozen 0
      have f1 := P7.out.res.frozen 1
      have f2 := P7.out.res.frozen 2
      have f3 := P7.out.res.frozen 3
      have f4 := P7.out.res.frozen 4
      have SA := hide (show (fun W => W.cell? ⟨bo, 0, none⟩ = some (.int .i64 D.dep) ∧ W.cell? ⟨bo, 1, none⟩ = some (.int .i64 (D.nxt + 1)) ∧ W.cell? ⟨bo, 2, none⟩ = some (.slice E1 D.bl.length g1) ∧ W.cell? ⟨bo, 3, none⟩ = some (.slice E2 D.ca.length g2) ∧ W.cell? ⟨bo, 4, none⟩ = some (.slice A4 (D.qu.length + 1) c4) ∧ W.cell? ⟨w.heap.size + 2, 0, none⟩ = some (.int .i64 D.nxt)) w7 from ⟨P7.out.out.cell 0, P7.out.out.cell 1, P7.out.out.cell 2, P7.out.out.cell 3, P7.out.out.cell 4, Q7.out⟩)
      have F5 := hide (P7.out.out.far5 hor.symm (.int .i64 D.dep) (.int .i64 (D.nxt + 1)) (.slice E1 D.bl.length g1) (.slice E2 D.ca.length g2) (.slice A4 (D.qu.length + 1) c4))
      have KS := hide (kp_set5 (B := w.heap.size) P7.out.res (Nat.le_succ _) (.int .i64 D.dep) (.int .i64 (D.nxt + 1)) (.slice E1 D.bl.length g1) (.slice E2 D.ca.length g2) (.slice A4 (D.qu.length + 1) c4))
      have R8 := hide (P7.out.res.set5 (.int .i64 D.dep) (.int .i64 (D.nxt + 1)) (.slice E1 D.bl.length g1) (.slice E2 D.ca.length g2) (.slice A4 (D.qu.length + 1) c4))
      have Q8 := hide ((cell_far5 (j := 0) (show w.heap.size + 2 ≠ w.heap.size + 1 by omega) (.int .i64 D.dep) (.int .i64 (D.nxt + 1)) (.slice E1 D.bl.length g1) (.slice E2 D.ca.length g2) (.slice A4 (D.qu.length + 1) c4)).trans Q7.out)
      obtain ⟨w8, hw8⟩ : ∃ w8, w8 = (((((w7.setCell ⟨w.heap.size + 1, 0, none⟩ (.int .i64 D.dep)).setCell ⟨w.heap.size + 1, 1, none⟩ (.int .i64 (D.nxt + 1))).setCell ⟨w.heap.size + 1, 2, none⟩ (.slice E1 D.bl.length g1)).setCell ⟨w.heap.size + 1, 3, none⟩ (.slice E2 D.ca.length g2)).setCell ⟨w.heap.size + 1, 4, none⟩ (.slice A4 (D.qu.length + 1) c4)) := ⟨_, rfl⟩
      rw [← hw8] at F5 KS R8 Q8
      have HW8 := hide hw8
      clear hw8
      have SB := hide (show (fun W => W.cell? ⟨bo, 0, none⟩ = some (.int .i64 D.dep) ∧ W.cell? ⟨bo, 1, none⟩ = some (.int .i64 (D.nxt + 1)) ∧ W.cell? ⟨bo, 2, none⟩ = some (.slice E1 D.bl.length g1) ∧ W.cell? ⟨bo, 3, none⟩ = some (.slice E2 D.ca.length g2) ∧ W.cell? ⟨bo, 4, none⟩ = some (.slice A4 (D.qu.length + 1) c4) ∧ W.cell? ⟨w.heap.size + 2, 0, none⟩ = some (.int .i64 D.nxt)) w8 from ⟨F5.out.cell 0, F5.out.cell 1, F5.out.cell 2, F5.out.cell 3, F5.out.cell 4, Q8.out⟩)
      refine wp_region_noPanic ?_
      refine wp_region_held_drew (S := (fun W => W.cell? ⟨bo, 0, none⟩ = some (.int .i64 D.dep) ∧ W.cell? ⟨bo, 1, none⟩ = some (.int .i64 (D.nxt + 1)) ∧ W.cell? ⟨bo, 2, none⟩ = some (.slice E1 D.bl.length g1) ∧ W.cell? ⟨bo, 3, none⟩ = some (.slice E2 D.ca.length g2) ∧ W.cell? ⟨bo, 4, none⟩ = some (.slice A4 (D.qu.length + 1) c4) ∧ W.cell? ⟨w.heap.size + 2, 0, none⟩ = some (.int .i64 D.nxt))) (by kernel_rfl) ?_ (fun hHeld => ?_)
      · exact SA.out
      refine wpAnyH_take (i := 0) (oi := ⟨some 40, _, _, _, _, _⟩) (v := ?_) rfl (by kernel_rfl) (by kernel_rfl) (by kernel_rfl) (fun _ _ _ h => h) (Or.inl ⟨by kernel_rfl, ?_⟩) (by assumption) ?_
      rotate_left 1
      · (intro w hSw; (try dsimp only at hSw); go_simp) <;> (with_reducible rfl)
      (try simp only [Act.put, List.setIfInBounds_toArray, List.set_cons_succ, List.set_cons_zero])
      refine wpAnyH_take (i := 1) (oi := ⟨some 41, _, _, _, _, _⟩) (v := ?_) rfl (by kernel_rfl) (by kernel_rfl) (by kernel_rfl) (fun _ _ _ h => h) (Or.inl ⟨by kernel_rfl, ?_⟩) (by assumption) ?_
      rotate_left 1
      · (intro w hSw; (try dsimp only at hSw); go_simp) <;> (with_reducible rfl)
      (try simp only [Act.put, List.setIfInBounds_toArray, List.set_cons_succ, List.set_cons_zero])
      refine wpAnyH_take (i := 2) (oi := ⟨some 42, _, _, _, _, _⟩) (v := ?_) rfl (by kernel_rfl) (by kernel_rfl) (by kernel_rfl) (fun _ _ _ h => h) (Or.inl ⟨by kernel_rfl, ?_⟩) (by assumption) ?_
      rotate_left 1
      · (intro w hSw; (try dsimp only at hSw); go_simp) <;> (with_reducible rfl)
      (try simp only [Act.put, List.setIfInBounds_toArray, List.set_cons_succ, List.set_cons_zero])
      refine wpAnyH_ready (rs := [3]) (by kernel_rfl) (by simp) ?_
      refine AllReadyH.cons (o := _) rfl (fun K' hK => ?_) AllReadyH.nil
      go_simp
      rw [← HW8.out]
      refine hK.out _ _ ?_ (fun hHeld => ?_)
      · exact SB.out
      clear hK K'
      (try simp only [Act.put, List.setIfInBounds_toArray, List.set_cons_succ, List.set_cons_zero])
      refine wpAnyH_take (i := 4) (oi := ⟨some 9, _, _, _, _, _⟩) (v := ?_) rfl (by kernel_rfl) (by kernel_rfl) (by kernel_rfl) (fun _ _ _ h => h) (Or.inl ⟨by kernel_rfl, ?_⟩) (by assumption) ?_
      rotate_left 1
      · (intro w hSw; (try dsimp only at hSw); go_simp) <;> (with_reducible rfl)
      (try simp only [Act.put, List.setIfInBounds_toArray, List.set_cons_succ, List.set_cons_zero])
      refine wpAnyH_take (i := 5) (oi := ⟨some 10, _, _, _, _, _⟩) (v := ?_) rfl (by kernel_rfl) (by kernel_rfl) (by kernel_rfl) (fun _ _ _ h => h) (Or.inl ⟨by kernel_rfl, ?_⟩) (by assumption) ?_
      rotate_left 1
      · (intro w hSw; (try dsimp only at hSw); go_simp) <;> (with_reducible rfl)
      (try simp only [Act.put, List.setIfInBounds_toArray, List.set_cons_succ, List.set_cons_zero])
      refine wpAnyH_done (by kernel_rfl) ?_ _
      refine NoPanic.normal ?_
      go_wp2
      have LQ := hide (show (D.qu ++ [(D.nxt, k, b, l)]).length = D.qu.length + 1 by simp)
      obtain ⟨vq, hvq⟩ : ∃ vq : Value, vq = .slice A4 (D.qu.length + 1) c4 := ⟨_, rfl⟩
      exact ret_d3 Try.results30 rfl rfl rfl rfl R8.out ⟨_, rfl, ⟨_, _, _, rfl, (P7.out.ob.kp KS.out (by decide) (by decide)).below (below_drew (brefl _)), (P7.out.oc.kp KS.out (by decide) (by decide)).below (below_drew (brefl _)), (P7.out.oq.kp KS.out (by decide) (by decide)).below (below_drew (brefl _))⟩, below_drew (P7.out.below.trans KS.out.below)⟩
    refine AllReadyH.cons (o := ⟨some 33, _, _, _, _, _⟩) rfl (fun K' hK => ?_) AllReadyH.nil
    go_simp
    replace CL := hide (CL.out.alloc (.cells #[.int .i64 D.nxt, .int .i64 k, .int .i64 b, .slice A1 l.length d1] 67))
    replace KZ := hide (KZ.out.alloc (.cells #[.int .i64 D.nxt, .int .i64 k, .int .i64 b, .slice A1 l.length d1] 67))
    replace HU := hide (HU.out.below (bal (brefl _) (.cells #[.int .i64 D.nxt, .int .i64 k, .int .i64 b, .slice A1 l.length d1] 67)))
    have NW := hide (cell_row w1 #[.int .i64 D.nxt, .int .i64 k, .int .i64 b, .slice A1 l.length d1] 67)
    generalize w1.alloc (.cells #[.int .i64 D.nxt, .int .i64 k, .int .i64 b, .slice A1 l.length d1] 67) = w5 at *
    have y5 := CL.out.out.cell 4
    simp at y5
    refine hK.out _ _ ?_ (fun hHeld => ?_)
    · exact CE.out _ KZ.out
    clear hK K'
    (try simp only [Act.put, List.setIfInBounds_toArray, List.set_cons_succ, List.set_cons_zero])
    refine wpAnyH_ready (rs := [1]) (by kernel_rfl) (by simp) ?_
    refine AllReadyH.cons (o := ⟨some 30, _, _, _, _, _⟩) rfl (fun K' hK => ?_) AllReadyH.nil
    go_simp
    refine hK.out _ _ ?_ (fun hHeld => ?_)
    · exact CE.out _ KZ.out
    clear hK K'
    (try simp only [Act.put, List.setIfInBounds_toArray, List.set_cons_succ, List.set_cons_zero])
    refine wpAnyH_ready (rs := [5]) (by kernel_rfl) (by simp) ?_
    refine AllReadyH.cons (o := ⟨some 34, _, _, _, _, _⟩) rfl (fun K' hK => ?_) AllReadyH.nil
    obtain ⟨R, hR, hrow, hro⟩ := CL.out.oq
    refine step_append_own rfl (.tmp 30) (.tmp 33) 55 rfl w.heap.size 67 i0 _ 4 48 Try.underlying55 hi0 hz0 hz1 hz2 rfl (by omega) (.slice Ao D.qu.length co) (D.qu.length) _ rfl hrow ⟨w1.heap.size, 0, none⟩ 1 1 [.int .i64 D.nxt, .int .i64 k, .int .i64 b, .slice A1 l.length d1] rfl rfl NW.out (by intro u hu; simp at hu; rcases hu with rfl | rfl | rfl | rfl <;> rfl) (by simp only [maxLen]; omega) (by omega) CL.out.below.size ?_
    intro v4 w4 hown4 hg4
    obtain ⟨A4, c4, rfl, _⟩ := row_form hown4
    have PU := hide (CL.out.pushQ hos hor hwo hR hro hrow HU.out hown4 hg4)
    replace KZ := hide (KZ.out.grown hg4)
    have OB := hide (CL.out.gq (kp_grown hrow hg4 CL.out.below.size))
    have o2 := OB.out.cell 4
    have of2 := OB.out.frozen 4
    simp at o2
    clear hown4 hg4 hrow hro hR OB
    (try simp only [Act.put, List.setIfInBounds_toArray, List.set_cons_succ, List.set_cons_zero])
    refine hK.out _ _ ?_ (fun hHeld => ?_)
    · exact CE.out _ KZ.out
    clear hK K'
    (try simp only [Act.put, List.setIfInBounds_toArray, List.set_cons_succ, List.set_cons_zero])
    refine wpAnyH_take (i := 6) (oi := ⟨some 35, _, _, _, _, _⟩) (v := ?_) rfl (by kernel_rfl) (by kernel_rfl) (by kernel_rfl) (fun _ _ _ h => h) (Or.inl ⟨by kernel_rfl, ?_⟩) (by assumption) ?_
    rotate_left 1
    · (intro w hSw; (try dsimp only at hSw); go_simp) <;> (with_reducible rfl)
    (try simp only [Act.put, List.setIfInBounds_toArray, List.set_cons_succ, List.set_cons_zero])
    refine wpAnyH_ready (rs := [7]) (by kernel_rfl) (by simp) ?_
    refine AllReadyH.cons (o := ⟨none, _, _, _, _, _⟩) rfl (fun K' hK => ?_) AllReadyH.nil
    go_simp
    replace KZ := hide (KZ.out.set 4 (.slice A4 (D.qu.length + 1) c4))
    refine hK.out _ _ ?_ (fun hHeld => ?_)
    · exact CE.out _ KZ.out
    clear hK K'
    (try simp only [Act.put, List.setIfInBounds_toArray, List.set_cons_succ, List.set_cons_zero])
    refine wpAnyH_done (by kernel_rfl) ?_ _
    refine NoPanic.normal ?_
    generalize w4.setCell ⟨bo, 4, none⟩ (.slice A4 (D.qu.length + 1) c4) = w6 at *
    have KZ6 := KZ
    obtain ⟨q0, q1, q2, q3⟩ := hHeld
    obtain ⟨o0, o1, o2, o3, o4⟩ := box5_cells (W' := w6) PU.out.out
    have of1 := PU.out.out.frozen 1
    obtain ⟨r0, r1, r2, r3, r4⟩ := box5_cells (W' := w6) PU.out.res
    have f0 := PU.out.res.frozen 0
    have f1 := PU.out.res.frozen 1
    have f2 := PU.out.res.frozen 2
    have f3 := PU.out.res.frozen 3
    have f4 := PU.out.res.frozen 4
    go_wp2
    have P7 := hide (PU.out.next hos hor hwo (D.nxt + 1))
    have q7 := (cell_far (W := w6) (b := bo) (i := 1) hoz (.int .i64 (D.nxt + 1)) 0).trans q0
    have Q7 := hide q7
    clear q0 q1 q2 q3 o0 o1 o2 o3 o4 of1 r0 r1 r2 r3 r4 f0 f1 f2 f3 f4 KZ6 KZ PU q7
    generalize w6.setCell ⟨bo, 1, none⟩ (.int .i64 (D.nxt + 1)) = w7 at *
    obtain ⟨r0, r1, r2, r3, r4⟩ := box5_cells (W' := w7) P7.out.res
    have f0 := P7.out.res.frozen 0
    have f1 := P7.out.res.frozen 1
    have f2 := P7.out.res.frozen 2
    have f3 := P7.out.res.frozen 3
    have f4 := P7.out.res.frozen 4
    have SA := hide (show (fun W => W.cell? ⟨bo, 0, none⟩ = some (.int .i64 D.dep) ∧ W.cell? ⟨bo, 1, none⟩ = some (.int .i64 (D.nxt + 1)) ∧ W.cell? ⟨bo, 2, none⟩ = some (.slice E1 D.bl.length g1) ∧ W.cell? ⟨bo, 3, none⟩ = some (.slice E2 D.ca.length g2) ∧ W.cell? ⟨bo, 4, none⟩ = some (.slice A4 (D.qu.length + 1) c4) ∧ W.cell? ⟨w.heap.size + 2, 0, none⟩ = some (.int .i64 D.nxt)) w7 from ⟨P7.out.out.cell 0, P7.out.out.cell 1, P7.out.out.cell 2, P7.out.out.cell 3, P7.out.out.cell 4, Q7.out⟩)
    have F5 := hide (P7.out.out.far5 hor.symm (.int .i64 D.dep) (.int .i64 (D.nxt + 1)) (.slice E1 D.bl.length g1) (.slice E2 D.ca.length g2) (.slice A4 (D.qu.length + 1) c4))
    have KS := hide (kp_set5 (B := w.heap.size) P7.out.res (Nat.le_succ _) (.int .i64 D.dep) (.int .i64 (D.nxt + 1)) (.slice E1 D.bl.length g1) (.slice E2 D.ca.length g2) (.slice A4 (D.qu.length + 1) c4))
    have R8 := hide (P7.out.res.set5 (.int .i64 D.dep) (.int .i64 (D.nxt + 1)) (.slice E1 D.bl.length g1) (.slice E2 D.ca.length g2) (.slice A4 (D.qu.length + 1) c4))
    have Q8 := hide ((cell_far5 (j := 0) (show w.heap.size + 2 ≠ w.heap.size + 1 by omega) (.int .i64 D.dep) (.int .i64 (D.nxt + 1)) (.slice E1 D.bl.length g1) (.slice E2 D.ca.length g2) (.slice A4 (D.qu.length + 1) c4)).trans Q7.out)
    obtain ⟨w8, hw8⟩ : ∃ w8, w8 = (((((w7.setCell ⟨w.heap.size + 1, 0, none⟩ (.int .i64 D.dep)).setCell ⟨w.heap.size + 1, 1, none⟩ (.int .i64 (D.nxt + 1))).setCell ⟨w.heap.size + 1, 2, none⟩ (.slice E1 D.bl.length g1)).setCell ⟨w.heap.size + 1, 3, none⟩ (.slice E2 D.ca.length g2)).setCell ⟨w.heap.size + 1, 4, none⟩ (.slice A4 (D.qu.length + 1) c4)) := ⟨_, rfl⟩
    rw [← hw8] at F5 KS R8 Q8
    have HW8 := hide hw8
    clear hw8
    have SB := hide (show (fun W => W.cell? ⟨bo, 0, none⟩ = some (.int .i64 D.dep) ∧ W.cell? ⟨bo, 1, none⟩ = some (.int .i64 (D.nxt + 1)) ∧ W.cell? ⟨bo, 2, none⟩ = some (.slice E1 D.bl.length g1) ∧ W.cell? ⟨bo, 3, none⟩ = some (.slice E2 D.ca.length g2) ∧ W.cell? ⟨bo, 4, none⟩ = some (.slice A4 (D.qu.length + 1) c4) ∧ W.cell? ⟨w.heap.size + 2, 0, none⟩ = some (.int .i64 D.nxt)) w8 from ⟨F5.out.cell 0, F5.out.cell 1, F5.out.cell 2, F5.out.cell 3, F5.out.cell 4, Q8.out⟩)
    refine wp_region_noPanic ?_
    refine wp_region_held_drew (S := (fun W => W.cell? ⟨bo, 0, none⟩ = some (.int .i64 D.dep) ∧ W.cell? ⟨bo, 1, none⟩ = some (.int .i64 (D.nxt + 1)) ∧ W.cell? ⟨bo, 2, none⟩ = some (.slice E1 D.bl.length g1) ∧ W.cell? ⟨bo, 3, none⟩ = some (.slice E2 D.ca.length g2) ∧ W.cell? ⟨bo, 4, none⟩ = some (.slice A4 (D.qu.length + 1) c4) ∧ W.cell? ⟨w.heap.size + 2, 0, none⟩ = some (.int .i64 D.nxt))) (by kernel_rfl) ?_ (fun hHeld => ?_)
    · exact SA.out
    refine wpAnyH_take (i := 0) (oi := ⟨some 40, _, _, _, _, _⟩) (v := ?_) rfl (by kernel_rfl) (by kernel_rfl) (by kernel_rfl) (fun _ _ _ h => h) (Or.inl ⟨by kernel_rfl, ?_⟩) (by assumption) ?_
    rotate_left 1
    · (intro w hSw; (try dsimp only at hSw); go_simp) <;> (with_reducible rfl)
    (try simp only [Act.put, List.setIfInBounds_toArray, List.set_cons_succ, List.set_cons_zero])
    refine wpAnyH_take (i := 1) (oi := ⟨some 41, _, _, _, _, _⟩) (v := ?_) rfl (by kernel_rfl) (by kernel_rfl) (by kernel_rfl) (fun _ _ _ h => h) (Or.inl ⟨by kernel_rfl, ?_⟩) (by assumption) ?_
    rotate_left 1
    · (intro w hSw; (try dsimp only at hSw); go_simp) <;> (with_reducible rfl)
    (try simp only [Act.put, List.setIfInBounds_toArray, List.set_cons_succ, List.set_cons_zero])
    refine wpAnyH_take (i := 2) (oi := ⟨some 42, _, _, _, _, _⟩) (v := ?_) rfl (by kernel_rfl) (by kernel_rfl) (by kernel_rfl) (fun _ _ _ h => h) (Or.inl ⟨by kernel_rfl, ?_⟩) (by assumption) ?_
    rotate_left 1
    · (intro w hSw; (try dsimp only at hSw); go_simp) <;> (with_reducible rfl)
    (try simp only [Act.put, List.setIfInBounds_toArray, List.set_cons_succ, List.set_cons_zero])
    refine wpAnyH_ready (rs := [3]) (by kernel_rfl) (by simp) ?_
    refine AllReadyH.cons (o := _) rfl (fun K' hK => ?_) AllReadyH.nil
    go_simp
    rw [← HW8.out]
    refine hK.out _ _ ?_ (fun hHeld => ?_)
    · exact SB.out
    clear hK K'
    (try simp only [Act.put, List.setIfInBounds_toArray, List.set_cons_succ, List.set_cons_zero])
    refine wpAnyH_take (i := 4) (oi := ⟨some 9, _, _, _, _, _⟩) (v := ?_) rfl (by kernel_rfl) (by kernel_rfl) (by kernel_rfl) (fun _ _ _ h => h) (Or.inl ⟨by kernel_rfl, ?_⟩) (by assumption) ?_
    rotate_left 1
    · (intro w hSw; (try dsimp only at hSw); go_simp) <;> (with_reducible rfl)
    (try simp only [Act.put, List.setIfInBounds_toArray, List.set_cons_succ, List.set_cons_zero])
    refine wpAnyH_take (i := 5) (oi := ⟨some 10, _, _, _, _, _⟩) (v := ?_) rfl (by kernel_rfl) (by kernel_rfl) (by kernel_rfl) (fun _ _ _ h => h) (Or.inl ⟨by kernel_rfl, ?_⟩) (by assumption) ?_
    rotate_left 1
    · (intro w hSw; (try dsimp only at hSw); go_simp) <;> (with_reducible rfl)
    (try simp only [Act.put, List.setIfInBounds_toArray, List.set_cons_succ, List.set_cons_zero])
    refine wpAnyH_done (by kernel_rfl) ?_ _
    refine NoPanic.normal ?_
    go_wp2
    have LQ := hide (show (D.qu ++ [(D.nxt, k, b, l)]).length = D.qu.length + 1 by simp)
    obtain ⟨vq, hvq⟩ : ∃ vq : Value, vq = .slice A4 (D.qu.length + 1) c4 := ⟨_, rfl⟩
    exact ret_d3 Try.results30 rfl rfl rfl rfl R8.out ⟨_, rfl, ⟨_, _, _, rfl, (P7.out.ob.kp KS.out (by decide) (by decide)).below (below_drew (brefl _)), (P7.out.oc.kp KS.out (by decide) (by decide)).below (below_drew (brefl _)), (P7.out.oq.kp KS.out (by decide) (by decide)).below (below_drew (brefl _))⟩, below_drew (P7.out.below.trans KS.out.below)⟩
  · rw [if_neg e1, if_neg e1]
    have hd : (sbE D k b l.length != 0) = true := by simpa using e1
    generalize sbE D k b l.length = er at *
    clear e1 hW0 hB
    generalize D.nxt = nxt at *
    generalize D.dep = dep at *
    go_enter Try.func30, Try.ntmps30
    go_wp2_with fail
    rw [← HW.out]
    refine (C1.out _ (brefl _)).mono ?_
    rintro e w1 ⟨rfl, hb⟩
    have K := hide hb
    clear hb
    have Y1 := hide (Y.out.below K.out)
    obtain ⟨r0, r1, r2, r3, r4⟩ := box5_cells (W' := w1) Y1.out
    have f0 := Y1.out.frozen 0
    have f1 := Y1.out.frozen 1
    have f2 := Y1.out.frozen 2
    have f3 := Y1.out.frozen 3
    have f4 := Y1.out.frozen 4
    go_wp2
    have KS := hide (kp_set5 (B := w.heap.size) Y1.out (Nat.le_succ _) (.int .i64 0) (.int .i64 0) (.slice none 0 0) (.slice none 0 0) (.slice none 0 0))
    exact ret_d3 Try.results30 rfl rfl rfl rfl (Y1.out.set5 _ _ _ _ _) ⟨_, rfl, DevOwn.zero _ _, (btrans K0.out K.out).trans KS.out.below⟩
end Go.Proofs.Ytncdilkcblakhaa.Dv
