import Derived.Test.YtnegigcjeoenmaaRf1
namespace Go.Proofs.Ytnegigcjeoenmaa.Dv
open Go Go.RowKit
set_option linter.unusedVariables false
theorem nwE_no {dep : Int} {L : List By} (h : ¬ (1 ≤ dep ∧ dep ≤ 16 ∧ 1 ≤ L.length ∧ L.length ≤ 256)) : nwE dep L = 2 := by unfold nwE dbE; rw [if_neg (by simpa using h)]
theorem nwE_yes {dep : Int} {L : List By} (h : 1 ≤ dep ∧ dep ≤ 16 ∧ 1 ≤ L.length ∧ L.length ≤ 256) : nwE dep L = blE L := by unfold nwE dbE; rw [if_pos (by simpa using h)]
theorem chk_r {D : Dev} (h : ¬ (1 ≤ D.dep ∧ D.dep ≤ 16 ∧ 1 ≤ D.bl.length ∧ D.bl.length ≤ 256)) : chk D = 2 := by
  unfold chk
  by_cases c : D.nxt < 0 ∨ mx < D.nxt
  · rw [if_pos c]
  · rw [if_neg c, nwE_no h]; rfl
/-- three tests of the reference at the k-th request -/
theorem q1E_ref {n : Nat} {nx : Int} {L : List Rq} {k : Nat} (hr : rqE n (qAt L k) = 0) :
    q1E n nx L k = if (qAt L k).1 < 0 ∨ nx ≤ (qAt L k).1 ∨ (0 < k ∧ (qAt L k).1 ≤ (qAt L (k - 1)).1) then 10 else 0 := by unfold q1E; rw [if_pos hr]
theorem q1_two {z y nx : Int} {j : Nat} (h1 : ¬ z < 0) (h2 : ¬ nx ≤ z) : (if z < 0 ∨ nx ≤ z ∨ (0 < j + 1 ∧ z ≤ y) then (10 : Int) else 0) = if z ≤ y then 10 else 0 := by
  by_cases c : z ≤ y
  · rw [if_pos (by omega), if_pos c]
  · rw [if_neg (by omega), if_neg c]
set_option maxHeartbeats 8000000 in
set_option maxRecDepth 100000 in
theorem rcheck_any (v : Value) (D : Dev) (w : World) (h : DevIn w v D) (hB : Big D) :
    Calls Try.prog 17 #[v] w fun e w' => e = .returned (.int .i64 (chk D)) ∧ Below w.heap.size w w' := by
  obtain ⟨Ab, cb, Ac, cc, Aq, cq, rfl, h1, h2, h3, rb, rc, rq⟩ := h
  obtain ⟨W0, hW0⟩ : ∃ W0, W0 = w.alloc (.cells #[.int .i64 D.dep, .int .i64 D.nxt, .slice Ab D.bl.length cb, .slice Ac D.ca.length cc, .slice Aq D.qu.length cq] 28) := ⟨_, rfl⟩
  have K0 := hide (show Below w.heap.size w W0 by rw [hW0]; exact bal (brefl w) _)
  have X := hide (show Box W0 w.heap.size 28 #[.int .i64 D.dep, .int .i64 D.nxt, .slice Ab D.bl.length cb, .slice Ac D.ca.length cc, .slice Aq D.qu.length cq] by rw [hW0]; exact Box.new w 28 _)
  have RB := hide (rb.below K0.out)
  have RC := hide (rc.below K0.out)
  have RQ := hide (rq.below K0.out)
  by_cases g1 : D.dep < 1
  · have hd : decide (D.dep < 1) = true := decide_eq_true g1
    have E := hide (show chk D = 2 from chk_r (by omega))
    clear rb rc rq RB RC RQ hB g1
    generalize D.dep = dep at *
    generalize D.nxt = nxt at *
    go_enter Try.func17, Try.ntmps17
    go_wp2
    rw [← hW0]
    go_ret
    exact ⟨ret_int E.out.symm, K0.out⟩
  have hg1 : decide (D.dep < 1) = false := decide_eq_false g1
  by_cases g2 : 16 < D.dep
  · have hd : decide ((16 : Int) < D.dep) = true := decide_eq_true g2
    have E := hide (show chk D = 2 from chk_r (by omega))
    clear rb rc rq RB RC RQ hB g2 g1
    generalize D.dep = dep at *
    generalize D.nxt = nxt at *
    go_enter Try.func17, Try.ntmps17
    go_wp2
    rw [← hW0]
    go_ret
    exact ⟨ret_int E.out.symm, K0.out⟩
  have hg2 : decide ((16 : Int) < D.dep) = false := decide_eq_false g2
  by_cases g3 : D.nxt < 0
  · have hd : decide (D.nxt < 0) = true := decide_eq_true g3
    have E := hide (show chk D = 2 from chk_n (.inl g3))
    clear rb rc rq RB RC RQ hB g1 g2 g3
    generalize D.dep = dep at *
    generalize D.nxt = nxt at *
    go_enter Try.func17, Try.ntmps17
    go_wp2
    rw [← hW0]
    go_ret
    exact ⟨ret_int E.out.symm, K0.out⟩
  have hg3 : decide (D.nxt < 0) = false := decide_eq_false g3
  by_cases g4 : (1099511627776 : Int) < D.nxt
  · have hd : decide ((1099511627776 : Int) < D.nxt) = true := decide_eq_true g4
    have E := hide (show chk D = 2 from chk_n (.inr g4))
    clear rb rc rq RB RC RQ hB g1 g2 g3 g4
    generalize D.dep = dep at *
    generalize D.nxt = nxt at *
    go_enter Try.func17, Try.ntmps17
    go_wp2
    rw [← hW0]
    go_ret
    exact ⟨ret_int E.out.symm, K0.out⟩
  have hg4 : decide ((1099511627776 : Int) < D.nxt) = false := decide_eq_false g4
  by_cases g5 : (D.bl.length : Int) < 1
  · have hd : decide ((D.bl.length : Int) < 1) = true := decide_eq_true g5
    have E := hide (show chk D = 2 from chk_r (by omega))
    clear rb rc rq RB RC RQ hB g1 g2 g3 g4
    generalize D.dep = dep at *
    generalize D.nxt = nxt at *
    go_enter Try.func17, Try.ntmps17
    go_wp2
    rw [← hW0]
    go_ret
    exact ⟨ret_int E.out.symm, K0.out⟩
  have hg5 : decide ((D.bl.length : Int) < 1) = false := decide_eq_false g5
  by_cases g6 : (256 : Int) < (D.bl.length : Int)
  · have hd : decide ((256 : Int) < (D.bl.length : Int)) = true := decide_eq_true g6
    have E := hide (show chk D = 2 from chk_r (by omega))
    clear rb rc rq RB RC RQ hB g1 g2 g3 g4
    generalize D.dep = dep at *
    generalize D.nxt = nxt at *
    go_enter Try.func17, Try.ntmps17
    go_wp2
    rw [← hW0]
    go_ret
    exact ⟨ret_int E.out.symm, K0.out⟩
  have hg6 : decide ((256 : Int) < (D.bl.length : Int)) = false := decide_eq_false g6
  have G := hide (show ¬ (D.nxt < 0 ∨ mx < D.nxt) from fun h => h.elim g3 g4)
  have GN := hide (show nwE D.dep D.bl = blE D.bl from nwE_yes (by omega))
  have C1 := hide (fun W (hb : Below W0.heap.size W0 W) => rbl_any Ab D.bl cb W (RB.out.below hb) hB.bl)
  have C2 := hide (fun W (hb : Below W0.heap.size W0 W) => rca_any Ac D.ca cc D.bl.length W (RC.out.below hb) hB.ca)
  have hnq := hB.qu
  have HW := hide hW0
  clear rb rc rq RB RC g1 g2 g3 g4 g5 g6 hB hW0
  by_cases e1 : blE D.bl = 0
  · have E1 := hide (GN.out.trans e1)
    rw [e1] at C1
    by_cases e2 : caE D.bl.length D.ca = 0
    · have E := hide (chk_q G.out E1.out e2)
      rw [e2] at C2
      generalize hqu : D.qu = L at *
      generalize hnb : D.bl.length = nb at *
      clear e1 e2 E1 G GN hqu hnb
      generalize D.dep = dep at *
      generalize D.nxt = nxt at *
      go_enter Try.func17, Try.ntmps17
      go_wp2_with fail
      rw [← HW.out]
      refine (C1.out _ (brefl _)).mono ?_
      rintro e w1 ⟨rfl, rfl⟩
      have K := hide (brefl W0)
      have x0 := (X.out.below K.out).cell 0
      have x1 := (X.out.below K.out).cell 1
      have x2 := (X.out.below K.out).cell 2
      have x3 := (X.out.below K.out).cell 3
      have x4 := (X.out.below K.out).cell 4
      simp at x0 x1 x2 x3 x4
      go_wp2_with fail
      refine (C2.out _ (brefl _)).mono ?_
      rintro e w1 ⟨rfl, hb⟩
      replace K := hide hb
      clear hb x0 x1 x2 x3 x4
      have x0 := (X.out.below K.out).cell 0
      have x1 := (X.out.below K.out).cell 1
      have x2 := (X.out.below K.out).cell 2
      have x3 := (X.out.below K.out).cell 3
      have x4 := (X.out.below K.out).cell 4
      simp at x0 x1 x2 x3 x4
      by_cases hf : dep < (L.length : Int)
      · rw [if_pos hf] at E
        go_wp2
        go_ret
        exact ⟨ret_int E.out.symm, btrans K0.out K.out⟩
      rw [if_neg hf] at E
      have hd0 : decide (dep < (L.length : Int)) = false := decide_eq_false hf
      go_wp2
      clear x0 x1 x2 x3 x4 hd0
      go_loopw [5, 6, 7] (fun i _ _ wr => ∃ k : Nat, k ≤ L.length ∧ i = .int .i64 k ∧ Hid (∀ j, j < k → q1E nb nxt L j = 0) ∧ Hid (Below W0.heap.size W0 wr)) (fun i _ _ _ => L.length - (intOf i).toNat)
      case atStart => exact ⟨0, Nat.zero_le _, rfl, hide fun j hj => absurd hj (Nat.not_lt_zero _), K⟩
      case round =>
        obtain ⟨k, hk, rfl, HA, K⟩ := hrel
        have x0 := (X.out.below K.out).cell 0
        have x1 := (X.out.below K.out).cell 1
        have x2 := (X.out.below K.out).cell 2
        have x3 := (X.out.below K.out).cell 3
        have x4 := (X.out.below K.out).cell 4
        simp at x0 x1 x2 x3 x4
        by_cases hlt : k < L.length
        · obtain ⟨b, off, v, rfl, hbl, c0, c1, c2, c3, A1, d1, rfl, _, _⟩ := RQ.out.cells K.out hlt
          have N1 := hide (fun h => quE_at hlt HA.out h)
          have NG := hide (show q1E nb nxt L k = 0 → ∀ j, j < k + 1 → q1E nb nxt L j = 0 from fun h j hj => by
            by_cases e : j = k
            · rw [e]; exact h
            · exact HA.out j (by omega))
          have QB := hide (fun h => q1E_ref (n := nb) (nx := nxt) (L := L) (k := k) h)
          have QR := hide (show rqE nb (qAt L k) ≠ 0 → q1E nb nxt L k = rqE nb (qAt L k) from fun h => by unfold q1E; rw [if_neg h])
          have RR := hide (show rqE nb (qAt L k) = reqE nb (qAt L k).2.1 (qAt L k).2.2.1 (qAt L k).2.2.2.length from rfl)
          obtain ⟨⟨z0, z1, z2, z3⟩, hz⟩ : ∃ q, q = qAt L k := ⟨_, rfl⟩
          rw [← hz] at c0 c1 c2 c3 QB QR RR
          simp only at c0 c1 c2 c3
          have YB := hide (Box.new wr 39 #[.int .i64 z0, .int .i64 z1, .int .i64 z2, .slice A1 z3.length d1])
          have KA := hide (bal K.out (.cells #[.int .i64 z0, .int .i64 z1, .int .i64 z2, .slice A1 z3.length d1] 39))
          have hlw := Nat.lt_of_lt_of_le X.out.lt K.out.size
          obtain ⟨er, her⟩ : ∃ er, er = reqE nb z1 z2 z3.length := ⟨_, rfl⟩
          have C := hide (fun w => rreq_any z1 z2 z3.length nb w)
          rw [← her] at C
          have HER := hide her
          clear hz her
          by_cases he : er = 0
          · subst he
            have R0 := hide (show rqE nb (z0, z1, z2, z3) = 0 by rw [RR.out]; exact HER.out.symm)
            have QQ := hide (QB.out R0.out)
            clear QB QR RR HER R0
            generalize z3.length = lz at *
            go_wp2_with (go_at_call 43; refine (C.out _).mono ?_; rintro e w1 ⟨rfl, rfl⟩)
            by_cases d1 : z0 < 0
            · have E2 := hide (E.out.trans (show quE nb nxt L = 10 by rw [N1.out (by rw [QQ.out, if_pos (.inl d1)]; decide), QQ.out, if_pos (.inl d1)]))
              have hd : decide (z0 < 0) = true := decide_eq_true d1
              clear N1 NG QQ E
              go_quiet (fail)
              go_wp2
              go_ret
              exact ⟨ret_int E2.out.symm, btrans K0.out (below_drewN KA.out _)⟩
            have hd1 : decide (z0 < 0) = false := decide_eq_false d1
            by_cases d2 : nxt ≤ z0
            · have E2 := hide (E.out.trans (show quE nb nxt L = 10 by rw [N1.out (by rw [QQ.out, if_pos (.inr (.inl d2))]; decide), QQ.out, if_pos (.inr (.inl d2))]))
              have hd : decide (nxt ≤ z0) = true := decide_eq_true d2
              clear N1 NG QQ E
              go_quiet (fail)
              go_wp2
              go_ret
              exact ⟨ret_int E2.out.symm, btrans K0.out (below_drewN KA.out _)⟩
            have hd2 : decide (nxt ≤ z0) = false := decide_eq_false d2
            rcases k with _ | j
            · have E2 := hide (NG.out (by rw [QQ.out, if_neg (by omega)]))
              clear N1 NG QQ
              go_quiet (fail)
              go_wp2
              go_roundw
              case rel => exact ⟨1, by omega, by go_num, E2, hide (below_drewN KA.out _)⟩
              case measure => simp [intOf]; omega
            · obtain ⟨b', off', v', e', _, p0, _⟩ := RQ.out.cells K.out (show j < L.length by omega)
              injection e' with e'
              injection e' with e1 e2
              subst e1 e2
              have hpb : b < wr.heap.size := Nat.lt_of_lt_of_le hbl K.out.size
              obtain ⟨y, hy⟩ : ∃ y, y = (qAt L j).1 := ⟨_, rfl⟩
              have O2 := hide (show q1E nb nxt L (j + 1) = if z0 ≤ y then 10 else 0 by rw [QQ.out, hy]; exact q1_two d1 d2)
              rw [← hy] at p0
              have hj1 : (0 : Int) ≤ (j : Int) := by omega
              have hjl : j < L.length := by omega
              have hwj : IntKind.i64.wrap (j : Int) = j := IntWalk.i64_in _ (by omega)
              clear hy QQ
              by_cases hzy : z0 ≤ y
              · have E2 := hide (E.out.trans (show quE nb nxt L = 10 by rw [N1.out (by rw [O2.out, if_pos hzy]; decide), O2.out, if_pos hzy]))
                have hd : decide (z0 ≤ y) = true := decide_eq_true hzy
                clear N1 NG O2 E
                go_quiet (fail)
                go_wp2
                go_ret
                exact ⟨ret_int E2.out.symm, btrans K0.out (below_drewN KA.out _)⟩
              · have E2 := hide (NG.out (by rw [O2.out, if_neg hzy]))
                have hd : decide (z0 ≤ y) = false := decide_eq_false hzy
                clear N1 NG O2
                go_quiet (fail)
                go_wp2
                go_roundw
                case rel => exact ⟨j + 2, by omega, by go_num, E2, hide (below_drewN KA.out _)⟩
                case measure => simp [intOf]; omega
          · have E2 := hide (E.out.trans (show quE nb nxt L = er by
              have e1 : q1E nb nxt L k = er := (QR.out (by rw [RR.out]; rw [HER.out] at he; exact he)).trans (RR.out.trans HER.out.symm)
              rw [N1.out (by rw [e1]; exact he), e1]))
            have hd : (er != 0) = true := by simpa using he
            clear N1 NG QB QR RR HER he E
            generalize z3.length = lz at *
            go_wp2_with (go_at_call 43; refine (C.out _).mono ?_; rintro e w1 ⟨rfl, rfl⟩)
            go_ret
            exact ⟨ret_int E2.out.symm, btrans K0.out KA.out⟩
        · have E2 := hide (E.out.trans (quE_ok (n := nb) (nx := nxt) (L := L) fun j hj => HA.out j (by omega)))
          go_wp2
          go_ret
          exact ⟨ret_int E2.out.symm, btrans K0.out K.out⟩
    · have E := hide (chk_c G.out E1.out e2)
      have hd : (caE D.bl.length D.ca != 0) = true := by simpa using e2
      generalize caE D.bl.length D.ca = er at *
      clear e1 e2 E1 G GN
      generalize D.dep = dep at *
      generalize D.nxt = nxt at *
      go_enter Try.func17, Try.ntmps17
      go_wp2_with fail
      rw [← HW.out]
      refine (C1.out _ (brefl _)).mono ?_
      rintro e w1 ⟨rfl, rfl⟩
      have K := hide (brefl W0)
      have x0 := (X.out.below K.out).cell 0
      have x1 := (X.out.below K.out).cell 1
      have x2 := (X.out.below K.out).cell 2
      have x3 := (X.out.below K.out).cell 3
      have x4 := (X.out.below K.out).cell 4
      simp at x0 x1 x2 x3 x4
      go_wp2_with fail
      refine (C2.out _ (brefl _)).mono ?_
      rintro e w1 ⟨rfl, hb⟩
      replace K := hide hb
      clear hb x0 x1 x2 x3 x4
      go_wp2
      go_ret
      exact ⟨ret_int E.out.symm, btrans K0.out K.out⟩
  · have E := hide ((chk_b G.out (by rw [GN.out]; exact e1)).trans GN.out)
    have hd : (blE D.bl != 0) = true := by simpa using e1
    generalize blE D.bl = er at *
    clear e1 G GN
    generalize D.dep = dep at *
    generalize D.nxt = nxt at *
    go_enter Try.func17, Try.ntmps17
    go_wp2_with fail
    rw [← HW.out]
    refine (C1.out _ (brefl _)).mono ?_
    rintro e w1 ⟨rfl, rfl⟩
    have K := hide (brefl W0)
    have x0 := (X.out.below K.out).cell 0
    have x1 := (X.out.below K.out).cell 1
    have x2 := (X.out.below K.out).cell 2
    have x3 := (X.out.below K.out).cell 3
    have x4 := (X.out.below K.out).cell 4
    simp at x0 x1 x2 x3 x4
    go_wp2
    go_ret
    exact ⟨ret_int E.out.symm, btrans K0.out K.out⟩
end Go.Proofs.Ytnegigcjeoenmaa.Dv
