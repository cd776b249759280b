import Derived.Test.YtncdilkcblakhaaDCm2
namespace Go.Proofs.Ytncdilkcblakhaa.Dv
open Go Go.RowKit
set_option linter.unusedVariables false
def zeroQ : Rq := (0, 0, 0, [])
def cmE (D : Dev) (p : Int) : Int := if chk D ≠ 0 then chk D else if p < 0 ∨ (D.qu.length : Int) ≤ p then 2 else 0
set_option maxHeartbeats 2000000 in
set_option maxRecDepth 100000 in
theorem complete_any (v : Value) (D : Dev) (p : Int) (ok : Bool) (w : World) (h : DevIn w v D) (hB : Big D) :
    Calls Try.prog 31 #[v, .int .i64 p, .bool ok] w (DqR (if cmE D p = 0 then cmD D p.toNat ok else zeroD) (if cmE D p = 0 then cmQ D p.toNat ok else zeroQ) (cmE D p) w) := by
  by_cases hk : chk D = 0
  · by_cases hp : p < 0 ∨ (D.qu.length : Int) ≤ p
    · have e : cmE D p = 2 := by unfold cmE; rw [if_neg (by simpa using hk), if_pos hp]
      rw [e]
      rw [if_neg (by decide), if_neg (by decide)]
      obtain ⟨Ab, cb, Ac, cc, Aq, cq, rfl, h1, h2, h3, rb, rc, rq⟩ := h
      obtain ⟨W0, hW0⟩ : ∃ W0, W0 = ((w.alloc (.cells #[.int .i64 D.dep, .int .i64 D.nxt, .slice Ab D.bl.length cb, .slice Ac D.ca.length cc, .slice Aq D.qu.length cq] 57)).alloc (.cells #[.int .i64 0, .int .i64 0, .slice none 0 0, .slice none 0 0, .slice none 0 0] 57)).alloc (.cells #[.int .i64 0, .int .i64 0, .int .i64 0, .slice none 0 0] 67) := ⟨_, rfl⟩
      have K0 := hide (show Below w.heap.size w W0 by rw [hW0]; exact bal (bal (bal (brefl w) _) _) _)
      have X := hide (show Box W0 w.heap.size 57 #[.int .i64 D.dep, .int .i64 D.nxt, .slice Ab D.bl.length cb, .slice Ac D.ca.length cc, .slice Aq D.qu.length cq] by rw [hW0]; exact ((Box.new w 57 _).more _).more _)
      have Y := hide (show Box W0 (w.heap.size + 1) 57 #[.int .i64 0, .int .i64 0, .slice none 0 0, .slice none 0 0, .slice none 0 0] by rw [hW0]; exact (Box.new2 _ _ _ _).more _)
      have Z := hide (show Box W0 (w.heap.size + 2) 67 #[.int .i64 0, .int .i64 0, .int .i64 0, .slice none 0 0] by rw [hW0]; exact Box.new3 _ _ _ _ _)
      have IN := hide (show DevIn w (.agg #[.int .i64 D.dep, .int .i64 D.nxt, .slice Ab D.bl.length cb, .slice Ac D.ca.length cc, .slice Aq D.qu.length cq]) D from ⟨Ab, cb, Ac, cc, Aq, cq, rfl, h1, h2, h3, rb, rc, rq⟩)
      have C1 := hide (check_any _ D W0 (IN.out.below K0.out) hB)
      rw [hk] at C1
      have hlq := (sm_ok hk).qu
      have HW := hide hW0
      clear rb rc rq hW0 hk e hB
      generalize D.nxt = nxt at *
      generalize D.dep = dep at *
      have ways : p < 0 ∨ (¬ p < 0 ∧ (D.qu.length : Int) ≤ p) := by omega
      clear hp
      rcases ways with hp | ⟨hp0, hp⟩
      all_goals
        go_enter Try.func31, Try.ntmps31
        go_wp2_with fail
        rw [← HW.out]
        refine C1.out.mono ?_
        rintro e w1 ⟨rfl, hb⟩
        have K := hide hb
        clear hb
        obtain ⟨x0, x1, x2, x3, x4⟩ := box5_cells (W' := w1) (X.out.below K.out)
        have Y1 := hide (Y.out.below K.out)
        have Z1 := hide (Z.out.below K.out)
        obtain ⟨r0, r1, r2, r3, r4⟩ := box5_cells (W' := w1) Y1.out
        have f0 := Y1.out.frozen 0
        have f1 := Y1.out.frozen 1
        have f2 := Y1.out.frozen 2
        have f3 := Y1.out.frozen 3
        have f4 := Y1.out.frozen 4
        obtain ⟨q0, q1, q2, q3⟩ := box4_cells Z1.out
        have g0 := Z1.out.frozen 0
        have g1 := Z1.out.frozen 1
        have g2 := Z1.out.frozen 2
        have g3 := Z1.out.frozen 3
        go_wp2
        have KS := hide (kp_set5 (B := w.heap.size) Y1.out (Nat.le_succ _) (.int .i64 0) (.int .i64 0) (.slice none 0 0) (.slice none 0 0) (.slice none 0 0))
        have KT := hide (KpB.set5 w1 (w.heap.size + 1) (.int .i64 0) (.int .i64 0) (.slice none 0 0) (.slice none 0 0) (.slice none 0 0))
        have ZA := hide (Z1.out.kb KT.out (show w.heap.size + 2 ≠ w.heap.size + 1 by omega))
        have YA := hide (Y1.out.set5 (.int .i64 0) (.int .i64 0) (.slice none 0 0) (.slice none 0 0) (.slice none 0 0))
        have KA := hide ((btrans K0.out K.out).trans KS.out.below)
        obtain ⟨w2, hw2⟩ : ∃ w2, w2 = (((((w1.setCell ⟨w.heap.size + 1, 0, none⟩ (.int .i64 0)).setCell ⟨w.heap.size + 1, 1, none⟩ (.int .i64 0)).setCell ⟨w.heap.size + 1, 2, none⟩ (.slice none 0 0)).setCell ⟨w.heap.size + 1, 3, none⟩ (.slice none 0 0)).setCell ⟨w.heap.size + 1, 4, none⟩ (.slice none 0 0)) := ⟨_, rfl⟩
        rw [← hw2] at ZA YA KA ⊢
        clear hw2 KS KT
        exact ret_dq Try.results31 rfl rfl rfl rfl (YA.out.kb (KpB.set4 w2 (w.heap.size + 2) (.int .i64 0) (.int .i64 0) (.int .i64 0) (.slice none 0 0)) (show w.heap.size + 1 ≠ w.heap.size + 2 by omega)) (ZA.out.set4 (.int .i64 0) (.int .i64 0) (.int .i64 0) (.slice none 0 0)) ⟨_, _, rfl, DevOwn.zero _ _, OwnBy.nil _, below_set4 KA.out (show w.heap.size ≤ w.heap.size + 2 by omega)⟩
    · have e : cmE D p = 0 := by unfold cmE; rw [if_neg (by simpa using hk), if_neg hp]
      rw [if_pos e, if_pos e, e]
      obtain ⟨n, rfl⟩ := Int.eq_ofNat_of_zero_le (by omega : 0 ≤ p)
      exact complete_ok v D n ok w h hB hk (by omega)
  · have e : cmE D p = chk D := by unfold cmE; rw [if_pos hk]
    rw [e, if_neg hk, if_neg hk]
    obtain ⟨Ab, cb, Ac, cc, Aq, cq, rfl, h1, h2, h3, rb, rc, rq⟩ := h
    obtain ⟨W0, hW0⟩ : ∃ W0, W0 = ((w.alloc (.cells #[.int .i64 D.dep, .int .i64 D.nxt, .slice Ab D.bl.length cb, .slice Ac D.ca.length cc, .slice Aq D.qu.length cq] 57)).alloc (.cells #[.int .i64 0, .int .i64 0, .slice none 0 0, .slice none 0 0, .slice none 0 0] 57)).alloc (.cells #[.int .i64 0, .int .i64 0, .int .i64 0, .slice none 0 0] 67) := ⟨_, rfl⟩
    have K0 := hide (show Below w.heap.size w W0 by rw [hW0]; exact bal (bal (bal (brefl w) _) _) _)
    have Y := hide (show Box W0 (w.heap.size + 1) 57 #[.int .i64 0, .int .i64 0, .slice none 0 0, .slice none 0 0, .slice none 0 0] by rw [hW0]; exact (Box.new2 _ _ _ _).more _)
    have Z := hide (show Box W0 (w.heap.size + 2) 67 #[.int .i64 0, .int .i64 0, .int .i64 0, .slice none 0 0] by rw [hW0]; exact Box.new3 _ _ _ _ _)
    have IN := hide (show DevIn w (.agg #[.int .i64 D.dep, .int .i64 D.nxt, .slice Ab D.bl.length cb, .slice Ac D.ca.length cc, .slice Aq D.qu.length cq]) D from ⟨Ab, cb, Ac, cc, Aq, cq, rfl, h1, h2, h3, rb, rc, rq⟩)
    have C1 := hide (check_any _ D W0 (IN.out.below K0.out) hB)
    have hd : (chk D != 0) = true := by simpa using hk
    have HW := hide hW0
    clear rb rc rq hW0 hk e hB IN
    generalize chk D = er at *
    generalize D.nxt = nxt at *
    generalize D.dep = dep at *
    go_enter Try.func31, Try.ntmps31
    go_wp2_with fail
    rw [← HW.out]
    refine C1.out.mono ?_
    rintro e w1 ⟨rfl, hb⟩
    have K := hide hb
    clear hb
    have Y1 := hide (Y.out.below K.out)
    have Z1 := hide (Z.out.below K.out)
    obtain ⟨r0, r1, r2, r3, r4⟩ := box5_cells (W' := w1) Y1.out
    have f0 := Y1.out.frozen 0
    have f1 := Y1.out.frozen 1
    have f2 := Y1.out.frozen 2
    have f3 := Y1.out.frozen 3
    have f4 := Y1.out.frozen 4
    obtain ⟨q0, q1, q2, q3⟩ := box4_cells Z1.out
    have g0 := Z1.out.frozen 0
    have g1 := Z1.out.frozen 1
    have g2 := Z1.out.frozen 2
    have g3 := Z1.out.frozen 3
    go_wp2
    have KS := hide (kp_set5 (B := w.heap.size) Y1.out (Nat.le_succ _) (.int .i64 0) (.int .i64 0) (.slice none 0 0) (.slice none 0 0) (.slice none 0 0))
    have KT := hide (KpB.set5 w1 (w.heap.size + 1) (.int .i64 0) (.int .i64 0) (.slice none 0 0) (.slice none 0 0) (.slice none 0 0))
    have ZA := hide (Z1.out.kb KT.out (show w.heap.size + 2 ≠ w.heap.size + 1 by omega))
    have YA := hide (Y1.out.set5 (.int .i64 0) (.int .i64 0) (.slice none 0 0) (.slice none 0 0) (.slice none 0 0))
    have KA := hide ((btrans K0.out K.out).trans KS.out.below)
    obtain ⟨w2, hw2⟩ : ∃ w2, w2 = (((((w1.setCell ⟨w.heap.size + 1, 0, none⟩ (.int .i64 0)).setCell ⟨w.heap.size + 1, 1, none⟩ (.int .i64 0)).setCell ⟨w.heap.size + 1, 2, none⟩ (.slice none 0 0)).setCell ⟨w.heap.size + 1, 3, none⟩ (.slice none 0 0)).setCell ⟨w.heap.size + 1, 4, none⟩ (.slice none 0 0)) := ⟨_, rfl⟩
    rw [← hw2] at ZA YA KA ⊢
    clear hw2 KS KT
    exact ret_dq Try.results31 rfl rfl rfl rfl (YA.out.kb (KpB.set4 w2 (w.heap.size + 2) (.int .i64 0) (.int .i64 0) (.int .i64 0) (.slice none 0 0)) (show w.heap.size + 1 ≠ w.heap.size + 2 by omega)) (ZA.out.set4 (.int .i64 0) (.int .i64 0) (.int .i64 0) (.slice none 0 0)) ⟨_, _, rfl, DevOwn.zero _ _, OwnBy.nil _, below_set4 KA.out (show w.heap.size ≤ w.heap.size + 2 by omega)⟩
end Go.Proofs.Ytncdilkcblakhaa.Dv
