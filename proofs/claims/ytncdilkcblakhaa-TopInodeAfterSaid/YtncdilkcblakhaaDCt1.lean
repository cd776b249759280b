import Derived.Test.YtncdilkcblakhaaDBs1
namespace Go.Proofs.Ytncdilkcblakhaa.Dv
open Go Go.RowKit
set_option linter.unusedVariables false
theorem keys_ok {D : Dev} (h : chk D = 0) : ∀ i, i < D.ca.length → 0 ≤ (cAt D.ca i).1 ∧ (cAt D.ca i).1 < D.bl.length ∧ (0 < i → (cAt D.ca (i - 1)).1 < (cAt D.ca i).1) := by
  obtain ⟨h1, h2, h3, h4, h5⟩ := chk_zero h
  have hc1 : coE D.bl.length D.ca = 0 := by
    by_cases c : coE D.bl.length D.ca = 0
    · exact c
    · unfold caE at h3; rw [if_neg c] at h3; exact absurd h3 c
  have ho := firstBad_zero hc1
  intro i hi
  have := ho i hi
  by_cases c : inB D.bl.length (cAt D.ca i).1 = false ∨ (0 < i ∧ (cAt D.ca i).1 ≤ (cAt D.ca (i - 1)).1)
  · rw [if_pos c] at this; exact absurd this (by decide)
  · have hb : inB D.bl.length (cAt D.ca i).1 = true := by
      cases e : inB D.bl.length (cAt D.ca i).1
      · exact absurd (.inl e) c
      · rfl
    unfold inB at hb
    simp only [decide_eq_true_eq] at hb
    exact ⟨hb.1, hb.2, fun h0 => by omega⟩
theorem asc_ok {D : Dev} (h : chk D = 0) : Asc D.ca := by
  have hk := keys_ok h
  intro s t hst ht
  induction t with
  | zero => omega
  | succ t ih =>
    have b := (hk (t + 1) ht).2.2 (by omega)
    simp only [Nat.add_sub_cancel] at b
    by_cases e : s = t
    · subst e; exact b
    · have a := ih (by omega) (by omega); omega
/-- the content of a block -/
def contD (D : Dev) (b : Int) : By := if hitP D.ca b then (cAt D.ca (caP D.ca b)).2 else bAt D.bl b.toNat
def duD (D : Dev) (b : Int) : By := if chk D = 0 ∧ inB D.bl.length b = true then bAt D.bl b.toNat else []
theorem hitP_lt {L : List Ca} {b : Int} (h : hitP L b = true) : caP L b < L.length := by unfold hitP at h; exact (of_decide_eq_true h).1
/-- bytes that can be read -/
def ByI (l : By) (w : World) (e : Ending) (w' : World) : Prop := ∃ u, e = .returned u ∧ IsBs w' u l ∧ Below w.heap.size w w'
set_option maxHeartbeats 2000000 in
theorem content_any (v : Value) (D : Dev) (b : Int) (w : World) (h : DevIn w v D) (hn : D.ca.length ≤ 1000) (hbl : D.bl.length ≤ 1000) (ha : Asc D.ca) (hb : inB D.bl.length b = true) : Calls Try.prog 60 #[v, .int .i64 b] w (ByI (contD D b) w) := by
  obtain ⟨Ab, cb, Ac, cc, Aq, cq, rfl, h1, h2, h3, rb, rc, rq⟩ := h
  obtain ⟨W0, hW0⟩ : ∃ W0, W0 = w.alloc (.cells #[.int .i64 D.dep, .int .i64 D.nxt, .slice Ab D.bl.length cb, .slice Ac D.ca.length cc, .slice Aq D.qu.length cq] 57) := ⟨_, rfl⟩
  have K0 := hide (show Below w.heap.size w W0 by rw [hW0]; exact bal (brefl w) _)
  have X := hide (show Box W0 w.heap.size 57 #[.int .i64 D.dep, .int .i64 D.nxt, .slice Ab D.bl.length cb, .slice Ac D.ca.length cc, .slice Aq D.qu.length cq] by rw [hW0]; exact Box.new w 57 _)
  have RB := hide (rb.below K0.out)
  have RC := hide (rc.below K0.out)
  have C := hide (find_any D.dep D.nxt (.slice Ab D.bl.length cb) (.slice Aq D.qu.length cq) Ac D.ca cc b W0 RC.out hn ha)
  have HW := hide hW0
  unfold inB at hb
  simp only [decide_eq_true_eq] at hb
  clear rb rc rq hW0 ha
  cases hh : hitP D.ca b with
  | true =>
    have E := hide (show contD D b = (cAt D.ca (caP D.ca b)).2 by unfold contD; rw [hh]; rfl)
    have hp := hitP_lt hh
    rw [hh] at C
    clear hh
    generalize caP D.ca b = p at *
    generalize D.dep = dep at *
    generalize D.nxt = nxt at *
    go_enter Try.func60, Try.ntmps60
    go_wp2_with fail
    rw [← HW.out]
    refine C.out.mono ?_
    rintro e w1 ⟨rfl, hb1⟩
    have K := hide hb1
    clear hb1
    obtain ⟨bb, off, u, rfl, hlt, c0, c1, hu⟩ := RC.out.cells K.out hp
    have HU := hide hu
    obtain ⟨A1, d1, rfl⟩ := hu.form
    have x3 := (X.out.below K.out).cell 3
    simp at x3
    clear c0 hu
    go_wp2
    go_ret
    exact ⟨_, rfl, by rw [E.out]; exact HU.out, btrans K0.out K.out⟩
  | false =>
    have E := hide (show contD D b = bAt D.bl b.toNat by unfold contD; rw [hh]; rfl)
    rw [hh] at C
    clear hh
    obtain ⟨n, rfl⟩ := Int.eq_ofNat_of_zero_le hb.1
    have hp : n < D.bl.length := by omega
    rw [show ((n : Int)).toNat = n from rfl] at E
    generalize caP D.ca (n : Int) = p at *
    generalize D.dep = dep at *
    generalize D.nxt = nxt at *
    clear hb
    go_enter Try.func60, Try.ntmps60
    go_wp2_with fail
    rw [← HW.out]
    refine C.out.mono ?_
    rintro e w1 ⟨rfl, hb1⟩
    have K := hide hb1
    clear hb1
    obtain ⟨bb, off, u, rfl, hlt, c0, hu⟩ := RB.out.cells K.out hp
    have HU := hide hu
    obtain ⟨A1, d1, rfl⟩ := hu.form
    have x2 := (X.out.below K.out).cell 2
    simp at x2
    clear hu
    go_wp2
    go_ret
    exact ⟨_, rfl, by rw [E.out]; exact HU.out, btrans K0.out K.out⟩
theorem contD_len {D : Dev} {b : Int} (h : chk D = 0) (hb : inB D.bl.length b = true) : (contD D b).length ≤ 1000 := by
  have S := sm_ok h
  unfold contD
  unfold inB at hb
  simp only [decide_eq_true_eq] at hb
  cases hh : hitP D.ca b
  · exact S.bb _ (bAt_mem (by omega))
  · exact S.cb _ (cAt_mem (hitP_lt hh))
set_option maxHeartbeats 2000000 in
theorem durable_any (v : Value) (D : Dev) (b : Int) (w : World) (h : DevIn w v D) (hB : Big D) : Calls Try.prog 33 #[v, .int .i64 b] w (ByR (duD D b) w) := by
  obtain ⟨Ab, cb, Ac, cc, Aq, cq, rfl, h1, h2, h3, rb, rc, rq⟩ := h
  obtain ⟨W0, hW0⟩ : ∃ W0, W0 = w.alloc (.cells #[.int .i64 D.dep, .int .i64 D.nxt, .slice Ab D.bl.length cb, .slice Ac D.ca.length cc, .slice Aq D.qu.length cq] 57) := ⟨_, rfl⟩
  have K0 := hide (show Below w.heap.size w W0 by rw [hW0]; exact bal (brefl w) _)
  have X := hide (show Box W0 w.heap.size 57 #[.int .i64 D.dep, .int .i64 D.nxt, .slice Ab D.bl.length cb, .slice Ac D.ca.length cc, .slice Aq D.qu.length cq] by rw [hW0]; exact Box.new w 57 _)
  have IN := hide (show DevIn w (.agg #[.int .i64 D.dep, .int .i64 D.nxt, .slice Ab D.bl.length cb, .slice Ac D.ca.length cc, .slice Aq D.qu.length cq]) D from ⟨Ab, cb, Ac, cc, Aq, cq, rfl, h1, h2, h3, rb, rc, rq⟩)
  have IN0 := hide (IN.out.below K0.out)
  have RB := hide (rb.below K0.out)
  have C1 := hide (check_any _ D W0 IN0.out hB)
  have IB := hide (fun W => isb_any D.dep D.nxt Ab D.bl.length cb (.slice Ac D.ca.length cc) (.slice Aq D.qu.length cq) b W)
  have HW := hide hW0
  clear rb rc rq hW0
  by_cases e1 : chk D = 0
  · have E1 := hide e1
    rw [e1] at C1
    cases e2 : inB D.bl.length b with
    | true =>
      rw [e2] at IB
      have E := hide (show duD D b = bAt D.bl b.toNat by unfold duD; rw [if_pos ⟨e1, e2⟩])
      rw [E.out]
      unfold inB at e2
      simp only [decide_eq_true_eq] at e2
      obtain ⟨n, rfl⟩ := Int.eq_ofNat_of_zero_le e2.1
      have hp : n < D.bl.length := by omega
      rw [show ((n : Int)).toNat = n from rfl]
      have HL := hide ((sm_ok e1).bb _ (bAt_mem hp))
      have hlb := (sm_ok e1).bl
      clear e1 e2 E
      generalize D.dep = dep at *
      generalize D.nxt = nxt at *
      go_enter Try.func33, Try.ntmps33
      go_wp2_with fail
      rw [← HW.out]
      refine C1.out.mono ?_
      rintro e w1 ⟨rfl, hb1⟩
      have K := hide hb1
      clear hb1
      obtain ⟨x0, x1, x2, x3, x4⟩ := box5_cells (W' := w1) (X.out.below K.out)
      go_wp2_with fail
      refine (IB.out _).mono ?_
      rintro e w2 ⟨rfl, hb1⟩
      have K2 := hide (btrans K.out hb1)
      clear hb1 x0 x1 x2 x3 x4
      obtain ⟨x0, x1, x2, x3, x4⟩ := box5_cells (W' := w2) (X.out.below K2.out)
      obtain ⟨bb, off, u, rfl, hlt, c0, hu⟩ := RB.out.cells K2.out hp
      have CL := hide (clone_any u _ w2 hu HL.out)
      unfold ByR at CL
      obtain ⟨A1, d1, rfl⟩ := hu.form
      clear hu
      go_wp2_with fail
      refine CL.out.mono ?_
      rintro e w4 ⟨u4, rfl, ho, hb1⟩
      have HO := hide ho
      have K4 := hide (btrans K2.out hb1)
      obtain ⟨A4, d4, rfl⟩ := ho.form
      clear hb1 ho
      go_wp2
      go_ret
      exact ⟨_, rfl, HO.out, btrans K0.out K4.out⟩
    | false =>
      have E := hide (show duD D b = [] by unfold duD; rw [if_neg (by rw [e2]; simp)])
      rw [E.out]
      rw [e2] at IB
      clear e1 e2 E
      generalize D.dep = dep at *
      generalize D.nxt = nxt at *
      go_enter Try.func33, Try.ntmps33
      go_wp2_with fail
      rw [← HW.out]
      refine C1.out.mono ?_
      rintro e w1 ⟨rfl, hb1⟩
      have K := hide hb1
      clear hb1
      obtain ⟨x0, x1, x2, x3, x4⟩ := box5_cells (W' := w1) (X.out.below K.out)
      go_wp2_with fail
      refine (IB.out _).mono ?_
      rintro e w2 ⟨rfl, hb1⟩
      have K2 := hide (btrans K.out hb1)
      clear hb1 x0 x1 x2 x3 x4
      obtain ⟨x0, x1, x2, x3, x4⟩ := box5_cells (W' := w2) (X.out.below K2.out)
      go_wp2
      go_ret
      exact ⟨_, rfl, OwnBy.nil _, btrans K0.out K2.out⟩
  · have E := hide (show duD D b = [] by unfold duD; rw [if_neg (fun h => e1 h.1)])
    rw [E.out]
    have hd : (chk D != 0) = true := by simpa using e1
    generalize chk D = er at *
    clear e1 E IN0 IN IB
    generalize D.dep = dep at *
    generalize D.nxt = nxt at *
    go_enter Try.func33, Try.ntmps33
    go_wp2_with fail
    rw [← HW.out]
    refine C1.out.mono ?_
    rintro e w1 ⟨rfl, hb1⟩
    have K := hide hb1
    clear hb1
    go_wp2
    go_ret
    exact ⟨_, rfl, OwnBy.nil _, btrans K0.out K.out⟩
end Go.Proofs.Ytncdilkcblakhaa.Dv
