import Derived.Test.YtacehgcgkpolhaaLaws
namespace Go.Proofs.Ytacehgcgkpolhaa.Pt
open Go Go.RowKit
set_option linter.unusedVariables false
theorem dec_word {k n : Int} {wr ac di hu : Bool} (h : err k n wr ac di hu = 0) (w : World) : Calls Try.prog 15 #[.int .u64 (word0 k n wr ac di hu)] w fun en w' => en = .returned (.tuple #[.agg #[.int .i64 k, .int .i64 n, .bool wr, .bool ac, .bool di, .bool hu], .int .i64 0]) ∧ Below w.heap.size w w' := by
  obtain ⟨a, b, _⟩ := word_bd h
  have c := dec_good (word0 k n wr ac di hu) w a (by omega) (good_word h)
  obtain ⟨h1, h2, h3, h4, h5, h6⟩ := unword h
  rw [h1, h2, h3, h4, h5, h6] at c
  exact c
set_option maxHeartbeats 1000000 in
theorem inv_yy (k n : Int) (wr ac di hu : Bool) (W : Int) (w : World) (h0 : 0 ≤ W) (h1 : W < 18446744073709551616) (ha : err k n wr ac di hu = 0) (hg : good W = true) :
    Calls Try.prog 8 #[.agg #[.int .i64 k, .int .i64 n, .bool wr, .bool ac, .bool di, .bool hu], .int .u64 W] w (True1 w) := by
  have X := hide (Ent.new w k n wr ac di hu)
  have HA := hide ha
  have HG := hide hg
  obtain ⟨v, hv⟩ : ∃ v, v = word0 k n wr ac di hu := ⟨_, rfl⟩
  have D := hide (fun w => dec_word ha w)
  have E := hide (fun w => enc_ok ha (enc_any k n wr ac di hu w))
  rw [← hv] at D E
  clear hv ha hg
  go_enter Try.func8, Try.ntmps8
  go_wp2_with fail
  refine (E.out _).mono ?_
  rintro en w1 ⟨rfl, hb1⟩
  replace X := hide (X.out.below hb1)
  have K := hide (btrans (bal (brefl w) _) hb1)
  clear hb1
  go_wp2_with fail
  refine (D.out _).mono ?_
  rintro en w2 ⟨rfl, hb1⟩
  replace X := hide (X.out.below hb1)
  replace K := hide (btrans K.out hb1)
  clear hb1
  have L := hide (Ent.lt X.out)
  have y := L.out
  obtain ⟨x0, x1, x2, x3, x4, x5⟩ := Ent.cells X.out
  go_wp2_with fail
  refine (dec_good W _ h0 h1 HG.out).mono ?_
  rintro en w3 ⟨rfl, hb1⟩
  replace K := hide (btrans (bal K.out _) hb1)
  clear hb1 x0 x1 x2 x3 x4 x5
  go_wp2_with fail
  refine (enc_good W _ 12 HG.out (enc_any _ _ _ _ _ _ _)).mono ?_
  rintro en w4 ⟨rfl, hb1⟩
  replace K := hide (btrans (bal K.out _) hb1)
  clear hb1
  go_wp2_with fail
  refine (awake _).mono ?_
  rintro en w5 ⟨rfl, hb1⟩
  replace K := hide (btrans K.out hb1)
  clear hb1
  go_wp2_with fail
  go_ret
  exact ⟨rfl, K.out⟩
set_option maxHeartbeats 1000000 in
theorem inv_yn (k n : Int) (wr ac di hu : Bool) (W : Int) (w : World) (h0 : 0 ≤ W) (h1 : W < 18446744073709551616) (ha : err k n wr ac di hu = 0) (hg : good W = false) :
    Calls Try.prog 8 #[.agg #[.int .i64 k, .int .i64 n, .bool wr, .bool ac, .bool di, .bool hu], .int .u64 W] w (True1 w) := by
  have X := hide (Ent.new w k n wr ac di hu)
  have HA := hide ha
  have HG := hide hg
  obtain ⟨v, hv⟩ : ∃ v, v = word0 k n wr ac di hu := ⟨_, rfl⟩
  have D := hide (fun w => dec_word ha w)
  have E := hide (fun w => enc_ok ha (enc_any k n wr ac di hu w))
  rw [← hv] at D E
  clear hv ha hg
  go_enter Try.func8, Try.ntmps8
  go_wp2_with fail
  refine (E.out _).mono ?_
  rintro en w1 ⟨rfl, hb1⟩
  replace X := hide (X.out.below hb1)
  have K := hide (btrans (bal (brefl w) _) hb1)
  clear hb1
  go_wp2_with fail
  refine (D.out _).mono ?_
  rintro en w2 ⟨rfl, hb1⟩
  replace X := hide (X.out.below hb1)
  replace K := hide (btrans K.out hb1)
  clear hb1
  have L := hide (Ent.lt X.out)
  have y := L.out
  obtain ⟨x0, x1, x2, x3, x4, x5⟩ := Ent.cells X.out
  go_wp2_with fail
  refine (dec_bad W _ h0 h1 HG.out).mono ?_
  rintro en w3 ⟨rfl, hb1⟩
  replace K := hide (btrans (bal K.out _) hb1)
  clear hb1 x0 x1 x2 x3 x4 x5
  go_wp2_with fail
  refine (awake _).mono ?_
  rintro en w5 ⟨rfl, hb1⟩
  replace K := hide (btrans (bal K.out _) hb1)
  clear hb1
  go_wp2_with fail
  go_ret
  exact ⟨rfl, K.out⟩
set_option maxHeartbeats 1000000 in
theorem inv_ny (k n : Int) (wr ac di hu : Bool) (W : Int) (w : World) (h0 : 0 ≤ W) (h1 : W < 18446744073709551616) (ha : err k n wr ac di hu ≠ 0) (hg : good W = true) :
    Calls Try.prog 8 #[.agg #[.int .i64 k, .int .i64 n, .bool wr, .bool ac, .bool di, .bool hu], .int .u64 W] w (True1 w) := by
  have X := hide (Ent.new w k n wr ac di hu)
  have HA := hide ha
  have HG := hide hg
  obtain ⟨v, hv⟩ : ∃ v, v = word k n wr ac di hu := ⟨_, rfl⟩
  obtain ⟨x, hx⟩ : ∃ x, x = err k n wr ac di hu := ⟨_, rfl⟩
  have E := hide (enc_two k n wr ac di hu)
  rw [← hv, ← hx] at E
  have hne : (x == 0) = false := by simpa [hx] using ha
  clear hv hx ha hg
  go_enter Try.func8, Try.ntmps8
  go_wp2_with fail
  refine (E.out _).mono ?_
  rintro en w1 ⟨rfl, hb1⟩
  replace X := hide (X.out.below hb1)
  have K := hide (btrans (bal (brefl w) _) hb1)
  clear hb1
  go_wp2_with fail
  refine (dec_good W _ h0 h1 HG.out).mono ?_
  rintro en w3 ⟨rfl, hb1⟩
  replace K := hide (btrans K.out hb1)
  clear hb1
  go_wp2_with fail
  refine (enc_good W _ 12 HG.out (enc_any _ _ _ _ _ _ _)).mono ?_
  rintro en w4 ⟨rfl, hb1⟩
  replace K := hide (btrans (bal K.out _) hb1)
  clear hb1
  go_wp2_with fail
  refine (awake _).mono ?_
  rintro en w5 ⟨rfl, hb1⟩
  replace K := hide (btrans K.out hb1)
  clear hb1
  go_wp2_with fail
  go_ret
  exact ⟨rfl, K.out⟩
set_option maxHeartbeats 1000000 in
theorem inv_nn (k n : Int) (wr ac di hu : Bool) (W : Int) (w : World) (h0 : 0 ≤ W) (h1 : W < 18446744073709551616) (ha : err k n wr ac di hu ≠ 0) (hg : good W = false) :
    Calls Try.prog 8 #[.agg #[.int .i64 k, .int .i64 n, .bool wr, .bool ac, .bool di, .bool hu], .int .u64 W] w (True1 w) := by
  have X := hide (Ent.new w k n wr ac di hu)
  have HA := hide ha
  have HG := hide hg
  obtain ⟨v, hv⟩ : ∃ v, v = word k n wr ac di hu := ⟨_, rfl⟩
  obtain ⟨x, hx⟩ : ∃ x, x = err k n wr ac di hu := ⟨_, rfl⟩
  have E := hide (enc_two k n wr ac di hu)
  rw [← hv, ← hx] at E
  have hne : (x == 0) = false := by simpa [hx] using ha
  clear hv hx ha hg
  go_enter Try.func8, Try.ntmps8
  go_wp2_with fail
  refine (E.out _).mono ?_
  rintro en w1 ⟨rfl, hb1⟩
  replace X := hide (X.out.below hb1)
  have K := hide (btrans (bal (brefl w) _) hb1)
  clear hb1
  go_wp2_with fail
  refine (dec_bad W _ h0 h1 HG.out).mono ?_
  rintro en w3 ⟨rfl, hb1⟩
  replace K := hide (btrans K.out hb1)
  clear hb1
  go_wp2_with fail
  refine (awake _).mono ?_
  rintro en w5 ⟨rfl, hb1⟩
  replace K := hide (btrans (bal K.out _) hb1)
  clear hb1
  go_wp2_with fail
  go_ret
  exact ⟨rfl, K.out⟩
theorem law_inverse (k n : Int) (wr ac di hu : Bool) (W : Int) (w : World) (h0 : 0 ≤ W) (h1 : W < 18446744073709551616) :
    Calls Try.prog 8 #[.agg #[.int .i64 k, .int .i64 n, .bool wr, .bool ac, .bool di, .bool hu], .int .u64 W] w (True1 w) := by
  by_cases ha : err k n wr ac di hu = 0
  · cases hg : good W
    · exact inv_yn k n wr ac di hu W w h0 h1 ha hg
    · exact inv_yy k n wr ac di hu W w h0 h1 ha hg
  · cases hg : good W
    · exact inv_nn k n wr ac di hu W w h0 h1 ha hg
    · exact inv_ny k n wr ac di hu W w h0 h1 ha hg
theorem dist_eq {k n k' n' : Int} {wr ac di hu wr' ac' di' hu' : Bool} (h : err k n wr ac di hu = 0) (h' : err k' n' wr' ac' di' hu' = 0) :
    (word0 k n wr ac di hu == word0 k' n' wr' ac' di' hu') = ((k == k') && (n == n') && (wr == wr') && (ac == ac') && (di == di') && (hu == hu')) := by
  rw [Bool.eq_iff_iff]
  constructor
  · intro e
    obtain ⟨rfl, rfl, rfl, rfl, rfl, rfl⟩ := word_inj h h' (by simpa using e)
    simp
  · intro e
    simp at e
    obtain ⟨⟨⟨⟨⟨rfl, rfl⟩, rfl⟩, rfl⟩, rfl⟩, rfl⟩ := e
    simp
set_option maxHeartbeats 2000000 in
theorem dist_no (k n k' n' : Int) (wr ac di hu wr' ac' di' hu' : Bool) (w : World) (h : ((err k n wr ac di hu != 0) || (err k' n' wr' ac' di' hu' != 0)) = true) :
    Calls Try.prog 9 #[.agg #[.int .i64 k, .int .i64 n, .bool wr, .bool ac, .bool di, .bool hu], .agg #[.int .i64 k', .int .i64 n', .bool wr', .bool ac', .bool di', .bool hu']] w (True1 w) := by
  have X := hide (Ent.below (Ent.new w k n wr ac di hu) (bal (brefl _) (.cells #[.int .i64 k', .int .i64 n', .bool wr', .bool ac', .bool di', .bool hu'] 23)))
  have Y := hide (Ent.new (w.alloc (.cells #[.int .i64 k, .int .i64 n, .bool wr, .bool ac, .bool di, .bool hu] 23)) k' n' wr' ac' di' hu')
  rw [show (w.alloc (.cells #[.int .i64 k, .int .i64 n, .bool wr, .bool ac, .bool di, .bool hu] 23)).heap.size = w.heap.size + 1 by simp] at Y
  obtain ⟨v, hv⟩ : ∃ v, v = word k n wr ac di hu := ⟨_, rfl⟩
  obtain ⟨v', hv'⟩ : ∃ v', v' = word k' n' wr' ac' di' hu' := ⟨_, rfl⟩
  obtain ⟨x, hx⟩ : ∃ x, x = err k n wr ac di hu := ⟨_, rfl⟩
  obtain ⟨x', hx'⟩ : ∃ x', x' = err k' n' wr' ac' di' hu' := ⟨_, rfl⟩
  have E := hide (enc_two k n wr ac di hu)
  have E' := hide (enc_two k' n' wr' ac' di' hu')
  rw [← hv, ← hx] at E
  rw [← hv', ← hx'] at E'
  rw [← hx, ← hx'] at h
  clear hv hv' hx hx'
  go_enter Try.func9, Try.ntmps9
  go_wp2_with fail
  refine (E.out _).mono ?_
  rintro en w1 ⟨rfl, hb1⟩
  replace X := hide (X.out.below hb1)
  replace Y := hide (Y.out.below hb1)
  have K := hide (btrans (bal (bal (brefl w) _) _) hb1)
  clear hb1
  obtain ⟨y0, y1, y2, y3, y4, y5⟩ := Ent.cells Y.out
  go_wp2_with fail
  refine (E'.out _).mono ?_
  rintro en w2 ⟨rfl, hb1⟩
  replace X := hide (X.out.below hb1)
  replace Y := hide (Y.out.below hb1)
  replace K := hide (btrans K.out hb1)
  clear hb1 y0 y1 y2 y3 y4 y5
  obtain ⟨y0, y1, y2, y3, y4, y5⟩ := Ent.cells Y.out
  obtain ⟨x0, x1, x2, x3, x4, x5⟩ := Ent.cells X.out
  cases hc : (x != 0)
  · have hd : (x' != 0) = true := by rw [hc] at h; simpa using h
    clear h
    go_wp2_with fail
    refine (awake _).mono ?_
    rintro en w5 ⟨rfl, hb1⟩
    replace K := hide (btrans K.out hb1)
    clear hb1
    go_wp2_with fail
    go_ret
    exact ⟨rfl, K.out⟩
  · clear h
    go_wp2_with fail
    refine (awake _).mono ?_
    rintro en w5 ⟨rfl, hb1⟩
    replace K := hide (btrans K.out hb1)
    clear hb1
    go_wp2_with fail
    go_ret
    exact ⟨rfl, K.out⟩
set_option maxHeartbeats 2000000 in
theorem dist_yes (k n k' n' : Int) (wr ac di hu wr' ac' di' hu' : Bool) (w : World) (h : err k n wr ac di hu = 0) (h' : err k' n' wr' ac' di' hu' = 0) :
    Calls Try.prog 9 #[.agg #[.int .i64 k, .int .i64 n, .bool wr, .bool ac, .bool di, .bool hu], .agg #[.int .i64 k', .int .i64 n', .bool wr', .bool ac', .bool di', .bool hu']] w (True1 w) := by
  have X := hide (Ent.below (Ent.new w k n wr ac di hu) (bal (brefl _) (.cells #[.int .i64 k', .int .i64 n', .bool wr', .bool ac', .bool di', .bool hu'] 23)))
  have Y := hide (Ent.new (w.alloc (.cells #[.int .i64 k, .int .i64 n, .bool wr, .bool ac, .bool di, .bool hu] 23)) k' n' wr' ac' di' hu')
  rw [show (w.alloc (.cells #[.int .i64 k, .int .i64 n, .bool wr, .bool ac, .bool di, .bool hu] 23)).heap.size = w.heap.size + 1 by simp] at Y
  obtain ⟨v, hv⟩ : ∃ v, v = word0 k n wr ac di hu := ⟨_, rfl⟩
  obtain ⟨v', hv'⟩ : ∃ v', v' = word0 k' n' wr' ac' di' hu' := ⟨_, rfl⟩
  have E := hide (fun w => enc_ok h (enc_any k n wr ac di hu w))
  have E' := hide (fun w => enc_ok h' (enc_any k' n' wr' ac' di' hu' w))
  have D := hide (dist_eq h h')
  rw [← hv] at E D
  rw [← hv'] at E' D
  clear hv hv' h h'
  go_enter Try.func9, Try.ntmps9
  go_wp2_with fail
  refine (E.out _).mono ?_
  rintro en w1 ⟨rfl, hb1⟩
  replace X := hide (X.out.below hb1)
  replace Y := hide (Y.out.below hb1)
  have K := hide (btrans (bal (bal (brefl w) _) _) hb1)
  clear hb1
  obtain ⟨y0, y1, y2, y3, y4, y5⟩ := Ent.cells Y.out
  go_wp2_with fail
  refine (E'.out _).mono ?_
  rintro en w2 ⟨rfl, hb1⟩
  replace X := hide (X.out.below hb1)
  replace Y := hide (Y.out.below hb1)
  replace K := hide (btrans K.out hb1)
  clear hb1 y0 y1 y2 y3 y4 y5
  obtain ⟨y0, y1, y2, y3, y4, y5⟩ := Ent.cells Y.out
  obtain ⟨x0, x1, x2, x3, x4, x5⟩ := Ent.cells X.out
  by_cases hq : k = k' ∧ n = n' ∧ wr = wr' ∧ ac = ac' ∧ di = di' ∧ hu = hu'
  · obtain ⟨rfl, rfl, rfl, rfl, rfl, rfl⟩ := hq
    have dv : (v == v') = true := by rw [D.out]; simp
    go_wp2_with fail
    refine (awake _).mono ?_
    rintro en w5 ⟨rfl, hb1⟩
    replace K := hide (btrans K.out hb1)
    clear hb1
    go_wp2_with fail
    go_ret
    exact ⟨rfl, K.out⟩
  · have dv : (v == v') = false := by
      rw [D.out]
      cases hz : ((k == k') && (n == n') && (wr == wr') && (ac == ac') && (di == di') && (hu == hu'))
      · rfl
      · exfalso
        simp at hz
        obtain ⟨⟨⟨⟨⟨h1, h2⟩, h3⟩, h4⟩, h5⟩, h6⟩ := hz
        exact hq ⟨h1, h2, h3, h4, h5, h6⟩
    have HQ := hide hq
    clear hq
    go_wp2_with fail
    all_goals first
      | (exfalso; exact HQ.out ⟨by assumption, by assumption, by assumption, by assumption, by assumption, by assumption⟩)
      | (refine (awake _).mono ?_
         rintro en w5 ⟨rfl, hb1⟩
         replace K := hide (btrans K.out hb1)
         clear hb1
         go_wp2_with fail
         go_ret
         exact ⟨rfl, K.out⟩)
theorem law_distinct (k n k' n' : Int) (wr ac di hu wr' ac' di' hu' : Bool) (w : World) :
    Calls Try.prog 9 #[.agg #[.int .i64 k, .int .i64 n, .bool wr, .bool ac, .bool di, .bool hu], .agg #[.int .i64 k', .int .i64 n', .bool wr', .bool ac', .bool di', .bool hu']] w (True1 w) := by
  by_cases h : err k n wr ac di hu = 0
  · by_cases h' : err k' n' wr' ac' di' hu' = 0
    · exact dist_yes k n k' n' wr ac di hu wr' ac' di' hu' w h h'
    · exact dist_no k n k' n' wr ac di hu wr' ac' di' hu' w (by simp [h'])
  · exact dist_no k n k' n' wr ac di hu wr' ac' di' hu' w (by simp [h])
end Go.Proofs.Ytacehgcgkpolhaa.Pt
