import Derived.Test.YtkcopcmoaloecaaT3
namespace Go.Proofs.Ytkcopcmoaloecaa.Fp
open Go Go.RowKit
set_option linter.unusedVariables false
set_option linter.unusedSimpArgs false
set_option maxRecDepth 100000 in
set_option maxHeartbeats 16000000 in
theorem form_any : FB 18 fmB := by
  intro wr rg pr sh fi be bu en wb tr ow on ca ba di fu mi w
  have K := hide (bal (brefl w) (.cells #[.bool wr, .bool rg, .int .i64 pr, .bool sh, .bool fi, .bool be, .bool bu, .int .i64 en, .bool wb, .bool tr, .bool ow, .bool on, .bool ca, .bool ba, .bool di, .bool fu, .int .i64 mi] 23))
  have X := hide (CB.new w wr rg pr sh fi be bu en wb tr ow on ca ba di fu mi)
  obtain ⟨q, hq⟩ : ∃ q, q = pgB ⟨wr, rg, pr, sh, fi, be, bu, en, wb, tr, ow, on, ca, ba, di, fu, mi⟩ := ⟨_, rfl⟩
  obtain ⟨r, hr⟩ : ∃ q, q = cwB ⟨wr, rg, pr, sh, fi, be, bu, en, wb, tr, ow, on, ca, ba, di, fu, mi⟩ := ⟨_, rfl⟩
  have CP := fun w => pg_any wr rg pr sh fi be bu en wb tr ow on ca ba di fu mi w
  have CW := fun w => cw_any wr rg pr sh fi be bu en wb tr ow on ca ba di fu mi w
  rw [← hq] at CP
  rw [← hr] at CW
  obtain ⟨b1, hb1⟩ : ∃ b, b = (!fi && (((((sh || be) || bu) || ba) || di) || fu)) := ⟨_, rfl⟩
  obtain ⟨b3, hb3⟩ : ∃ b, b = (decide (0 < mi) && (en != 0)) := ⟨_, rfl⟩
  obtain ⟨b5, hb5⟩ : ∃ b, b = (sh && ow) := ⟨_, rfl⟩
  obtain ⟨b6, hb6⟩ : ∃ b, b = (on && !ow) := ⟨_, rfl⟩
  obtain ⟨b8, hb8⟩ : ∃ b, b = (wb && ((!q || !r) || (!on && !((sh && di))))) := ⟨_, rfl⟩
  obtain ⟨b10, hb10⟩ : ∃ b, b = (if en = 0 then (((!ow && !on) && (fi || !ca)) && (ca || !tr)) else if en = 2 then (ow && (ca || !tr)) else if en = 3 then ((!ca && (fi || ow)) && tr) else (!ca && (fi || ow))) := ⟨_, rfl⟩
  have e0 : fmB ⟨wr, rg, pr, sh, fi, be, bu, en, wb, tr, ow, on, ca, ba, di, fu, mi⟩ = (!b1 && !b3 && !b5 && !b6 && !b8 && b10) := by rw [hb1, hb3, hb5, hb6, hb8, hb10, hq, hr]; unfold fmB; dsimp only
  rw [e0]
  clear e0 hq hr
  have Hb1 := hide hb1
  clear hb1
  have Hb3 := hide hb3
  clear hb3
  have Hb5 := hide hb5
  clear hb5
  have Hb6 := hide hb6
  clear hb6
  have Hb8 := hide hb8
  clear hb8
  have Hb10 := hide hb10
  clear hb10
  replace CP := hide CP
  replace CW := hide CW
  go_enter Try.func18, Try.ntmps18
  go_upto_region 1 with fail
  obtain ⟨W0, hW0⟩ : ∃ W0, W0 = w.alloc (.cells #[.bool wr, .bool rg, .int .i64 pr, .bool sh, .bool fi, .bool be, .bool bu, .int .i64 en, .bool wb, .bool tr, .bool ow, .bool on, .bool ca, .bool ba, .bool di, .bool fu, .int .i64 mi] 23) := ⟨_, rfl⟩
  rw [← hW0] at X K
  obtain ⟨g2, hg2⟩ : ∃ g2, g2 = w.heap.size := ⟨_, rfl⟩
  rw [← hg2] at X
  rw [← hW0, ← hg2]
  clear hW0 hg2
  obtain ⟨x0, x1, x2, x3, x4, x5, x6, x7, x8, x9, x10, x11, x12, x13, x14, x15, x16⟩ := X.out.cells
  go_upto_region 1 with fail
  go_cut [3] (fun v wx => v = .bool b1 ∧ Hid (Below w.heap.size w wx) ∧ Hid (CB wx g2 ⟨wr, rg, pr, sh, fi, be, bu, en, wb, tr, ow, on, ca, ba, di, fu, mi⟩))
  case first =>
    cases fi
    · cases sh
      · cases be
        · cases bu
          · cases ba
            · cases di
              · cases fu
                · go_wp2
                  go_meet
                  exact ⟨by rw [Hb1.out]; first | rfl | (simp [*]; done) | (simp; omega), K, X⟩
                · go_wp2
                  go_meet
                  exact ⟨by rw [Hb1.out]; first | rfl | (simp [*]; done) | (simp; omega), K, X⟩
              · go_wp2
                go_meet
                exact ⟨by rw [Hb1.out]; first | rfl | (simp [*]; done) | (simp; omega), K, X⟩
            · go_wp2
              go_meet
              exact ⟨by rw [Hb1.out]; first | rfl | (simp [*]; done) | (simp; omega), K, X⟩
          · go_wp2
            go_meet
            exact ⟨by rw [Hb1.out]; first | rfl | (simp [*]; done) | (simp; omega), K, X⟩
        · go_wp2
          go_meet
          exact ⟨by rw [Hb1.out]; first | rfl | (simp [*]; done) | (simp; omega), K, X⟩
      · go_wp2
        go_meet
        exact ⟨by rw [Hb1.out]; first | rfl | (simp [*]; done) | (simp; omega), K, X⟩
    · go_wp2
      go_meet
      exact ⟨by rw [Hb1.out]; first | rfl | (simp [*]; done) | (simp; omega), K, X⟩
  case rest =>
  obtain ⟨rfl, K, X⟩ := hcut
  try clear x0 x1 x2 x3 x4 x5 x6 x7 x8 x9 x10 x11 x12 x13 x14 x15 x16
  obtain ⟨x0, x1, x2, x3, x4, x5, x6, x7, x8, x9, x10, x11, x12, x13, x14, x15, x16⟩ := X.out.cells
  cases b1
  rotate_left 1
  · go_wp2
    go_ret
    exact ⟨ret_bool (by simp), K.out⟩
  go_upto_region 3 with fail
  go_cut [31] (fun v wx => v = .bool b3 ∧ Hid (Below w.heap.size w wx) ∧ Hid (CB wx g2 ⟨wr, rg, pr, sh, fi, be, bu, en, wb, tr, ow, on, ca, ba, di, fu, mi⟩))
  case first =>
    by_cases hp2 : 0 < mi
    · by_cases hp3 : en = 0
      · go_wp2
        go_meet
        exact ⟨by rw [Hb3.out]; first | rfl | (simp [*]; done) | (simp; omega), K, X⟩
      · go_wp2
        go_meet
        exact ⟨by rw [Hb3.out]; first | rfl | (simp [*]; done) | (simp; omega), K, X⟩
    · go_wp2
      go_meet
      exact ⟨by rw [Hb3.out]; first | rfl | (simp [*]; done) | (simp; omega), K, X⟩
  case rest =>
  obtain ⟨rfl, K, X⟩ := hcut
  try clear x0 x1 x2 x3 x4 x5 x6 x7 x8 x9 x10 x11 x12 x13 x14 x15 x16
  obtain ⟨x0, x1, x2, x3, x4, x5, x6, x7, x8, x9, x10, x11, x12, x13, x14, x15, x16⟩ := X.out.cells
  cases b3
  rotate_left 1
  · go_wp2
    go_ret
    exact ⟨ret_bool (by simp), K.out⟩
  go_upto_region 5 with fail
  go_cut [40] (fun v wx => v = .bool b5 ∧ Hid (Below w.heap.size w wx) ∧ Hid (CB wx g2 ⟨wr, rg, pr, sh, fi, be, bu, en, wb, tr, ow, on, ca, ba, di, fu, mi⟩))
  case first =>
    cases sh
    · go_wp2
      go_meet
      exact ⟨by rw [Hb5.out]; first | rfl | (simp [*]; done) | (simp; omega), K, X⟩
    · cases ow
      · go_wp2
        go_meet
        exact ⟨by rw [Hb5.out]; first | rfl | (simp [*]; done) | (simp; omega), K, X⟩
      · go_wp2
        go_meet
        exact ⟨by rw [Hb5.out]; first | rfl | (simp [*]; done) | (simp; omega), K, X⟩
  case rest =>
  obtain ⟨rfl, K, X⟩ := hcut
  try clear x0 x1 x2 x3 x4 x5 x6 x7 x8 x9 x10 x11 x12 x13 x14 x15 x16
  obtain ⟨x0, x1, x2, x3, x4, x5, x6, x7, x8, x9, x10, x11, x12, x13, x14, x15, x16⟩ := X.out.cells
  cases b5
  rotate_left 1
  · go_wp2
    go_ret
    exact ⟨ret_bool (by simp), K.out⟩
  go_upto_region 6 with fail
  go_cut [40] (fun v wx => v = .bool b6 ∧ Hid (Below w.heap.size w wx) ∧ Hid (CB wx g2 ⟨wr, rg, pr, sh, fi, be, bu, en, wb, tr, ow, on, ca, ba, di, fu, mi⟩))
  case first =>
    cases on
    · go_wp2
      go_meet
      exact ⟨by rw [Hb6.out]; first | rfl | (simp [*]; done) | (simp; omega), K, X⟩
    · cases ow
      · go_wp2
        go_meet
        exact ⟨by rw [Hb6.out]; first | rfl | (simp [*]; done) | (simp; omega), K, X⟩
      · go_wp2
        go_meet
        exact ⟨by rw [Hb6.out]; first | rfl | (simp [*]; done) | (simp; omega), K, X⟩
  case rest =>
  obtain ⟨rfl, K, X⟩ := hcut
  try clear x0 x1 x2 x3 x4 x5 x6 x7 x8 x9 x10 x11 x12 x13 x14 x15 x16
  obtain ⟨x0, x1, x2, x3, x4, x5, x6, x7, x8, x9, x10, x11, x12, x13, x14, x15, x16⟩ := X.out.cells
  cases b6
  rotate_left 1
  · go_wp2
    go_ret
    exact ⟨ret_bool (by simp), K.out⟩
  go_upto_region 8 with fail
  go_cut [54] (fun v wx => v = .bool b8 ∧ Hid (Below w.heap.size w wx) ∧ Hid (CB wx g2 ⟨wr, rg, pr, sh, fi, be, bu, en, wb, tr, ow, on, ca, ba, di, fu, mi⟩))
  case first =>
    cases wb
    · go_wp2
      go_meet
      exact ⟨by rw [Hb8.out]; first | rfl | (simp [*]; done) | (simp; omega), K, X⟩
    · go_wp2_with (refine load_g (by kernel_rfl) 23 _ rfl g2 rfl 23 _ (0, 0) _ X.out Try.underlying23 rfl (by kernel_rfl) ?_)
      refine (CP.out _).mono ?_
      rintro e w11 ⟨rfl, hb⟩
      replace K := hide (btrans K.out hb)
      replace X := hide (X.out.below hb)
      clear hb
      try clear x0 x1 x2 x3 x4 x5 x6 x7 x8 x9 x10 x11 x12 x13 x14 x15 x16
      obtain ⟨x0, x1, x2, x3, x4, x5, x6, x7, x8, x9, x10, x11, x12, x13, x14, x15, x16⟩ := X.out.cells
      cases q
      · go_wp2
        go_meet
        exact ⟨by rw [Hb8.out]; first | rfl | (simp [*]; done) | (simp; omega), K, X⟩
      · go_wp2_with (refine load_g (by kernel_rfl) 23 _ rfl g2 rfl 23 _ (0, 0) _ X.out Try.underlying23 rfl (by kernel_rfl) ?_)
        refine (CW.out _).mono ?_
        rintro e w12 ⟨rfl, hb⟩
        replace K := hide (btrans K.out hb)
        replace X := hide (X.out.below hb)
        clear hb
        try clear x0 x1 x2 x3 x4 x5 x6 x7 x8 x9 x10 x11 x12 x13 x14 x15 x16
        obtain ⟨x0, x1, x2, x3, x4, x5, x6, x7, x8, x9, x10, x11, x12, x13, x14, x15, x16⟩ := X.out.cells
        cases r
        · go_wp2
          go_meet
          exact ⟨by rw [Hb8.out]; first | rfl | (simp [*]; done) | (simp; omega), K, X⟩
        · cases on
          · cases sh
            · go_wp2
              go_meet
              exact ⟨by rw [Hb8.out]; first | rfl | (simp [*]; done) | (simp; omega), K, X⟩
            · cases di
              · go_wp2
                go_meet
                exact ⟨by rw [Hb8.out]; first | rfl | (simp [*]; done) | (simp; omega), K, X⟩
              · go_wp2
                go_meet
                exact ⟨by rw [Hb8.out]; first | rfl | (simp [*]; done) | (simp; omega), K, X⟩
          · go_wp2
            go_meet
            exact ⟨by rw [Hb8.out]; first | rfl | (simp [*]; done) | (simp; omega), K, X⟩
  case rest =>
  obtain ⟨rfl, K, X⟩ := hcut
  try clear x0 x1 x2 x3 x4 x5 x6 x7 x8 x9 x10 x11 x12 x13 x14 x15 x16
  obtain ⟨x0, x1, x2, x3, x4, x5, x6, x7, x8, x9, x10, x11, x12, x13, x14, x15, x16⟩ := X.out.cells
  cases b8
  rotate_left 1
  · go_wp2
    go_ret
    exact ⟨ret_bool (by simp), K.out⟩
  by_cases en0 : en = 0
  · subst en0
    cases ow
    · cases on
      · cases fi
        · cases ca
          · cases tr
            · go_wp2
              go_ret
              exact ⟨ret_bool (by rw [Hb10.out]; simp [*]), K.out⟩
            · go_wp2
              go_ret
              exact ⟨ret_bool (by rw [Hb10.out]; simp [*]), K.out⟩
          · go_wp2
            go_ret
            exact ⟨ret_bool (by rw [Hb10.out]; simp [*]), K.out⟩
        · cases ca
          · cases tr
            · go_wp2
              go_ret
              exact ⟨ret_bool (by rw [Hb10.out]; simp [*]), K.out⟩
            · go_wp2
              go_ret
              exact ⟨ret_bool (by rw [Hb10.out]; simp [*]), K.out⟩
          · go_wp2
            go_ret
            exact ⟨ret_bool (by rw [Hb10.out]; simp [*]), K.out⟩
      · go_wp2
        go_ret
        exact ⟨ret_bool (by rw [Hb10.out]; simp [*]), K.out⟩
    · go_wp2
      go_ret
      exact ⟨ret_bool (by rw [Hb10.out]; simp [*]), K.out⟩
  by_cases en2 : en = 2
  · subst en2
    cases ow
    · go_wp2
      go_ret
      exact ⟨ret_bool (by rw [Hb10.out]; simp [*]), K.out⟩
    · cases ca
      · cases tr
        · go_wp2
          go_ret
          exact ⟨ret_bool (by rw [Hb10.out]; simp [*]), K.out⟩
        · go_wp2
          go_ret
          exact ⟨ret_bool (by rw [Hb10.out]; simp [*]), K.out⟩
      · go_wp2
        go_ret
        exact ⟨ret_bool (by rw [Hb10.out]; simp [*]), K.out⟩
  by_cases en3 : en = 3
  · subst en3
    cases ca
    · cases fi
      · cases ow
        · go_wp2
          go_ret
          exact ⟨ret_bool (by rw [Hb10.out]; simp [*]), K.out⟩
        · cases tr
          · go_wp2
            go_ret
            exact ⟨ret_bool (by rw [Hb10.out]; simp [*]), K.out⟩
          · go_wp2
            go_ret
            exact ⟨ret_bool (by rw [Hb10.out]; simp [*]), K.out⟩
      · cases tr
        · go_wp2
          go_ret
          exact ⟨ret_bool (by rw [Hb10.out]; simp [*]), K.out⟩
        · go_wp2
          go_ret
          exact ⟨ret_bool (by rw [Hb10.out]; simp [*]), K.out⟩
    · go_wp2
      go_ret
      exact ⟨ret_bool (by rw [Hb10.out]; simp [*]), K.out⟩
  cases ca
  · cases fi
    · cases ow
      · go_wp2
        go_ret
        exact ⟨ret_bool (by rw [Hb10.out]; simp [*]), K.out⟩
      · go_wp2
        go_ret
        exact ⟨ret_bool (by rw [Hb10.out]; simp [*]), K.out⟩
    · go_wp2
      go_ret
      exact ⟨ret_bool (by rw [Hb10.out]; simp [*]), K.out⟩
  · go_wp2
    go_ret
    exact ⟨ret_bool (by rw [Hb10.out]; simp [*]), K.out⟩
end Go.Proofs.Ytkcopcmoaloecaa.Fp
