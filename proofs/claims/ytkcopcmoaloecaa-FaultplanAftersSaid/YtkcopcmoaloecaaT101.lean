import Derived.Test.YtkcopcmoaloecaaT9
namespace Go.Proofs.Ytkcopcmoaloecaa.Fp
open Go Go.RowKit
set_option linter.unusedVariables false
set_option linter.unusedSimpArgs false
theorem fm_eq_1 : ∀ z y p sh ow on fi ca tr : Bool, (!z && !(p && true) && !(sh && ow) && !(on && !ow) && !y && (!ca && (fi || ow))) = (!z && !(p && !false) && !(false && ((ow || on) || (!fi && ca))) && !((true || false) && (ca || (!fi && !ow))) && !(((false && !ow) || (sh && ow)) || (on && !ow)) && !((false && !tr) || ((tr && (false || false)) && !ca)) && !y) := by decide +kernel
set_option maxRecDepth 100000 in
set_option maxHeartbeats 16000000 in
theorem rform_1 (wr rg : Bool) (pr : Int) (sh fi be bu : Bool) (wb tr ow on ca ba di fu : Bool) (mi : Int) (w : World) : Calls Try.prog 20 #[.agg #[.bool wr, .bool rg, .int .i64 pr, .bool sh, .bool fi, .bool be, .bool bu, .int .i64 1, .bool wb, .bool tr, .bool ow, .bool on, .bool ca, .bool ba, .bool di, .bool fu, .int .i64 mi]] w fun e w' => e = .returned (.bool (fmB ⟨wr, rg, pr, sh, fi, be, bu, 1, wb, tr, ow, on, ca, ba, di, fu, mi⟩)) ∧ Below w.heap.size w w' := by
  have K := hide (bal (brefl w) (.cells #[.bool wr, .bool rg, .int .i64 pr, .bool sh, .bool fi, .bool be, .bool bu, .int .i64 1, .bool wb, .bool tr, .bool ow, .bool on, .bool ca, .bool ba, .bool di, .bool fu, .int .i64 mi] 23))
  have X := hide (CB.new w wr rg pr sh fi be bu 1 wb tr ow on ca ba di fu mi)
  obtain ⟨r, hr⟩ : ∃ q, q = cwB ⟨wr, rg, pr, sh, fi, be, bu, 1, wb, tr, ow, on, ca, ba, di, fu, mi⟩ := ⟨_, rfl⟩
  have CW := fun w => rcw_any wr rg pr sh fi be bu 1 wb tr ow on ca ba di fu mi w
  rw [← hr] at CW
  obtain ⟨b2, hb2⟩ : ∃ b, b = (!fi && (((((sh || be) || bu) || ba) || di) || fu)) := ⟨_, rfl⟩
  obtain ⟨b4, hb4⟩ : ∃ b, b = (decide (0 < mi) && !false) := ⟨_, rfl⟩
  obtain ⟨b6, hb6⟩ : ∃ b, b = (false && ((ow || on) || (!fi && ca))) := ⟨_, rfl⟩
  obtain ⟨b8, hb8⟩ : ∃ b, b = ((true || false) && (ca || (!fi && !ow))) := ⟨_, rfl⟩
  obtain ⟨b10, hb10⟩ : ∃ b, b = (((false && !ow) || (sh && ow)) || (on && !ow)) := ⟨_, rfl⟩
  obtain ⟨b12, hb12⟩ : ∃ b, b = ((false && !tr) || ((tr && (false || false)) && !ca)) := ⟨_, rfl⟩
  obtain ⟨b14, hb14⟩ : ∃ b, b = (wb && ((!true || !r) || (!on && !((sh && di))))) := ⟨_, rfl⟩
  have e0 : fmB ⟨wr, rg, pr, sh, fi, be, bu, 1, wb, tr, ow, on, ca, ba, di, fu, mi⟩ = (!b2 && !b4 && !b6 && !b8 && !b10 && !b12 && !b14) := by
    rw [hb2, hb4, hb6, hb8, hb10, hb12, hb14, hr]
    exact fm_eq_1 _ _ _ sh ow on fi ca tr
  rw [e0]
  clear e0 hr
  have Hb2 := hide hb2
  clear hb2
  have Hb4 := hide hb4
  clear hb4
  have Hb6 := hide hb6
  clear hb6
  have Hb8 := hide hb8
  clear hb8
  have Hb10 := hide hb10
  clear hb10
  have Hb12 := hide hb12
  clear hb12
  have Hb14 := hide hb14
  clear hb14
  replace CW := hide CW
  go_enter Try.func20, Try.ntmps20
  go_upto_region 1 with fail
  obtain ⟨W0, hW0⟩ : ∃ W0, W0 = w.alloc (.cells #[.bool wr, .bool rg, .int .i64 pr, .bool sh, .bool fi, .bool be, .bool bu, .int .i64 1, .bool wb, .bool tr, .bool ow, .bool on, .bool ca, .bool ba, .bool di, .bool fu, .int .i64 mi] 23) := ⟨_, rfl⟩
  rw [← hW0] at X K
  obtain ⟨g2, hg2⟩ : ∃ g2, g2 = w.heap.size := ⟨_, rfl⟩
  rw [← hg2] at X
  rw [← hW0, ← hg2]
  clear hW0 hg2
  obtain ⟨x0, x1, x2, x3, x4, x5, x6, x7, x8, x9, x10, x11, x12, x13, x14, x15, x16⟩ := X.out.cells
  go_quiet (fail)
  obtain ⟨W1, hW1⟩ : ∃ W1, W1 = W0.drewN nq := ⟨_, rfl⟩
  replace K := hide (show Below w.heap.size w W1 by rw [hW1]; exact below_drewN K.out _)
  replace X := hide (show CB W1 g2 ⟨wr, rg, pr, sh, fi, be, bu, 1, wb, tr, ow, on, ca, ba, di, fu, mi⟩ by rw [hW1]; exact X.out.below (below_drewN (brefl _) _))
  rw [← hW1]
  clear hW1 x0 x1 x2 x3 x4 x5 x6 x7 x8 x9 x10 x11 x12 x13 x14 x15 x16
  obtain ⟨x0, x1, x2, x3, x4, x5, x6, x7, x8, x9, x10, x11, x12, x13, x14, x15, x16⟩ := X.out.cells
  go_upto_region 2 with fail
  go_cut [45] (fun v wx => v = .bool b2 ∧ Hid (Below w.heap.size w wx) ∧ Hid (CB wx g2 ⟨wr, rg, pr, sh, fi, be, bu, 1, wb, tr, ow, on, ca, ba, di, fu, mi⟩))
  case first => as_aux_lemma =>
    cases fi
    · cases sh
      · cases be
        · cases bu
          · cases ba
            · cases di
              · cases fu
                · go_wp2
                  go_meet
                  exact ⟨by rw [Hb2.out]; first | rfl | (simp [*]; done) | (simp; omega), K, X⟩
                · go_wp2
                  go_meet
                  exact ⟨by rw [Hb2.out]; first | rfl | (simp [*]; done) | (simp; omega), K, X⟩
              · go_wp2
                go_meet
                exact ⟨by rw [Hb2.out]; first | rfl | (simp [*]; done) | (simp; omega), K, X⟩
            · go_wp2
              go_meet
              exact ⟨by rw [Hb2.out]; first | rfl | (simp [*]; done) | (simp; omega), K, X⟩
          · go_wp2
            go_meet
            exact ⟨by rw [Hb2.out]; first | rfl | (simp [*]; done) | (simp; omega), K, X⟩
        · go_wp2
          go_meet
          exact ⟨by rw [Hb2.out]; first | rfl | (simp [*]; done) | (simp; omega), K, X⟩
      · go_wp2
        go_meet
        exact ⟨by rw [Hb2.out]; first | rfl | (simp [*]; done) | (simp; omega), K, X⟩
    · go_wp2
      go_meet
      exact ⟨by rw [Hb2.out]; first | rfl | (simp [*]; done) | (simp; omega), K, X⟩
  case rest =>
  obtain ⟨rfl, K, X⟩ := hcut
  try clear x0 x1 x2 x3 x4 x5 x6 x7 x8 x9 x10 x11 x12 x13 x14 x15 x16
  obtain ⟨x0, x1, x2, x3, x4, x5, x6, x7, x8, x9, x10, x11, x12, x13, x14, x15, x16⟩ := X.out.cells
  cases b2
  rotate_left 1
  · go_wp2
    go_ret
    exact ⟨ret_bool (by simp), K.out⟩
  go_upto_region 4 with fail
  go_cut [52] (fun v wx => v = .bool b4 ∧ Hid (Below w.heap.size w wx) ∧ Hid (CB wx g2 ⟨wr, rg, pr, sh, fi, be, bu, 1, wb, tr, ow, on, ca, ba, di, fu, mi⟩))
  case first => as_aux_lemma =>
    by_cases hp2 : 0 < mi
    · go_wp2
      go_meet
      exact ⟨by rw [Hb4.out]; first | rfl | (simp [*]; done) | (simp; omega), K, X⟩
    · go_wp2
      go_meet
      exact ⟨by rw [Hb4.out]; first | rfl | (simp [*]; done) | (simp; omega), K, X⟩
  case rest =>
  obtain ⟨rfl, K, X⟩ := hcut
  try clear x0 x1 x2 x3 x4 x5 x6 x7 x8 x9 x10 x11 x12 x13 x14 x15 x16
  obtain ⟨x0, x1, x2, x3, x4, x5, x6, x7, x8, x9, x10, x11, x12, x13, x14, x15, x16⟩ := X.out.cells
  cases b4
  rotate_left 1
  · go_wp2
    go_ret
    exact ⟨ret_bool (by simp), K.out⟩
  go_upto_region 6 with fail
  go_cut [70] (fun v wx => v = .bool b6 ∧ Hid (Below w.heap.size w wx) ∧ Hid (CB wx g2 ⟨wr, rg, pr, sh, fi, be, bu, 1, wb, tr, ow, on, ca, ba, di, fu, mi⟩))
  case first => as_aux_lemma =>
    go_wp2
    go_meet
    exact ⟨by rw [Hb6.out]; first | rfl | (simp [*]; done) | (simp; omega), K, X⟩
  case rest =>
  obtain ⟨rfl, K, X⟩ := hcut
  try clear x0 x1 x2 x3 x4 x5 x6 x7 x8 x9 x10 x11 x12 x13 x14 x15 x16
  obtain ⟨x0, x1, x2, x3, x4, x5, x6, x7, x8, x9, x10, x11, x12, x13, x14, x15, x16⟩ := X.out.cells
  cases b6
  rotate_left 1
  · go_wp2
    go_ret
    exact ⟨ret_bool (by simp), K.out⟩
  go_upto_region 8 with fail
  go_cut [88] (fun v wx => v = .bool b8 ∧ Hid (Below w.heap.size w wx) ∧ Hid (CB wx g2 ⟨wr, rg, pr, sh, fi, be, bu, 1, wb, tr, ow, on, ca, ba, di, fu, mi⟩))
  case first => as_aux_lemma =>
    cases ca
    · cases fi
      · cases ow
        · go_wp2
          go_meet
          exact ⟨by rw [Hb8.out]; first | rfl | (simp [*]; done) | (simp; omega), K, X⟩
        · go_wp2
          go_meet
          exact ⟨by rw [Hb8.out]; first | rfl | (simp [*]; done) | (simp; omega), K, X⟩
      · go_wp2
        go_meet
        exact ⟨by rw [Hb8.out]; first | rfl | (simp [*]; done) | (simp; omega), K, X⟩
    · go_wp2
      go_meet
      exact ⟨by rw [Hb8.out]; first | rfl | (simp [*]; done) | (simp; omega), K, X⟩
  case rest =>
  obtain ⟨rfl, K, X⟩ := hcut
  try clear x0 x1 x2 x3 x4 x5 x6 x7 x8 x9 x10 x11 x12 x13 x14 x15 x16
  obtain ⟨x0, x1, x2, x3, x4, x5, x6, x7, x8, x9, x10, x11, x12, x13, x14, x15, x16⟩ := X.out.cells
  cases b8
  rotate_left 1
  · go_wp2
    go_ret
    exact ⟨ret_bool (by simp), K.out⟩
  go_upto_region 10 with fail
  go_cut [111] (fun v wx => v = .bool b10 ∧ Hid (Below w.heap.size w wx) ∧ Hid (CB wx g2 ⟨wr, rg, pr, sh, fi, be, bu, 1, wb, tr, ow, on, ca, ba, di, fu, mi⟩))
  case first => as_aux_lemma =>
    cases sh
    · cases on
      · go_wp2
        go_meet
        exact ⟨by rw [Hb10.out]; first | rfl | (simp [*]; done) | (simp; omega), K, X⟩
      · cases ow
        · go_wp2
          go_meet
          exact ⟨by rw [Hb10.out]; first | rfl | (simp [*]; done) | (simp; omega), K, X⟩
        · go_wp2
          go_meet
          exact ⟨by rw [Hb10.out]; first | rfl | (simp [*]; done) | (simp; omega), K, X⟩
    · cases ow
      · cases on
        · go_wp2
          go_meet
          exact ⟨by rw [Hb10.out]; first | rfl | (simp [*]; done) | (simp; omega), K, X⟩
        · go_wp2
          go_meet
          exact ⟨by rw [Hb10.out]; first | rfl | (simp [*]; done) | (simp; omega), K, X⟩
      · go_wp2
        go_meet
        exact ⟨by rw [Hb10.out]; first | rfl | (simp [*]; done) | (simp; omega), K, X⟩
  case rest =>
  obtain ⟨rfl, K, X⟩ := hcut
  try clear x0 x1 x2 x3 x4 x5 x6 x7 x8 x9 x10 x11 x12 x13 x14 x15 x16
  obtain ⟨x0, x1, x2, x3, x4, x5, x6, x7, x8, x9, x10, x11, x12, x13, x14, x15, x16⟩ := X.out.cells
  cases b10
  rotate_left 1
  · go_wp2
    go_ret
    exact ⟨ret_bool (by simp), K.out⟩
  go_upto_region 12 with fail
  go_cut [132] (fun v wx => v = .bool b12 ∧ Hid (Below w.heap.size w wx) ∧ Hid (CB wx g2 ⟨wr, rg, pr, sh, fi, be, bu, 1, wb, tr, ow, on, ca, ba, di, fu, mi⟩))
  case first => as_aux_lemma =>
    cases tr
    · go_wp2
      go_meet
      exact ⟨by rw [Hb12.out]; first | rfl | (simp [*]; done) | (simp; omega), K, X⟩
    · go_wp2
      go_meet
      exact ⟨by rw [Hb12.out]; first | rfl | (simp [*]; done) | (simp; omega), K, X⟩
  case rest =>
  obtain ⟨rfl, K, X⟩ := hcut
  try clear x0 x1 x2 x3 x4 x5 x6 x7 x8 x9 x10 x11 x12 x13 x14 x15 x16
  obtain ⟨x0, x1, x2, x3, x4, x5, x6, x7, x8, x9, x10, x11, x12, x13, x14, x15, x16⟩ := X.out.cells
  cases b12
  rotate_left 1
  · go_wp2
    go_ret
    exact ⟨ret_bool (by simp), K.out⟩
  go_upto_region 14 with fail
  go_cut [157] (fun v wx => v = .bool b14 ∧ Hid (Below w.heap.size w wx) ∧ Hid (CB wx g2 ⟨wr, rg, pr, sh, fi, be, bu, 1, wb, tr, ow, on, ca, ba, di, fu, mi⟩))
  case first => as_aux_lemma =>
    cases wb
    · go_wp2
      go_meet
      exact ⟨by rw [Hb14.out]; first | rfl | (simp [*]; done) | (simp; omega), K, X⟩
    · go_wp2_with (refine load_g (by kernel_rfl) 23 _ rfl g2 rfl 23 _ (0, 0) _ X.out Try.underlying23 rfl (by kernel_rfl) ?_)
      refine (CW.out _).mono ?_
      rintro e w11 ⟨rfl, hb⟩
      replace K := hide (btrans K.out hb)
      replace X := hide (X.out.below hb)
      clear hb
      try clear x0 x1 x2 x3 x4 x5 x6 x7 x8 x9 x10 x11 x12 x13 x14 x15 x16
      obtain ⟨x0, x1, x2, x3, x4, x5, x6, x7, x8, x9, x10, x11, x12, x13, x14, x15, x16⟩ := X.out.cells
      cases r
      · go_wp2
        go_meet
        exact ⟨by rw [Hb14.out]; first | rfl | (simp [*]; done) | (simp; omega), K, X⟩
      · cases on
        · cases sh
          · go_wp2
            go_meet
            exact ⟨by rw [Hb14.out]; first | rfl | (simp [*]; done) | (simp; omega), K, X⟩
          · cases di
            · go_wp2
              go_meet
              exact ⟨by rw [Hb14.out]; first | rfl | (simp [*]; done) | (simp; omega), K, X⟩
            · go_wp2
              go_meet
              exact ⟨by rw [Hb14.out]; first | rfl | (simp [*]; done) | (simp; omega), K, X⟩
        · go_wp2
          go_meet
          exact ⟨by rw [Hb14.out]; first | rfl | (simp [*]; done) | (simp; omega), K, X⟩
  case rest =>
  obtain ⟨rfl, K, X⟩ := hcut
  try clear x0 x1 x2 x3 x4 x5 x6 x7 x8 x9 x10 x11 x12 x13 x14 x15 x16
  obtain ⟨x0, x1, x2, x3, x4, x5, x6, x7, x8, x9, x10, x11, x12, x13, x14, x15, x16⟩ := X.out.cells
  cases b14
  rotate_left 1
  · go_wp2
    go_ret
    exact ⟨ret_bool (by simp), K.out⟩
  go_wp2
  go_ret
  exact ⟨ret_bool (by simp), K.out⟩
end Go.Proofs.Ytkcopcmoaloecaa.Fp
