import Derived.Test.YtkcopcmoaloecaaT4
namespace Go.Proofs.Ytkcopcmoaloecaa.Fp
open Go Go.RowKit
set_option linter.unusedVariables false
set_option linter.unusedSimpArgs false
set_option maxRecDepth 100000 in
set_option maxHeartbeats 8000000 in
theorem check_any : FI 10 chk := by
  intro wr rg pr sh fi be bu en wb tr ow on ca ba di fu mi w
  have K := hide (bal (brefl w) (.cells #[.bool wr, .bool rg, .int .i64 pr, .bool sh, .bool fi, .bool be, .bool bu, .int .i64 en, .bool wb, .bool tr, .bool ow, .bool on, .bool ca, .bool ba, .bool di, .bool fu, .int .i64 mi] 23))
  have X := hide (CB.new w wr rg pr sh fi be bu en wb tr ow on ca ba di fu mi)
  obtain ⟨kd, hkd⟩ : ∃ b, b = kindB en := ⟨_, rfl⟩
  obtain ⟨fm, hfm⟩ : ∃ b, b = fmB ⟨wr, rg, pr, sh, fi, be, bu, en, wb, tr, ow, on, ca, ba, di, fu, mi⟩ := ⟨_, rfl⟩
  have e0 : chk ⟨wr, rg, pr, sh, fi, be, bu, en, wb, tr, ow, on, ca, ba, di, fu, mi⟩ = if kd = false then 1 else if mi < 0 ∨ 2 < mi then 2 else if rg = false then 0 else if pr ≠ 1 ∧ pr ≠ 3 then 1 else if fm = false then 3 else 0 := by rw [hkd, hfm]; rfl
  obtain ⟨ch, hch⟩ : ∃ z, z = chk ⟨wr, rg, pr, sh, fi, be, bu, en, wb, tr, ow, on, ca, ba, di, fu, mi⟩ := ⟨_, rfl⟩
  rw [← hch]
  rw [e0] at hch
  have HC := hide hch
  clear e0 hch
  have KD := fun w => kind_any en w
  rw [← hkd] at KD
  replace KD := hide KD
  have FM := fun w => form_any wr rg pr sh fi be bu en wb tr ow on ca ba di fu mi w
  rw [← hfm] at FM
  replace FM := hide FM
  clear hkd hfm
  go_enter Try.func10, Try.ntmps10
  go_upto_region 1 with fail
  obtain ⟨W0, hW0⟩ : ∃ W0, W0 = w.alloc (.cells #[.bool wr, .bool rg, .int .i64 pr, .bool sh, .bool fi, .bool be, .bool bu, .int .i64 en, .bool wb, .bool tr, .bool ow, .bool on, .bool ca, .bool ba, .bool di, .bool fu, .int .i64 mi] 23) := ⟨_, rfl⟩
  rw [← hW0] at X K
  obtain ⟨g2, hg2⟩ : ∃ g2, g2 = w.heap.size := ⟨_, rfl⟩
  rw [← hg2] at X
  rw [← hW0, ← hg2]
  clear hW0 hg2
  obtain ⟨x0, x1, x2, x3, x4, x5, x6, x7, x8, x9, x10, x11, x12, x13, x14, x15, x16⟩ := X.out.cells
  go_wp2_with fail
  refine (KD.out _).mono ?_
  rintro e w1 ⟨rfl, hb⟩
  replace K := hide (btrans K.out hb)
  replace X := hide (X.out.below hb)
  clear hb
  try clear x0 x1 x2 x3 x4 x5 x6 x7 x8 x9 x10 x11 x12 x13 x14 x15 x16
  obtain ⟨x0, x1, x2, x3, x4, x5, x6, x7, x8, x9, x10, x11, x12, x13, x14, x15, x16⟩ := X.out.cells
  cases kd
  · go_wp2
    go_ret
    exact ⟨ret_int (by rw [HC.out]; first | rfl | (simp [*]; done) | (rw [if_neg (by omega : ¬ (mi < 0 ∨ 2 < mi))]; simp [*]; done)), K.out⟩
  by_cases m1 : mi < 0
  · go_wp2
    go_ret
    exact ⟨ret_int (by rw [HC.out]; first | rfl | (simp [*]; done) | (rw [if_neg (by omega : ¬ (mi < 0 ∨ 2 < mi))]; simp [*]; done)), K.out⟩
  by_cases m2 : 2 < mi
  · go_wp2
    go_ret
    exact ⟨ret_int (by rw [HC.out]; first | rfl | (simp [*]; done) | (rw [if_neg (by omega : ¬ (mi < 0 ∨ 2 < mi))]; simp [*]; done)), K.out⟩
  cases rg
  · go_wp2
    go_ret
    exact ⟨ret_int (by rw [HC.out]; first | rfl | (simp [*]; done) | (rw [if_neg (by omega : ¬ (mi < 0 ∨ 2 < mi))]; simp [*]; done)), K.out⟩
  by_cases p1 : pr = 1
  · subst p1
    go_upto_region 9 with fail
    clear x0 x1 x2 x3 x4 x5 x6 x7 x8 x9 x10 x11 x12 x13 x14 x15 x16
    go_wp2_with (refine wpList_load_row rfl 23 _ rfl g2 rfl 23 _ (0, 0) _ X.out Try.underlying23 rfl (by kernel_rfl) ?_)
    refine (FM.out _).mono ?_
    rintro e w2 ⟨rfl, hb⟩
    replace K := hide (btrans K.out hb)
    replace X := hide (X.out.below hb)
    clear hb
    try clear x0 x1 x2 x3 x4 x5 x6 x7 x8 x9 x10 x11 x12 x13 x14 x15 x16
    obtain ⟨x0, x1, x2, x3, x4, x5, x6, x7, x8, x9, x10, x11, x12, x13, x14, x15, x16⟩ := X.out.cells
    cases fm
    · go_wp2
      go_ret
      exact ⟨ret_int (by rw [HC.out]; first | rfl | (simp [*]; done) | (rw [if_neg (by omega : ¬ (mi < 0 ∨ 2 < mi))]; simp [*]; done)), K.out⟩
    · go_wp2
      go_ret
      exact ⟨ret_int (by rw [HC.out]; first | rfl | (simp [*]; done) | (rw [if_neg (by omega : ¬ (mi < 0 ∨ 2 < mi))]; simp [*]; done)), K.out⟩
  by_cases p3 : pr = 3
  · clear p1
    subst p3
    go_upto_region 9 with fail
    clear x0 x1 x2 x3 x4 x5 x6 x7 x8 x9 x10 x11 x12 x13 x14 x15 x16
    go_wp2_with (refine wpList_load_row rfl 23 _ rfl g2 rfl 23 _ (0, 0) _ X.out Try.underlying23 rfl (by kernel_rfl) ?_)
    refine (FM.out _).mono ?_
    rintro e w2 ⟨rfl, hb⟩
    replace K := hide (btrans K.out hb)
    replace X := hide (X.out.below hb)
    clear hb
    try clear x0 x1 x2 x3 x4 x5 x6 x7 x8 x9 x10 x11 x12 x13 x14 x15 x16
    obtain ⟨x0, x1, x2, x3, x4, x5, x6, x7, x8, x9, x10, x11, x12, x13, x14, x15, x16⟩ := X.out.cells
    cases fm
    · go_wp2
      go_ret
      exact ⟨ret_int (by rw [HC.out]; first | rfl | (simp [*]; done) | (rw [if_neg (by omega : ¬ (mi < 0 ∨ 2 < mi))]; simp [*]; done)), K.out⟩
    · go_wp2
      go_ret
      exact ⟨ret_int (by rw [HC.out]; first | rfl | (simp [*]; done) | (rw [if_neg (by omega : ¬ (mi < 0 ∨ 2 < mi))]; simp [*]; done)), K.out⟩
  have h7 : (pr != 1) = true := bne_iff_ne.2 p1
  have h8 : (pr != 3) = true := bne_iff_ne.2 p3
  replace HC := hide (show ch = 1 from by rw [HC.out, if_neg (by omega : ¬ (mi < 0 ∨ 2 < mi))]; first | done | simp [p1, p3])
  clear p1 p3
  go_wp2
  go_ret
  exact ⟨ret_int HC.out.symm, K.out⟩
end Go.Proofs.Ytkcopcmoaloecaa.Fp
