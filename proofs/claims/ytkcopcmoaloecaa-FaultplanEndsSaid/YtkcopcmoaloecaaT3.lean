import Derived.Test.YtkcopcmoaloecaaT2
namespace Go.Proofs.Ytkcopcmoaloecaa.Fp
open Go Go.RowKit
set_option linter.unusedVariables false
set_option linter.unusedSimpArgs false
set_option maxHeartbeats 4000000 in
theorem hc_any : FB 37 hcB := by
  intro wr rg pr sh fi be bu en wb tr ow on ca ba di fu mi w
  have K := hide (bal (brefl w) (.cells #[.bool wr, .bool rg, .int .i64 pr, .bool sh, .bool fi, .bool be, .bool bu, .int .i64 en, .bool wb, .bool tr, .bool ow, .bool on, .bool ca, .bool ba, .bool di, .bool fu, .int .i64 mi] 23))
  have X := hide (CB.new w wr rg pr sh fi be bu en wb tr ow on ca ba di fu mi)
  obtain ⟨q, hq⟩ : ∃ q, q = swB ⟨wr, rg, pr, sh, fi, be, bu, en, wb, tr, ow, on, ca, ba, di, fu, mi⟩ := ⟨_, rfl⟩
  obtain ⟨r, hr⟩ : ∃ q, q = pgB ⟨wr, rg, pr, sh, fi, be, bu, en, wb, tr, ow, on, ca, ba, di, fu, mi⟩ := ⟨_, rfl⟩
  have e0 : hcB ⟨wr, rg, pr, sh, fi, be, bu, en, wb, tr, ow, on, ca, ba, di, fu, mi⟩ = (q || ow && (r || en == 3)) := by rw [hq, hr]; rfl
  rw [e0]
  have CC := fun w => sw_any wr rg pr sh fi be bu en wb tr ow on ca ba di fu mi w
  have CD := fun w => pg_any wr rg pr sh fi be bu en wb tr ow on ca ba di fu mi w
  rw [← hq] at CC
  rw [← hr] at CD
  replace CC := hide CC
  replace CD := hide CD
  clear e0 hq hr
  go_enter Try.func37, Try.ntmps37
  go_upto_region 1 with fail
  obtain ⟨W0, hW0⟩ : ∃ W0, W0 = w.alloc (.cells #[.bool wr, .bool rg, .int .i64 pr, .bool sh, .bool fi, .bool be, .bool bu, .int .i64 en, .bool wb, .bool tr, .bool ow, .bool on, .bool ca, .bool ba, .bool di, .bool fu, .int .i64 mi] 23) := ⟨_, rfl⟩
  rw [← hW0] at X K
  obtain ⟨g2, hg2⟩ : ∃ g2, g2 = w.heap.size := ⟨_, rfl⟩
  rw [← hg2] at X
  rw [← hW0, ← hg2]
  clear hW0 hg2
  go_wp2_with (refine wpList_load_row rfl 23 _ rfl g2 rfl 23 _ (0, 0) _ X.out Try.underlying23 rfl (by kernel_rfl) ?_)
  refine (CC.out _).mono ?_
  rintro e w1 ⟨rfl, hb⟩
  replace K := hide (btrans K.out hb)
  replace X := hide (X.out.below hb)
  clear hb
  try clear x0 x1 x2 x3 x4 x5 x6 x7 x8 x9 x10 x11 x12 x13 x14 x15 x16
  obtain ⟨x0, x1, x2, x3, x4, x5, x6, x7, x8, x9, x10, x11, x12, x13, x14, x15, x16⟩ := X.out.cells
  cases q
  rotate_left 1
  · go_wp2
    go_ret
    exact ⟨rfl, K.out⟩
  cases ow
  · go_wp2
    go_ret
    exact ⟨rfl, K.out⟩
  go_wp2_with (refine load_g (by kernel_rfl) 23 _ rfl g2 rfl 23 _ (0, 0) _ X.out Try.underlying23 rfl (by kernel_rfl) ?_)
  refine (CD.out _).mono ?_
  rintro e w2 ⟨rfl, hb⟩
  replace K := hide (btrans K.out hb)
  replace X := hide (X.out.below hb)
  clear hb
  try clear x0 x1 x2 x3 x4 x5 x6 x7 x8 x9 x10 x11 x12 x13 x14 x15 x16
  obtain ⟨x0, x1, x2, x3, x4, x5, x6, x7, x8, x9, x10, x11, x12, x13, x14, x15, x16⟩ := X.out.cells
  cases r
  · go_wp2
    go_ret
    exact ⟨rfl, K.out⟩
  · go_wp2
    go_ret
    exact ⟨rfl, K.out⟩
set_option maxHeartbeats 2000000 in
theorem r2_any : FB 36 (rl 2) := by
  intro wr rg pr sh fi be bu en wb tr ow on ca ba di fu mi w
  cases be
  · have K := hide (bal (brefl w) (.cells #[.bool wr, .bool rg, .int .i64 pr, .bool sh, .bool fi, .bool false, .bool bu, .int .i64 en, .bool wb, .bool tr, .bool ow, .bool on, .bool ca, .bool ba, .bool di, .bool fu, .int .i64 mi] 23))
    go_enter Try.func36, Try.ntmps36
    go_wp2
    go_ret
    exact ⟨rfl, K.out⟩
  · have K := hide (bal (brefl w) (.cells #[.bool wr, .bool rg, .int .i64 pr, .bool sh, .bool fi, .bool true, .bool bu, .int .i64 en, .bool wb, .bool tr, .bool ow, .bool on, .bool ca, .bool ba, .bool di, .bool fu, .int .i64 mi] 23))
    have X := hide (CB.new w wr rg pr sh fi true bu en wb tr ow on ca ba di fu mi)
    have e0 : (rl 2) ⟨wr, rg, pr, sh, fi, true, bu, en, wb, tr, ow, on, ca, ba, di, fu, mi⟩ = !hcB ⟨wr, rg, pr, sh, fi, true, bu, en, wb, tr, ow, on, ca, ba, di, fu, mi⟩ := by simp [rl]
    rw [e0]
    clear e0
    obtain ⟨q, hq⟩ : ∃ q, q = hcB ⟨wr, rg, pr, sh, fi, true, bu, en, wb, tr, ow, on, ca, ba, di, fu, mi⟩ := ⟨_, rfl⟩
    rw [← hq]
    have CC := fun w => hc_any wr rg pr sh fi true bu en wb tr ow on ca ba di fu mi w
    rw [← hq] at CC
    replace CC := hide CC
    clear hq
    go_enter Try.func36, Try.ntmps36
    go_upto_region 1 with fail
    obtain ⟨W0, hW0⟩ : ∃ W0, W0 = w.alloc (.cells #[.bool wr, .bool rg, .int .i64 pr, .bool sh, .bool fi, .bool true, .bool bu, .int .i64 en, .bool wb, .bool tr, .bool ow, .bool on, .bool ca, .bool ba, .bool di, .bool fu, .int .i64 mi] 23) := ⟨_, rfl⟩
    rw [← hW0] at X K
    obtain ⟨g2, hg2⟩ : ∃ g2, g2 = w.heap.size := ⟨_, rfl⟩
    rw [← hg2] at X
    rw [← hW0, ← hg2]
    clear hW0 hg2
    obtain ⟨x0, x1, x2, x3, x4, x5, x6, x7, x8, x9, x10, x11, x12, x13, x14, x15, x16⟩ := X.out.cells
    go_wp2_with (refine load_g (by kernel_rfl) 23 _ rfl g2 rfl 23 _ (0, 0) _ X.out Try.underlying23 rfl (by kernel_rfl) ?_)
    refine (CC.out _).mono ?_
    rintro e w1 ⟨rfl, hb⟩
    replace K := hide (btrans K.out hb)
    replace X := hide (X.out.below hb)
    clear hb
    go_wp2
    go_ret
    exact ⟨rfl, K.out⟩
set_option maxHeartbeats 2000000 in
theorem r4_any : FB 39 (rl 4) := by
  intro wr rg pr sh fi be bu en wb tr ow on ca ba di fu mi w
  cases bu
  · have K := hide (bal (brefl w) (.cells #[.bool wr, .bool rg, .int .i64 pr, .bool sh, .bool fi, .bool be, .bool false, .int .i64 en, .bool wb, .bool tr, .bool ow, .bool on, .bool ca, .bool ba, .bool di, .bool fu, .int .i64 mi] 23))
    go_enter Try.func39, Try.ntmps39
    go_wp2
    go_ret
    exact ⟨rfl, K.out⟩
  · have K := hide (bal (brefl w) (.cells #[.bool wr, .bool rg, .int .i64 pr, .bool sh, .bool fi, .bool be, .bool true, .int .i64 en, .bool wb, .bool tr, .bool ow, .bool on, .bool ca, .bool ba, .bool di, .bool fu, .int .i64 mi] 23))
    have X := hide (CB.new w wr rg pr sh fi be true en wb tr ow on ca ba di fu mi)
    have e0 : (rl 4) ⟨wr, rg, pr, sh, fi, be, true, en, wb, tr, ow, on, ca, ba, di, fu, mi⟩ = !hcB ⟨wr, rg, pr, sh, fi, be, true, en, wb, tr, ow, on, ca, ba, di, fu, mi⟩ := by simp [rl]
    rw [e0]
    clear e0
    obtain ⟨q, hq⟩ : ∃ q, q = hcB ⟨wr, rg, pr, sh, fi, be, true, en, wb, tr, ow, on, ca, ba, di, fu, mi⟩ := ⟨_, rfl⟩
    rw [← hq]
    have CC := fun w => hc_any wr rg pr sh fi be true en wb tr ow on ca ba di fu mi w
    rw [← hq] at CC
    replace CC := hide CC
    clear hq
    go_enter Try.func39, Try.ntmps39
    go_upto_region 1 with fail
    obtain ⟨W0, hW0⟩ : ∃ W0, W0 = w.alloc (.cells #[.bool wr, .bool rg, .int .i64 pr, .bool sh, .bool fi, .bool be, .bool true, .int .i64 en, .bool wb, .bool tr, .bool ow, .bool on, .bool ca, .bool ba, .bool di, .bool fu, .int .i64 mi] 23) := ⟨_, rfl⟩
    rw [← hW0] at X K
    obtain ⟨g2, hg2⟩ : ∃ g2, g2 = w.heap.size := ⟨_, rfl⟩
    rw [← hg2] at X
    rw [← hW0, ← hg2]
    clear hW0 hg2
    obtain ⟨x0, x1, x2, x3, x4, x5, x6, x7, x8, x9, x10, x11, x12, x13, x14, x15, x16⟩ := X.out.cells
    go_wp2_with (refine load_g (by kernel_rfl) 23 _ rfl g2 rfl 23 _ (0, 0) _ X.out Try.underlying23 rfl (by kernel_rfl) ?_)
    refine (CC.out _).mono ?_
    rintro e w1 ⟨rfl, hb⟩
    replace K := hide (btrans K.out hb)
    replace X := hide (X.out.below hb)
    clear hb
    go_wp2
    go_ret
    exact ⟨rfl, K.out⟩
set_option maxHeartbeats 2000000 in
theorem kind_any (n : Int) (w : World) : Calls Try.prog 17 #[.int .i64 n] w fun e w' => e = .returned (.bool (kindB n)) ∧ Below w.heap.size w w' := by
  by_cases h0 : n = 0
  · subst h0; go_enter Try.func17, Try.ntmps17; go_wp2; go_ret; exact ⟨rfl, brefl _⟩
  by_cases h1 : n = 1
  · subst h1; go_enter Try.func17, Try.ntmps17; go_wp2; go_ret; exact ⟨rfl, brefl _⟩
  by_cases h2 : n = 2
  · subst h2; go_enter Try.func17, Try.ntmps17; go_wp2; go_ret; exact ⟨rfl, brefl _⟩
  by_cases h3 : n = 3
  · subst h3; go_enter Try.func17, Try.ntmps17; go_wp2; go_ret; exact ⟨rfl, brefl _⟩
  have e : kindB n = false := by simp [kindB, h0, h1, h2, h3]
  rw [e]
  go_enter Try.func17, Try.ntmps17
  go_wp2
  go_ret
  exact ⟨rfl, brefl _⟩
end Go.Proofs.Ytkcopcmoaloecaa.Fp
