import Derived.Test.YtkcopcmoaloecaaT100
import Derived.Test.YtkcopcmoaloecaaT101
import Derived.Test.YtkcopcmoaloecaaT102
import Derived.Test.YtkcopcmoaloecaaT103
import Derived.Test.YtkcopcmoaloecaaT8
namespace Go.Proofs.Ytkcopcmoaloecaa.Fp
open Go Go.RowKit
set_option linter.unusedVariables false
set_option linter.unusedSimpArgs false
theorem rform_any (wr rg : Bool) (pr : Int) (sh fi be bu : Bool) (en : Int) (wb tr ow on ca ba di fu : Bool) (mi : Int) (h : en = 0 ∨ en = 1 ∨ en = 2 ∨ en = 3) (w : World) : Calls Try.prog 20 #[.agg #[.bool wr, .bool rg, .int .i64 pr, .bool sh, .bool fi, .bool be, .bool bu, .int .i64 en, .bool wb, .bool tr, .bool ow, .bool on, .bool ca, .bool ba, .bool di, .bool fu, .int .i64 mi]] w fun e w' => e = .returned (.bool (fmB ⟨wr, rg, pr, sh, fi, be, bu, en, wb, tr, ow, on, ca, ba, di, fu, mi⟩)) ∧ Below w.heap.size w w' := by
  rcases h with rfl | rfl | rfl | rfl
  · exact rform_0 wr rg pr sh fi be bu wb tr ow on ca ba di fu mi w
  · exact rform_1 wr rg pr sh fi be bu wb tr ow on ca ba di fu mi w
  · exact rform_2 wr rg pr sh fi be bu wb tr ow on ca ba di fu mi w
  · exact rform_3 wr rg pr sh fi be bu wb tr ow on ca ba di fu mi w
set_option maxRecDepth 100000 in
set_option maxHeartbeats 8000000 in
theorem rcheck_any : FI 11 chk := by
  intro wr rg pr sh fi be bu en wb tr ow on ca ba di fu mi w
  have K := hide (bal (brefl w) (.cells #[.bool wr, .bool rg, .int .i64 pr, .bool sh, .bool fi, .bool be, .bool bu, .int .i64 en, .bool wb, .bool tr, .bool ow, .bool on, .bool ca, .bool ba, .bool di, .bool fu, .int .i64 mi] 23))
  have X := hide (CB.new w wr rg pr sh fi be bu en wb tr ow on ca ba di fu mi)
  obtain ⟨ch, hch⟩ : ∃ z, z = chk ⟨wr, rg, pr, sh, fi, be, bu, en, wb, tr, ow, on, ca, ba, di, fu, mi⟩ := ⟨_, rfl⟩
  rw [← hch]
  have hkd : kindB en = decide (0 ≤ en ∧ en ≤ 3) := by
    unfold kindB
    by_cases h0 : en = 0
    · subst h0; rfl
    by_cases h1 : en = 1
    · subst h1; rfl
    by_cases h2 : en = 2
    · subst h2; rfl
    by_cases h3 : en = 3
    · subst h3; rfl
    rw [decide_eq_false (by omega)]
    simp [h0, h1, h2, h3]
  obtain ⟨fm, hfm⟩ : ∃ b, b = fmB ⟨wr, rg, pr, sh, fi, be, bu, en, wb, tr, ow, on, ca, ba, di, fu, mi⟩ := ⟨_, rfl⟩
  have e0 : chk ⟨wr, rg, pr, sh, fi, be, bu, en, wb, tr, ow, on, ca, ba, di, fu, mi⟩ = if decide (0 ≤ en ∧ en ≤ 3) = false then 1 else if mi < 0 ∨ 2 < mi then 2 else if rg = false then 0 else if pr ≠ 1 ∧ pr ≠ 3 then 1 else if fm = false then 3 else 0 := by rw [hfm, ← hkd]; rfl
  rw [e0] at hch
  have FM := fun h w => rform_any wr rg pr sh fi be bu en wb tr ow on ca ba di fu mi h w
  rw [← hfm] at FM
  have CW := fun w => rcw_any wr rg pr sh fi be bu en wb tr ow on ca ba di fu mi w
  obtain ⟨q, hq⟩ : ∃ b, b = cwB ⟨wr, rg, pr, sh, fi, be, bu, en, wb, tr, ow, on, ca, ba, di, fu, mi⟩ := ⟨_, rfl⟩
  have HQ := hide (show q = (pr == 3) from hq)
  rw [← hq] at CW
  clear e0 hkd hfm hq
  have HC := hide hch
  replace FM := hide FM
  replace CW := hide CW
  clear hch
  go_enter Try.func11, Try.ntmps11
  go_upto_region 1 with fail
  obtain ⟨W0, hW0⟩ : ∃ W0, W0 = w.alloc (.cells #[.bool wr, .bool rg, .int .i64 pr, .bool sh, .bool fi, .bool be, .bool bu, .int .i64 en, .bool wb, .bool tr, .bool ow, .bool on, .bool ca, .bool ba, .bool di, .bool fu, .int .i64 mi] 23) := ⟨_, rfl⟩
  rw [← hW0] at X K
  obtain ⟨g2, hg2⟩ : ∃ g2, g2 = w.heap.size := ⟨_, rfl⟩
  rw [← hg2] at X
  rw [← hW0, ← hg2]
  clear hW0 hg2
  obtain ⟨x0, x1, x2, x3, x4, x5, x6, x7, x8, x9, x10, x11, x12, x13, x14, x15, x16⟩ := X.out.cells
  by_cases k1 : en < 0
  · go_wp2
    go_ret
    exact ⟨ret_int (by rw [HC.out, if_pos (decide_eq_false (by omega))]), K.out⟩
  by_cases k2 : 3 < en
  · go_wp2
    go_ret
    exact ⟨ret_int (by rw [HC.out, if_pos (decide_eq_false (by omega))]), K.out⟩
  replace HC := hide (show ch = if mi < 0 ∨ 2 < mi then 2 else if rg = false then 0 else if pr ≠ 1 ∧ pr ≠ 3 then 1 else if fm = false then 3 else 0 by rw [HC.out, if_neg (by rw [decide_eq_true (by omega)]; simp)])
  by_cases m1 : mi < 0
  · go_wp2
    go_ret
    exact ⟨ret_int (by rw [HC.out, if_pos (by omega)]), K.out⟩
  by_cases m2 : 2 < mi
  · go_wp2
    go_ret
    exact ⟨ret_int (by rw [HC.out, if_pos (by omega)]), K.out⟩
  replace HC := hide (show ch = if rg = false then 0 else if pr ≠ 1 ∧ pr ≠ 3 then 1 else if fm = false then 3 else 0 by rw [HC.out, if_neg (by omega)])
  cases rg
  · go_wp2
    go_ret
    exact ⟨ret_int (by rw [HC.out]; rfl), K.out⟩
  replace HC := hide (show ch = if pr ≠ 1 ∧ pr ≠ 3 then 1 else if fm = false then 3 else 0 from HC.out)
  have FMW := hide (fun w => FM.out (by omega) w)
  clear FM
  by_cases p1 : pr = 1
  · subst p1
    replace HC := hide (show ch = if fm = false then 3 else 0 from HC.out)
    go_upto_region 9 with fail
    clear x0 x1 x2 x3 x4 x5 x6 x7 x8 x9 x10 x11 x12 x13 x14 x15 x16
    go_wp2_with (refine wpList_load_row rfl 23 _ rfl g2 rfl 23 _ (0, 0) _ X.out Try.underlying23 rfl (by kernel_rfl) ?_)
    refine (FMW.out _).mono ?_
    rintro e w1 ⟨rfl, hb⟩
    replace K := hide (btrans K.out hb)
    clear hb
    cases fm
    · go_wp2
      go_ret
      exact ⟨ret_int HC.out.symm, K.out⟩
    · go_wp2
      go_ret
      exact ⟨ret_int HC.out.symm, K.out⟩
  have h7 : (pr != 1) = true := bne_iff_ne.2 p1
  go_upto_region 7 with fail
  go_wp2_with (refine load_g (by kernel_rfl) 23 _ rfl g2 rfl 23 _ (0, 0) _ X.out Try.underlying23 rfl (by kernel_rfl) ?_)
  refine (CW.out _).mono ?_
  rintro e w1 ⟨rfl, hb⟩
  replace K := hide (btrans K.out hb)
  replace X := hide (X.out.below hb)
  clear hb x0 x1 x2 x3 x4 x5 x6 x7 x8 x9 x10 x11 x12 x13 x14 x15 x16
  by_cases p3 : pr = 3
  · obtain rfl : q = true := by rw [HQ.out, p3]; rfl
    replace HC := hide (show ch = if fm = false then 3 else 0 by rw [HC.out, if_neg (by omega)])
    clear HQ p1
    subst p3
    clear h7
    go_wp2_with (refine wpList_load_row rfl 23 _ rfl g2 rfl 23 _ (0, 0) _ X.out Try.underlying23 rfl (by kernel_rfl) ?_)
    refine (FMW.out _).mono ?_
    rintro e w2 ⟨rfl, hb⟩
    replace K := hide (btrans K.out hb)
    clear hb
    cases fm
    · go_wp2
      go_ret
      exact ⟨ret_int HC.out.symm, K.out⟩
    · go_wp2
      go_ret
      exact ⟨ret_int HC.out.symm, K.out⟩
  · obtain rfl : q = false := by rw [HQ.out]; exact beq_eq_false_iff_ne.2 p3
    replace HC := hide (show ch = 1 by rw [HC.out, if_pos ⟨p1, p3⟩])
    go_wp2
    go_ret
    exact ⟨ret_int HC.out.symm, K.out⟩
end Go.Proofs.Ytkcopcmoaloecaa.Fp
