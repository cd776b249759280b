import Derived.Test.YtcndbehgklkiiaaAw
namespace Go.Proofs.Ytcndbehgklkiiaa.Es
open Go Go.RowKit
set_option linter.unusedVariables false
set_option linter.unusedSimpArgs false
theorem vlT {n : Int} {b : Bool} (h0 : 0 ≤ n) (h1 : n ≤ 1073741824) (h2 : 0 < n ∨ b = false) : vl n b = true := by
  unfold vl; simp; exact ⟨h0, h1, h2⟩
theorem ckS (n : Int) (b : Bool) (h : vl n b = true) : ck n b n = ((n, b), n, 0) := by
  have h1 := vl_of h
  unfold ck; rw [h, if_neg (by decide), if_neg (by omega), if_pos rfl]
theorem ckL (n s : Int) (b : Bool) (h : vl n b = true) (h0 : 0 ≤ s) (h1 : s < n) : ck n b s = ((n, true), n, 15) := by
  unfold ck; rw [h, if_neg (by decide), if_neg (by omega), if_neg (by omega)]
theorem smU (n : Int) (h : vl n false = true) (h1 : 0 < n) : sm n false = (n - 1, 0) := by
  unfold sm un; rw [h]; simp [h1]
theorem smS (n : Int) (h : vl n true = true) : sm n true = (n, 0) := by
  unfold sm un; rw [h]; simp
theorem stU (n : Int) (h : vl n false = true) (h1 : 0 < n) : st n false = ((n, false), 0) := by
  unfold st un; rw [h]; simp [h1]
theorem stN (n : Int) (h : vl n true = true) (h1 : n ≠ 1073741824) : st n true = ((n + 1, false), 0) := by
  unfold st un; rw [h]; simp [h1]
theorem stM (h : vl 1073741824 true = true) : st 1073741824 true = ((0, false), 9) := by decide
set_option maxRecDepth 100000 in
set_option maxHeartbeats 4000000 in
theorem law_unseen (n : Int) (b : Bool) (w : World) : Calls Try.prog 8 #[.agg (eC (n, b))] w fun e w' => e = .returned (.bool true) ∧ Below w.heap.size w w' := by
  cases hv : vl n b
  · have C1 := hide (fun w => smp_any n b w)
    rw [show sm n b = (0, 1) from if_pos hv] at C1
    have CA := hide (fun w => awake_any w)
    have K := hide (brefl w)
    clear hv
    unfold eC at *
    go_enter Try.func8, Try.ntmps8
    go_upto_region 1 with fail
    obtain ⟨ga, hg⟩ : ∃ g, g = w.heap.size := ⟨_, rfl⟩
    have Xa := hide (Box.new w 23 #[.int .i64 n, .bool b])
    replace K := hide (bal K.out (.cells #[.int .i64 n, .bool b] 23))
    rw [← hg] at Xa ⊢
    clear hg
    generalize w.alloc (.cells #[.int .i64 n, .bool b] 23) = w0 at *
    obtain ⟨xa0, xa1⟩ := Xa.out.two
    go_wp2_with fail
    refine (C1.out _).mono ?_
    rintro e w1 ⟨rfl, hb⟩
    replace Xa := hide (Xa.out.below hb)
    replace K := hide (btrans K.out hb)
    clear hb xa0 xa1
    obtain ⟨xa0, xa1⟩ := Xa.out.two
    go_wp2_with fail
    refine (CA.out _).mono ?_
    rintro e w2 ⟨rfl, hb⟩
    replace Xa := hide (Xa.out.below hb)
    replace K := hide (btrans K.out hb)
    clear hb xa0 xa1
    obtain ⟨xa0, xa1⟩ := Xa.out.two
    go_wp2
    go_ret
    exact ⟨rfl, K.out⟩
  · obtain ⟨h0, h1, h2⟩ := vl_of hv
    cases b
    · by_cases h3 : 0 < n
      · have C1 := hide (fun w => smp_any n false w)
        rw [smU n hv h3] at C1
        have C2 := hide (fun w => chk_any n false (n - 1) w)
        rw [ckL n (n - 1) false hv (by omega) (by omega)] at C2
        have C3 := hide (fun w => smp_any n true w)
        rw [smS n (vlT h0 h1 (.inl h3))] at C3
        have C4 := hide (fun w => chk_any n true n w)
        rw [ckS n true (vlT h0 h1 (.inl h3))] at C4
        have CA := hide (fun w => awake_any w)
        have K := hide (brefl w)
        clear hv h2
        unfold eC at *
        go_enter Try.func8, Try.ntmps8
        go_upto_region 1 with fail
        obtain ⟨ga, hg⟩ : ∃ g, g = w.heap.size := ⟨_, rfl⟩
        have Xa := hide (Box.new w 23 #[.int .i64 n, .bool false])
        replace K := hide (bal K.out (.cells #[.int .i64 n, .bool false] 23))
        rw [← hg] at Xa ⊢
        clear hg
        generalize w.alloc (.cells #[.int .i64 n, .bool false] 23) = w0 at *
        obtain ⟨xa0, xa1⟩ := Xa.out.two
        go_wp2_with fail
        refine (C1.out _).mono ?_
        rintro e w1 ⟨rfl, hb⟩
        replace Xa := hide (Xa.out.below hb)
        replace K := hide (btrans K.out hb)
        clear hb xa0 xa1
        obtain ⟨xa0, xa1⟩ := Xa.out.two
        go_wp2_with fail
        refine (C2.out _).mono ?_
        rintro e w2 ⟨rfl, hb⟩
        replace Xa := hide (Xa.out.below hb)
        replace K := hide (btrans K.out hb)
        clear hb xa0 xa1
        obtain ⟨xa0, xa1⟩ := Xa.out.two
        go_upto_region 5 with fail
        obtain ⟨gb, hg⟩ : ∃ g, g = w2.heap.size := ⟨_, rfl⟩
        clear xa0 xa1
        replace Xa := hide (Xa.out.more (.cells #[.int .i64 n, .bool true] 23))
        have Xb := hide (Box.new w2 23 #[.int .i64 n, .bool true])
        replace K := hide (bal K.out (.cells #[.int .i64 n, .bool true] 23))
        rw [← hg] at Xb ⊢
        clear hg
        generalize w2.alloc (.cells #[.int .i64 n, .bool true] 23) = w3 at *
        obtain ⟨xa0, xa1⟩ := Xa.out.two
        obtain ⟨xb0, xb1⟩ := Xb.out.two
        go_wp2_with fail
        refine (C3.out _).mono ?_
        rintro e w4 ⟨rfl, hb⟩
        replace Xa := hide (Xa.out.below hb)
        replace Xb := hide (Xb.out.below hb)
        replace K := hide (btrans K.out hb)
        clear hb xa0 xa1 xb0 xb1
        obtain ⟨xa0, xa1⟩ := Xa.out.two
        obtain ⟨xb0, xb1⟩ := Xb.out.two
        go_wp2_with fail
        refine (C4.out _).mono ?_
        rintro e w5 ⟨rfl, hb⟩
        replace Xa := hide (Xa.out.below hb)
        replace Xb := hide (Xb.out.below hb)
        replace K := hide (btrans K.out hb)
        clear hb xa0 xa1 xb0 xb1
        obtain ⟨xa0, xa1⟩ := Xa.out.two
        obtain ⟨xb0, xb1⟩ := Xb.out.two
        go_upto_region 9 with fail
        obtain ⟨gc, hg⟩ : ∃ g, g = w5.heap.size := ⟨_, rfl⟩
        clear xa0 xa1 xb0 xb1
        replace Xa := hide (Xa.out.more (.cells #[.int .i64 n, .bool true] 23))
        replace Xb := hide (Xb.out.more (.cells #[.int .i64 n, .bool true] 23))
        have Xc := hide (Box.new w5 23 #[.int .i64 n, .bool true])
        replace K := hide (bal K.out (.cells #[.int .i64 n, .bool true] 23))
        rw [← hg] at Xc ⊢
        clear hg
        generalize w5.alloc (.cells #[.int .i64 n, .bool true] 23) = w6 at *
        obtain ⟨xa0, xa1⟩ := Xa.out.two
        obtain ⟨xb0, xb1⟩ := Xb.out.two
        obtain ⟨xc0, xc1⟩ := Xc.out.two
        go_wp2_with fail
        refine (CA.out _).mono ?_
        rintro e w7 ⟨rfl, hb⟩
        replace Xa := hide (Xa.out.below hb)
        replace Xb := hide (Xb.out.below hb)
        replace Xc := hide (Xc.out.below hb)
        replace K := hide (btrans K.out hb)
        clear hb xa0 xa1 xb0 xb1 xc0 xc1
        obtain ⟨xa0, xa1⟩ := Xa.out.two
        obtain ⟨xb0, xb1⟩ := Xb.out.two
        obtain ⟨xc0, xc1⟩ := Xc.out.two
        go_wp2
        go_ret
        exact ⟨rfl, K.out⟩
      · obtain rfl : n = 0 := by omega
        clear hv h0 h1 h2 h3
        have C1 := hide (fun w => smp_any 0 false w)
        rw [show sm 0 false = (0, 0) from by decide] at C1
        have C2 := hide (fun w => chk_any 0 false 0 w)
        rw [show ck 0 false 0 = ((0, false), 0, 0) from by decide] at C2
        have C3 := hide (fun w => smp_any 0 false w)
        rw [show sm 0 false = (0, 0) from by decide] at C3
        have C4 := hide (fun w => chk_any 0 false 0 w)
        rw [show ck 0 false 0 = ((0, false), 0, 0) from by decide] at C4
        have CA := hide (fun w => awake_any w)
        have K := hide (brefl w)
        unfold eC at *
        go_enter Try.func8, Try.ntmps8
        go_upto_region 1 with fail
        obtain ⟨ga, hg⟩ : ∃ g, g = w.heap.size := ⟨_, rfl⟩
        have Xa := hide (Box.new w 23 #[.int .i64 0, .bool false])
        replace K := hide (bal K.out (.cells #[.int .i64 0, .bool false] 23))
        rw [← hg] at Xa ⊢
        clear hg
        generalize w.alloc (.cells #[.int .i64 0, .bool false] 23) = w0 at *
        obtain ⟨xa0, xa1⟩ := Xa.out.two
        go_wp2_with fail
        refine (C1.out _).mono ?_
        rintro e w1 ⟨rfl, hb⟩
        replace Xa := hide (Xa.out.below hb)
        replace K := hide (btrans K.out hb)
        clear hb xa0 xa1
        obtain ⟨xa0, xa1⟩ := Xa.out.two
        go_wp2_with fail
        refine (C2.out _).mono ?_
        rintro e w2 ⟨rfl, hb⟩
        replace Xa := hide (Xa.out.below hb)
        replace K := hide (btrans K.out hb)
        clear hb xa0 xa1
        obtain ⟨xa0, xa1⟩ := Xa.out.two
        go_upto_region 5 with fail
        obtain ⟨gb, hg⟩ : ∃ g, g = w2.heap.size := ⟨_, rfl⟩
        clear xa0 xa1
        replace Xa := hide (Xa.out.more (.cells #[.int .i64 0, .bool false] 23))
        have Xb := hide (Box.new w2 23 #[.int .i64 0, .bool false])
        replace K := hide (bal K.out (.cells #[.int .i64 0, .bool false] 23))
        rw [← hg] at Xb ⊢
        clear hg
        generalize w2.alloc (.cells #[.int .i64 0, .bool false] 23) = w3 at *
        obtain ⟨xa0, xa1⟩ := Xa.out.two
        obtain ⟨xb0, xb1⟩ := Xb.out.two
        go_wp2_with fail
        refine (C3.out _).mono ?_
        rintro e w4 ⟨rfl, hb⟩
        replace Xa := hide (Xa.out.below hb)
        replace Xb := hide (Xb.out.below hb)
        replace K := hide (btrans K.out hb)
        clear hb xa0 xa1 xb0 xb1
        obtain ⟨xa0, xa1⟩ := Xa.out.two
        obtain ⟨xb0, xb1⟩ := Xb.out.two
        go_wp2_with fail
        refine (C4.out _).mono ?_
        rintro e w5 ⟨rfl, hb⟩
        replace Xa := hide (Xa.out.below hb)
        replace Xb := hide (Xb.out.below hb)
        replace K := hide (btrans K.out hb)
        clear hb xa0 xa1 xb0 xb1
        obtain ⟨xa0, xa1⟩ := Xa.out.two
        obtain ⟨xb0, xb1⟩ := Xb.out.two
        go_upto_region 9 with fail
        obtain ⟨gc, hg⟩ : ∃ g, g = w5.heap.size := ⟨_, rfl⟩
        clear xa0 xa1 xb0 xb1
        replace Xa := hide (Xa.out.more (.cells #[.int .i64 0, .bool false] 23))
        replace Xb := hide (Xb.out.more (.cells #[.int .i64 0, .bool false] 23))
        have Xc := hide (Box.new w5 23 #[.int .i64 0, .bool false])
        replace K := hide (bal K.out (.cells #[.int .i64 0, .bool false] 23))
        rw [← hg] at Xc ⊢
        clear hg
        generalize w5.alloc (.cells #[.int .i64 0, .bool false] 23) = w6 at *
        obtain ⟨xa0, xa1⟩ := Xa.out.two
        obtain ⟨xb0, xb1⟩ := Xb.out.two
        obtain ⟨xc0, xc1⟩ := Xc.out.two
        go_wp2_with fail
        refine (CA.out _).mono ?_
        rintro e w7 ⟨rfl, hb⟩
        replace Xa := hide (Xa.out.below hb)
        replace Xb := hide (Xb.out.below hb)
        replace Xc := hide (Xc.out.below hb)
        replace K := hide (btrans K.out hb)
        clear hb xa0 xa1 xb0 xb1 xc0 xc1
        obtain ⟨xa0, xa1⟩ := Xa.out.two
        obtain ⟨xb0, xb1⟩ := Xb.out.two
        obtain ⟨xc0, xc1⟩ := Xc.out.two
        go_wp2
        go_ret
        exact ⟨rfl, K.out⟩
    · have h3 : 0 < n := by simpa using h2
      have C1 := hide (fun w => smp_any n true w)
      rw [smS n hv] at C1
      have C2 := hide (fun w => chk_any n true n w)
      rw [ckS n true hv] at C2
      have C3 := hide (fun w => smp_any n true w)
      rw [smS n hv] at C3
      have C4 := hide (fun w => chk_any n true n w)
      rw [ckS n true hv] at C4
      have CA := hide (fun w => awake_any w)
      have K := hide (brefl w)
      clear hv
      unfold eC at *
      go_enter Try.func8, Try.ntmps8
      go_upto_region 1 with fail
      obtain ⟨ga, hg⟩ : ∃ g, g = w.heap.size := ⟨_, rfl⟩
      have Xa := hide (Box.new w 23 #[.int .i64 n, .bool true])
      replace K := hide (bal K.out (.cells #[.int .i64 n, .bool true] 23))
      rw [← hg] at Xa ⊢
      clear hg
      generalize w.alloc (.cells #[.int .i64 n, .bool true] 23) = w0 at *
      obtain ⟨xa0, xa1⟩ := Xa.out.two
      go_wp2_with fail
      refine (C1.out _).mono ?_
      rintro e w1 ⟨rfl, hb⟩
      replace Xa := hide (Xa.out.below hb)
      replace K := hide (btrans K.out hb)
      clear hb xa0 xa1
      obtain ⟨xa0, xa1⟩ := Xa.out.two
      go_wp2_with fail
      refine (C2.out _).mono ?_
      rintro e w2 ⟨rfl, hb⟩
      replace Xa := hide (Xa.out.below hb)
      replace K := hide (btrans K.out hb)
      clear hb xa0 xa1
      obtain ⟨xa0, xa1⟩ := Xa.out.two
      go_upto_region 5 with fail
      obtain ⟨gb, hg⟩ : ∃ g, g = w2.heap.size := ⟨_, rfl⟩
      clear xa0 xa1
      replace Xa := hide (Xa.out.more (.cells #[.int .i64 n, .bool true] 23))
      have Xb := hide (Box.new w2 23 #[.int .i64 n, .bool true])
      replace K := hide (bal K.out (.cells #[.int .i64 n, .bool true] 23))
      rw [← hg] at Xb ⊢
      clear hg
      generalize w2.alloc (.cells #[.int .i64 n, .bool true] 23) = w3 at *
      obtain ⟨xa0, xa1⟩ := Xa.out.two
      obtain ⟨xb0, xb1⟩ := Xb.out.two
      go_wp2_with fail
      refine (C3.out _).mono ?_
      rintro e w4 ⟨rfl, hb⟩
      replace Xa := hide (Xa.out.below hb)
      replace Xb := hide (Xb.out.below hb)
      replace K := hide (btrans K.out hb)
      clear hb xa0 xa1 xb0 xb1
      obtain ⟨xa0, xa1⟩ := Xa.out.two
      obtain ⟨xb0, xb1⟩ := Xb.out.two
      go_wp2_with fail
      refine (C4.out _).mono ?_
      rintro e w5 ⟨rfl, hb⟩
      replace Xa := hide (Xa.out.below hb)
      replace Xb := hide (Xb.out.below hb)
      replace K := hide (btrans K.out hb)
      clear hb xa0 xa1 xb0 xb1
      obtain ⟨xa0, xa1⟩ := Xa.out.two
      obtain ⟨xb0, xb1⟩ := Xb.out.two
      go_upto_region 9 with fail
      obtain ⟨gc, hg⟩ : ∃ g, g = w5.heap.size := ⟨_, rfl⟩
      clear xa0 xa1 xb0 xb1
      replace Xa := hide (Xa.out.more (.cells #[.int .i64 n, .bool true] 23))
      replace Xb := hide (Xb.out.more (.cells #[.int .i64 n, .bool true] 23))
      have Xc := hide (Box.new w5 23 #[.int .i64 n, .bool true])
      replace K := hide (bal K.out (.cells #[.int .i64 n, .bool true] 23))
      rw [← hg] at Xc ⊢
      clear hg
      generalize w5.alloc (.cells #[.int .i64 n, .bool true] 23) = w6 at *
      obtain ⟨xa0, xa1⟩ := Xa.out.two
      obtain ⟨xb0, xb1⟩ := Xb.out.two
      obtain ⟨xc0, xc1⟩ := Xc.out.two
      go_wp2_with fail
      refine (CA.out _).mono ?_
      rintro e w7 ⟨rfl, hb⟩
      replace Xa := hide (Xa.out.below hb)
      replace Xb := hide (Xb.out.below hb)
      replace Xc := hide (Xc.out.below hb)
      replace K := hide (btrans K.out hb)
      clear hb xa0 xa1 xb0 xb1 xc0 xc1
      obtain ⟨xa0, xa1⟩ := Xa.out.two
      obtain ⟨xb0, xb1⟩ := Xb.out.two
      obtain ⟨xc0, xc1⟩ := Xc.out.two
      go_wp2
      go_ret
      exact ⟨rfl, K.out⟩
set_option maxRecDepth 100000 in
set_option maxHeartbeats 4000000 in
theorem law_twice (n : Int) (b : Bool) (s : Int) (w : World) : Calls Try.prog 7 #[.agg (eC (n, b)), .int .i64 s] w fun e w' => e = .returned (.bool true) ∧ Below w.heap.size w w' := by
  cases hv : vl n b
  · have C1 := hide (fun w => chk_any n b s w)
    rw [show ck n b s = ((0, false), 0, 1) from if_pos hv] at C1
    have CA := hide (fun w => awake_any w)
    have K := hide (brefl w)
    clear hv
    unfold eC at *
    go_enter Try.func7, Try.ntmps7
    go_upto_region 1 with fail
    obtain ⟨ga, hg⟩ : ∃ g, g = w.heap.size := ⟨_, rfl⟩
    have Xa := hide (Box.new w 23 #[.int .i64 n, .bool b])
    replace K := hide (bal K.out (.cells #[.int .i64 n, .bool b] 23))
    rw [← hg] at Xa ⊢
    clear hg
    generalize w.alloc (.cells #[.int .i64 n, .bool b] 23) = w0 at *
    obtain ⟨xa0, xa1⟩ := Xa.out.two
    go_wp2_with fail
    refine (C1.out _).mono ?_
    rintro e w1 ⟨rfl, hb⟩
    replace Xa := hide (Xa.out.below hb)
    replace K := hide (btrans K.out hb)
    clear hb xa0 xa1
    obtain ⟨xa0, xa1⟩ := Xa.out.two
    go_upto_region 2 with fail
    obtain ⟨gb, hg⟩ : ∃ g, g = w1.heap.size := ⟨_, rfl⟩
    clear xa0 xa1
    replace Xa := hide (Xa.out.more (.cells #[.int .i64 0, .bool false] 23))
    have Xb := hide (Box.new w1 23 #[.int .i64 0, .bool false])
    replace K := hide (bal K.out (.cells #[.int .i64 0, .bool false] 23))
    rw [← hg] at Xb ⊢
    clear hg
    generalize w1.alloc (.cells #[.int .i64 0, .bool false] 23) = w2 at *
    obtain ⟨xa0, xa1⟩ := Xa.out.two
    obtain ⟨xb0, xb1⟩ := Xb.out.two
    go_wp2_with fail
    refine (CA.out _).mono ?_
    rintro e w3 ⟨rfl, hb⟩
    replace Xa := hide (Xa.out.below hb)
    replace Xb := hide (Xb.out.below hb)
    replace K := hide (btrans K.out hb)
    clear hb xa0 xa1 xb0 xb1
    obtain ⟨xa0, xa1⟩ := Xa.out.two
    obtain ⟨xb0, xb1⟩ := Xb.out.two
    go_wp2
    go_ret
    exact ⟨rfl, K.out⟩
  · obtain ⟨h0, h1, h2⟩ := vl_of hv
    by_cases h4 : s < 0 ∨ n < s
    · have C1 := hide (fun w => chk_any n b s w)
      rw [show ck n b s = ((0, false), 0, 2) from by unfold ck; rw [hv, if_neg (by decide), if_pos h4]] at C1
      have CA := hide (fun w => awake_any w)
      have K := hide (brefl w)
      clear hv h4
      unfold eC at *
      go_enter Try.func7, Try.ntmps7
      go_upto_region 1 with fail
      obtain ⟨ga, hg⟩ : ∃ g, g = w.heap.size := ⟨_, rfl⟩
      have Xa := hide (Box.new w 23 #[.int .i64 n, .bool b])
      replace K := hide (bal K.out (.cells #[.int .i64 n, .bool b] 23))
      rw [← hg] at Xa ⊢
      clear hg
      generalize w.alloc (.cells #[.int .i64 n, .bool b] 23) = w0 at *
      obtain ⟨xa0, xa1⟩ := Xa.out.two
      go_wp2_with fail
      refine (C1.out _).mono ?_
      rintro e w1 ⟨rfl, hb⟩
      replace Xa := hide (Xa.out.below hb)
      replace K := hide (btrans K.out hb)
      clear hb xa0 xa1
      obtain ⟨xa0, xa1⟩ := Xa.out.two
      go_upto_region 2 with fail
      obtain ⟨gb, hg⟩ : ∃ g, g = w1.heap.size := ⟨_, rfl⟩
      clear xa0 xa1
      replace Xa := hide (Xa.out.more (.cells #[.int .i64 0, .bool false] 23))
      have Xb := hide (Box.new w1 23 #[.int .i64 0, .bool false])
      replace K := hide (bal K.out (.cells #[.int .i64 0, .bool false] 23))
      rw [← hg] at Xb ⊢
      clear hg
      generalize w1.alloc (.cells #[.int .i64 0, .bool false] 23) = w2 at *
      obtain ⟨xa0, xa1⟩ := Xa.out.two
      obtain ⟨xb0, xb1⟩ := Xb.out.two
      go_wp2_with fail
      refine (CA.out _).mono ?_
      rintro e w3 ⟨rfl, hb⟩
      replace Xa := hide (Xa.out.below hb)
      replace Xb := hide (Xb.out.below hb)
      replace K := hide (btrans K.out hb)
      clear hb xa0 xa1 xb0 xb1
      obtain ⟨xa0, xa1⟩ := Xa.out.two
      obtain ⟨xb0, xb1⟩ := Xb.out.two
      go_wp2
      go_ret
      exact ⟨rfl, K.out⟩
    · by_cases h7 : s = n
      · rw [h7]
        clear h4 h7
        cases b
        · by_cases h3 : 0 < n
          · have C1 := hide (fun w => chk_any n false n w)
            rw [ckS n false hv] at C1
            have C2 := hide (fun w => chk_any n false n w)
            rw [ckS n false hv] at C2
            have C3 := hide (fun w => set_any n false w)
            rw [stU n hv h3] at C3
            have C4 := hide (fun w => chk_any n false n w)
            rw [ckS n false hv] at C4
            have CA := hide (fun w => awake_any w)
            have K := hide (brefl w)
            clear hv h2
            unfold eC at *
            go_enter Try.func7, Try.ntmps7
            go_upto_region 1 with fail
            obtain ⟨ga, hg⟩ : ∃ g, g = w.heap.size := ⟨_, rfl⟩
            have Xa := hide (Box.new w 23 #[.int .i64 n, .bool false])
            replace K := hide (bal K.out (.cells #[.int .i64 n, .bool false] 23))
            rw [← hg] at Xa ⊢
            clear hg
            generalize w.alloc (.cells #[.int .i64 n, .bool false] 23) = w0 at *
            obtain ⟨xa0, xa1⟩ := Xa.out.two
            go_wp2_with fail
            refine (C1.out _).mono ?_
            rintro e w1 ⟨rfl, hb⟩
            replace Xa := hide (Xa.out.below hb)
            replace K := hide (btrans K.out hb)
            clear hb xa0 xa1
            obtain ⟨xa0, xa1⟩ := Xa.out.two
            go_upto_region 2 with fail
            obtain ⟨gb, hg⟩ : ∃ g, g = w1.heap.size := ⟨_, rfl⟩
            clear xa0 xa1
            replace Xa := hide (Xa.out.more (.cells #[.int .i64 n, .bool false] 23))
            have Xb := hide (Box.new w1 23 #[.int .i64 n, .bool false])
            replace K := hide (bal K.out (.cells #[.int .i64 n, .bool false] 23))
            rw [← hg] at Xb ⊢
            clear hg
            generalize w1.alloc (.cells #[.int .i64 n, .bool false] 23) = w2 at *
            obtain ⟨xa0, xa1⟩ := Xa.out.two
            obtain ⟨xb0, xb1⟩ := Xb.out.two
            go_wp2_with fail
            refine (C2.out _).mono ?_
            rintro e w3 ⟨rfl, hb⟩
            replace Xa := hide (Xa.out.below hb)
            replace Xb := hide (Xb.out.below hb)
            replace K := hide (btrans K.out hb)
            clear hb xa0 xa1 xb0 xb1
            obtain ⟨xa0, xa1⟩ := Xa.out.two
            obtain ⟨xb0, xb1⟩ := Xb.out.two
            go_upto_region 5 with fail
            obtain ⟨gc, hg⟩ : ∃ g, g = w3.heap.size := ⟨_, rfl⟩
            clear xa0 xa1 xb0 xb1
            replace Xa := hide (Xa.out.more (.cells #[.int .i64 n, .bool false] 23))
            replace Xb := hide (Xb.out.more (.cells #[.int .i64 n, .bool false] 23))
            have Xc := hide (Box.new w3 23 #[.int .i64 n, .bool false])
            replace K := hide (bal K.out (.cells #[.int .i64 n, .bool false] 23))
            rw [← hg] at Xc ⊢
            clear hg
            generalize w3.alloc (.cells #[.int .i64 n, .bool false] 23) = w4 at *
            obtain ⟨xa0, xa1⟩ := Xa.out.two
            obtain ⟨xb0, xb1⟩ := Xb.out.two
            obtain ⟨xc0, xc1⟩ := Xc.out.two
            go_wp2_with fail
            refine (C3.out _).mono ?_
            rintro e w5 ⟨rfl, hb⟩
            replace Xa := hide (Xa.out.below hb)
            replace Xb := hide (Xb.out.below hb)
            replace Xc := hide (Xc.out.below hb)
            replace K := hide (btrans K.out hb)
            clear hb xa0 xa1 xb0 xb1 xc0 xc1
            obtain ⟨xa0, xa1⟩ := Xa.out.two
            obtain ⟨xb0, xb1⟩ := Xb.out.two
            obtain ⟨xc0, xc1⟩ := Xc.out.two
            go_upto_region 8 with fail
            obtain ⟨gd, hg⟩ : ∃ g, g = w5.heap.size := ⟨_, rfl⟩
            clear xa0 xa1 xb0 xb1 xc0 xc1
            replace Xa := hide (Xa.out.more (.cells #[.int .i64 (n), .bool false] 23))
            replace Xb := hide (Xb.out.more (.cells #[.int .i64 (n), .bool false] 23))
            replace Xc := hide (Xc.out.more (.cells #[.int .i64 (n), .bool false] 23))
            have Xd := hide (Box.new w5 23 #[.int .i64 (n), .bool false])
            replace K := hide (bal K.out (.cells #[.int .i64 (n), .bool false] 23))
            rw [← hg] at Xd ⊢
            clear hg
            generalize w5.alloc (.cells #[.int .i64 (n), .bool false] 23) = w6 at *
            obtain ⟨xa0, xa1⟩ := Xa.out.two
            obtain ⟨xb0, xb1⟩ := Xb.out.two
            obtain ⟨xc0, xc1⟩ := Xc.out.two
            obtain ⟨xd0, xd1⟩ := Xd.out.two
            go_wp2_with fail
            refine (C4.out _).mono ?_
            rintro e w7 ⟨rfl, hb⟩
            replace Xa := hide (Xa.out.below hb)
            replace Xb := hide (Xb.out.below hb)
            replace Xc := hide (Xc.out.below hb)
            replace Xd := hide (Xd.out.below hb)
            replace K := hide (btrans K.out hb)
            clear hb xa0 xa1 xb0 xb1 xc0 xc1 xd0 xd1
            obtain ⟨xa0, xa1⟩ := Xa.out.two
            obtain ⟨xb0, xb1⟩ := Xb.out.two
            obtain ⟨xc0, xc1⟩ := Xc.out.two
            obtain ⟨xd0, xd1⟩ := Xd.out.two
            go_upto_region 11 with fail
            obtain ⟨ge, hg⟩ : ∃ g, g = w7.heap.size := ⟨_, rfl⟩
            clear xa0 xa1 xb0 xb1 xc0 xc1 xd0 xd1
            replace Xa := hide (Xa.out.more (.cells #[Value.int .i64 (n), .bool false] 23))
            replace Xb := hide (Xb.out.more (.cells #[Value.int .i64 (n), .bool false] 23))
            replace Xc := hide (Xc.out.more (.cells #[Value.int .i64 (n), .bool false] 23))
            replace Xd := hide (Xd.out.more (.cells #[Value.int .i64 (n), .bool false] 23))
            have Xe := hide (Box.new w7 23 #[Value.int .i64 (n), .bool false])
            replace K := hide (bal K.out (.cells #[Value.int .i64 (n), .bool false] 23))
            rw [← hg] at Xe ⊢
            clear hg
            generalize w7.alloc (.cells #[Value.int .i64 (n), .bool false] 23) = w8 at *
            obtain ⟨xa0, xa1⟩ := Xa.out.two
            obtain ⟨xb0, xb1⟩ := Xb.out.two
            obtain ⟨xc0, xc1⟩ := Xc.out.two
            obtain ⟨xd0, xd1⟩ := Xd.out.two
            obtain ⟨xe0, xe1⟩ := Xe.out.two
            go_wp2_with fail
            refine (CA.out _).mono ?_
            rintro e w9 ⟨rfl, hb⟩
            replace Xa := hide (Xa.out.below hb)
            replace Xb := hide (Xb.out.below hb)
            replace Xc := hide (Xc.out.below hb)
            replace Xd := hide (Xd.out.below hb)
            replace Xe := hide (Xe.out.below hb)
            replace K := hide (btrans K.out hb)
            clear hb xa0 xa1 xb0 xb1 xc0 xc1 xd0 xd1 xe0 xe1
            obtain ⟨xa0, xa1⟩ := Xa.out.two
            obtain ⟨xb0, xb1⟩ := Xb.out.two
            obtain ⟨xc0, xc1⟩ := Xc.out.two
            obtain ⟨xd0, xd1⟩ := Xd.out.two
            obtain ⟨xe0, xe1⟩ := Xe.out.two
            go_wp2
            go_ret
            exact ⟨rfl, K.out⟩
          · obtain rfl : n = 0 := by omega
            clear hv h0 h1 h2 h3
            have C1 := hide (fun w => chk_any 0 false 0 w)
            rw [show ck 0 false 0 = ((0, false), 0, 0) from by decide] at C1
            have C2 := hide (fun w => chk_any 0 false 0 w)
            rw [show ck 0 false 0 = ((0, false), 0, 0) from by decide] at C2
            have C3 := hide (fun w => set_any 0 false w)
            rw [show st 0 false = ((1, false), 0) from by decide] at C3
            have C4 := hide (fun w => chk_any 1 false 0 w)
            rw [show ck 1 false 0 = ((1, true), 1, 15) from by decide] at C4
            have CA := hide (fun w => awake_any w)
            have K := hide (brefl w)
            unfold eC at *
            go_enter Try.func7, Try.ntmps7
            go_upto_region 1 with fail
            obtain ⟨ga, hg⟩ : ∃ g, g = w.heap.size := ⟨_, rfl⟩
            have Xa := hide (Box.new w 23 #[.int .i64 0, .bool false])
            replace K := hide (bal K.out (.cells #[.int .i64 0, .bool false] 23))
            rw [← hg] at Xa ⊢
            clear hg
            generalize w.alloc (.cells #[.int .i64 0, .bool false] 23) = w0 at *
            obtain ⟨xa0, xa1⟩ := Xa.out.two
            go_wp2_with fail
            refine (C1.out _).mono ?_
            rintro e w1 ⟨rfl, hb⟩
            replace Xa := hide (Xa.out.below hb)
            replace K := hide (btrans K.out hb)
            clear hb xa0 xa1
            obtain ⟨xa0, xa1⟩ := Xa.out.two
            go_upto_region 2 with fail
            obtain ⟨gb, hg⟩ : ∃ g, g = w1.heap.size := ⟨_, rfl⟩
            clear xa0 xa1
            replace Xa := hide (Xa.out.more (.cells #[.int .i64 0, .bool false] 23))
            have Xb := hide (Box.new w1 23 #[.int .i64 0, .bool false])
            replace K := hide (bal K.out (.cells #[.int .i64 0, .bool false] 23))
            rw [← hg] at Xb ⊢
            clear hg
            generalize w1.alloc (.cells #[.int .i64 0, .bool false] 23) = w2 at *
            obtain ⟨xa0, xa1⟩ := Xa.out.two
            obtain ⟨xb0, xb1⟩ := Xb.out.two
            go_wp2_with fail
            refine (C2.out _).mono ?_
            rintro e w3 ⟨rfl, hb⟩
            replace Xa := hide (Xa.out.below hb)
            replace Xb := hide (Xb.out.below hb)
            replace K := hide (btrans K.out hb)
            clear hb xa0 xa1 xb0 xb1
            obtain ⟨xa0, xa1⟩ := Xa.out.two
            obtain ⟨xb0, xb1⟩ := Xb.out.two
            go_upto_region 5 with fail
            obtain ⟨gc, hg⟩ : ∃ g, g = w3.heap.size := ⟨_, rfl⟩
            clear xa0 xa1 xb0 xb1
            replace Xa := hide (Xa.out.more (.cells #[.int .i64 0, .bool false] 23))
            replace Xb := hide (Xb.out.more (.cells #[.int .i64 0, .bool false] 23))
            have Xc := hide (Box.new w3 23 #[.int .i64 0, .bool false])
            replace K := hide (bal K.out (.cells #[.int .i64 0, .bool false] 23))
            rw [← hg] at Xc ⊢
            clear hg
            generalize w3.alloc (.cells #[.int .i64 0, .bool false] 23) = w4 at *
            obtain ⟨xa0, xa1⟩ := Xa.out.two
            obtain ⟨xb0, xb1⟩ := Xb.out.two
            obtain ⟨xc0, xc1⟩ := Xc.out.two
            go_wp2_with fail
            refine (C3.out _).mono ?_
            rintro e w5 ⟨rfl, hb⟩
            replace Xa := hide (Xa.out.below hb)
            replace Xb := hide (Xb.out.below hb)
            replace Xc := hide (Xc.out.below hb)
            replace K := hide (btrans K.out hb)
            clear hb xa0 xa1 xb0 xb1 xc0 xc1
            obtain ⟨xa0, xa1⟩ := Xa.out.two
            obtain ⟨xb0, xb1⟩ := Xb.out.two
            obtain ⟨xc0, xc1⟩ := Xc.out.two
            go_upto_region 8 with fail
            obtain ⟨gd, hg⟩ : ∃ g, g = w5.heap.size := ⟨_, rfl⟩
            clear xa0 xa1 xb0 xb1 xc0 xc1
            replace Xa := hide (Xa.out.more (.cells #[.int .i64 (1), .bool false] 23))
            replace Xb := hide (Xb.out.more (.cells #[.int .i64 (1), .bool false] 23))
            replace Xc := hide (Xc.out.more (.cells #[.int .i64 (1), .bool false] 23))
            have Xd := hide (Box.new w5 23 #[.int .i64 (1), .bool false])
            replace K := hide (bal K.out (.cells #[.int .i64 (1), .bool false] 23))
            rw [← hg] at Xd ⊢
            clear hg
            generalize w5.alloc (.cells #[.int .i64 (1), .bool false] 23) = w6 at *
            obtain ⟨xa0, xa1⟩ := Xa.out.two
            obtain ⟨xb0, xb1⟩ := Xb.out.two
            obtain ⟨xc0, xc1⟩ := Xc.out.two
            obtain ⟨xd0, xd1⟩ := Xd.out.two
            go_wp2_with fail
            refine (C4.out _).mono ?_
            rintro e w7 ⟨rfl, hb⟩
            replace Xa := hide (Xa.out.below hb)
            replace Xb := hide (Xb.out.below hb)
            replace Xc := hide (Xc.out.below hb)
            replace Xd := hide (Xd.out.below hb)
            replace K := hide (btrans K.out hb)
            clear hb xa0 xa1 xb0 xb1 xc0 xc1 xd0 xd1
            obtain ⟨xa0, xa1⟩ := Xa.out.two
            obtain ⟨xb0, xb1⟩ := Xb.out.two
            obtain ⟨xc0, xc1⟩ := Xc.out.two
            obtain ⟨xd0, xd1⟩ := Xd.out.two
            go_upto_region 11 with fail
            obtain ⟨ge, hg⟩ : ∃ g, g = w7.heap.size := ⟨_, rfl⟩
            clear xa0 xa1 xb0 xb1 xc0 xc1 xd0 xd1
            replace Xa := hide (Xa.out.more (.cells #[Value.int .i64 (1), .bool true] 23))
            replace Xb := hide (Xb.out.more (.cells #[Value.int .i64 (1), .bool true] 23))
            replace Xc := hide (Xc.out.more (.cells #[Value.int .i64 (1), .bool true] 23))
            replace Xd := hide (Xd.out.more (.cells #[Value.int .i64 (1), .bool true] 23))
            have Xe := hide (Box.new w7 23 #[Value.int .i64 (1), .bool true])
            replace K := hide (bal K.out (.cells #[Value.int .i64 (1), .bool true] 23))
            rw [← hg] at Xe ⊢
            clear hg
            generalize w7.alloc (.cells #[Value.int .i64 (1), .bool true] 23) = w8 at *
            obtain ⟨xa0, xa1⟩ := Xa.out.two
            obtain ⟨xb0, xb1⟩ := Xb.out.two
            obtain ⟨xc0, xc1⟩ := Xc.out.two
            obtain ⟨xd0, xd1⟩ := Xd.out.two
            obtain ⟨xe0, xe1⟩ := Xe.out.two
            go_wp2_with fail
            refine (CA.out _).mono ?_
            rintro e w9 ⟨rfl, hb⟩
            replace Xa := hide (Xa.out.below hb)
            replace Xb := hide (Xb.out.below hb)
            replace Xc := hide (Xc.out.below hb)
            replace Xd := hide (Xd.out.below hb)
            replace Xe := hide (Xe.out.below hb)
            replace K := hide (btrans K.out hb)
            clear hb xa0 xa1 xb0 xb1 xc0 xc1 xd0 xd1 xe0 xe1
            obtain ⟨xa0, xa1⟩ := Xa.out.two
            obtain ⟨xb0, xb1⟩ := Xb.out.two
            obtain ⟨xc0, xc1⟩ := Xc.out.two
            obtain ⟨xd0, xd1⟩ := Xd.out.two
            obtain ⟨xe0, xe1⟩ := Xe.out.two
            go_wp2
            go_ret
            exact ⟨rfl, K.out⟩
        · have h6 : 0 < n := by simpa using h2
          by_cases h5 : n = 1073741824
          · subst h5
            have C1 := hide (fun w => chk_any 1073741824 true 1073741824 w)
            rw [ckS 1073741824 true hv] at C1
            have C2 := hide (fun w => chk_any 1073741824 true 1073741824 w)
            rw [ckS 1073741824 true (vlT (by omega) (by omega) (.inl (by omega)))] at C2
            have C3 := hide (fun w => set_any 1073741824 true w)
            rw [stM (by decide)] at C3
            have CA := hide (fun w => awake_any w)
            have K := hide (brefl w)
            clear hv h2
            unfold eC at *
            go_enter Try.func7, Try.ntmps7
            go_upto_region 1 with fail
            obtain ⟨ga, hg⟩ : ∃ g, g = w.heap.size := ⟨_, rfl⟩
            have Xa := hide (Box.new w 23 #[.int .i64 1073741824, .bool true])
            replace K := hide (bal K.out (.cells #[.int .i64 1073741824, .bool true] 23))
            rw [← hg] at Xa ⊢
            clear hg
            generalize w.alloc (.cells #[.int .i64 1073741824, .bool true] 23) = w0 at *
            obtain ⟨xa0, xa1⟩ := Xa.out.two
            go_wp2_with fail
            refine (C1.out _).mono ?_
            rintro e w1 ⟨rfl, hb⟩
            replace Xa := hide (Xa.out.below hb)
            replace K := hide (btrans K.out hb)
            clear hb xa0 xa1
            obtain ⟨xa0, xa1⟩ := Xa.out.two
            go_upto_region 2 with fail
            obtain ⟨gb, hg⟩ : ∃ g, g = w1.heap.size := ⟨_, rfl⟩
            clear xa0 xa1
            replace Xa := hide (Xa.out.more (.cells #[.int .i64 1073741824, .bool true] 23))
            have Xb := hide (Box.new w1 23 #[.int .i64 1073741824, .bool true])
            replace K := hide (bal K.out (.cells #[.int .i64 1073741824, .bool true] 23))
            rw [← hg] at Xb ⊢
            clear hg
            generalize w1.alloc (.cells #[.int .i64 1073741824, .bool true] 23) = w2 at *
            obtain ⟨xa0, xa1⟩ := Xa.out.two
            obtain ⟨xb0, xb1⟩ := Xb.out.two
            go_wp2_with fail
            refine (C2.out _).mono ?_
            rintro e w3 ⟨rfl, hb⟩
            replace Xa := hide (Xa.out.below hb)
            replace Xb := hide (Xb.out.below hb)
            replace K := hide (btrans K.out hb)
            clear hb xa0 xa1 xb0 xb1
            obtain ⟨xa0, xa1⟩ := Xa.out.two
            obtain ⟨xb0, xb1⟩ := Xb.out.two
            go_upto_region 5 with fail
            obtain ⟨gc, hg⟩ : ∃ g, g = w3.heap.size := ⟨_, rfl⟩
            clear xa0 xa1 xb0 xb1
            replace Xa := hide (Xa.out.more (.cells #[.int .i64 1073741824, .bool true] 23))
            replace Xb := hide (Xb.out.more (.cells #[.int .i64 1073741824, .bool true] 23))
            have Xc := hide (Box.new w3 23 #[.int .i64 1073741824, .bool true])
            replace K := hide (bal K.out (.cells #[.int .i64 1073741824, .bool true] 23))
            rw [← hg] at Xc ⊢
            clear hg
            generalize w3.alloc (.cells #[.int .i64 1073741824, .bool true] 23) = w4 at *
            obtain ⟨xa0, xa1⟩ := Xa.out.two
            obtain ⟨xb0, xb1⟩ := Xb.out.two
            obtain ⟨xc0, xc1⟩ := Xc.out.two
            go_wp2_with fail
            refine (C3.out _).mono ?_
            rintro e w5 ⟨rfl, hb⟩
            replace Xa := hide (Xa.out.below hb)
            replace Xb := hide (Xb.out.below hb)
            replace Xc := hide (Xc.out.below hb)
            replace K := hide (btrans K.out hb)
            clear hb xa0 xa1 xb0 xb1 xc0 xc1
            obtain ⟨xa0, xa1⟩ := Xa.out.two
            obtain ⟨xb0, xb1⟩ := Xb.out.two
            obtain ⟨xc0, xc1⟩ := Xc.out.two
            go_upto_region 8 with fail
            obtain ⟨gd, hg⟩ : ∃ g, g = w5.heap.size := ⟨_, rfl⟩
            clear xa0 xa1 xb0 xb1 xc0 xc1
            replace Xa := hide (Xa.out.more (.cells #[.int .i64 0, .bool false] 23))
            replace Xb := hide (Xb.out.more (.cells #[.int .i64 0, .bool false] 23))
            replace Xc := hide (Xc.out.more (.cells #[.int .i64 0, .bool false] 23))
            have Xd := hide (Box.new w5 23 #[.int .i64 0, .bool false])
            replace K := hide (bal K.out (.cells #[.int .i64 0, .bool false] 23))
            rw [← hg] at Xd ⊢
            clear hg
            generalize w5.alloc (.cells #[.int .i64 0, .bool false] 23) = w6 at *
            obtain ⟨xa0, xa1⟩ := Xa.out.two
            obtain ⟨xb0, xb1⟩ := Xb.out.two
            obtain ⟨xc0, xc1⟩ := Xc.out.two
            obtain ⟨xd0, xd1⟩ := Xd.out.two
            go_wp2_with fail
            refine (CA.out _).mono ?_
            rintro e w7 ⟨rfl, hb⟩
            replace Xa := hide (Xa.out.below hb)
            replace Xb := hide (Xb.out.below hb)
            replace Xc := hide (Xc.out.below hb)
            replace Xd := hide (Xd.out.below hb)
            replace K := hide (btrans K.out hb)
            clear hb xa0 xa1 xb0 xb1 xc0 xc1 xd0 xd1
            obtain ⟨xa0, xa1⟩ := Xa.out.two
            obtain ⟨xb0, xb1⟩ := Xb.out.two
            obtain ⟨xc0, xc1⟩ := Xc.out.two
            obtain ⟨xd0, xd1⟩ := Xd.out.two
            go_wp2
            go_ret
            exact ⟨rfl, K.out⟩
          · have hw : IntKind.i64.wrap (n + 1) = n + 1 := by rw [IntKind.wrap_i64]; omega
            have C1 := hide (fun w => chk_any n true n w)
            rw [ckS n true hv] at C1
            have C2 := hide (fun w => chk_any n true n w)
            rw [ckS n true (vlT h0 h1 (.inl h6))] at C2
            have C3 := hide (fun w => set_any n true w)
            rw [stN n (vlT h0 h1 (.inl h6)) h5] at C3
            have C4 := hide (fun w => chk_any (n + 1) false n w)
            rw [ckL (n + 1) n false (vlT (by omega) (by omega) (.inr rfl)) (by omega) (by omega)] at C4
            have CA := hide (fun w => awake_any w)
            have K := hide (brefl w)
            clear hv h2
            unfold eC at *
            go_enter Try.func7, Try.ntmps7
            go_upto_region 1 with fail
            obtain ⟨ga, hg⟩ : ∃ g, g = w.heap.size := ⟨_, rfl⟩
            have Xa := hide (Box.new w 23 #[.int .i64 n, .bool true])
            replace K := hide (bal K.out (.cells #[.int .i64 n, .bool true] 23))
            rw [← hg] at Xa ⊢
            clear hg
            generalize w.alloc (.cells #[.int .i64 n, .bool true] 23) = w0 at *
            obtain ⟨xa0, xa1⟩ := Xa.out.two
            go_wp2_with fail
            refine (C1.out _).mono ?_
            rintro e w1 ⟨rfl, hb⟩
            replace Xa := hide (Xa.out.below hb)
            replace K := hide (btrans K.out hb)
            clear hb xa0 xa1
            obtain ⟨xa0, xa1⟩ := Xa.out.two
            go_upto_region 2 with fail
            obtain ⟨gb, hg⟩ : ∃ g, g = w1.heap.size := ⟨_, rfl⟩
            clear xa0 xa1
            replace Xa := hide (Xa.out.more (.cells #[.int .i64 n, .bool true] 23))
            have Xb := hide (Box.new w1 23 #[.int .i64 n, .bool true])
            replace K := hide (bal K.out (.cells #[.int .i64 n, .bool true] 23))
            rw [← hg] at Xb ⊢
            clear hg
            generalize w1.alloc (.cells #[.int .i64 n, .bool true] 23) = w2 at *
            obtain ⟨xa0, xa1⟩ := Xa.out.two
            obtain ⟨xb0, xb1⟩ := Xb.out.two
            go_wp2_with fail
            refine (C2.out _).mono ?_
            rintro e w3 ⟨rfl, hb⟩
            replace Xa := hide (Xa.out.below hb)
            replace Xb := hide (Xb.out.below hb)
            replace K := hide (btrans K.out hb)
            clear hb xa0 xa1 xb0 xb1
            obtain ⟨xa0, xa1⟩ := Xa.out.two
            obtain ⟨xb0, xb1⟩ := Xb.out.two
            go_upto_region 5 with fail
            obtain ⟨gc, hg⟩ : ∃ g, g = w3.heap.size := ⟨_, rfl⟩
            clear xa0 xa1 xb0 xb1
            replace Xa := hide (Xa.out.more (.cells #[.int .i64 n, .bool true] 23))
            replace Xb := hide (Xb.out.more (.cells #[.int .i64 n, .bool true] 23))
            have Xc := hide (Box.new w3 23 #[.int .i64 n, .bool true])
            replace K := hide (bal K.out (.cells #[.int .i64 n, .bool true] 23))
            rw [← hg] at Xc ⊢
            clear hg
            generalize w3.alloc (.cells #[.int .i64 n, .bool true] 23) = w4 at *
            obtain ⟨xa0, xa1⟩ := Xa.out.two
            obtain ⟨xb0, xb1⟩ := Xb.out.two
            obtain ⟨xc0, xc1⟩ := Xc.out.two
            go_wp2_with fail
            refine (C3.out _).mono ?_
            rintro e w5 ⟨rfl, hb⟩
            replace Xa := hide (Xa.out.below hb)
            replace Xb := hide (Xb.out.below hb)
            replace Xc := hide (Xc.out.below hb)
            replace K := hide (btrans K.out hb)
            clear hb xa0 xa1 xb0 xb1 xc0 xc1
            obtain ⟨xa0, xa1⟩ := Xa.out.two
            obtain ⟨xb0, xb1⟩ := Xb.out.two
            obtain ⟨xc0, xc1⟩ := Xc.out.two
            go_upto_region 8 with fail
            obtain ⟨gd, hg⟩ : ∃ g, g = w5.heap.size := ⟨_, rfl⟩
            clear xa0 xa1 xb0 xb1 xc0 xc1
            replace Xa := hide (Xa.out.more (.cells #[.int .i64 (n + 1), .bool false] 23))
            replace Xb := hide (Xb.out.more (.cells #[.int .i64 (n + 1), .bool false] 23))
            replace Xc := hide (Xc.out.more (.cells #[.int .i64 (n + 1), .bool false] 23))
            have Xd := hide (Box.new w5 23 #[.int .i64 (n + 1), .bool false])
            replace K := hide (bal K.out (.cells #[.int .i64 (n + 1), .bool false] 23))
            rw [← hg] at Xd ⊢
            clear hg
            generalize w5.alloc (.cells #[.int .i64 (n + 1), .bool false] 23) = w6 at *
            obtain ⟨xa0, xa1⟩ := Xa.out.two
            obtain ⟨xb0, xb1⟩ := Xb.out.two
            obtain ⟨xc0, xc1⟩ := Xc.out.two
            obtain ⟨xd0, xd1⟩ := Xd.out.two
            go_wp2_with fail
            refine (C4.out _).mono ?_
            rintro e w7 ⟨rfl, hb⟩
            replace Xa := hide (Xa.out.below hb)
            replace Xb := hide (Xb.out.below hb)
            replace Xc := hide (Xc.out.below hb)
            replace Xd := hide (Xd.out.below hb)
            replace K := hide (btrans K.out hb)
            clear hb xa0 xa1 xb0 xb1 xc0 xc1 xd0 xd1
            obtain ⟨xa0, xa1⟩ := Xa.out.two
            obtain ⟨xb0, xb1⟩ := Xb.out.two
            obtain ⟨xc0, xc1⟩ := Xc.out.two
            obtain ⟨xd0, xd1⟩ := Xd.out.two
            go_upto_region 11 with fail
            obtain ⟨ge, hg⟩ : ∃ g, g = w7.heap.size := ⟨_, rfl⟩
            clear xa0 xa1 xb0 xb1 xc0 xc1 xd0 xd1
            replace Xa := hide (Xa.out.more (.cells #[Value.int .i64 (n + 1), .bool true] 23))
            replace Xb := hide (Xb.out.more (.cells #[Value.int .i64 (n + 1), .bool true] 23))
            replace Xc := hide (Xc.out.more (.cells #[Value.int .i64 (n + 1), .bool true] 23))
            replace Xd := hide (Xd.out.more (.cells #[Value.int .i64 (n + 1), .bool true] 23))
            have Xe := hide (Box.new w7 23 #[Value.int .i64 (n + 1), .bool true])
            replace K := hide (bal K.out (.cells #[Value.int .i64 (n + 1), .bool true] 23))
            rw [← hg] at Xe ⊢
            clear hg
            generalize w7.alloc (.cells #[Value.int .i64 (n + 1), .bool true] 23) = w8 at *
            obtain ⟨xa0, xa1⟩ := Xa.out.two
            obtain ⟨xb0, xb1⟩ := Xb.out.two
            obtain ⟨xc0, xc1⟩ := Xc.out.two
            obtain ⟨xd0, xd1⟩ := Xd.out.two
            obtain ⟨xe0, xe1⟩ := Xe.out.two
            go_wp2_with fail
            refine (CA.out _).mono ?_
            rintro e w9 ⟨rfl, hb⟩
            replace Xa := hide (Xa.out.below hb)
            replace Xb := hide (Xb.out.below hb)
            replace Xc := hide (Xc.out.below hb)
            replace Xd := hide (Xd.out.below hb)
            replace Xe := hide (Xe.out.below hb)
            replace K := hide (btrans K.out hb)
            clear hb xa0 xa1 xb0 xb1 xc0 xc1 xd0 xd1 xe0 xe1
            obtain ⟨xa0, xa1⟩ := Xa.out.two
            obtain ⟨xb0, xb1⟩ := Xb.out.two
            obtain ⟨xc0, xc1⟩ := Xc.out.two
            obtain ⟨xd0, xd1⟩ := Xd.out.two
            obtain ⟨xe0, xe1⟩ := Xe.out.two
            go_wp2
            go_ret
            exact ⟨rfl, K.out⟩
      · have h6 : 0 < n := by omega
        by_cases h5 : n = 1073741824
        · subst h5
          have C1 := hide (fun w => chk_any 1073741824 b s w)
          rw [ckL 1073741824 s b hv (by omega) (by omega)] at C1
          have C2 := hide (fun w => chk_any 1073741824 true 1073741824 w)
          rw [ckS 1073741824 true (vlT (by omega) (by omega) (.inl (by omega)))] at C2
          have C3 := hide (fun w => set_any 1073741824 true w)
          rw [stM (by decide)] at C3
          have CA := hide (fun w => awake_any w)
          have K := hide (brefl w)
          clear hv h2
          unfold eC at *
          go_enter Try.func7, Try.ntmps7
          go_upto_region 1 with fail
          obtain ⟨ga, hg⟩ : ∃ g, g = w.heap.size := ⟨_, rfl⟩
          have Xa := hide (Box.new w 23 #[.int .i64 1073741824, .bool b])
          replace K := hide (bal K.out (.cells #[.int .i64 1073741824, .bool b] 23))
          rw [← hg] at Xa ⊢
          clear hg
          generalize w.alloc (.cells #[.int .i64 1073741824, .bool b] 23) = w0 at *
          obtain ⟨xa0, xa1⟩ := Xa.out.two
          go_wp2_with fail
          refine (C1.out _).mono ?_
          rintro e w1 ⟨rfl, hb⟩
          replace Xa := hide (Xa.out.below hb)
          replace K := hide (btrans K.out hb)
          clear hb xa0 xa1
          obtain ⟨xa0, xa1⟩ := Xa.out.two
          go_upto_region 2 with fail
          obtain ⟨gb, hg⟩ : ∃ g, g = w1.heap.size := ⟨_, rfl⟩
          clear xa0 xa1
          replace Xa := hide (Xa.out.more (.cells #[.int .i64 1073741824, .bool true] 23))
          have Xb := hide (Box.new w1 23 #[.int .i64 1073741824, .bool true])
          replace K := hide (bal K.out (.cells #[.int .i64 1073741824, .bool true] 23))
          rw [← hg] at Xb ⊢
          clear hg
          generalize w1.alloc (.cells #[.int .i64 1073741824, .bool true] 23) = w2 at *
          obtain ⟨xa0, xa1⟩ := Xa.out.two
          obtain ⟨xb0, xb1⟩ := Xb.out.two
          go_wp2_with fail
          refine (C2.out _).mono ?_
          rintro e w3 ⟨rfl, hb⟩
          replace Xa := hide (Xa.out.below hb)
          replace Xb := hide (Xb.out.below hb)
          replace K := hide (btrans K.out hb)
          clear hb xa0 xa1 xb0 xb1
          obtain ⟨xa0, xa1⟩ := Xa.out.two
          obtain ⟨xb0, xb1⟩ := Xb.out.two
          go_upto_region 5 with fail
          obtain ⟨gc, hg⟩ : ∃ g, g = w3.heap.size := ⟨_, rfl⟩
          clear xa0 xa1 xb0 xb1
          replace Xa := hide (Xa.out.more (.cells #[.int .i64 1073741824, .bool true] 23))
          replace Xb := hide (Xb.out.more (.cells #[.int .i64 1073741824, .bool true] 23))
          have Xc := hide (Box.new w3 23 #[.int .i64 1073741824, .bool true])
          replace K := hide (bal K.out (.cells #[.int .i64 1073741824, .bool true] 23))
          rw [← hg] at Xc ⊢
          clear hg
          generalize w3.alloc (.cells #[.int .i64 1073741824, .bool true] 23) = w4 at *
          obtain ⟨xa0, xa1⟩ := Xa.out.two
          obtain ⟨xb0, xb1⟩ := Xb.out.two
          obtain ⟨xc0, xc1⟩ := Xc.out.two
          go_wp2_with fail
          refine (C3.out _).mono ?_
          rintro e w5 ⟨rfl, hb⟩
          replace Xa := hide (Xa.out.below hb)
          replace Xb := hide (Xb.out.below hb)
          replace Xc := hide (Xc.out.below hb)
          replace K := hide (btrans K.out hb)
          clear hb xa0 xa1 xb0 xb1 xc0 xc1
          obtain ⟨xa0, xa1⟩ := Xa.out.two
          obtain ⟨xb0, xb1⟩ := Xb.out.two
          obtain ⟨xc0, xc1⟩ := Xc.out.two
          go_upto_region 8 with fail
          obtain ⟨gd, hg⟩ : ∃ g, g = w5.heap.size := ⟨_, rfl⟩
          clear xa0 xa1 xb0 xb1 xc0 xc1
          replace Xa := hide (Xa.out.more (.cells #[.int .i64 0, .bool false] 23))
          replace Xb := hide (Xb.out.more (.cells #[.int .i64 0, .bool false] 23))
          replace Xc := hide (Xc.out.more (.cells #[.int .i64 0, .bool false] 23))
          have Xd := hide (Box.new w5 23 #[.int .i64 0, .bool false])
          replace K := hide (bal K.out (.cells #[.int .i64 0, .bool false] 23))
          rw [← hg] at Xd ⊢
          clear hg
          generalize w5.alloc (.cells #[.int .i64 0, .bool false] 23) = w6 at *
          obtain ⟨xa0, xa1⟩ := Xa.out.two
          obtain ⟨xb0, xb1⟩ := Xb.out.two
          obtain ⟨xc0, xc1⟩ := Xc.out.two
          obtain ⟨xd0, xd1⟩ := Xd.out.two
          go_wp2_with fail
          refine (CA.out _).mono ?_
          rintro e w7 ⟨rfl, hb⟩
          replace Xa := hide (Xa.out.below hb)
          replace Xb := hide (Xb.out.below hb)
          replace Xc := hide (Xc.out.below hb)
          replace Xd := hide (Xd.out.below hb)
          replace K := hide (btrans K.out hb)
          clear hb xa0 xa1 xb0 xb1 xc0 xc1 xd0 xd1
          obtain ⟨xa0, xa1⟩ := Xa.out.two
          obtain ⟨xb0, xb1⟩ := Xb.out.two
          obtain ⟨xc0, xc1⟩ := Xc.out.two
          obtain ⟨xd0, xd1⟩ := Xd.out.two
          go_wp2
          go_ret
          exact ⟨rfl, K.out⟩
        · have hw : IntKind.i64.wrap (n + 1) = n + 1 := by rw [IntKind.wrap_i64]; omega
          have C1 := hide (fun w => chk_any n b s w)
          rw [ckL n s b hv (by omega) (by omega)] at C1
          have C2 := hide (fun w => chk_any n true n w)
          rw [ckS n true (vlT h0 h1 (.inl h6))] at C2
          have C3 := hide (fun w => set_any n true w)
          rw [stN n (vlT h0 h1 (.inl h6)) h5] at C3
          have C4 := hide (fun w => chk_any (n + 1) false n w)
          rw [ckL (n + 1) n false (vlT (by omega) (by omega) (.inr rfl)) (by omega) (by omega)] at C4
          have CA := hide (fun w => awake_any w)
          have K := hide (brefl w)
          clear hv h2
          unfold eC at *
          go_enter Try.func7, Try.ntmps7
          go_upto_region 1 with fail
          obtain ⟨ga, hg⟩ : ∃ g, g = w.heap.size := ⟨_, rfl⟩
          have Xa := hide (Box.new w 23 #[.int .i64 n, .bool b])
          replace K := hide (bal K.out (.cells #[.int .i64 n, .bool b] 23))
          rw [← hg] at Xa ⊢
          clear hg
          generalize w.alloc (.cells #[.int .i64 n, .bool b] 23) = w0 at *
          obtain ⟨xa0, xa1⟩ := Xa.out.two
          go_wp2_with fail
          refine (C1.out _).mono ?_
          rintro e w1 ⟨rfl, hb⟩
          replace Xa := hide (Xa.out.below hb)
          replace K := hide (btrans K.out hb)
          clear hb xa0 xa1
          obtain ⟨xa0, xa1⟩ := Xa.out.two
          go_upto_region 2 with fail
          obtain ⟨gb, hg⟩ : ∃ g, g = w1.heap.size := ⟨_, rfl⟩
          clear xa0 xa1
          replace Xa := hide (Xa.out.more (.cells #[.int .i64 n, .bool true] 23))
          have Xb := hide (Box.new w1 23 #[.int .i64 n, .bool true])
          replace K := hide (bal K.out (.cells #[.int .i64 n, .bool true] 23))
          rw [← hg] at Xb ⊢
          clear hg
          generalize w1.alloc (.cells #[.int .i64 n, .bool true] 23) = w2 at *
          obtain ⟨xa0, xa1⟩ := Xa.out.two
          obtain ⟨xb0, xb1⟩ := Xb.out.two
          go_wp2_with fail
          refine (C2.out _).mono ?_
          rintro e w3 ⟨rfl, hb⟩
          replace Xa := hide (Xa.out.below hb)
          replace Xb := hide (Xb.out.below hb)
          replace K := hide (btrans K.out hb)
          clear hb xa0 xa1 xb0 xb1
          obtain ⟨xa0, xa1⟩ := Xa.out.two
          obtain ⟨xb0, xb1⟩ := Xb.out.two
          go_upto_region 5 with fail
          obtain ⟨gc, hg⟩ : ∃ g, g = w3.heap.size := ⟨_, rfl⟩
          clear xa0 xa1 xb0 xb1
          replace Xa := hide (Xa.out.more (.cells #[.int .i64 n, .bool true] 23))
          replace Xb := hide (Xb.out.more (.cells #[.int .i64 n, .bool true] 23))
          have Xc := hide (Box.new w3 23 #[.int .i64 n, .bool true])
          replace K := hide (bal K.out (.cells #[.int .i64 n, .bool true] 23))
          rw [← hg] at Xc ⊢
          clear hg
          generalize w3.alloc (.cells #[.int .i64 n, .bool true] 23) = w4 at *
          obtain ⟨xa0, xa1⟩ := Xa.out.two
          obtain ⟨xb0, xb1⟩ := Xb.out.two
          obtain ⟨xc0, xc1⟩ := Xc.out.two
          go_wp2_with fail
          refine (C3.out _).mono ?_
          rintro e w5 ⟨rfl, hb⟩
          replace Xa := hide (Xa.out.below hb)
          replace Xb := hide (Xb.out.below hb)
          replace Xc := hide (Xc.out.below hb)
          replace K := hide (btrans K.out hb)
          clear hb xa0 xa1 xb0 xb1 xc0 xc1
          obtain ⟨xa0, xa1⟩ := Xa.out.two
          obtain ⟨xb0, xb1⟩ := Xb.out.two
          obtain ⟨xc0, xc1⟩ := Xc.out.two
          go_upto_region 8 with fail
          obtain ⟨gd, hg⟩ : ∃ g, g = w5.heap.size := ⟨_, rfl⟩
          clear xa0 xa1 xb0 xb1 xc0 xc1
          replace Xa := hide (Xa.out.more (.cells #[.int .i64 (n + 1), .bool false] 23))
          replace Xb := hide (Xb.out.more (.cells #[.int .i64 (n + 1), .bool false] 23))
          replace Xc := hide (Xc.out.more (.cells #[.int .i64 (n + 1), .bool false] 23))
          have Xd := hide (Box.new w5 23 #[.int .i64 (n + 1), .bool false])
          replace K := hide (bal K.out (.cells #[.int .i64 (n + 1), .bool false] 23))
          rw [← hg] at Xd ⊢
          clear hg
          generalize w5.alloc (.cells #[.int .i64 (n + 1), .bool false] 23) = w6 at *
          obtain ⟨xa0, xa1⟩ := Xa.out.two
          obtain ⟨xb0, xb1⟩ := Xb.out.two
          obtain ⟨xc0, xc1⟩ := Xc.out.two
          obtain ⟨xd0, xd1⟩ := Xd.out.two
          go_wp2_with fail
          refine (C4.out _).mono ?_
          rintro e w7 ⟨rfl, hb⟩
          replace Xa := hide (Xa.out.below hb)
          replace Xb := hide (Xb.out.below hb)
          replace Xc := hide (Xc.out.below hb)
          replace Xd := hide (Xd.out.below hb)
          replace K := hide (btrans K.out hb)
          clear hb xa0 xa1 xb0 xb1 xc0 xc1 xd0 xd1
          obtain ⟨xa0, xa1⟩ := Xa.out.two
          obtain ⟨xb0, xb1⟩ := Xb.out.two
          obtain ⟨xc0, xc1⟩ := Xc.out.two
          obtain ⟨xd0, xd1⟩ := Xd.out.two
          go_upto_region 11 with fail
          obtain ⟨ge, hg⟩ : ∃ g, g = w7.heap.size := ⟨_, rfl⟩
          clear xa0 xa1 xb0 xb1 xc0 xc1 xd0 xd1
          replace Xa := hide (Xa.out.more (.cells #[Value.int .i64 (n + 1), .bool true] 23))
          replace Xb := hide (Xb.out.more (.cells #[Value.int .i64 (n + 1), .bool true] 23))
          replace Xc := hide (Xc.out.more (.cells #[Value.int .i64 (n + 1), .bool true] 23))
          replace Xd := hide (Xd.out.more (.cells #[Value.int .i64 (n + 1), .bool true] 23))
          have Xe := hide (Box.new w7 23 #[Value.int .i64 (n + 1), .bool true])
          replace K := hide (bal K.out (.cells #[Value.int .i64 (n + 1), .bool true] 23))
          rw [← hg] at Xe ⊢
          clear hg
          generalize w7.alloc (.cells #[Value.int .i64 (n + 1), .bool true] 23) = w8 at *
          obtain ⟨xa0, xa1⟩ := Xa.out.two
          obtain ⟨xb0, xb1⟩ := Xb.out.two
          obtain ⟨xc0, xc1⟩ := Xc.out.two
          obtain ⟨xd0, xd1⟩ := Xd.out.two
          obtain ⟨xe0, xe1⟩ := Xe.out.two
          go_wp2_with fail
          refine (CA.out _).mono ?_
          rintro e w9 ⟨rfl, hb⟩
          replace Xa := hide (Xa.out.below hb)
          replace Xb := hide (Xb.out.below hb)
          replace Xc := hide (Xc.out.below hb)
          replace Xd := hide (Xd.out.below hb)
          replace Xe := hide (Xe.out.below hb)
          replace K := hide (btrans K.out hb)
          clear hb xa0 xa1 xb0 xb1 xc0 xc1 xd0 xd1 xe0 xe1
          obtain ⟨xa0, xa1⟩ := Xa.out.two
          obtain ⟨xb0, xb1⟩ := Xb.out.two
          obtain ⟨xc0, xc1⟩ := Xc.out.two
          obtain ⟨xd0, xd1⟩ := Xd.out.two
          obtain ⟨xe0, xe1⟩ := Xe.out.two
          go_wp2
          go_ret
          exact ⟨rfl, K.out⟩
end Go.Proofs.Ytcndbehgklkiiaa.Es
