import Derived.Test.YtcndbehgklkiiaaF3
import Derived.Test.YtcndbehgklkiiaaF4
namespace Go.Proofs.Ytcndbehgklkiiaa.Es
open Go Go.RowKit
set_option linter.unusedVariables false
set_option linter.unusedSimpArgs false
set_option maxRecDepth 100000 in
set_option maxHeartbeats 4000000 in
theorem awake_any (w0 : World) : Calls Try.prog 18 #[] w0 fun e w' => e = .returned (.bool true) ∧ Below w0.heap.size w0 w' := by
  have C0 := hide (fun w => new_any w)
  have C1 := hide (fun w => set_any 0 false w)
  rw [show st 0 false = ((1, false), 0) by decide] at C1
  have C2 := hide (fun w => set_any 1 false w)
  rw [show st 1 false = ((1, false), 0) by decide] at C2
  have C3 := hide (fun w => smp_any 1 false w)
  rw [show sm 1 false = (0, 0) by decide] at C3
  have C4 := hide (fun w => chk_any 1 false 0 w)
  rw [show ck 1 false 0 = ((1, true), 1, 15) by decide] at C4
  have C5 := hide (fun w => chk_any 1 true 1 w)
  rw [show ck 1 true 1 = ((1, true), 1, 0) by decide] at C5
  have C6 := hide (fun w => set_any 1 true w)
  rw [show st 1 true = ((2, false), 0) by decide] at C6
  have C7 := hide (fun w => chk_any 2 false 3 w)
  rw [show ck 2 false 3 = ((0, false), 0, 2) by decide] at C7
  have C8 := hide (fun w => vl_any 0 true w)
  rw [show vl 0 true = false by decide] at C8
  have C9 := hide (fun w => vl_any 1 true w)
  rw [show vl 1 true = true by decide] at C9
  have K := hide (brefl w0)
  unfold eC at *
  go_enter Try.func18, Try.ntmps18
  go_wp2_with fail
  refine (C0.out _).mono ?_
  rintro e w1 ⟨rfl, hb⟩
  replace K := hide (btrans K.out hb)
  clear hb 
  go_wp2_with fail
  refine (C1.out _).mono ?_
  rintro e w2 ⟨rfl, hb⟩
  replace K := hide (btrans K.out hb)
  clear hb 
  go_upto_region 2 with fail
  obtain ⟨ga, hg⟩ : ∃ g, g = w2.heap.size := ⟨_, rfl⟩
  have Xa := hide (Box.new w2 23 #[.int .i64 1, .bool false])
  replace K := hide (bal K.out (.cells #[.int .i64 1, .bool false] 23))
  rw [← hg] at Xa ⊢
  clear hg
  generalize w2.alloc (.cells #[.int .i64 1, .bool false] 23) = w3 at *
  obtain ⟨xa0, xa1⟩ := Xa.out.two
  go_wp2_with fail
  refine (C2.out _).mono ?_
  rintro e w4 ⟨rfl, hb⟩
  replace Xa := hide (Xa.out.below hb)
  replace K := hide (btrans K.out hb)
  clear hb xa0 xa1
  obtain ⟨xa0, xa1⟩ := Xa.out.two
  go_upto_region 3 with fail
  obtain ⟨gb, hg⟩ : ∃ g, g = w4.heap.size := ⟨_, rfl⟩
  clear xa0 xa1
  replace Xa := hide (Xa.out.more (.cells #[.int .i64 1, .bool false] 23))
  have Xb := hide (Box.new w4 23 #[.int .i64 1, .bool false])
  replace K := hide (bal K.out (.cells #[.int .i64 1, .bool false] 23))
  rw [← hg] at Xb ⊢
  clear hg
  generalize w4.alloc (.cells #[.int .i64 1, .bool false] 23) = w5 at *
  obtain ⟨xa0, xa1⟩ := Xa.out.two
  obtain ⟨xb0, xb1⟩ := Xb.out.two
  go_wp2_with fail
  refine (C3.out _).mono ?_
  rintro e w6 ⟨rfl, hb⟩
  replace Xa := hide (Xa.out.below hb)
  replace Xb := hide (Xb.out.below hb)
  replace K := hide (btrans K.out hb)
  clear hb xa0 xa1 xb0 xb1
  obtain ⟨xa0, xa1⟩ := Xa.out.two
  obtain ⟨xb0, xb1⟩ := Xb.out.two
  go_wp2_with fail
  refine (C4.out _).mono ?_
  rintro e w7 ⟨rfl, hb⟩
  replace Xa := hide (Xa.out.below hb)
  replace Xb := hide (Xb.out.below hb)
  replace K := hide (btrans K.out hb)
  clear hb xa0 xa1 xb0 xb1
  obtain ⟨xa0, xa1⟩ := Xa.out.two
  obtain ⟨xb0, xb1⟩ := Xb.out.two
  go_upto_region 5 with fail
  obtain ⟨gc, hg⟩ : ∃ g, g = w7.heap.size := ⟨_, rfl⟩
  clear xa0 xa1 xb0 xb1
  replace Xa := hide (Xa.out.more (.cells #[.int .i64 1, .bool true] 23))
  replace Xb := hide (Xb.out.more (.cells #[.int .i64 1, .bool true] 23))
  have Xc := hide (Box.new w7 23 #[.int .i64 1, .bool true])
  replace K := hide (bal K.out (.cells #[.int .i64 1, .bool true] 23))
  rw [← hg] at Xc ⊢
  clear hg
  generalize w7.alloc (.cells #[.int .i64 1, .bool true] 23) = w8 at *
  obtain ⟨xa0, xa1⟩ := Xa.out.two
  obtain ⟨xb0, xb1⟩ := Xb.out.two
  obtain ⟨xc0, xc1⟩ := Xc.out.two
  go_wp2_with fail
  refine (C5.out _).mono ?_
  rintro e w9 ⟨rfl, hb⟩
  replace Xa := hide (Xa.out.below hb)
  replace Xb := hide (Xb.out.below hb)
  replace Xc := hide (Xc.out.below hb)
  replace K := hide (btrans K.out hb)
  clear hb xa0 xa1 xb0 xb1 xc0 xc1
  obtain ⟨xa0, xa1⟩ := Xa.out.two
  obtain ⟨xb0, xb1⟩ := Xb.out.two
  obtain ⟨xc0, xc1⟩ := Xc.out.two
  go_upto_region 6 with fail
  obtain ⟨gd, hg⟩ : ∃ g, g = w9.heap.size := ⟨_, rfl⟩
  clear xa0 xa1 xb0 xb1 xc0 xc1
  replace Xa := hide (Xa.out.more (.cells #[.int .i64 1, .bool true] 23))
  replace Xb := hide (Xb.out.more (.cells #[.int .i64 1, .bool true] 23))
  replace Xc := hide (Xc.out.more (.cells #[.int .i64 1, .bool true] 23))
  have Xd := hide (Box.new w9 23 #[.int .i64 1, .bool true])
  replace K := hide (bal K.out (.cells #[.int .i64 1, .bool true] 23))
  rw [← hg] at Xd ⊢
  clear hg
  generalize w9.alloc (.cells #[.int .i64 1, .bool true] 23) = w10 at *
  obtain ⟨xa0, xa1⟩ := Xa.out.two
  obtain ⟨xb0, xb1⟩ := Xb.out.two
  obtain ⟨xc0, xc1⟩ := Xc.out.two
  obtain ⟨xd0, xd1⟩ := Xd.out.two
  go_wp2_with fail
  refine (C6.out _).mono ?_
  rintro e w11 ⟨rfl, hb⟩
  replace Xa := hide (Xa.out.below hb)
  replace Xb := hide (Xb.out.below hb)
  replace Xc := hide (Xc.out.below hb)
  replace Xd := hide (Xd.out.below hb)
  replace K := hide (btrans K.out hb)
  clear hb xa0 xa1 xb0 xb1 xc0 xc1 xd0 xd1
  obtain ⟨xa0, xa1⟩ := Xa.out.two
  obtain ⟨xb0, xb1⟩ := Xb.out.two
  obtain ⟨xc0, xc1⟩ := Xc.out.two
  obtain ⟨xd0, xd1⟩ := Xd.out.two
  go_upto_region 7 with fail
  obtain ⟨gf, hg⟩ : ∃ g, g = w11.heap.size := ⟨_, rfl⟩
  clear xa0 xa1 xb0 xb1 xc0 xc1 xd0 xd1
  replace Xa := hide (Xa.out.more (.cells #[.int .i64 2, .bool false] 23))
  replace Xb := hide (Xb.out.more (.cells #[.int .i64 2, .bool false] 23))
  replace Xc := hide (Xc.out.more (.cells #[.int .i64 2, .bool false] 23))
  replace Xd := hide (Xd.out.more (.cells #[.int .i64 2, .bool false] 23))
  have Xf := hide (Box.new w11 23 #[.int .i64 2, .bool false])
  replace K := hide (bal K.out (.cells #[.int .i64 2, .bool false] 23))
  rw [← hg] at Xf ⊢
  clear hg
  generalize w11.alloc (.cells #[.int .i64 2, .bool false] 23) = w12 at *
  obtain ⟨xa0, xa1⟩ := Xa.out.two
  obtain ⟨xb0, xb1⟩ := Xb.out.two
  obtain ⟨xc0, xc1⟩ := Xc.out.two
  obtain ⟨xd0, xd1⟩ := Xd.out.two
  obtain ⟨xf0, xf1⟩ := Xf.out.two
  go_wp2_with fail
  refine (C7.out _).mono ?_
  rintro e w13 ⟨rfl, hb⟩
  replace Xa := hide (Xa.out.below hb)
  replace Xb := hide (Xb.out.below hb)
  replace Xc := hide (Xc.out.below hb)
  replace Xd := hide (Xd.out.below hb)
  replace Xf := hide (Xf.out.below hb)
  replace K := hide (btrans K.out hb)
  clear hb xa0 xa1 xb0 xb1 xc0 xc1 xd0 xd1 xf0 xf1
  obtain ⟨xa0, xa1⟩ := Xa.out.two
  obtain ⟨xb0, xb1⟩ := Xb.out.two
  obtain ⟨xc0, xc1⟩ := Xc.out.two
  obtain ⟨xd0, xd1⟩ := Xd.out.two
  obtain ⟨xf0, xf1⟩ := Xf.out.two
  go_upto_region 8 with fail
  obtain ⟨gh, hg⟩ : ∃ g, g = w13.heap.size := ⟨_, rfl⟩
  clear xa0 xa1 xb0 xb1 xc0 xc1 xd0 xd1 xf0 xf1
  replace Xa := hide (Xa.out.more (.cells #[.int .i64 0, .bool false] 23))
  replace Xb := hide (Xb.out.more (.cells #[.int .i64 0, .bool false] 23))
  replace Xc := hide (Xc.out.more (.cells #[.int .i64 0, .bool false] 23))
  replace Xd := hide (Xd.out.more (.cells #[.int .i64 0, .bool false] 23))
  replace Xf := hide (Xf.out.more (.cells #[.int .i64 0, .bool false] 23))
  have Xh := hide (Box.new w13 23 #[.int .i64 0, .bool false])
  replace K := hide (bal K.out (.cells #[.int .i64 0, .bool false] 23))
  rw [← hg] at Xh ⊢
  clear hg
  generalize w13.alloc (.cells #[.int .i64 0, .bool false] 23) = w14 at *
  obtain ⟨xa0, xa1⟩ := Xa.out.two
  obtain ⟨xb0, xb1⟩ := Xb.out.two
  obtain ⟨xc0, xc1⟩ := Xc.out.two
  obtain ⟨xd0, xd1⟩ := Xd.out.two
  obtain ⟨xf0, xf1⟩ := Xf.out.two
  obtain ⟨xh0, xh1⟩ := Xh.out.two
  go_wp2_with fail
  refine (C8.out _).mono ?_
  rintro e w15 ⟨rfl, hb⟩
  replace Xa := hide (Xa.out.below hb)
  replace Xb := hide (Xb.out.below hb)
  replace Xc := hide (Xc.out.below hb)
  replace Xd := hide (Xd.out.below hb)
  replace Xf := hide (Xf.out.below hb)
  replace Xh := hide (Xh.out.below hb)
  replace K := hide (btrans K.out hb)
  clear hb xa0 xa1 xb0 xb1 xc0 xc1 xd0 xd1 xf0 xf1 xh0 xh1
  obtain ⟨xa0, xa1⟩ := Xa.out.two
  obtain ⟨xb0, xb1⟩ := Xb.out.two
  obtain ⟨xc0, xc1⟩ := Xc.out.two
  obtain ⟨xd0, xd1⟩ := Xd.out.two
  obtain ⟨xf0, xf1⟩ := Xf.out.two
  obtain ⟨xh0, xh1⟩ := Xh.out.two
  go_wp2_with fail
  refine (C9.out _).mono ?_
  rintro e w16 ⟨rfl, hb⟩
  replace Xa := hide (Xa.out.below hb)
  replace Xb := hide (Xb.out.below hb)
  replace Xc := hide (Xc.out.below hb)
  replace Xd := hide (Xd.out.below hb)
  replace Xf := hide (Xf.out.below hb)
  replace Xh := hide (Xh.out.below hb)
  replace K := hide (btrans K.out hb)
  clear hb xa0 xa1 xb0 xb1 xc0 xc1 xd0 xd1 xf0 xf1 xh0 xh1
  obtain ⟨xa0, xa1⟩ := Xa.out.two
  obtain ⟨xb0, xb1⟩ := Xb.out.two
  obtain ⟨xc0, xc1⟩ := Xc.out.two
  obtain ⟨xd0, xd1⟩ := Xd.out.two
  obtain ⟨xf0, xf1⟩ := Xf.out.two
  obtain ⟨xh0, xh1⟩ := Xh.out.two
  go_wp2
  go_ret
  exact ⟨rfl, K.out⟩
end Go.Proofs.Ytcndbehgklkiiaa.Es
