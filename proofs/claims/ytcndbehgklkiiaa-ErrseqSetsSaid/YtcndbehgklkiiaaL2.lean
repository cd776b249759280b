import Derived.Test.YtcndbehgklkiiaaAw
namespace Go.Proofs.Ytcndbehgklkiiaa.Es
open Go Go.RowKit
set_option linter.unusedVariables false
set_option linter.unusedSimpArgs false
set_option maxRecDepth 100000 in
set_option maxHeartbeats 4000000 in
theorem law_sets (n : Int) (b : Bool) (w : World) : Calls Try.prog 4 #[.agg (eC (n, b))] w fun e w' => e = .returned (.bool true) ∧ Below w.heap.size w w' := by
  have CS := hide (fun w => set_any n b w)
  have CR := hide (fun w => rset_any n b w)
  have CM := hide (fun w => smp_any n b w)
  have CN := hide (fun w => rsmp_any n b w)
  have CA := hide (fun w => awake_any w)
  have K := hide (brefl w)
  obtain ⟨⟨⟨n1, b1⟩, e1⟩, hs⟩ : ∃ p, p = st n b := ⟨_, rfl⟩
  obtain ⟨⟨s1, e2⟩, hm⟩ : ∃ p, p = sm n b := ⟨_, rfl⟩
  rw [← hs] at CS CR
  rw [← hm] at CM CN
  clear hs hm
  dsimp only at CS CR CM CN
  unfold eC at *
  go_enter Try.func4, Try.ntmps4
  go_upto_region 1 with fail
  obtain ⟨ga, hg⟩ : ∃ g, g = w.heap.size := ⟨_, rfl⟩
  have Xa := hide (Box.new w 23 #[.int .i64 n, .bool b])
  replace K := hide (bal K.out (.cells #[.int .i64 n, .bool b] 23))
  rw [← hg] at Xa ⊢
  clear hg
  generalize w.alloc (.cells #[.int .i64 n, .bool b] 23) = w0 at *
  obtain ⟨xa0, xa1⟩ := Xa.out.two
  go_wp2_with fail
  refine (CS.out _).mono ?_
  rintro e w1 ⟨rfl, hb⟩
  replace Xa := hide (Xa.out.below hb)
  replace K := hide (btrans K.out hb)
  clear hb xa0 xa1
  obtain ⟨xa0, xa1⟩ := Xa.out.two
  go_upto_region 2 with fail
  obtain ⟨gb, hg⟩ : ∃ g, g = w1.heap.size := ⟨_, rfl⟩
  clear xa0 xa1
  replace Xa := hide (Xa.out.more (.cells #[.int .i64 n1, .bool b1] 23))
  have Xb := hide (Box.new w1 23 #[.int .i64 n1, .bool b1])
  replace K := hide (bal K.out (.cells #[.int .i64 n1, .bool b1] 23))
  rw [← hg] at Xb ⊢
  clear hg
  generalize w1.alloc (.cells #[.int .i64 n1, .bool b1] 23) = w2 at *
  obtain ⟨xa0, xa1⟩ := Xa.out.two
  obtain ⟨xb0, xb1⟩ := Xb.out.two
  go_wp2_with fail
  refine (CR.out _).mono ?_
  rintro e w3 ⟨rfl, hb⟩
  replace Xa := hide (Xa.out.below hb)
  replace Xb := hide (Xb.out.below hb)
  replace K := hide (btrans K.out hb)
  clear hb xa0 xa1 xb0 xb1
  obtain ⟨xa0, xa1⟩ := Xa.out.two
  obtain ⟨xb0, xb1⟩ := Xb.out.two
  go_upto_region 3 with fail
  obtain ⟨gc, hg⟩ : ∃ g, g = w3.heap.size := ⟨_, rfl⟩
  clear xa0 xa1 xb0 xb1
  replace Xa := hide (Xa.out.more (.cells #[.int .i64 n1, .bool b1] 23))
  replace Xb := hide (Xb.out.more (.cells #[.int .i64 n1, .bool b1] 23))
  have Xc := hide (Box.new w3 23 #[.int .i64 n1, .bool b1])
  replace K := hide (bal K.out (.cells #[.int .i64 n1, .bool b1] 23))
  rw [← hg] at Xc ⊢
  clear hg
  generalize w3.alloc (.cells #[.int .i64 n1, .bool b1] 23) = w4 at *
  obtain ⟨xa0, xa1⟩ := Xa.out.two
  obtain ⟨xb0, xb1⟩ := Xb.out.two
  obtain ⟨xc0, xc1⟩ := Xc.out.two
  go_wp2_with fail
  refine (CM.out _).mono ?_
  rintro e w5 ⟨rfl, hb⟩
  replace Xa := hide (Xa.out.below hb)
  replace Xb := hide (Xb.out.below hb)
  replace Xc := hide (Xc.out.below hb)
  replace K := hide (btrans K.out hb)
  clear hb xa0 xa1 xb0 xb1 xc0 xc1
  obtain ⟨xa0, xa1⟩ := Xa.out.two
  obtain ⟨xb0, xb1⟩ := Xb.out.two
  obtain ⟨xc0, xc1⟩ := Xc.out.two
  go_wp2_with fail
  refine (CN.out _).mono ?_
  rintro e w6 ⟨rfl, hb⟩
  replace Xa := hide (Xa.out.below hb)
  replace Xb := hide (Xb.out.below hb)
  replace Xc := hide (Xc.out.below hb)
  replace K := hide (btrans K.out hb)
  clear hb xa0 xa1 xb0 xb1 xc0 xc1
  obtain ⟨xa0, xa1⟩ := Xa.out.two
  obtain ⟨xb0, xb1⟩ := Xb.out.two
  obtain ⟨xc0, xc1⟩ := Xc.out.two
  go_wp2_with fail
  refine (CA.out _).mono ?_
  rintro e w7 ⟨rfl, hb⟩
  replace Xa := hide (Xa.out.below hb)
  replace Xb := hide (Xb.out.below hb)
  replace Xc := hide (Xc.out.below hb)
  replace K := hide (btrans K.out hb)
  clear hb xa0 xa1 xb0 xb1 xc0 xc1
  obtain ⟨xa0, xa1⟩ := Xa.out.two
  obtain ⟨xb0, xb1⟩ := Xb.out.two
  obtain ⟨xc0, xc1⟩ := Xc.out.two
  go_wp2
  go_ret
  exact ⟨rfl, K.out⟩
set_option maxRecDepth 100000 in
set_option maxHeartbeats 4000000 in
theorem law_checks (n : Int) (b : Bool) (s : Int) (w : World) : Calls Try.prog 5 #[.agg (eC (n, b)), .int .i64 s] w fun e w' => e = .returned (.bool true) ∧ Below w.heap.size w w' := by
  have CS := hide (fun w => chk_any n b s w)
  have CR := hide (fun w => rchk_any n b s w)
  have CA := hide (fun w => awake_any w)
  have K := hide (brefl w)
  obtain ⟨⟨⟨n1, b1⟩, s1, e1⟩, hs⟩ : ∃ p, p = ck n b s := ⟨_, rfl⟩
  rw [← hs] at CS CR
  clear hs
  dsimp only at CS CR
  unfold eC at *
  go_enter Try.func5, Try.ntmps5
  go_upto_region 1 with fail
  obtain ⟨ga, hg⟩ : ∃ g, g = w.heap.size := ⟨_, rfl⟩
  have Xa := hide (Box.new w 23 #[.int .i64 n, .bool b])
  replace K := hide (bal K.out (.cells #[.int .i64 n, .bool b] 23))
  rw [← hg] at Xa ⊢
  clear hg
  generalize w.alloc (.cells #[.int .i64 n, .bool b] 23) = w0 at *
  obtain ⟨xa0, xa1⟩ := Xa.out.two
  go_wp2_with fail
  refine (CS.out _).mono ?_
  rintro e w1 ⟨rfl, hb⟩
  replace Xa := hide (Xa.out.below hb)
  replace K := hide (btrans K.out hb)
  clear hb xa0 xa1
  obtain ⟨xa0, xa1⟩ := Xa.out.two
  go_upto_region 2 with fail
  obtain ⟨gb, hg⟩ : ∃ g, g = w1.heap.size := ⟨_, rfl⟩
  clear xa0 xa1
  replace Xa := hide (Xa.out.more (.cells #[.int .i64 n1, .bool b1] 23))
  have Xb := hide (Box.new w1 23 #[.int .i64 n1, .bool b1])
  replace K := hide (bal K.out (.cells #[.int .i64 n1, .bool b1] 23))
  rw [← hg] at Xb ⊢
  clear hg
  generalize w1.alloc (.cells #[.int .i64 n1, .bool b1] 23) = w2 at *
  obtain ⟨xa0, xa1⟩ := Xa.out.two
  obtain ⟨xb0, xb1⟩ := Xb.out.two
  go_wp2_with fail
  refine (CR.out _).mono ?_
  rintro e w3 ⟨rfl, hb⟩
  replace Xa := hide (Xa.out.below hb)
  replace Xb := hide (Xb.out.below hb)
  replace K := hide (btrans K.out hb)
  clear hb xa0 xa1 xb0 xb1
  obtain ⟨xa0, xa1⟩ := Xa.out.two
  obtain ⟨xb0, xb1⟩ := Xb.out.two
  go_upto_region 3 with fail
  obtain ⟨gc, hg⟩ : ∃ g, g = w3.heap.size := ⟨_, rfl⟩
  clear xa0 xa1 xb0 xb1
  replace Xa := hide (Xa.out.more (.cells #[.int .i64 n1, .bool b1] 23))
  replace Xb := hide (Xb.out.more (.cells #[.int .i64 n1, .bool b1] 23))
  have Xc := hide (Box.new w3 23 #[.int .i64 n1, .bool b1])
  replace K := hide (bal K.out (.cells #[.int .i64 n1, .bool b1] 23))
  rw [← hg] at Xc ⊢
  clear hg
  generalize w3.alloc (.cells #[.int .i64 n1, .bool b1] 23) = w4 at *
  obtain ⟨xa0, xa1⟩ := Xa.out.two
  obtain ⟨xb0, xb1⟩ := Xb.out.two
  obtain ⟨xc0, xc1⟩ := Xc.out.two
  go_wp2_with fail
  refine (CA.out _).mono ?_
  rintro e w5 ⟨rfl, hb⟩
  replace Xa := hide (Xa.out.below hb)
  replace Xb := hide (Xb.out.below hb)
  replace Xc := hide (Xc.out.below hb)
  replace K := hide (btrans K.out hb)
  clear hb xa0 xa1 xb0 xb1 xc0 xc1
  obtain ⟨xa0, xa1⟩ := Xa.out.two
  obtain ⟨xb0, xb1⟩ := Xb.out.two
  obtain ⟨xc0, xc1⟩ := Xc.out.two
  go_wp2
  go_ret
  exact ⟨rfl, K.out⟩
end Go.Proofs.Ytcndbehgklkiiaa.Es
