import Derived.Test.YtinoddpdfknkbabAw
import Derived.Test.YtinoddpdfknkbabSzs
import Derived.Test.YtinoddpdfknkbabFrame
namespace Go.Proofs.Ytinoddpdfknkbab.Pc
open Go Go.RowKit
set_option linter.unusedVariables false
set_option maxHeartbeats 4000000 in
set_option maxRecDepth 100000 in
theorem law_puts (v : Value) (C : Ls) (q : Po) (w : World) (h : CaIn w v C) (hB : Sz 9223372036854775807 9223372036854775807 C) : Calls Try.prog 5 #[v, .agg #[.int .i64 q.1, .int .i64 q.2.1, .int .i64 q.2.2.1, .int .i64 q.2.2.2]] w fun e w' => e = .returned (.bool true) ∧ Below w.heap.size w w' := by
  have hI := h
  obtain ⟨A, c, rfl, hc, r⟩ := h
  have AW := hide (fun W => awake_any W)
  have HI := hide hI
  have K := hide (bal (bal (brefl w) (.cells #[.slice A C.length c] 24)) (.cells #[.int .i64 q.1, .int .i64 q.2.1, .int .i64 q.2.2.1, .int .i64 q.2.2.2] 40))
  have X := hide ((Box.new w 24 #[.slice A C.length c]).more (.cells #[.int .i64 q.1, .int .i64 q.2.1, .int .i64 q.2.2.1, .int .i64 q.2.2.2] 40))
  have FE := hide (few_ca _ C _ (hI.below K.out) hB)
  unfold FewR at FE
  have s1 := cell_box1 X.out
  have Z := hide (Box.new2 w (.cells #[.slice A C.length c] 24) 40 #[.int .i64 q.1, .int .i64 q.2.1, .int .i64 q.2.2.1, .int .i64 q.2.2.2])
  clear r hI
  go_enter Try.func5, Try.ntmps5
  go_wp2_with fail
  refine FE.out.mono ?_
  rintro e w1 ⟨b, rfl, hf, hb⟩
  replace K := hide (btrans K.out hb)
  replace X := hide (X.out.below hb)
  replace Z := hide (Z.out.below hb)
  clear hb s1 FE
  cases b
  · go_wp2_with fail
    refine (AW.out _).mono ?_
    rintro e w2 ⟨rfl, hb⟩
    replace K := hide (btrans K.out hb)
    clear hb
    go_wp2_with fail
    go_ret
    exact ⟨rfl, K.out⟩
  · have hS := hf rfl
    have hS1 := sz_up hS (show 20 ≤ 1000 by omega) (show 300 ≤ 1000 by omega)
    have T1 := hide (fun W (hb : Below w.heap.size w W) => put_any _ C q.1 q.2.1 q.2.2.1 q.2.2.2 W (HI.out.below hb) hS1)
    have T2 := hide (fun W (hb : Below w.heap.size w W) => rput_any _ C q.1 q.2.1 q.2.2.1 q.2.2.2 W (HI.out.below hb) hS1)
    unfold RB at T1 T2
    have ST := hide (sz_up (sz_pt (z := q.1) (f := q.2.1) (bt := q.2.2.1) (hi := q.2.2.2) hS) (show 20 ≤ 9223372036854775807 by omega) (show 300 + 1 ≤ 9223372036854775807 by omega))
    have LD := ptB_len (z := q.1) (f := q.2.1) (bt := q.2.2.1) (hi := q.2.2.2) hS
    generalize ptC C q.1 q.2.1 q.2.2.1 q.2.2.2 = C1 at *
    generalize ptB C q.1 q.2.1 q.2.2.1 q.2.2.2 = l at *
    generalize ptE C q.1 q.2.1 q.2.2.1 q.2.2.2 = e1 at *
    clear hf hS hS1 hB
    have zz0 := Z.out.cell 0
    have zz1 := Z.out.cell 1
    have zz2 := Z.out.cell 2
    have zz3 := Z.out.cell 3
    simp at zz0 zz1 zz2 zz3
    have s1 := cell_box1 X.out
    go_wp2_with fail
    refine (T1.out _ K.out).mono ?_
    rintro e w2 ⟨A1, c1, L1, d1, rfl, h1, hd1, r1, o1, hb⟩
    have M := bal hb (.cells #[.slice A1 C1.length c1] 24)
    have Y1 := hide (Box.new w2 24 #[.slice A1 C1.length c1])
    have I1 := hide (CaIn.below (w := w2) (v := .agg #[.slice A1 C1.length c1]) (C := C1) ⟨A1, c1, rfl, h1, r1.rd⟩ (bal (brefl w2) (.cells #[.slice A1 C1.length c1] 24)))
    have O1 := hide (o1.bi.below (bal (brefl w2) (.cells #[.slice A1 C1.length c1] 24)))
    replace K := hide (btrans K.out M)
    replace X := hide (X.out.below M)
    replace Z := hide (Z.out.below M)
    clear zz0 zz1 zz2 zz3 M hb r1 s1 T1 o1
    go_upto_region 4 with fail
    obtain ⟨g1, hg1⟩ : ∃ g, g = w2.heap.size := ⟨_, rfl⟩
    rw [← hg1] at Y1 ⊢
    generalize w2.alloc (.cells #[.slice A1 C1.length c1] 24) = w3 at *
    clear hg1
    have zz0 := Z.out.cell 0
    have zz1 := Z.out.cell 1
    have zz2 := Z.out.cell 2
    have zz3 := Z.out.cell 3
    simp at zz0 zz1 zz2 zz3
    have s1 := cell_box1 X.out
    go_wp2_with fail
    refine (T2.out _ K.out).mono ?_
    rintro e w4 ⟨A2, c2, L2, d2, rfl, h2, hd2, r2, o2, hb⟩
    have M := bal hb (.cells #[.slice A2 C1.length c2] 24)
    have Y2 := hide (Box.new w4 24 #[.slice A2 C1.length c2])
    have I2 := hide (CaIn.below (w := w4) (v := .agg #[.slice A2 C1.length c2]) (C := C1) ⟨A2, c2, rfl, h2, r2.rd⟩ (bal (brefl w4) (.cells #[.slice A2 C1.length c2] 24)))
    have O2 := hide (o2.bi.below (bal (brefl w4) (.cells #[.slice A2 C1.length c2] 24)))
    replace K := hide (btrans K.out M)
    replace X := hide (X.out.below M)
    replace Y1 := hide (Y1.out.below M)
    replace I1 := hide (I1.out.below M)
    replace O1 := hide (O1.out.below M)
    clear zz0 zz1 zz2 zz3 M hb r2 s1 T2 o2
    go_upto_region 5 with fail
    obtain ⟨g2, hg2⟩ : ∃ g, g = w4.heap.size := ⟨_, rfl⟩
    rw [← hg2] at Y2 ⊢
    generalize w4.alloc (.cells #[.slice A2 C1.length c2] 24) = w5 at *
    clear hg2
    have y1 := cell_box1 Y1.out
    have y2 := cell_box1 Y2.out
    go_wp2_with fail
    refine (same_ca _ _ C1 _ I1.out I2.out ST.out).mono ?_
    rintro e wa ⟨rfl, hb⟩
    replace K := hide (btrans K.out hb)
    replace O1 := hide (O1.out.below hb)
    replace O2 := hide (O2.out.below hb)
    clear hb y1 y2
    go_wp2_with fail
    refine (seq_any L1 L2 d1 d2 l wa O1.out O2.out (by omega)).mono ?_
    rintro e wc ⟨rfl, hb⟩
    replace K := hide (btrans K.out hb)
    clear hb
    go_wp2_with fail
    refine (AW.out _).mono ?_
    rintro e wd ⟨rfl, hb⟩
    replace K := hide (btrans K.out hb)
    clear hb
    go_wp2_with fail
    go_ret
    exact ⟨rfl, K.out⟩
end Go.Proofs.Ytinoddpdfknkbab.Pc
