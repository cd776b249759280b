import Derived.Test.YtinoddpdfknkbabAw
import Derived.Test.YtinoddpdfknkbabSzs
namespace Go.Proofs.Ytinoddpdfknkbab.Pc
open Go Go.RowKit
set_option linter.unusedVariables false
set_option maxHeartbeats 4000000 in
set_option maxRecDepth 100000 in
theorem law_takes (v : Value) (C : Ls) (z : Int) (w : World) (h : CaIn w v C) (hB : Sz 9223372036854775807 9223372036854775807 C) : Calls Try.prog 4 #[v, .int .i64 z] w fun e w' => e = .returned (.bool true) ∧ Below w.heap.size w w' := by
  have hI := h
  obtain ⟨A, c, rfl, hc, r⟩ := h
  have AW := hide (fun W => awake_any W)
  have HI := hide hI
  have K := hide (bal (brefl w) (.cells #[.slice A C.length c] 24))
  have X := hide (Box.new w 24 #[.slice A C.length c])
  have FE := hide (few_ca _ C _ (hI.below K.out) hB)
  unfold FewR at FE
  have s1 := cell_box1 X.out
  clear r hI
  go_enter Try.func4, Try.ntmps4
  go_wp2_with fail
  refine FE.out.mono ?_
  rintro e w1 ⟨b, rfl, hf, hb⟩
  replace K := hide (btrans K.out hb)
  replace X := hide (X.out.below hb)
  clear hb s1 FE
  cases b
  · go_wp2_with fail
    refine (AW.out _).mono ?_
    rintro e w2 ⟨rfl, hb⟩
    replace K := hide (btrans K.out hb)
    clear hb
    go_wp2_with fail
    go_ret
    exact ⟨rfl, K.out⟩
  · have hS := hf rfl
    have hS1 := sz_up hS (show 20 ≤ 1000 by omega) (show 300 ≤ 1000 by omega)
    have T1 := hide (fun W (hb : Below w.heap.size w W) => take_any _ C z W (HI.out.below hb) hS1)
    have T2 := hide (fun W (hb : Below w.heap.size w W) => rtake_any _ C z W (HI.out.below hb) hS1)
    have D1 := hide (fun W (hb : Below w.heap.size w W) => drain_any _ C z W (HI.out.below hb) hS1)
    have D2 := hide (fun W (hb : Below w.heap.size w W) => rdrain_any _ C z W (HI.out.below hb) hS1)
    unfold R3 at T1 T2
    unfold RB at D1 D2
    have ST := hide (sz_up (sz_tk (z := z) hS) (show 20 ≤ 9223372036854775807 by omega) (show 300 ≤ 9223372036854775807 by omega))
    have SD := hide (sz_up (sz_dr (z := z) hS) (show 20 ≤ 9223372036854775807 by omega) (show 300 ≤ 9223372036854775807 by omega))
    have LD := drL_len (z := z) hS
    generalize tkC C z = C1 at *
    generalize drC C z = C2 at *
    generalize drL C z = l at *
    generalize tkF C z = f at *
    generalize tkE C z = e1 at *
    generalize czE C z = e2 at *
    clear hf hS hS1 hB
    have s1 := cell_box1 X.out
    go_wp2_with fail
    refine (T1.out _ K.out).mono ?_
    rintro e w2 ⟨A1, c1, rfl, h1, r1, hb⟩
    have M := bal hb (.cells #[.slice A1 C1.length c1] 24)
    have Y1 := hide (Box.new w2 24 #[.slice A1 C1.length c1])
    have I1 := hide (CaIn.below (w := w2) (v := .agg #[.slice A1 C1.length c1]) (C := C1) ⟨A1, c1, rfl, h1, r1.rd⟩ (bal (brefl w2) (.cells #[.slice A1 C1.length c1] 24)))
    replace K := hide (btrans K.out M)
    replace X := hide (X.out.below M)
    clear M hb r1 s1 T1
    go_upto_region 4 with fail
    obtain ⟨g1, hg1⟩ : ∃ g, g = w2.heap.size := ⟨_, rfl⟩
    rw [← hg1] at Y1 ⊢
    generalize w2.alloc (.cells #[.slice A1 C1.length c1] 24) = w3 at *
    clear hg1
    have s1 := cell_box1 X.out
    go_wp2_with fail
    refine (T2.out _ K.out).mono ?_
    rintro e w4 ⟨A2, c2, rfl, h2, r2, hb⟩
    have M := bal hb (.cells #[.slice A2 C1.length c2] 24)
    have Y2 := hide (Box.new w4 24 #[.slice A2 C1.length c2])
    have I2 := hide (CaIn.below (w := w4) (v := .agg #[.slice A2 C1.length c2]) (C := C1) ⟨A2, c2, rfl, h2, r2.rd⟩ (bal (brefl w4) (.cells #[.slice A2 C1.length c2] 24)))
    replace K := hide (btrans K.out M)
    replace X := hide (X.out.below M)
    replace Y1 := hide (Y1.out.below M)
    replace I1 := hide (I1.out.below M)
    clear M hb r2 s1 T2
    go_upto_region 5 with fail
    obtain ⟨g2, hg2⟩ : ∃ g, g = w4.heap.size := ⟨_, rfl⟩
    rw [← hg2] at Y2 ⊢
    generalize w4.alloc (.cells #[.slice A2 C1.length c2] 24) = w5 at *
    clear hg2
    have s1 := cell_box1 X.out
    go_wp2_with fail
    refine (D1.out _ K.out).mono ?_
    rintro e w6 ⟨A3, c3, L3, d3, rfl, h3, hd3, r3, o3, hb⟩
    have M := bal hb (.cells #[.slice A3 C2.length c3] 24)
    have Y3 := hide (Box.new w6 24 #[.slice A3 C2.length c3])
    have I3 := hide (CaIn.below (w := w6) (v := .agg #[.slice A3 C2.length c3]) (C := C2) ⟨A3, c3, rfl, h3, r3.rd⟩ (bal (brefl w6) (.cells #[.slice A3 C2.length c3] 24)))
    have O3 := hide (o3.bi.below (bal (brefl w6) (.cells #[.slice A3 C2.length c3] 24)))
    replace K := hide (btrans K.out M)
    replace X := hide (X.out.below M)
    replace Y1 := hide (Y1.out.below M)
    replace Y2 := hide (Y2.out.below M)
    replace I1 := hide (I1.out.below M)
    replace I2 := hide (I2.out.below M)
    clear M hb r3 s1 D1 o3
    go_upto_region 6 with fail
    obtain ⟨g3, hg3⟩ : ∃ g, g = w6.heap.size := ⟨_, rfl⟩
    rw [← hg3] at Y3 ⊢
    generalize w6.alloc (.cells #[.slice A3 C2.length c3] 24) = w7 at *
    clear hg3
    have s1 := cell_box1 X.out
    go_wp2_with fail
    refine (D2.out _ K.out).mono ?_
    rintro e w8 ⟨A4, c4, L4, d4, rfl, h4, hd4, r4, o4, hb⟩
    have M := bal hb (.cells #[.slice A4 C2.length c4] 24)
    have Y4 := hide (Box.new w8 24 #[.slice A4 C2.length c4])
    have I4 := hide (CaIn.below (w := w8) (v := .agg #[.slice A4 C2.length c4]) (C := C2) ⟨A4, c4, rfl, h4, r4.rd⟩ (bal (brefl w8) (.cells #[.slice A4 C2.length c4] 24)))
    have O4 := hide (o4.bi.below (bal (brefl w8) (.cells #[.slice A4 C2.length c4] 24)))
    replace K := hide (btrans K.out M)
    replace Y1 := hide (Y1.out.below M)
    replace Y2 := hide (Y2.out.below M)
    replace Y3 := hide (Y3.out.below M)
    replace I1 := hide (I1.out.below M)
    replace I2 := hide (I2.out.below M)
    replace I3 := hide (I3.out.below M)
    replace O3 := hide (O3.out.below M)
    clear M hb r4 s1 D2 o4 X
    go_upto_region 7 with fail
    obtain ⟨g4, hg4⟩ : ∃ g, g = w8.heap.size := ⟨_, rfl⟩
    rw [← hg4] at Y4 ⊢
    generalize w8.alloc (.cells #[.slice A4 C2.length c4] 24) = w9 at *
    clear hg4
    have y1 := cell_box1 Y1.out
    have y2 := cell_box1 Y2.out
    go_wp2_with fail
    refine (same_ca _ _ C1 _ I1.out I2.out ST.out).mono ?_
    rintro e wa ⟨rfl, hb⟩
    replace K := hide (btrans K.out hb)
    replace I3 := hide (I3.out.below hb)
    replace I4 := hide (I4.out.below hb)
    replace O3 := hide (O3.out.below hb)
    replace O4 := hide (O4.out.below hb)
    have y3 := cell_box1 (Y3.out.below hb)
    have y4 := cell_box1 (Y4.out.below hb)
    clear hb y1 y2
    go_wp2_with fail
    refine (same_ca _ _ C2 _ I3.out I4.out SD.out).mono ?_
    rintro e wb ⟨rfl, hb⟩
    replace K := hide (btrans K.out hb)
    replace O3 := hide (O3.out.below hb)
    replace O4 := hide (O4.out.below hb)
    clear hb y3 y4
    go_wp2_with fail
    refine (seq_any L3 L4 d3 d4 l wb O3.out O4.out (by omega)).mono ?_
    rintro e wc ⟨rfl, hb⟩
    replace K := hide (btrans K.out hb)
    clear hb
    go_wp2_with fail
    refine (AW.out _).mono ?_
    rintro e wd ⟨rfl, hb⟩
    replace K := hide (btrans K.out hb)
    clear hb
    go_wp2_with fail
    go_ret
    exact ⟨rfl, K.out⟩
end Go.Proofs.Ytinoddpdfknkbab.Pc
