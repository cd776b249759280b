import Derived.Test.YtinoddpdfknkbabAw
import Derived.Test.YtinoddpdfknkbabSzs
import Derived.Test.YtinoddpdfknkbabFrame
namespace Go.Proofs.Ytinoddpdfknkbab.Pc
open Go Go.RowKit
set_option linter.unusedVariables false
set_option maxHeartbeats 4000000 in
set_option maxRecDepth 100000 in
theorem law_refills (v : Value) (C : Ls) (z : Int) (Af : Option Addr) (cf : Nat) (fs : Is) (w : World) (h : CaIn w v C) (hB : Sz 9223372036854775807 9223372036854775807 C) (hq : Bi w Af fs) (hcf : fs.length ≤ cf) (hn : fs.length ≤ 9223372036854775807) : Calls Try.prog 6 #[v, .int .i64 z, .slice Af fs.length cf] w fun e w' => e = .returned (.bool true) ∧ Below w.heap.size w w' := by
  have hI := h
  obtain ⟨A, c, rfl, hc, r⟩ := h
  have AW := hide (fun W => awake_any W)
  have HI := hide hI
  have K := hide (bal (brefl w) (.cells #[.slice A C.length c] 24))
  have X := hide (Box.new w 24 #[.slice A C.length c])
  have FE := hide (few_ca _ C _ (hI.below K.out) hB)
  unfold FewR at FE
  have s1 := cell_box1 X.out
  have Q := hide hq
  clear hq
  clear r hI
  go_enter Try.func6, Try.ntmps6
  go_wp2_with fail
  refine FE.out.mono ?_
  rintro e w1 ⟨b, rfl, hf, hb⟩
  replace K := hide (btrans K.out hb)
  replace X := hide (X.out.below hb)
  clear hb s1 FE
  cases b
  · go_wp2_with fail
    refine (AW.out _).mono ?_
    rintro e w2 ⟨rfl, hb⟩
    replace K := hide (btrans K.out hb)
    clear hb
    go_wp2_with fail
    go_ret
    exact ⟨rfl, K.out⟩
  · have hS := hf rfl
    by_cases hl : 40 < fs.length
    · have hd : decide ((40 : Int) < (fs.length : Int)) = true := decide_eq_true (by omega)
      go_wp2_with fail
      refine (AW.out _).mono ?_
      rintro e w2 ⟨rfl, hb⟩
      replace K := hide (btrans K.out hb)
      clear hb
      go_wp2_with fail
      go_ret
      exact ⟨rfl, K.out⟩
    have hd : decide ((40 : Int) < (fs.length : Int)) = false := decide_eq_false (by omega)
    have hS1 := sz_up hS (show 20 ≤ 1000 by omega) (show 300 ≤ 1000 by omega)
    have T1 := hide (fun W (hb : Below w.heap.size w W) => refill_any _ C z Af cf fs W (HI.out.below hb) hS1 (Q.out.below hb) hcf (by omega))
    have T2 := hide (fun W (hb : Below w.heap.size w W) => rrefill_any _ C z Af cf fs W (HI.out.below hb) hS1 (Q.out.below hb) hcf (by omega))
    unfold R2 at T1 T2
    have ST := hide (sz_up (sz_rf (z := z) (fs := fs) (n := 40) hS (by omega)) (show 20 ≤ 9223372036854775807 by omega) (show 300 + 40 ≤ 9223372036854775807 by omega))
    generalize rfC C z fs = C1 at *
    generalize rfE C z fs = e1 at *
    clear hf hS hS1 hB
    have s1 := cell_box1 X.out
    go_wp2_with fail
    refine (T1.out _ K.out).mono ?_
    rintro e w2 ⟨A1, c1, rfl, h1, r1, hb⟩
    have M := bal hb (.cells #[.slice A1 C1.length c1] 24)
    have Y1 := hide (Box.new w2 24 #[.slice A1 C1.length c1])
    have I1 := hide (CaIn.below (w := w2) (v := .agg #[.slice A1 C1.length c1]) (C := C1) ⟨A1, c1, rfl, h1, r1.rd⟩ (bal (brefl w2) (.cells #[.slice A1 C1.length c1] 24)))
    replace K := hide (btrans K.out M)
    replace X := hide (X.out.below M)
    clear M hb r1 s1 T1
    go_upto_region 4 with fail
    obtain ⟨g1, hg1⟩ : ∃ g, g = w2.heap.size := ⟨_, rfl⟩
    rw [← hg1] at Y1 ⊢
    generalize w2.alloc (.cells #[.slice A1 C1.length c1] 24) = w3 at *
    clear hg1
    have s1 := cell_box1 X.out
    go_wp2_with fail
    refine (T2.out _ K.out).mono ?_
    rintro e w4 ⟨A2, c2, rfl, h2, r2, hb⟩
    have M := bal hb (.cells #[.slice A2 C1.length c2] 24)
    have Y2 := hide (Box.new w4 24 #[.slice A2 C1.length c2])
    have I2 := hide (CaIn.below (w := w4) (v := .agg #[.slice A2 C1.length c2]) (C := C1) ⟨A2, c2, rfl, h2, r2.rd⟩ (bal (brefl w4) (.cells #[.slice A2 C1.length c2] 24)))
    replace K := hide (btrans K.out M)
    replace X := hide (X.out.below M)
    replace Y1 := hide (Y1.out.below M)
    replace I1 := hide (I1.out.below M)
    clear M hb r2 s1 T2
    go_upto_region 5 with fail
    obtain ⟨g2, hg2⟩ : ∃ g, g = w4.heap.size := ⟨_, rfl⟩
    rw [← hg2] at Y2 ⊢
    generalize w4.alloc (.cells #[.slice A2 C1.length c2] 24) = w5 at *
    clear hg2
    have y1 := cell_box1 Y1.out
    have y2 := cell_box1 Y2.out
    go_wp2_with fail
    refine (same_ca _ _ C1 _ I1.out I2.out ST.out).mono ?_
    rintro e wa ⟨rfl, hb⟩
    replace K := hide (btrans K.out hb)
    clear hb y1 y2
    go_wp2_with fail
    refine (AW.out _).mono ?_
    rintro e wd ⟨rfl, hb⟩
    replace K := hide (btrans K.out hb)
    clear hb
    go_wp2_with fail
    go_ret
    exact ⟨rfl, K.out⟩
end Go.Proofs.Ytinoddpdfknkbab.Pc
