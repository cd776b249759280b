import Derived.Test.YtinoddpdfknkbabAt
namespace Go.Proofs.Ytinoddpdfknkbab.Pc
open Go Go.RowKit
set_option linter.unusedVariables false
theorem Box.kp3 {B g : Nat} {w w' : World} {cs : Array Value} (h : Box w g 3 cs) (hk : Kp B 24 w w') : Box w' g 3 cs := h.kp hk (by decide)
set_option maxHeartbeats 8000000 in
set_option maxRecDepth 100000 in
theorem awake_any (w : World) : Calls Try.prog 10 #[] w fun e w' => e = .returned (.bool true) ∧ Below w.heap.size w w' := by
  have NW := hide (new_at (z := 2) (w := w) (C' := [[], []]) (er := 0) (n' := 2) aw_new.1 aw_new.2 rfl)
  unfold A2 at NW
  go_enter Try.func10, Try.ntmps10
  go_wp2_with fail
  refine NW.out.mono ?_
  rintro e w1 ⟨A1, c1, rfl, ca1, hb⟩
  have M1 := bal (brefl w1) (.cells #[.slice A1 2 c1] 24)
  have K1 := hide (btrans hb M1)
  have X10 := hide (Box.new w1 24 #[.slice A1 2 c1])
  have CA1 := hide (ca1.below M1)
  obtain ⟨b1, hb1⟩ : ∃ b1, b1 = w1.heap.size := ⟨_, rfl⟩
  have HB1 := hide (show w.heap.size ≤ b1 by rw [hb1]; exact hb.size)
  have H1 := hide hb1
  rw [← hb1] at X10
  clear hb M1 NW ca1
  go_upto_region 2 with fail
  rw [← hb1]
  generalize w1.alloc (.cells #[.slice A1 2 c1] 24) = w2 at *
  have s1 := cell_box1 X10.out
  clear hb1
  have XA0 := hide (Box.new w2 3 #[.int .i64 7, .int .i64 4, .int .i64 9])
  have M2 := bal (brefl w2) (.cells #[.int .i64 7, .int .i64 4, .int .i64 9] 3)
  have X11 := hide (X10.out.below M2)
  have CA2 := hide (CA1.out.below M2)
  have K2 := hide (btrans K1.out M2)
  clear M2
  go_upto_region 5 with fail
  obtain ⟨ba, hba⟩ : ∃ ba, ba = w2.heap.size := ⟨_, rfl⟩
  rw [← hba] at XA0 ⊢
  generalize w2.alloc (.cells #[.int .i64 7, .int .i64 4, .int .i64 9] 3) = w3 at *
  clear s1 hba X10 CA1 K1
  go_loopw [28] (fun i wr => ∃ (k : Nat) (A : Option Addr) (c : Nat), k ≤ 3 ∧ i = .int .i64 k ∧ Hid (Below w.heap.size w wr) ∧ Hid (Box wr ba 3 #[.int .i64 7, .int .i64 4, .int .i64 9]) ∧ Hid (Box wr b1 24 #[.slice A 2 c]) ∧ Hid (CaO wr A 2 c (awC k))) (fun i _ => 3 - (intOf i).toNat)
  case atStart => exact ⟨0, A1, c1, by omega, rfl, K2, XA0, X11, CA2⟩
  case round =>
    clear K2 XA0 X11 CA2
    obtain ⟨k, A, c, hk, rfl, K, XA, X1, CA⟩ := hrel
    rcases k with _ | _ | _ | _ | k
    · have c0 := XA.out.cell 0
      simp at c0
      have s1 := cell_box1 X1.out
      have PT := hide (put_at (w := wr) (C := [[], []]) (C' := [[], [7]]) (n' := 2) (l := []) (m := 0) (z := 1) (f := 7) (b := 2) (h := 3) (er := 0) CA.out (sz_awC 0) aw_put0.1 aw_put0.2.1 aw_put0.2.2 rfl rfl)
      unfold AB at PT
      go_wp2_with fail
      refine PT.out.mono ?_
      rintro e w2 ⟨A2, c2, D2, d2, rfl, ca2, _, _, oi2, hb⟩
      have B5 := hide (Box.new w2 24 #[.slice A2 2 c2])
      have M5 := bal (brefl w2) (.cells #[.slice A2 2 c2] 24)
      have K5 := hide (btrans K.out (btrans hb M5))
      have X15 := hide ((X1.out.below hb).below M5)
      have XA5 := hide ((XA.out.below hb).below M5)
      have CA5 := hide (ca2.below M5)
      clear hb M5 oi2 c0 s1 ca2
      have s5 := cell_box1 B5.out
      have s1 := cell_box1 X15.out
      have f1 := X15.out.frozen 0
      go_upto_region 8 with fail
      generalize w2.alloc (.cells #[.slice A2 2 c2] 24) = w3 at *
      go_wp2
      have KP := Kp.boxset X15.out HB1.out 0 (.slice A2 2 c2)
      go_roundw
      case rel => exact ⟨1, A2, c2, by omega, rfl, hide (bset K5.out (p := ⟨b1, 0, none⟩) HB1.out _), hide (XA5.out.kp3 KP), hide (X15.out.put 0 _), hide (CA5.out.kp KP)⟩
      case measure => decide

    · have c0 := XA.out.cell 1
      simp at c0
      have s1 := cell_box1 X1.out
      have PT := hide (put_at (w := wr) (C := [[], [7]]) (C' := [[], [7, 4]]) (n' := 2) (l := []) (m := 0) (z := 1) (f := 4) (b := 2) (h := 3) (er := 0) CA.out (sz_awC 1) aw_put1.1 aw_put1.2.1 aw_put1.2.2 rfl rfl)
      unfold AB at PT
      go_wp2_with fail
      refine PT.out.mono ?_
      rintro e w2 ⟨A2, c2, D2, d2, rfl, ca2, _, _, oi2, hb⟩
      have B5 := hide (Box.new w2 24 #[.slice A2 2 c2])
      have M5 := bal (brefl w2) (.cells #[.slice A2 2 c2] 24)
      have K5 := hide (btrans K.out (btrans hb M5))
      have X15 := hide ((X1.out.below hb).below M5)
      have XA5 := hide ((XA.out.below hb).below M5)
      have CA5 := hide (ca2.below M5)
      clear hb M5 oi2 c0 s1 ca2
      have s5 := cell_box1 B5.out
      have s1 := cell_box1 X15.out
      have f1 := X15.out.frozen 0
      go_upto_region 8 with fail
      generalize w2.alloc (.cells #[.slice A2 2 c2] 24) = w3 at *
      go_wp2
      have KP := Kp.boxset X15.out HB1.out 0 (.slice A2 2 c2)
      go_roundw
      case rel => exact ⟨2, A2, c2, by omega, rfl, hide (bset K5.out (p := ⟨b1, 0, none⟩) HB1.out _), hide (XA5.out.kp3 KP), hide (X15.out.put 0 _), hide (CA5.out.kp KP)⟩
      case measure => decide

    · have c0 := XA.out.cell 2
      simp at c0
      have s1 := cell_box1 X1.out
      have PT := hide (put_at (w := wr) (C := [[], [7, 4]]) (C' := [[], [7, 4, 9]]) (n' := 2) (l := []) (m := 0) (z := 1) (f := 9) (b := 2) (h := 3) (er := 0) CA.out (sz_awC 2) aw_put2.1 aw_put2.2.1 aw_put2.2.2 rfl rfl)
      unfold AB at PT
      go_wp2_with fail
      refine PT.out.mono ?_
      rintro e w2 ⟨A2, c2, D2, d2, rfl, ca2, _, _, oi2, hb⟩
      have B5 := hide (Box.new w2 24 #[.slice A2 2 c2])
      have M5 := bal (brefl w2) (.cells #[.slice A2 2 c2] 24)
      have K5 := hide (btrans K.out (btrans hb M5))
      have X15 := hide ((X1.out.below hb).below M5)
      have XA5 := hide ((XA.out.below hb).below M5)
      have CA5 := hide (ca2.below M5)
      clear hb M5 oi2 c0 s1 ca2
      have s5 := cell_box1 B5.out
      have s1 := cell_box1 X15.out
      have f1 := X15.out.frozen 0
      go_upto_region 8 with fail
      generalize w2.alloc (.cells #[.slice A2 2 c2] 24) = w3 at *
      go_wp2
      have KP := Kp.boxset X15.out HB1.out 0 (.slice A2 2 c2)
      go_roundw
      case rel => exact ⟨3, A2, c2, by omega, rfl, hide (bset K5.out (p := ⟨b1, 0, none⟩) HB1.out _), hide (XA5.out.kp3 KP), hide (X15.out.put 0 _), hide (CA5.out.kp KP)⟩
      case measure => decide
    · have s1 := cell_box1 X1.out
      have PT := hide (put_at (w := wr) (C := [[], [7, 4, 9]]) (C' := [[], [9, 5]]) (n' := 2) (l := [7, 4]) (m := 2) (z := 1) (f := 5) (b := 2) (h := 3) (er := 0) CA.out (sz_awC 3) aw_put3.1 aw_put3.2.1 aw_put3.2.2 rfl rfl)
      unfold AB at PT
      clear XA CA
      go_wp2_with fail
      refine PT.out.mono ?_
      rintro e w2 ⟨A2, c2, D2, d2, rfl, ca2, _, hd2, oi2, hb⟩
      replace X1 := hide (X1.out.below hb)
      replace K := hide (btrans K.out hb)
      have KP := Kp.boxset X1.out HB1.out 0 (.slice A2 2 c2)
      have CA4 := hide (ca2.kp KP)
      have OI := hide (oi2.kp KP (by decide))
      have s1 := cell_box1 X1.out
      have f1 := X1.out.frozen 0
      replace K := hide (bset K.out (p := ⟨b1, 0, none⟩) HB1.out (.slice A2 2 c2))
      replace X1 := hide (X1.out.put 0 (.slice A2 2 c2))
      clear hb ca2 oi2 KP PT
      go_upto_region 13 with fail
      generalize w2.setCell ⟨b1, 0, none⟩ (.slice A2 2 c2) = w3 at *
      clear s1 f1
      replace X1 := hide (show Box w3 b1 24 #[.slice A2 2 c2] from X1.out)
      have s1 := cell_box1 X1.out
      have TK := hide (take_at (w := w3) (C := [[], [9, 5]]) (C' := [[], [9]]) (n' := 2) (z := 1) (f := 5) (er := 0) CA4.out (by apply sz_of <;> decide) aw_take.1 aw_take.2.1 aw_take.2.2 rfl)
      unfold Pc.A3 at TK
      go_wp2_with fail
      refine TK.out.mono ?_
      rintro e w4 ⟨A3, c3, rfl, ca3, hb⟩
      have M := bal hb (.cells #[.slice A3 2 c3] 24)
      have HB9 := hide (btrans K.out hb).size
      have X9 := hide (Box.new w4 24 #[.slice A3 2 c3])
      have CA5 := hide (ca3.below (bal (brefl w4) (.cells #[.slice A3 2 c3] 24)))
      replace X1 := hide (X1.out.below M)
      replace CA4 := hide (CA4.out.below M)
      replace OI := hide (OI.out.below M)
      replace K := hide (btrans K.out M)
      clear M hb ca3 s1 TK
      go_upto_region 14 with fail
      obtain ⟨b9, hb9⟩ : ∃ b9, b9 = w4.heap.size := ⟨_, rfl⟩
      rw [← hb9] at X9 HB9 ⊢
      generalize w4.alloc (.cells #[.slice A3 2 c3] 24) = w5 at *
      clear hb9
      have s1 := cell_box1 X1.out
      have M := bal (brefl w5) (.cells #[.int .i64 7, .int .i64 4] 3)
      have EQ := hide (eq_at (w := w5.alloc (.cells #[.int .i64 7, .int .i64 4] 3)) (l := [7, 4]) (m := 2) (c1 := d2) (c2 := 2) (OI.out.below M).bi (bi_box (Box.new w5 3 #[.int .i64 7, .int .i64 4]) rfl) rfl (by omega))
      replace X1 := hide (X1.out.below M)
      replace X9 := hide (X9.out.below M)
      replace CA4 := hide (CA4.out.below M)
      replace CA5 := hide (CA5.out.below M)
      replace K := hide (btrans K.out M)
      clear M s1
      go_wp2_with fail
      refine EQ.out.mono ?_
      rintro e w6 ⟨rfl, hb⟩
      replace X1 := hide (X1.out.below hb)
      replace X9 := hide (X9.out.below hb)
      replace CA4 := hide (CA4.out.below hb)
      replace CA5 := hide (CA5.out.below hb)
      replace K := hide (btrans K.out hb)
      have CN := hide (count_at (z := 1) (er := 2) CA4.out (by apply sz_of <;> decide) aw_count.1)
      have s1 := cell_box1 X1.out
      clear hb EQ
      go_wp2_with fail
      refine CN.out.mono ?_
      rintro e w7 ⟨rfl, hb⟩
      replace X1 := hide (X1.out.below hb)
      replace X9 := hide (X9.out.below hb)
      replace CA4 := hide (CA4.out.below hb)
      replace CA5 := hide (CA5.out.below hb)
      replace K := hide (btrans K.out hb)
      have CK := hide (check_at (z := 2) (er := 0) CA4.out (by apply sz_of <;> decide) aw_count.2)
      clear hb CN s1
      have s1 := cell_box1 X1.out
      go_wp2_with fail
      refine CK.out.mono ?_
      rintro e w8 ⟨rfl, hb⟩
      replace X9 := hide (X9.out.below hb)
      replace CA5 := hide (CA5.out.below hb)
      replace K := hide (btrans K.out hb)
      clear hb CK s1 X1 CA4
      have s9 := cell_box1 X9.out
      have M := bal (brefl w8) (.cells #[.int .i64 2, .int .i64 3] 3)
      have RF := hide (refill_at (w := w8.alloc (.cells #[.int .i64 2, .int .i64 3] 3)) (C := [[], [9]]) (C' := [[], [9, 3, 2]]) (n' := 2) (z := 1) (fs := [2, 3]) (m := 2) (cf := 2) (er := 0) (CA5.out.below M) (by apply sz_of <;> decide) (bi_box (Box.new w8 3 #[.int .i64 2, .int .i64 3]) rfl) rfl (by omega) (by omega) aw_refill.1 aw_refill.2 rfl)
      unfold Pc.A2 at RF
      replace X9 := hide (X9.out.below M)
      replace K := hide (btrans K.out M)
      clear M CA5
      go_wp2_with fail
      refine RF.out.mono ?_
      rintro e w9 ⟨A4, c4, rfl, ca4, hb⟩
      replace X9 := hide (X9.out.below hb)
      replace K := hide (btrans K.out hb)
      have KP := Kp.boxset X9.out HB9.out 0 (.slice A4 2 c4)
      have CA6 := hide (ca4.kp KP)
      clear s9 hb ca4 RF KP
      have s9 := cell_box1 X9.out
      have f9 := X9.out.frozen 0
      replace K := hide (bset K.out (p := ⟨b9, 0, none⟩) HB9.out (.slice A4 2 c4))
      replace X9 := hide (X9.out.put 0 (.slice A4 2 c4))
      go_upto_region 17 with fail
      generalize w9.setCell ⟨b9, 0, none⟩ (.slice A4 2 c4) = w10 at *
      clear s9 f9
      replace X9 := hide (show Box w10 b9 24 #[.slice A4 2 c4] from X9.out)
      have s9 := cell_box1 X9.out
      have TK := hide (take_at (w := w10) (C := [[], [9, 3, 2]]) (C' := [[], [9, 3]]) (n' := 2) (z := 1) (f := 2) (er := 0) CA6.out (by apply sz_of <;> decide) aw_take2.1 aw_take2.2.1 aw_take2.2.2 rfl)
      unfold Pc.A3 at TK
      go_wp2_with fail
      refine TK.out.mono ?_
      rintro e w11 ⟨A5, c5, rfl, ca5, hb⟩
      replace X9 := hide (X9.out.below hb)
      replace K := hide (btrans K.out hb)
      have KP := Kp.boxset X9.out HB9.out 0 (.slice A5 2 c5)
      have CA7 := hide (ca5.kp KP)
      clear s9 hb ca5 TK KP CA6
      have s9 := cell_box1 X9.out
      have f9 := X9.out.frozen 0
      replace K := hide (bset K.out (p := ⟨b9, 0, none⟩) HB9.out (.slice A5 2 c5))
      replace X9 := hide (X9.out.put 0 (.slice A5 2 c5))
      go_upto_region 18 with fail
      generalize w11.setCell ⟨b9, 0, none⟩ (.slice A5 2 c5) = w12 at *
      clear s9 f9
      replace X9 := hide (show Box w12 b9 24 #[.slice A5 2 c5] from X9.out)
      have s9 := cell_box1 X9.out
      have DR := hide (drain_at (w := w12) (C := [[], [9, 3]]) (C' := [[], []]) (n' := 2) (l := [9, 3]) (m := 2) (z := 1) (er := 0) CA7.out (by apply sz_of <;> decide) aw_drain.1 aw_drain.2.1 aw_drain.2.2 rfl rfl)
      unfold AB at DR
      go_wp2_with fail
      refine DR.out.mono ?_
      rintro e w13 ⟨A6, c6, D6, d6, rfl, ca6, _, hd6, oi6, hb⟩
      have M1 := bal (brefl w13) (.cells #[.slice A6 2 c6] 24)
      have M2 := bal M1 (.cells #[.int .i64 9, .int .i64 3] 3)
      have EQ := hide (eq_at (w := (w13.alloc (.cells #[.slice A6 2 c6] 24)).alloc (.cells #[.int .i64 9, .int .i64 3] 3)) (l := [9, 3]) (m := 2) (c1 := d6) (c2 := 2) (oi6.below M2).bi (bi_box (Box.new (w13.alloc (.cells #[.slice A6 2 c6] 24)) 3 #[.int .i64 9, .int .i64 3]) rfl) rfl (by omega))
      rw [alloc_size'] at EQ
      replace K := hide (btrans (btrans K.out hb) M2)
      clear M1 M2 hb ca6 oi6 s9 DR CA7
      go_wp2_with fail
      refine EQ.out.mono ?_
      rintro e w14 ⟨rfl, hb⟩
      replace K := hide (btrans K.out hb)
      clear hb EQ
      go_wp2_with fail
      go_ret
      exact ⟨rfl, K.out⟩
    · omega
end Go.Proofs.Ytinoddpdfknkbab.Pc
