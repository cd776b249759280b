import Derived.Test.YtncjicggolmofaaAw
namespace Go.Proofs.Ytncjicggolmofaa.Sb
open Go Go.RowKit
set_option linter.unusedVariables false
set_option linter.unusedSimpArgs false
theorem box_bi {w : World} {g : Nat} {l : Is} (h : Box w g 3 (l.map ic).toArray) : Bi w (some ⟨g, 0, none⟩) l := fun _ => ⟨g, 0, rfl, h.lt, fun k hk => by
  rw [Nat.zero_add, h.cell, List.getElem?_toArray, List.getElem?_map, List.getElem?_eq_getElem hk, List.getD_eq_getElem?_getD, List.getElem?_eq_getElem hk]; rfl⟩
set_option maxRecDepth 100000 in
set_option maxHeartbeats 16000000 in
theorem awake_any (w : World) : Calls Try.prog 13 #[] w fun e w' => e = .returned (.bool true) ∧ Below w.heap.size w w' := by
  have C1 := hide (new_any 4 w)
  rw [show nwO 4 = 4 from rfl, show nwE 4 = 0 from rfl] at C1
  go_enter Try.func13, Try.ntmps13
  go_wp2_with fail
  refine C1.out.mono ?_
  rintro e w1 ⟨rfl, K⟩
  replace K := hide K
  clear C1
  have M := bal (brefl w1) (.cells #[.int .i64 4, .slice none 0 0] 24)
  have X1 := hide (Box.new w1 24 #[.int .i64 4, .slice none 0 0])
  replace K := hide (btrans K.out M)
  clear M
  go_upto_region 2 with fail
  obtain ⟨g1, hg1⟩ : ∃ g, g = w1.heap.size := ⟨_, rfl⟩
  rw [← hg1] at X1 ⊢
  clear hg1
  generalize w1.alloc (.cells #[.int .i64 4, .slice none 0 0] 24) = w2 at *
  have M := bal (brefl w2) (.cells #[.int .i64 9, .int .i64 3] 3)
  have C := hide (aw1 _ w2.heap.size (Box.new w2 3 #[.int .i64 9, .int .i64 3]))
  obtain ⟨x0, x1⟩ : w2.cell? ⟨g1, 0, none⟩ = some (.int .i64 4) ∧ w2.cell? ⟨g1, 1, none⟩ = some (.slice none 0 0) := ⟨X1.out.cell 0, X1.out.cell 1⟩
  replace K := hide (btrans K.out M)
  replace X1 := hide (X1.out.below M)
  clear M
  go_wp2_with fail
  refine C.out.mono ?_
  rintro e w3 ⟨A3, c3, A4, c4, rfl, hR, hI, hb⟩
  replace K := hide (btrans K.out hb)
  replace X1 := hide (X1.out.below hb)
  clear hb x0 x1 C
  have M := bal (brefl w3) (.cells #[.int .i64 4, .slice A3 2 c3] 24)
  have X3 := hide (Box.new w3 24 #[.int .i64 4, .slice A3 2 c3])
  replace K := hide (btrans K.out M)
  replace X1 := hide (X1.out.below M)
  have R3 := hide (hR.below M)
  have I4 := hide (hI.below M)
  clear M hR hI
  go_upto_region 3 with fail
  obtain ⟨g3, hg3⟩ : ∃ g, g = w3.heap.size := ⟨_, rfl⟩
  rw [← hg3] at X3 ⊢
  clear hg3
  generalize w3.alloc (.cells #[.int .i64 4, .slice A3 2 c3] 24) = w4 at *
  obtain ⟨x0, x1⟩ : w4.cell? ⟨g3, 0, none⟩ = some (.int .i64 4) ∧ w4.cell? ⟨g3, 1, none⟩ = some (.slice A3 2 c3) := ⟨X3.out.cell 0, X3.out.cell 1⟩
  have C := hide (acc_any A3 c3 aS1 w4 R3.out (by decide) (fun k hk => us_4 (by decide) hk))
  rw [e2.1, e2.2.1, e2.2.2.1] at C
  go_wp2_with fail
  refine C.out.mono ?_
  rintro e w5 ⟨rfl, hb⟩
  replace K := hide (btrans K.out hb)
  replace X1 := hide (X1.out.below hb)
  replace X3 := hide (X3.out.below hb)
  replace R3 := hide (R3.out.below hb)
  replace I4 := hide (I4.out.below hb)
  clear hb x0 x1 C
  go_upto_region 4 with fail
  obtain ⟨x0, x1⟩ : w5.cell? ⟨g3, 0, none⟩ = some (.int .i64 4) ∧ w5.cell? ⟨g3, 1, none⟩ = some (.slice A3 2 c3) := ⟨X3.out.cell 0, X3.out.cell 1⟩
  have C := hide (awF 2 aS1 aS2 rfl 13 (-1) w5 A3 c3 R3.out rfl e3 (by decide) (fun k hk => us_4 (by decide) hk) (by omega))
  go_wp2_with fail
  refine C.out.mono ?_
  rintro e w6 ⟨A6, c6, rfl, hR, hb⟩
  replace K := hide (btrans K.out hb)
  replace X1 := hide (X1.out.below hb)
  replace I4 := hide (I4.out.below hb)
  clear hb x0 x1 C X3 R3
  have M := bal (brefl w6) (.cells #[.int .i64 4, .slice A6 2 c6] 24)
  have X6 := hide (Box.new w6 24 #[.int .i64 4, .slice A6 2 c6])
  replace K := hide (btrans K.out M)
  replace X1 := hide (X1.out.below M)
  replace I4 := hide (I4.out.below M)
  have R6 := hide (hR.below M)
  clear M hR
  go_upto_region 5 with fail
  obtain ⟨g6, hg6⟩ : ∃ g, g = w6.heap.size := ⟨_, rfl⟩
  rw [← hg6] at X6 ⊢
  clear hg6
  generalize w6.alloc (.cells #[.int .i64 4, .slice A6 2 c6] 24) = w7 at *
  obtain ⟨x0, x1⟩ : w7.cell? ⟨g6, 0, none⟩ = some (.int .i64 4) ∧ w7.cell? ⟨g6, 1, none⟩ = some (.slice A6 2 c6) := ⟨X6.out.cell 0, X6.out.cell 1⟩
  have C := hide (aw4 w7 A6 c6 R6.out)
  go_wp2_with fail
  refine C.out.mono ?_
  rintro e w8 ⟨A8, c8, A9, c9, rfl, hR, hI, hb⟩
  replace K := hide (btrans K.out hb)
  replace X1 := hide (X1.out.below hb)
  replace I4 := hide (I4.out.below hb)
  clear hb x0 x1 C X6 R6
  have M := bal (brefl w8) (.cells #[.int .i64 4, .slice A8 2 c8] 24)
  have X8 := hide (Box.new w8 24 #[.int .i64 4, .slice A8 2 c8])
  replace K := hide (btrans K.out M)
  replace X1 := hide (X1.out.below M)
  replace I4 := hide (I4.out.below M)
  have R8 := hide (hR.below M)
  have I9 := hide (hI.below M)
  clear M hR hI
  go_upto_region 6 with fail
  obtain ⟨g8, hg8⟩ : ∃ g, g = w8.heap.size := ⟨_, rfl⟩
  rw [← hg8] at X8 ⊢
  clear hg8
  generalize w8.alloc (.cells #[.int .i64 4, .slice A8 2 c8] 24) = w9 at *
  obtain ⟨x0, x1⟩ : w9.cell? ⟨g8, 0, none⟩ = some (.int .i64 4) ∧ w9.cell? ⟨g8, 1, none⟩ = some (.slice A8 2 c8) := ⟨X8.out.cell 0, X8.out.cell 1⟩
  have C := hide (awF 2 aS3 aS4 rfl 36 (-1) w9 A8 c8 R8.out rfl e5 (by decide) (fun k hk => us_4 (by decide) hk) (by omega))
  go_wp2_with fail
  refine C.out.mono ?_
  rintro e w10 ⟨A10, c10, rfl, hR, hb⟩
  replace K := hide (btrans K.out hb)
  replace X1 := hide (X1.out.below hb)
  replace I4 := hide (I4.out.below hb)
  replace I9 := hide (I9.out.below hb)
  clear hb x0 x1 C X8 R8
  have M := bal (brefl w10) (.cells #[.int .i64 4, .slice A10 2 c10] 24)
  have X10 := hide (Box.new w10 24 #[.int .i64 4, .slice A10 2 c10])
  replace K := hide (btrans K.out M)
  replace X1 := hide (X1.out.below M)
  replace I4 := hide (I4.out.below M)
  replace I9 := hide (I9.out.below M)
  have R10 := hide (hR.below M)
  clear M hR
  go_upto_region 7 with fail
  obtain ⟨g10, hg10⟩ : ∃ g, g = w10.heap.size := ⟨_, rfl⟩
  rw [← hg10] at X10 ⊢
  clear hg10
  generalize w10.alloc (.cells #[.int .i64 4, .slice A10 2 c10] 24) = w11 at *
  obtain ⟨x0, x1⟩ : w11.cell? ⟨g10, 0, none⟩ = some (.int .i64 4) ∧ w11.cell? ⟨g10, 1, none⟩ = some (.slice A10 2 c10) := ⟨X10.out.cell 0, X10.out.cell 1⟩
  have C := hide (awF 1 aS4 aS5 rfl 37 9 w11 A10 c10 R10.out rfl e6 (by decide) (fun k hk => us_4 (by decide) hk) (by omega))
  go_wp2_with fail
  refine C.out.mono ?_
  rintro e w12 ⟨A12, c12, rfl, hR, hb⟩
  replace K := hide (btrans K.out hb)
  replace X1 := hide (X1.out.below hb)
  replace I4 := hide (I4.out.below hb)
  replace I9 := hide (I9.out.below hb)
  clear hb x0 x1 C X10 R10 hR
  have M := bal (brefl w12) (.cells #[.int .i64 4, .slice A12 1 c12] 24)
  replace K := hide (btrans K.out M)
  replace X1 := hide (X1.out.below M)
  replace I4 := hide (I4.out.below M)
  replace I9 := hide (I9.out.below M)
  clear M
  go_upto_region 8 with fail
  generalize w12.alloc (.cells #[.int .i64 4, .slice A12 1 c12] 24) = w13 at *
  obtain ⟨x0, x1⟩ : w13.cell? ⟨g1, 0, none⟩ = some (.int .i64 4) ∧ w13.cell? ⟨g1, 1, none⟩ = some (.slice none 0 0) := ⟨X1.out.cell 0, X1.out.cell 1⟩
  have C := hide (need_any none 0 aS0 5 w13 (fun x => absurd rfl x) (by omega) (by decide) (fun k hk => absurd hk (Nat.not_lt_zero _)))
  rw [e2.2.2.2.1] at C
  go_wp2_with fail
  refine C.out.mono ?_
  rintro e w14 ⟨rfl, hb⟩
  replace K := hide (btrans K.out hb)
  replace I4 := hide (I4.out.below hb)
  replace I9 := hide (I9.out.below hb)
  clear hb x0 x1 C X1
  have M := bal (brefl w14) (.cells #[.int .i64 12, .int .i64 13, .int .i64 14, .int .i64 15, .int .i64 36] 3)
  have C := hide (equal_any A4 (some ⟨w14.heap.size, 0, none⟩) c4 5 [12, 13, 14, 15, 36] [12, 13, 14, 15, 36] _ (I4.out.below M) (box_bi (l := [12, 13, 14, 15, 36]) (Box.new w14 3 #[.int .i64 12, .int .i64 13, .int .i64 14, .int .i64 15, .int .i64 36])) (by decide))
  rw [decide_eq_true rfl] at C
  replace K := hide (btrans K.out M)
  replace I9 := hide (I9.out.below M)
  clear M I4
  go_wp2_with fail
  refine C.out.mono ?_
  rintro e w15 ⟨rfl, hb⟩
  replace K := hide (btrans K.out hb)
  replace I9 := hide (I9.out.below hb)
  clear hb C
  have M := bal (brefl w15) (.cells #[.int .i64 13, .int .i64 37] 3)
  have C := hide (equal_any A9 (some ⟨w15.heap.size, 0, none⟩) c9 2 [13, 37] [13, 37] _ (I9.out.below M) (box_bi (l := [13, 37]) (Box.new w15 3 #[.int .i64 13, .int .i64 37])) (by decide))
  rw [decide_eq_true rfl] at C
  replace K := hide (btrans K.out M)
  clear M I9
  go_wp2_with fail
  refine C.out.mono ?_
  rintro e w16 ⟨rfl, hb⟩
  replace K := hide (btrans K.out hb)
  clear hb C
  have C := hide (check_any none 0 ⟨33, []⟩ w16 (fun x => absurd rfl x) (by decide) (fun k hk => absurd hk (Nat.not_lt_zero _)))
  rw [e2.2.2.2.2] at C
  go_wp2_with fail
  refine C.out.mono ?_
  rintro e w17 ⟨rfl, hb⟩
  replace K := hide (btrans K.out hb)
  clear hb C
  go_wp2
  go_ret
  exact ⟨rfl, K.out⟩
end Go.Proofs.Ytncjicggolmofaa.Sb
